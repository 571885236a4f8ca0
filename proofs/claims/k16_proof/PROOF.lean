import PyProof.Rows.All
import Wide.All
import OpenK.AllK
import Wide.FinOn
import PyProof.EqAt
import PyProof.EqKinds
import PyProof.NeKinds
import PyProof.TupleCall
import PyProof.StrLawsRepr
import KE.KIsAll
import KE.KItem
import KE.KDictOf
import KE.KBytesAny
import KE.KDictList
import Lean
import PySem.Challenge.RW_gapwork_k16_whole_named_otherwise
set_option compiler.extract_closed false
set_option bootstrap.genMatcherCode false
set_option genInjectivity false
set_option genSizeOf false
local macro_rules|`(tactic|decide)=>`(tactic|decide +kernel)
local macro_rules|`(tactic|exists$e)=>do
 let[v,H,Q,E,h,c,A,o,s,r]:=[`vs,`H,`Q,`E,`h,`cdv,`A,`outer,`s,`hr].map Lean.mkIdent|Lean.Macro.throwUnsupported
 `(tactic|refine $e (fun $v $H $Q $E $h=>?_) (fun $c $A $o $s $H $v $Q $E $r $h=>?_))
local macro_rules|`(⇑$x)=>`(($x).length)
local macro_rules|`(∅)=>`(by decide)
local macro_rules|`($f:ident[$n:num]!)=>do
 if f.getId.toString.length<2 then Lean.Macro.throwUnsupported
 let u<-`(_)
 let a:=Array.replicate n.getNat u
 `(@$f $a*)
local macro_rules|`(tactic|left)=>`(tactic|(show _=_;kernel_rfl))
local macro_rules|`(tactic|ac_rfl)=>`(tactic|exact⟨rfl,rfl,rfl,by decide,rfl,by decide,by decide⟩)
local macro_rules|`(())=>`(by omega)
open Lean in
def rP:Nat->Syntax->MacroM (TSyntax `rcasesPat)
 |0,_=>Macro.throwUnsupported
 |n+1,s=>match s with
  |`(($a,$b,*))=>do
   let x<-rP n a
   let y<-b.getElems.mapM fun z=>rP n z
   let x:=#[x]++y
   `(rcasesPat|⟨$[$x:rcasesPat],*⟩)
  |`(_)=>`(rcasesPat|_)
  |`($i:ident)=>`(rcasesPat|$i:ident)
  |_=>Macro.throwUnsupported
local macro_rules|`(tactic|have($a,$b,*):=$e)=>do
 let x<-rP 9 a
 let y<-b.getElems.mapM fun z=>rP 9 z
 let x:=#[x]++y
 `(tactic|obtain⟨$[$x:rcasesPat],*⟩:=$e)
theorem ξ02{A B G:Prop}:(A/\B)->(A->B->G)->G|⟨a,b⟩,z=>z a b
theorem ξ03{A B C G:Prop}:(A/\B/\C)->(A->B->C->G)->G|⟨a,b,c⟩,z=>z a b c
theorem ξ04{A B C D G:Prop}:(A/\B/\C/\D)->(A->B->C->D->G)->G|⟨a,b,c,d⟩,z=>z a b c d
theorem ξ11{A:α->Prop}{G:Prop}:(∃a,A a)->(∀a,A a->G)->G|⟨a,b⟩,z=>z a b
theorem ξ12{A B:α->Prop}{G:Prop}:(∃a,A a/\B a)->(∀a,A a->B a->G)->G|⟨a,b,c⟩,z=>z a b c
theorem ξ13{A B C:α->Prop}{G:Prop}:(∃a,A a/\B a/\C a)->(∀a,A a->B a->C a->G)->G|⟨a,b,c,d⟩,z=>z a b c d
theorem ξ14{A B C D:α->Prop}{G:Prop}:(∃a,A a/\B a/\C a/\D a)->(∀a,A a->B a->C a->D a->G)->G|⟨a,b,c,d,e⟩,z=>z a b c d e
theorem ξ21{A:α->β->Prop}{G:Prop}:(∃a b,A a b)->(∀a b,A a b->G)->G|⟨a,b,c⟩,z=>z a b c
theorem ξ22{A B:α->β->Prop}{G:Prop}:(∃a b,A a b/\B a b)->(∀a b,A a b->B a b->G)->G|⟨a,b,c,d⟩,z=>z a b c d
theorem ξ23{A B C:α->β->Prop}{G:Prop}:(∃a b,A a b/\B a b/\C a b)->(∀a b,A a b->B a b->C a b->G)->G|⟨a,b,c,d,e⟩,z=>z a b c d e
theorem ξ24{A B C D:α->β->Prop}{G:Prop}:(∃a b,A a b/\B a b/\C a b/\D a b)->(∀a b,A a b->B a b->C a b->D a b->G)->G|⟨a,b,c,d,e,f⟩,z=>z a b c d e f
theorem ξ31{A:α->β->γ->Prop}{G:Prop}:(∃a b c,A a b c)->(∀a b c,A a b c->G)->G|⟨a,b,c,d⟩,z=>z a b c d
theorem ξ32{A B:α->β->γ->Prop}{G:Prop}:(∃a b c,A a b c/\B a b c)->(∀a b c,A a b c->B a b c->G)->G|⟨a,b,c,d,e⟩,z=>z a b c d e
theorem ξ33{A B C:α->β->γ->Prop}{G:Prop}:(∃a b c,A a b c/\B a b c/\C a b c)->(∀a b c,A a b c->B a b c->C a b c->G)->G|⟨a,b,c,d,e,f⟩,z=>z a b c d e f
theorem ξ34{A B C D:α->β->γ->Prop}{G:Prop}:(∃a b c,A a b c/\B a b c/\C a b c/\D a b c)->(∀a b c,A a b c->B a b c->C a b c->D a b c->G)->G|⟨a,b,c,d,e,f,g⟩,z=>z a b c d e f g
open Lean in
local macro_rules|`(tactic|obtain⟨$p,*⟩:=$h:term)=>do
  let p:Array (TSyntax ``Parser.Tactic.rcasesPatLo):=p
  let n:=p.size
  if n<2 then Macro.throwUnsupported
  let q<-p.mapM λx=>do
   let y<-`(rcasesPat|($x))
   let y:=if x.raw[0][0].getNumArgs==1 then ⟨x.raw[0][0][0]⟩ else y
   `(rintroPat|$y:rcasesPat)
  let i:Ident:=⟨h⟩
  let d:=h.raw.isIdent
  let c<-if d then `(tactic|try clear $i) else `(tactic|skip)
  let mut r:Array (TSyntax ``Parser.Tactic.tacticSeq):=#[]
  for k in [3,2,1,0] do
   for m in [4,3,2,1] do
    if k+m<=n&&k+m>1 then
     let j:=k+m-1
     let a:=q.extract 0 j
     let b:=p.extract j n
     let e:=mkIdent (.mkSimple s!"ξ{k}{m}")
     r:=r.push (<-if b.size==1 then `(tacticSeq|(with_reducible refine $e $h ?_);$c;rintro $a* $(q[j]!)) else `(tacticSeq|(with_reducible refine $e $h ?_);$c;rintro $a* o;obtain⟨$b,*⟩:=o))
  if !(d&&i.getId.hasMacroScopes&&i.getId.eraseMacroScopes==`q) then
   for e in [<-`(Exists _),<-`(And _ _)] do
    r:=r.push (<-`(tacticSeq|have q : ($e) := $h;$c;obtain⟨$p,*⟩:=q))
  `(tactic|first $[|$r]*|rcases $h:term with⟨$p,*⟩)
open Lean in
local macro_rules|`(tactic|rintro $p*)=>do
  for i in [:p.size] do
   if let `(rintroPat|⟨$x,*⟩):=p[i]! then
    if x.getElems.size>1 then
     let a:=p.extract 0 i
     let b:=p.extract (i+1) p.size
     let m<-`(tactic|(intro o;obtain⟨$x,*⟩:=o))
     let m<-if i==0 then pure m else `(tactic|(rintro $a*;$m))
     return<-if b.size==0 then pure m else `(tactic|($m;rintro $b*))
  Macro.throwUnsupported
local macro_rules|`(#[$x,*])=>if x.elemsAndSeps.size<2||x.elemsAndSeps.size%2==0 then Lean.Macro.throwUnsupported else `(⟨$x,*⟩)
local macro_rules|`(tactic|omega)=>`(tactic|first|lia|omega +splitDisjunctions)
local macro_rules|`(tactic|let $d:letDecl)=>`(tactic|have $d:letDecl)
local macro_rules|`(let $d:letDecl;$b)=>`(have $d:letDecl;$b)
local macro_rules|`(command|def $i:declId $s:optDeclSig:=$v)=>if s.raw[1].getNumArgs==0 then Lean.Macro.throwUnsupported else `(command|theorem $i $(⟨.node .none `Lean.Parser.Command.declSig (#[s.raw[0]].push s.raw[1][0])⟩):declSig:=$v)
set_option Elab.async false
set_option linter.all false
set_option maxRecDepth 100000
local macro_rules|`(tactic|rfl')=>`(tactic|with_unfolding_all rfl)
open Lean in
local macro_rules (kind:=Lean.Parser.Command.declaration)|s=>if (s[0][4].find? (·.isToken "meta")).isSome&&(s[1][1][0].getId.toString.splitOn "_aux").length==1 then return s.setArg 0 (s[0].setArg 4 (.node .none `null #[.node .none `Lean.Parser.Command.noncomputable #[.atom .none "noncomputable"]])) else Macro.throwUnsupported
local macro_rules|`(⋯)=>`(fun _ z=>nomatch z)
local macro_rules|`(tactic|calc $x:term)=>`(tactic|refine $x)
open Option renaming some->U,none->gV
open Bool renaming true->AD,false->AE
local macro_rules|`($f:ident $a)=>if f.getId==`MC then `(List $a) else if f.getId==`AF then `(Option $a) else Lean.Macro.throwUnsupported
open PySem renaming Str->AA,Addr->AB
local macro_rules|`($x⁻¹)=>`(($x).heap.objs.size)
open Array renaming length_toList->RW,getElem?_setIfInBounds_self_of_lt->TH,toList_append->Ua,mem_toList_iff->Vf,forIn_toList->VM,getElem?_eq_some_iff->VR,getElem?_toList->Xb,append_assoc->XR,find?_toList->XS
open Bool renaming false_ne_true->Qf,and_eq_true->QJ,false_eq_true->Ra,or_eq_true->Sm,eq_iff_iff->Tp,or_true->Vz,and_false->Xi
open False renaming elim->Rr
open Int renaming toNat_natCast->Rv,emod_lt_of_pos->VP,emod_nonneg->W8,ediv_one->Yb,zero_add->Yi
open LawfulBEq renaming eq_of_beq->Sd
open List renaming length_map->bM,getElem?_eq_some_iff->eF,map_append->i4,length_append->mu,getElem?_eq_getElem->pC,mem_singleton->vv,take_succ_eq_append_getElem->we,mem_append_right->xn,mem_append->zv,getElem?_map->EF,length_take->I0,mem_cons->P1,size_toArray->P4,mem_of_getElem?->P6,replicate->P7,mem_map->Qa,map_cons->Qd,take_length->Ql,map_map->Qm,length_cons->Qn,not_mem_nil->Qo,mem_append_left->Qx,mem_of_mem_take->Qy,getElem_mem->Qz,zipWith->QE,length_drop->QF,mem_map_of_mem->QI,lookup_cons->QK,getElem?_of_mem->QL,append_nil->QM,take_of_length_le->QO,drop_eq_getElem_cons->QV,all_eq_true->QY,getElem?_append_right->QZ,dropLast_eq_take->Q2,flatMap_append->Q4,mem_cons_of_mem->Q5,mem_of_mem_drop->Q7,getD_eq_getElem?_getD->Rg,getElem?_append_left->Ri,mem_of_find?_eq_some->Rk,length_zipWith->Rq,append_assoc->Rw,find?_cons->Rz,mem_flatMap->RB,replicate_succ->RD,map_take->RK,map_nil->RL,drop_length->RO,nodup_append->RU,filterMap_cons->RV,nodup_cons->RZ,of_mem_zip->R0,take_append_drop->R1,lookup->Sa,flatMap_cons->Sf,range->Si,nil_append->Sj,forIn_cons->Sl,length_reverse->Ss,find?_cons_of_pos->Sw,find?_cons_of_neg->Sx,mem_range->SG,mem_cons_self->SH,forIn_nil->SK,contains_cons->SM,eq_nil_or_concat->SN,reverse_cons->S1,flatten_cons->S2,cons_append->S9,getElem?_set_self->Te,drop_of_length_le->Tn,zip_cons_cons->To,length_nil->Tq,map_drop->Tt,getElem?_zipWith->Tu,take_sublist->Tw,getElem?_set_ne->TJ,dropLast_subset->TQ,getElem?_eq_none_iff->TY,any_cons->Uc,isPerm_iff->Ue,mem_replicate->Up,getElem?_take->Uq,length->Us,getElem?_replicate->Ut,pairwise_singleton->Uv,getElem?_cons_zero->Uy,length_eq_zero_iff->Uz,any_eq_false->UD,length_range->UP,length_replicate->UT,getElem?_eq_none->UY,length_filter_le->U4,concat_eq_append->U5,length_dropLast->Vg,dropLast_concat->Vl,length_set->Vn,range_succ->Vp,findSome?_cons->Vw,mem_filterMap->VD,foldl->VJ,take_zero->VS,find?_eq_none->VT,findSome?_eq_none_iff->VU,getElem?_drop->VW,map_singleton->VX,mem_or_eq_of_mem_set->V1,getElem?_zip_eq_some->V2,map_dropLast->Wa,isPerm->Wb,all_cons->Wk,getElem_map->WD,flatMap_nil->WG,zipWith_cons_cons->W0,mem_filter->W4,length_singleton->Xa,getElem_reverse->Xm,nodup_nil->Xp,map->Xr,getElem_toArray->Xu,map_congr_left->XA,reverse_append->XE,zipWith_append->XF,take_succ_cons->XH,filterMap_map->XW,pairwise_cons->X3,map_replicate->X5,Sublist->Yh,getElem_drop->Yj,zipIdx_cons->Ys,any_eq_true->Yt,map_flatMap->Yu,map_reverse->Yv
open List.Sublist renaming map->TX
open Nat renaming le_refl->u4,lt_of_lt_of_le->P8,zero_le->Qc,le_trans->Qq,ne_of_lt->Qs,le_of_lt->QB,le_succ->QT,lt_irrefl->Q8,le_add_right->RA,max_eq_left->Sq,lt_of_succ_lt_succ->Sz,le_of_ble_eq_true->SQ,min_eq_left->SW,min_self->S3,mul_le_mul_right->S4,lt_succ_self->S8,ne_of_gt->Tf,succ_le_succ->U9,lt_of_le_of_lt->VL,lt_succ_of_lt->V9,le_max_right->WA,min_eq_right->WH,le_of_eq->WO,succ_mul->WV,sub_self->WY,le_max_left->W6,min_le_left->W7,add_le_add_left->Xz,mul_le_mul_left->XG,not_lt->XY,le_total->Yc,le_succ_of_le->Yk,max_le->YI
open Ne renaming symm->RP
open Option renaming map_eq_some_iff->IF,map_some->Sk,bind_some->SE,bind_eq_some_iff->Ux,map_eq_none_iff->UO,isSome_map->V8,isSome_iff_exists->Wg,map_map->Xq,getD_none->Yo
open Option.some renaming inj->Qw,injEq->UK
open Prod.mk renaming inj->Xo
open PyProof.Rows renaming boot_tuple->Qg,envOfC->Qj,boot_isinstance->QD,slot_tuple_getitem->QH,boot_int->Rc,callWith_type1->Ru,boot_list->Sy,entry_tuple_getitem->Vt,AllBare->Vx,assignInOrder_cons->VC,args_tuple_getitem->VG,boot_sorted->Wm,Subscript_->WR,subscriptTail_builtinR->WS,boot_repr->W3,boot_sum->Xc,IntsAre->Xv,tupleItemsOf_->XM,subscriptTail->XN,IsTup->YD
open PyProof.Rows.IsTup renaming new->Wv
open PySem renaming wpAny_bind->bN,Value->eT,Shared->fy,sizeLine->my,wpAny_pure->rz,Program->L0,wpAny->PY,FuncData->PZ,model->P9,World->Qe,boot_len->Qh,Around->Qk,mainGlobals->Qp,wpAny_mono->Qu,wpAny_field->QC,wpAny_holding->QG,foldedSetIterable->QN,starEach->QS,wpAny_newObj_type->QW,wpAny_callSpecial?_slot->QX,sliceBounds->Rb,wpAny_seqItems->Rh,wpAny_call_entry->Rm,Scope->Rt,wpAny_Call_Name_kw->Rx,wpAny_standAt->Ry,mem_of_lookup->RC,Env->RJ,sysModules->RM,Builtin->RQ,codeAny->RS,compareOp->RX,letOwnedTupleGo->RY,wpAny_setField_rec->R4,IsPair->R5,wpAny_isInstance->R6,wpAny_loadPart_at->Sg,wpAny_attempt->SA,strKind->SD,binaryOp->SI,pyNext->SR,wpAny_passesOwn->SS,DictEntry->SV,wpAny_typeOf->SY,rawInt->S5,excClassObj->Td,codeAny_mono->Th,call_meets->Ti,wpAny_nextOf_list_item->Tj,attributeBase->Tr,wpAny_truthy_bool->Tv,sizeLine_eq->TL,NameKind->TM,valueAt->TV,wpAny_isSubtype_exc->T8,assignEach->Ug,Result->Uh,typeIs_int->Uj,tupleKind_room_in1->Ul,preSum->Ur,bootBuiltins->UB,backTo->UC,getItem->UI,ZipApart->UL,wpAny_setField->UN,plainObj_wpAny_Assign_Attribute->UR,cLine->US,wpAny_nextOf_list_end->UX,swapsWith->U6,wpAny_rule->U7,wpAny_call->U8,wpAny_onRaise->Vb,strLen_append->Vc,wpAny_updateSeq_pair->Vh,codeAny_call_builtin->Vi,unbindBehindTheSuite->Vj,wpAny_execs_nil->Vm,wpAny_ite_false->Vo,wpAny_loadPart'->Vr,codeAny_builtin->Vs,wpAny_dictSet_pairs->Vv,holding->Vy,assign->VB,wpAny_loadPart->VE,wpAny_newFunctionEnv_cells->VF,typeLookup->VH,sliceRange->VN,wpAny_binaryOp_repeat_ref->VZ,wpAny_pyIter_list->V4,wpAny_sequenceKey->V6,slot_list_getitem->V7,behindInMarks->Wd,IsPart->Wi,wpAny_getItem_list_slice->Wj,wpAny_comprehension_free->Wl,plainId_quiet->Ws,tupleKind->Wt,wpAny_execs_cons->Wu,noFill_tuple_add->Wx,wpAny_Call_method0_late->Wy,field->WB,IsZip->WC,wpAny_pyIter_zip->WJ,Within->WM,standAt->WN,codeAny_loop->WX,wpAny_mkText->WZ,codeAny_call_function->W9,bindName->Xd,wpAny_bindName->Xe,pyIter->Xf,subscripted->Xg,compTurn->Xj,wpAny_noted->Xk,isSubtype_stop->Xl,wpAny_tryCatch->Xs,callerA->Xw,noteFrame->Xx,evalArgs_none->Xy,assignInOrder->XI,seq_tuple_add->XJ,merged->XX,isInstance->XZ,BindsTo->X8,concat_meets->X9,nsFind->Yl,cellsFrom->Yn,slicePick->Yp,seqSlot_of->Yq,seqItems?->Yr,Model->Yw,atKey->Yx,getAttr->YA,Keyword->YB,OwnTail->YC,bindL->YE,bindC->YF,call->YG,stored->YH,Meets->YJ
open PySem.Around renaming under_plainId->TU,under->WQ
open PySem.Builtin.Dict renaming updateFrom->WL
open PySem.Builtin.List renaming listTooLong->S6
open PySem.Builtin.Slice renaming slicePlaces->Rj,sliceApplied->SJ,sliceAdjust->TZ,sliceFields->VY
open PySem.Builtin.SmallTypes renaming nextOf->Qt,ownedTupleIsFree->QA,ownedTupleHandOut->T3
open PySem.Builtin.Tuple renaming tupleExact->Q9,tupleItemsOf->TN,tupleTooMany->VO
open PySem.Calls renaming spliced_cons->Ui,callWith_builtin->UJ,Name_function_global->VA,spliced_nil->V5,evalArgs_plain->Xh
open PySem.Code renaming quiet_builtin->X0,isFrame->X7
open PySem.EntryCells renaming newEntry->XD
open PySem.F renaming slot_zip_next->Q0,slot_tuple_iterator_next->RT,slot_zip_getattribute->Sb,args_zip_next_1->Se,entry_zip_next->Su,slot_tuple_mul->Sv,plainAttrs_list->Tc,args_tuple_add_2->Ub,args_tuple_mul_2->Ud,slot_int_rmul->Uk,args_tuple_iterator_next_1->Um,entry_tuple_add->Uu,entry_tuple_mul->Uw,entry_tuple_iterator_next->UA,slot_tuple_add->UH,slot_dict_get->UW,plain_sum_loop->Va,slot_dict_itemiterator_iter->Vk,slot_dict_getitem->V0,slot_list_extend->Wq,type_list_extend->Wr,args_dict_get_3->Wz,slot_tuple_rmul->WE,attr_ValueError->WK,entry_dict_get->WW
open PySem.Heap renaming get?_push_of_some->u5,lt_size->P0,get?_push_size->P5,size_push->Q6,get?_update_other->Rl,get?_update_self->RH,SameBut->R9,get?_update_ne->T9,get?_none_of_le->Ve,ExtBut->Xn,get?_push_at->Ye
open PySem.Heap.DictOf renaming new->W5
open PySem.Heap.IsSliceOf renaming new->VI
open PySem.Heap.SameBut renaming update->XC
open PySem.Obj renaming mapFields->S7,data_mapFields->Uo,isFreed_of_fields->UZ,mapSeq->WU,cls_mapFields->Yd
open PySem.PassesOwn renaming never->QU
open PySem.PyData renaming keyHash->VQ
open PySem.SeqAt renaming EqAt->RN
open PySem.SeqAt.EqAt renaming int_str->XO,str_int->XQ
open PySem.Shared renaming TypeIs->Vd,heap->Yy
open PySem.Str renaming empty->Qi,ofString->Qv,length->WT
open PySem.Txt renaming slice->R7,mul->UM,slice_le->X4
open PySem.Value renaming isStrOf->Wc
open PySem.W renaming Frag->cB,findIn->Q3,emptyDict->RE,keepIn->R3,mg_none_of->R8,instObj->Sh,hasDictIn->Tg,mg_of->Tz,cellsFrom_some->UE,fnOf->UG,takerIn->UQ,kitOne->Vq,OpenLaw->Vu,methodObj->V3,lookIn->We,codeIn->Wh,plainGet->Ww,callWith_K->XT,codeRec_of->XU,plainOver->X6,looks_findIn->Yg,handedIn->Ym,makesIn->Yz,kitAny->YK,WalkO->YL
open Sum.inr renaming inj->SX
abbrev YM:MC PySem.Str:=["_law_feed_here","_law_scene","_law_around","_law_room","_law_down","_law_form","_law_share","_law_x","_law_y","_law_one","_law_other_here","_law_some","_law_name","_law_many_here"]
abbrev YN:MC PySem.Str:=["_law_feed_here","_law_room","_law_names_here","_law_kinds","_law_scene","_law_name","_law_tags","_law_told_here","_law_opens","_law_defs","_law_k","_law_params"]
abbrev YO:MC PySem.Str:=["_law_feed_here","_law_many_here"]
abbrev YQ:MC PySem.Str:=["_law_feed_here","_law_scene","_law_around","_law_room","_law_down"]
abbrev YR:MC PySem.Str:=["_law_script","_law_program","_law_words","_law_feed_here","_law_pool","_law_maps","_law_k","_law_turn","_law_asked","_law_other_here","_law_change","_law_one","_law_told_here","_law_mixed"]
abbrev YS:MC PySem.Str:=["_law_feed_here","_law_scene","_law_around","_law_share","_law_down","_law_name","_law_tags","_law_first","_law_arms","_law_t","_law_inner","_law_turn","_law_own"]
abbrev YT:MC PySem.Str:=["_law_program","_law_maps","_law_kinds","_law_name","_law_tags","_law_own","_law_defs","_law_f","_law_params","_law_term","_law_heads_here"]
abbrev YU:MC PySem.Str:=["_law_feed_here","_law_program","_law_words","_law_kinds","_law_defs","_law_word","_law_form","_law_at","_law_f","_law_params","_law_term","_law_fresh","_law_spot"]
abbrev YV:MC PySem.Str:=["_law_feed_here","_law_many_here","_law_letters","_law_stem","_law_first","_law_at","_law_turn","_law_kept","_law_found","_law_k","_law_sign","_law_name"]
abbrev YW:MC PySem.Str:=["_law_feed_here","_law_told_here","_law_word","_law_f","_law_params","_law_term","_law_form","_law_at","_law_x","_law_kind","_law_fresh"]
abbrev YX:MC PySem.Str:=["_law_feed_here","_law_told_here","_law_word","_law_name","_law_tags","_law_at","_law_t","_law_inner","_law_form","_law_spot"]
abbrev YY:MC PySem.Str:=["_law_feed_here","_law_term","_law_count","_law_words"]
abbrev YZ:MC PySem.Str:=["_law_feed_here","_law_names_here","_law_found","_law_at","_law_k","_law_own","_law_j","_law_some"]
abbrev Y0:MC PySem.Str:=["_law_term","_law_maps","_law_some","_law_arms","_law_arm","_law_inner"]
abbrev Y3:MC PySem.Str:=["_law_feed_here","_law_ahead","_law_opens"]
abbrev Y4:MC PySem.Str:=["_law_feed_here","_law_scene","_law_around","_law_share","_law_down"]
abbrev Y5:MC PySem.Str:=["_law_feed_here","_law_ahead","_law_opens","_law_form","_law_found","_law_turn"]
abbrev Y6:MC PySem.Str:=["_law_feed_here","_law_arms","_law_word","_law_form","_law_at","_law_t","_law_names_here","_law_inner"]
abbrev Y7:MC PySem.Str:=["_law_feed_here","_law_scene","_law_around","_law_form"]
abbrev Y8:MC PySem.Str:=["_law_x","_law_feed_here","_law_told_here","_law_opens"]
abbrev Y9:MC PySem.Str:=["_law_feed_here","_law_told_here","_law_word"]
abbrev Zu:MC PySem.Str:=["_law_one","_law_feed_here","_law_count","_law_words"]
abbrev Zv:MC PySem.Str:=["_law_kind","_law_maps"]
abbrev Zw:MC PySem.Str:=["_law_feed_here","_law_term","_law_words","_law_word","_law_n","_law_form","_law_some"]
abbrev Zx:MC PySem.Str:=["tag","name","inner"]
abbrev Zy:MC PySem.Str:=["name","tags","tag","inner"]
abbrev Zz:MC PySem.Str:=["_law_term"]
abbrev ZA:MC PySem.Str:=["_law_told_here","_law_names_here"]
abbrev ZC:MC PySem.Str:=["params","term","told","waiting","names","here"]
abbrev ZD:MC PySem.Str:=["_law_term","_law_some"]
abbrev ZE:MC PySem.Str:=["_law_program","_law_caught","_law_found","e","_law_sorts","_law_others"]
abbrev ZF:MC PySem.Str:=["_law_i","_law_feed_here","_law_names_here","_law_k"]
abbrev ZG:MC PySem.Str:=["program","kinds","defs","known","name","params","term","names","here"]
abbrev ZH:MC PySem.Str:=["_law_t","_law_inner","_law_maps"]
abbrev ZI:MC PySem.Str:=["tag","names","inner"]
abbrev ZJ:MC PySem.Str:=["_law_t","_law_names_here","_law_inner"]
abbrev ZK:MC PySem.Str:=["_law_x","_law_kind","_law_maps"]
abbrev ZL:MC PySem.Str:=["_law_feed_here","_law_program","_law_words"]
abbrev ZM:MC PySem.Str:=["arms","known","tag","names","inner","kind"]
abbrev ZN:MC PySem.Str:=["_law_feed_here","_law_scene","_law_around"]
abbrev ZO:MC PySem.Str:=["self","name"]
abbrev ZP:MC PySem.Str:=["kinds","ahead","tags_ahead","name","tags","tag","inner"]
abbrev ZQ:MC PySem.Str:=["_law_feed_here","_law_term","_law_words"]
abbrev ZR:MC PySem.Str:=["_law_feed_here","_law_word","_law_found","_law_turn"]
abbrev ZS:MC PySem.Str:=["self","program"]
abbrev ZT:MC PySem.Str:=["name","things","counts"]
abbrev ZU:MC PySem.Str:=["_law_feed_here","_law_word"]
abbrev ZV:MC PySem.Str:=["_law_term","_law_maps"]
abbrev ZW:MC PySem.Str:=["params","known","ahead","name","kind","core"]
abbrev ZX:MC PySem.Str:=["_law_j","_law_scene","_law_turn"]
abbrev ZY:MC PySem.Str:=["_law_program","_law_maps"]
abbrev ZZ:MC PySem.Str:=["_law_t","_law_inner"]
abbrev Z9:MC PySem.Str:=["_law_arm","_law_one"]
abbrev Γa:MC PySem.Str:=["others","inner","names"]
abbrev Γb:MC PySem.Str:=["_law_k","_law_feed_here","_law_letters"]
abbrev Γc:MC PySem.Str:=["_law_feed_here","_law_arms","_law_word"]
abbrev Γd:MC PySem.Str:=["_law_x","_law_kind"]
abbrev Γe:MC PySem.Str:=["_law_feed_here","_law_names_here"]
abbrev Γf:MC PySem.Str:=["program","kinds","defs"]
abbrev Γg:MC PySem.Str:=["names","others","other"]
abbrev Γh:MC PySem.Str:=["_law_name","_law_tags"]
abbrev Γi:MC PySem.Str:=["inner","ahead","kind","core"]
abbrev Γj:MC PySem.Str:=["term","names","known","form"]
abbrev Γk:MC PySem.Str:=["_law_feed_here","_law_room"]
abbrev Γl:MC PySem.Str:=["name","tags"]
abbrev Γm:MC PySem.Str:=["_law_program"]
abbrev Γn:MC PySem.Str:=["n","ahead"]
abbrev Γo:MC PySem.Str:=["_law_inner","_law_maps"]
abbrev Γp:MC PySem.Str:=["_law_script","_law_k"]
abbrev Γq:MC PySem.Str:=["term","names","known"]
abbrev Γr:MC PySem.Str:=["program"]
abbrev Γs:MC PySem.Str:=["_law_x","_law_maps"]
abbrev Γt:MC PySem.Str:=["name","other"]
abbrev Γu:MC PySem.Str:=["param","kind"]
abbrev Γv:MC PySem.Str:=["names"]
namespace L2
open PySem PySem.Spec PyProof.Rows
abbrev Key:=Sum Int AA
meta def sZ:Key->eT->Bool
 |.inl k,v=>Value.isInt k v
 |.inr x,v=>Wc x v
meta def Nv(w:Qe):Key->Int
 |.inl k=>hashInt k
 |.inr x=>hashStr w x
theorem eK :∀{k:Key}{v:eT},sZ k v=AD->(∃i t,k=Sum.inl i/\v=Value.int i t)\/(∃x t,k=Sum.inr x/\v=Value.str x t)
 |.inl i,v,h=>by
  let(t,e):=eT.isInt_shape (k:=i) (v:=v) h;calc .inl #[i,t,rfl,e]
 |.inr x,v,h=>by
  let(t,e):=eT.isStrOf_shape (x:=x) (v:=v) h;calc .inr #[x,t,rfl,e]
def BR (i:Int)(t:Tok):sZ (.inl i) (.int i t)=AD:=by simp[sZ,Value.isInt]
def BS (x:AA)(t:Tok):sZ (.inr x) (.str x t)=AD:=by simp[sZ,Wc]
def JF (a b:Int):decide ((Sum.inl a:Key)=Sum.inl b)=(a == b):=by
 by_cases e:a=b
 .subst e;simp
 .have h:¬(Sum.inl a:Key)=Sum.inl b:=λq=>e (Sum.inl.inj q);rw[decide_eq_false h];calc(beq_eq_false_iff_ne.mpr e).symm
def JG (a b:AA):decide ((Sum.inr a:Key)=Sum.inr b)=decide (a=b):=by
 by_cases e:a=b
 .subst e;simp
 .have h:¬(Sum.inr a:Key)=Sum.inr b:=λq=>e (SX q);rw[decide_eq_false h,decide_eq_false e]
def JH (a:Int)(b:AA):decide ((Sum.inl a:Key)=Sum.inr b)=AE:=decide_eq_false nofun
def JI (a:AA)(b:Int):decide ((Sum.inr a:Key)=Sum.inl b)=AE:=decide_eq_false nofun
meta def aW(prog:L0)(w:Qe):PySem.KeyKind prog w Key where
 is:=sZ
 hash:=Nv w
 inj:=λv a b m g=>by
  rcases eK m with⟨i,t,rfl,rfl⟩|⟨x,t,rfl,rfl⟩
  .rcases eK g with⟨j,u,rfl,e⟩|⟨y,u,rfl,e⟩
   .injection e with e1 _;rw[e1]
   .exact nomatch e
  .rcases eK g with⟨j,u,rfl,e⟩|⟨y,u,rfl,e⟩
   .exact nomatch e
   .injection e with e1 _;rw[e1]
 byValue:=λk v h=>by
  rcases eK h with⟨i,t,rfl,rfl⟩|⟨x,t,rfl,rfl⟩<;>rfl
 pyHash:=λd h=>by
  rcases eK d with⟨i,t,rfl,rfl⟩|⟨x,t,rfl,rfl⟩
  .exact wpAny_pyHash_int h
  .exact wpAny_pyHash_str h
 eqBool:=λl d h=>by
  rcases eK l with⟨i,t,rfl,rfl⟩|⟨x,t,rfl,rfl⟩
  .rcases eK d with⟨j,u,rfl,rfl⟩|⟨y,u,rfl,rfl⟩
   .rw[JF]at h;exact wpAny_eqBool_int h
   .rw[JH]at h;exact XO i t y u _ _ _ _ h
  .rcases eK d with⟨j,u,rfl,rfl⟩|⟨y,u,rfl,rfl⟩
   .rw[JI]at h;exact XQ x t j u _ _ _ _ h
   .rw[JG]at h;exact wpAny_eqBool_str h
 «strs»:=λk x t v h=>by
  rcases eK h with⟨i,u,rfl,e⟩|⟨y,u,rfl,e⟩
  .exact nomatch e
  .injection e with e1 _;subst e1
   cases v<;>rfl
def yu (prog:L0)(w:Qe)(i:Int)(t:Tok):(aW prog w).is (.inl i) (.int i t)=AD:=BR i t
def yw (prog:L0)(w:Qe)(x:AA)(t:Tok):(aW prog w).is (.inr x) (.str x t)=AD:=BS x t
set_option genInjectivity true in
inductive V where
 |gu|bl (b:Bool)|int (i:Int)|str (x:AA)|byt (b:Array UInt8)|flt (b:UInt64)|ref (a:AB)|ty (n:String)
 deriving DecidableEq
meta def RelV:V->eT->Prop
 |.gu,u=>u=Value.none
 |.bl b,u=>u=Value.bool b
 |.int i,u=>∃t,u=Value.int i t
 |.str x,u=>∃t,u=Value.str x t
 |.byt b,u=>∃t,u=Value.bytes b t
 |.flt b,u=>∃t,u=Value.float b t
 |.ref a,u=>u=Value.ref a
 |.ty n,u=>u=Value.type n
abbrev Vals:MC V->List eT->Prop:=Paired RelV
def Vals.length (r:Vals xs us):⇑xs=⇑us:=Paired.length r
theorem Vals.get :∀{xs:MC V}{us:List eT}{i:Nat}{x:V},Vals xs us->xs[i]?=U x->∃u,us[i]?=U u/\RelV x u
 |_,_,_,_,.nil,e=>by simp at e
 |_,_,0,_,.cons r _,e=>by simp at e;subst e;calc#[_,rfl,r]
 |_,_,i+1,x,.cons _ t,e=>by
  let(u,g,d):=Vals.get (i:=i) (x:=x) t (by simpa using e);calc#[u,by simpa using g,d]
theorem Vals.set (r:RelV x u):∀{xs:MC V}{us:List eT}(i:Nat),Vals xs us->Vals (xs.set i x) (us.set i u)
 |_,_,_,.nil=>.nil
 |_,_,0,.cons _ t=>.cons r t
 |_,_,i+1,.cons q t=>.cons q (Vals.set r i t)
theorem Vals.append :∀{xs ys:MC V}{us d:List eT},Vals xs us->Vals ys d->Vals (xs++ys) (us++d)
 |_,_,_,_,.nil,s=>s
 |_,_,_,_,.cons r t,s=>.cons r (Vals.append t s)
theorem Vals.take :∀{xs:MC V}{us:List eT}(n:Nat),Vals xs us->Vals (xs.take n) (us.take n)
 |_,_,0,_=>.nil
 |_,_,_+1,.nil=>.nil
 |_,_,n+1,.cons r t=>.cons r (Vals.take n t)
theorem Vals.drop :∀{xs:MC V}{us:List eT}(n:Nat),Vals xs us->Vals (xs.drop n) (us.drop n)
 |_,_,0,r=>r
 |_,_,_+1,.nil=>.nil
 |_,_,n+1,.cons _ t=>Vals.drop n t
def Vals.none_of :∀{xs:MC V}{us:List eT}{i:Nat},Vals xs us->xs[i]?=gV->us[i]?=gV:=λ{xs us i} r e=>by
 let g:=⇑r;let d:⇑xs<=i:=TY.mp e;calc TY.mpr ()
meta def lD:AF V->AF eT->Prop
 |some v,U u=>RelV v u
 |none,gV=>True
 |_,_=>False
meta def KV{d:Type}:MC (d×V)->MC (d×eT)->Prop:=Paired λ(p:d×V) (q:d×eT)=>p.1=q.1/\RelV p.2 q.2
meta def kV:Key->V
 |.inl i=>.int i
 |.inr x=>.str x
inductive HO where
 |Y (xs:MC V)
 |J (xs:MC V)
 |dK (kvs:MC (Key×V))|dT (kvs:MC (MC Key×V))
 |set (S:Int->Bool) (n:Nat)
 |ins (C dx:AB) (fs:MC (AA×V))
 |own (x:AB)
 |xd (fs:MC (AA×V))
 |met (f x:AB)
 |rng (lo hi:Int)
 |nT (o:Obj) (u:HO)
 |tbl (ps:Array eT)
 |ext (φ:Heap->Prop)
abbrev Hp:=AB->AF HO
meta def upd(H:Hp)(a:AB)(o:HO):Hp:=λb=>if b=a then U o else H b
def aj :upd H a o a=U o:=by unfold upd;rw[if_pos rfl]
def aB (h:b≠a):upd H a o b=H b:=by unfold upd;rw[if_neg h]
def jw {H:Hp}(h:H a=U o)(h':H b=U u)(d:o≠u):a≠b:=by
 intro e;subst e;rw[h]at h';calc d (Qw h')
def ay {H:Hp}(h:H a=U o)(h':H b=gV):a≠b:=by
 intro e;subst e;rw[h]at h';cases h'
section
variable (P:L0) (w:Qe)
meta def ON(h:Heap)(a:AB):Prop:=∃o,h.get? a=U o/\o.dict=gV
meta def eW(H:Hp)(h:Heap)(a:AB):HO->Prop
 |.Y e=>⇑e<=my/\∃(d:List eT) (n:Nat),Vals e d/\h.get? a=U {cls:=.type "list",data:=.seq d.toArray n}
 |.J e=>⇑e<=my/\∃d:List eT,Vals e d/\YD h a d.toArray/\ON h a
 |.dK kvs=>⇑kvs<=my/\(a == RM)=AE/\∃j,KV kvs j/\h.DictOf (aW P w) a j
 |.dT kvs=>⇑kvs<=my/\(a == RM)=AE/\∃e:MC (MC Key×AB×eT),
   Paired (λ(p:MC Key×V) (q:MC Key×AB×eT)=>p.1=q.1/\H q.2.1=U (.J (p.1.map kV))/\RelV p.2 q.2.2) kvs e /\
   ∃o r y,h.get? a=U o/\o.ExactDict/\o.data=.dict r y/\r.toList=e.map (entryOfKey (Wt (aW P w)))/\(e.map (·.1)).Nodup
 |.set S n=>h.SetOf (intKind P w) a S n
 |.ins C dx fs=>H dx=U (.own a)/\⇑fs<=1000/\dx≠a/\h.get? a=U (Sh C dx) /\
   ∃g,h.Ns1 dx g/\(∀f,lD (fs.lookup f) (g f))/\WM g (fs.map (·.1))
 |.own _=>∃o,h.get? a=U o
 |.xd fs=>∃g,h.Ns1 a g/\∀f,lD (fs.lookup f) (g f)
 |.rng lo hi=>∃t u v,h.get? a=U {cls:=.type "range",data:=.fields #[.int lo t,.int hi u,.int 1 v,]}
 |.nT o u=>h.get? a=U o/\eW H h a u
 |.tbl ps=>h.get? a=U {cls:=.none,data:=.fields ps}
 |.met f x=>h.get? a=U (V3 (.ref f) (.ref x))
 |.ext φ=>φ h/\(∃o,h.get? a=U o)/\∀m l:Heap,φ m->(∀o,m.get? a=U o->l.get? a=U o)->φ l
meta def nh(H:Hp)(h:Heap):Prop:=∀a o,H a=U o->eW P w H h a o
end
def eW.lt (x:eW P w H h a o):a<h.objs.size:=by
 cases o with
 |Y xs=>let(_,_,_,_,e):=x;calc P0 e
 |J xs=>let(_,_,_,p,_):=x;calc p.lt
 |dK kvs=>let(_,_,_,_,o,_,_,e,_):=x;calc P0 e
 |dT kvs=>let(_,_,_,_,o,_,_,e,_):=x;calc P0 e
 |set S n=>let(o,_,_,_,e,_):=x;calc P0 e
 |ins C dx fs=>let(_,_,_,e,_):=x;calc P0 e
 |own y=>let(_,e):=x;calc P0 e
 |xd fs=>let(_,(_,_,_,e,_),_):=x;calc P0 e
 |rng lo hi=>let(_,_,_,e):=x;calc P0 e
 |nT ob u=>let(e,_):=x;calc P0 e
 |tbl ps=>calc P0 (show h.get? a=U _ from x)
 |met f y=>calc P0 (show h.get? a=U _ from x)
 |ext φ=>let(_,(_,e),_):=x;calc P0 e
theorem Paired.FT {F G:e->d->Prop}:∀{l₁:List e}{l₂:List d},Paired F l₁ l₂->(∀a b,F a b->G a b)->Paired G l₁ l₂
 |_,_,.nil,_=>.nil
 |_,_,.cons r t,f=>.cons (f _ _ r) (Paired.FT t f)
def Paired.imp' {F G:e->d->Prop}(f:∀a b,F a b->G a b){l₁:List e}{l₂:List d}(r:Paired F l₁ l₂):Paired G l₁ l₂:=Paired.FT r f
def eW.stay (x:eW P w H h a o)(k:∀b u,(b=a\/H b=U (.own a))->h.get? b=U u->h'.get? b=U u)(ho:∀b,H b=U (.own a)->H' b=U (.own a))(ht:∀b xs,H b=U (.J xs)->H' b=U (.J xs)):eW P w H' h' a o:=by
 induction o with
 |Y xs=>let(z,m,n,r,e):=x;calc#[z,m,n,r,k _ _ (.inl rfl) e]
 |J xs=>let(z,m,r,(g,e,c),L,G,N):=x;calc#[z,m,r,#[g,k _ _ (.inl rfl) e,c],L,k _ _ (.inl rfl) G,N]
 |dK kvs=>let(z,y,J,r,g,j,l,e,c):=x;calc#[z,y,J,r,g,j,l,k _ _ (.inl rfl) e,c]
 |dT kvs =>
  let(z,y,xs,r,g,j,l,e,c):=x;calc#[z,y,xs,Paired.FT r λp q z=>#[z.1,ht _ _ z.2.1,z.2.2],g,j,l,k _ _ (.inl rfl) e,c]
 |set S n=>let(g,j,l,t,e,c):=x;calc#[g,j,l,t,k _ _ (.inl rfl) e,c]
 |ins C dx fs =>
  let(d,z,M,e,D,(B,j,l,G,c),r):=x;calc#[ho _ d,z,M,k _ _ (.inl rfl) e,D,#[B,j,l,k _ _ (.inr d) G,c],r]
 |own y=>let(g,e):=x;calc#[g,k _ _ (.inl rfl) e]
 |xd fs=>let(D,(B,j,l,e,c),r):=x;calc#[D,#[B,j,l,k _ _ (.inl rfl) e,c],r]
 |rng lo hi=>let(t,u,v,e):=x;calc#[t,u,v,k _ _ (.inl rfl) e]
 |nT g u ih=>let(e,q):=x;calc#[k _ _ (.inl rfl) e,ih q]
 |tbl ps =>
  let e:h.get? a=U {cls:=.none,data:=.fields ps}:=x;show h'.get? a=U {cls:=.none,data:=.fields ps};calc k a _ (.inl rfl) e
 |met f y =>
  let e:h.get? a=U (V3 (.ref f) (.ref y)):=x;show h'.get? a=U (V3 (.ref f) (.ref y));calc k a _ (.inl rfl) e
 |ext φ=>let(p,(o,e),I):=x;calc#[I _ _ p λo q=>k _ _ (.inl rfl) q,#[o,k _ _ (.inl rfl) e],I]
def nh.lt (x:nh P w H h)(e:H a=U o):a<h.objs.size:=(x a o e).lt
def nh.fresh (x:nh P w H h)(e:h.objs.size<=a):H a=gV:=by
 cases q:H a with
 |none=>rfl
 |some u=>calc absurd (P8 (x.lt q) e) (Q8 _)
def nh.kept (x:nh P w H h)(k:∀b u,h.get? b=U u->h'.get? b=U u):nh P w H h':=λa o e =>
 (x a o e).stay (λb u _ q=>k b u q) (λ_ q=>q) λ_ _ q=>q
def nh.laid (x:nh P w H h)(k:∀b u,h.get? b=U u->h'.get? b=U u)(j:h.objs.size<=a)(new:eW P w (upd H a o) h' a o):nh P w (upd H a o) h':=λb u e=>by
 let d:=x.fresh j
 by_cases g:b=a
 .subst g;rw[aj]at e;cases e;exact new
 .rw[aB g]at e;calc(x b u e).stay (λc v _ q=>k c v q) (λc q=>by rw[aB (ay q d)];calc q) λc l q=>by rw[aB (ay q d)];calc q
meta def Rd(H:Hp)(a:AB)(u:HO):Prop:=H a=U u\/∃o,H a=U (.nT o u)
def Rd.ok (r:Rd H a u)(x:nh P w H h):eW P w H h a u:=by
 rcases r with r|⟨o,r⟩
 .exact x a u r
 .have(_,q):=x a _ r;calc q
meta def LU:AF HO->Prop
 |some (.Y _)=>True
 |some (.dK _)=>True
 |some (.dT _)=>True
 |some (.set _ _)=>True
 |some (.ins _ _ _)=>True
 |some (.ext _)=>True
 |_=>False
def nh.write (ok:nh P w H h)(m:LU (H x))(B:e=x\/H e=U (.own x))(k:∀b u,b≠e->h.get? b=U u->h'.get? b=U u)(p:∃u,h'.get? e=U u)(new:eW P w (upd H x o') h' x o'):nh P w (upd H x o') h':=λb u q=>by
 let g:∀c y,H c=U (.own y)->c≠x:=λc y r z=>by subst z;rw[r]at m;exact m
 let j:∀c l,H c=U (.J l)->c≠x:=λc l r z=>by subst z;rw[r]at m;exact m
 by_cases o:b=x
 .subst o;rw[aj]at q;cases q;exact new
 .rw[aB o]at q
  by_cases d:b=e
  .have t:H b=U (.own x):=by
    rcases B with z|z
    .exact absurd (d.trans z) o
    .rw[d];exact z
   rw[q]at t;cases t;let(v,C):=p;exact#[v,by rw[d];calc C]
  .refine(ok b u q).stay (λc v hc r=>k c v ?_ r) (λc r=>by rw[aB (g c b r)];calc r) λc l r=>by rw[aB (j c l r)];exact r
   rcases hc with rfl|hc
   .exact d
   .rintro rfl;rcases B with z|z
    .exact g c b hc z
    .rw[hc]at z;cases z;calc o rfl
structure Un(fs ex:List AB) (H H':Hp) (h h':Heap):Prop where
 keep:∀b o,h.get? b=U o->H b=gV->b∉fs->b∉ex->h'.get? b=U o
 slot:∀b o,h.get? b=U o->H b=gV->b∈fs->b∉ex->∃sl,h'.get? b=U {o with slots:=sl}
 free:∀b o,h.get? b=U o->H b=gV->b∉ex->H' b=gV
 there:∀b o,h.get? b=U o->b∉ex->∃o',h'.get? b=U o'
 tups:∀b xs,H b=U (.J xs)->H' b=U (.J xs)
 frzs:∀b o u,H b=U (.nT o u)->H' b=U (.nT o u)
 tbls:∀b ps,H b=U (.tbl ps)->∃more,H' b=U (.tbl (ps++more))
def Un.any (u:Un fs ex H H1 h h1)(q:h.get? b=U d)(n:H b=gV)(g:b∉ex):∃l,h1.get? b=U {d with slots:=l}:=by
 by_cases j:b∈fs
 .exact u.slot b d q n j g
 .exact#[d.slots,u.keep b d q n j g]
def Un.trans (a:Un fs ex H H1 h h1)(b:Un fs ex H1 H2 h1 h2):Un fs ex H H2 h h2 where
 keep:=λc d q n m g=>b.keep c d (a.keep c d q n m g) (a.free c d q n g) m g
 slot:=λc d q n m g=>by
  let(z,j):=a.slot c d q n m g;let(p,t):=b.slot c _ j (a.free c d q n g) m g;exact#[p,t]
 free:=λc d q n g=>by
  let(r,j):=a.there c d q g;exact b.free c r j (a.free c d q n g) g
 there:=λc d q g=>by
  let(r,j):=a.there c d q g;exact b.there c r j g
 tups:=λc l q=>b.tups c l (a.tups c l q)
 frzs:=λc d l q=>b.frzs c d l (a.frzs c d l q)
 tbls:=λc u q=>by
  let(y,j):=a.tbls c u q;let(v,t):=b.tbls c _ j;calc#[y++v,by rw[t,XR]]
def Un.kept (k:∀b u,h.get? b=U u->h'.get? b=U u):Un fs ex H H h h' :=
 #[λb d q _ _ _=>k b d q,λb d q _ _ _=>#[d.slots,k b d q],λ_ _ _ n _=>n,λb d q _=>#[d,k b d q],λ_ _ q=>q,λ_ _ _ q=>q,λ_ g q=>#[#[],by rw[q];simp]]
def Un.refl :Un fs ex H H h h:=Un.kept λ_ _ q=>q
def Un.laid (k:∀b u,h.get? b=U u->h'.get? b=U u)(g:h.objs.size<=a)(hn:H a=gV):Un fs ex H (upd H a o) h h' where
 keep:=λb u q _ _ _=>k b u q
 slot:=λb u q _ _ _=>#[u.slots,k b u q]
 free:=λb u q n _=>by rw[aB (Qs (P8 (P0 q) g))];exact n
 there:=λb u q _=>#[u,k b u q]
 tups:=λb d q=>by rw[aB (ay q hn)];exact q
 frzs:=λb u d q=>by rw[aB (ay q hn)];exact q
 tbls:=λb j q=>#[#[],by rw[aB (ay q hn),q];simp]
def Un.write (g:LU (H x))(y:e=x\/H e=U (.own x))(k:∀b u,b≠e->h.get? b=U u->h'.get? b=U u)(l:∃u,h'.get? e=U u):Un fs ex H (upd H x o) h h':=by
 let m:∀b,H b=gV->b≠x:=λb n z=>by subst z;rw[n]at g;exact g
 let p:∀b,H b=gV->b≠e:=λb n z=>by
  subst z;rcases y with r|r
  .exact m b n r
  .rw[n]at r;cases r
 let j:∀b u,H b=U u->¬LU (U u)->b≠x:=λb u q v z=>by subst z;rw[q]at g;exact v g
 refine#[λb u q n _ _=>k b u (p b n) q,λb u q n _ _=>#[u.slots,k b u (p b n) q],λb u q n _=>by rw[aB (m b n)];exact n,λb u q _=>?_,
  λb t q=>by rw[aB (j b _ q λz=>z)];calc q,λb u t q=>by rw[aB (j b _ q λz=>z)];calc q,λb B q=>#[#[],by rw[aB (j b _ q λz=>z),q];simp]]
 by_cases d:b=e
 .subst d;exact l
 .exact#[u,k b u d q]
meta def Nd(h:Heap)(H:Hp):List AB:=(Si h.objs.size).filter λa=>(H a).isSome
meta def wF(h:Heap)(H:Hp):Heap:=PySem.W.hideAll h (Nd h H)
def BU (h:Heap)(H:Hp):(wF h H).objs.size=h.objs.size:=PySem.W.hideAll_size _ _
def Dl (e:h.get? b=U o)(n:H b=gV):(wF h H).get? b=U o :=
 PySem.W.hideAll_get _ e λd=>by
  let q:(H b).isSome=AD:=(W4.mp d).2;rw[n]at q;simp at q
def FU (e:(wF h H).get? b=U o):h.get? b=U o/\H b=gV:=by
 let d:h.get? b=U o:=PySem.W.of_hideAll (Nd h H) e;refine#[d,?_]
 cases q:H b with
 |none=>rfl
 |some x =>
  let g:b∈Nd h H:=W4.mpr #[SG.mpr (P0 d),by simp[q]];let z:(wF h H).get? b=gV:=PySem.W.hideAll_none (Nd h H) g;rw[z]at e;cases e
meta def FW(g h:Heap)(L:AB):MC (AB×Obj):=(Si h.objs.size).filterMap λa=>if a=L\/(g.get? a).isSome=AD then gV else(h.get? a).map λo=>(a,o)
meta def rest(g h:Heap)(L d:AB):MC (AB×Obj):=(FW g h L).filter λp=>decide (p.1≠d)
structure Mod(K:cB) (mg:AA->AF eT) (base:Heap):Prop where
 kin:K.In base
 glob:base.Ns Qp mg
 blt:∃mb,base.Ns builtinsNs mb/\∀x:AA,x≠"__name__"->mb x=UB x
 nolimit:base.NoLimit
structure Cx where
 prog:L0
 w:Qe
 K:cB
 mg:AA->AF eT
 base:Heap
 A:Qk
 N:List AA
 s₀:fy
 H₀:Hp
 env:Env
 outer:MC Env
 stack:MC Env
 ex:List AB
 fn:AA->Bool
 calm:Bool
 pn:MC (AB×Obj)
 xe:eT->fy->Prop
meta def frs(l:MC Env):List AB:=l.filterMap (·.frame)
meta abbrev Cx.fs(X:Cx):List AB:=frs X.outer
meta def LV(d:Rt)(x:AA):Prop:=d.names.lookup x=U .local\/d.names.lookup x=U .cell\/d.names.lookup x=U .free
meta def Loc(d:Rt)(x:AA):Prop:=d.names.lookup x=U .local\/d.names.lookup x=U .cell
meta def Look(d:Env)(h:Heap)(m:AA->AF eT)(x:AA)(u:eT):Prop :=
 (d.kindOf x=U .local/\m x=U u)\/((d.kindOf x=U .cell\/d.kindOf x=U .free)/\∃c,d.cells.lookup x=U c/\h.IsCell c (U u))
structure Cx.Ok(X:Cx):Prop where
 mod:Mod X.K X.mg X.base
 kind:X.env.scope.kind=.function
 glob:X.env.globals=Qp
 blt:X.env.builtins=builtinsNs
 above:X.s₀.heap.objs.size<=X.env.locals
 inj:∀x y c,X.env.cells.lookup x=U c->X.env.cells.lookup y=U c->x=y
 has:∀x,(X.env.kindOf x=U .cell\/X.env.kindOf x=U .free)->∃c,X.env.cells.lookup x=U c
 cab:∀x c,X.fn x=AD->X.env.cells.lookup x=U c->X.s₀.heap.objs.size<=c
 hd:X.calm=AD->X.A.handled=gV
 frames:X.A.frames=U X.stack
 stk:X.stack=X.outer\/(X.stack=X.env::X.outer/\X.env.frame=U X.env.locals)
 exf:∀b∈X.ex,b≠X.env.locals/\∀x c,X.env.cells.lookup x=U c->c≠b
 bs:∀b o,X.base.get? b=U o->X.s₀.heap.get? b=U o/\X.H₀ b=gV
 bsz:X.base.objs.size<=X.s₀.heap.objs.size
 noex:∀b o,X.base.get? b=U o->b∉X.ex
 exfs:∀b∈X.ex,b∉X.fs
 qL:X.s₀.heap.FunFrames X.base X.outer
 frf:∀b∈X.fs,X.H₀ b=gV
structure Inv(X:Cx) (pins:MC (AB×Obj)) (σ:MC (AF V)) (H:Hp) (s:fy):Prop where
 ok:X.Ok
 os:s.os=X.s₀.os
 bare:Vx s.gens
 base:Un X.fs X.ex X.H₀ H X.s₀.heap s.heap
 loc:∃m,s.heap.Ns X.env.locals m/\∀(i:Nat) (x:AA) (v:V),X.N[i]?=U x->σ[i]?=U (U v)->LV X.env.scope x->∃u,RelV v u/\Look X.env s.heap m x u
 cell:∀x c,X.env.cells.lookup x=U c->∃v,s.heap.IsCell c v
 free:H X.env.locals=gV
 freeC:∀x c,X.env.cells.lookup x=U c->H c=gV
 pin:∀p∈X.pn++pins,s.heap.get? p.1=U p.2/\H p.1=gV/\p.1≠X.env.locals/\p.1∉X.fs/\∀v,p.2.data≠.cell v
 hok:nh X.prog X.w H s.heap
 len:⇑σ=⇑X.N
def Cx.Ok.Nx {X:Cx}(ok:X.Ok)(e:X.base.get? b=U o):b∉X.fs:=λd=>by
 let:=(ok.qL.mem d).1;rw[e]at this;cases this
def Inv.bs (I:Inv X pins σ H s):∀b o,X.base.get? b=U o->s.heap.get? b=U o/\H b=gV:=λb o e =>
 #[I.base.keep b o (I.ok.bs b o e).1 (I.ok.bs b o e).2 (I.ok.Nx e) (I.ok.noex b o e),I.base.free b o (I.ok.bs b o e).1 (I.ok.bs b o e).2 (I.ok.noex b o e)]
def Inv.bk (I:Inv X pins σ H s):∀b o,X.base.get? b=U o->s.heap.get? b=U o:=λb o e=>(I.bs b o e).1
def Inv.mod (I:Inv X pins σ H s):Mod X.K X.mg X.base:=I.ok.mod
def Inv.tu (I:Inv X pins σ H s):X.K.In s.heap:=I.ok.mod.kin.keeps I.bk
def Inv.fr (I:Inv X pins σ H s):∃m,Fr X.base X.env.locals s.heap m :=
 let⟨m,hn,_⟩:=I.loc
 #[m,hn,I.bk,Qq I.ok.bsz I.ok.above]
def Inv.lt (I:Inv X pins σ H s):X.env.locals<s⁻¹:=let⟨_,hn,_⟩:=I.loc;hn.lt
def Inv.sz (I:Inv X pins σ H s):X.s₀.heap.objs.size<=s⁻¹:=Qq I.ok.above (QB I.lt)
def Inv.FY (I:Inv X pins σ H s)(h:s⁻¹<=a):a∉X.fs:=λe=>by
 let(_,o,d,_):=I.ok.qL.mem e;calc absurd (P8 (P0 d) (Qq I.sz h)) (Q8 _)
def Inv.FZ (I:Inv X pins σ H s):∀x c,X.env.cells.lookup x=U c->c≠X.env.locals:=λx c e z=>by
 let(v,o,j,hd):=I.cell x c e;let(m,(l,p,q,d,g,_),_):=I.loc;rw[z,d]at j;cases j;rw[g]at hd;cases hd
def Inv.qL (I:Inv X pins σ H s):s.heap.FunFrames X.base X.outer:=by
 let all:∀(l:MC Env),(∀b∈frs l,b∈X.fs)->X.s₀.heap.FunFrames X.base l->s.heap.FunFrames X.base l:=by
  intro l
  induction l with
  |nil=>intro _ _;trivial
  |cons env r ih =>
   intro m t;let(u,(L,o,d,q,p,hd),hr):=t;let j:L∈X.fs:=m L (by unfold frs;rw[RV,d];calc SH);let(v,e):=I.base.slot L o p (I.ok.frf L j) j λz=>I.ok.exfs L z j;exact#[u,#[L,_,d,q,e,hd],ih (λb g=>m b (by unfold frs;rw[RV,d];calc Q5 _ g)) hr]
 calc all X.outer (λ_ g=>g) I.ok.qL
def Inv.stack (I:Inv X pins σ H s):s.heap.FunFrames X.base X.stack:=by
 rcases I.ok.stk with e|⟨e,hf⟩
 .rw[e];exact I.qL
 .rw[e];let(m,d,_):=I.loc;calc .cons (by rw[I.ok.kind];decide) hf d ?_ I.qL;calc Ve (Qq I.ok.bsz I.ok.above)
def Inv.tF (I:Inv X pins σ H s):∀b∈frs X.stack,b∈X.env.locals::X.fs:=λb d=>by
 rcases I.ok.stk with e|⟨e,hf⟩
 .rw[e]at d;exact Q5 _ d
 .rw[e]at d;unfold frs at d;rw[RV,hf]at d;calc d
def Inv.wG (I:Inv X pins σ H s):∀b∈frs X.stack,H b=gV:=λb hb=>by
 rcases P1.mp (I.tF b hb)with e|hb
 .rw[e];exact I.free
 .have(_,o,d,_):=I.ok.qL.mem hb;calc I.base.free b o d (I.ok.frf b hb) λz=>I.ok.exfs b z hb
def Inv.step {ch:List AB}(I:Inv X pins σ H s)(hch:∀b∈ch,(b∈X.ex\/X.s₀.heap.objs.size<=b)/\b≠X.env.locals/\(∀x c,X.env.cells.lookup x=U c->c≠b)/\∀p∈X.pn++pins,p.1≠b)(keep:∀b o,b≠X.env.locals->b∉X.fs->b∉ch->s.heap.get? b=U o->H b=gV->h'.get? b=U o)(slot:∀b o,b≠X.env.locals->b∈X.fs->b∉ch->s.heap.get? b=U o->H b=gV->∃N,h'.get? b=U {o with slots:=N})(free:∀b o,b∉ch->s.heap.get? b=U o->H b=gV->H' b=gV)(there:∀b o,b∉ch->s.heap.get? b=U o->∃G,h'.get? b=U G)(tups:∀b xs,H b=U (.J xs)->H' b=U (.J xs))(frzs:∀b o u,H b=U (.nT o u)->H' b=U (.nT o u))(tbls:∀b ps,H b=U (.tbl ps)->∃more,H' b=U (.tbl (ps++more)))(ns:∀m,s.heap.Ns X.env.locals m->h'.Ns X.env.locals m)(hok:nh X.prog X.w H' h')(hg:Vx g'):
  Inv X pins σ H' {s with heap:=h',gens:=g',drawn:=d',toks:=t'}:=by
 let J:∀b o,X.s₀.heap.get? b=U o->b≠X.env.locals:=λb o e=>Qs (P8 (P0 e) I.ok.above)
 let y:∀b o,X.s₀.heap.get? b=U o->b∉X.ex->b∉ch:=λb o e g C=>by
  rcases(hch b C).1 with z|z
  .exact g z
  .exact absurd (P8 (P0 e) z) (Q8 _)
 let t:∀x c,X.env.cells.lookup x=U c->∀v,s.heap.IsCell c v->h'.IsCell c v:=λx c e v ⟨o,D,hd⟩=>by
  let j:c∉ch:=λz=>(hch c z).2.2.1 x c e rfl
  by_cases S:c∈X.fs
  .have(N,q):=slot c o (I.FZ x c e) S j D (I.freeC x c e);exact#[_,q,hd]
  .exact#[o,keep c o (I.FZ x c e) S j D (I.freeC x c e),hd]
 refine#[I.ok,I.os,hg,#[λb o e n C g=>?_,λb o e n C g=>?_,λb o e n g=>?_,λb o e g=>?_,λb xs e=>tups b xs (I.base.tups b xs e),λb o xs e=>frzs b o xs (I.base.frzs b o xs e),λb ps e=>?_],?_,λx c e=>?_,?_,λx c e=>?_,λp R=>?_,hok,I.len]
 .exact keep b o (J b o e) C (y b o e g) (I.base.keep b o e n C g) (I.base.free b o e n g)
 .have(N,B):=I.base.slot b o e n C g;let(M,L):=slot b _ (J b o e) C (y b o e g) B (I.base.free b o e n g);exact#[M,L]
 .have(G,B):=I.base.there b o e g;exact free b G (y b o e g) B (I.base.free b o e n g)
 .have(G,B):=I.base.there b o e g;exact there b G (y b o e g) B
 .have(gD,B):=I.base.tbls b ps e;let(T,L):=tbls b _ B;exact#[gD++T,by rw[L,XR]]
 .have(m,V,W):=I.loc;calc#[m,ns m V,λi x v B L Y=>?_];let(u,r,l):=W i x v B L Y;calc#[u,r,?_];rcases l with l|⟨k,c,e,z⟩
  .exact .inl l
  .exact .inr #[k,c,e,t x c e _ z]
 .have(v,z):=I.cell x c e;exact#[v,t x c e v z]
 .have(m,(o,_,_,D,_),_):=I.loc;exact free _ o (λz=>(hch _ z).2.1 rfl) D I.free
 .have(v,o,D,hd):=I.cell x c e;exact free c o (λz=>(hch c z).2.2.1 x c e rfl) D (I.freeC x c e)
 .have(e,n,Q,O,d):=I.pin p R;let j:p.1∉ch:=λz=>(hch p.1 z).2.2.2 p R rfl;calc#[keep p.1 p.2 Q O j e n,free p.1 p.2 j e n,Q,O,d]
def Inv.un (I:Inv X pins σ H s)(u:Un X.fs [] H H' s.heap h')(g:nh X.prog X.w H' h'):Inv X pins σ H' {s with heap:=h',toks:=t'}:=by
 let(m,(o,G,J,q,r),_):=id I.loc;let(B,y):=u.any q I.free (by simp)
 calc I.step (g':=s.gens) (d':=s.drawn) (ch:=[]) ⋯ (λb o _ j _ e n=>u.keep b o e n j (by simp)) (λb o _ j _ e n=>u.slot b o e n j (by simp)) (λb o _ e n=>u.free b o e n (by simp)) (λb o _ e=>u.there b o e (by simp)) u.tups u.frzs u.tbls (λD v=>by
  let(C,l,p,d,t):=v;rw[q]at d;cases d;calc#[_,l,p,y,t]) g I.bare
def Inv.call (I:Inv X pins σ H s)(u:Un (frs X.stack) ch H H' s.heap h')(j:nh X.prog X.w H' h')(C:Vx g')(hch:∀b∈ch,(b∈X.ex\/X.s₀.heap.objs.size<=b)/\b≠X.env.locals/\(∀x c,X.env.cells.lookup x=U c->c≠b)/\∀p∈X.pn++pins,p.1≠b):
  Inv X pins σ H' {s with heap:=h',gens:=g',drawn:=d',toks:=t'}:=by
 let(m,(o,M,N,v,r),_):=id I.loc;let(G,l):=u.any v I.free λz=>(hch _ z).2.1 rfl
 calc I.step (ch:=ch) hch (λb o l D d e n=>u.keep b o e n (λz=>(P1.mp (I.tF b z)).elim l D) d) (λb o _ _ d e n=>u.any e n d) (λb o d e n=>u.free b o e n d) (λb o d e=>u.there b o e d) u.tups u.frzs u.tbls (λL B=>by
  let(J,q,t,g,y):=B;rw[v]at g;cases g;calc#[_,q,t,l,y]) j C
def Inv.turned (I:Inv X pins σ H s)(k:∀b o,b≠it->s.heap.get? b=U o->h'.get? b=U o)(hn:H it=gV)(j:it≠X.env.locals)(h1:it∈X.ex\/X.s₀.heap.objs.size<=it)(h2:∀x c,X.env.cells.lookup x=U c->c≠it)(h3:∀p∈X.pn++pins,p.1≠it):Inv X pins σ H {s with heap:=h',toks:=t'}:=by
 let g:∀b u,H b=U u->b≠it:=λb u e z=>by rw[z,hn]at e;cases e
 refine I.step (g':=s.gens) (d':=s.drawn) (ch:=[it]) (λb y=>?_) (λb o _ _ d e _=>k b o (λz=>d (by simp[z])) e) (λb o _ _ d e _=>#[o.slots,k b o (λz=>d (by simp[z])) e]) (λ_ _ _ _ n=>n)
  (λb o d e=>#[o,k b o (λz=>d (by simp[z])) e]) (λ_ _ e=>e) (λ_ _ _ e=>e) (λb D e=>#[#[],by rw[e];simp]) (λm t=>?_) (λb u e=>?_) I.bare
 .have e:b=it:=by simpa using y
  subst e;exact#[h1,j,h2,h3]
 .have(o,B,C,l,r):=t;exact#[o,B,C,k _ o (RP j) l,r]
 .refine(I.hok b u e).stay (λc v d q=>k c v ?_ q) (λ_ q=>q) λ_ _ q=>q;rcases d with z|z
  .rw[z];exact g b u e
  .exact g c _ z
def Inv.tok (I:Inv X pins σ H s)(t:Nat):Inv X pins σ H {s with toks:=t}:=I.un (h':=s.heap) (t':=t) Un.refl I.hok
def Inv.kept (I:Inv X pins σ H s)(k:∀b u,s.heap.get? b=U u->h'.get? b=U u):Inv X pins σ H {s with heap:=h',toks:=t'}:=I.un (Un.kept k) (I.hok.kept k)
def Inv.laid (I:Inv X pins σ H s)(k:∀b u,s.heap.get? b=U u->h'.get? b=U u)(d:s⁻¹<=a)(new:eW X.prog X.w (upd H a o) h' a o):
  Inv X pins σ (upd H a o) {s with heap:=h',toks:=t'}:=I.un (Un.laid k d (I.hok.fresh d)) (I.hok.laid k d new)
def Inv.write (I:Inv X pins σ H s)(g:LU (H x))(j:e=x\/H e=U (.own x))(k:∀b u,b≠e->s.heap.get? b=U u->h'.get? b=U u)(d:∃u,h'.get? e=U u)(new:eW X.prog X.w (upd H x o) h' x o):Inv X pins σ (upd H x o) {s with heap:=h',toks:=t'}:=I.un (Un.write g j k d) (I.hok.write g j k d new)
def Inv.weak (I:Inv X pins σ H s)(d:⇑σ'=⇑σ)(w:∀(i:Nat) v,σ'[i]?=U (U v)->σ[i]?=U (U v)):Inv X pins σ' H s :=
 #[I.ok,I.os,I.bare,I.base,let⟨m,hn,hl'⟩:=I.loc;#[m,hn,λi x v j g e=>hl' i x v j (w i v g) e],I.cell,I.free,I.freeC,I.pin,I.hok,d.trans I.len]
def Inv.fJ (I:Inv X pins σ H s)(h:∀p∈d,s.heap.get? p.1=U p.2/\H p.1=gV/\p.1≠X.env.locals/\p.1∉X.fs/\∀v,p.2.data≠.cell v):Inv X d σ H s :=
 #[I.ok,I.os,I.bare,I.base,I.loc,I.cell,I.free,I.freeC,λp e=>(zv.mp e).elim (λz=>I.pin p (Qx _ z)) (h p),I.hok,I.len]
def lJ {N:List AA}(d:N.Nodup){i:Nat}(a:N[i]?=U x)(b:N[j]?=U x):i=j:=by
 let(m,g):=eF.mp a;let(l,e):=eF.mp b;calc(List.getElem_inj d).mp (g.trans e.symm)
def BV (I:Inv X pins σ H s)(hN:X.N.Nodup)(hi:X.N[i]?=U x)(B:Loc X.env.scope x)(r:RelV v u)(h:∀s',Inv X pins (σ.set i (U v)) H s'->(∃a,R9 a s.heap s'.heap/\(a=X.env.locals\/X.env.cells.lookup x=U a))->Q Unit.unit s')(hf:X.fn x=AD\/X.env.scope.names.lookup x=U .local:=by first|calc .inl rfl|calc .inr rfl|assumption):PY M A (storeName X.env x u) Q E s:=by
 let(m,hn,hl):=id I.loc;let T:(X.env.scope.kind == .class||(X.env.scope.kind == .module&&X.env.locals != X.env.globals))=AE:=by rw[I.ok.kind];rfl
 let G:i<⇑σ:=by rw[I.len];exact(eF.mp hi).1
 let FZ:=I.FZ
 let l:∀{a:AB}{h':Heap},(∃o,s.heap.get? a=U o/\H a=gV)->R9 a s.heap h'->nh X.prog X.w H h':=λ{a h'} ha g b ob e=>by
  let(_,_,C):=ha;calc(I.hok b ob e).stay (λc Y hc q=>(g.2 c ?_).trans q) (λ_ q=>q) λ_ _ q=>q;rintro rfl;rcases hc with rfl|hc
  .rw[C]at e;cases e
  .rw[C]at hc;cases hc
 rcases B with hk|hk
 .refine wpAny_storeName_local hk hn (λh' ab g=>?_) T;let(oL,_,_,aa,_):=id hn;refine h _ #[I.ok,I.os,I.bare,#[λb o e n O B=>?_,λb o e n O B=>?_,I.base.free,λb o e B=>?_,I.base.tups,I.base.frzs,I.base.tbls],#[_,ab,λj y v' t D e3=>?_],λy c e=>?_,I.free,I.freeC,λp hp=>?_,l #[oL,aa,I.free] g,by simpa using I.len] #[_,g,.inl rfl]
  .exact(g.2 b (Qs (P8 (P0 e) I.ok.above))).trans (I.base.keep b o e n O B)
  .have(sl,t):=I.base.slot b o e n O B;exact#[sl,(g.2 b (Qs (P8 (P0 e) I.ok.above))).trans t]
  .have(o',t):=I.base.there b o e B;exact#[o',(g.2 b (Qs (P8 (P0 e) I.ok.above))).trans t]
  .by_cases J:j=i
   .subst J;rw[hi]at t;cases t;rw[Te G]at D
    cases D
    exact#[u,r,.inl #[hk,by simp]]
   .rw[TJ (RP J)]at D;let(u',r',q):=hl j y v' t D e3;calc#[u',r',?_];rcases q with⟨k,e⟩|⟨k,c,e,z⟩
    .refine .inl #[k,?_];let:y≠x:=λe=>J (lJ hN t (e▸hi));simp[this,e]
    .exact .inr #[k,c,e,z.sameBut g (FZ y c e)]
  .have(Y,z):=I.cell y c e;exact#[Y,z.sameBut g (FZ y c e)]
  .have(e,n,Z,nf,d):=I.pin p hp;exact#[(g.2 p.1 Z).trans e,n,Z,nf,d]
 .have L:X.fn x=AD:=by
   rcases hf with z|z
   .exact z
   .rw[z]at hk;cases hk
  let(c,hc):=I.ok.has x (.inl hk);let(Y,z):=I.cell x c hc;calc wpAny_storeName_cell I.ok.kind hk hc z (λh' W g=>?_);let(oc,S,R):=id z;refine h {s with heap:=h'} #[I.ok,I.os,I.bare,#[λb o e n O B=>?_,λb o e n O B=>?_,I.base.free,λb o e B=>?_,I.base.tups,I.base.frzs,I.base.tbls],#[m,hn.sameBut g (RP (FZ x c hc)),λj y v' t D e3=>?_],λy c' e=>?_,I.free,I.freeC,λp hp=>?_,l #[oc,S,I.freeC x c hc] g,by simpa using I.len] #[c,g,.inr hc]
  .exact(g.2 b (Qs (P8 (P0 e) (I.ok.cab x c L hc)))).trans (I.base.keep b o e n O B)
  .have(sl,t):=I.base.slot b o e n O B;exact#[sl,(g.2 b (Qs (P8 (P0 e) (I.ok.cab x c L hc)))).trans t]
  .have(o',t):=I.base.there b o e B;exact#[o',(g.2 b (Qs (P8 (P0 e) (I.ok.cab x c L hc)))).trans t]
  .by_cases J:j=i
   .subst J;rw[hi]at t;cases t;rw[Te G]at D
    cases D
    exact#[u,r,.inr #[.inl hk,c,hc,W]]
   .rw[TJ (RP J)]at D;let(u',r',q):=hl j y v' t D e3;calc#[u',r',?_];rcases q with q|⟨k,c',e,z'⟩
    .exact .inl q
    .refine .inr #[k,c',e,z'.sameBut g ?_];rintro rfl;exact J (lJ hN t (I.ok.inj _ _ _ e hc▸hi))
  .by_cases gD:c'=c
   .subst gD;exact#[_,W]
   .have(w2,z2):=I.cell y c' e;exact#[w2,z2.sameBut g gD]
  .have(e,n,Z,nf,d):=I.pin p hp;calc#[(g.2 p.1 ?_).trans e,n,Z,nf,d];intro q;rw[q,S]at e;let q':oc=p.2:=Qw e;calc d Y (by rw[<-q'];calc R)
def lK (I:Inv X pins σ H s)(e:X.N.Nodup)(hi:X.N[i]?=U x)(d:Loc X.env.scope x)(r:RelV v u)(h:∀s',Inv X pins (σ.set i (U v)) H s'->Q Unit.unit s')(hf:X.fn x=AD\/X.env.scope.names.lookup x=U .local:=by first|calc .inl rfl|calc .inr rfl|assumption):PY M A (storeName X.env x u) Q E s :=
 BV I e hi d r (λs' g _=>h s' g) hf
def Inv.Jc (I:Inv X pins σ H s)(j:s'.os=s.os)(u:Un (frs X.stack) ch H H' s.heap s'.heap)(d:nh X.prog X.w H' s'.heap)(l:Vx s'.gens)(hch:∀b∈ch,(b∈X.ex\/X.s₀.heap.objs.size<=b)/\b≠X.env.locals/\(∀x c,X.env.cells.lookup x=U c->c≠b)/\∀p∈X.pn++pins,p.1≠b):Inv X pins σ H' s':=by
 let(h',g',d',t',g):=s';let e:g=s.os:=j;subst e;calc I.call (g':=g') (t':=t') (d':=d') u d l hch
abbrev XK:=eT->AF AB->Hp->Prop
abbrev St:=MC (AF V)
abbrev VK:=V->Hp->Prop
abbrev TE:=St->Hp->VK->Prop
abbrev TT:=St->Hp->(Bool->Hp->Prop)->Prop
abbrev TA:=St->Hp->(MC V->Hp->Prop)->Prop
structure Ends where
 nx:St->Hp->Prop
 rt:VK
 bk:St->Hp->Prop:=λ_ _=>False
 ct:St->Hp->Prop:=λ_ _=>False
abbrev TS:=Ends->St->Hp->Prop
meta def EP(X:Cx)(d:MC (AB×Obj))(g:St)(Q:VK)(u:eT)(s':fy):Prop:=∃v e,Inv X d g e s'/\RelV v u/\Q v e
meta def TP(X:Cx)(d:MC (AB×Obj))(g:St)(Q:Bool->Hp->Prop)(b:Bool)(s':fy):Prop:=∃e,Inv X d g e s'/\Q b e
meta def AP(X:Cx)(d:MC (AB×Obj))(j:St)(Q:MC V->Hp->Prop)(us:List eT)(s':fy):Prop:=∃e g,Inv X d j g s'/\Vals e us/\Q e g
meta def SP(X:Cx)(e:MC (AB×Obj))(D:Ends)(f:Flow)(s':fy):Prop :=
 match f with
 |.next=>∃d g,Inv X e d g s'/\D.nx d g
 |.brk=>∃d g,Inv X e d g s'/\D.bk d g
 |.cont=>∃d g,Inv X e d g s'/\D.ct d g
 |.ret u=>∃v d g,Inv X e d g s'/\RelV v u/\D.rt v g
meta def PE(X:Cx)(e:Expr)(t:TE):Prop :=
 ∀(d:MC (AB×Obj)) (s:fy) (g:St) (H:Hp) (Q:VK),Inv X d g H s->t g H Q->PY (P9 X.prog X.w) X.A (eval e X.env) (EP X d g Q) X.xe s
meta def PT(X:Cx)(e:Expr)(t:TT):Prop :=
 ∀(d:MC (AB×Obj)) (s:fy) (g:St) (H:Hp) (Q:Bool->Hp->Prop),Inv X d g H s->t g H Q->PY (P9 X.prog X.w) X.A (isTrue e X.env (eval e X.env)) (TP X d g Q) X.xe s
meta def PW(X:Cx)(e:Expr)(t:TT):Prop :=
 ∀(g:Sem eT) (d:MC (AB×Obj)) (s:fy) (j:St) (H:Hp) (Q:Bool->Hp->Prop),Inv X d j H s->t j H Q->PY (P9 X.prog X.w) X.A (isTrue e X.env g) (TP X d j Q) X.xe s
def PW.pt (h:PW X e t):PT X e t:=h _
meta def PA(X:Cx)(j:MC Expr)(t:TA):Prop :=
 ∀(g:Pos) (d:MC (AB×Obj)) (s:fy) (e:St) (H:Hp) (Q:MC V->Hp->Prop),Inv X d e H s->t e H Q->PY (P9 X.prog X.w) X.A (spliced (UC g (QS j X.env))) (AP X d e Q) X.xe s
meta def PS(X:Cx)(st:Stmt)(t:TS):Prop :=
 ∀(d:MC (AB×Obj)) (s:fy) (e:St) (H:Hp) (D:Ends),Inv X d e H s->t D e H->PY (P9 X.prog X.w) X.A (exec st X.env) (SP X d D) X.xe s
meta def rN(X:Cx)(st:MC Stmt)(t:TS):Prop :=
 ∀(d:MC (AB×Obj)) (s:fy) (e:St) (H:Hp) (D:Ends),Inv X d e H s->t D e H->PY (P9 X.prog X.w) X.A (execs st X.env) (SP X d D) X.xe s
def cQ {t:Sem d}{Q e:d->fy->Prop}(h:PY M A t Q E s)(g:∀a s,Q a s->e a s):PY M A t e E s:=Qu h g λ_ _ x=>x
meta def jD(i:Nat):TE:=λd H Q=>∃v,d[i]?=U (U v)/\Q v H
abbrev tC(v:V):TE:=λ_ H Q=>Q v H
def Dm (t:X.N[i]?=U x)(o:LV X.env.scope x)(hd:(x == ("__debug__":AA))=AE:=by decide)(g:(x == ("__classdict__":AA))=AE:=by decide):PE X (.Name x pos) (jD i):=by
 intro d s j H Q I h;let(v,e,h):=h;let(m,p,q):=I.loc;let(u,r,l):=q i x v t e o;let fin:EP X d j Q u s:=#[v,H,I,r,h];rcases l with⟨hk,hm⟩|⟨hk,c,hc,hcell⟩
 .exact wpAny_Name (wpAny_loadName_local I.ok.kind hk p hm fin) hd
 .rcases hk with hk|hk
  .exact wpAny_Name (wpAny_loadName_cell I.ok.kind hk hc hcell fin) hd
  .exact wpAny_Name (wpAny_loadName_free I.ok.kind hk hc hcell fin g) hd
def au {i j pos}:PE X (.Constant (.int i) j pos) (tC (.int i)):=λ_ _ _ H _ I h=>wpAny_Constant_int #[.int i,H,I.tok _,#[_,rfl],h]
def tG {b j pos}:PE X (.Constant (.bool b) j pos) (tC (.bl b)):=λ_ _ _ H _ I h=>Constant_bool #[.bl b,H,I,rfl,h]
def zU {j pos}:PE X (.Constant .none j pos) (tC .gu):=λ_ _ _ H _ I h=>Constant_none #[.gu,H,I,rfl,h]
def aC {x j pos}:PE X (.Constant (.str x) j pos) (tC (.str x)):=λ_ _ _ H _ I h=>Calls.Constant_str #[.str x,H,I.tok _,#[_,rfl],h]
meta def Gl(X:Cx)(x:AA):Prop:=X.env.kindOf x=U .globalImplicit
def pN (I:Inv X d e H s)(j:Gl X x)(g:X.mg x=U u)(h:Q u s)(hd:(x == ("__debug__":AA))=AE:=by decide):PY (P9 X.prog X.w) X.A (eval (.Name x pos) X.env) Q E s :=
 VA I.ok.kind j (Calls.loadGlobal_global (by rw[I.ok.glob];calc I.mod.glob.keeps I.bk) g h) hd
def ni (I:Inv X d e H s)(l:Gl X x)(j:X.mg x=gV)(g:UB x=U u)(h:Q u s)(hn:x≠"__name__":=by decide)(hd:(x == ("__debug__":AA))=AE:=by decide):PY (P9 X.prog X.w) X.A (eval (.Name x pos) X.env) Q E s:=by
 let(p,o,m):=I.mod.blt;calc VA I.ok.kind l (Calls.loadGlobal_builtin (by rw[I.ok.glob];calc I.mod.glob.keeps I.bk) j (by rw[I.ok.blt];calc o.keeps I.bk) ((m x hn).trans g) h) hd
def iI (e:Gl X x)(d:X.mg x=U u)(r:RelV v u)(hd:(x == ("__debug__":AA))=AE:=by decide):PE X (.Name x pos) (tC v) :=
 λ_ _ _ H _ I h=>pN I e d #[v,H,I,r,h] hd
def lX (g:Gl X x)(e:X.mg x=gV)(d:UB x=U u)(r:RelV v u)(hn:x≠"__name__":=by decide)(hd:(x == ("__debug__":AA))=AE:=by decide):PE X (.Name x pos) (tC v) :=
 λ_ _ _ H _ I h=>ni I g e d #[v,H,I,r,h] hn hd
meta def tB(t:TE):TT:=λd H Q=>t d H λx e=>∃c,x=.bl c/\Q c e
def qM {e:Expr}{t:TE}(h:PE X e t)(p:∀g,isTrue e X.env g=(do let v ←g;WN e.pos;Vy [v] (truthy v)):=by intro _;rfl):PT X e (tB t):=by
 intro j s l H Q I o;calc isTrue_plain (cQ (h j s l H _ I o) λv y ⟨x,u,r,m,q1⟩=>?_) (p _);let(d,rfl,q):=q1
 cases m
 calc Tv #[u,r,q]
abbrev OO(u:TT)(e:St)(Q:Bool->Hp->Prop):Bool->Hp->Prop:=λc d=>if c=AD then u e d Q else Q AE d
abbrev OP(u:TT)(e:St)(Q:Bool->Hp->Prop):Bool->Hp->Prop:=λc d=>if c=AD then Q AD d else u e d Q
abbrev Ny(t u:TT):TT:=λd H Q=>t d H (OO u d Q)
abbrev OQ(t u:TT):TT:=λd H Q=>t d H (OP u d Q)
meta def Nz(t:TT):TT:=λd H Q=>t d H λc e=>Q (!c) e
def iu {a:Expr}{pos:Pos}{tA:TT}(j:PT X a tA):PW X (.BoolOp .And [a] pos) tA:=by
 intro l d s g H Q I h;refine isTrue_and (cQ (j d s g H Q I h) λc m e=>?_)
 cases c with
 |true=>calc isTrue_and_nil e
 |false=>calc e
def qN {a:Expr}{pos:Pos}{tA:TT}(j:PT X a tA):PW X (.BoolOp .Or [a] pos) tA:=by
 intro l d s g H Q I h;refine isTrue_or (cQ (j d s g H Q I h) λc m e=>?_)
 cases c with
 |false=>calc isTrue_or_nil e
 |true=>calc e
def iY {a b:Expr}{pos:Pos}{tA tB':TT}{rest:MC Expr}(p:PT X a tA)(o:PW X (.BoolOp .And (b::rest) pos) tB'):PW X (.BoolOp .And (a::b::rest) pos) (Ny tA tB'):=by
 intro l d s e H Q I h;refine isTrue_and (cQ (p d s e H _ I h) λc m ⟨j,g,q1⟩=>?_)
 cases c with
 |true=>calc o l d m e j Q g q1
 |false=>calc#[j,g,q1]
def rO {a b:Expr}{pos:Pos}{tA tB':TT}{rest:MC Expr}(p:PT X a tA)(o:PW X (.BoolOp .Or (b::rest) pos) tB'):PW X (.BoolOp .Or (a::b::rest) pos) (OQ tA tB'):=by
 intro l d s e H Q I h;refine isTrue_or (cQ (p d s e H _ I h) λc m ⟨j,g,q1⟩=>?_)
 cases c with
 |true=>calc#[j,g,q1]
 |false=>calc o l d m e j Q g q1
def Dn {a:Expr}{pos:Pos}{tA:TT}(g:PT X a tA):PT X (.UnaryOp .Not a pos) (Nz tA):=by
 intro d s e H Q I h;calc isTrue_not (g d s e H (λc j=>Q (!c) j) I h)
meta def aV(K:cB)(H:Hp)(a:AB)(xs:MC V):Prop :=
 Rd H a (.Y xs) \/
  ∃(o:Obj) (d:Array eT) (n:Nat),K.lookup a=U o/\o.cls=.type "list"/\o.dict=gV/\o.data=.seq d n/\d.size<=my/\Vals xs d.toList
meta def b9(K:cB)(H:Hp)(a:AB)(xs:MC V):Prop :=
 Rd H a (.J xs) \/
  ∃(o:Obj) (d:Array eT) (n:Nat),K.lookup a=U o/\o.cls=.type "tuple"/\o.data=.seq d n/\d.size<=my/\Vals xs d.toList/\o.dict=gV
meta def NB:eT->AF V
 |.none=>U .gu
 |.bool b=>U (.bl b)
 |.int i _=>U (.int i)
 |.str x _=>U (.str x)
 |.bytes b _=>U (.byt b)
 |.float b _=>U (.flt b)
 |.ref a=>U (.ref a)
 |.type n=>U (.ty n)
 |_=>gV
def RelV.abs (r:RelV x u):NB u=U x:=by
 cases x with
 |gu=>cases r;rfl
 |bl _=>cases r;rfl
 |int _=>let(t,rfl):=r;rfl
 |str _=>let(t,rfl):=r;rfl
 |byt _=>let(t,rfl):=r;rfl
 |flt _=>let(t,rfl):=r;rfl
 |ref _=>cases r;rfl
 |ty _=>cases r;rfl
def RelV.inj (r:RelV x u)(q:RelV y u):x=y:=Qw (r.abs.symm.trans q.abs)
theorem Vals.inj :∀{xs ys:MC V}{us:List eT},Vals xs us->Vals ys us->xs=ys
 |_,_,_,.nil,.nil=>rfl
 |_,_,_,.cons r t,.cons r' t'=>by rw[r.inj r',Vals.inj t t']
def aV.of {K:cB}(h:H a=U (.Y xs)):aV K H a xs:=.inl (.inl h)
def b9.of {K:cB}(h:H a=U (.J xs)):b9 K H a xs:=.inl (.inl h)
def Inv.list (I:Inv X pins σ H s)(h:aV X.K H a xs):∃d:List eT,Vals xs d/\PlainL s.heap a d.toArray/\⇑xs<=my:=by
 rcases h with h|⟨o,d,n,hk,hc,hd,hs,hz,r⟩
 .have(z,d,n,r,e):=h.ok I.hok;exact#[d,r,#[_,n,e,rfl,rfl,rfl],z]
 .refine#[d.toList,r,#[o,n,I.tu a o hk,hc,hd,by simpa using hs],?_];let e:=⇑r;simp only[RW]at e;omega
def Inv.tuple (I:Inv X pins σ H s)(h:b9 X.K H a xs):∃d:List eT,Vals xs d/\YD s.heap a d.toArray/\⇑xs<=my:=by
 rcases h with h|⟨o,d,n,hk,hc,hs,hz,r,_⟩
 .have(z,d,r,p,_):=h.ok I.hok;exact#[d,r,p,z]
 .refine#[d.toList,r,#[o,I.tu a o hk,hc,n,by simpa using hs],?_];let e:=⇑r;simp only[RW]at e;omega
def Inv.yx (I:Inv X pins σ H s)(h:aV X.K H a xs)(h':aV X.K H a ys):xs=ys:=by
 let(j,r,(o,n,e,_,_,d),_):=I.list h;let(g,p,(q,t,l,_,_,m),_):=I.list h';rw[e]at l;cases l;rw[d]at m;injection m with d1 _;let:j=g:=by simpa using congrArg Array.toList d1
 subst this;calc r.inj p
def Inv.qO (I:Inv X pins σ H s)(h:b9 X.K H a xs)(h':b9 X.K H a ys):xs=ys:=by
 let(j,r,(o,e,_,n,d),_):=I.tuple h;let(g,p,(q,l,_,t,m),_):=I.tuple h';rw[e]at l;cases l;rw[d]at m;injection m with d1 _;let:j=g:=by simpa using congrArg Array.toList d1
 subst this;calc r.inj p
meta abbrev Cx.jE(X:Cx)(E:eT->fy->Prop):Cx:={X with xe:=E}
meta abbrev Cx.oS(X:Cx):Cx:=X.jE λ_ _=>False
def Cx.Ok.jE {X:Cx}(ok:X.Ok)(E:eT->fy->Prop):(X.jE E).Ok :=
 #[ok.mod,ok.kind,ok.glob,ok.blt,ok.above,ok.inj,ok.has,ok.cab,ok.hd,ok.frames,ok.stk,ok.exf,ok.bs,ok.bsz,ok.noex,ok.exfs,ok.qL,ok.frf]
def Cx.Ok.fL {X:Cx}(ok:(X.jE E).Ok):X.Ok :=
 #[ok.mod,ok.kind,ok.glob,ok.blt,ok.above,ok.inj,ok.has,ok.cab,ok.hd,ok.frames,ok.stk,ok.exf,ok.bs,ok.bsz,ok.noex,ok.exfs,ok.qL,ok.frf]
def Inv.jE (I:Inv X pins σ H s)(E:eT->fy->Prop):Inv (X.jE E) pins σ H s:=#[I.ok.jE E,I.os,I.bare,I.base,I.loc,I.cell,I.free,I.freeC,I.pin,I.hok,I.len]
def Inv.fL (I:Inv (X.jE E) pins σ H s):Inv X pins σ H s:=#[I.ok.fL,I.os,I.bare,I.base,I.loc,I.cell,I.free,I.freeC,I.pin,I.hok,I.len]
def SP.fL (h:SP (X.jE E) pins D f s'):SP X pins D f s':=by
 cases f with
 |next=>let(d,e,I,q):=h;calc#[d,e,I.fL,q]
 |brk=>let(d,e,I,q):=h;calc#[d,e,I.fL,q]
 |cont=>let(d,e,I,q):=h;calc#[d,e,I.fL,q]
 |ret u=>let(v,d,e,I,r,q):=h;calc#[v,d,e,I.fL,r,q]
def rN.oS {st:MC Stmt}(h:rN X.oS st t):rN X st t:=λpins s σ H D I d =>
 Qu (h pins s σ H D (I.jE _) d) (λ_ _ q=>q.fL) λ_ _ z=>Rr z
meta def Jd:TS:=λD d H=>D.nx d H
meta abbrev Ends.wn(D:Ends)(N:St->Hp->Prop):Ends:={D with nx:=N}
meta def bf(t u:TS):TS:=λD d H=>t (D.wn (u D)) d H
def kX :rN X [] Jd:=λ_ _ d H _ I h=>Vm #[d,H,I,h]
def eN {st:Stmt}{rest:MC Stmt}{t u:TS}(o:PS X st t)(m:rN X rest u):rN X (st::rest) (bf t u):=by
 intro d s j H D I h;refine Wu (cQ (o d s j H {D with nx:=u D} I h) λf l q=>?_)
 cases f with
 |next =>
  let(g,r,p,q):=q;calc m d l g r D p q
 |ret v=>calc q
 |brk=>calc q
 |cont=>calc q
def d7 {st:Stmt}{t:TS}(j:PS X st t):rN X [st] t:=by
 intro d s g H D I h;refine Wu (cQ (j d s g H D I h) λf l q=>?_)
 cases f with
 |next=>calc Vm q
 |ret v=>calc q
 |brk=>calc q
 |cont=>calc q
def Inv.quiet (I:Inv X d g H s):interactive X.env=AE:=by simp[interactive,I.ok.kind]
abbrev OR(d:St)(N:St->Hp->Prop):VK:=λ_ g=>N d g
abbrev LW(te:TE):TS:=λD d H=>te d H (OR d D.nx)
def F0 {e:Expr}{te:TE}{pos:Pos}(j:PE X e te)(hs:U6 e gV pos.line X.env=pure AE:=by rfl):PS X (.Expr e pos) (LW te):=by
 intro d s g H D I h;calc wpAny_Expr_any (cQ (j d s g H _ I h) λv o ⟨x,m,l,p,q1⟩=>#[g,m,l,q1]) I.quiet hs
abbrev JJ(te:TE):TS:=λD d H=>te d H D.rt
def eX {e:Expr}{te:TE}{pos:Pos}(l:PE X e te):PS X (.Return (U e) pos) (JJ te):=by
 intro d s g H D I h;calc wpAny_Return_some (cQ (l d s g H _ I h) λv p ⟨x,o,m,j,q1⟩=>#[x,g,o,m,j,q1])
abbrev OS(t u:TS)(D:Ends)(d:St):Bool->Hp->Prop:=λb g=>if b=AD then t D d g else u D d g
abbrev JK(c:TT)(t u:TS):TS:=λD d H=>c d H (OS t u D d)
def lN {t u:TS}{pos:Pos}{c:Expr}{a b:MC Stmt}{l:TT}(q:PT X c l)(v:rN X a t)(r:rN X b u):PS X (.If c a b pos) (JK l t u):=by
 intro g s j H D I h;refine wpAny_If (cQ (q g s j H _ I h) λd m ⟨p,o,q1⟩=>?_)
 cases d with
 |true=>calc v g m j p D o q1
 |false=>calc r g m j p D o q1
abbrev TG:=V->St->Hp->(St->Hp->Prop)->Prop
abbrev Ga:=MC V->St->Hp->(St->Hp->Prop)->Prop
meta def PG(X:Cx)(d:Expr)(t:TG):Prop :=
 ∀(e:MC (AB×Obj)) (s:fy) (j:St) (H:Hp) (v:V) (u:eT) (Q:St->Hp->Prop),Inv X e j H s->RelV v u->t v j H Q ->
  PY (P9 X.prog X.w) X.A (VB d X.env u) (λ_ m=>∃g l,Inv X e g l m/\Q g l) X.xe s
meta def LX(X:Cx)(o:MC Expr)(t:Ga):Prop :=
 ∀(d:MC (AB×Obj)) (s:fy) (g:St) (H:Hp) (j:MC V) (l:List eT) (Q:St->Hp->Prop),Inv X d g H s->Vals j l->t j g H Q ->
  PY (P9 X.prog X.w) X.A (XI ((Ug o X.env).map (·.2)) l) (λ_ p=>∃e m,Inv X d e m p/\Q e m) X.xe s
abbrev JL:=V->V->V->Hp->(Hp->Prop)->Prop
meta def LY(X:Cx)(t:JL):Prop :=
 ∀(d:MC (AB×Obj)) (s:fy) (e:St) (H:Hp) (o i v:V) (g j u:eT) (Q:Hp->Prop),Inv X d e H s->RelV o g->RelV i j->RelV v u->t o i v H Q ->
  PY (P9 X.prog X.w) X.A (setItem g j u) (λ_ m=>∃l,Inv X d e l m/\Q l) X.xe s
abbrev iZ(i:Nat):TG:=λv d H Q=>Q (d.set i (U v)) H
def lY {pos:Pos}{i:Nat}{x:AA}(j:X.N.Nodup)(hi:X.N[i]?=U x)(e:Loc X.env.scope x)(g:X.fn x=AD\/X.env.scope.names.lookup x=U .local:=by first|calc .inl rfl|calc .inr rfl|assumption):PG X (.Name x pos) (iZ i):=by
 intro d s m H v u Q I r h;calc wpAny_assign_Name (lK I j hi e r (λo l=>#[_,H,l,h]) g)
meta def JM:Ga:=λe d H Q=>e=[]/\Q d H
abbrev OT(u:Ga)(r:MC V)(Q:St->Hp->Prop):St->Hp->Prop:=λd e=>u r d e Q
meta def tH(t:TG)(u:Ga):Ga:=λe d H Q=>∃v r,e=v::r/\t v d H (OT u r Q)
def wH :LX X [] JM:=by
 intro d s g H j l Q I r h;let(e,h):=h;subst e
 cases r
 calc assignInOrder_nil #[g,H,I,h]
def pQ {e:Expr}{g:MC Expr}{t:TG}{u:Ga}(p:PG X e t)(o:LX X g u)(hs:(Ug (e::g) X.env).map (·.2)=VB e X.env::(Ug g X.env).map (·.2):=by rfl):LX X (e::g) (tH t u):=by
 intro d s l H B D Q I r h;let(v,C,q,h):=h;subst q
 cases r with
 |cons r rr =>
  rw[hs];calc VC (cQ (p d s l H _ _ _ I r h) λ_ m ⟨j,z,y,q1⟩=>?_);calc o d m j z _ _ Q y rr q1
meta def Gb(K:cB)(n:Nat)(t:Ga):TG:=λv e H Q=>∃a d,v=.ref a/\b9 K H a d/\⇑d=n/\t d e H Q
def JN (D:X.calm=AD)(h:LX X g t)(hn:⇑(Ug g X.env)=n:=by rfl)(hst:(Ug g X.env).findIdx? (·.1)=gV:=by rfl):PG X (.Tuple g k pos) (Gb X.K n t):=by
 intro d s l H v u Q I r j;let(a,p,J,B,C,j):=j;subst J
 cases r
 let(q,m,z,M):=I.tuple B;calc assign_Tuple_tuple (I.ok.hd D) z (by simp[hn,<-C,⇑m]) hst λG y=>?_;let L:Inv X d l H {s with heap:=G}:=I.kept (t':=s.toks) λb o e=>y b o (Qs (P0 e)) e;calc h d _ l H p _ Q L (by simpa using m) j
meta def NC(e g:TE)(t:JL):TG:=λv d H Q=>e d H λo m=>g d m λi l=>t o i v l λj=>Q d j
def oY (D:PE X o l)(hi:PE X i m)(hs:LY X t)(ha:∀v,VB (.Subscript o i pos) X.env v=(do
   let e ←Vy [v] (eval o X.env)
   let g ←Vy [v,e] (eval i X.env)
   WN pos
   Vy [v,e,g] (setItem e g v)
   release [v,e,g] []):=by intro _;rfl):PG X (.Subscript o i pos) (NC l m t):=by
 intro d s j H v u Q I r h;rw[ha];calc bN (QG (cQ (D d s j H _ I h) λe q ⟨x,O,L,z,q1⟩=>?_));calc bN (QG (cQ (hi d q j O _ L q1) λg p ⟨y,N,J,r2,C⟩=>?_));calc bN (Ry (bN (QG (cQ (hs d p j N x y v e g u _ J z r2 r C) λ_ R ⟨M,G,B⟩=>?_))));calc wpAny_release #[j,M,G,B]
abbrev Oo(g:TG)(d:St)(N:St->Hp->Prop):VK:=λx e=>g x d e N
abbrev wI(e:TE)(g:TG):TS:=λD d H=>e d H (Oo g d D.nx)
def zV {pos:Pos}{tg e:Expr}{l:TE}{g:TG}(t:PE X e l)(r:PG X tg g)(hs:swapsWithSole [tg] e pos.line X.env=pure AE:=by rfl)(p:swappedStores [tg] e X.env=pure gV:=by rfl)(h1:(Ug [tg] X.env).map (·.2)=[VB tg X.env]:=by rfl):PS X (.Assign [tg] e pos) (wI l g):=by
 intro d s j H D I h;calc wpAny_Assign_stores (cQ (t d s j H _ I h) λv m ⟨x,y,u,o,q1⟩=>?_) hs p;rw[h1];calc cQ (r d m j y x v _ u o q1) λ_ z q=>q
def lZ (r:X.N.Nodup)(hi:X.N[i]?=U x)(o:Loc X.env.scope x)(q:PE X e j)(hs:U6 e (U (.Name x d)) pos.line X.env=pure AE:=by rfl)(p:X.fn x=AD\/X.env.scope.names.lookup x=U .local:=by first|calc .inl rfl|calc .inr rfl|assumption):
  PS X (.Assign [.Name x d] e pos) (wI j (iZ i)):=by
 intro g s l H D I h;calc wpAny_Assign_Name (cQ (q g s l H _ I h) λv C ⟨y,z,u,m,q1⟩=>?_) hs;calc lK u r hi o m (λB t=>#[_,z,t,q1]) p
meta def ND(i j:Nat)(ta:TA):TS:=λD d H=>ta d H λe g=>∃v w,e=[v,w]/\D.nx ((d.set i (U v)).set j (U w)) g
def zW {pos:Pos}{i j:Nat}{x y:AA}{a b:Expr}{ta:TA}{t py pt:Pos}{kt k2 pt2}(R:X.calm=AD)(C:X.N.Nodup)(hi:X.N[i]?=U x)(Q:X.N[j]?=U y)(z:i≠j)(hx:X.env.scope.names.lookup x=U .local)(hy:X.env.scope.names.lookup y=U .local)(ha:PA X [a,b] ta)(hw:swappedStores [.Tuple [.Name x t,.Name y py] kt pt] (.Tuple [a,b] k2 pt2) X.env=pure (U [x,y]))(hs:swapsWithSole [.Tuple [.Name x t,.Name y py] kt pt] (.Tuple [a,b] k2 pt2) pos.line X.env=pure AE:=by rfl):
  PS X (.Assign [.Tuple [.Name x t,.Name y py] kt pt] (.Tuple [a,b] k2 pt2) pos) (ND i j ta):=by
 intro d s B H D I h;rw[exec_Assign_arm];calc bN (Ry ?_);rw[hs];calc bN (rz ?_);rw[if_neg ∅];calc bN (Tuple_ (cQ (ha _ d s B H _ I h) λL m ⟨Y,J,W,O,q1⟩=>?_));let(v,w,S,q1):=q1;subst S
 obtain⟨l,g,rfl,M,r⟩:∃l g,L=[l,g]/\RelV v l/\RelV w g:=by
  cases O with
  |cons p q =>
   cases q with
   |cons p' q' =>
    cases q'
    exact#[_,_,rfl,p,p']
 calc QW ?_ (by show 2<=my;decide);let V:Inv X d B J {m with heap:=m.heap.push {cls:=.type "tuple",data:=.seq [l,g].toArray}}:=W.kept (t':=m.toks) λb o e=>u5 _ e;rw[hw];calc bN (rz ?_);show PY (P9 X.prog X.w) X.A (do rule "assign.swapped-stores";let items ←unpackItems (.ref m⁻¹) 2 gV;XI [λv=>Xd X.env y v,λv=>Xd X.env x v] items.reverse;pure Flow.next) _ _ _;calc bN (U7 (bN (unpackItems_tuple (items:=#[l,g,]) (I.ok.hd R) (Wv m.heap _) λh' u=>?_)));let gD:=V.kept (h':=h') (t':=m.toks) λb o e=>u b o (Qs (P0 e)) e;show PY _ _ (XI [λv=>Xd X.env y v,λv=>Xd X.env x v] [g,l]>>=λ_=>pure Flow.next) _ _ _;calc bN (VC (Xe (lK gD C Q (.inl hy) r (λs2 T=>?_) (.inr hy))));calc VC (Xe (lK T C hi (.inl hx) M (λZ G=>assignInOrder_nil (rz ?_)) (.inr hx)));rw[List.set_comm _ _ (RP z)]at G;calc#[_,J,G,q1]
meta def JO(c:TT)(o:TS):TS:=λD d H=>∃W:Nat->St->Hp->Prop,(∃m,W m d H)/\∀m d H,W m d H ->
 c d H λb j=>if b=AD then ∃N:St->Hp->Prop,(∀e l,N e l->∃g,g < m/\W g e l)/\o {D with nx:=N,ct:=N,bk:=D.nx} d j else D.nx d j
def yy {pos:Pos}{c:Expr}{j:MC Stmt}{B:TT}{C:TS}(G:PassesOwn (P9 X.prog X.w) X.A X.env X.xe)(Z:PT X c B)(hb:rN X j C):PS X (.While c j [] pos) (JO B C):=by
 intro e s R H D I h;let(W,(Y,T),m):=h;calc wpAny_While (codeAny_whileLoop (λn V=>∃l Q,Inv X e l Q V/\W n l Q) ?_ Y #[R,H,I,T]);rintro n s1 ⟨g,O,I1,S⟩;refine SS G (cQ (Z e s1 g O _ I1 (m n g O S)) λb gD ⟨M,L,q⟩=>?_)
 cases b with
 |true =>
  let(N,J,q):=q;rw[if_pos rfl];refine SS G (cQ (hb e gD g M _ L q) λf s3 p=>?_)
  cases f with
  |next =>
   let(d,o,z,t):=p;let(u,y,r):=J d o t;calc#[u,y,d,o,z,r]
  |cont =>
   let(d,o,z,t):=p;let(u,y,r):=J d o t;calc#[u,y,d,o,z,r]
  |brk=>calc p
  |ret v=>calc p
 |false =>
  rw[if_neg Qf];calc Vm #[g,M,L,q]
structure It where
 go:Nat->Hp->Prop
 yld:Nat->Hp->V->Hp->Prop
 stop:Nat->Hp->Prop
meta def pR(X:Cx)(d:MC (AB×Obj))(H:Hp)(b:AB):Prop :=
 H b=gV/\b≠X.env.locals/\b∉X.fs/\(b∈X.ex\/X.s₀.heap.objs.size<=b)/\(∀x c,X.env.cells.lookup x=U c->c≠b)/\∀p∈X.pn++d,p.1≠b
def Inv.BW (I:Inv X d l H s)(g:s⁻¹<=b)(hn:j b=gV):pR X d j b:=by
 refine#[hn,Tf (P8 I.lt g),I.FY g,.inr (Qq I.sz g),λx c e z=>?_,λp m z=>?_]
 .have(v,q):=I.cell x c e;exact absurd (P8 q.lt (by rw[z];calc g)) (Q8 _)
 .exact absurd (P8 (P0 (I.pin p m).1) (by rw[z];calc g)) (Q8 _)
structure Turn(P:L0) (w:Qe) (K:cB) (tg:Expr) (J:It) (fp:List AB) (it:AB) (tn:Nat->Heap->Prop):Prop where
 mem:it∈fp
 obj:∀i h,tn i h->∀b∈fp,∃o,h.get? b=U o/\∀v,o.data≠.cell v
 keep:∀i h h',tn i h->(∀b∈fp,∀o,h.get? b=U o->h'.get? b=U o)->tn i h'
 item:∀(X:Cx),X.prog=P->X.w=w->X.K=K->X.calm=AD->∀(i:Nat) (pins:MC (AB×Obj)) (s:fy) (σ:St) (H:Hp) (E:eT->fy->Prop),Inv X pins σ H s->(∀b∈fp,pR X pins H b)->tn i s.heap->J.go i H ->
  PY (P9 P w) X.A (SR (.ref it)) (λr s1=>∃u,r=U u /\
   PY (P9 P w) X.A (RY tg (.ref it) u) (λ_ s2=>∃x H',Inv X pins σ H' s2/\RelV x u/\J.yld i H x H'/\tn (i+1) s2.heap/\∀b∈fp,H' b=gV) E s1) E s
 done:∀(X:Cx),X.prog=P->X.w=w->X.K=K->X.calm=AD->∀(i:Nat) (pins:MC (AB×Obj)) (s:fy) (σ:St) (H:Hp) (E:eT->fy->Prop),Inv X pins σ H s->(∀b∈fp,pR X pins H b)->tn i s.heap->J.stop i H ->
  PY (P9 P w) X.A (SR (.ref it)) (λr s1=>r=gV/\Inv X pins σ H s1) E s
 self:∀(A:Qk) (i:Nat) (s:fy) (Q:eT->fy->Prop) (E:eT->fy->Prop),tn i s.heap->Q (.ref it) s->PY (P9 P w) A (Xf (.ref it)) Q E s
abbrev TI:=St->Hp->(It->Hp->Prop)->Prop
meta def Oq(X:Cx)(d:MC (AB×Obj))(p:St)(tg:Expr)(R:It->Hp->Prop)(e:eT)(l:fy):Prop :=
 ∃(m:AB) (o:List AB) (j:Nat->Heap->Prop) (J:It) (g:Hp),e=.ref m/\Inv X d p g l/\Turn X.prog X.w X.K tg J o m j/\j 0 l.heap/\(∀b∈o,pR X d g b)/\R J g
meta def PI(X:Cx)(tg iter:Expr)(g:TI):Prop :=
 ∀(d:MC (AB×Obj)) (s:fy) (e:St) (H:Hp) (R:It->Hp->Prop),Inv X d e H s->g e H R ->
  PY (P9 X.prog X.w) X.A (eval iter X.env) (λv j=>PY (P9 X.prog X.w) X.A (Xf v) (Oq X d e tg R) X.xe j) X.xe s
def Dp (d : s.heap.get? it = U o)(e : o.cls = .type n)(hd : o.data = .fields vs)(hn : ["enumerate", "zip", "dict_itemiterator", "dict_reverseitemiterator", "odict_iterator", "itertools.zip_longest", "itertools.pairwise"].contains n = AE)(hQ : Q Unit.unit s): PY M A (RY tg (.ref it) u) Q E s := by
  unfold RY
  cases tg <;> first
    | calc rz hQ
    | (cases u <;> first
        | calc rz hQ
        | (refine bN (wpAny_load d ?_)
           rw [e, hd];show PY M A (if (["enumerate", "zip", "dict_itemiterator", "dict_reverseitemiterator", "odict_iterator", "itertools.zip_longest", "itertools.pairwise"].contains n && vs[0]? == U (S5 _)) = AD then _ else _) Q E s;rw [if_neg (by intro h; rw [hn, Bool.false_and] at h; cases h)];calc rz hQ))
meta def JP(K:cB)(a:AB):It :=
 #[λi H=>∃d x,aV K H a d/\d[i]?=U x,λi H x e=>e=H/\∀d,aV K H a d->d[i]?=U x,λi H=>∃d,aV K H a d/\⇑d<=i]
meta def A2(K:cB)(a:AB):It :=
 #[λi H=>∃d x,b9 K H a d/\d[i]?=U x,λi H x e=>e=H/\∀d,b9 K H a d->d[i]?=U x,λi H=>∃d,b9 K H a d/\⇑d<=i]
meta def JQ(lo:Int)(n:Nat):It:=#[λi _=>i<n,λi H x d=>d=H/\x=.int (lo+i),λi _=>n<=i]
def BX {K:cB}(a it:AB):Turn P w K tg (JP K a) [it] it (λi h=>h.IsListIter it a i) where
 mem:=by simp
 obj:=λi h g b l=>by
  let e:b=it:=by simpa using l
  subst e;let(o,e,c,d):=g;exact#[o,e,λv z=>by rw[d]at z;cases z]
 keep:=λi h t g k=>g.at λo e=>k it (by simp) o e
 item:=by
  intro X J D L T i j s S H E I r g G;subst J D L;let(gD,x,q,C):=G;let(B,y,p,Z):=I.list q;let(u,hu,Y):=y.get C;let(R,Q,f2,O,N,M):=r it (by simp);calc wpAny_pyNext_list_item g p.isList (x:=u) (by simpa using hu) λt m V=>?_;let I1:Inv X j S H {s with heap:=t}:=I.turned (t':=s.toks) (λb o l e=>(V.2 b l).trans e) R Q O N M;let(o,e,c,d):=id m;exact#[u,rfl,Dp (s:={s with heap:=t}) e c d ∅ #[x,H,I1,Y,#[rfl,λys hy=>by rw[I.yx hy q];calc C],m,λb l=>(r b l).1]]
 done:=by
  intro X J D L T i j s S H E I r g G;subst J D L;let(gD,q,C):=G;let(B,y,p,Z):=I.list q;let(R,Q,f2,O,N,M):=r it (by simp);let hl:=⇑y;exact wpAny_pyNext_list_end (I.ok.hd T) g p.isList (by simp;omega) λt eb=>#[rfl,I.turned (t':=s.toks) (λb o l e=>eb b o l e) R Q O N M]
 self:=λ_ _ _ _ _ g h=>wpAny_pyIter_listiter g h
def zX {K:cB}(a it:AB):Turn P w K tg (A2 K a) [it] it (λi h=>h.IsTupleIter it a i) where
 mem:=by simp
 obj:=λi h g b m=>by
  let e:b=it:=by simpa using m
  subst e;let(o,e,c,d):=g;exact#[o,e,λv z=>by rw[d]at z;cases z]
 keep:=λi h y g k=>g.at λo e=>k it (by simp) o e
 item:=by
  intro X J D L T i j s S H E I t g G;subst J D L;let(gD,x,r,C):=G;let(l,B,p,Z):=I.tuple r;let(u,hu,Y):=B.get C;let(R,Q,f2,O,N,M):=t it (by simp);calc wpAny_pyNext_tuple_item g (show s.heap.IsTuple a l.toArray from p) (x:=u) (by simpa using hu) λy q V=>?_;let I1:Inv X j S H {s with heap:=y}:=I.turned (t':=s.toks) (λb o m e=>(V.2 b m).trans e) R Q O N M;let(o,e,c,d):=id q;exact#[u,rfl,Dp (s:={s with heap:=y}) e c d ∅ #[x,H,I1,Y,#[rfl,λys hy=>by rw[I.qO hy r];calc C],q,λb m=>(t b m).1]]
 done:=by
  intro X J D L T i j s S H E I t g G;subst J D L;let(gD,r,C):=G;let(l,B,p,Z):=I.tuple r;let(R,Q,f2,O,N,M):=t it (by simp);let hl:=⇑B;exact wpAny_pyNext_tuple_end (I.ok.hd T) g (show s.heap.IsTuple a l.toArray from p) (by simp;omega) λy eb=>#[rfl,I.turned (t':=s.toks) (λb o m e=>eb b o m e) R Q O N M]
 self:=λ_ _ _ _ _ g h=>wpAny_pyIter_tupleiter g h
def zY {K:cB}(it:AB)(lo:Int)(n:Nat):Turn P w K tg (JQ lo n) [it] it (λi h=>IsRangeIter h it (lo+(i:Nat)*1) ((n:Int) - (i:Nat)) 1) where
 mem:=by simp
 obj:=λi h d b j=>by
  let e:b=it:=by simpa using j
  subst e
  exact#[_,d,λv z=>by
   let O:Data.fields _=Data.cell v:=z
   cases O]
 keep:=λi h p d k=>k it (by simp) _ d
 item:=by
  intro X y q B u i g s M H E I m d r;subst y q B;let(L,J,S,G,D,C):=m it (by simp);let W:=Walks.range (prog:=X.prog) (w:=X.w) (I.ok.hd u) it lo 1 n;calc W.item i s _ _ r d λv p N R l Q=>?_;let(t,rfl):=R;let gD:Inv X g M H {s with heap:=p,toks:=N}:=I.turned (λb o j e=>Q b o (by simpa using j) e) L J G D C;calc#[_,rfl,Dp (s:={s with heap:=p,toks:=N}) (n:="range_iterator") l rfl rfl ∅ #[.int (lo+i),H,gD,#[t,?_],#[rfl,rfl],l,λb j=>(m b j).1]];rw[Int.mul_one]
 done:=by
  intro X y q B u i g s M H E I m d r;subst y q B;let(L,J,S,G,D,C):=m it (by simp);exact wpAny_pyNext_range_end (I.ok.hd u) d (by let:n<=i:=r;omega) λp T=>#[rfl,I.turned (t':=s.toks) (λb o j e=>T b o j e) L J G D C]
 self:=λ_ _ _ _ _ d h=>wpAny_pyIter_rangeiter d h
meta def LZ(K:cB)(tl:TE):TI:=λe H R=>tl e H λx d=>∃a,x=.ref a/\(∃g,aV K d a g)/\R (JP K a) d
meta def JR(K:cB)(tl:TE):TI:=λe H R=>tl e H λx d=>∃a,x=.ref a/\(∃g,b9 K d a g)/\R (A2 K a) d
def jU {tg:Expr}{l:Expr}{tl:TE}(y:PE X l tl):PI X tg l (LZ X.K tl):=by
 intro d s m H R I h;calc cQ (y d s m H _ I h) λv g ⟨x,B,j,r,q1⟩=>?_;let(a,e,(C,u),q):=q1;subst e
 cases r
 let(t,D,p,G):=j.list u;calc V4 p.isList ?_;calc#[g⁻¹,[g⁻¹],_,_,B,rfl,j.kept (t':=g.toks) λb o e=>u5 _ e,BX a _,#[_,P5 _ rfl,rfl,rfl],λb z=>?_,q];let e:b=g⁻¹:=by simpa using z
 subst e;calc j.BW (u4 _) (j.hok.fresh (u4 _))
def dj {tg:Expr}{l:Expr}{tl:TE}(y:PE X l tl):PI X tg l (JR X.K tl):=by
 intro g s r H R I h;calc cQ (y g s r H _ I h) λv d ⟨x,B,j,t,q1⟩=>?_;let(a,e,(C,u),q):=q1;subst e
 cases t
 let(m,D,p,G):=j.tuple u;calc wpAny_pyIter_tuple (show d.heap.IsTuple a m.toArray from p) ?_;calc#[d⁻¹,[d⁻¹],_,_,B,rfl,j.kept (t':=d.toks) λb o e=>u5 _ e,zX a _,#[_,P5 _ rfl,rfl,rfl],λb z=>?_,q];let e:b=d⁻¹:=by simpa using z
 subst e;calc j.BW (u4 _) (j.hok.fresh (u4 _))
def Dq {lo:Int}(I:Inv X d g H s)(z:-(2 ^ 62)<=lo)(y:lo<2 ^ 62)(r:-(2 ^ 62)<=hi)(p:hi<2 ^ 62)(q:R (JQ lo (hi-lo).toNat) H):PY (P9 X.prog X.w) X.A (Xf (.ref s⁻¹)) (Oq X d g tg R) E {s with heap:=s.heap.push {cls:=.type "range",data:=.fields #[.int lo t,.int hi u,.int 1 v,]},toks:=j}:=by
 calc wpAny_pyIter_range (IsRange.new ..) (small_one z y r p) ?_;let l:Inv X d g H {s with heap:=s.heap.push {cls:=.type "range",data:=.fields #[.int lo t,.int hi u,.int 1 v,]},toks:=j}:=I.kept λb o e=>u5 _ e
 refine#[(s.heap.push {cls:=.type "range",data:=.fields #[.int lo t,.int hi u,.int 1 v,]}).objs.size,[(s.heap.push {cls:=.type "range",data:=.fields #[.int lo t,.int hi u,.int 1 v,]}).objs.size],_,_,H,rfl,
  l.kept (t':=j) λb o e=>u5 _ e,zY _ lo (hi-lo).toNat,?_,λb m=>?_,q]
 .have C:lo+((0:Nat):Int)*1=lo:=by simp
  let B:(((hi-lo).toNat:Nat):Int) - ((0:Nat):Int)=RQ.Range.rangeSize lo hi 1:=by rw[rangeSize_one];split<;>omega
  show IsRangeIter _ _ (lo+((0:Nat):Int)*1) ((((hi-lo).toNat:Nat):Int) - ((0:Nat):Int)) 1;rw[C,B];exact P5 _ rfl
 .have e:b=(s.heap.push {cls:=.type "range",data:=.fields #[.int lo t,.int hi u,.int 1 v,]}).objs.size:=by simpa using m
  subst e;calc l.BW (u4 _) (l.hok.fresh (u4 _))
meta def L6(ta:TA):TI:=λd H R=>ta d H λe g=>∃j:Int,e=[.int j]/\-(2 ^ 62)<=j/\j<2 ^ 62/\R (JQ 0 j.toNat) g
def qP {tg:Expr}{a:Expr}{ta:TA}{p pos:Pos}(u:Gl X "range")(o:X.mg "range"=gV)(v:PA X [a] ta)(hs:QS [a] X.env=[(AE,eval a X.env)]:=by rfl):PI X tg (.Call (.Name "range" p) [a] [] pos) (L6 ta):=by
 intro d s g H R I h;calc Call_ (ni I u o boot_range (Ru (cQ (v pos d s g H _ I h) λB C ⟨z,D,y,l,q1⟩=>?_) hs rfl));let(j,e,q1,m,q):=q1;subst e
 cases l with
 |cons r rr =>
  cases rr
  let(t,rfl):=r;calc call_range_1 (Dq y () () q1 m (by simpa using q))
meta def NF(p:TI)(g:TG)(q:TS):TS:=λD d H=>p d H λJ t=>∃W:Nat->Nat->St->Hp->Prop,(∃m,W 0 m d t)/\∀i m d H,W i m d H ->
 (J.stop i H/\D.nx d H)\/(J.go i H/\∃N:St->Hp->Prop,(∀e j,N e j->∃o,o < m/\W (i+1) o e j)/\∀x j,J.yld i H x j->g x d j λl r=>q {D with nx:=N,ct:=N,bk:=D.nx} l r)
meta def oZ(d:List AB)(h:Heap):MC (AB×Obj):=d.filterMap λb=>(h.get? b).map λo=>(b,o)
def fB (g:b∈d)(e:h.get? b=U o):(b,o)∈oZ d h:=VD.mpr #[b,g,by rw[e];rfl]
def vg (g:p∈oZ d h):p.1∈d/\h.get? p.1=U p.2:=by
 let(b,j,e):=VD.mp g
 cases q:h.get? b with
 |none=>rw[q]at e;cases e
 |some o =>
  rw[q]at e;let l:(b,o)=p:=Qw e;subst l;calc#[j,q]
def Inv.pinned (I:Inv X g l H s)(u:∀b∈j,pR X g H b)(t:∀b∈j,∃o,s.heap.get? b=U o/\∀v,o.data≠.cell v):Inv X (g++oZ j s.heap) l H s :=
 I.fJ λp r=>(zv.mp r).elim (λz=>I.pin p (xn _ z)) λz=>by
  let(m,e):=vg z;let(C,B,y,_):=u p.1 m;let(o,q,d):=t p.1 m;rw[e]at q;cases q;calc#[e,C,B,y,d]
def Inv.tI (I:Inv X (d++pl) e H s):Inv X d e H s:=I.fJ λp g=>I.pin p (xn _ (Qx _ g))
def JS {tg:Expr}{iter:Expr}{L:MC Stmt}{wi:TI}{g:TG}{tb:TS}{pos:Pos}(S:PassesOwn (P9 X.prog X.w) X.A X.env X.xe)(hc:X.calm=AD)(hi:PI X tg iter wi)(hg:PG X tg g)(y:rN X L tb)(hs:∀x,QN iter X.env x=pure x:=by intro _;rfl):PS X (.For tg iter L [] pos) (NF wi g tb):=by
 intro l s σ H D I h;calc wpAny_For (cQ (hi l s σ H _ I h) λv s1 h1=>cQ h1 λad s2 h2=>?_) hs;let(it,V,tn,J,H2,e,I2,T,aa,f2,W,(m0,w0),O):=h2;subst e
 let t:∀{C:Hp},(∀b∈V,C b=gV)->∀b∈V,pR X l C b:=λhn b y=>#[hn b y,(f2 b y).2];calc codeAny_forLoop_any (λn s'=>∃i q C,Inv X l q C s'/\tn i s'.heap/\(∀b∈V,C b=gV)/\W i n q C) ?_ m0 #[0,σ,H2,I2,aa,λb y=>(f2 b y).1,w0];rintro n s3 ⟨i,p,Y,I3,Q,gD,w3⟩;rcases O i n p Y w3 with⟨stop,qn⟩|⟨go,N,hN,step⟩
 .refine SS S (cQ (T.done X rfl rfl rfl hc i l s3 p Y X.xe I3 (t gD) Q stop) λr s4 ⟨hr,I4⟩=>?_);subst hr;exact Vm #[p,Y,I4,qn]
 .refine SS S (cQ (T.item X rfl rfl rfl hc i l s3 p Y X.xe I3 (t gD) Q go) λr s4 ⟨u,hr,h4⟩=>?_);subst hr;calc SS S (cQ h4 λ_ s5 ⟨x,H5,I5,r5,y5,M,ab⟩=>?_);let ac:=I5.pinned (t ab) (T.obj _ _ M);calc SS S (cQ (hg _ s5 p H5 x u _ ac r5 (step x H5 y5)) λ_ s6 ⟨Z,H6,I6,q6⟩=>?_);refine SS S (cQ (y _ s6 Z H6 _ I6 q6) λf s7 G=>?_)
  let again:∀{j:St}{B:Hp},Inv X (l++oZ V s5.heap) j B s7->N j B->∃m,m<n/\∃i q C,Inv X l q C s7/\tn i s7.heap/\(∀b∈V,C b=gV)/\W i m q C:=λ{j B} z R=>by
   let(m',hm,w7):=hN j B R;calc#[m',hm,i+1,j,B,z.tI,T.keep _ _ _ M λb y o e=>(z.pin (b,o) (xn _ (xn _ (fB y e)))).1,λb y=>?_,w7];let(o,e,d):=T.obj _ _ M b y;exact(z.pin (b,o) (xn _ (xn _ (fB y e)))).2.1
  cases f with
  |next=>let(j,B,z,R):=G;calc again z R
  |cont=>let(j,B,z,R):=G;calc again z R
  |brk=>let(j,B,z,G):=G;calc#[j,B,z.tI,G]
  |ret v=>let(x7,j,B,z,r7,G):=G;calc#[x7,j,B,z.tI,r7,G]
def tJ {K:cB}{g:TG}{u:TS}{D:Ends}(j:Nat->St->Hp->Prop)(C:j 0 d H)(z:∀i d H,i<=⇑xs->j i d H->aV K H a xs)(hs:∀i x d H,xs[i]?=U x->j i d H->g x d H λl t=>u {D with nx:=j (i+1),ct:=j (i+1),bk:=D.nx} l t)(hd:∀d H,j ⇑xs d H->D.nx d H):
  ∃W:Nat->Nat->St->Hp->Prop,(∃m,W 0 m d H)/\∀i m d H,W i m d H ->
   ((JP K a).stop i H/\D.nx d H)\/((JP K a).go i H/\∃N:St->Hp->Prop,(∀σ' o,N σ' o->∃m',m' < m/\W (i+1) m' σ' o)/\∀x o,(JP K a).yld i H x o->g x d o λl t=>u {D with nx:=N,ct:=N,bk:=D.nx} l t):=by
 calc#[λi m d H=>m=⇑xs-i/\i<=⇑xs/\j i d H,#[⇑xs,by simp,Qc _,C],?_];rintro i m d H ⟨rfl,B,p⟩;let q:=z i d H B p
 by_cases r:i<⇑xs
 .refine .inr #[#[xs,xs[i],q,by simp[r]],j (i+1),λσ' o v=>#[⇑xs - (i+1),(),rfl,r,v],λx o y=>?_];let(e,y):=y;subst e;exact hs i x d _ (y xs q) p
 .have e:i=⇑xs:=()
  subst e;calc .inl #[#[xs,q,u4 _],hd d H p]
def iJ {K:cB}{g:TG}{u:TS}{D:Ends}(j:Nat->St->Hp->Prop)(C:j 0 d H)(z:∀i d H,i<=⇑xs->j i d H->b9 K H a xs)(hs:∀i x d H,xs[i]?=U x->j i d H->g x d H λl t=>u {D with nx:=j (i+1),ct:=j (i+1),bk:=D.nx} l t)(hd:∀d H,j ⇑xs d H->D.nx d H):
  ∃W:Nat->Nat->St->Hp->Prop,(∃m,W 0 m d H)/\∀i m d H,W i m d H ->
   ((A2 K a).stop i H/\D.nx d H)\/((A2 K a).go i H/\∃N:St->Hp->Prop,(∀σ' o,N σ' o->∃m',m' < m/\W (i+1) m' σ' o)/\∀x o,(A2 K a).yld i H x o->g x d o λl t=>u {D with nx:=N,ct:=N,bk:=D.nx} l t):=by
 calc#[λi m d H=>m=⇑xs-i/\i<=⇑xs/\j i d H,#[⇑xs,by simp,Qc _,C],?_];rintro i m d H ⟨rfl,B,p⟩;let q:=z i d H B p
 by_cases r:i<⇑xs
 .refine .inr #[#[xs,xs[i],q,by simp[r]],j (i+1),λσ' o v=>#[⇑xs - (i+1),(),rfl,r,v],λx o y=>?_];let(e,y):=y;subst e;exact hs i x d _ (y xs q) p
 .have e:i=⇑xs:=()
  subst e;calc .inl #[#[xs,q,u4 _],hd d H p]
def iw {lo:Int}{g:TG}{t:TS}{D:Ends}(o:Nat->St->Hp->Prop)(v:o 0 d H)(hs:∀i d H,i<n->o i d H->g (.int (lo+i)) d H λj r=>t {D with nx:=o (i+1),ct:=o (i+1),bk:=D.nx} j r)(hd:∀d H,o n d H->D.nx d H):
  ∃W:Nat->Nat->St->Hp->Prop,(∃m,W 0 m d H)/\∀i m d H,W i m d H ->
   ((JQ lo n).stop i H/\D.nx d H)\/((JQ lo n).go i H/\∃N:St->Hp->Prop,(∀σ' q,N σ' q->∃m',m' < m/\W (i+1) m' σ' q)/\∀x q,(JQ lo n).yld i H x q->g x d q λj r=>t {D with nx:=N,ct:=N,bk:=D.nx} j r):=by
 calc#[λi m d H=>m=n-i/\i<=n/\o i d H,#[n,by simp,Qc _,v],?_];rintro i m d H ⟨rfl,z,p⟩
 by_cases l:i<n
 .refine .inr #[l,o (i+1),λσ' q u=>#[n - (i+1),(),rfl,l,u],λx q y=>?_];let(e,y):=y;subst e y;exact hs i d _ l p
 .have e:i=n:=()
  subst e;calc .inl #[u4 _,hd d H p]
abbrev R2:=V->V->Hp->VK->Prop
meta def nY(X:Cx)(f:eT->eT->Sem eT)(r:R2):Prop :=
 ∀(d:MC (AB×Obj)) (s:fy) (e:St) (H:Hp) (x y:V) (v u:eT) (Q:VK),Inv X d e H s->RelV x v->RelV y u->r x y H Q ->
  PY (P9 X.prog X.w) X.A (f v u) (EP X d e Q) X.xe s
meta def NG(X:Cx)(f:eT->Sem eT)(r:V->Hp->VK->Prop):Prop :=
 ∀(d:MC (AB×Obj)) (s:fy) (e:St) (H:Hp) (x:V) (v:eT) (Q:VK),Inv X d e H s->RelV x v->r x H Q ->
  PY (P9 X.prog X.w) X.A (f v) (EP X d e Q) X.xe s
meta def iQ(X:Cx)(f:eT)(r:MC V->Hp->VK->Prop):Prop :=
 ∀(d:MC (AB×Obj)) (s:fy) (e:St) (H:Hp) (g:MC V) (j:List eT) (Q:VK),Inv X d e H s->Vals g j->r g H Q ->
  PY (P9 X.prog X.w) X.A (call f j) (EP X d e Q) X.xe s
meta def NH(X:Cx)(r:V->Hp->(Bool->Hp->Prop)->Prop):Prop :=
 ∀(d:MC (AB×Obj)) (s:fy) (e:St) (H:Hp) (x:V) (v:eT) (Q:Bool->Hp->Prop),Inv X d e H s->RelV x v->r x H Q ->
  PY (P9 X.prog X.w) X.A (truthy v) (TP X d e Q) X.xe s
abbrev OU(r:R2)(x:V)(Q:VK):VK:=λy d=>r x y d Q
abbrev OV(r:R2)(e:TE)(d:St)(Q:VK):VK:=λx g=>e d g (OU r x Q)
abbrev BY(r:R2)(ta e:TE):TE:=λd H Q=>ta d H (OV r e d Q)
abbrev OW(r:V->Hp->VK->Prop)(Q:VK):VK:=λx d=>r x d Q
abbrev OX(r:V->Hp->VK->Prop)(ta:TE):TE:=λd H Q=>ta d H (OW r Q)
meta def rI(C:Int->Int->Prop)(g:Int->Int->V):R2:=λx y H Q=>∃i j,x=.int i/\y=.int j/\C i j/\Q (g i j) H
meta def Je(g:Int->Int->V):R2:=λx y H Q=>∃i j,x=.int i/\y=.int j/\Q (g i j) H
meta def rU(g:Int->V):V->Hp->VK->Prop:=λx H Q=>∃i,x=.int i/\Q (g i) H
def JT (z:PE X a ta)(t:PE X b tb){R:V->V->Hp->Prop}(I:Inv X d e H s)(h:ta e H λx o=>tb e o λy g=>R x y g){f:eT->eT->Sem eT}(hf:∀v u m x y g,Inv X d e g m->RelV x v->RelV y u->R x y g->PY (P9 X.prog X.w) X.A (f v u) Q X.xe m):
  PY (P9 X.prog X.w) X.A (eval a X.env) (λv l=>PY (P9 X.prog X.w) X.A (eval b X.env) (λu j=>PY (P9 X.prog X.w) X.A (f v u) Q X.xe j) X.xe l) X.xe s:=by
 calc cQ (z d s e H _ I h) λv p ⟨x,o,C,q,q1⟩=>?_;calc cQ (t d p e o _ C q1) λu m ⟨y,g,B,r2,r⟩=>?_;calc hf v u m x y g B q r2 r
def bX {a b:Expr}{ta tb:TE}{pos:Pos}{op:Operator}{r:R2}(m:nY X (SI op) r)(p:PE X a ta)(o:PE X b tb):PE X (.BinOp a op b pos) (BY r ta tb):=by
 intro d s e H Q I h;calc wpAny_BinOp (JT p o I h λv u g x y z t l j q=>m d g e z x y v u Q t l j q)
def kY (l:NG X (unaryOp op) r)(m:PE X a ta):PE X (.UnaryOp op a pos) (OX r ta):=by
 intro d s e H Q I h;calc UnaryOp_ (cQ (m d s e H _ I h) λv g ⟨x,p,o,j,q1⟩=>l d g e p x v Q o j q1)
def Nf {g:Int->Int->Int}(rule:∀(i j:Int) (t u:Tok) (s:fy) (Q:eT->fy->Prop) (E:eT->fy->Prop),C i j->Q (.int (g i j) s.toks) {s with toks:=s.toks+1}->PY (P9 X.prog X.w) X.A (f (.int i t) (.int j u)) Q E s):
  nY X f (rI C λi j=>.int (g i j)):=by
 intro d s p H x y v u Q I m l h;let(i,j,rfl,rfl,o,q):=h;let(t,rfl):=m;let(e,rfl):=l;calc rule i j t e s _ _ o #[.int (g i j),H,I.tok _,#[_,rfl],q]
def L7 {g:Int->Int->Int}(rule:∀(i j:Int) (t u:Tok) (s:fy) (Q:eT->fy->Prop) (E:eT->fy->Prop),Q (.int (g i j) s.toks) {s with toks:=s.toks+1}->PY (P9 X.prog X.w) X.A (f (.int i t) (.int j u)) Q E s):
  nY X f (Je λi j=>.int (g i j)):=by
 intro d s o H x y v u Q I m l h;let(i,j,rfl,rfl,q):=h;let(t,rfl):=m;let(e,rfl):=l;calc rule i j t e s _ _ #[.int (g i j),H,I.tok _,#[_,rfl],q]
def JU {g:Int->Int->Bool}(rule:∀(i j:Int) (t u:Tok) (s:fy) (Q:eT->fy->Prop) (E:eT->fy->Prop),Q (.bool (g i j)) s->PY (P9 X.prog X.w) X.A (f (.int i t) (.int j u)) Q E s):
  nY X f (Je λi j=>.bl (g i j)):=by
 intro d s o H x y v u Q I m l h;let(i,j,rfl,rfl,q):=h;let(t,rfl):=m;let(e,rfl):=l;calc rule i j t e s _ _ #[.bl (g i j),H,I,rfl,q]
meta def L8(i j:Int):Prop:=0<j/\j<1073741824
meta def Ma(i j:Int):Prop:=0<=j/\j<=1000000/\i.natAbs<2 ^ 64
meta def Ge(i j:Int):Prop:=(-(2 ^ 64)<i/\i<2 ^ 64)\/(-(2 ^ 64)<j/\j<2 ^ 64)
def Ge.ok (h:Ge i j):IntMulOk i j:=by
 rcases h with⟨h1,h2⟩|⟨h1,h2⟩
 .exact .of_left (intBits_le_64 h1 h2)
 .exact .of_right (intBits_le_64 h1 h2)
def dU :nY X (SI .Add) (Je λi j=>.int (i+j)):=L7 λ_ _ _ _ _ _ _ q=>add_int q
def jO :nY X (SI .Sub) (Je λi j=>.int (i-j)):=L7 λ_ _ _ _ _ _ _ q=>sub_int q
def lE :nY X (SI .Mult) (rI Ge λi j=>.int (i*j)):=Nf λ_ _ _ _ _ _ _ d q=>mul_int q d.ok
def sI :nY X (SI .FloorDiv) (rI L8 λi j=>.int (i / j)):=Nf λi j _ _ _ _ _ d q=>by
 let g:(0:Int)<j:=d.1;let e:j<1073741824:=d.2;calc floordiv_int () (by rw[Int.fdiv_eq_ediv_of_nonneg i ()];calc q) (.inl (PyProof.noPylong_small ()))
def gJ :nY X (SI .Mod) (rI (λ_ j=>0<j) λi j=>.int (i % j)):=Nf λi j _ _ _ _ _ d q=>by
 let e:(0:Int)<j:=d;calc mod_int' () (by rw[Int.fmod_eq_emod_of_nonneg i ()];calc q)
def JV :nY X (SI .Pow) (rI Ma λi j=>.int (i ^ j.toNat)):=Nf λ_ _ _ _ _ _ _ d q=>pow_int_small d.1 d.2.1 d.2.2 q
def OY {g:Int->Int}(rule:∀(i:Int) (t:Tok) (s:fy) (Q:eT->fy->Prop) (E:eT->fy->Prop),Q (.int (g i) s.toks) {s with toks:=s.toks+1}->PY (P9 X.prog X.w) X.A (f (.int i t)) Q E s):
  NG X f (rU λi=>.int (g i)):=by
 intro d s j H x v Q I e h;let(i,rfl,q):=h;let(t,rfl):=e;calc rule i t s _ _ #[.int (g i),H,I.tok _,#[_,rfl],q]
def i5 :NG X (unaryOp .USub) (rU λi=>.int (-i)):=OY λ_ _ _ _ _ q=>neg_int q
meta def Mb:V->V->Bool
 |.gu,.gu=>AD|.gu,.int _=>AD|.int _,.gu=>AD|.gu,.bl _=>AD|.bl _,.gu=>AD|.gu,.str _=>AD|.str _,.gu=>AD
 |.int _,.int _=>AD|.bl _,.bl _=>AD|.str _,.str _=>AD|.byt _,.byt _=>AD
 |.int _,.str _=>AD|.str _,.int _=>AD|.bl _,.str _=>AD|.str _,.bl _=>AD
 |_,_=>AE
meta def OZ:R2:=λx y H Q=>Mb x y=AD/\Q (.bl (decide (x=y))) H
meta def Ot:R2:=λx y H Q=>Mb x y=AD/\Q (.bl (!decide (x=y))) H
def A3 :decide (V.int i=V.int j)=(i == j):=by
 rw[Tp];simp
def Dr :decide (V.bl i=V.bl j)=(i == j):=by
 rw[Tp];simp
def A4 :decide (V.str i=V.str j)=(i == j):=by
 rw[Tp];simp
def A5 :decide (V.byt i=V.byt j)=(i.toList == j.toList):=by
 rw[Tp]
 cases i
 cases j
 simp
def cI (I:Inv X d g H s)(q:Q (.bl k) H)(e:k=j):EP X d g Q (.bool j) s:=by
 subst e;calc#[.bl k,H,I,rfl,q]
def bV :nY X (RX .Eq) OZ:=by
 intro m s o H x y v u Q I l d h;let(g,q):=h
 cases x with
 |gu =>
  cases l
  cases y with
  |gu=>cases d;calc PySem.EqNone.eq_none_none (cI I q (by simp))
  |bl j=>cases d;calc PySem.EqNone.eq_none_bool (cI I q (by simp))
  |int j=>let(e,rfl):=d;calc PySem.EqNone.eq_none_int (cI I q (by simp))
  |str j=>let(e,rfl):=d;calc PySem.EqNone.eq_none_str (cI I q (by simp))
  |_=>calc absurd (show AE=AD from g) Qf
 |bl i =>
  cases l
  cases y with
  |gu=>cases d;calc PySem.EqNone.eq_bool_none (cI I q (by simp))
  |bl j=>cases d;calc eq_bool (cI I q Dr)
  |str j=>let(e,rfl):=d;calc PySem.EqMixed.eq_bool_str (cI I q (by simp))
  |_=>calc absurd (show AE=AD from g) Qf
 |int i =>
  let(t,rfl):=l
  cases y with
  |gu=>cases d;calc PySem.EqNone.eq_int_none (cI I q (by simp))
  |int j=>let(e,rfl):=d;calc eq_int (cI I q A3)
  |str j=>let(e,rfl):=d;calc PySem.EqMixed.eq_int_str (cI I q (by simp))
  |_=>calc absurd (show AE=AD from g) Qf
 |str i =>
  let(t,rfl):=l
  cases y with
  |gu=>cases d;calc PySem.EqNone.eq_str_none (cI I q (by simp))
  |bl j=>cases d;calc PySem.EqMixed.eq_str_bool (cI I q (by simp))
  |int j=>let(e,rfl):=d;calc PySem.EqMixed.eq_str_int (cI I q (by simp))
  |str j=>let(e,rfl):=d;calc eq_str (cI I q A4)
  |_=>calc absurd (show AE=AD from g) Qf
 |byt i =>
  let(t,rfl):=l
  cases y with
  |byt j=>let(e,rfl):=d;calc PySem.W.eq_bytes (cI I q A5)
  |_=>calc absurd (show AE=AD from g) Qf
 |_=>cases y<;>calc absurd (show AE=AD from g) Qf
def vh :nY X (RX .NotEq) Ot:=by
 intro m s o H x y v u Q I l d h;let(g,q):=h
 cases x with
 |gu =>
  cases l
  cases y with
  |gu=>cases d;calc PySem.EqNone.ne_none_none (cI I q (by simp))
  |bl j=>cases d;calc PySem.EqNone.ne_none_bool (cI I q (by simp))
  |int j=>let(e,rfl):=d;calc PySem.EqNone.ne_none_int (cI I q (by simp))
  |str j=>let(e,rfl):=d;calc PySem.EqNone.ne_none_str (cI I q (by simp))
  |_=>calc absurd (show AE=AD from g) Qf
 |bl i =>
  cases l
  cases y with
  |gu=>cases d;calc PySem.EqNone.ne_bool_none (cI I q (by simp))
  |bl j=>cases d;calc ne_bool (cI I q (congrArg not Dr))
  |str j=>let(e,rfl):=d;calc PySem.EqMixed.ne_bool_str (cI I q (by simp))
  |_=>calc absurd (show AE=AD from g) Qf
 |int i =>
  let(t,rfl):=l
  cases y with
  |gu=>cases d;calc PySem.EqNone.ne_int_none (cI I q (by simp))
  |int j=>let(e,rfl):=d;calc ne_int (cI I q (congrArg not A3))
  |str j=>let(e,rfl):=d;calc PySem.EqMixed.ne_int_str (cI I q (by simp))
  |_=>calc absurd (show AE=AD from g) Qf
 |str i =>
  let(t,rfl):=l
  cases y with
  |gu=>cases d;calc PySem.EqNone.ne_str_none (cI I q (by simp))
  |bl j=>cases d;calc PySem.EqMixed.ne_str_bool (cI I q (by simp))
  |int j=>let(e,rfl):=d;calc PySem.EqMixed.ne_str_int (cI I q (by simp))
  |str j=>let(e,rfl):=d;calc ne_str (cI I q (congrArg not A4))
  |_=>calc absurd (show AE=AD from g) Qf
 |byt i =>
  let(t,rfl):=l
  cases y with
  |byt j=>let(e,rfl):=d;calc PySem.W.ne_bytes (cI I q (congrArg not A5))
  |_=>calc absurd (show AE=AD from g) Qf
 |_=>cases y<;>calc absurd (show AE=AD from g) Qf
def lQ :nY X (RX .Lt) (Je λi j=>.bl (decide (i<j))):=JU λ_ _ _ _ _ _ _ q=>lt_int q
def pS :nY X (RX .Gt) (Je λi j=>.bl (decide (j<i))):=JU λ_ _ _ _ _ _ _ q=>gt_int q
def Mc :nY X (RX .GtE) (Je λi j=>.bl (decide (j<=i))):=JU λ_ _ _ _ _ _ _ q=>ge_int q
def JW :nY X (RX .Is) (λx y H Q=>y=.gu/\Q (.bl (decide (x=.gu))) H):=by
 intro e s j H x y v u Q I d g h;let(rfl,q):=h
 cases g
 refine is_none_gen (cI I q ?_)
 cases x<;>first
  |(cases d;rfl)
  |(let(t,rfl):=d;rfl)
def mh (b:Expr)(h:op≠.In:=by decide)(d:op≠.NotIn:=by decide):Wd op b=AE:=by
 let g:(op == CmpOp.In)=AE:=by cases op<;>first|rfl|exact absurd rfl h
 let e:(op == CmpOp.NotIn)=AE:=by cases op<;>first|rfl|exact absurd rfl d
 cases b<;>simp[Wd,g,e]
def jC {a b:Expr}{ta tb:TE}{pos:Pos}{op:CmpOp}{r:R2}(m:nY X (RX op) r)(t:PE X a ta)(p:PE X b tb)(o:Wd op b=AE):PE X (.Compare a [op] [b] pos) (BY r ta tb):=by
 intro d s e H Q I h;calc wpAny_Compare1 (JT t p I h λv u g x y B z l j q=>m d g e B x y v u Q z l j q) o
meta def O0(Q:Bool->Hp->Prop):VK:=λx d=>∃k,x=.bl k/\Q k d
abbrev Ds(t:TE):TT:=λd H Q=>t d H (O0 Q)
def fV {a b:Expr}{ta tb:TE}{pos:Pos}{op:CmpOp}{r:R2}(q:nY X (RX op) r)(C:PE X a ta)(B:PE X b tb)(t:Wd op b=AE):PT X (.Compare a [op] [b] pos) (Ds (BY r ta tb)):=by
 intro d s g H Q I h
 refine wpAny_isTrue_Compare1 (cQ (C d s g H _ I h) λv l ⟨x,N,J,m,q1⟩=>cQ (B d l g N _ J q1) λu j ⟨y,M,G,r2,p⟩ =>
  cQ (q d j g M x y v u _ G m r2 p) λc O ⟨z,L,D,r3,k,e,o⟩=>?_) t
 subst e
 cases r3
 calc Tv #[L,D,o]
meta def JX(r j:R2)(ta tb tc:TE):TE:=λd H Q=>ta d H λx o=>tb d o λy m=>r x y m λz e=>∃k,z=.bl k /\
 (if k=AD then tc d e λg l=>j y g l Q else Q (.bl AE) e)
def Dt {a b c:Expr}{ta tb tc:TE}{pos:Pos}{op j:CmpOp}{r o:R2}(gD:nY X (RX op) r)(m:nY X (RX j) o)(Y:PE X a ta)(W:PE X b tb)(V:PE X c tc)(hm:lastMarks [op,j] [b,c]=AE:=by rfl'):PT X (.Compare a [op,j] [b,c] pos) (Ds (JX r o ta tb tc)):=by
 intro g s l H Q I h
 refine isTrue_chain (cQ (Y g s l H _ I h) λv L ⟨x,H1,I1,N,q1⟩=>test_link (cQ (W g L l H1 _ I1 q1) λu J ⟨y,H2,I2,r2,S⟩ =>
  cQ (gD g J l H2 x y v u _ I2 N r2 S) λd G ⟨z,t,q,r3,k,e,p⟩=>?_)) hm
 subst e
 cases r3
 refine Tv ?_
 cases k with
 |false =>
  let(k',e',T):=p
  cases e'
  calc ite_ff #[t,q,T]
 |true =>
  calc ite_tt (test_last (cQ (V g G l t _ q p) λC D ⟨B,H4,I4,r4,R⟩=>cQ (m g D l H4 y B u C _ I4 r2 r4 R) λd' s5 ⟨z2,H5,I5,M,k2,Z,O⟩=>?_));subst Z
  cases M
  calc Tv #[H5,I5,O]
meta def JY(K:cB)(x:V)(H:Hp)(k:Bool):Prop :=
 match x with
 |.gu=>k=AE
 |.bl b=>k=b
 |.int i=>k=(i != 0)
 |.str y=>⇑y<=my/\k=((⇑y:Int) != 0)
 |.byt y=>y.size<=my/\k=((y.size:Int) != 0)
 |.ref p=>(∃d,aV K H p d/\k=!d.isEmpty)\/(∃d,b9 K H p d/\k=!d.isEmpty)\/∃e,H p=U (.dK e)/\k=!e.isEmpty
 |_=>False
def zZ {kvs:MC (d×V)}{vs:MC (d×eT)}(r:KV kvs vs):(!vs.isEmpty)=!kvs.isEmpty:=by
 cases r<;>rfl
def tK (r:Vals xs d):(!d.toArray.isEmpty)=!xs.isEmpty:=by
 cases r<;>simp
def pe :(my:Nat)<2 ^ 63:=by rw[TL];decide
def JZ :NH X (λx H Q=>∃k,JY X.K x H k/\Q k H):=by
 intro C s L H x v Q I o h;let(k,e,q):=h;let N:=pe;let M:my=16777216:=TL
 cases x with
 |gu =>
  cases o
  let d:k=AE:=e;subst d;calc truthy_none #[H,I,q]
 |bl b =>
  cases o
  let d:k=b:=e;subst d;calc Tv #[H,I,q]
 |int i =>
  let(t,rfl):=o;let d:k=(i != 0):=e;subst d;calc PySem.P.truthy_int #[H,I,q]
 |str y =>
  let(t,rfl):=o;obtain⟨G,d⟩:⇑y<=my/\k=((⇑y:Int) != 0):=e;subst d;calc PySem.P.truthy_str () #[H,I.tok _,q]
 |byt y =>
  let(t,rfl):=o;obtain⟨G,d⟩:y.size<=my/\k=((y.size:Int) != 0):=e;subst d;calc PySem.W.truthy_bytes () #[H,I.tok _,q]
 |ref p =>
  cases o
  let d:(∃l,aV X.K H p l/\k=!l.isEmpty)\/(∃l,b9 X.K H p l/\k=!l.isEmpty)\/∃g,H p=U (.dK g)/\k=!g.isEmpty:=e;rcases d with⟨l,hx,d⟩|⟨l,hx,d⟩|⟨g,hx,d⟩
  .subst d;let(B,r,z,D):=I.list hx;let j:=⇑r;exact wpAny_truthy_list z.isList (by simp only[P4];omega) #[H,I.tok _,by rw[tK r];calc q]
  .subst d;let(B,r,z,D):=I.tuple hx;let j:=⇑r;exact truthy_tuple z (by simp only[P4];omega) #[H,I.tok _,by rw[tK r];calc q]
  .subst d;obtain⟨D,J,u,r,m⟩:⇑g<=my/\(p == RM)=AE/\∃u,KV g u/\s.heap.DictOf (aW X.prog X.w) p u:=I.hok p _ hx;let j:⇑g=⇑u:=Paired.length r;calc wpAny_truthy_dict J m () #[H,I.tok _,by rw[zZ r];calc q]
 |_=>calc(show False from e).elim
def yz (p:PE X a ta)(o:∀d,isTrue a X.env d=(do let v ←d;WN a.pos;Vy [v] (truthy v))):
  PT X a (λg H Q=>ta g H λx j=>∃k,JY X.K x j k/\Q k j):=by
 intro e s g H Q I h;calc isTrue_plain (cQ (p e s g H _ I h) λv l ⟨x,r,q,m,q1⟩=>JZ e l g r x v Q q m q1) (o _)
def mj :nY X (SI .Add) (λx y H Q=>∃i j,x=.str i/\y=.str j/\⇑i+⇑j<=my/\Q (.str (i++j)) H):=by
 intro d s o H x y v u Q I l g h;let(i,j,rfl,rfl,m,q):=h;let(t,rfl):=l;let(e,rfl):=g;calc add_str (λe p=>#[.str (i++j),H,I.tok _,#[_,rfl],q]) m
def vals1 (r:Vals [x] us):∃u,us=[u]/\RelV x u:=by
 cases r with
 |cons r1 r2=>cases r2;calc#[_,rfl,r1]
def vals2 (r:Vals [x,y] us):∃u d,us=[u,d]/\RelV x u/\RelV y d:=by
 cases r with
 |cons r1 r2 =>
  cases r2 with
  |cons r3 r4=>cases r4;calc#[_,_,rfl,r1,r3]
def iy :iQ X (.type "int") (λxs H Q=>(∃i,xs=[.int i]/\Q (.int i) H)\/∃k,xs=[.bl k]/\Q (.int (if k then 1 else 0)) H):=by
 intro d s g H xs j Q I r h;rcases h with⟨i,rfl,q⟩|⟨k,rfl,q⟩
 .have(u,rfl,t,rfl):=vals1 r;exact call_int_int #[.int i,H,I,#[_,rfl],q]
 .have(u,rfl,e):=vals1 r
  cases e
  calc call_int_bool #[.int (if k then 1 else 0),H,I.tok _,#[_,rfl],q]
structure BZ(h:Heap) (x dx C:AB) (mA:AA->AF eT):Prop where
 obj:h.get? x=U (Sh C dx)
 ns:h.Ns1 dx mA
 ne:dx≠x
def B0 {h:Heap}(n:h.Ns1 l g):∃od,h.get? l=U od/\∀name,We name od=U (g name):=by
 let(o,j,B,p,hd,u,_,r):=n;calc#[o,p,λname=>?_];let e:=r name;unfold Yl findBy at e;rw[<-XS]at e;unfold We;rw[hd];dsimp only
 split
 .rename_i y q
  rw[q]at e;exact congrArg U e
 .rename_i q
  rw[q]at e
  let a:j.toList.any (·.refKey)=AE:=by
   rw[UD];intro y m;let(z,t,d):=u y (Vf.mp m);simp[SV.refKey,d]
  let v:¬j.toList.any (·.refKey)=AD:=by rw[a];exact Qf
  rw[if_neg v];calc congrArg U e
def BZ.look (I:BZ h x e C d):∃od,PySem.W.InstAt h x (Sh C e) C (U od)/\∀name,We name od=U (d name) :=
 let⟨od,ho,hl⟩:=B0 I.ns
 #[od,#[I.obj,rfl,rfl,ho],hl]
def get_map {K:cB}(X:K.In s.heap)(I:BZ s.heap x dx C mA)(j:Ww K C name=AD)(g:Tg K C=AD)(ha:Q3 K (.ref C) name=U gV)(hv:mA name=U v)(hv':Ym v=AD)(h:Q v {s with toks:=s.toks+1}):
  PY (P9 prog w) A (YA (.ref x) name d) Q E s:=by
 let(l,J,e):=I.look;calc PySem.W.get_value X J (PySem.W.plainGet_of j).1 (PySem.W.findObj_own g ha rfl (by rw[e,hv])) hv' h
def Gf {K:cB}(X:K.In s.heap)(I:BZ s.heap x dx C mA)(hs:Q3 K (.ref C) "__setattr__"=U (U (.builtin "object.__setattr__")))(hp:X6 K C=AD)(ht:UQ K C name=U gV)(hh:Tg K C=AD)(hw:WM mA ns)(hsz:⇑ns<=my)(h:∀h',BZ h' x dx C (λy=>if y=name then U v else mA y)->R9 dx s.heap h'->Q Unit.unit {s with heap:=h',toks:=s.toks+2}):
  PY (P9 prog w) A (setAttr (.ref x) name v) Q E s:=by
 let(u,J,B):=I.look;calc PySem.W.set_plain X J hs (PySem.W.osa_open (s:={s with toks:=s.toks+1}) (r:=gV) X J hp ht λb=>?_);let(D,p,l):=PySem.W.any_some hh;let o:s.heap.get? x=U #[.ref C,U dx,.plain,#[]]:=I.obj;calc bN (rz (bN (bN (VE o (bN (PySem.W.Looks.here (s:={s with toks:=s.toks+1}) (PySem.W.looks_clsIn X p) ?_))))));rw[l];calc rz (a:=U dx) (bN (rz (bN ?_)));calc wpAny_nsSet1 (s:={s with toks:=s.toks+1}) I.ns λh' e d=>?_;let(z,q,t,g,j,m):=e.count (WM.cons name v hw);calc bN (wpAny_lookBehind g (by rw[j];calc pastItsLine_dict (Qq m (by rw[Qn];omega))) ?_);calc rz (h _ #[(d.2 _ (RP I.ne)).trans I.obj,e,I.ne] d)
def Du {K:cB}(X:K.In s.heap)(l:Yz K C=AD)(hi:Q3 K (.ref C) "__init__"=U (U (.ref f)))(hf:PySem.W.typeIn K (.ref f)=U (.type "function"))(h:RS (P9 prog w) (A.under (.builtin "type.__call__" #[.ref C::vs,j])) (.call (.ref f) #[.ref (s⁻¹+1)::vs,j]) (PySem.W.InitBack (s⁻¹+1) R)
   {s with heap:=(s.heap.push RE).push (Sh C s⁻¹)}):
  RS (P9 prog w) A (.call (.ref C) #[vs,j]) R s:=by
 let(o,g,d,t,m):=s;calc PySem.W.make_core (PySem.W.makes_of X l) (PySem.W.looks_findIn X hi) (λe=>PySem.W.bind_fn X e hf) (.inl rfl) h
meta def aX(f:AA)(v:V):MC (AA×V)->MC (AA×V)
 | []=>[(f,v)]
 |(g,x)::r=>if g=f then(g,v)::r else(g,x)::aX f v r
theorem rP (f g:AA)(v:V):∀fs:MC (AA×V),(aX f v fs).lookup g=if g=f then U v else fs.lookup g
 | []=>by
  show Sa g [(f,v)]=_
  by_cases h:g=f
  .have d:(g == f)=AD:=beq_iff_eq.mpr h;simp only[Sa,d,if_pos h]
  .have d:(g == f)=AE:=beq_eq_false_iff_ne.mpr h;simp only[Sa,d,if_neg h]
 |(k,x)::r=>by
  let l:=rP f g v r;rw[show aX f v ((k,x)::r)=(if k=f then(k,v)::r else(k,x)::aX f v r)from rfl]
  by_cases j:k=f
  .rw[if_pos j]
   by_cases h:g=k
   .have d:(g == k)=AD:=beq_iff_eq.mpr h;simp only[Sa,d,if_pos (h.trans j)]
   .have d:(g == k)=AE:=beq_eq_false_iff_ne.mpr h;simp only[Sa,d,if_neg (λe:g=f=>h (e.trans j.symm))]
  .rw[if_neg j]
   by_cases h:g=k
   .have d:(g == k)=AD:=beq_iff_eq.mpr h;simp only[Sa,d,if_neg (λe:g=f=>j (h.symm.trans e))]
   .have d:(g == k)=AE:=beq_eq_false_iff_ne.mpr h;simp only[Sa,d];calc l
theorem qQ (f:AA)(v:V):∀fs:MC (AA×V),f∈(aX f v fs).map (·.1)/\∀g,g∈fs.map (·.1)->g∈(aX f v fs).map (·.1)
 | []=>#[by simp[aX],λg h=>by simp at h]
 |(k,x)::r=>by
  let(l,j):=qQ f v r;rw[show aX f v ((k,x)::r)=(if k=f then(k,v)::r else(k,x)::aX f v r)from rfl]
  by_cases d:k=f
  .rw[if_pos d];subst d;exact#[by simp,λg h=>by simpa using h]
  .rw[if_neg d];refine#[?_,λg h=>?_]
   .rw[Qd];exact Q5 _ l
   .rw[Qd]at h|-;rcases P1.mp h with e|e
    .exact P1.mpr (.inl e)
    .exact Q5 _ (j g e)
theorem rQ (f:AA)(v:V):∀fs:MC (AA×V),⇑(aX f v fs)<=⇑fs+1
 | []=>by simp[aX]
 |(k,x)::r=>by
  let e:=rQ f v r;rw[show aX f v ((k,x)::r)=(if k=f then(k,v)::r else(k,x)::aX f v r)from rfl]
  by_cases d:k=f
  .rw[if_pos d,Qn,Qn];omega
  .rw[if_neg d,Qn,Qn];omega
def lD.some_of (r:lD (U v) o):∃u,o=U u/\RelV v u:=by
 cases o with
 |none=>calc(show False from r).elim
 |some u=>calc#[u,rfl,r]
def vj (r:RelV v u):Ym u=AD:=by
 cases v with
 |gu=>cases(show u=Value.none from r);rfl
 |bl b=>cases(show u=Value.bool b from r);rfl
 |int i=>let(t,e):=(show ∃t,u=Value.int i t from r);cases e;rfl
 |str x=>let(t,e):=(show ∃t,u=Value.str x t from r);cases e;rfl
 |byt b=>let(t,e):=(show ∃t,u=Value.bytes b t from r);cases e;rfl
 |flt b=>let(t,e):=(show ∃t,u=Value.float b t from r);cases e;rfl
 |ref a=>cases(show u=Value.ref a from r);rfl
 |ty n=>cases(show u=Value.type n from r);rfl
def A6 (j:nh P w H h)(e:H a=U (.ins C dx fs)):∃g,BZ h a dx C g/\(∀f,lD (fs.lookup f) (g f))/\WM g (fs.map (·.1))/\⇑fs<=1000/\H dx=U (.own a):=by
 let(d,z,m,l,g,n,r,q):=(show eW P w H h a (.ins C dx fs)from j a _ e);calc#[g,#[l,n,m],r,q,z,d]
structure Jf(K:cB) (C:AB):Prop where
 pg:Ww K C Qi=AD
 hd:Tg K C=AD
 po:X6 K C=AD
 sa:Q3 K (.ref C) "__setattr__"=U (U (.builtin "object.__setattr__"))
def Jf.get {K:cB}(c:Jf K C)(f:AA):Ww K C f=AD:=c.pg
meta def jP(K:cB)(C:AB)(f:AA):Prop:=Q3 K (.ref C) f=U gV
def jP.Me {K:cB}(n:jP K C f):UQ K C f=U gV:=by
 unfold UQ;rw[show Q3 K (.ref C) f=U gV from n];rfl
structure Meth(K:cB) (C:AB) (m:AA) (f:AB):Prop where
 at_:Q3 K (.ref C) m=U (U (.ref f))
 fn:PySem.W.isFn K (.ref f)=AD
 kp:R3 K (.ref f)=AD
def Aa (I:Inv X pins σ H s)(e:H a=U (.ins C dx fs))(c:Jf X.K C)(n:jP X.K C f)(l:fs.lookup f=U v)(h:∀u s',Inv X pins σ H s'->RelV v u->Q u s'):PY (P9 X.prog X.w) A (YA (.ref a) f b) Q E s:=by
 let(g,O,r,_,_,_):=A6 I.hok e;let(u,j,d):=lD.some_of (v:=v) (o:=g f) (by rw[<-l];calc r f);calc get_map I.tu O (c.get f) c.hd n j (vj d) (h u _ (I.tok _) d)
def Ab (I:Inv X pins σ H s)(e:H a=U (.ins C dx fs))(c:Jf X.K C)(n:jP X.K C f)(L:⇑fs<1000)(t:RelV y u)(h:∀s',Inv X pins σ (upd H a (.ins C dx (aX f y fs))) s'->Q Unit.unit s'):PY (P9 X.prog X.w) A (setAttr (.ref a) f u) Q E s:=by
 let(l,O,r,j,_,m):=A6 I.hok e;let B:⇑(fs.map (·.1))<=my:=by rw[bM,TL];omega
 calc Gf I.tu O c.sa c.po n.Me c.hd j B λJ d p=>h _ ?_;let hd:∃o,J.get? dx=U o:=let⟨o,_,_,e',_⟩:=d.ns;#[o,e'];calc I.write (x:=a) (e:=dx) (by rw[e];calc True.intro) (.inr m) (λb q G z=>(p.2 b G).trans z) hd ?_;refine#[by rw[aB O.ne];calc m,?_,O.ne,d.obj,_,d.ns,λg=>?_,λg D=>?_]
 .have:=rQ f y fs;omega
 .show lD ((aX f y fs).lookup g) (if g=f then U u else l g);rw[rP]
  by_cases q:g=f
  .rw[if_pos q,if_pos q];exact t
  .rw[if_neg q,if_neg q];exact r g
 .by_cases q:g=f
  .rw[q];exact(qQ f y fs).1
  .refine(qQ f y fs).2 g (j g λz=>D ?_);show(if g=f then U u else l g)=gV;rw[if_neg q];calc z
def Inv.made (I:Inv X pins σ H s):Inv X pins σ (upd (upd H s⁻¹ (.own (s⁻¹+1))) (s⁻¹+1) (.ins C s⁻¹ []))
  {s with heap:=(s.heap.push RE).push (Sh C s⁻¹)}:=by
 let g:(s.heap.push RE).get? s⁻¹=U RE:=P5 s.heap rfl
 let p:((s.heap.push RE).push (Sh C s⁻¹)).get? (s⁻¹+1)=U (Sh C s⁻¹):=by
  let:=P5 (s.heap.push RE) (o:=Sh C s⁻¹) rfl
  rwa [Q6]at this
 let m:(s.heap.push RE).Ns s⁻¹ (λ_=>gV):=#[RE,#[],_,g,rfl,(λe l=>absurd l (by simp)),λ_=>rfl];let r:=I.laid (a:=s⁻¹) (o:=.own (s⁻¹+1)) (h':=s.heap.push RE) (t':=s.toks) (λb u q=>u5 _ q) (u4 _) #[_,g];calc r.laid (a:=s⁻¹+1) (o:=.ins C s⁻¹ []) (t':=s.toks) (λb u q=>u5 _ q) (WO (Q6 _ _)) ?_;let d:s⁻¹≠s⁻¹+1:=Qs (S8 _);refine#[by rw[aB d,aj],Qc _,d,p,λ_=>gV,(Heap.Ns1.of_empty m).at λo q=>u5 _ q,λ_=>True.intro,λy j=>absurd rfl j]
def A7 (j:Tr e f d (eval e d)=eval e d)(h:PY (P9 prog w) A (eval e d) (λo g=>PY (P9 prog w) A (YA o f AD) Q E g) E s):PY (P9 prog w) A (eval (.Attribute e f pos) d) Q E s :=
 Attribute_any_ h (by rw[arm_eval_Attribute,j])
meta def NI(K:cB)(ta:TE)(f:AA):TE:=λe H Q=>ta e H λx d=>∃a C g fs v,x=.ref a/\d a=U (.ins C g fs)/\Jf K C/\jP K C f/\fs.lookup f=U v/\Q v d
meta def NJ(K:cB)(ta j:TE)(f:AA):TS:=λD d H=>j d H λy l=>ta d l λx g=>∃a C e fs,x=.ref a/\g a=U (.ins C e fs)/\Jf K C/\jP K C f/\⇑fs<1000 /\
 D.nx d (upd g a (.ins C e (aX f y fs)))
def kB (p:PE X e ta)(r:Tr e f X.env (eval e X.env)=eval e X.env):PE X (.Attribute e f pos) (NI X.K ta f):=by
 intro d s g H Q I h;calc A7 r (cQ (p d s g H _ I h) λu J ⟨x,B,z,j,a,C,L,fs,v,ex,t,c,n,l,q⟩=>?_);subst ex;obtain rfl:u=Value.ref a:=j;calc Aa z t c n l λD G y m=>#[v,B,y,m,q]
def qR {o value:Expr}{f:AA}{pos pos':Pos}{ta tv:TE}(z:PE X o ta)(v:PE X value tv)(hs:U6 value (U (.Attribute o f pos')) pos.line X.env=pure AE):PS X (.Assign [.Attribute o f pos'] value pos) (NJ X.K ta tv f):=by
 intro d s g H D I h;calc UR (cQ (v d s g H _ I h) λu j ⟨y,M,L,m,q⟩=>cQ (z d j g M _ L q) λt O ⟨x,R,J,p,a,C,Q,fs,ex,B,c,n,l,r⟩=>?_) hs;subst ex;obtain rfl:t=Value.ref a:=p;calc Ab J B c n l m λN G=>#[g,_,G,r]
structure dZ(k:Nat) (A:Qk):Prop where
 hd:A.handled=gV
 dp:A.depth+2*k+5<recursionLimit
 un:A.units+16*k+200<US
 gd:A.guards=U []
def dZ.mono (r:dZ k A)(h:j<=k):dZ j A:=#[r.hd,by let:=r.dp;omega,by let:=r.un;omega,r.gd]
def dZ.deeper (r:dZ (k+1) A)(d:Env):dZ k (A.deeper d) :=
 #[r.hd,by let:=r.dp;show A.depth+1+2*k+5<_;omega,by let:=r.un;show A.units+3+16*k+200<_;omega,r.gd]
def Ac {A:Qk}:(A.under (.builtin "type.__call__" #[.ref C::us,d])).depth=A.depth+1:=by
 first|rfl|simp[WQ,Code.weight,Code.isCreation,Code.isGuard,Code.isCaller,Code.frames,X7,guardIds]
def Ad {A:Qk}:(A.under (.builtin "type.__call__" #[.ref C::us,d])).units=A.units+1:=by
 first|rfl|simp[WQ,Code.cUnits,Code.frames,X7]
def yC {A:Qk}:(A.under (.builtin "type.__call__" #[.ref C::us,d])).guards=A.guards:=by
 first|rfl|simp[WQ,pushGuards,Code.guards,Code.isGuard,guardIds]
def dZ.make (r:dZ (k+1) A)(C:AB)(us:List eT)(d:MC (AA×eT)):dZ k (A.under (.builtin "type.__call__" #[.ref C::us,d])) :=
 #[r.hd,by let:=r.dp;rw[Ac];omega,by let:=r.un;rw[Ad];omega,by rw[yC];calc r.gd]
def dZ.depth (r:dZ k A):A.depth<recursionLimit:=by let:=r.dp;omega
def dZ.units (r:dZ k A):A.units+64<US:=by let:=r.un;omega
abbrev tL:TA:=λ_ H Q=>Q [] H
abbrev O1(x:V)(Q:MC V->Hp->Prop):MC V->Hp->Prop:=λd e=>Q (x::d) e
abbrev O2(tr:TA)(d:St)(Q:MC V->Hp->Prop):VK:=λx e=>tr d e (O1 x Q)
abbrev kF(ta:TE)(tr:TA):TA:=λd H Q=>ta d H (O2 tr d Q)
def ak :PA X [] tL:=λ_ _ _ _ H Q I h=>V5 #[[],H,I,.nil,h]
def bR (p:PE X e te)(hr:PA X es t)(hs:QS (e::es) X.env=(AE,eval e X.env)::QS es X.env:=by rfl):PA X (e::es) (kF te t):=by
 intro pos d s g H Q I h;rw[hs];show PY _ _ (spliced ((AE,eval e X.env)::UC pos (QS es X.env))) _ _ s;calc Ui (cQ (p d s g H _ I h) λu l ⟨x,y,r,m,q1⟩=>?_);calc cQ (hr pos d l g y _ r q1) λz B ⟨j,v,q,r2,o⟩=>#[x::j,v,q,.cons m r2,o]
meta def O3(Q:VK):MC V->Hp->Prop:=λd g=>⇑d<=my/\∀p,g p=gV->Q (.ref p) (upd g p (.J d))
meta def O4(Q:VK):MC V->Hp->Prop:=λd g=>⇑d<=my/\∀p,g p=gV->Q (.ref p) (upd g p (.Y d))
abbrev uS(t:TA):TE:=λd H Q=>t d H (O3 Q)
abbrev J0(t:TA):TE:=λd H Q=>t d H (O4 Q)
def eO {es:MC Expr}{t:TA}{pos:Pos}{x1}(h:PA X es t):PE X (.Tuple es x1 pos) (uS t):=by
 intro d s m H Q I v;calc wpAny_Tuple_spliced (cQ (h pos d s m H _ I v) λp g ⟨o,l,j,r,z,q⟩=>#[by rw[<-⇑r];calc z,?_]);let y:l g⁻¹=gV:=j.hok.fresh (u4 _);calc#[.ref g⁻¹,upd l g⁻¹ (.J o),j.laid (t':=g.toks) (λb u e=>u5 _ e) (u4 _) ?_,rfl,q _ y];calc#[z,p,r,#[_,P5 _ rfl,rfl,_,rfl],_,P5 _ rfl,rfl]
def aZ {es:MC Expr}{t:TA}{pos:Pos}(h:PA X es t):PE X (.List es pos) (J0 t):=by
 intro d s m H Q I v;calc wpAny_List_spliced (cQ (h pos d s m H _ I v) λp g ⟨o,l,j,r,z,q⟩=>#[by rw[<-⇑r];calc z,?_]);let y:l g⁻¹=gV:=j.hok.fresh (u4 _);calc#[.ref g⁻¹,upd l g⁻¹ (.Y o),j.laid (t':=g.toks) (λb u e=>u5 _ e) (u4 _) ?_,rfl,q _ y];calc#[z,p,0,r,P5 _ rfl]
abbrev Sp:=MC V->Hp->VK->XK->Prop
abbrev yn:=MC Env->Hp->fy->XK->eT->fy->Prop
structure Ae(P:L0) (w:Qe) (K:cB) (mg:AA->AF eT) (base:Heap) (A:Qk) (outer:MC Env) (s:fy) (H:Hp):Prop where
 frames:A.frames=U outer
 mod:Mod K mg base
 bs:∀b o,base.get? b=U o->s.heap.get? b=U o/\H b=gV
 bsz:base.objs.size<=s⁻¹
 qL:s.heap.FunFrames base outer
 frf:∀b∈frs outer,H b=gV
 hok:nh P w H s.heap
 bare:Vx s.gens
meta def CE(outer:MC Env)(P:L0)(w:Qe)(H:Hp)(s:fy)(Q:VK)(u:eT)(s':fy):Prop :=
 ∃v d,s'.os=s.os/\Vx s'.gens/\Un (frs outer) [] H d s.heap s'.heap/\nh P w d s'.heap/\RelV v u/\Q v d
meta def CR(CX:yn)(outer:MC Env)(P:L0)(w:Qe)(H:Hp)(s:fy)(Q:VK)(E:XK)(r:Uh)(s':fy):Prop :=
 match r with
 |.ok (.ret u)=>CE outer P w H s Q u s'
 |.ok _=>False
 |.error e=>CX outer H s E e s'
structure cD(P:L0) (w:Qe) (K:cB) (mg:AA->AF eT) (base:Heap) (CX:yn) (k:Nat) (f:AB) (fd:PZ) (ps:List AA) (sp:Sp):Prop where
 len:∀vs H Q E,sp vs H Q E->⇑vs=⇑ps
 run:∀(A:Qk) (outer:MC Env) (s:fy) (H:Hp) (args:Args) (us:List eT) (vs:MC V) (Q:VK) (E:XK),dZ k A->Ae P w K mg base A outer s H->X8 s fd args (ps.zip us)->Vals vs us->sp vs H Q E ->
  RS (P9 P w) A (.call (.ref f) args) (CR CX outer P w H s Q E) s
def Ae.make {K:cB}(e:Ae P w K mg base A outer s H)(C:AB)(us:List eT)(d:MC (AA×eT)):
  Ae P w K mg base (A.under (.builtin "type.__call__" #[.ref C::us,d])) outer s H:=#[by first|calc e.frames|(simpa[WQ,Code.envs,X7,pushEnvs]using e.frames),e.mod,e.bs,e.bsz,e.qL,e.frf,e.hok,e.bare]
def Inv.Ka (I:Inv X pins σ H s):Ae X.prog X.w X.K X.mg X.base X.A X.stack s H :=
 #[I.ok.frames,I.ok.mod,I.bs,Qq I.ok.bsz I.sz,I.stack,I.wG,I.hok,I.bare]
def Inv.after (I:Inv X pins σ H s)(h:CE X.stack X.prog X.w H s Q u s'):EP X pins σ Q u s':=by
 let(v,p,m,e,un,l,r,q):=h;let(o,g,d,t,j):=s';obtain rfl:j=s.os:=m;calc#[v,p,I.call (h':=o) (g':=g) (d':=d) (t':=t) (ch:=[]) un l e (λb z=>absurd z (by simp)),r,q]
abbrev O5(sp:Sp)(d:MC V)(E:XK)(Q:VK):MC V->Hp->Prop:=λe g=>sp (e++d) g Q E
abbrev Mf(sp:Sp)(d:MC V)(E:XK)(t:TA):TE:=λe H Q=>t e H (O5 sp d E Q)
meta def Mg(C:AB)(sp:Sp)(e:MC V)(E:XK)(t:TA):TE:=λj H Q=>t j H λl g=>∀x d,g x=gV->g d=gV->d≠x ->
 sp (.ref x::(l++e)) (upd (upd g d (.own x)) x (.ins C d [])) (λv m=>v=.gu/\Q (.ref x) m) E
meta def Binds(K:cB)(e:PZ)(ps:List AA)(ds:List eT):Prop :=
 ∀(s:fy) (d:List eT),K.In s.heap->⇑(d++ds)=⇑ps->X8 s e #[d,[]] (ps.zip (d++ds))
def Binds.all {K:cB}(h:∀us:List eT,⇑us=⇑ps->bindArgs e #[us,[]]=pure (ps.zip us)):Binds K e ps []:=λs us _ d=>by
 rw[QM]at d|-;calc .of_eq (h us d)
meta def Passes(CX:yn)(X:Cx)(E:XK):Prop:=∀(d:MC (AB×Obj)) (j:St) (H:Hp) (s:fy) (e:eT) (g:fy),Inv X d j H s->CX X.stack H s E e g->X.xe e g
def Kc {sp:Sp}(F:cD X.prog X.w X.K X.mg X.base CX k f fd ps sp)(hr:dZ k X.A)(y:Binds X.K fd ps ds)(hd:Vals dvs ds)(q:Passes CX X E)(I:Inv X d j H s)(r:Vals vs us)(h:sp (vs++dvs) H Q E):PY (P9 X.prog X.w) X.A (call (.ref f) us) (EP X d j Q) X.xe s:=by
 let r2:Vals (vs++dvs) (us++ds):=r.append hd;let v:⇑(us++ds)=⇑ps:=by rw[<-⇑r2];exact F.len _ _ _ _ h
 refine U8 (Th (F.run X.A X.stack s H #[us,[]] (us++ds) (vs++dvs) Q E hr I.Ka (y s us I.tu v) r2 h) λr l g=>?_)
 cases r with
 |error e=>calc q d j H s e l I g
 |ok fl =>
  cases fl with
  |ret u=>calc I.after g
  |next=>calc Rr g
  |brk=>calc Rr g
  |cont=>calc Rr g
def eV {CX:yn}{k:Nat}{f:AB}{fd:PZ}{ps:List AA}{sp:Sp}{dvs:MC V}{ds:List eT}{E:XK}{x:AA}{p pos:Pos}{e:Expr}{es:MC Expr}{t:TA}(F:cD X.prog X.w X.K X.mg X.base CX k f fd ps sp)(hr:dZ k X.A)(y:Gl X x)(u:X.mg x=U (.ref f))(v:R3 X.K (.ref f)=AD)(z:Binds X.K fd ps ds)(hd:Vals dvs ds)(l:Passes CX X E)(ha:PA X (e::es) t)(hdb:(x == ("__debug__":AA))=AE:=by decide)(he:QS (e::es) X.env=(AE,eval e X.env)::QS es X.env:=by rfl)(hpl:(UC pos (QS es X.env)).any (·.1)=AE:=by rfl):
  PE X (.Call (.Name x p) (e::es) [] pos) (Mf sp dvs E t):=by
 intro d s j H Q I h;calc Rx (pN I y u ?_ hdb);calc XT (h₀:=X.base) I.ok.mod.kin v (cQ (ha pos d s j H _ I h) λD G ⟨B,J,g,r,q⟩=>#[g.tu,?_]) he hpl;calc Kc F hr z hd l g r q
structure Mk(K:cB) (C f:AB):Prop where
 makes:Yz K C=AD
 init:Q3 K (.ref C) "__init__"=U (U (.ref f))
 fn:PySem.W.isFn K (.ref f)=AD
 kp:R3 K (.ref C)=AD
def Dv {sp:Sp}(M:Mk X.K C f)(F:cD X.prog X.w X.K X.mg X.base CX k f fd ps sp)(hr:dZ (k+1) X.A)(J:Binds X.K fd ps ds)(hd:Vals dvs ds)(hx:Passes CX X E)(I:Inv X d q H s)(r:Vals vs us)(h:∀x j,H x=gV->H j=gV->j≠x->sp (.ref x::(vs++dvs)) (upd (upd H j (.own x)) x (.ins C j [])) (λv O=>v=.gu/\Q (.ref x) O) E):
  PY (P9 X.prog X.w) X.A (call (.ref C) us) (EP X d q Q) X.xe s:=by
 let y:=h (s⁻¹+1) s⁻¹ (I.hok.fresh (QT _)) (I.hok.fresh (u4 _)) (Qs (S8 _));let l:=Inv.made (C:=C) I;let r2:Vals (V.ref (s⁻¹+1)::(vs++dvs)) (Value.ref (s⁻¹+1)::(us++ds)):=.cons rfl (r.append hd)
 let G:⇑(Value.ref (s⁻¹+1)::us++ds)=⇑ps:=by
  let e:=⇑r2;rw[F.len _ _ _ _ y]at e;exact e.symm
 refine U8 (Du (f:=f) I.tu M.makes M.init (beq_iff_eq.mp M.fn) (Th (F.run _ X.stack _ _ #[Value.ref (s⁻¹+1)::us,[]] (Value.ref (s⁻¹+1)::(us++ds)) _ _ E (hr.make C us [])
  (l.Ka.make C us []) (J _ (Value.ref (s⁻¹+1)::us) l.tu G) r2 y) λr z g=>?_))
 cases r with
 |error e=>calc hx d q _ _ e z l g
 |ok fl =>
  cases fl with
  |ret u =>
   let(v,R,N,B,L,D):=l.after g;subst L;calc#[B,#[V.ref (s⁻¹+1),R,N,rfl,D]]
  |next=>calc Rr g
  |brk=>calc Rr g
  |cont=>calc Rr g
def Gg {CX:yn}{k:Nat}{f C:AB}{fd:PZ}{ps:List AA}{sp:Sp}{dvs:MC V}{ds:List eT}{E:XK}{x:AA}{p pos:Pos}{e:Expr}{es:MC Expr}{t:TA}(M:Mk X.K C f)(F:cD X.prog X.w X.K X.mg X.base CX k f fd ps sp)(hr:dZ (k+1) X.A)(v:Gl X x)(u:X.mg x=U (.ref C))(y:Binds X.K fd ps ds)(hd:Vals dvs ds)(l:Passes CX X E)(ha:PA X (e::es) t)(hdb:(x == ("__debug__":AA))=AE:=by decide)(he:QS (e::es) X.env=(AE,eval e X.env)::QS es X.env:=by rfl)(hpl:(UC pos (QS es X.env)).any (·.1)=AE:=by rfl):
  PE X (.Call (.Name x p) (e::es) [] pos) (Mg C sp dvs E t):=by
 intro d s j H Q I h;calc Rx (pN I v u ?_ hdb);calc XT (h₀:=X.base) I.ok.mod.kin M.kp (cQ (ha pos d s j H _ I h) λB D ⟨z,G,g,r,q⟩=>#[g.tu,?_]) he hpl;calc Dv M F hr y hd l g r q
structure aY(N P:List AA) (sc:Rt):Prop where
 kind:sc.kind=.function
 co:sc.isCoroutine=AE
 gen:sc.isGenerator=AE
 nd:N.Nodup
 pre:N.take ⇑P=P
 par:∀x∈P,sc.names.lookup x=U .local\/sc.names.lookup x=U .cell
 nofree:∀y∈sc.names,y.2≠.free
theorem vm :∀{binds:MC (AA×eT)}{m:AA->AF eT},(∀v,(x,v)∉binds)->YE d binds m x=m x
 | [],_,_=>rfl
 |(n,v)::r,m,h=>by
  unfold YE;rw[vm λw e=>h w (Q5 _ e)]
  split
  .have:x≠n:=by rintro rfl;exact h v SH
   simp[this]
  .rfl
theorem vq :∀{binds:MC (AA×eT)}{m:AA->AF eT},(∀v,(x,v)∉binds)->YF d binds m x=m x
 | [],_,_=>rfl
 |(n,v)::r,m,h=>by
  unfold YF;rw[vq λw e=>h w (Q5 _ e)]
  split
  .rfl
  .have:x≠n:=by rintro rfl;exact h v SH
   simp[this]
theorem vy :∀{P:List AA}{vs:List eT}{i:Nat}{m:AA->AF eT},P.Nodup->P[i]?=U x->vs[i]?=U v->d x=U .local ->
  YE d (P.zip vs) m x=U v
 | [],_,_,_,_,h,_,_=>by simp at h
 |_::_,[],_,_,_,_,h,_=>by simp at h
 |p::P,w::vs,0,m,nd,h1,h2,hk=>by
  simp at h1 h2;subst h1;subst h2;show YE d ((p,w)::P.zip vs) m p=_;unfold YE;rw[vm λv e=>(RZ.mp nd).1 (R0 e).1,if_pos hk];simp
 |p::P,w::vs,i+1,m,nd,h1,h2,hk=>by
  show YE d ((p,w)::P.zip vs) m x=_;unfold YE;calc vy (i:=i) (RZ.mp nd).2 (by simpa using h1) (by simpa using h2) hk
theorem vz :∀{P:List AA}{vs:List eT}{i:Nat}{m:AA->AF eT},P.Nodup->P[i]?=U x->vs[i]?=U v->d x≠U .local ->
  YF d (P.zip vs) m x=U v
 | [],_,_,_,_,h,_,_=>by simp at h
 |_::_,[],_,_,_,_,h,_=>by simp at h
 |p::P,w::vs,0,m,nd,h1,h2,hk=>by
  simp at h1 h2;subst h1;subst h2;show YF d ((p,w)::P.zip vs) m p=_;unfold YF;rw[vq λv e=>(RZ.mp nd).1 (R0 e).1,if_neg hk];simp
 |p::P,w::vs,i+1,m,nd,h1,h2,hk=>by
  show YF d ((p,w)::P.zip vs) m x=_;unfold YF;calc vz (i:=i) (RZ.mp nd).2 (by simpa using h1) (by simpa using h2) hk
meta def start(N:List AA)(vs:MC V):St:=vs.map U++P7 (⇑N-⇑vs) gV
meta def uT(CX:yn)(P:L0)(w:Qe)(K:cB)(mg:AA->AF eT)(base:Heap)(N:List AA)(d:AA)(scope:Rt)(f:AB)(j:eT)(A:Qk)(outer:MC Env)(s:fy)(H:Hp)(E:XK):Cx where
 prog:=P
 w:=w
 K:=K
 mg:=mg
 base:=base
 A:=A.deeper (Qj d scope s⁻¹ f j)
 N:=N
 s₀:=s
 H₀:=H
 env:=Qj d scope s⁻¹ f j
 outer:=outer
 stack:=Qj d scope s⁻¹ f j::outer
 ex:=[]
 calm:=AD
 fn:=λ_=>AD
 pn:=[]
 xe:=λe l=>PY (P9 P w) (A.deeper (Qj d scope s⁻¹ f j)) (leaving (Qj d scope s⁻¹ f j) e) (λ_ g=>CX outer H s E e g) (λm g=>CX outer H s E m g) l
def yD {d:Rt}(h:d.names.lookup x=U .cell):∃c,(Yn n d.names []).lookup x=U c:=by
 let q:=UE d.names n [] (.inl h);calc Wg.mp q
def vD {K:cB}(S:aY N ps scope)(hd:A.handled=gV)(e0:Ae P w K mg base A outer s H)(hl:⇑vs=⇑ps)(r:Vals vs us)(x:InCallC s s⁻¹ (YE (Qj d scope s⁻¹ f B).kindOf (ps.zip us) λ_=>gV) (Yn (s⁻¹+1) scope.names []) (YF (Qj d scope s⁻¹ f B).kindOf (ps.zip us) λ_=>gV) C):
  Inv (uT CX P w K mg base N d scope f B A outer s H E) [] (start N vs) H C:=by
 let J:⇑ps<=⇑N:=by let:=congrArg Us S.pre;rw[I0]at this;omega
 let(t,M,rfl,G):=x.done;let j:∀b:AB,b∉(uT CX P w K mg base N d scope f B A outer s H E).ex:=λb z=>absurd (show b∈([]:List AB)from z) (by simp)
 refine#[#[e0.mod,S.kind,rfl,rfl,u4 _,λy z c t g=>?_,λy hy=>?_,λy c _ h=>?_,λ_=>hd,Qk.frames_deeper e0.frames,.inr #[rfl,rfl],λb z=>absurd z (j b),e0.bs,e0.bsz,λb _ _=>j b,λb z=>absurd z (j b),e0.qL,e0.frf],
  rfl,e0.bare,Un.kept G,#[_,x.toInCall.ns,λi y v t g O=>?_],λy c h=>#[_,x.cell y c h],e0.hok.fresh (u4 _),λy c h=>?_,λp m=>absurd (show p∈([]:MC (AB×Obj))from m) (by simp),e0.hok.kept G,?_]
 .exact name_of_addr x.apart (RC t) (RC g)
 .have hy:scope.names.lookup y=U .cell\/scope.names.lookup y=U .free:=hy;rcases hy with hy|hy
  .exact yD hy
  .exact absurd rfl (S.nofree _ (RC hy))
 .exact QB (x.above y c (RC h))
 .have o:i<⇑vs:=by
   unfold start at g
   by_cases o:i<⇑vs
   .exact o
   .rw[QZ (by simpa using o)]at g;rw[Ut]at g
    split at g<;>cases g
  let L:vs[i]?=U v:=by
   unfold start at g;rw[Ri (by simpa using o),EF]at g
   cases e:vs[i]? with
   |none=>rw[e]at g;cases g
   |some a=>rw[e]at g;cases g;rfl
  let(u,D,I):=r.get L
  let m:ps[i]?=U y:=by
   rw[<-S.pre,List.getElem?_take_of_lt ()];exact t
  let l:ps.Nodup:=by rw[<-S.pre];exact S.nd.sublist (Tw _ _)
  calc#[u,I,?_];rcases S.par y (P6 m)with k|k
  .exact .inl #[k,vy l m D k]
  .have(c,e):=yD (n:=s⁻¹+1) k;calc .inr #[.inl k,c,e,?_];let q:=x.cell y c e;rw[vz l m D (by show scope.names.lookup y≠_;rw[k];decide)]at q;exact q
 .exact e0.hok.fresh (QB (x.above y c (RC h)))
 .unfold start;show _=⇑N;rw[mu,bM,UT];omega
def Jg {K:cB}{T kV:eT}{sp:Sp}(lk:K.lookup f=U #[oc,od,.func (UG name d g j scope T kV D R X cdv ct),osl])(hcd:Wh K cdv d=AD)(S:aY N ps scope)(len:∀vs H Q E,sp vs H Q E->⇑vs=⇑ps)(hbody:∀(A:Qk) (outer:MC Env) (s:fy) (H:Hp) (vs:MC V) (Q:VK) (E:XK),dZ k (A.deeper (Qj d scope s⁻¹ f cdv))->sp vs H Q E ->
   ∃t,rN (uT CX P w K mg base N d scope f cdv A outer s H E) j t/\t {nx:=λ_ m=>Q .gu m,rt:=Q} (start N vs) H):
  cD P w K mg base CX (k+1) f (UG name d g j scope T kV D R X cdv ct) ps sp:=by
 calc#[len,λA outer s H gD Z vs Q E hr C hb r B=>?_];let hl:=len _ _ _ _ B;let Y:K.In s.heap:=C.mod.kin.keeps λb o e=>(C.bs b o e).1;let M:s.heap.NoLimit:=C.mod.nolimit.keeps λb o e=>(C.bs b o e).1
 let p:∀y∈ps.zip Z,scope.names.lookup y.1=U .local\/(scope.names.lookup y.1=U .cell/\((Yn (s⁻¹+1) scope.names []).lookup y.1).isSome=AD):=λ⟨n,v⟩ hy=>by
  rcases S.par n (R0 hy).1 with q|q
  .exact .inl q
  .exact .inr #[q,UE _ _ _ (.inl q)]
 calc W9 hr.depth (Y _ _ lk) rfl S.co S.gen rfl (XU Y hcd) (hb _ _ _ _ ?_);calc VF S.kind p λaa he O x=>?_;subst he;calc#[M.keeps x.toInCall.keep,codeAny_func ?_];let(t,ht,hq):=hbody A outer s H vs Q E (hr.deeper _) B;let I:Inv (uT CX P w K mg base N d scope f cdv A outer s H E) [] (start N vs) H O:=vD S hr.hd C hl r x;refine Qu (ht [] O (start N vs) H _ I hq) (λfl G z=>?_) λe G z=>z
 let fin:∀{l:St}{m:Hp}{v:V}{u:eT},Inv (uT CX P w K mg base N d scope f cdv A outer s H E) [] l m G->RelV v u->Q v m->CE outer P w H s Q u G :=
  λ{l m v u} J L q=>#[v,m,J.os,J.bare,J.base,J.hok,L,q]
 cases fl with
 |ret u =>
  let(v,l,m,J,L,q):=z;calc fin J L q
 |next =>
  let(l,m,J,q):=z;calc fin (v:=V.gu) (u:=Value.none) J rfl q
 |brk =>
  let(_,_,_,q):=z;calc Rr q
 |cont =>
  let(_,_,_,q):=z;calc Rr q
abbrev O6(r:MC V->Hp->VK->Prop)(Q:VK):MC V->Hp->Prop:=λd g=>r d g Q
abbrev NK(r:MC V->Hp->VK->Prop)(t:TA):TE:=λd H Q=>t d H (O6 r Q)
def pU {x:AA}{p pos:Pos}{e:Expr}{es:MC Expr}{t:TA}{id:String}{r:MC V->Hp->VK->Prop}(z:iQ X (.builtin id) r)(y:Gl X x)(v:X.mg x=gV)(u:UB x=U (.builtin id))(B:PA X (e::es) t)(hn:x≠"__name__":=by decide)(g:(x == ("__debug__":AA))=AE:=by decide)(he:QS (e::es) X.env=(AE,eval e X.env)::QS es X.env:=by rfl)(hpl:(UC pos (QS es X.env)).any (·.1)=AE:=by rfl):PE X (.Call (.Name x p) (e::es) [] pos) (NK r t):=by
 intro d s j H Q I h;calc Rx (ni I y v u ?_ hn g);calc PyProof.Rows.callWith_builtin1 (cQ (B pos d s j H _ I h) λm o ⟨l,D,C,q,q1⟩=>z d o j D l m Q C q q1) he hpl
def B3 {x:AA}{p pos:Pos}{e:Expr}{es:MC Expr}{t:TA}{T:String}{r:MC V->Hp->VK->Prop}(z:iQ X (.type T) r)(y:Gl X x)(v:X.mg x=gV)(u:UB x=U (.type T))(B:PA X (e::es) t)(hn:x≠"__name__":=by decide)(g:(x == ("__debug__":AA))=AE:=by decide)(he:QS (e::es) X.env=(AE,eval e X.env)::QS es X.env:=by rfl)(hpl:(UC pos (QS es X.env)).any (·.1)=AE:=by rfl):PE X (.Call (.Name x p) (e::es) [] pos) (NK r t):=by
 intro d s j H Q I h;calc Rx (ni I y v u ?_ hn g);calc Ru (cQ (B pos d s j H _ I h) λm o ⟨l,D,C,q,q1⟩=>z d o j D l m Q C q q1) he hpl
end L2
namespace HT
open PySem PyProof.Rows
section
open PySem.SeqAt
open PySem.AutoSeq1 (wpAny_loadPart')
open PySem.MeetsSeq PySem.MeetsSeq2 PySem.MeetsSeq3
end
def Gh (ht:YD s.heap t vs.toArray)(D:YD s.heap b d.toArray)(y:vs≠[])(h1:d=[]->Q (.ref t) s)(h2:d≠[]->Q (.ref s⁻¹) {s with heap:=s.heap.push {cls:=.type "tuple",data:=.seq (vs++d).toArray}})(hsz:⇑vs+⇑d<=my):PY (P9 prog w) A (SI .Add (.ref t) (.ref b)) Q E s:=by
 let((cls,B,data,u),q,z,n,hd):=id ht;let((C,o,r,j),g,m,v,l):=id D;simp only at z hd m l;subst z hd m l;let e:vs.toArray++d.toArray=(vs++d).toArray:=by simp
 by_cases p:d=[]
 .exact X9 #[_,q,rfl] #[_,g,rfl] Wx XJ UH Uu (Ub _ _)
   (tuple_addW1 t b vs.toArray d.toArray n v B o u j (by simpa using y) (by simp[p])) #[q,g,h1 p]
 .refine X9 #[_,q,rfl] #[_,g,rfl] Wx XJ UH Uu (Ub _ _)
   (tuple_addW2 t b vs.toArray d.toArray n v B o u j (by simpa using y) (by simpa using p) (by rw[P4,P4];calc hsz)) #[q,g,?_]
  rw[e];calc h2 p
meta def iL(n d:Nat):AF Int->Nat
 |none=>d
 |some v=>if v<0 then(v+(n:Int)).toNat else min v.toNat n
def tM (n d:Nat):iL n d gV=d:=rfl
def mw (n d k:Nat):iL n d (U (k:Int))=min k n:=by
 show(if(k:Int)<0 then((k:Int)+(n:Int)).toNat else min (k:Int).toNat n)=min k n;rw[if_neg (),Rv]
def Kd (n d:Nat)(hd:d<=n)(o:AF Int):iL n d o<=n:=by
 cases o with
 |none=>calc hd
 |some v =>
  show(if v<0 then(v+(n:Int)).toNat else min v.toNat n)<=n
  by_cases e:v<0
  .rw[if_pos e];omega
  .rw[if_neg e];calc Nat.min_le_right _ _
def A8 (v:Int)(n d:Nat):(if v<0 then max (v+(n:Int)) 0 else min v (n:Int))=((iL n d (U v):Nat):Int):=by
 show(if v<0 then max (v+(n:Int)) 0 else min v (n:Int))=(((if v<0 then(v+(n:Int)).toNat else min v.toNat n):Nat):Int)
 by_cases e:v<0
 .simp only[if_pos e];omega
 .simp only[if_neg e];omega
def Af (lo hi:AF Int)(n:Nat):TZ lo hi 1 (n:Int)=(((iL n 0 lo:Nat):Int),((iL n n hi:Nat):Int)):=by
 let d:¬((1:Int)<0):=()
 unfold TZ;simp only[d,if_false];refine Prod.ext ?_ ?_
 .cases lo with
  |none=>rfl
  |some v=>exact A8 v n 0
 .cases hi with
  |none=>rfl
  |some v=>calc A8 v n n
def Ag (i j:Nat):Rj (i:Int) (j:Int) 1=j-i:=by
 unfold Rj;let d:(1:Int)>0:=()
 simp only[d,if_true,Yb]
 split<;>omega
def kG (p:Wi v o)(h:Q o s):PY (P9 prog w) A (RQ.Slice.slicePartIndex v) Q E s:=by
 cases p with
 |none=>calc slicePart_none h
 |int i t=>calc slicePart_int h
def lR {g:eT}{lo hi:AF Int}{n:Nat}{Q:Int×Int×Nat->fy->Prop}(hs:s.heap.IsSliceOf l j g .none)(pl:Wi j lo)(m:Wi g hi)(h:Q (((iL n 0 lo:Nat):Int),1,iL n n hi-iL n 0 lo) s):PY (P9 prog w) A (SJ (.ref l) (pure (n:Int))) Q E s:=by
 let(p,d,o,e):=id hs;unfold SJ VY;calc bN (bN (QC d e (x:=j) rfl (bN (QC d e (x:=g) rfl (bN (QC d e (x:=.none) rfl (rz ?_)))))));calc bN (slicePart_none ?_);show PY _ _ (if((1:Int) == 0)=AD then _ else _) _ _ s;rw[if_neg ∅];calc bN (kG pl (bN (kG m (bN (rz ?_)))));show PY _ _ (match TZ lo hi 1 (n:Int)with|(lo,hi)=>pure (lo,(1:Int),Rj lo hi 1)) _ _ s
 rw[Af lo hi n];show PY _ _ (pure (((iL n 0 lo:Nat):Int),(1:Int),Rj ((iL n 0 lo:Nat):Int) ((iL n n hi:Nat):Int) 1)) _ _ s;rw[Ag];calc rz h
def Dw (xs:Array eT)(i k:Nat):((Si k).filterMap λ(m:Nat)=>xs[((i:Int)+(m:Int)*1).toNat]?).toArray=((xs.toList.drop i).take k).toArray:=by
 let e:(λ(m:Nat)=>xs[((i:Int)+(m:Int)*1).toNat]?)=λm=>xs[i+m]?:=by
  funext m
  let:((i:Int)+(m:Int)*1).toNat=i+m:=()
  rw[this]
 rw[e];let:=pick_run xs i k;rw[XW]at this;let d:((λx=>xs[x]?) ∘ λx=>i+x)=λm=>xs[i+m]?:=rfl;rw[d]at this;rw[this]
def pV {lo:AF Int}(ht:YD s.heap t items)(hs:s.heap.IsSliceOf e r p .none)(pl:Wi r lo)(u:Wi p hi)(hw:¬(iL items.size 0 lo=0/\iL items.size items.size hi=items.size))(h:Q (.ref s⁻¹) {s with heap:=s.heap.push {cls:=.type "tuple",data:=.seq ((items.toList.drop (iL items.size 0 lo)).take (iL items.size items.size hi-iL items.size 0 lo)).toArray}})(hsz:items.size<=my):PY (P9 prog w) A (UI (.ref t) (.ref e)) Q E s:=by
 let d:sizeOk (.seq ((items.toList.drop (iL items.size 0 lo)).take (iL items.size items.size hi-iL items.size 0 lo)).toArray):=by
  show((items.toList.drop (iL items.size 0 lo)).take (iL items.size items.size hi-iL items.size 0 lo)).toArray.size<=my;rw[P4,I0,QF,RW];omega
 let B:iL items.size items.size hi<=items.size:=Kd _ _ (u4 _) hi;let(v,g,l,y):=id hs;let o:s.TypeIs (.ref e) "slice":=#[v,g,l];unfold UI
 try with_reducible refine QG ?_
 first|refine bN (rz ?_)|skip
 refine bN (V6 ht.typeIs ∅ ?_)
 refine bN (QX (name:=Qv "__getitem__") ht.typeIs QH
  (Rm QH ht.typeIs Vt ?_ (VG _ _)))
 show PY _ _ (TN (.ref t)>>=_) _ _ s;calc bN (XM ht ?_);calc bN (SY o ?_);rw[if_pos ∅];refine bN (lR hs pl u ?_)
 let j:¬((((iL items.size 0 lo:Nat):Int) == 0&&(1:Int) == 1&&(iL items.size items.size hi-iL items.size 0 lo) == items.size)=AD):=by
  intro q;rw[QJ,QJ]at q;let q1:((iL items.size 0 lo:Nat):Int)=0:=Sd q.1.1;let z:iL items.size items.size hi-iL items.size 0 lo=items.size:=Sd q.2;exact hw #[(),()]
 show PY _ _ (if(((iL items.size 0 lo:Nat):Int) == 0&&(1:Int) == 1&&(iL items.size items.size hi-iL items.size 0 lo) == items.size)=AD then _ else _) _ _ s;rw[if_neg j,Dw]
 first
  |calc bN (m:=Q9 _) (QW (rz #[_,rfl,rz h]) d)
  |calc bN (m:=Q9 _) (QW (bN (rz (rz #[_,rfl,rz h]))) d)
  |calc bN (bN (m:=Q9 _) (QW (rz (rz #[_,rfl,rz h])) d))
  |calc bN (bN (m:=Q9 _) (QW (rz #[_,rfl,rz h]) d))
end HT
namespace L2
open PySem PySem.Spec PyProof.Rows
abbrev TO:=St->Hp->(AF Int->Hp->Prop)->Prop
meta def PO(X:Cx)(e:AF Expr)(t:TO):Prop :=
 ∀(d:MC (AB×Obj)) (s:fy) (g:St) (H:Hp) (Q:AF Int->Hp->Prop),Inv X d g H s->t g H Q ->
  PY (P9 X.prog X.w) X.A (evalPart e X.env) (λu l=>∃o j,Inv X d g j l/\Wi u o/\Q o j) X.xe s
abbrev pW:TO:=λ_ H Q=>Q gV H
meta def O7(Q:AF Int->Hp->Prop):VK:=λx d=>∃i,x=.int i/\Q (U i) d
abbrev yE(t:TE):TO:=λd H Q=>t d H (O7 Q)
def intsAre_of :∀{us:List eT},Vals (ns.map V.int) us->Xv us ns:=by
 induction ns with
 |nil=>intro us r;rw[RL]at r;cases r;calc .nil
 |cons n ns ih =>
  intro us r;rw[Qd]at r
  cases r with
  |cons r1 r2 =>
   let(t,e):=r1;subst e;calc .cons n t (ih r2)
def bW :PO X gV pW:=by
 intro d s g H Q I h;rw[evalPart_none];calc rz #[gV,H,I,.none,h]
def bL {e:Expr}{te:TE}(h:PE X e te):PO X (U e) (yE te):=by
 intro d s g H Q I l;rw[evalPart_some];calc cQ (h d s g H _ I l) λu p ⟨x,o,m,j,q1⟩=>?_;let(i,rfl,q):=q1;let(t,rfl):=j;calc#[U i,o,m,.int i t,q]
meta def Dy(X:Cx)(r:V->AF Int->AF Int->Hp->VK->Prop):Prop :=
 ∀(d:MC (AB×Obj)) (s:fy) (g:St) (H:Hp) (x:V) (v l j:eT) (lo hi:AF Int) (m:AB) (Q:VK),Inv X d g H s->RelV x v->s.heap.IsSliceOf m l j .none->Wi l lo->Wi j hi->r x lo hi H Q ->
  ∃T id,VH (.type T) "__getitem__"=pure (U (.builtin id))/\s.TypeIs v T/\PY (P9 X.prog X.w) X.A (UI v (.ref m)) (EP X d g Q) X.xe s
def Dy.or (h:Dy X r)(h':Dy X p):Dy X (λx lo hi H Q=>r x lo hi H Q\/p x lo hi H Q):=by
 intro d s g H x v l j lo hi m Q I o y u t q;rcases q with q|q
 .exact h d s g H x v l j lo hi m Q I o y u t q
 .exact h' d s g H x v l j lo hi m Q I o y u t q
abbrev O8(r:V->AF Int->AF Int->Hp->VK->Prop)(x:V)(l:AF Int)(Q:VK):AF Int->Hp->Prop:=λu d=>r x l u d Q
abbrev O9(r:V->AF Int->AF Int->Hp->VK->Prop)(th:TO)(d:St)(x:V)(Q:VK):AF Int->Hp->Prop:=λl g=>th d g (O8 r x l Q)
abbrev Pa(r:V->AF Int->AF Int->Hp->VK->Prop)(tl th:TO)(d:St)(Q:VK):VK:=λx g=>tl d g (O9 r th d x Q)
abbrev Mh(r:V->AF Int->AF Int->Hp->VK->Prop)(te:TE)(tl th:TO):TE:=λd H Q=>te d H (Pa r tl th d Q)
def iE {e:Expr}{te:TE}{lo hi:AF Expr}{tl th:TO}{pos p2:Pos}{r:V->AF Int->AF Int->Hp->VK->Prop}(hr:Dy X r)(O:PE X e te)(M:PO X lo tl)(J:PO X hi th):PE X (.Subscript e (.Slice lo hi gV p2) pos) (Mh r te tl th):=by
 intro d s j H Q I h;calc WR (cQ (O d s j H _ I h) λv y ⟨x,H1,Y,z,q1⟩=>?_);calc wpAny_Slice (cQ (M d y j H1 _ Y q1) λo t ⟨l,Z,W,G,C⟩=>cQ (J d t j Z _ W C) λm g ⟨u,p,gD,D,B⟩=>?_);rw[evalPart_none];calc rz ?_;let S:Inv X d j p {g with heap:=g.heap.push {cls:=.type "slice",data:=.fields #[o,m,.none,]}}:=gD.kept (t':=g.toks) λb ob q=>u5 _ q;let(T,id,R,L,N):=hr d {g with heap:=g.heap.push {cls:=.type "slice",data:=.fields #[o,m,.none,]}} j p x v o m l u g⁻¹ Q S z (VI ..) G D B;show PY (P9 X.prog X.w) X.A (XN e (.Slice lo hi gV p2) v (.ref g⁻¹)) (EP X d j Q) X.xe {g with heap:=g.heap.push {cls:=.type "slice",data:=.fields #[o,m,.none,]}};calc tail_any (ops:=[.ref g⁻¹,v]) L R N (by rfl')
meta def gx(xs:MC V)(lo hi:AF Int):MC V:=(xs.drop (HT.iL ⇑xs 0 lo)).take (HT.iL ⇑xs ⇑xs hi-HT.iL ⇑xs 0 lo)
def rR (xs:MC V)(lo hi:AF Int):⇑(gx xs lo hi)<=⇑xs:=by
 unfold gx;rw[I0,QF];omega
meta def NL(K:cB):V->AF Int->AF Int->Hp->VK->Prop:=λx lo hi H Q=>∃a d,x=.ref a/\b9 K H a d /\
 ¬(HT.iL ⇑d 0 lo=0/\HT.iL ⇑d ⇑d hi=⇑d)/\∀p,H p=gV->Q (.ref p) (upd H p (.J (gx d lo hi)))
def Ah :Dy X (NL X.K):=by
 intro l s D H x v J G lo hi L Q I t C y u h;let(a,g,rfl,z,B,q):=h
 cases t
 let(j,r,p,m):=I.tuple z;let d:j.toArray.size=⇑g:=by rw[P4];exact r.length.symm
 calc#["tuple",_,QH.lookup,p.typeIs,?_];calc HT.pV p C y u (by rw[d];calc B) ?_ (by rw[d];calc m);rw[d];calc#[.ref s⁻¹,_,I.laid (t':=s.toks) (o:=.J (gx g lo hi)) (λb M q=>u5 _ q) (u4 _) ?_,rfl,q _ (I.hok.fresh (u4 _))];calc#[Qq (rR g lo hi) m,_,(r.drop (HT.iL ⇑g 0 lo)).take (HT.iL ⇑g ⇑g hi-HT.iL ⇑g 0 lo),Wv _ _,_,P5 _ rfl,rfl]
meta def Mi(K:cB):R2:=λx y H Q=>∃a b g d,x=.ref a/\y=.ref b/\b9 K H a g/\b9 K H b d/\g≠[]/\⇑g+⇑d<=my /\
 (d=[]->Q (.ref a) H)/\(d≠[]->∀p,H p=gV->Q (.ref p) (upd H p (.J (g++d))))
def Vals.wJ (r:Vals xs us):us=[]↔xs=[]:=by
 cases r with
 |nil=>simp
 |cons _ _=>simp
def Gi :nY X (SI .Add) (Mi X.K):=by
 intro g s M H x y v u Q I t r h;let(a,b,p,m,rfl,rfl,L,J,G,l,q1,B):=h
 cases t
 cases r
 let(D,d,C,_):=I.tuple L;let(j,r2,p2,_):=I.tuple J;calc HT.Gh C p2 (λz=>G (d.wJ.mp z)) (λz=>#[.ref a,H,I,rfl,q1 (r2.wJ.mp z)]) (λz=>?_) (by rw[<-⇑d,<-⇑r2];calc l);calc#[.ref s⁻¹,_,I.laid (t':=s.toks) (o:=.J (p++m)) (λb N q=>u5 _ q) (u4 _) ?_,rfl,B (λw=>z (r2.wJ.mpr w)) _ (I.hok.fresh (u4 _))];calc#[by rw[mu];calc l,_,d.append r2,Wv _ _,_,P5 _ rfl,rfl]
meta def wK(n:Nat)(i:Int):AF Nat:=if 0<=i then(if i<n then U i.toNat else gV)else if -(n:Int)<=i then U (i+n).toNat else gV
meta def fM{d:Type}(xs:List d)(i:Int):AF d:=(wK ⇑xs i).bind λj=>xs[j]?
def A9 (h:wK n i=U j):seqIndex? i n=U j/\j<n/\-(n:Int)<=i/\i<n:=by
 unfold wK at h
 by_cases g:0<=i
 .rw[if_pos g]at h
  by_cases d:i<n
  .rw[if_pos d]at h;let e:i.toNat=j:=Qw h;exact#[by rw[seqIndex_of g d,e],(),(),d]
  .rw[if_neg d]at h;cases h
 .rw[if_neg g]at h
  by_cases d:-(n:Int)<=i
  .rw[if_pos d]at h;let e:(i+n).toNat=j:=Qw h;exact#[by rw[seqIndex_neg () d,e],(),d,()]
  .rw[if_neg d]at h;cases h
def wL {xs:List d}{v:d}(h:fM xs i=U v):∃j,seqIndex? i ⇑xs=U j/\xs[j]?=U v/\j<⇑xs/\-(⇑xs:Int)<=i/\i<⇑xs:=by
 unfold fM at h
 cases e:wK ⇑xs i with
 |none=>rw[e]at h;cases h
 |some j =>
  rw[e]at h;let(o,m,l,g):=A9 e;calc#[j,o,h,m,l,g]
def aG {xs:List d}{j:Nat}{v:d}(h:xs[j]?=U v):fM xs (j:Int)=U v:=by
 let g:j<⇑xs:=(eF.mp h).1
 let e:wK ⇑xs (j:Int)=U j:=by
  unfold wK;rw[if_pos (),if_pos ()];simp
 unfold fM;rw[e];calc h
def tN (xs:List d)(v:d):fM (xs++[v]) (-1)=U v:=by
 let g:⇑(xs++[v])=⇑xs+1:=by simp
 let e:wK ⇑(xs++[v]) (-1)=U ⇑xs:=by
  unfold wK;rw[g,if_neg ∅,if_pos ()]
  congr 1
  omega
 unfold fM;rw[e];show(xs++[v])[⇑xs]?=U v;simp
meta def Gj(b:Expr):Prop:=∀o i,Xg b AE o i=operate [o,i] (UI o i)
meta def Dz(X:Cx)(r:R2):Prop :=
 ∀(e slice:Expr) (d:MC (AB×Obj)) (s:fy) (g:St) (H:Hp) (x y:V) (v u:eT) (Q:VK),Inv X d g H s->RelV x v->RelV y u->r x y H Q ->
  Xg slice AE v u=operate [v,u] (UI v u)->PY (P9 X.prog X.w) X.A (XN e slice v u) (EP X d g Q) X.xe s
meta def Ng(X:Cx)(id:String)(r:V->MC V->Hp->VK->Prop):Prop :=
 ∀(d:MC (AB×Obj)) (s:fy) (e:St) (H:Hp) (x:V) (g:MC V) (v:eT) (j:List eT) (Q:VK),Inv X d e H s->RelV x v->Vals g j->r x g H Q ->
  PY (P9 X.prog X.w) X.A (call (.builtin id) (v::j)) (EP X d e Q) X.xe s
def Dz.or (h:Dz X r)(h':Dz X m):Dz X (λx y H Q=>r x y H Q\/m x y H Q):=by
 intro d slice e s g H x y v u Q I l j q o;rcases q with q|q
 .exact h d slice e s g H x y v u Q I l j q o
 .exact h' d slice e s g H x y v u Q I l j q o
def fQ {a b:Expr}{ta tb:TE}{pos:Pos}{r:R2}(hr:Dz X r)(o:PE X a ta)(m:PE X b tb)(hs:Gj b):PE X (.Subscript a b pos) (BY r ta tb):=by
 intro d s e H Q I h;calc WR (JT o m I h λv u g x y t p l j q=>hr a b d g e t x y v u Q p l j q (hs _ _))
meta def Ke(K:cB):R2:=λx y H Q=>∃p d i v,x=.ref p/\y=.int i/\aV K H p d/\fM d i=U v/\Q v H
meta def Gk(K:cB):R2:=λx y H Q=>∃p d i v,x=.ref p/\y=.int i/\b9 K H p d/\fM d i=U v/\Q v H
meta def Mj:R2:=λx y H Q=>∃z i c,x=.str z/\y=.int i/\⇑z<=my/\fM z.cps.toList i=U c/\Q (.str ⟨#[c]⟩) H
def br :Dz X (Ke X.K):=by
 intro g slice d s C H x y v u Q I N M h D;let(p,W,i,z,rfl,rfl,O,S,q):=h
 cases N
 let(t,rfl):=M;let(o,r,m,Y):=I.list O;let(j,e,V,h3,gD,T):=wL S;let(w,J,l):=r.get V;let R:=⇑r;let Z:=pe;let fin:EP X d C Q w s:=#[z,H,I,l,q]
 by_cases G:0<=i
 .have B:i.toNat=j:=by
   rw[seqIndex_of G T]at e;exact Qw e
  exact item_listR m.isList G () (by rw[B];simpa using J) fin D
 .have B:(i+(o.toArray.size:Int)).toNat=j:=by
   rw[seqIndex_neg () gD]at e;rw[P4,<-R];exact Qw e
  exact WS (x:=w) m.isList.typeIs V7.lookup
   (wpAny_getItem_list_neg (Q:=λr L=>r=w/\EP X d C Q r L) m.isList () (by rw[P4]<;>omega) () (by rw[B];simpa using J) #[rfl,fin]) D
def aJ :Dz X (Gk X.K):=by
 intro e slice d s l H x y v u Q I C B h G;let(p,S,i,z,rfl,rfl,J,M,q):=h
 cases C
 let(t,rfl):=B;let(D,r,m,T):=I.tuple J;let(j,O,N,Y,W,V):=wL M;let(w,R,g):=r.get N;let L:=⇑r;let gD:=pe;let fin:EP X d l Q w s:=#[z,H,I,g,q]
 exact WS (x:=w) m.typeIs slot_tuple_getitem.lookup
  (getItem_tuple (j:=j) (Q:=λr o=>r=w/\EP X d l Q r o) m () () (by rw[P4,<-L];calc O) (by simpa using R) #[rfl,fin]) G
def wM :Dz X Mj:=by
 intro d slice e s L H x y v u Q I m l h o;let(z,i,c,rfl,rfl,N,r,q):=h;let(t,rfl):=m;let(M,rfl):=l;let(j,g,D,R,C,B):=wL r;let p:⇑z.cps.toList=⇑z:=by simp[WT]
 rw[p]at g C B;let O:=pe
 calc tail_any (typeIs_str s z t) slot_str_getitem.lookup (getItem_str (c:=c) (by
  let J:decide (i < -(2 ^ 63:Int))=AE:=decide_eq_false ();let G:decide (i ≥ 2 ^ 63)=AE:=decide_eq_false ();rw[J,G,Bool.or_false]) (by rw[g];simpa using D) #[.str ⟨#[c]⟩,H,I.tok _,#[_,rfl],q]) o
meta def Ml(K:cB):R2:=λx y H Q=>Ke K x y H Q\/Gk K x y H Q\/Mj x y H Q
def qS :Dz X (Ml X.K):=br.or (aJ.or wM)
def Ai (d:List eT)(n j:Nat)(u:eT):WU (·.setIfInBounds j u) {cls:=.type "list",data:=.seq d.toArray n}={cls:=.type "list",data:=.seq (d.set j u).toArray n}:=by
 simp[WU]
def Inv.Y (I:Inv X g j H s)(h:H p=U (.Y xs)):
  ∃(d:List eT) (n:Nat),Vals xs d/\s.heap.get? p=U {cls:=.type "list",data:=.seq d.toArray n}/\⇑xs<=my:=by
 let(z,d,n,r,e):=I.hok p _ h;calc#[d,n,r,e,z]
def Inv.Kf {g:List eT}(I:Inv X d l H s)(h:H p=U (.Y xs))(ho:s.heap.get? p=U {cls:=.type "list",data:=.seq g.toArray n})(hf:f {cls:=.type "list",data:=.seq g.toArray n}={cls:=.type "list",data:=.seq its'.toArray j})(r:Vals ys its')(hz:⇑ys<=my)(t:Nat):
  Inv X d l (upd H p (.Y ys)) {s with heap:=s.heap.update p f,toks:=t}:=by
 let e:(s.heap.update p f).get? p=U {cls:=.type "list",data:=.seq its'.toArray j}:=by
  rw[RH f ho (by rw[hf]<;>rfl),hf]
 calc I.write (x:=p) (e:=p) (by rw[h];trivial) (.inl rfl) (λb u m q=>(Rl _ _ (RP m)).trans q) #[_,e] ?_;calc#[hz,its',j,r,e]
meta def Mm:V->V->V->Hp->(Hp->Prop)->Prop:=λo i v H Q=>∃p d k j,o=.ref p/\i=.int k/\H p=U (.Y d)/\wK ⇑d k=U j/\Q (upd H p (.Y (d.set j v)))
def set_list :LY X Mm:=by
 intro d s J H o i v T gD u Q I N O M h;let(p,L,k,j,rfl,rfl,z,S,q):=h
 cases N
 let(t,rfl):=O;let(e,n,r,l,R):=I.Y z;let(g,Y,C,B):=A9 S;let m:=⇑r;let V:=pe
 let G:Inv X d J (upd H p (.Y (L.set j v))) {s with heap:=s.heap.update p (WU (·.setIfInBounds j u))} :=
  I.Kf z l (Ai e n j u) (r.set M j) (by rw[Vn];calc R) s.toks
 by_cases D:0<=k
 .have y:k.toNat=j:=by
   rw[seqIndex_of D B]at g;exact Qw g
  exact PySem.W.ki_setAt l D () (by rw[P4,<-m];calc B) (by rw[y];calc#[_,G,q])
 .have y:(k+(e.toArray.size:Int)).toNat=j:=by
   rw[seqIndex_neg () C]at g;rw[P4,<-m];exact Qw g
  calc PySem.W.ki_setBack l () (by rw[P4,<-m];calc C) () (by rw[y];calc#[_,G,q])
def wN (lo hi:AF Int)(n:Nat):(Rb lo hi gV n).1=((HT.iL n 0 lo:Nat):Int)/\(Rb lo hi gV n).2.1=((HT.iL n n hi:Nat):Int)/\(Rb lo hi gV n).2.2=1:=by
 refine#[?_,?_,rfl]
 .cases lo with
  |none=>simp[Rb,HT.iL]
  |some i =>
   simp only[Rb,HT.iL,Yo,show(1:Int)>0 by decide,if_true]
   by_cases h:i<0
   .simp only[h,if_true]<;>omega
   .simp only[h,if_false]<;>omega
 .cases hi with
  |none=>simp[Rb,HT.iL]
  |some i =>
   simp only[Rb,HT.iL,Yo,show(1:Int)>0 by decide,if_true]
   by_cases h:i<0
   .simp only[h,if_true]<;>omega
   .simp only[h,if_false]<;>omega
def uU (d:List eT)(lo hi:AF Int):Yp d.toArray lo hi gV=((d.drop (HT.iL ⇑d 0 lo)).take (HT.iL ⇑d ⇑d hi-HT.iL ⇑d 0 lo)).toArray:=by
 let(j,g,e):=wN lo hi d.toArray.size;unfold Yp;rw[j,g,e];simp only[sliceRange_one,pick_run,P4]<;>rfl
meta def Mn(K:cB):V->AF Int->AF Int->Hp->VK->Prop:=λx e g H Q=>∃a d,x=.ref a/\aV K H a d/\∀p,H p=gV->Q (.ref p) (upd H p (.Y (gx d e g)))
def jV :Dy X (Mn X.K):=by
 intro l s D H x v J G g j L Q I p C u t h;let(a,d,rfl,B,q):=h
 cases p
 let(y,r,m,z):=I.list B;let e:=⇑r;calc#["list",_,V7.lookup,m.isList.typeIs,?_];refine Wj m.isList C u t .none (by simp) ?_ (by rw[P4]<;>omega)
 rw[uU,<-e];calc#[.ref s⁻¹,_,I.laid (t':=s.toks) (o:=.Y (gx d g j)) (λb M q=>u5 _ q) (u4 _) ?_,rfl,q _ (I.hok.fresh (u4 _))];calc#[Qq (rR d g j) z,_,0,(r.drop (HT.iL ⇑d 0 g)).take (HT.iL ⇑d ⇑d j-HT.iL ⇑d 0 g),P5 _ rfl]
meta def oU:V->Bool
 |.gu=>AD
 |.bl _=>AD
 |.int _=>AD
 |.str _=>AD
 |_=>AE
meta def DA:V->V->Bool
 |.gu,.gu=>AD
 |.bl a,.bl b=>a == b
 |.bl a,.int b=>(if a then 1 else 0) == b
 |.int a,.bl b=>a == (if b then 1 else 0)
 |.int a,.int b=>a == b
 |.str a,.str b=>a == b
 |_,_=>AE
def DB (g:RelV y u)(d:RelV x v)(l:oU y=AD)(j:oU x=AD):RN A s u v (DA y x):=by
 cases y with
 |gu =>
  cases g
  cases x with
  |gu=>cases d;calc RN.same _
  |bl b=>cases d;calc RN.none_bool b
  |int b=>let(t,rfl):=d;calc RN.none_int b t
  |str b=>let(t,rfl):=d;calc RN.none_str b t
  |_=>calc absurd (show AE=AD from j) Qf
 |bl a =>
  cases g
  cases x with
  |gu=>cases d;calc RN.bool_none a
  |bl b=>cases d;calc RN.bool_bool a b
  |int b=>let(t,rfl):=d;calc RN.bool_int a b t
  |str b=>let(t,rfl):=d;calc RN.bool_str a b t
  |_=>calc absurd (show AE=AD from j) Qf
 |int a =>
  let(e,rfl):=g
  cases x with
  |gu=>cases d;calc RN.int_none a e
  |bl b=>cases d;calc RN.int_bool a e b
  |int b=>let(t,rfl):=d;calc RN.int_int a e b t
  |str b=>let(t,rfl):=d;calc XO a e b t
  |_=>calc absurd (show AE=AD from j) Qf
 |str a =>
  let(e,rfl):=g
  cases x with
  |gu=>cases d;calc RN.str_none a e
  |bl b=>cases d;calc RN.str_bool a e b
  |int b=>let(t,rfl):=d;calc XQ a e b t
  |str b=>let(t,rfl):=d;calc RN.str_str a e b t
  |_=>calc absurd (show AE=AD from j) Qf
 |_=>calc absurd (show AE=AD from l) Qf
meta def Aj(x:V)(u:eT):Bool:=match u with
 |.none=>DA .gu x
 |.bool b=>DA (.bl b) x
 |.int i _=>DA (.int i) x
 |.str z _=>DA (.str z) x
 |_=>AE
def DC (r:RelV y u)(f:oU y=AD):Aj x u=DA y x:=by
 cases y with
 |gu=>cases r;rfl
 |bl b=>cases r;rfl
 |int i=>let(t,rfl):=r;rfl
 |str z=>let(t,rfl):=r;rfl
 |_=>calc absurd (show AE=AD from f) Qf
theorem pX :∀{xs:MC V}{us:List eT},Vals xs us->xs.all oU=AD->us.any (Aj x)=xs.any λy=>DA y x
 |_,_,.nil,_=>rfl
 |y::xs,u::us,.cons r t,f=>by
  rw[Wk,QJ]at f;rw[Uc,Uc,DC r f.1,pX t f.2]
theorem nj (d:RelV x v)(e:oU x=AD):∀{xs:MC V}{us:List eT},Vals xs us->xs.all oU=AD->∀u∈us,RN A s u v (Aj x u)
 |_,_,.nil,_=>λu hu=>by cases hu
 |y::xs,u::us,.cons r t,f=>λg hu=>by
  rw[Wk,QJ]at f;rcases P1.mp hu with rfl|hu
  .rw[DC r f.1];exact DB r d f.1 e
  .exact nj d e t f.2 g hu
meta def pK(x:V)(xs:MC V):Bool:=xs.any λy=>DA y x
meta def Ou(K:cB)(e:Bool):R2:=λx y H Q=>∃p d,y=.ref p/\(aV K H p d\/b9 K H p d)/\oU x=AD/\d.all oU=AD/\Q (.bl (if e then !pK x d else pK x d)) H
def iz :nY X (RX .In) (Ou X.K AE):=by
 intro l s z H x y v u Q I j o h;let(p,B,rfl,hq,m,fs,q):=h
 cases o
 rcases hq with hq|hq
 .have(d,r,e,t):=I.list hq;calc SeqAt.in_listAt (Aj x) e.isList (λw g=>nj j m r fs w (by simpa using g)) #[.bl _,H,I,rfl,?_];rw[show d.toArray.any (Aj x)=d.any (Aj x) by simp,pX r fs];exact q
 .have(d,r,e,t):=I.tuple hq;calc SeqAt.in_tupleAt (Aj x) e (λw g=>nj j m r fs w (by simpa using g)) #[.bl _,H,I,rfl,?_];rw[show d.toArray.any (Aj x)=d.any (Aj x) by simp,pX r fs];calc q
def pY :nY X (RX .NotIn) (Ou X.K AD):=by
 intro l s z H x y v u Q I j o h;let(p,B,rfl,hq,m,fs,q):=h
 cases o
 rcases hq with hq|hq
 .have(d,r,e,t):=I.list hq;calc SeqAt.notIn_listAt (Aj x) e.isList (λw g=>nj j m r fs w (by simpa using g)) #[.bl _,H,I,rfl,?_];rw[show d.toArray.any (Aj x)=d.any (Aj x) by simp,pX r fs];exact q
 .have(d,r,e,t):=I.tuple hq;calc SeqAt.notIn_tupleAt (Aj x) e (λw g=>nj j m r fs w (by simpa using g)) #[.bl _,H,I,rfl,?_];rw[show d.toArray.any (Aj x)=d.any (Aj x) by simp,pX r fs];calc q
def aN :iQ X (.builtin "len") (λxs H Q=>∃p ys,xs=[.ref p]/\(aV X.K H p ys\/b9 X.K H p ys)/\Q (.int ⇑ys) H):=by
 intro l s t H xs v Q I r h;let(p,ys,rfl,hq,q):=h;let(u,rfl,m):=vals1 r
 cases m
 let y:=pe;rcases hq with hq|hq
 .have(j,e,g,o):=I.list hq;let d:=⇑e;exact Calls.call_len_list g.isList (by simp only[P4]<;>omega) #[.int ⇑ys,H,I.tok _,#[s.toks+1,by rw[P4,d]],q]
 .have(j,e,g,o):=I.tuple hq;let d:=⇑e;calc len_tuple g (by simp only[P4]<;>omega) #[.int ⇑ys,H,I.tok _,#[s.toks+1,by rw[P4,d]],q]
def pZ :iQ X (.builtin "len") (λxs H Q=>∃z,xs=[.str z]/\⇑z<=my/\Q (.int ⇑z) H):=by
 intro d s e H xs g Q I r h;let(z,rfl,j,q):=h;let(u,rfl,t,rfl):=vals1 r;let l:=pe;calc len_str () #[.int ⇑z,H,I.tok _,#[_,rfl],q]
def jW :iQ X (.type "list") (λxs H Q=>∃p ys,xs=[.ref p]/\(aV X.K H p ys\/b9 X.K H p ys)/\∀l,H l=gV->Q (.ref l) (upd H l (.Y ys))):=by
 intro t s G H xs L Q I r h;let(p,ys,rfl,hq,q):=h;let(u,rfl,J):=vals1 r
 cases J
 let fin:∀(d:List eT),Vals ys d->⇑ys<=my->∀(g:Heap) (m:Nat),(∀b D,s.heap.get? b=U D->g.get? b=U D) ->
   g.get? s⁻¹=U {cls:=.type "list",dict:=gV,data:=.seq d.toArray m,slots:=#[]}->EP X t G Q (.ref s⁻¹) {s with heap:=g}:=λd j v g m kp e =>
  #[.ref s⁻¹,_,I.laid (t':=s.toks) kp (u4 _) (show eW X.prog X.w _ g _ (.Y ys)from#[v,d,m,j,e]),rfl,q _ (I.hok.fresh (u4 _))]
 rcases hq with hq|hq
 .have(d,j,z,v):=I.list hq;let y:=⇑j;let(o,B,C,n,hd):=z.isList;exact call_list_seq p (.inl rfl) B C hd (λg m kp e=>fin d j v g m kp e) (by simp only[P4]<;>omega)
 .have(d,j,z,v):=I.tuple hq;let y:=⇑j;let(o,B,C,n,hd):=z;calc call_list_seq p (.inr rfl) B C hd (λg m kp e=>fin d j v g m kp e) (by simp only[P4]<;>omega)
def bh :iQ X (.type "tuple") (λxs H Q=>∃p ys,xs=[.ref p]/\((aV X.K H p ys/\∀l,H l=gV->Q (.ref l) (upd H l (.J ys)))\/(b9 X.K H p ys/\Q (.ref p) H))):=by
 intro d s v H xs G Q I r h;let(p,ys,rfl,h):=h;let(u,rfl,C):=vals1 r
 cases C
 rcases h with⟨hq,q⟩|⟨hq,q⟩
 .have(g,m,t,y):=I.list hq;let z:=⇑m;refine call_tuple_list t.isList (λj kp=>?_) (by simp only[P4]<;>omega)
  let B:Inv X d v H {s with heap:=j}:=I.kept (t':=s.toks) kp
  let D:Inv X d v (upd H j.objs.size (.J ys)) {s with heap:=j.push {cls:=.type "tuple",data:=.seq g.toArray}} :=
   B.laid (t':=s.toks) (λb o e=>u5 _ e) (u4 _) (show eW X.prog X.w _ _ _ (.J ys)from#[y,g,m,Wv _ _,_,P5 _ rfl,rfl])
  exact#[.ref j.objs.size,_,D,rfl,q _ (B.hok.fresh (u4 _))]
 .have(g,m,t,y):=I.tuple hq;calc call_tuple_same t #[.ref p,H,I,rfl,q]
meta def Nh(K:cB)(T:String)(x:V)(H:Hp):Prop:=match x with
 |.str _=>T="str"
 |.int _=>T="int"
 |.ref p=>(T="list"/\∃e,aV K H p e)\/(T="tuple"/\∃o,K.lookup p=U o/\o.cls=.type "tuple"/\o.dict=gV) \/
   (T="dict"/\((∃d,H p=U (.dK d))\/∃d,H p=U (.dT d)))\/(T="set"/\∃S n,H p=U (.set S n))
 |_=>False
def DE {T:String}(I:Inv X d m H s)(r:RelV x v)(ty:Nh X.K T x H):
  s.TypeIs v T/\∀a,v=.ref a->∃l,s.heap.get? a=U l/\l.dict=gV:=by
 cases x with
 |str z =>
  let(t,rfl):=r
  cases(show T="str" from ty)
  calc#[typeIs_str s z t,λ_ e=>nomatch e]
 |int i =>
  let(t,rfl):=r
  cases(show T="int" from ty)
  calc#[Uj s i t,λ_ e=>nomatch e]
 |ref p =>
  cases r
  rcases ty with⟨rfl,xs,hq⟩|⟨rfl,o,hk,hc,hd⟩|⟨rfl,hk⟩|⟨rfl,S,n,hk⟩
  .have(q,_,j,_):=I.list hq;refine#[j.isList.typeIs,λa e=>?_]
   cases e
   let(o,n,e,c,hd,_):=j;exact#[o,e,hd]
  .refine#[#[o,I.tu p o hk,hc],λa e=>?_]
   cases e
   exact#[o,I.tu _ o hk,hd]
  .have z:∃o,s.heap.get? p=U o/\o.ExactDict:=by
    rcases hk with⟨kvs,hk⟩|⟨kvs,hk⟩
    .have(_,_,_,_,o,_,_,e,ex,_):=I.hok p _ hk;exact#[o,e,ex]
    .have(_,_,_,_,o,_,_,e,ex,_):=I.hok p _ hk;exact#[o,e,ex]
   let(o,e,ex):=z;refine#[#[o,e,ex.1],λa g=>?_]
   cases g
   exact#[o,e,ex.2.1]
  .have(o,_,_,_,e,ex,_):=I.hok p _ hk;refine#[#[o,e,ex.1],λa g=>?_]
   cases g
   calc#[o,e,ex.2.1]
 |_=>calc Rr ty
abbrev Pb(r:V->MC V->Hp->VK->Prop)(x:V)(Q:VK):MC V->Hp->Prop:=λd e=>r x d e Q
meta def Pc(K:cB)(T:String)(r:V->MC V->Hp->VK->Prop)(t:TA)(e:St)(Q:VK):VK:=λx d=>Nh K T x d/\t e d (Pb r x Q)
meta def NN(K:cB)(T:String)(r:V->MC V->Hp->VK->Prop)(g:TE):TE:=λe H Q=>g e H λx d=>Nh K T x d/\r x [] d Q
abbrev Pd(K:cB)(T:String)(r:V->MC V->Hp->VK->Prop)(e:TE)(t:TA):TE:=λd H Q=>e d H (Pc K T r t d Q)
def Kg {T id:String}(u:PlainAttrs T)(g:Slot T name id)(j:typeOf (.builtin id)=pure (.type "method_descriptor"))(z:Ng X id r)(y:PE X o to)(hbase:Tr o name X.env (eval o X.env)=eval o X.env:=by rfl)(hline:(apos.endLine == cpos.line)=AD:=by rfl):PE X (.Call (.Attribute o name apos) [] [] cpos) (NN X.K T r to):=by
 intro d s l H Q I h;calc Wy hbase hline (cQ (y d s l H _ I h) λv q ⟨x,D,p,m,ty,q1⟩=>?_);let(C,B):=DE p m ty;calc#[T,id,u,g,j,C,B,UJ rfl (Xy (z d q l D x [] v [] Q p m .nil q1))]
def yF {o e:Expr}{es:MC Expr}{to:TE}{t:TA}{name:AA}{apos cpos:Pos}{T id:String}{r:V->MC V->Hp->VK->Prop}(G:PlainAttrs T)(g:Slot T name id)(l:typeOf (.builtin id)=pure (.type "method_descriptor"))(L:Ng X id r)(J:PE X o to)(M:PA X (e::es) t)(hbase:Tr o name X.env (eval o X.env)=eval o X.env:=by rfl)(hfew:((UC cpos (QS (e::es) X.env)).all (λx=>!x.1)&&(backToKw cpos (keywordEach [] X.env)).all (λx=>x.1.isSome)
   && decide (⇑(e::es)+⇑([]:MC YB)+(if([]:MC YB).isEmpty then 0 else 1)<30))=AD:=by rfl)(hline:(apos.endLine == cpos.line)=AD:=by rfl)(hs:QS (e::es) X.env=(AE,eval e X.env)::QS es X.env:=by rfl)(hplain:(UC cpos (QS es X.env)).any (·.1)=AE:=by rfl):
  PE X (.Call (.Attribute o name apos) (e::es) [] cpos) (Pd X.K T r to t):=by
 intro d s j H Q I h;calc wpAny_Call_method_late hbase hfew hline rfl (cQ (J d s j H _ I h) λv C ⟨x,gD,u,p,ty,q1⟩=>?_);let(O,N):=DE u p ty;calc#[T,id,G,g,l,O,N,?_];let q:=M cpos d C j gD _ u q1;rw[hs]at q|-;refine UJ (by show(AE||(UC cpos (QS es X.env)).any (·.1))=AE;rw[hplain]<;>rfl) (Xh ?_)
 calc cQ q λz B ⟨y,S,R,r2,D⟩=>L d B j S x y v z Q R p r2 D
meta def Ni(X:Cx)(id:String)(r:V->MC V->Hp->VK->Prop):Prop :=
 ∀(d:MC (AB×Obj)) (s:fy) (e:St) (H:Hp) (x:V) (g:MC V) (v:eT) (j:List eT) (Q:VK),Inv X d e H s->RelV x v->Vals g j->r x g H Q ->
  PY (P9 X.prog X.w) X.A (call (.builtin id) (v::j)) (EP X d e Q) X.xe s
theorem Vals.one :∀{x:V}{us:List eT},Vals [x] us->∃u,us=[u]/\RelV x u
 |_,_,.cons r .nil=>#[_,rfl,r]
theorem Vals.zero :∀{us:List eT},Vals [] us->us=[]
 |_,.nil=>rfl
def Vals.dropLast (h:Vals xs us):Vals xs.dropLast us.dropLast:=by
 induction h with
 |nil=>calc .nil
 |cons r t ih =>
  cases t with
  |nil=>calc .nil
  |cons q t'=>calc .cons r ih
def Vals.reverse (h:Vals xs us):Vals xs.reverse us.reverse:=by
 induction h with
 |nil=>calc .nil
 |cons r t ih=>rw[S1,S1];calc Vals.append ih (.cons r .nil)
theorem Vals.rep (h:Vals xs us):∀k:Nat,Vals (P7 k xs).flatten (P7 k us).flatten
 |0=>.nil
 |k+1=>by
  rw[RD,RD,S2,S2];calc Vals.append h (Vals.rep h k)
def Ak {d:Type}(l:List d):l.eraseIdx (⇑l-1)=l.dropLast:=by
 induction l with
 |nil=>rfl
 |cons a r ih =>
  cases r with
  |nil=>rfl
  |cons b r =>
   let e:⇑(a::b::r)-1=(⇑(b::r)-1)+1:=by
    let j:⇑(a::b::r)=⇑r+2:=rfl;let g:⇑(b::r)=⇑r+1:=rfl;omega
   rw[e,List.eraseIdx_cons_succ,ih]
   all_goals rfl
theorem foldl_rep (d:List eT):∀(k:Nat) (g:List eT),
  VJ (λl j=>l++j) g.toArray (P7 k d.toArray)=(g++(P7 k d).flatten).toArray
 |0,g=>by simp
 |k+1,g=>by
  let e:g.toArray++d.toArray=(g++d).toArray:=by simp
  let m:(g++d)++(P7 k d).flatten=g++(P7 (k+1) d).flatten:=by
   rw[RD,S2,Rw]
  rw[<-m,<-foldl_rep d k (g++d),<-e,RD,List.foldl_cons]
def Inv.Kh {d:List eT}(I:Inv X pins σ H s)(m:H l=U (.Y xs))(e:s.heap.get? l=U {cls:=.type "list",data:=.seq d.toArray n})(hf:f d.toArray=its'.toArray)(hv:Vals ys its')(hz:⇑ys<=my):
  Inv X pins σ (upd H l (.Y ys)) {s with heap:=s.heap.update l (WU f),toks:=t'}:=by
 let q:=PySem.IsL.update e f;rw[hf]at q;calc I.write (x:=l) (e:=l) (by rw[m];calc trivial) (.inl rfl) (λo u j g=>(Rl s.heap (WU f) (RP j)).trans g) #[_,q] ?_;calc#[hz,its',_,hv,q]
def Inv.Mq (I:Inv X pins σ H s)(g:Vals ys d)(e:⇑ys<=my):
  Inv X pins σ (upd H s⁻¹ (.Y ys)) {s with heap:=s.heap.push {cls:=.type "list",data:=.seq d.toArray},toks:=t'} :=
 I.laid (λ_ _ q=>u5 _ q) (u4 _) #[e,d,0,g,P5 _ rfl]
def Inv.fresh (I:Inv X pins σ H s):H s⁻¹=gV:=I.hok.fresh (u4 _)
def Inv.yG (I:Inv X pins σ H s)(g:H l=U (.Y xs)):⇑xs<=my/\∃(d:List eT) (n:Nat),Vals xs d/\⇑xs=⇑d/\s.heap.get? l=U {cls:=.type "list",data:=.seq d.toArray n}:=by
 let(z,d,n,r,e):=I.hok l _ g;calc#[z,d,n,r,⇑r,e]
def yH (h:n<=my):S6 n=AE:=by
 unfold S6;calc decide_eq_false ()
meta def Gm:V->MC V->Hp->VK->Prop:=λx e H Q=>∃l d y,x=.ref l/\e=[y]/\H l=U (.Y d)/\⇑d<my/\Q .gu (upd H l (.Y (d++[y])))
def B4 :Ni X "list.append" Gm:=by
 intro g s t H x C v D Q I m o h;let(l,B,y,rfl,rfl,j,G,q):=h
 cases m
 let(u,rfl,p):=o.one;let(z,d,n,r,J,e):=I.yG j;calc Ti F.slot_list_append #[_,e,rfl] F.entry_list_append (F.args_list_append_2 _ _) (PySem.list_append l d.toArray n u (by rw[P4];omega)) #[e,?_];calc#[.gu,_,I.Kh (its':=d++[u]) j e (by simp) (r.append (.cons p .nil)) ?_,rfl,q];rw[mu,Xa];omega
meta def Gn:V->MC V->Hp->VK->Prop:=λx g H Q=>∃l b e d,x=.ref l/\g=[.ref b]/\H l=U (.Y e)/\H b=U (.Y d)/\⇑e+⇑d<=my/\Q .gu (upd H l (.Y (e++d)))
def vE :Ni X "list.extend" Gn:=by
 intro o s L H x R v S Q I t y h;let(l,b,O,M,rfl,rfl,p,G,T,q):=h
 cases t
 let(u,rfl,B):=y.one
 cases B
 let(z,g,n,r,gD,e):=I.yG p;let(N,d,C,r2,D,J):=I.yG G;let m:g.toArray.size+d.toArray.size<=my:=by rw[P4,P4];omega
 let j:¬(!g.toArray.isEmpty&&S6 (g.toArray.size+d.toArray.size))=AD:=by
  rw[yH m,Xi];exact Qf
 refine Ti F.slot_list_extend #[_,e,rfl] F.entry_list_extend (F.args_list_extend_2 _ _)
  (AutoSeq1.list_extend_list_list_0 l g.toArray n b d.toArray C j (by rw[P4];omega) ()) #[e,J,?_]
 calc#[.gu,_,I.Kh (its':=g++d) p e (by simp) (r.append r2) ?_,rfl,q];rw[mu];omega
meta def NO:V->MC V->Hp->VK->Prop:=λx e H Q=>∃l d y,x=.ref l/\e=[]/\H l=U (.Y d)/\d[⇑d-1]?=U y/\Q y (upd H l (.Y d.dropLast))
def Km :Ni X "list.pop" NO:=by
 intro m s J H x M v N Q I p t h;let(l,L,y,rfl,rfl,o,C,q):=h
 cases p
 let j:=t.zero;subst j;let(z,d,n,r,G,e):=I.yG o;let(u,D,B):=r.get C
 let g:d.toArray[d.toArray.size-1]?=U u:=by
  show d.toArray[⇑d-1]?=U u;rw[<-Xb,<-G];exact D
 calc Ti F.slot_list_pop #[_,e,rfl] F.entry_list_pop (F.args_list_pop_1 _) (MeetsSeq.list_pop_last l d.toArray n u g (by rw[P4];omega)) #[e,?_];refine#[y,_,I.Kh (its':=d.dropLast) o e ?_ r.dropLast ?_,B,q]
 .show d.toArray.eraseIdxIfInBounds (d.toArray.size-1)=d.dropLast.toArray;rw[P4,List.eraseIdxIfInBounds_toArray,Ak]
 .rw[Vg];omega
meta def Mr:R2:=λx y H Q=>∃l b e d,x=.ref l/\y=.ref b/\H l=U (.Y e)/\H b=U (.Y d)/\⇑e+⇑d<=my/\∀p,H p=gV->Q (.ref p) (upd H p (.Y (e++d)))
def jQ :nY X (SI .Add) Mr:=by
 intro j s G H x y v u Q I o m h;let(l,b,M,J,rfl,rfl,t,B,O,q):=h
 cases o
 cases m
 let(z,g,n,r,R,e):=I.yG t;let(L,d,N,r2,p,D):=I.yG B;calc PySem.P.add_list e D ?_ (by rw[P4,P4];omega);let C:g.toArray++d.toArray=(g++d).toArray:=by simp
 rw[C];calc#[.ref _,_,I.Mq (t':=s.toks) (r.append r2) (by rw[mu];omega),rfl,q _ I.fresh]
meta def NP:R2:=λx y H Q=>∃l k d,x=.ref l/\y=.int k/\H l=U (.Y d)/\-(2 ^ 63)<=k/\k<2 ^ 63/\⇑d*k.toNat<=my /\
 ∀p,H p=gV->Q (.ref p) (upd H p (.Y (P7 k.toNat d).flatten))
def len_rep {d:Type}(xs:List d)(k:Nat):(P7 k xs).flatten.length=k*⇑xs:=by
 induction k with
 |zero=>simp
 |succ k ih=>rw[RD,S2,mu,ih,WV,Nat.add_comm]
def Am :nY X (SI .Mult) NP:=by
 intro G s Y H x y v u Q I N M h;let(l,k,Z,rfl,rfl,R,V,S,J,q):=h
 cases N
 let(t,rfl):=M;let(z,d,n,r,O,e):=I.yG R;let o:d.toArray.size*k.toNat<=my:=by rw[P4,<-O];exact J
 let B:¬d.toArray.size*k.toNat>(2 ^ 63-1) / 8:=by
  let:(my:Nat)<=(2 ^ 63-1) / 8:=∅
  omega
 let p:¬(!RQ.List.listFitsIndex k)=AD:=by
  rw[fitsIndex_both V S];exact Qf
 let g:¬S6 (d.toArray.size*k.toNat)=AD:=by
  rw[yH o];exact Qf
 let j:VJ (λD C=>D++C) #[] (P7 (if d.toArray.isEmpty=AD then 0 else k.toNat) d.toArray)=(P7 k.toNat d).flatten.toArray:=by
  let W:∀m:Nat,VJ (λD C=>D++C) #[] (P7 m d.toArray)=(P7 m d).flatten.toArray:=λm=>by
   let:=foldl_rep d m [];rw[Sj]at this;exact this
  rw[W]
  cases d with
  |nil=>simp
  |cons a r'=>rw[if_neg (by simp)]
 refine VZ (T:="list") (U:="int") ∅ #[_,e,rfl] (λL=>Uj L k t) noFill_list_mul F.fills_int_mul Uk repeat_list F.slot_int_index.lookup
  (Ti Uk (Uj s k t) F.entry_int_rmul (F.args_int_rmul_2 _ _) (int___rmul___int_list k t l d.toArray n)
   #[e,rfl,#[_,e,rfl],Ti F.slot_list_mul #[_,e,rfl] F.entry_list_mul (F.args_list_mul_2 _ _) (AutoListH.list___mul___list_int_3 l d.toArray n k t p B g) #[e,?_]])
 rw[j];calc#[.ref _,_,I.Mq (t':=s.toks) (r.rep k.toNat) (by rw[len_rep,Nat.mul_comm];calc J),rfl,q _ I.fresh]
end L2
namespace Att
open PySem PySem.W PySem.Calls PyProof.Rows
def sF :∀(ns:MC Int) (vs:List eT),WellAll P h vs (ns.map WData.int)->Xv vs ns:=by
 intro ns
 induction ns with
 |nil =>
  intro vs w;rw[RL]at w
  cases w
  calc .nil
 |cons n ns ih =>
  intro vs w;rw[Qd]at w
  cases w with
  |cons a b =>
   cases a
   calc .cons _ _ (ih _ b)
def B5 {l:Vu}(hn:l.most=U n)(hpre:l.row.toRowW.claim.pre args=AD)(hwl:WellAll P h e args):
  ∃a vs ns,e=[Value.ref a]/\args=[WData.list (ns.map WData.int)]/\h.get? a=U {cls:=.type "list",data:=.seq vs.toArray}/\Xv vs ns/\⇑ns<=n:=by
 let o:WShape.hasAll [] args [.list .int]=AD:=(pre_splitW hpre).1;let p:l.pre.holds [] {args:=args}=AD:=(pre_splitW hpre).2;let(d,r,rfl,y,v):=hasAllW_cons o;obtain rfl:=hasAllW_nil v;let(z,rfl,u):=hasW_list y;let(ns,rfl):=items_int u
 let g:⇑ns<=n:=by
  unfold Vu.pre at p
  let m:(WTm.not (.lt (.lit (.int (n:Int))) (.len (.arg 0)))).holds [] {args:=[.list (ns.map .int)]}=AD:=by
   let m:=(holds_andW p).1;rw[hn]at m;exact m
  let j:=condW_of m (w_not (w_lt w_lit (w_len_list (w_arg rfl))));rw[bM]at j;calc Nat.le_of_not_lt λq=>?_;let t:(n:Int)<((⇑ns:Nat):Int):=()
  first
   |(rw[decide_eq_true t]at j;calc absurd j ∅)
   |(simp at j;omega)
 cases hwl with
 |cons w1 w2 =>
  cases w2
  cases w1 with
  |list ho hall=>calc#[_,_,ns,rfl,rfl,ho,sF ns _ hall,g]
def B6 (l:Vu)(args:MC WData):l.row.toRowW.claim.post args (.bool AD) args=AD :=
 postW_of (r:=l.row.toRowW) (X:=(AD == AD))
  (show WShape.has [] (.bool AD) .bool=AD by first|rfl|decide|simp[WShape.has,WShape.arms,WShape.armsAll])
  (show(WTm.eq .res (.lit (.bool AD))).value [] {args:=args,res:=U (.bool AD),after:=args}=U (.bool (AD == AD))from w_eq_bool (w_res rfl) w_lit) rfl
def yI {l:Vu}(hn:l.most=U n)(hdf:d.params.defaults=[])(call:∀(w:Qe) (g e:fy) (mg C:AA->AF eT) (y:AB) (o:Obj) (B z p:eT) (a:AB) (vs:List eT) (ns:MC Int),
   Ground q j [] Q w g mg C e.heap->O w e.heap ->
   e.heap.get? y=U o->o.data=.func (docDef d.name d.params d.body d.scope B z p)->e.heap.CodeRec z d.name->mg d.name=U (.ref y) ->
   e.heap.get? a=U {cls:=.type "list",data:=.seq vs.toArray}->Xv vs ns->⇑ns<=n->e.gens=#[] ->
   RS (P9 l.prog w) Xw (.call (.ref y) #[[.ref a],[]]) (λr s'=>r=.ok (.ret (.bool AD))/\OldK e.heap s'.heap/\s'.os=e.os/\Vx s'.gens) e):
  WalkO q j Q O l.row.toRowW d [] (λf vs=>YG f vs):=by
 intro w g e mg C G Y y o B z p dV kV T hd I M H W N J as t L R D V;obtain rfl:dV=.none:=Dflts.none M hdf;obtain rfl:kV=.none:=Dflts.noKw M;let(a,vs,ns,rfl,rfl,u,m,v):=B5 hn t D;calc enter_call (Th (call w g e mg C y o B z p a vs ns G Y T (fd_plain hd) I H u m v W) λr s' S=>?_);let(rfl,h2,Z,X):=S;calc#[.inl #[.bool AD,.bool AD,[],rfl,λ_=>rfl,.bool AD,B6 l _,λ_=>#[List.Pairwise.nil,λ_ gD=>(nomatch gD)]],h2,Z,X]
end Att
namespace L2
open PySem PySem.Spec PyProof.Rows
theorem vF :∀{vs:List eT}{ns:MC Int},Xv vs ns->Vals (ns.map V.int) vs
 |_,_,.nil=>.nil
 |_,_,.cons n t h=>.cons #[t,rfl] (vF h)
meta def Kn(H:Hp):Prop:=∀b,H b=gV\/∃o d,H b=U (.nT o (.Y d))
def DF {K:cB}{T:PZ}{sp:Sp}(KX:K.In g.heap)(hns:g.heap.Ns Qp mg)(l:g.heap.Ns builtinsNs M)(hbb:∀x:AA,x≠"__name__"->M x=UB x)(hlim:g.heap.NoLimit)(hg:g.gens=#[])(ha:g.heap.get? a=U {cls:=.type "list",data:=.seq vs.toArray})(hi:Xv vs ns)(hl:⇑ns<=my)(hr:dZ k Xw)(F:∀base:Heap,K.In base->base.Ns Qp mg->cD P w K mg base CX k N T [x] sp)(hbind:∀(s:fy) (u:eT),X8 s T #[[u],[]] [(x,u)])(hsp:∀H:Hp,Kn H->aV K H a (ns.map V.int)->sp [.ref a] H (λv _=>v=.bl AD) λ_ _ _=>False)(hCX:∀H e s',CX [] H g (λ_ _ _=>False) e s'->False):
  RS (P9 P w) Xw (.call (.ref N) #[[.ref a],[]]) (λr s'=>r=.ok (.ret (.bool AD))/\OldK g.heap s'.heap/\s'.os=g.os/\Vx s'.gens) g:=by
 let Q:=vF hi;let y:=⇑hi
 let core:∀H:Hp,Kn H->aV K H a (ns.map V.int)->nh P w H g.heap->(∀b,H b≠gV->b=a)->(H a≠gV->K.lookup a=gV) ->
   RS (P9 P w) Xw (.call (.ref N) #[[.ref a],[]]) (λr s'=>r=.ok (.ret (.bool AD))/\OldK g.heap s'.heap/\s'.os=g.os/\Vx s'.gens) g:=by
  intro H R hS C S hK;let j:∀{b:AB}{o:Obj},g.heap.get? b=U o->H b=gV->(wF g.heap H).get? b=U o:=λe n=>Dl e n
  let L:∀{b:AB}{o:Obj}{G:Array SV}{I:Nat},g.heap.get? b=U o->o.data=.dict G I->H b=gV:=λ{b o G I} e d=>by
   cases q:H b with
   |none=>rfl
   |some u =>
    let O:b=a:=S b (by rw[q];simp);subst O;rw[ha]at e;cases e;let d':Data.seq vs.toArray _=Data.dict G I:=d
    cases d'
  let p:∀{b:AB}{m:AA->AF eT},g.heap.Ns b m->(wF g.heap H).Ns b m:=λ{b m} ⟨o,G,I,e,d,r⟩=>#[o,G,I,j e (L e d),d,r]
  let D:K.In (wF g.heap H):=λb o e=>j (KX b o e) (by
   cases q:H b with
   |none=>rfl
   |some u =>
    let O:b=a:=S b (by rw[q];simp);subst O;rw[hK (by rw[q];simp)]at e;cases e)
  let hM:Mod K mg (wF g.heap H):=#[D,p hns,#[M,p l,hbb],let⟨mc,h1,h2⟩:=hlim;#[mc,p h1,h2]];let e0:Ae P w K mg (wF g.heap H) Xw [] g H:=#[rfl,hM,λb o e=>FU e,WO (BU _ _),trivial,λb l=>absurd (show b∈([]:List AB)from l) (by simp),C,.of_eq hg];refine Th ((F _ D (p hns)).run Xw [] g H #[[.ref a],[]] [.ref a] [.ref a] _ _ hr e0 (hbind g (.ref a)) (.cons rfl .nil) (hsp H R hS)) λr s' h=>?_
  cases r with
  |error e=>calc(hCX H e s' h).elim
  |ok fl =>
   cases fl with
   |next=>calc Rr h
   |brk=>calc Rr h
   |cont=>calc Rr h
   |ret u =>
    let(v,H',os,J,un,B,Y,q):=h;let Z:v=.bl AD:=q;subst Z;obtain rfl:u=Value.bool AD:=Y;refine#[rfl,OldK.of_keep λb o e=>?_,os,J]
    cases q:H b with
    |none=>calc un.keep b o e q (by intro z;calc absurd (show b∈([]:List AB)from z) (by simp)) (by simp)
    |some u =>
     rcases R b with z|⟨ob,xs,z⟩
     .rw[q]at z;cases z
     .have X:=un.frzs b ob _ z;let(gD,_):=C b _ z;let(e2,_):=B b _ X;rw[e]at gD;cases gD;exact e2
 cases hk:K.lookup a with
 |some o =>
  let e:=KX a o hk;rw[ha]at e
  cases e
  refine core (λ_=>gV) (λ_=>.inl rfl) (.inr #[_,vs.toArray,_,hk,rfl,rfl,rfl,by rw[P4,y];exact hl,by simpa using Q]) (λb u z=>by let t:(gV:AF HO)=U u:=z;cases t) (λb z=>absurd rfl z) λz=>absurd rfl z
 |none =>
  refine core (λb=>if b=a then U (.nT {cls:=.type "list",data:=.seq vs.toArray} (.Y (ns.map V.int)))else gV) (λb=>?_) (.inl (.inr #[{cls:=.type "list",data:=.seq vs.toArray},if_pos rfl])) (λb u z=>?_) (λb z=>?_) λ_=>hk
  .by_cases l:b=a
   .exact .inr #[_,_,if_pos l]
   .exact .inl (if_neg l)
  .by_cases l:b=a
   .have t:=(if_pos l).symm.trans z
    cases t
    subst l;exact#[ha,by rw[bM];calc hl,vs,_,Q,ha]
   .have t:=(if_neg l).symm.trans z
    cases t
  .by_cases l:b=a
   .exact l
   .exact absurd (if_neg l) z
def Gp {l:Vu}{K:Params->cB}{CX:Qe->yn}{sp:Qe->Sp}(hn:l.most=U n)(hn2:n<=my)(hdf:d.params.defaults=[])(hr:dZ k Xw)(hY:∀(w:Qe) (h:Heap),D w h->(K w.params).In h)(F:∀(w:Qe) (mg:AA->AF eT) (y:AB) (h:Heap),(K w.params).In h->h.Ns Qp mg->mg d.name=U (.ref y) ->
   ∃B:PZ,(∀(s:fy) (u:eT),X8 s B #[[u],[]] [(x,u)]) /\
    ∀base:Heap,(K w.params).In base->base.Ns Qp mg->cD l.prog w (K w.params) mg base (CX w) k y B [x] (sp w))(hsp:∀(w:Qe) (H:Hp) (a:AB) (ns:MC Int),⇑ns<=n->Kn H->aV (K w.params) H a (ns.map V.int)->sp w [.ref a] H (λv _=>v=.bl AD) λ_ _ _=>False)(hCX:∀(w:Qe) (H:Hp) (s:fy) (e:eT) (s':fy),CX w [] H s (λ_ _ _=>False) e s'->False):
  YL q m S D l.row.toRowW d [] (λf vs=>YG f vs):=by
 calc Att.yI hn hdf λw C r mg X y o gD cd R a vs ns G Y Z hd L z t p j J=>?_;let I:=hY w _ Y;let(B,M,Q):=F w mg y _ I G.T.g z;calc DF I G.T.g G.T.b G.T.builtins G.T.nolimit J t p (Qq j hn2) hr Q M (λH O N=>hsp w H a ns j O N) λH e s'=>hCX w H r e s'
meta def mz(s:Stmt):Arguments:=match s with
 |.FunctionDef _ a _ _ _ _ _ _ _ _=>a
 |_=>{posonlyargs:=[],args:=[],vararg:=gV,kwonlyargs:=[],kw_defaults:=[],kwarg:=gV,defaults:=[]}
meta def bE(s:Stmt):MC Stmt:=match s with
 |.FunctionDef _ _ b _ _ _ _ _ _ _=>b
 |_=>[]
meta def af(s:Stmt):Rt:=match s with
 |.FunctionDef _ _ _ _ _ _ sc _ _ _=>sc
 |_=>{kind:=.function,names:=[],isGenerator:=AE,isCoroutine:=AE}
abbrev gy:yn:=λ_ _ _ _ _ _=>False
abbrev E0:XK:=λ_ _ _=>False
def lS :Passes gy X E0:=λ_ _ _ _ _ _ _ h=>h.elim
structure i9(K:cB) (x qual:AA) (st:Stmt) (f:AB) (fd:PZ):Prop where
 ex:∃(oc:eT) (od:AF AB) (kV doc pm:eT) (an:AF AB) (cdv ct:eT) (osl:Array (AF eT)),
  fd=UG x qual (mz st) (bE st) (af st) .none kV doc pm an cdv ct/\K.lookup f=U #[oc,od,.func fd,osl]/\Wh K cdv qual=AD
 kp:R3 K (.ref f)=AD
def i9.ok {K:cB}{st:Stmt}{sp:Sp}(F:i9 K x d st f l)(S:aY N ps (af st))(e:∀vs H Q E,sp vs H Q E->⇑vs=⇑ps)(hbody:∀(cdv:eT) (A:Qk) (outer:MC Env) (s:fy) (H:Hp) (vs:MC V) (Q:VK) (E:XK),dZ k (A.deeper (Qj d (af st) s⁻¹ f cdv))->sp vs H Q E ->
   ∃t,rN (uT gy P w K mg base N d (af st) f cdv A outer s H E).oS (bE st) t/\t {nx:=λ_ p=>Q .gu p,rt:=Q} (start N vs) H):cD P w K mg base gy (k+1) f l ps sp:=by
 let(v,u,kV,o,r,z,cdv,y,m,rfl,lk,j):=F.ex;calc Jg lk j S e λA outer s H vs Q E hr g=>?_;let(t,h,q):=hbody cdv A outer s H vs Q E hr g;calc#[t,h.oS,q]
def i9.binds {K:cB}{st:Stmt}(F:i9 K x d st f l)(h:∀(kV e g:eT) (j:AF AB) (cdv ct:eT) (us:List eT),⇑us=⇑ps->bindArgs (UG x d (mz st) (bE st) (af st) .none kV e g j cdv ct) #[us,[]]=pure (ps.zip us)):Binds K l ps []:=by
 let(q,p,kV,e,g,j,cdv,ct,m,rfl,lk,o):=F.ex;calc .all (h kV e g j cdv ct)
def gQ (hr:dZ k A):A.units+1<US:=VL (Xz (∅:1<=64) _) hr.units
def bg (h:n<=1000):n<my:=VL h ∅
def pv (i:Nat)(e:X.N[i]?=U x:=by rfl)(d:LV X.env.scope x:=by first|calc Or.inl rfl|calc Or.inr (Or.inl rfl)|calc Or.inr (Or.inr rfl))(hd:(x == ("__debug__":AA))=AE:=by decide)(hcd:(x == ("__classdict__":AA))=AE:=by decide):PE X (.Name x pos) (jD i):=Dm e d hd hcd
def b8 {c A B:Prop}[Decidable c](e:c->A)(d:¬c->B):if c then A else B:=by
 by_cases h:c
 .rw[if_pos h];exact e h
 .rw[if_neg h];calc d h
meta def aS(H d:Hp):Prop:=∀b o,H b=U o->d b=U o
def aS.refl (H:Hp):aS H H:=λ_ _ h=>h
def aS.trans (a:aS H e)(b:aS e d):aS H d:=λc o h=>b c o (a c o h)
def aS.free (e:aS H d)(h:d l=Option.none):H l=Option.none:=by
 cases q:H l with
 |none=>rfl
 |some o =>
  rw[e l o q]at h
  cases h
def aS.seq {K:cB}(e:aS H d)(h:aV K H a xs):aV K d a xs:=by
 rcases h with(h|⟨o,h⟩)|h
 .exact .inl (.inl (e _ _ h))
 .exact .inl (.inr #[o,e _ _ h])
 .exact .inr h
section
variable {κ:Type} [DecidableEq κ]
meta def eM(kvs:MC (κ×V))(k:κ):AF V:=(kvs.find? λd=>decide (d.1=k)).map (·.2)
meta def putK(kvs:MC (κ×V))(k:κ)(v:V):MC (κ×V) :=
 if(kvs.any λd=>decide (d.1=k))=AD then kvs.map (λd=>if d.1=k then(d.1,v)else d)else kvs++[(k,v)]
def fc {p:κ×V}{r:MC (κ×V)}{k:κ}(e:p.1=k):eM (p::r) k=U p.2:=by simp[eM,Rz,e]
def fg {p:κ×V}{r:MC (κ×V)}{k:κ}(e:¬p.1=k):eM (p::r) k=eM r k:=by simp[eM,Rz,e]
theorem qb (k:κ):∀kvs:MC (κ×V),(kvs.any λd=>decide (d.1=k))=(eM kvs k).isSome
 | []=>rfl
 |p::r=>by
  rw[Uc]
  by_cases e:p.1=k
  .simp only[fc e,decide_eq_true e,Bool.true_or,Option.isSome_some]
  .rw[fg e,decide_eq_false e,Bool.false_or];calc qb k r
theorem yJ (k j:κ)(y:V):∀kvs:MC (κ×V),eM (kvs.map λd=>if d.1=k then(d.1,y)else d) j=(eM kvs j).map λx=>if j=k then y else x
 | []=>rfl
 |p::r=>by
  let g:=yJ k j y r;rw[Qd]
  by_cases h:p.1=k
  .rw[if_pos h]
   by_cases e:p.1=j
   .rw[fc (p:=(p.1,y)) e,fc e,Sk,if_pos (e.symm.trans h)]
   .rw[fg (p:=(p.1,y)) e,fg e,g]
  .rw[if_neg h]
   by_cases e:p.1=j
   .rw[fc (p:=p) e,fc e,Sk,if_neg (λz=>h (e.trans z))]
   .rw[fg (p:=p) e,fg e,g]
theorem vG (k j:κ)(y:V):∀kvs:MC (κ×V),eM kvs k=gV->eM (kvs++[(k,y)]) j=if j=k then U y else eM kvs j
 | [],_=>by
  by_cases e:k=j
  .rw[if_pos e.symm];exact fc (p:=(k,y)) e
  .rw[if_neg (λz=>e z.symm)];calc fg (p:=(k,y)) e
 |p::r,hn=>by
  rw[S9];let d:¬p.1=k:=λz=>by rw[fc z]at hn;cases hn
  rw[fg d]at hn;let g:=vG k j y r hn
  by_cases e:p.1=j
  .rw[fc e,fc e,if_neg (λz=>d (e.trans z))]
  .rw[fg e,fg e,g]
def yK (kvs:MC (κ×V))(k j:κ)(y:V):eM (putK kvs k y) j=if j=k then U y else eM kvs j:=by
 unfold putK
 by_cases a:(kvs.any λd=>decide (d.1=k))=AD
 .rw[if_pos a,yJ];rw[qb]at a
  by_cases e:j=k
  .have(x,g):=Wg.mp a;rw[if_pos e,e,g,Sk,if_pos rfl]
  .rw[if_neg e]
   cases eM kvs j with
   |none=>rfl
   |some x=>rw[Sk,if_neg e]
 .rw[if_neg a];calc vG k j y kvs ?_;rw[qb]at a
  cases q:eM kvs k with
  |none=>rfl
  |some x=>rw[q]at a;calc(a rfl).elim
def nu (kvs:MC (κ×V))(k:κ)(v:V):⇑(putK kvs k v)<=⇑kvs+1:=by
 unfold putK
 split
 .rw[bM];omega
 .rw[mu,Qn,Tq];omega
def lD.qT (r:lD o u):o.isSome=u.isSome:=by
 cases o with
 |none=>cases u with
  |none=>rfl
  |some _=>calc(show False from r).elim
 |some _=>cases u with
  |none=>calc(show False from r).elim
  |some _=>rfl
def lD.getD (r:lD o u)(e:RelV d d'):RelV (o.getD d) (u.getD d'):=by
 cases o with
 |none=>cases u with
  |none=>calc e
  |some _=>calc(show False from r).elim
 |some _=>cases u with
  |none=>calc(show False from r).elim
  |some _=>calc r
def KV.val {kvs:MC (κ×V)}{vs:MC (κ×eT)}(r:KV kvs vs)(k:κ):lD (eM kvs k) (TV vs k):=by
 unfold KV at r
 induction r with
 |nil=>calc True.intro
 |@cons p q ps qs h t ih =>
  let(g,j):=h
  by_cases e:p.1=k
  .have d:q.1=k:=g.symm.trans e;let b:TV (q::qs) k=U q.2:=by simp[TV,Rz,d]
   rw[fc e,b];exact j
  .have d:¬q.1=k:=λz=>e (g.trans z);let b:TV (q::qs) k=TV qs k:=by simp[TV,Rz,d]
   rw[fg e,b];calc ih
def KV.any {kvs:MC (κ×V)}{vs:MC (κ×eT)}(r:KV kvs vs)(k:κ):(kvs.any λd=>decide (d.1=k))=vs.any λd=>decide (d.1=k):=by
 unfold KV at r
 induction r with
 |nil=>rfl
 |cons h t ih=>rw[Uc,Uc,ih,h.1]
def KV.repl {kvs:MC (κ×V)}{vs:MC (κ×eT)}(r:KV kvs vs)(k:κ){y:V}{u:eT}(j:RelV y u):
  KV (kvs.map λd=>if d.1=k then(d.1,y)else d) (vs.map λd=>if d.1=k then(d.1,u)else d):=by
 unfold KV at r|-
 induction r with
 |nil=>calc .nil
 |@cons p q ps qs h t ih =>
  rw[Qd,Qd];calc .cons ?_ ih;let(g,l):=h
  by_cases e:p.1=k
  .rw[if_pos e,if_pos (g.symm.trans e)];exact#[g,j]
  .rw[if_neg e,if_neg (λz=>e (g.trans z))];calc#[g,l]
def KV.put {kvs:MC (κ×V)}{vs:MC (κ×eT)}(r:KV kvs vs)(k:κ){y:V}{u:eT}(d:RelV y u):KV (putK kvs k y) (YH vs k u):=by
 unfold putK YH;rw[r.any k]
 by_cases e:(vs.any λg=>decide (g.1=k))=AD
 .rw[if_pos e,if_pos e];exact r.repl k d
 .rw[if_neg e,if_neg e];calc Paired.snoc r #[rfl,d]
def KV.length {kvs:MC (κ×V)}{vs:MC (κ×eT)}(r:KV kvs vs):⇑kvs=⇑vs:=Paired.length r
end
def qc (r:RelV (kV k) u):(aW P w).is k u=AD:=by
 cases k with
 |inl i=>let(t,e):=(show ∃t,u=Value.int i t from r);subst e;calc yu P w i t
 |inr x=>let(t,e):=(show ∃t,u=Value.str x t from r);subst e;calc yw P w x t
theorem vH :∀{ks:MC Key}{us:List eT},Vals (ks.map kV) us->ItemsAre (aW P w) ks us
 | [],_,r=>by rw[RL]at r;cases r;calc .nil
 |k::ks,_,r=>by
  rw[Qd]at r
  cases r with
  |cons h t=>calc .cons (qc h) (vH t)
abbrev KT(H:Hp):MC (MC Key×V)->MC (MC Key×AB×eT)->Prop:=Paired λp q=>p.1=q.1/\H q.2.1=U (.J (p.1.map kV))/\RelV p.2 q.2.2
def KT.val (r:KT H kvs xs)(k:MC Key):lD (eM kvs k) ((Yx xs k).map (·.2)):=by
 induction r with
 |nil=>calc True.intro
 |@cons p q ps qs h t ih =>
  let(g,_,j):=h
  by_cases e:p.1=k
  .have d:q.1=k:=g.symm.trans e;let b:Yx (q::qs) k=U q.2:=by simp[Yx,Rz,d]
   rw[fc e,b];exact j
  .have d:¬q.1=k:=λz=>e (g.trans z);let b:Yx (q::qs) k=Yx qs k:=by simp[Yx,Rz,d]
   rw[fg e,b];calc ih
def KT.repl (r:KT H kvs xs)(k:MC Key)(l:RelV y u):
  KT H (kvs.map λg=>if g.1=k then(g.1,y)else g) (xs.map (putAt k u)):=by
 induction r with
 |nil=>calc .nil
 |@cons p q ps qs h t ih =>
  rw[Qd,Qd];calc .cons ?_ ih;let(d,j,m):=h;unfold putAt
  by_cases e:p.1=k
  .rw[if_pos e,if_pos (d.symm.trans e)];exact#[d,j,l]
  .rw[if_neg e,if_neg (λz=>e (d.trans z))];calc#[d,j,m]
def KT.put (r:KT H kvs xs)(k:MC Key)(j:H b=U (.J (k.map kV)))(d:RelV y u):
  KT H (putK kvs k y) (storedH xs k b u):=by
 let e:(kvs.any λg=>decide (g.1=k))=(Yx xs k).isSome:=by
  rw[qb,(r.val k).qT,V8]
 unfold putK storedH;rw[e]
 by_cases q:(Yx xs k).isSome=AD
 .rw[if_pos q,if_pos q];exact r.repl k d
 .rw[if_neg q,if_neg q];calc Paired.snoc r #[rfl,j,d]
def KT.keeps (r:KT H kvs xs)(ht:∀b ys,H b=U (.J ys)->d b=U (.J ys)):KT d kvs xs :=
 Paired.FT r λ_ _ z=>#[z.1,ht _ _ z.2.1,z.2.2]
def Jh (ok:nh P w H h)(e:Rd H a u):eW P w H h a u:=e.ok ok
def rS (ok:nh P w H h)(e:Rd H a (.dK kvs)):⇑kvs<=my/\(a == RM)=AE/\∃vs,KV kvs vs/\h.DictOf (aW P w) a vs :=
 show eW P w H h a (.dK kvs)from Jh ok e
def Ji (ok:nh P w H h)(e:H a=U (.dK kvs)):⇑kvs<=my/\(a == RM)=AE/\∃vs,KV kvs vs/\h.DictOf (aW P w) a vs:=rS ok (.inl e)
def tO (ok:nh P w H h)(e:H a=U (.J (ks.map kV))):(Wt (aW P w)).is h ks a:=by
 let(_,d,r,(o,l,j,n,g),_):=(show eW P w H h a (.J (ks.map kV))from ok a _ e);calc#[o,d.toArray,n,l,j,g,by simpa using vH r]
def vI (ok:nh P w H h)(e:Rd H a (.dT kvs)):⇑kvs<=my/\(a == RM)=AE /\
  ∃xs,KT H kvs xs/\h.DictOfH (Wt (aW P w)) a xs:=by
 let(z,y,xs,r,o,B,C,v,u,j,g,d):=(show eW P w H h a (.dT kvs)from Jh ok e);refine#[z,y,xs,r,o,B,C,v,u,j,g,λx hx=>?_,d]
 let all:∀{l:MC (MC Key×V)}{m:MC (MC Key×AB×eT)},KT H l m->∀x∈m,(Wt (aW P w)).is h x.1 x.2.1:=by
  intro l m q
  induction q with
  |nil=>intro x hx;calc nomatch hx
  |@cons p q ps qs hq t ih =>
   intro x hx;rcases P1.mp hx with e|hx
   .subst e;exact tO ok (by rw[<-hq.1];calc hq.2.1)
   .exact ih x hx
 calc all r x hx
def Ms (ok:nh P w H h)(e:H a=U (.dT kvs)):⇑kvs<=my/\(a == RM)=AE /\
  ∃xs,KT H kvs xs/\h.DictOfH (Wt (aW P w)) a xs:=vI ok (.inl e)
meta def fX(H:Hp)(a:AB)(y:V)(r:AF V):Prop :=
 (∃d k,Rd H a (.dK d)/\y=kV k/\r=eM d k)\/∃d k b,Rd H a (.dT d)/\y=.ref b/\H b=U (.J (k.map kV))/\r=eM d k
meta def wO(H:Hp)(a:AB)(y v:V)(e:Hp):Prop :=
 (∃d k,H a=U (.dK d)/\y=kV k/\⇑d<my/\e=upd H a (.dK (putK d k v))) \/
 ∃d k b,H a=U (.dT d)/\y=.ref b/\H b=U (.J (k.map kV))/\⇑d<my/\e=upd H a (.dT (putK d k v))
def fX.k {k:Key}(e:H a=U (.dK kvs)):fX H a (kV k) (eM kvs k):=.inl #[kvs,k,.inl e,rfl,rfl]
def fX.t {k:MC Key}(e:H a=U (.dT kvs))(d:H b=U (.J (k.map kV))):fX H a (.ref b) (eM kvs k):=.inr #[kvs,k,b,.inl e,rfl,d,rfl]
def wO.k {k:Key}(e:H a=U (.dK kvs))(d:⇑kvs<my):wO H a (kV k) v (upd H a (.dK (putK kvs k v))):=.inl #[kvs,k,e,rfl,d,rfl]
def wO.t {k:MC Key}(e:H a=U (.dT kvs))(g:H b=U (.J (k.map kV)))(d:⇑kvs<my):
  wO H a (.ref b) v (upd H a (.dT (putK kvs k v))):=.inr #[kvs,k,b,e,rfl,g,d,rfl]
def Inv.big (I:Inv X pins σ H s):RM<s⁻¹:=by
 let h:Qp<s⁻¹:=(I.mod.glob.keeps I.bk).lt;calc Nat.lt_trans ∅ h
def B7 (J:A.units+1<US)(I:Inv X pins σ H s)(g:fX H a y (U v))(C:RelV y u)(h:∀m s',Inv X pins σ H s'->RelV v m->Q m s'):
  PY (P9 X.prog X.w) A (UI (.ref a) u) Q E s:=by
 rcases g with⟨kvs,k,e,ey,l⟩|⟨kvs,k,b,e,ey,eb,l⟩
 .subst ey;let(z,hd,G,j,B):=rS I.hok e;let(m,q,d):=lD.some_of (v:=v) (o:=TV G k) (by rw[l];calc j.val k);exact wpAny_getItem_of (qc C) B.mapOf q (h m _ (I.tok _) d)
 .subst ey
  cases(show u=Value.ref b from C)
  let(z,hd,D,j,B):=vI I.hok e;let(m,q,d):=lD.some_of (v:=v) (o:=(Yx D k).map (·.2)) (by rw[l];calc j.val k);let(p,L,t):=IF.mp q;calc wpAny_getItem_heap (Ul J) (tO I.hok eb) B L ?_;rw[t];calc h m _ (I.tok _) d
def Gq (p:A.units+1<US)(I:Inv X pins σ H s)(g:fX H a y o)(m:RelV y u)(h:∀s',Inv X pins σ H s'->Q (.bool (!o.isSome)) s'):
  PY (P9 X.prog X.w) A (RX .NotIn u (.ref a)) Q E s:=by
 rcases g with⟨kvs,k,e,ey,l⟩|⟨kvs,k,b,e,ey,eb,l⟩
 .subst ey;let(z,hd,B,d,j):=rS I.hok e;calc wpAny_notIn_of (qc m) hd j.mapOf ?_;rw[<-(d.val k).qT,<-l];exact h _ (I.tok _)
 .subst ey
  cases(show u=Value.ref b from m)
  let(z,hd,t,d,j):=vI I.hok e;calc wpAny_notIn_heap (Ul p) (tO I.hok eb) hd j ?_;let q:=(d.val k).qT;rw[V8]at q;rw[<-q,<-l];calc h _ (I.tok _)
def wQ (I:Inv X pins σ H s)(g:LU (H a))(hs:R9 a s.heap h')(j:∃q,h'.get? a=U q)(new:eW X.prog X.w (upd H a d) h' a d):
  Inv X pins σ (upd H a d) {s with heap:=h',toks:=t'} :=
 I.write (x:=a) (e:=a) g (.inl rfl) (λb q l z=>(hs.2 b l).trans z) j new
def An (z:⇑kvs<=my)(hd:(a == RM)=AE)(d:KV kvs vs)(e:h'.DictOf (aW P w) a vs):
  eW P w g h' a (.dK kvs):=#[z,hd,vs,d,e]
def B8 (R:A.units+1<US)(I:Inv X pins σ H s)(g:wO H a y v M)(D:RelV y u)(G:RelV v r)(h:∀s',Inv X pins σ M s'->Q Unit.unit s'):
  PY (P9 X.prog X.w) A (setItem (.ref a) u r) Q E s:=by
 rcases g with⟨kvs,k,e,ey,l,eH⟩|⟨kvs,k,b,e,ey,eb,l,eH⟩
 .subst ey eH;let(z,hd,O,d,C):=Ji I.hok e;let p:⇑O<=my:=by rw[<-⇑d];exact z
  let B:⇑(putK kvs k v)<=my:=by let:=nu kvs k v;omega
  calc wpAny_setItem_pairs (hsz:=p) (qc D) C λJ j t=>h _ ?_;let S:∃q,J.get? a=U q:=let⟨q,_,_,m,_⟩:=j;#[q,m];exact wQ I (by rw[e];calc True.intro) t S (An B hd (d.put k G) j)
 .subst ey eH
  cases(show u=Value.ref b from D)
  let(z,hd,N,d,C):=Ms I.hok e;let p:⇑N<=my:=by rw[<-Paired.length d];exact z
  let B:⇑(putK kvs k v)<=my:=by let:=nu kvs k v;omega
  calc wpAny_setItem_heap (hsz:=p) (Ul R) (tO I.hok eb) C λJ j t=>h _ ?_;let(q,Y,Z,m,W,V,gD,_,T):=j;calc wQ I (by rw[e];calc True.intro) t #[q,m] #[B,hd,_,(d.put k eb G).keeps λc ys L=>?_,q,Y,Z,m,W,V,gD,T];rw[aB (jw L e nofun)]
  calc L
meta def Ko(i:Expr):Prop:=∀d e,Xg i AE d e=operate [d,e] (UI d e)
def Ba {T id:String}(hl:VH (.type T) "__getitem__"=pure (U (.builtin id)))(hs:Ko slice)(h:PY (P9 prog w) A (eval d m) (λo l=>PY (P9 prog w) A (eval slice m) (λi e=>e.TypeIs o T/\PY (P9 prog w) A (UI o i) Q E e) E l) E s):
  PY (P9 prog w) A (eval (.Subscript d slice pos) m) Q E s:=by
 calc WR (Qu h (λo l q=>Qu q (λi e g=>?_) λ_ _ x=>x) λ_ _ x=>x);let(t,g):=g;unfold XN;calc bN ?_;rw[getitemInPython_of_ne t.not_modules];refine bN (wpAny_specialOf t hl ?_)
 let fin:PY (P9 prog w) A (Xg slice AE o i) (λr j=>PY (P9 prog w) A (letTemporaryGo d o r>>=λ_=>pure r) Q E j) E e:=by
  rw[hs o i];exact wpAny_operating (Qu g (λr j p=>bN (wpAny_letTemporaryGo (rz p))) λ_ _ x=>x)
 first
  |calc rz (bN fin)
  |calc bN (rz (bN fin))
  |calc bN fin
def yL (I:Inv X d l H s)(g:fX H a y o):s.TypeIs (.ref a) "dict":=by
 rcases g with⟨kvs,k,e,_,_⟩|⟨kvs,k,b,e,_,_,_⟩
 .have(_,_,p,_,j):=rS I.hok e;exact j.typeIs
 .have(_,_,m,_,j):=vI I.hok e;calc j.typeIs
meta def Pe(x:V)(Q:VK):VK:=λy d=>∃a v,x=.ref a/\fX d a y (U v)/\Q v d
abbrev Pf(ty:TE)(d:St)(Q:VK):VK:=λx e=>ty d e (Pe x Q)
abbrev Mt(e ty:TE):TE:=λd H Q=>e d H (Pf ty d Q)
meta def Mu(j ty g:TE):TS:=λD d H=>g d H λv o=>j d o λx m=>ty d m λy l=>∃a e,x=.ref a/\wO l a y v e/\D.nx d e
def fh {o i:Expr}{pos:Pos}{td ty:TE}(z:X.A.units+1<US)(B:PE X o td)(hi:PE X i ty)(hs:Ko i):PE X (.Subscript o i pos) (Mt td ty):=by
 intro d s l H Q I h;calc Ba V0.lookup hs (cQ (B d s l H _ I h) λu p ⟨x,J,D,r,q1⟩=>cQ (hi d p l J _ D q1) λO N ⟨y,G,m,q,a,v,ex,g,t⟩=>?_);subst ex;obtain rfl:u=Value.ref a:=r;calc#[yL m g,B7 z m g q λL M C j=>#[v,G,C,j,t]]
def Bb {o i value:Expr}{pos pos':Pos}{td ty tv:TE}(G:X.A.units+1<US)(J:PE X o td)(hi:PE X i ty)(C:PE X value tv)(hs:U6 value (U (.Subscript o i pos')) pos.line X.env=pure AE):
  PS X (.Assign [.Subscript o i pos'] value pos) (Mu td ty tv):=by
 intro d s j H D I h;calc wpAny_Assign_Subscript (cQ (C d s j H _ I h) λr m ⟨v,S,O,t,q1⟩=>cQ (J d m j S _ O q1) λu l ⟨x,R,N,q,B⟩=>cQ (hi d l j R _ N B) λV gD ⟨y,W,M,p,a,Q,ex,g,z⟩=>?_) hs;subst ex;obtain rfl:u=Value.ref a:=q;calc B8 G M g p t λT L=>#[j,Q,L,z]
def yM (h:Heap)(d:RM<h.objs.size):eW P w H (h.push {cls:=.type "dict",data:=.dict #[]}) h.objs.size (.dK []) :=
 #[Qc _,beq_eq_false_iff_ne.mpr (RP (Qs d)),[],.nil,W5 h]
meta def Kp:TE:=λ_ H Q=>∀p,H p=gV->Q (.ref p) (upd H p (.dK []))
def DG {pos:Pos}:PE X (.Dict [] [] pos) Kp:=λd s e H Q I h =>
 wpAny_Dict_empty #[.ref s⁻¹,_,I.laid (a:=s⁻¹) (o:=.dK []) (t':=s.toks) (λ_ _ q=>u5 _ q) (u4 _) (yM s.heap I.big),rfl,h _ (I.hok.fresh (u4 _))]
meta def Ao:MC (TE×TE)->St->Hp->(MC (V×V)->Hp->Prop)->Prop
 | [],_,H,Q=>Q [] H
 |(tk,tv)::r,σ,H,Q=>tk σ H λx j=>tv σ j λy g=>Ao r σ g λd e=>Q ((x,y)::d) e
abbrev VV:MC (V×V)->MC (eT×eT)->Prop:=Paired λp q=>RelV p.1 q.1/\RelV p.2 q.2
meta def Nj(X:Cx)(pos:Pos)(keys:MC (AF Expr))(d:MC Expr)(j:MC (TE×TE)):Prop :=
 ∀(e:MC (AB×Obj)) (s:fy) (g:St) (H:Hp) (Q:MC (V×V)->Hp->Prop),Inv X e g H s->Ao j g H Q ->
  PY (P9 X.prog X.w) X.A (evalPairs (pairTrees keys d X.env pos)) (λo p=>∃l m,Inv X e g m p/\VV l o/\Q l m) X.xe s
def Gr :Nj X pos [] [] []:=λd s e H Q I h=>pairTrees_nil_walk #[[],H,I,.nil,h]
def ny (D:PE X k m)(C:PE X v l)(hr:Nj X pos ks vs e):
  Nj X pos (U k::ks) (v::vs) ((m,l)::e):=λd s g H Q I h =>
 pairTrees_cons_walk (cQ (D d s g H _ I h) λu p ⟨x,O,L,r,q1⟩=>cQ (C d p g O _ L q1) λS o ⟨y,N,J,q,z⟩ =>
  cQ (hr d o g N _ J z) λR T ⟨B,M,G,j,t⟩=>#[(x,y)::B,M,G,.cons #[r,q] j,t])
meta def ja(kvs more:MC (Key×V)):MC (Key×V):=more.foldl (λd e=>putK d e.1 e.2) kvs
def KV.merge :∀{more:MC (Key×V)}{rs:MC (Key×eT)}{kvs:MC (Key×V)}{vs:MC (Key×eT)},KV more rs->KV kvs vs->KV (ja kvs more) (XX vs rs):=by
 intro more rs kvs vs r;unfold KV at r
 induction r generalizing kvs vs with
 |nil=>intro q;calc q
 |@cons p q ps qs h t ih =>
  intro d
  let e:KV (putK kvs p.1 p.2) (YH vs q.1 q.2):=by
   let:=d.put p.1 h.2;rw[<-h.1];exact this
  calc ih e
theorem lF :∀(more kvs:MC (Key×V)),⇑(ja kvs more)<=⇑kvs+⇑more
 | [],kvs=>by show ⇑kvs<=⇑kvs+0;omega
 |p::r,kvs=>by
  let e:=lF r (putK kvs p.1 p.2);let d:=nu kvs p.1 p.2;show(ja (putK kvs p.1 p.2) r).length<=_;rw[Qn];omega
theorem tP :∀{kvs:MC (Key×V)}{d:MC (eT×eT)},VV (kvs.map λe=>(kV e.1,e.2)) d->∃rs,Carries (aW P w) d rs/\KV kvs rs
 | [],_,r=>by rw[RL]at r;cases r;calc#[[],True.intro,.nil]
 |p::kvs,_,r=>by
  rw[Qd]at r
  cases r with
  |@cons a b as bs h t =>
   let(rs,c,q):=tP (P:=P) (w:=w) t;let(j,g):=b;calc#[(p.1,g)::rs,#[qc h.1,rfl,c],.cons #[rfl,h.2] q]
meta def Jj(e:MC (TE×TE)):TE:=λl H Q=>∀p,H p=gV->Ao e l (upd H p (.dK [])) λm j=>j p=U (.dK [])/\∃d:MC (Key×V),m=d.map (λg=>(kV g.1,g.2))/\⇑d<=15/\Q (.ref p) (upd j p (.dK (ja [] d)))
def Gs (h:Nj X pos keys d g)(m:keys.all (·.isSome)=AD)(M:⇑keys=⇑d)(R:keys≠[])(h15:⇑keys<=15):PE X (.Dict keys d pos) (Jj g):=by
 intro j s u H Q I q;let L:=I.hok.fresh (u4 s⁻¹);let gD:=I.laid (a:=s⁻¹) (o:=.dK []) (h':=s.heap.push {cls:=.type "dict",data:=.dict #[]}) (t':=s.toks) (λ_ _ q=>u5 _ q) (u4 _) (yM s.heap I.big);calc wpAny_Dict_walk (knd:=aW X.prog X.w) m M R h15 (cQ (h j _ u _ _ gD (q _ L)) λV W ⟨Y,Z,t,r,e,l,S,lk,D⟩=>?_);subst S;let(y,c,B):=tP (P:=X.prog) (w:=X.w) r;let(z,hd,v,C,T):=Ji t.hok e
 cases C
 refine#[y,c,T,λh' p J=>#[.ref s⁻¹,_,?_,rfl,D]]
 let G:⇑(ja [] l)<=my:=by
  let O:=lF l [];rw[Tq]at O;rw[TL];omega
 let N:∃q,h'.get? s⁻¹=U q:=let⟨q,_,_,hq,_⟩:=p;#[q,hq];calc wQ t (by rw[e];calc True.intro) J N (An G hd (B.merge .nil) p)
structure M2(X:Cx) (o:Expr) (m:AA) (apos:Pos) (e f:Expr) (cpos:Pos):Prop where
 base:Tr o m X.env (eval o X.env)=eval o X.env
 few:((UC cpos (QS [e,f] X.env)).all (λx=>!x.1)&&(backToKw cpos (keywordEach [] X.env)).all (λx=>x.1.isSome)
  && decide (⇑([e,f]:MC Expr)+⇑([]:MC YB)+(if([]:MC YB).isEmpty then 0 else 1)<30))=AD
 line:(apos.endLine == cpos.line)=AD
 trees:UC cpos (QS [e,f] X.env)=[(AE,eval e X.env),(AE,eval f X.env)]
meta def NQ(H:Hp)(a:AB):Prop:=(∃d,Rd H a (.dK d))\/∃d,Rd H a (.dT d)
def Kq (I:Inv X j p H s)(d:NQ H a):
  s.TypeIs (.ref a) "dict"/\(∀b,Value.ref a=.ref b->∃g,s.heap.get? b=U g/\g.dict=gV)/\(a == RM)=AE:=by
 rcases d with⟨kvs,e⟩|⟨kvs,e⟩
 .have(_,hd,t,_,l):=rS I.hok e;refine#[l.typeIs,λb q=>?_,hd]
  cases q
  let(g,_,_,o,m,_):=l;exact#[g,o,m.2.1]
 .have(_,hd,r,_,l):=vI I.hok e;refine#[l.typeIs,λb q=>?_,hd]
  cases q
  let(g,_,_,o,m,_):=l;calc#[g,o,m.2.1]
def Kr (B:A.units+1<US)(I:Inv X pins σ H s)(g:fX H a y o)(q:RelV y u)(t:RelV d r)(h:∀p s',Inv X pins σ H s'->RelV (o.getD d) p->Q p s'):
  PY (P9 X.prog X.w) A (call (.builtin "dict.get") [.ref a,u,r]) Q E s:=by
 rcases g with⟨kvs,k,e,ey,l⟩|⟨kvs,k,b,e,ey,eb,l⟩
 .subst ey;let(z,hd,C,j,m):=rS I.hok e;calc call_meetsIn UW m.typeIs WW (Wz _ _ _) (meets_dict_get_default (aW X.prog X.w) a (qc q) hd r) #[_,m.mapOf,h _ _ (I.tok _) ?_];rw[l];exact(j.val k).getD t
 .subst ey
  cases(show u=Value.ref b from q)
  let(z,hd,v,j,m):=vI I.hok e;calc call_meetsIn UW m.typeIs WW (Wz _ _ _) (meetsH_dict_get_default (Wt (aW X.prog X.w)) a b hd r) #[Ul B,k,v,tO I.hok eb,m,h _ _ (I.tok _) ?_];rw[l];calc(j.val k).getD t
meta def Ks(l ty j:TE):TE:=λd H Q=>l d H λx g=>∃a,x=.ref a/\NQ g a/\ty d g λy m=>j d m λz e=>∃o,fX e a y o/\Q (o.getD z) e
def DH {o e f:Expr}{apos cpos:Pos}{td ty tx:TE}(J:X.A.units+1<US)(L:PE X o td)(N:PE X e ty)(M:PE X f tx)(m:M2 X o "get" apos e f cpos):PE X (.Call (.Attribute o "get" apos) [e,f] [] cpos) (Ks td ty tx):=by
 intro j s l H Q I h;calc wpAny_Call_method m.base m.few m.line PySem.F.plainAttrs_dict UW PySem.F.type_dict_get (cQ (L j s l H _ I h) λu t ⟨x,V,q,C,a,ex,d,q1⟩=>?_);subst ex;obtain rfl:u=Value.ref a:=C;let(t1,t2,_):=Kq q d;calc#[t1,t2,?_];rw[m.trees]
 refine UJ rfl (Xh (Ui (cQ (N j t l V _ q q1) λiv r ⟨y,gD,S,B,G⟩ =>
  Ui (cQ (M j r l gD _ S G) λfv Z ⟨z,T,R,v,ov,g,D⟩=>V5 ?_))))
 calc Kr J R g B v λW Y O p=>#[_,T,O,p,D]
end L2
set_option maxHeartbeats 4000000
namespace L2
open PySem
set_option genInjectivity true in
inductive T where
 |s (x:AA)|i (n:Int)|n|t (xs:MC T)
def T.induct {P:T->Prop}(hs:∀x,P (.s x))(hi:∀n,P (.i n))(hn:P .n)(ht:∀xs,(∀x∈xs,P x)->P (.t xs))(a:T):P a :=
 T.rec (motive_1:=P) (motive_2:=λxs=>∀x∈xs,P x) hs hi hn ht (λ_ h=>nomatch h) (λ_ _ g e y d=>by
  cases d with
  |head=>calc g
  |tail _ h=>calc e y h) a
mutual
noncomputable def T.dep:T->Nat
 |.t xs=>T.nA xs+1
 |_=>0
noncomputable def T.nA:MC T->Nat
 | []=>0
 |x::r=>max x.dep (T.nA r)
end
def T.DI (h:x∈xs):x.dep<=T.nA xs:=by
 induction xs with
 |nil=>cases h
 |cons y r ih =>
  unfold T.nA
  cases h with
  |head=>calc W6 _ _
  |tail _ h=>calc Qq (ih h) (WA _ _)
mutual
noncomputable def T.eqB:T->T->Bool
 |.s x,.s y=>x == y
 |.i m,.i k=>m == k
 |.n,.n=>AD
 |.t xs,.t ys=>T.qd xs ys
 |_,_=>AE
noncomputable def T.qd:MC T->MC T->Bool
 | [],[]=>AD
 |x::r,y::q=>x.eqB y&&T.qd r q
 |_,_=>AE
end
def T.yN (h:∀x∈xs,∀y,T.eqB x y=AD↔x=y):∀ys,T.qd xs ys=AD↔xs=ys:=by
 induction xs with
 |nil=>intro ys;cases ys<;>simp[T.qd]
 |cons x r ih =>
  intro ys
  cases ys with
  |nil=>simp[T.qd]
  |cons y q =>
   unfold T.qd;rw[QJ,h x (.head _) y,ih (λz d=>h z (.tail _ d)) q,List.cons.injEq]
def T.eqB_iff (a:T):∀b,T.eqB a b=AD↔a=b:=by
 induction a using T.induct with
 |hs x=>intro b;cases b<;>simp[T.eqB]
 |hi x=>intro b;cases b<;>simp[T.eqB]
 |hn=>intro b;cases b<;>simp[T.eqB]
 |ht xs ih =>
  intro b
  cases b with
  |t ys=>unfold T.eqB;rw[T.yN ih ys,T.t.injEq]
  |_=>simp[T.eqB]
def T.DJ (a:T):T.eqB a a=AD:=(T.eqB_iff a a).mpr rfl
noncomputable instance:DecidableEq T:=λa b=>if h:T.eqB a b=AD then .isTrue ((T.eqB_iff a b).mp h)else .isFalse λz=>h ((T.eqB_iff a b).mpr z)
def T.DL (a b:MC T):T.qd a b=decide (a=b):=by rw[Tp,decide_eq_true_iff,T.yN (λx _=>T.eqB_iff x)]
theorem T.pA :∀(xs ys:MC T),T.qd xs ys=((Si (min ⇑xs ⇑ys)).all (λj=>T.eqB (xs.getD j .n) (ys.getD j .n))&&⇑xs == ⇑ys)
 | [],[]=>rfl
 | [],y::q=>by simp[T.qd]
 |x::r,[]=>by simp[T.qd]
 |x::r,y::q=>by
  unfold T.qd;rw[T.pA r q,Qn,Qn,Nat.succ_min_succ,List.range_succ_eq_map,Wk,List.all_map];let e:(⇑r+1 == ⇑q+1)=(⇑r == ⇑q):=by simp
  rw[e,Bool.and_assoc];rfl
set_option genInjectivity true in
inductive Hd where
 |num (n:Int)|name (x:AA)|gap (n:Int)|op (s:AA)|row|more|first|others|long|tag (t:AA)|call (f:AA)|mat (arms:MC (AA×List AA))|ife|lt (x:AA)|fold (x y:AA)
inductive Tm where
 |mk (h:Hd) (ks:MC Tm)
meta def Tm.hd:Tm->Hd|.mk h _=>h
meta def Tm.ks:Tm->MC Tm|.mk _ ks=>ks
def Tm.induct {P:Tm->Prop}(g:∀h ks,(∀k∈ks,P k)->P (.mk h ks))(a:Tm):P a :=
 Tm.rec (motive_1:=P) (motive_2:=λd=>∀x∈d,P x) g (λ_ h=>nomatch h) (λ_ _ l j y e=>by
  cases e with
  |head=>calc l
  |tail _ h=>calc j y h) a
meta def dc:Hd->Nat->Bool
 |.num _,n=>n == 0
 |.name _,n=>n == 0
 |.gap _,n=>n == 0
 |.op _,n=>n == 2
 |.row,_=>AD
 |.more,n=>n == 2
 |.first,n=>n == 1
 |.others,n=>n == 1
 |.long,n=>n == 1
 |.tag _,_=>AD
 |.call _,_=>AD
 |.mat arms,n=>n == ⇑arms+1
 |.ife,n=>n == 3
 |.lt _,n=>n == 2
 |.fold _ _,n=>n == 3
inductive Wf:Tm->Prop
 |mk {h:Hd}{ks:MC Tm}:dc h ⇑ks=AD->(∀k∈ks,Wf k)->Wf (.mk h ks)
meta def bnd:Hd->Nat->MC (List AA)
 |.mat arms,_=>[]::arms.map (·.2)
 |.lt x,_=>[[],[x]]
 |.fold x y,_=>[[],[],[x,y]]
 |_,n=>P7 n []
meta def jF(a:AA×List AA)(k:T):T:=.t [.s a.1,.t (a.2.map .s),k]
meta def mY:Hd->MC T->T
 |.num n,_=>.t [.s "num",.i n]
 |.name x,_=>.t [.s "name",.s x]
 |.gap n,_=>.t [.s "gap",.i n]
 |.op s,ks=>.t (.s "op"::.s s::ks)
 |.row,ks=>.t [.s "row",.t ks]
 |.more,ks=>.t (.s "more"::ks)
 |.first,ks=>.t (.s "first"::ks)
 |.others,ks=>.t (.s "others"::ks)
 |.long,ks=>.t (.s "long"::ks)
 |.tag t,ks=>.t [.s "tag",.s t,.t ks]
 |.call f,ks=>.t [.s "call",.s f,.t ks]
 |.mat arms,ks=>.t [.s "match",ks.headD .n,.t (QE jF arms ks.tail)]
 |.ife,ks=>.t (.s "if"::ks)
 |.lt x,ks=>.t (.s "let"::.s x::ks)
 |.fold x y,ks=>.t [.s "fold",ks.getD 0 .n,.s x,.s y,ks.getD 1 .n,ks.getD 2 .n]
mutual
noncomputable def enc:Tm->T
 |.mk h ks=>mY h (Gu ks)
noncomputable def Gu:MC Tm->MC T
 | []=>[]
 |k::r=>enc k::Gu r
end
theorem yO :∀ks:MC Tm,Gu ks=ks.map enc
 | []=>rfl
 |k::r=>by unfold Gu;rw[yO r];rfl
def bG (h:Hd)(ks:MC Tm):enc (.mk h ks)=mY h (ks.map enc):=by unfold enc;rw[yO]
mutual
noncomputable def Tm.size:Tm->Nat
 |.mk _ ks=>Tm.sizes ks+1
noncomputable def Tm.sizes:MC Tm->Nat
 | []=>0
 |k::r=>k.size+Tm.sizes r
end
mutual
noncomputable def Tm.depth:Tm->Nat
 |.mk _ []=>0
 |.mk _ (k::r)=>Tm.mC (k::r)+1
noncomputable def Tm.mC:MC Tm->Nat
 | []=>0
 |k::r=>max k.depth (Tm.mC r)
end
def Tm.bT (k:Tm)(r:MC Tm):Tm.sizes (k::r)=k.size+Tm.sizes r:=by rw[Tm.sizes]
def Tm.eG (h:Hd)(ks:MC Tm):(Tm.mk h ks).size=Tm.sizes ks+1:=by rw[Tm.size]
def Tm.pB (h:Hd)(k:Tm)(r:MC Tm):(Tm.mk h (k::r)).depth=Tm.mC (k::r)+1:=by rw[Tm.depth]
theorem Tm.eI :∀(a b:MC Tm),Tm.sizes (a++b)=Tm.sizes a+Tm.sizes b
 | [],b=>by simp[Tm.sizes]
 |k::r,b=>by rw[S9,Tm.bT,Tm.bT,Tm.eI r b];omega
def Tm.size_pos (a:Tm):0<a.size:=by cases a;unfold Tm.size;omega
def Tm.Aq {ks:MC Tm}(h:k∈ks):k.depth<=Tm.mC ks:=by
 induction ks with
 |nil=>cases h
 |cons y r ih =>
  unfold Tm.mC
  cases h with
  |head=>calc W6 _ _
  |tail _ h=>calc Qq (ih h) (WA _ _)
def Tm.jy {ks:MC Tm}(m:k∈ks):k.depth<(Tm.mk h ks).depth:=by
 cases ks with
 |nil=>cases m
 |cons y r=>rw[Tm.pB];calc Nat.lt_succ_of_le (Tm.Aq m)
def Tm.yP {ks:MC Tm}(a:∀k∈ks,k.depth<=n):(Tm.mk h ks).depth<=n+1:=by
 cases ks with
 |nil=>unfold Tm.depth;omega
 |cons y r =>
  unfold Tm.depth;calc U9 ?_;generalize(y::r)=l at a
  induction l with
  |nil=>calc Qc _
  |cons z q ih=>unfold Tm.mC;exact YI.mpr #[a z (.head _),ih λk d=>a k (.tail _ d)]
open PySem.Spec PyProof.Rows
meta def eA(d:Env):MC (AA×TM)->MC (AA×AB)->MC (AA×AB)
 | [],cs=>cs
 |(n,k)::r,cs=>eA d r (if k == .free then(n,(d.cells.lookup n).getD 0)::cs else cs)
def oV (h:∀x∈scope.names,x.2=.free->∃c,d.cells.lookup x.1=U c):closureFor scope d=pure (eA d scope.names []):=by
 let go:∀(l:MC (AA×TM)) (j:MC (AA×AB)),(∀x∈l,x.2=.free->∃c,d.cells.lookup x.1=U c) ->
   (forIn l j λx r=>if(x.2 == NameKind.free)=AD then do let a ←cellOf d x.1;pure (ForInStep.yield ((x.1,a)::r))else pure (ForInStep.yield r):Sem (MC (AA×AB)))=pure (eA d l j):=by
  intro l
  induction l with
  |nil=>intro j _;rfl
  |cons x r ih =>
   intro j o;let(n,k):=x;rw[Sl]
   by_cases p:k=.free
   .subst p;let(c,q):=o (n,.free) SH rfl;let e:cellOf d n=pure c:=by unfold cellOf;rw[show d.cells.lookup n=U c from q]
    simp only[beq_self_eq_true,if_true,e,pure_bind];rw[ih _ λy m=>o y (Q5 _ m)];unfold eA;rw[show d.cells.lookup n=U c from q]
    cases r<;>rfl
   .have t:(k == NameKind.free)=AE:=by simpa using p
    simp only[t,Ra,if_false,pure_bind];rw[ih _ λy m=>o y (Q5 _ m)]
    conv=>rhs;unfold eA
    simp only[t,Ra,if_false]
 simp only[closureFor];let g:=go scope.names [] h;simp only[g];rfl
theorem jX :∀(l:MC (AA×TM)) (o:MC (AA×AB)),(∀x∈l,x.2=.free->∃c,d.cells.lookup x.1=U c)->(∀y c,o.lookup y=U c->d.cells.lookup y=U c) ->
  ∀y c,(eA d l o).lookup y=U c->d.cells.lookup y=U c
 | [],_,_,hc=>hc
 |(n,k)::r,o,hl,hc=>by
  refine jX r _ (λx q=>hl x (Q5 _ q)) λy c e=>?_
  by_cases j:(k == NameKind.free)=AD
  .rw[if_pos j]at e;rw[QK]at e
   by_cases p:y=n
   .subst p;simp only[beq_self_eq_true]at e;let(u,m):=hl (y,k) SH (by simpa using j);let g:d.cells.lookup y=U u:=m;rw[g]at e|-;exact e
   .have t:(y == n)=AE:=beq_eq_false_iff_ne.mpr p;rw[t]at e;exact hc y c e
  .rw[if_neg j]at e;calc hc y c e
theorem oW :∀(l:MC (AA×TM)) (e:MC (AA×AB)) (y:AA),(∃c,e.lookup y=U c)->∃c,(eA d l e).lookup y=U c
 | [],_,_,h=>h
 |(n,k)::r,e,y,h=>by
  refine oW r _ y ?_
  by_cases g:(k == NameKind.free)=AD
  .rw[if_pos g,QK]
   cases hb:(y == n)with
   |true=>calc#[_,rfl]
   |false=>exact h
  .rw[if_neg g];calc h
theorem qe :∀(l:MC (AA×TM)) (g:MC (AA×AB)) (y:AA),(y,NameKind.free)∈l->∃c,(eA d l g).lookup y=U c
 | [],_,_,h=>nomatch h
 |(n,k)::r,g,y,h=>by
  rcases P1.mp h with e|h
  .have m:y=n:=congrArg Prod.fst e;let j:NameKind.free=k:=congrArg Prod.snd e;subst m;subst j;calc oW r _ y #[(d.cells.lookup y).getD 0,?_];rw[if_pos (by rfl),QK,beq_self_eq_true]
  .exact qe r _ y h
theorem lH {d:Env}:∀{names:MC (AA×TM)}{x:AA}{g:TM},(names.map λ(n,k)=>if(k == NameKind.free&&d.scope.kind == .function&&d.kindOf n == U .cell)then(n,NameKind.cell)else(n,k)).lookup x=U g ->
  names.lookup x=U g\/(g=.cell/\names.lookup x=U .free)
 | [],_,_,h=>by simp at h
 |(n,k)::r,x,g,h=>by
  let j:=@lH d r x g;change Sa x ((if(k == NameKind.free&&d.scope.kind == .function&&d.kindOf n == U .cell)=AD then(n,NameKind.cell)else(n,k))::_)=_ at h
  cases hx:x == n with
  |true =>
   by_cases e:(k == NameKind.free&&d.scope.kind == .function&&d.kindOf n == U .cell)=AD
   .rw[if_pos e]at h;simp only[QK,hx]at h
    cases h
    let l:k=.free:=by simp at e;exact e.1.1
    subst l;exact .inr #[rfl,by simp only[QK,hx]]
   .rw[if_neg e]at h;simp only[QK,hx]at h
    cases h
    calc .inl (by simp only[QK,hx])
  |false =>
   by_cases e:(k == NameKind.free&&d.scope.kind == .function&&d.kindOf n == U .cell)=AD
   .rw[if_pos e]at h;simp only[QK,hx]at h|-;exact j h
   .rw[if_neg e]at h;simp only[QK,hx]at h|-;calc j h
theorem qf {d:Env}:∀{names:MC (AA×TM)}{x:AA},names.lookup x=U .free ->
  (names.map λ(n,k)=>if(k == NameKind.free&&d.scope.kind == .function&&d.kindOf n == U .cell)then(n,NameKind.cell)else(n,k)).lookup x=U .cell \/
  (names.map λ(n,k)=>if(k == NameKind.free&&d.scope.kind == .function&&d.kindOf n == U .cell)then(n,NameKind.cell)else(n,k)).lookup x=U .free
 | [],_,h=>by simp at h
 |(n,k)::r,x,h=>by
  let g:=@qf d r x;show Sa x ((if(k == NameKind.free&&d.scope.kind == .function&&d.kindOf n == U .cell)=AD then(n,NameKind.cell)else(n,k))::_)=_\/Sa x ((if(k == NameKind.free&&d.scope.kind == .function&&d.kindOf n == U .cell)=AD then(n,NameKind.cell)else(n,k))::_)=_
  cases hx:x == n with
  |true =>
   simp only[QK,hx]at h
   cases h
   by_cases e:(NameKind.free == NameKind.free&&d.scope.kind == .function&&d.kindOf n == U .cell)=AD
   .rw[if_pos e];exact .inl (by simp only[QK,hx])
   .rw[if_neg e];calc .inr (by simp only[QK,hx])
  |false =>
   simp only[QK,hx]at h
   by_cases e:(k == NameKind.free&&d.scope.kind == .function&&d.kindOf n == U .cell)=AD
   .rw[if_pos e];simp only[QK,hx];exact g h
   .rw[if_neg e];simp only[QK,hx];calc g h
def nB (I:Nat->fy->Prop)(turn:∀n s,I n s->PY (P9 prog w) A (SR it) (λr o=>match r with
   |none=>R (.ok .next) o
   |some v=>PY (P9 prog w) A (RY d it v) (λ_ l=>PY (P9 prog w) A (VB d g v) (λ_ t =>
     PY (P9 prog w) A (forIn z AD λc r=>if r=AD then do let ok ←isTrue c g (eval c g);pure (ForInStep.yield ok)else pure (ForInStep.yield r)) (λok j =>
      if ok=AD then PY (P9 prog w) A (eval C g) (λx q =>
       PY (P9 prog w) A (call (.builtin "list.append") [D,x]) (λ_ p=>∃m,m<n/\I m p) E q) E j
      else ∃m,m<n/\I m j) E t) E l) E o) E s)(hE:∀e s',E e s'->notedBy (P9 prog w) A g (λe s'=>R (.error e) s') e s')(n:Nat)(h:I n s):
  RS (P9 prog w) A (.compLoop (.ListComp C [#[d,iter,z,0]] scope pos) 0 it D g) R s:=by
 calc WX rfl I (λn s L=>?_) n h;show PY _ A ((Xj (.ListComp C [#[d,iter,z,0]] scope pos) 0 it D g).onRaise (λx=>do Xx x g;theTreesLotGoes x)) _ _ s;calc Xk ?_;rw[compTurn_list];refine bN (Ry (bN (Qu (turn n s L) (λr o y=>?_) hE)))
 cases r with
 |none=>calc rz y
 |some v =>
  calc bN (Qu y (λ_ l B=>?_) hE);refine bN (Qu B (λ_ t J=>bN (Qu J (λok j u=>?_) hE)) hE)
  cases ok with
  |false=>calc rz #[rfl,u]
  |true =>
   calc bN (bN (Qu u (λx q H=>bN (Qu H (λ_ p G=>rz (rz #[rfl,G])) hE)) hE))
meta def bD(X:Cx)(scope:Rt)(j:List AA)(g:List AB)(C:AB)(d:fy)(e:Hp):Cx where
 prog:=X.prog
 w:=X.w
 K:=X.K
 mg:=X.mg
 base:=X.base
 A:=X.A
 N:=j
 s₀:=d
 H₀:=e
 env:=compEnvC scope (eA X.env scope.names []) C X.env
 outer:=X.stack
 stack:=X.stack
 ex:=g
 fn:=λ_=>AE
 calm:=X.calm
 pn:=[]
 xe:=λ_ _=>False
meta def tQ(X:Cx)(g:MC Expr)(t:TT):Prop :=
 ∀(d:MC (AB×Obj)) (s:fy) (e:St) (H:Hp) (Q:Bool->Hp->Prop),Inv X d e H s->t e H Q ->
  PY (P9 X.prog X.w) X.A (forIn g AD λc r=>if r=AD then do let ok ←isTrue c X.env (eval c X.env);pure (ForInStep.yield ok)else pure (ForInStep.yield r)) (TP X d e Q) X.xe s
meta def yQ:TT:=λ_ H Q=>Q AD H
def fj :tQ X [] yQ:=λd s e H Q I h=>by
 rw[SK];calc rz #[H,I,h]
def DM {c:Expr}{t:TT}(g:PT X c t):tQ X [c] t:=λd s e H Q I h=>by
 simp only[Sl,SK,if_true];calc bN (bN (Qu (g d s e H Q I h) (λb l j=>rz (rz j)) λ_ _ x=>x))
meta def jb(own:Nat)(fr:MC Nat)(d:St):St:=P7 own gV++fr.map λj=>(d[j]?).join
meta def mU(J:It)(g:TG)(y:TT)(z:TE)(Q:VK)(q:St)(C:Hp):Prop:=∃W:Nat->Nat->St->MC V->Hp->Prop,(∃m,W 0 m q [] C)/\∀i m j e H,W i m j e H ->
 (J.stop i H/\⇑e<=my/\∀p,H p=gV->Q (.ref p) (upd H p (.Y e))) \/
 (J.go i H/\⇑e<my/\∃N:St->MC V->Hp->Prop,(∀d l o,N d l o->∃r,r < m/\W (i+1) r d l o)/\∀x u,J.yld i H x u->g x j u λd o=>y d o λok t =>
  if ok=AD then z d t λv B=>N d (e++[v]) B else N d e t)
meta def vJ(own:Nat)(fr:MC Nat)(e:TI)(g:TG)(j:TT)(l:TE):TE:=λd H Q=>e d H λJ m=>mU J g j l Q (jb own fr d) m
def DN {X:Cx}(r:⇑σ=⇑X.N){i:Nat}(g:(own++fr.map λj=>X.N.getD j Qi)[i]?=U x)(d:(jb ⇑own fr σ)[i]?=U (U v)):
  ∃j∈fr,X.N[j]?=U x/\X.N.getD j Qi=x/\σ[j]?=U (U v):=by
 unfold jb at d
 by_cases m:i<⇑own
 .rw[Ri (by simpa using m),Ut,if_pos m]at d
  cases d
 .rw[QZ (by simpa using m),UT,EF]at d;rw[QZ (),EF]at g
  cases e:fr[i-⇑own]? with
  |none=>rw[e]at d;cases d
  |some j =>
   rw[e]at g d;simp only[Sk,UK]at g d
   let p:σ[j]?=U (U v):=by
    cases q:σ[j]? with
    |none=>rw[q]at d;cases d
    |some o=>rw[q]at d;exact congrArg U d
   let l:j<⇑X.N:=by rw[<-r];exact(eF.mp p).1
   calc#[j,P6 e,?_,g,p];rw[<-g,Rg,pC l];rfl
def tR (I:Inv X pins σ H s)(hkind:scope.kind=.function)(hcell:∀x∈scope.names,x.2≠.cell)(hfr:∀x∈scope.names,x.2=.free->X.env.scope.names.lookup x.1=U .cell\/X.env.scope.names.lookup x.1=U .free)(hin:∀j∈fr,scope.names.lookup (X.N.getD j Qi)=U .free)(hC:s⁻¹<=C)(hf:∀b∈L,pR X pins H b)(hfo:∀b∈L,b<s⁻¹)(old:∀b o,s.heap.get? b=U o->h₁.get? b=U o)(hn:h₁.Ns C m):
  Inv (bD X scope (own++fr.map λj=>X.N.getD j Qi) L C s H) [] (jb ⇑own fr σ) H {s with heap:=h₁,toks:=Y}:=by
 let t:∀x∈scope.names,x.2=.free->∃c,X.env.cells.lookup x.1=U c:=λx D e=>I.ok.has x.1 (hfr x D e);let sub:∀y c,(eA X.env scope.names []).lookup y=U c->X.env.cells.lookup y=U c:=jX _ _ t (by intro y c e;simp at e);let d:∀y,scope.names.lookup y=U .free->∃c,(eA X.env scope.names []).lookup y=U c:=λy e=>qe _ _ _ (RC e)
 refine#[#[I.ok.mod,?_,I.ok.glob,I.ok.blt,hC,λx y c T S=>I.ok.inj x y c (sub x c T) (sub y c S),λx D=>?_,(λx c D=>nomatch D),I.ok.hd,I.ok.frames,.inl rfl,λb B=>?_,I.bs,Qq I.ok.bsz I.sz,λb o e B=>?_,λb B z=>?_,I.stack,I.wG],
  rfl,I.bare,Un.kept old,#[m,hn,λi x v T S h3=>?_],λx c e=>?_,I.hok.fresh hC,λx c e=>I.freeC x c (sub x c e),λp Z=>absurd (show p∈([]:MC (AB×Obj))from Z) (by simp),I.hok.kept old,?_]
 .exact hkind
 .have O:(relabel scope X.env).names.lookup x=U .cell\/(relabel scope X.env).names.lookup x=U .free:=D
  let M:scope.names.lookup x=U .free:=by
   rcases O with e|e
   .rcases lH e with e|⟨_,e⟩
    .exact absurd rfl (hcell _ (RC e))
    .exact e
   .rcases lH e with e|⟨z,_⟩
    .exact e
    .cases z
  exact d x M
 .refine#[Qs (P8 (hfo b B) hC),λx c e=>(hf b B).2.2.2.2.1 x c (sub x c e)]
 .rcases(hf b B).2.2.2.1 with z|z
  .exact I.ok.noex b o e z
  .exact absurd (P8 (P0 e) (Qq I.ok.bsz z)) (Q8 _)
 .have G:b∈L:=B;let W:b∈frs X.stack:=z;rcases P1.mp (I.tF b W)with e|e
  .exact(hf b G).2.1 e
  .exact(hf b G).2.2.1 e
 .have(j,hj,e1,e2,e3):=DN (own:=own) I.len T S;let g:scope.names.lookup x=U .free:=by rw[<-e2];exact hin j hj
  let V:=hfr _ (RC g) rfl;let(m0,aa,R):=I.loc;let(u,r,l):=R j x v e1 e3 (.inr V);calc#[u,r,?_];rcases l with⟨k,_⟩|⟨_,c,ec,z⟩
  .have gD:X.env.scope.names.lookup x=U .local:=k;rcases V with q|q<;>(rw[show X.env.scope.names.lookup x=_ from q]at gD;cases gD)
  .have(c',J):=d x g;let:=sub x c' J;rw[ec]at this
   cases this
   let(o,Q,hd):=z;exact .inr #[qf g,c,J,o,old c o Q,hd]
 .have(v,o,Q,hd):=I.cell x c (sub x c e);exact#[v,o,old c o Q,hd]
 .show(jb ⇑own fr σ).length=⇑(own++fr.map λj=>X.N.getD j Qi);simp[jb]
def tS (I:Inv X pins σ H s)(y:∀b∈t,pR X pins H b)(I':Inv (bD X scope R t C s H) j σ' p s')(hC:s⁻¹<=C)(hD:s⁻¹<=D)(hDC:D≠C)(hDn:p D=gV)(pl:s'.heap.PlainList D ys)(rv:Vals vs ys.toList)(hz:⇑vs<=my)(hs:R9 C s'.heap h''):
  Inv X pins σ (upd p D (.Y vs)) {s' with heap:=h''}:=by
 let un:Un (frs X.stack) t H p s.heap s'.heap:=I'.base;let r:p C=gV:=I'.free;let at':∀b,b≠C->h''.get? b=s'.heap.get? b:=λb g=>hs.2 b g;let l:∀b o,s.heap.get? b=U o->b≠C:=λb o e=>Qs (P8 (P0 e) hC);let G:∀b o,s.heap.get? b=U o->b≠D:=λb o e=>Qs (P8 (P0 e) hD);let d:∀b u,H b=U u->b≠D:=λb u e=>Qs (P8 (I.hok.lt e) hD)
 let B:Un (frs X.stack) t H (upd p D (.Y vs)) s.heap h'':=by
  refine#[λb o e n L m=>?_,λb o e n L m=>?_,λb o e n m=>?_,λb o e m=>?_,λb M e=>?_,λb o u e=>?_,λb N e=>?_]
  .rw[at' b (l b o e)];exact un.keep b o e n L m
  .rw[at' b (l b o e)];exact un.slot b o e n L m
  .rw[aB (G b o e)];exact un.free b o e n m
  .rw[at' b (l b o e)];exact un.there b o e m
  .rw[aB (d b _ e)];exact un.tups b M e
  .rw[aB (d b _ e)];exact un.frzs b o u e
  .rw[aB (d b _ e)];exact un.tbls b N e
 let J:nh X.prog X.w (upd p D (.Y vs)) h'':=λb u e=>by
  by_cases g:b=D
  .subst g;rw[aj]at e
   cases e
   let(n,O):=pl;calc#[hz,ys.toList,n,rv,?_];rw[at' b hDC]
   simpa using O
  .rw[aB g]at e;refine(I'.hok b u e).stay (λc v Q q=>?_) (λc q=>?_) λc M q=>?_
   .rw[at' c ?_];calc q;rintro rfl;rcases Q with z|z
    .rw[<-z,r]at e;cases e
    .rw[r]at z;cases z
   .rw[aB (λz=>by rw[z,hDn]at q;cases q)];exact q
   .rw[aB (λz=>by rw[z,hDn]at q;cases q)];exact q
 calc I.Jc (s':={s' with heap:=h''}) (ch:=t) I'.os B J I'.bare λb g=>#[(y b g).2.2.2.1,(y b g).2.1,(y b g).2.2.2.2.1,(y b g).2.2.2.2.2]
structure Ku(Y:Cx) (D:AB) (fp:List AB):Prop where
 stat:∀{H:Hp}{pl:MC (AB×Obj)},(∀b∈fp,H b=gV)->(∀p∈pl,p.1=D)->∀b∈fp,pR Y pl H b
 pin:∀{σ:St}{H:Hp}{s:fy}{o:Obj}{pl:MC (AB×Obj)},Inv Y pl σ H s->H D=gV->s.heap.get? D=U o->(∀v,o.data≠.cell v)->Inv Y ([(D,o)]++pl) σ H s
 put:∀{σ:St}{H:Hp}{s:fy}{h:Heap}{t:Nat}{pl:MC (AB×Obj)},Inv Y pl σ H s->(∀b o,b≠D->s.heap.get? b=U o->h.get? b=U o)->H D=gV->(∀p∈pl,p.1≠D)->Inv Y pl σ H {s with heap:=h,toks:=t}
 out:D∉fp
def Gv {af:Expr}{ad:MC Expr}{W:Nat->Nat->St->MC V->Hp->Prop}{Q:MC V->Hp->Prop}(hc:Y.calm=AD)(hx:∀e s,¬Y.xe e s)(hg:PG Y tg g)(ht:tQ Y ad tt)(he:PE Y af te)(T:Turn Y.prog Y.w Y.K tg J fp it tn)(d:Ku Y D fp)(I:Inv Y [] σ H s)(st:tn 0 s.heap)(fn:∀b∈fp,H b=gV)(dn:H D=gV)(dd:s.heap.PlainList D #[])(w0:W 0 m σ [] H)(turn:∀i m σ' vs H,W i m σ' vs H->(J.stop i H/\⇑vs<=my/\Q vs H) \/
   (J.go i H/\⇑vs<my/\∃N:St->MC V->Hp->Prop,(∀j aa H2,N j aa H2->∃m',m' < m/\W (i+1) m' j aa H2)/\∀x H',J.yld i H x H'->g x σ' H' λj H2=>tt j H2 λok Z =>
    if ok=AD then te j Z λv H4=>N j (vs++[v]) H4 else N j vs Z))(fin:∀{σ:St}{H:Hp}{s:fy}{pl:MC (AB×Obj)}{vs:MC V}{ys:Array eT}{pn:Nat},Inv Y pl σ H s->H D=gV->s.heap.get? D=U {cls:=.type "list",data:=.seq ys pn}->Vals vs ys.toList->⇑vs<=my->Q vs H->R (.ok .next) s):
  RS (P9 Y.prog Y.w) Y.A (.compLoop (.ListComp af [#[tg,iter,ad,0]] scope pos) 0 (.ref it) (.ref D) Y.env) R s:=by
 refine nB (E:=Y.xe) (λn s'=>∃i σ' H' vs ys,Inv Y [] σ' H' s'/\tn i s'.heap/\(∀b∈fp,H' b=gV)/\H' D=gV/\s'.heap.PlainList D ys/\Vals vs ys.toList/\W i n σ' vs H')
  ?_ (λe s z=>(hx e s z).elim) m #[0,σ,H,[],#[],I,st,fn,dn,dd,.nil,w0]
 rintro n s3 ⟨i,C,Z,vs,ys,J3,ab,ae,ag,⟨pn,ac⟩,rv,w3⟩;generalize ho:({cls:=.type "list",data:=.seq ys pn}:Obj)=od at ac;let ah:Inv Y [(D,od)] C Z s3:=d.pin (pl:=[]) J3 ag ac λv z=>by rw[<-ho]at z;cases z
 let l:∀p∈[(D,od)],p.1=D:=λp O=>by
  let e':p=(D,od):=by simpa using O
  rw[e']
 rcases turn i n C vs Z w3 with⟨stop,hz,q⟩|⟨go,hz,N,hN,step⟩
 .refine cQ (T.done Y rfl rfl rfl hc i _ s3 C Z Y.xe ah (d.stat ae l) ab stop) λr s4 ⟨hr,J4⟩=>?_;subst hr;exact fin J4 ag (ho▸(J4.pin (D,od) (xn _ (by simp))).1) rv hz q
 .refine cQ (T.item Y rfl rfl rfl hc i _ s3 C Z Y.xe ah (d.stat ae l) ab go) λr s4 ⟨u,hr,h4⟩=>?_;subst hr;calc cQ h4 λ_ s5 ⟨x,H5,J5,r5,y5,M,al⟩=>?_;let am:=J5.pinned (d.stat al l) (T.obj _ _ M);calc cQ (hg _ s5 C H5 x u _ am r5 (step x H5 y5)) λ_ s6 ⟨B,H6,J6,q6⟩=>?_;refine cQ (ht _ s6 B H6 _ J6 q6) λok s7 ⟨H7,J7,q7⟩=>?_
  let after:∀{s8:fy}{H8:Hp},Inv Y ([(D,od)]++oZ fp s5.heap) B H8 s8->tn (i+1) s8.heap/\(∀b∈fp,H8 b=gV)/\H8 D=gV/\s8.heap.PlainList D ys:=λ{s8 H8} gD=>by
   refine#[T.keep _ _ _ M λb L o e=>(gD.pin (b,o) (xn _ (xn _ (fB L e)))).1,λb L=>?_,?_,pn,?_]
   .have(o,e,d):=T.obj _ _ M b L;exact(gD.pin (b,o) (xn _ (xn _ (fB L e)))).2.1
   .exact(gD.pin (D,od) (xn _ (Qx _ (by simp)))).2.1
   .rw[ho];exact(gD.pin (D,od) (xn _ (Qx _ (by simp)))).1
  cases ok with
  |false =>
   let(m',hm,w7):=hN _ _ _ q7;let(a1,a2,a3,a4):=after J7;calc#[m',hm,i+1,B,H7,vs,ys,J7.fJ (λp O=>absurd O (by simp)),a1,a2,a3,a4,rv,w7]
  |true =>
   calc cQ (he _ s7 B H7 _ J7 q7) λy s8 ⟨v8,H8,gD,r8,n8⟩=>?_;let(m',hm,w8):=hN _ _ _ n8;let(a1,a2,a3,a4):=after gD
   let ai:ys.size<=my:=by
    let e1:⇑vs=⇑ys.toList:=⇑rv;let e2:⇑ys.toList=ys.size:=by simp
    omega
   refine wpAny_list_append_plain (hsz:=ai) a4 λan S G=>?_
   refine#[m',hm,i+1,B,H8,vs++[v8],ys.push y,d.put (t:=s8.toks) (gD.fJ λp O=>absurd O (by simp)) (λb o L e=>by rw[G.2 b L];calc e) a3 (λp O=>absurd O (by simp)),
    T.keep _ _ _ a1 λb L o e=>(G.2 b (λz=>d.out (z▸L))).trans e,a2,a3,S,?_,w8]
   let:Vals (vs++[v8]) (ys.toList++[y]):=rv.append (.cons r8 .nil)
   simpa using this
def yR (own:List AA)(fr:MC Nat)(hc:X.calm=AD)(hkind:scope.kind=.function)(hcell:∀x∈scope.names,x.2≠.cell)(hnames:∀x∈scope.names,x.2=.local->scope.names.lookup x.1=U .local)(hfr:∀x∈scope.names,x.2=.free->X.env.scope.names.lookup x.1=U .cell\/X.env.scope.names.lookup x.1=U .free)(hin:∀j∈fr,scope.names.lookup (X.N.getD j Qi)=U .free)(hi:PI X tg iter wi)(hg:∀t C s H,PG (bD X scope (own++fr.map λj=>X.N.getD j Qi) t C s H) tg g)(ht:∀t C s H,tQ (bD X scope (own++fr.map λj=>X.N.getD j Qi) t C s H) u tt)(he:∀t C s H,PE (bD X scope (own++fr.map λj=>X.N.getD j Qi) t C s H) S te)(hs:∀x,QN iter X.env x=pure x)(I:Inv X pins σ H s)(h:vJ ⇑own fr wi g tt te σ H Q)(fin:∀{t:List AB}{C:AB}{d s4:fy}{L H3:Hp}{aa:St}{vs:MC V}{ys:Array eT}{pn:Nat}{pl:MC (AB×Obj)},Inv X pins σ L d->(∀b∈t,pR X pins L b)->Inv (bD X scope (own++fr.map λj=>X.N.getD j Qi) t C d L) pl aa H3 s4->d⁻¹<=C->d⁻¹≠C->H3 d⁻¹=gV->s4.heap.get? d⁻¹=U {cls:=.type "list",data:=.seq ys pn}->Vals vs ys.toList->⇑vs<=my->Q (.ref d⁻¹) (upd H3 d⁻¹ (.Y vs))->compPost (P9 X.prog X.w) X.A X.xe gD R (.ref d⁻¹) C (.ok .next) s4):
  PY (P9 X.prog X.w) X.A (comprehension (.ListComp S [#[tg,iter,u,0]] scope pos) scope X.env (firstIterPos [#[tg,iter,u,0]] pos) (newList []) (firstAsync [#[tg,iter,u,0]]) (firstIter [#[tg,iter,u,0]] X.env) gD) R X.xe s:=by
 let B:∀x∈scope.names,x.2=.free->∃c,X.env.cells.lookup x.1=U c:=λx hx e=>I.ok.has x.1 (hfr x hx e);calc Wl (use:=gD) rfl hs (oV B) hkind hnames ?_;calc cQ (hi pins s σ H _ I h) λv s1 h1=>cQ h1 λao d h2=>?_;let(it,t,tn,J,L,e,I2,T,ad,f2,W,(m0,w0),ab):=h2;subst e;let ag:∀b∈t,b<d⁻¹:=λb D=>by let(o,e,_):=T.obj 0 _ ad b D;exact P0 e
 calc QW (wpAny_newFunctionEnv hcell (by intro y hy;simp at hy) (λr m l=>?_) hkind);dsimp only at m l|-;generalize hH2:d.heap.push {cls:=.type "list",dict:=gV,data:=.seq ([]:List eT).toArray}=G2 at m l|-;let hC:G2.objs.size=d⁻¹+1:=by rw[<-hH2,Q6]
 let G:d⁻¹≠G2.objs.size:=by rw[hC];exact Qs (S8 _)
 let O:d⁻¹<=G2.objs.size:=by rw[hC];exact QT _
 let ae:∀b o,d.heap.get? b=U o->r.get? b=U o:=λb o e=>l.extBut b o (by rw[hC];calc Qs (V9 (P0 e))) (u5 _ (hH2▸u5 _ e));let ah:r.PlainList d⁻¹ #[]:=#[_,l.extBut _ _ G (u5 _ (hH2▸P5 _ rfl))]
 let I3:Inv (bD X scope (own++fr.map λj=>X.N.getD j Qi) t G2.objs.size d L) [] (jb ⇑own fr σ) L {d with heap:=r,toks:=d.toks+⇑([]:MC (AA×eT))} :=
  tR I2 hkind hcell hfr hin O f2 ag ae m
 let ac:tn 0 r:=T.keep 0 _ _ ad λb _ o e=>ae b o e;let al:d⁻¹∉t:=λhm=>Q8 _ (ag _ hm);let ai:L d⁻¹=gV:=I2.hok.fresh (u4 _);let sub:∀y c,(eA X.env scope.names []).lookup y=U c->X.env.cells.lookup y=U c:=jX _ _ B (by intro y c e;simp at e)
 let Z:∀y c,(eA X.env scope.names []).lookup y=U c->c≠d⁻¹:=λy c e=>by
  let(_,o,ho,_):=I2.cell y c (sub y c e);exact Qs (P0 ho)
 let an:d⁻¹∉frs X.stack:=λz=>by
  rcases P1.mp (I2.tF _ z)with e|e
  .exact absurd I2.lt (by rw[<-e];calc Q8 _)
  .exact I2.FY (u4 _) e
 let dI:Ku (bD X scope (own++fr.map λj=>X.N.getD j Qi) t G2.objs.size d L) d⁻¹ t:=#[λ{H' pl} hn hp b D=>by
  calc#[hn b D,(I3.ok.exf b D).1,I3.ok.exfs b D,.inl D,(I3.ok.exf b D).2,λp am z=>?_];let af:p∈pl:=by simpa[bD]using am
  exact al (by rw[<-hp p af,z];calc D),λ{σ' H' s' o pl} J hn e hcl=>J.fJ λp hp=>by
  rcases zv.mp hp with hp|hp
  rotate_left
  .exact J.pin p (xn _ hp)
  let e':p=(d⁻¹,o):=by simpa using hp
  subst e';exact#[e,hn,G,an,hcl],
  λ{σ' H' s' h' t' pl} J k hn hp=>J.turned (it:=d⁻¹) k hn G (.inr (u4 _)) Z (λp q=>hp p (by simpa[bD]using q)),al]
 let M:RS (P9 X.prog X.w) X.A (.compLoop (.ListComp S [#[tg,iter,u,0]] scope pos) 0 (.ref it) (.ref d⁻¹) (compEnvC scope (eA X.env scope.names []) G2.objs.size X.env))
   (compPost (P9 X.prog X.w) X.A X.xe gD R (.ref d⁻¹) G2.objs.size) {d with heap:=r,toks:=d.toks+⇑([]:MC (AA×eT))} :=
  Gv (Y:=(bD X scope (own++fr.map λj=>X.N.getD j Qi) t G2.objs.size d L)) hc (λ_ _ z=>z) (hg _ _ _ _) (ht _ _ _ _) (he _ _ _ _) T dI I3 ac (λb D=>(f2 b D).1) ai ah w0 ab λ{aa H3 s4 pl vs ys pn} J4 dn3 e4 rv hz q=>fin I2 f2 J4 O G dn3 e4 rv hz (q _ dn3)
 calc codeAny_compStart_list M (T.self X.A 0 _ _ _ ac M)
def Gw (own:List AA)(fr:MC Nat)(L:X.calm=AD)(hkind:scope.kind=.function)(hcell:∀x∈scope.names,x.2≠.cell)(hnames:∀x∈scope.names,x.2=.local->scope.names.lookup x.1=U .local)(hfr:∀x∈scope.names,x.2=.free->X.env.scope.names.lookup x.1=U .cell\/X.env.scope.names.lookup x.1=U .free)(hin:∀j∈fr,scope.names.lookup (X.N.getD j Qi)=U .free)(hi:PI X tg iter u)(hg:∀l C s H,PG (bD X scope (own++fr.map λj=>X.N.getD j Qi) l C s H) tg g)(ht:∀l C s H,tQ (bD X scope (own++fr.map λj=>X.N.getD j Qi) l C s H) d v)(he:∀l C s H,PE (bD X scope (own++fr.map λj=>X.N.getD j Qi) l C s H) m y)(hs:∀x,QN iter X.env x=pure x:=by intro _;rfl):PE X (.ListComp m [#[tg,iter,d,0]] scope pos) (vJ ⇑own fr u g v y):=by
 intro z s S H Q I h;rw[eval_ListComp];calc yR own fr L hkind hcell hnames hfr hin hi hg ht he hs I h λR M B e r t O D J q=>?_;let(G,p,_):=id B.loc;calc#[G,p,λT o=>#[.ref _,_,tS R M B e (u4 _) r t #[_,O] D J o,rfl,q]]
meta def nC(scope d:Rt)(e:List AA)(fr:MC Nat):Bool :=
 scope.kind == .function&&scope.names.all (λx=>x.2 != .cell&&(x.2 != .local||scope.names.lookup x.1 == U .local)&&(x.2 != .free||d.names.lookup x.1 == U .cell||d.names.lookup x.1 == U .free)) &&
  fr.all (λj=>scope.names.lookup (e.getD j Qi) == U .free)
def kH {o iter tg:Expr}{d:MC Expr}{scope:Rt}{pos:Pos}{t:TI}{g:TG}{u:TT}{v:TE}(y:Rt)(p own:List AA)(fr:MC Nat)(I:X.calm=AD)(r:X.env.scope=y)(J:X.N=p)(ok:nC scope y p fr=AD)(hi:PI X tg iter t)(hg:∀m C s H,PG (bD X scope (own++fr.map λj=>p.getD j Qi) m C s H) tg g)(ht:∀m C s H,tQ (bD X scope (own++fr.map λj=>p.getD j Qi) m C s H) d u)(he:∀m C s H,PE (bD X scope (own++fr.map λj=>p.getD j Qi) m C s H) o v)(hs:∀x,QN iter X.env x=pure x:=by intro _;rfl):PE X (.ListComp o [#[tg,iter,d,0]] scope pos) (vJ ⇑own fr t g u v):=by
 subst r J;unfold nC at ok;simp only[QJ,QY,bne_iff_ne,beq_iff_eq,Sm]at ok;let((D,q),B):=ok;refine Gw own fr I D (λx l=>(q x l).1.1) (λx l e=>?_) (λx l e=>?_) (λj G=>B j G) hi hg ht he hs
 .rcases(q x l).1.2 with z|z
  .exact absurd e z
  .exact z
 .rcases(q x l).2 with(z|z)|z
  .exact absurd e z
  .exact .inl z
  .exact .inr z
def sJ (n:Nat)(l:Nat->St->MC V->Hp->Prop)(I:l 0 σ0 [] H0)(r:∀i d vs H,i<=n->l i d vs H->⇑vs<=i)(hn:n<=my)(z:∀i d vs H,i<n->l i d vs H->J.go i H)(u:∀d vs H,l n d vs H->J.stop n H)(hs:∀i d vs H x t,i<n->l i d vs H->J.yld i H x t->g x d t λj C=>tt j C λok B=>if ok=AD then te j B λv L=>l (i+1) j (vs++[v]) L else l (i+1) j vs B)(hd:∀d vs H,l n d vs H->∀p,H p=gV->Q (.ref p) (upd H p (.Y vs))):mU J g tt te Q σ0 H0:=by
 calc#[λi m d vs H=>m=n-i/\i<=n/\l i d vs H,#[n,by simp,Qc _,I],?_];rintro i m d vs H ⟨rfl,G,p⟩;let M:=r i d vs H G p
 by_cases o:i<n
 .exact .inr #[z i d vs H o p,(),l (i+1),λj D C q=>#[n - (i+1),(),rfl,o,q],λx t y=>hs i d vs H x t o p y]
 .have e:i=n:=()
  subst e;calc .inl #[u d vs H p,(),hd d vs H p]
def pH {lo:Int}(j:Nat->St->MC V->Hp->Prop)(q:j 0 σ0 [] H0)(l:∀i e vs H,i<=n->j i e vs H->⇑vs<=i)(hn:n<=my)(hs:∀i e vs H,i<n->j i e vs H->g (.int (lo+i)) e H λd t=>tt d t λok m=>if ok=AD then te d m λv r=>j (i+1) d (vs++[v]) r else j (i+1) d vs m)(hd:∀e vs H,j n e vs H->∀p,H p=gV->Q (.ref p) (upd H p (.Y vs))):mU (JQ lo n) g tt te Q σ0 H0 :=
 sJ n j q l hn (λ_ _ _ _ h _=>h) (λ_ _ _ _=>u4 _) (λi e vs H x u o p y=>by let(rfl,rfl):=y;calc hs i e vs _ o p) hd
def j8 {K:cB}(j:Nat->St->MC V->Hp->Prop)(r:j 0 σ0 [] H0)(l:∀i d vs H,i<=⇑xs->j i d vs H->⇑vs<=i)(hn:⇑xs<=my)(o:∀i d vs H,i<=⇑xs->j i d vs H->aV K H a xs)(hs:∀i x d vs H,xs[i]?=U x->j i d vs H->g x d H λe u=>tt e u λok q=>if ok=AD then te e q λv t=>j (i+1) e (vs++[v]) t else j (i+1) e vs q)(hd:∀d vs H,j ⇑xs d vs H->∀p,H p=gV->Q (.ref p) (upd H p (.Y vs))):mU (JP K a) g tt te Q σ0 H0:=by
 calc sJ ⇑xs j r l hn (λi d vs H m p=>#[xs,xs[i],o i d vs H (QB m) p,by simp[m]]) (λd vs H p=>#[xs,o _ d vs H (u4 _) p,u4 _]) (λi d vs H x z m p y=>?_) hd;let(rfl,y):=y;calc hs i x d vs _ (y xs (o i d vs _ (QB m) p)) p
abbrev wR(h:Heap)(z TI TO T:AB)(d:Bool):Prop :=
 h.get? z=U {cls:=.type "zip",dict:=gV,data:=.fields #[S5 T,.bool d,.bool AE,.ref TI,.ref TO,],slots:=#[]}
def qU {TI TO T:AB}(e:wR s.heap z TI TO T d)(m:s.heap.get? T=U l)(hQ:∀h',wR h' z TI TO T AD->R9 z s.heap h'->Q AE {s with heap:=h'}):PY (P9 prog w) A (QA (.ref z)) Q E s:=by
 unfold QA;calc bN (QC e rfl (x:=S5 T) rfl ?_);show PY _ _ (loadIfAlive ((T:Int).toNat)>>=_) _ _ _;rw[Rv];calc bN (PySem.W.kdx_alive m ?_);simp only[Option.isNone_some,Ra,if_false];refine bN (QC e rfl (x:=.bool d) rfl ?_)
 cases d with
 |true =>
  rw[if_neg (show ¬((Value.bool AD != Value.bool AD)=AD)from Qf)];calc rz (hQ s.heap e (R9.refl _ _))
 |false =>
  rw[if_pos (show(Value.bool AE != Value.bool AD)=AD from rfl)];calc bN (R4 e (by simp) λh' g j=>rz (hQ h' g j))
def uV {TI TO T:AB}(D:UL z TI TO m p l1 l2)(hz:wR s.heap z TI TO T C)(hT:s.heap.get? T=U R)(hTI:R5 s.heap TI (.ref m) (.ref p))(h1:s.heap.IsListIter m l1 G)(h2:s.heap.IsListIter p l2 H)(hl1:s.heap.IsList l1 xs)(hl2:s.heap.IsList l2 ys)(hx:xs[G]?=U x)(hy:ys[H]?=U y)(hQ:∀h',wR h' z TI TO T AD->h'.IsListIter m l1 (G+1)->h'.IsListIter p l2 (H+1)->R5 h' s⁻¹ x y ->
   (∀c o,c≠z->c≠m->c≠p->s.heap.get? c=U o->h'.get? c=U o)->Q (U (.ref s⁻¹)) {s with heap:=h'}):
  PY (P9 prog w) A (SR (.ref z)) Q E s:=by
 let B:s.TypeIs (.ref z) "zip":=#[_,hz,rfl];unfold SR
 refine bN (SA (QX (name:=Qv "__next__") B Q0
  (Rm Q0 B Su ?_ (Se _))))
 show PY _ _ (WB (.ref z) 2>>=_) _ _ _;calc bN (QC hz rfl (x:=.bool AE) rfl ?_);show PY _ _ (WB (.ref z) 3>>=_) _ _ _;calc bN (QC hz rfl (x:=.ref TI) rfl ?_);calc bN (Rh hTI rfl ?_);show PY _ _ (QA (.ref z)>>=_) _ _ _;calc bN (qU hz hT λO r d=>?_);simp only[Ra,if_false];calc bN ?_;simp only[<-VM,Sl,SK];calc bN (bN (QG ?_));show PY _ _ (Qt (.ref m)>>=_) _ _ _;calc bN (Tj (h1.extBut d.extBut D.i1z) (hl1.extBut d.extBut D.l1z) hx λN v j=>rz (rz ?_));dsimp only;calc bN (bN (QG ?_));show PY _ _ (Qt (.ref p)>>=_) _ _ _;calc bN (Tj ((h2.extBut d.extBut D.i2z).extBut j.extBut D.i12.symm) ((hl2.extBut d.extBut D.l2z).extBut j.extBut D.l2i1) hy λg t l=>rz (rz (rz ?_)));dsimp only;calc bN (wpAny_newTuple (hsz:=by show 2<=my;decide) ?_);let hsz:g.objs.size=s⁻¹:=by rw[l.1,j.1,d.1]
 let q:wR g z TI TO T AD:=l.extBut _ _ D.i2z.symm (j.extBut _ _ D.i1z.symm r);let S:∀c o,c≠z->c≠m->c≠p->s.heap.get? c=U o->g.get? c=U o:=λc o M L J e=>l.extBut _ _ J (j.extBut _ _ L (d.extBut _ _ M e));let u:g.IsListIter m l1 (G+1):=v.extBut l.extBut D.i12;calc rz #[_,rfl,rz ?_];show Q (U (.ref g.objs.size)) _;let I:R5 (g.push {cls:=.type "tuple",data:=.seq #[x,y,]}) g.objs.size x y:=P5 _ rfl;let fin:=hQ (g.push {cls:=.type "tuple",data:=.seq #[x,y,]}) (u5 _ q) (u.at λo e=>u5 _ e) (t.at λo e=>u5 _ e) (by rw[<-hsz];calc I) λc o M L J e=>u5 _ (S c o M L J e);rw[<-hsz]at fin;calc fin
def wU {TI TO T:AB}(G:A.handled=gV)(D:UL z TI TO j p l1 l2)(hz:wR s.heap z TI TO T m)(hT:s.heap.get? T=U C)(hTI:R5 s.heap TI (.ref j) (.ref p))(h1:s.heap.IsListIter j l1 u)(hl1:s.heap.IsList l1 xs)(hx:xs[u]?=gV)(hQ:∀h',(∀c o,c≠z->c≠j->c≠p->s.heap.get? c=U o->h'.get? c=U o)->Q gV {s with heap:=h'}):
  PY (P9 prog w) A (SR (.ref z)) Q E s:=by
 let l:s.TypeIs (.ref z) "zip":=#[_,hz,rfl];unfold SR
 refine bN (SA (QX (name:=Qv "__next__") l Q0
  (Rm Q0 l Su ?_ (Se _))))
 show PY _ _ (WB (.ref z) 2>>=_) _ _ _;calc bN (QC hz rfl (x:=.bool AE) rfl ?_);show PY _ _ (WB (.ref z) 3>>=_) _ _ _;calc bN (QC hz rfl (x:=.ref TI) rfl ?_);calc bN (Rh hTI rfl ?_);show PY _ _ (QA (.ref z)>>=_) _ _ _;calc bN (qU hz hT λy q d=>?_);simp only[Ra,if_false];calc bN ?_;simp only[<-VM,Sl,SK];calc bN (bN (QG ?_));show PY _ _ (Qt (.ref j)>>=_) _ _ _;calc bN (UX G (h1.extBut d.extBut D.i1z) (hl1.extBut d.extBut D.l1z) hx λv e g H=>?_);let(B,r,t):=H;calc bN (R6 (T:="StopIteration") (b:=AD) #[B,r,t] Xl ?_);calc rz (hQ _ λc o L J _ I=>g _ _ J (d.extBut _ _ L I))
structure Ov(h:Heap) (z TI TO i1 i2 l1 l2 lo:Nat) (xs ys:Array eT) (i:Nat):Prop where
 ti:R5 h TI (.ref i1) (.ref i2)
 it1:h.IsListIter i1 l1 i
 it2:h.IsListIter i2 l2 i
 ls1:h.IsList l1 xs
 ls2:h.IsList l2 ys
 st:(i=0/\WC h z TI TO .none/\∃a b,R5 h TO a b)\/∃(T:Nat) (flag:Bool) (oT:Obj),wR h z TI TO T flag/\h.get? T=U oT/\lo<=T
structure rT(h:Heap) (lo:Nat) (xs ys:Array eT) (as:MC Nat):Prop where
 rise:as.Pairwise (· < ·)
 low:∀a∈as,lo<=a
 pairs:∀(j:Nat) (a:Nat),as[j]?=U a->∃x y,xs[j]?=U x/\ys[j]?=U y/\R5 h a x y
def rT.lt {lo:Nat}(g:rT h lo xs ys d)(m:a∈d):a<h.objs.size:=by
 let(j,l):=List.mem_iff_getElem?.mp m;let(_,_,_,_,e):=g.pairs j a l;calc P0 e
def rT.keep {lo:Nat}(g:rT h lo xs ys d)(k:∀c o,lo<=c->h.get? c=U o->h'.get? c=U o):rT h' lo xs ys d :=
 #[g.rise,g.low,λj a e=>by
  let(x,y,p,m,l):=g.pairs j a e;calc#[x,y,p,m,k a _ (g.low a (P6 e)) l]]
def rT.snoc {lo:Nat}(g:rT h lo xs ys d)(k:∀c o,lo<=c->h.get? c=U o->h'.get? c=U o)(hn:lo<=n)(l:h.objs.size<=n)(q:xs[⇑d]?=U x)(p:ys[⇑d]?=U y)(r:R5 h' n x y):
  rT h' lo xs ys (d++[n]):=by
 let u:=g.keep k;refine#[List.pairwise_append.mpr #[g.rise,Uv _ _,λa m b t=>?_],λa m=>?_,λj a e=>?_]
 .rw[vv.mp t];exact P8 (g.lt m) l
 .rcases zv.mp m with h|h
  .exact g.low a h
  .rw[vv.mp h];exact hn
 .rcases Nat.lt_trichotomy j ⇑d with hj|hj|hj
  .rw[Ri hj]at e;exact u.pairs j a e
  .subst hj;rw[QZ (u4 _),WY]at e
   cases e
   exact#[x,y,q,p,r]
  .rw[UY (by rw[mu,Xa];omega)]at e;cases e
theorem wV :∀{ys:List AA}{us:List eT},Vals (ys.map V.str) us->StrsAre us ys
 | [],_,.nil=>.nil
 |_::_,_,.cons ⟨t,e⟩ r=>by subst e;calc .cons _ t (wV r)
meta def rJoin(K:cB):V->MC V->Hp->VK->Prop:=λx e H Q=>∃z p d,x=.str z/\e=[.ref p]/\aV K H p (d.map V.str)/\(d.map (·.length)).sum+⇑d*⇑z<=16777216/\Q (.str (Txt.join z d)) H
def Gx :Ng X "str.join" (rJoin X.K):=by
 intro d s B H x D v G Q I e l h;let(z,p,C,rfl,rfl,r,y,q):=h;let(t,rfl):=e;let(u,rfl,j):=vals1 l
 cases j
 let(o,g,m,L):=I.list r;calc join_list m.isList (by simpa using wV g) y λJ k=>#[.str _,H,I.tok _,#[_,rfl],q]
theorem yS :∀{bs:MC Bool}{us:List eT},Vals (bs.map V.bl) us->LSm.BoolsAre us bs
 | [],_,.nil=>.nil
 |_::_,_,.cons e r=>by cases e;calc .cons _ (yS r)
meta def NR:V->AF Int->AF Int->Hp->VK->Prop:=λx d e H Q=>∃z,x=.str z/\⇑z<=my/\Q (.str (R7 z d e)) H
def part_of (h:Wi v o):∃p:AF (Int×Tok),v=partValue p/\p.map (·.1)=o:=by
 cases h with
 |none=>calc#[gV,rfl,rfl]
 |int i t=>calc#[U (i,t),rfl,rfl]
def DO :Dy X NR:=by
 intro d s C H x v G D M N L Q I j r o m h;let(z,rfl,p,q):=h;let(t,rfl):=j;let(g,rfl,B):=part_of o;let(e,rfl,y):=part_of m;calc#["str",_,PySem.F.slot_str_getitem.lookup,typeIs_str s z t,?_];calc wpAny_getItem_str_slice (l:=g) (u:=e) (st:=gV) r rfl ?_;subst B y
 cases g<;>cases e<;>calc post_val_or_str #[Qq (Txt.slice_le z _ _) p,λJ k=>#[.str _,H,I.tok _,#[_,rfl],q]]
meta def vK(xs:MC V)(lo hi st:AF Int):MC V:=(VN (Rb lo hi st ⇑xs).1 (Rb lo hi st ⇑xs).2.1 (Rb lo hi st ⇑xs).2.2).filterMap (xs[·]?)
theorem qV (r:Vals xs us):∀d:MC Nat,Vals (d.filterMap (xs[·]?)) (d.filterMap (us[·]?))
 | []=>.nil
 |i::d=>by
  rw[RV,RV]
  cases e:xs[i]? with
  |none=>rw[r.none_of e];calc qV r d
  |some x =>
   let(u,j,g):=r.get e;rw[j];calc .cons g (qV r d)
meta def NS(K:cB)(te:TE)(tl th tk:TO):TE:=λd H Q=>te d H λx q=>tl d q λl o=>th d o λu m=>tk d m λk j=>∃a g,x=.ref a/\aV K j a g/\k≠U 0/\⇑(vK g l u k)<=my /\
 ∀p,j p=gV->Q (.ref p) (upd j p (.Y (vK g l u k)))
def B9 {e st:Expr}{lo hi:AF Expr}{te:TE}{tl th tk:TO}{p2 pos:Pos}(he:PE X e te)(hl:PO X lo tl)(hu:PO X hi th)(hk:PO X (U st) tk):PE X (.Subscript e (.Slice lo hi (U st) p2) pos) (NS X.K te tl th tk):=by
 intro d s g H Q I h;calc WR (cQ (he d s g H _ I h) λv M ⟨x,H1,I1,N,q1⟩=>?_);calc wpAny_Slice (cQ (hl d M g H1 _ I1 q1) λD L ⟨l,H2,I2,V,S⟩=>cQ (hu d L g H2 _ I2 S) λC J ⟨u,H3,I3,gD,R⟩=>cQ (hk d J g H3 _ I3 R) λG j ⟨k,H4,I4,W,O⟩=>?_);let(a,t,rfl,Z,k0,y,q):=O
 cases N
 let z:Inv X d g H4 {j with heap:=j.heap.push {cls:=.type "slice",data:=.fields #[D,C,G,]}}:=I4.kept (t':=j.toks) λb Y q=>u5 _ q;let(m,r,B,hz):=z.list Z;let p:=⇑r;calc tail_any (T:="list") (ops:=[.ref a,.ref j⁻¹]) B.isList.typeIs V7.lookup ?_ (by rfl');refine Wj B.isList (VI ..) V gD W k0 ?_ (by rw[P4]<;>omega)
 let ep:Yp m.toArray l u k=((VN (Rb l u k ⇑t).1 (Rb l u k ⇑t).2.1 (Rb l u k ⇑t).2.2).filterMap (m[·]?)).toArray:=by
  unfold Yp;rw[P4,<-p];simp
 rw[ep];calc#[.ref _,_,z.laid (t':=j.toks) (o:=.Y (vK t l u k)) (λb Y q=>u5 _ q) (u4 _) ?_,rfl,q _ (z.hok.fresh (u4 _))];calc#[y,_,0,qV r _,P5 _ rfl]
def Gy {lo st:AF Int}(h:VN (Rb lo hi st ⇑xs).1 (Rb lo hi st ⇑xs).2.1 (Rb lo hi st ⇑xs).2.2=d):vK xs lo hi st=d.filterMap (xs[·]?):=by
 unfold vK;rw[h]
meta def Gz:Expr->AF AA
 |.Constant (.str x) _ _=>U x
 |_=>gV
meta def strsOf:MC Expr->AF (List AA)
 | []=>U []
 |e::r=>(Gz e).bind λx=>(strsOf r).map (x::·)
meta def DP(xs:List AA):TA:=λ_ H Q=>Q (xs.map V.str) H
def GA (h:Gz e=U x):∃j p,e=.Constant (.str x) j p:=by
 unfold Gz at h
 split at h
 .cases h;exact#[_,_,rfl]
 .cases h
def Bc :∀{xs:List AA},strsOf d=U xs->PA X d (DP xs):=by
 induction d with
 |nil=>intro xs h;cases h;calc ak
 |cons e r ih =>
  intro xs h;unfold strsOf at h
  cases h1:Gz e with
  |none=>rw[h1]at h;cases h
  |some x =>
   cases h2:strsOf r with
   |none=>rw[h1,h2]at h;cases h
   |some ys =>
    rw[h1,h2]at h
    cases h
    let(j,p,rfl):=GA h1;exact bR aC (ih h2) rfl
open PySem.SeqAt
theorem yT :∀{bs:MC Bool}{us:List eT},Vals (bs.map V.bl) us->us=bs.map Value.bool
 | [],us,r=>by cases r;rfl
 |d::ds,us,r=>by
  cases r with
  |cons a b =>
   let z:=yT b;subst z;calc congrArg (·::_) a
mutual
noncomputable def Rp(K:cB)(H:Hp):T->V->Prop
 |.s x,v=>v=.str x
 |.i n,v=>v=.int n
 |.n,v=>v=.gu
 |.t xs,v=>∃a d,v=.ref a/\b9 K H a d/\bS K H xs d
noncomputable def bS(K:cB)(H:Hp):MC T->MC V->Prop
 | [],vs=>vs=[]
 |x::r,vs=>∃v q,vs=v::q/\Rp K H x v/\bS K H r q
end
meta def Kt(H e:Hp):Prop:=∀a d,Rd H a (.J d)->Rd e a (.J d)
def Kt.refl :Kt H H:=λ_ _ h=>h
def Kt.trans (a:Kt H g)(b:Kt g e):Kt H e:=λc d h=>b c d (a c d h)
def Kt.Z (s:aS H d):Kt H d:=λa g h=>h.elim (λe=>.inl (s _ _ e)) λ⟨o,e⟩=>.inr #[o,s _ _ e]
def Kt.new {H:Hp}{p:AB}(h:H p=gV)(o:HO):Kt H (upd H p o):=λa d r=>r.elim (λe=>.inl (by rw[aB (ay e h)];calc e)) λ⟨u,e⟩=>.inr #[u,by rw[aB (ay e h)];calc e]
def Kt.upd {H:Hp}{l:AB}{u:HO}(h:H l=U u)(g:∀xs,u≠.J xs)(d:∀o xs,u≠.nT o (.J xs))(o:HO):Kt H (upd H l o):=λa xs r=>by
 rcases r with e|⟨p,e⟩
 .exact .inl (by rw[aB (jw e h λz=>g _ z.symm)];calc e)
 .exact .inr #[p,by rw[aB (jw e h λz=>d _ _ z.symm)];calc e]
def Kt.Y (h:H l=U (.Y xs))(o:HO):Kt H (L2.upd H l o):=Kt.upd h ⋯ (λ_ _ z=>nomatch z) o
def b9.kt {K:cB}(k:Kt H H')(h:b9 K H a xs):b9 K H' a xs:=h.elim (λe=>.inl (k _ _ e)) .inr
theorem bS.all {K:cB}(f:∀{x v},Rp K H x v->Rp K H' x v):∀{xs:MC T}{vs:MC V},bS K H xs vs->bS K H' xs vs
 | [],vs,h=>by unfold bS at h|-;calc h
 |x::r,vs,h=>by
  unfold bS at h|-;let(v,q,e,g,d):=h;calc#[v,q,e,f g,bS.all f d]
def bS.nil {K:cB}:bS K H [] []:=by unfold bS;rfl
def bS.cons {K:cB}{H:Hp}{x:T}{v:V}{r:MC T}{q:MC V}(h:Rp K H x v)(t:bS K H r q):bS K H (x::r) (v::q):=by unfold bS;calc#[v,q,rfl,h,t]
def bS.inv {K:cB}(h:bS K H (x::r) vs):∃v q,vs=v::q/\Rp K H x v/\bS K H r q:=by unfold bS at h;calc h
def bS.gz {K:cB}(h:bS K H [] vs):vs=[]:=by unfold bS at h;calc h
def Rp.s {K:cB}:Rp K H (.s x) (.str x):=by unfold Rp;rfl
def Rp.i {K:cB}:Rp K H (.i n) (.int n):=by unfold Rp;rfl
def Rp.gu {K:cB}:Rp K H .n .gu:=by unfold Rp;rfl
def Rp.t {K:cB}(h:b9 K H a vs)(r:bS K H xs vs):Rp K H (.t xs) (.ref a):=by unfold Rp;calc#[a,vs,rfl,h,r]
def Rp.aP {K:cB}(h:Rp K H (.s x) v):v=.str x:=by unfold Rp at h;calc h
def Rp.kZ {K:cB}(h:Rp K H (.i n) v):v=.int n:=by unfold Rp at h;calc h
def Rp.aT {K:cB}(h:Rp K H (.t xs) v):∃a vs,v=.ref a/\b9 K H a vs/\bS K H xs vs:=by unfold Rp at h;calc h
def Rp.kt {K:cB}(k:Kt H H'):∀{v:V},Rp K H x v->Rp K H' x v:=by
 induction x using T.induct with
 |hs x=>intro v h;rw[h.aP];calc .s
 |hi x=>intro v h;rw[h.kZ];calc .i
 |hn=>intro v h;unfold Rp at h;rw[h];calc .gu
 |ht xs ih =>
  intro v h;let(a,d,rfl,hs,hr):=h.aT;calc .t (hs.kt k) ?_;clear hs h
  induction xs generalizing d with
  |nil=>rw[hr.gz];calc .nil
  |cons x r ih2 =>
   let(v,q,rfl,j,g):=hr.inv;calc .cons (ih x (.head _) j) (ih2 (λy e=>ih y (.tail _ e)) _ g)
def bS.kt {K:cB}(k:Kt H H')(h:bS K H xs vs):bS K H' xs vs:=bS.all (λh=>h.kt k) h
theorem bS.length {K:cB}:∀{xs:MC T}{vs:MC V},bS K H xs vs->⇑vs=⇑xs
 | [],vs,h=>by rw[h.gz];rfl
 |x::r,vs,h=>by
  let(v,q,rfl,_,d):=h.inv;rw[Qn,Qn,bS.length d]
theorem bS.get {K:cB}:∀{xs:MC T}{vs:MC V}{i:Nat}{x:T},bS K H xs vs->xs[i]?=U x->∃v,vs[i]?=U v/\Rp K H x v
 | [],vs,i,x,h,e=>by simp at e
 |x::r,vs,0,y,h,e=>by
  let(v,q,rfl,l,_):=h.inv;simp at e;subst e;calc#[v,rfl,l]
 |x::r,vs,i+1,y,h,e=>by
  let(v,q,rfl,_,j):=h.inv;let(w,g,d):=bS.get (i:=i) j (by simpa using e);calc#[w,by simpa using g,d]
def bS.get' {K:cB}:∀{xs:MC T}{vs:MC V}{i:Nat}{v:V},bS K H xs vs->vs[i]?=U v->∃x,xs[i]?=U x/\Rp K H x v:=λ{xs vs i v} h e=>by
 let l:=⇑h
 let d:i<⇑xs:=by
  rcases Nat.lt_or_ge i ⇑vs with z|z
  .omega
  .rw[TY.mpr z]at e;cases e
 let(w,g,j):=h.get (pC d);rw[e]at g;cases g;calc#[_,pC d,j]
theorem bS.append {K:cB}:∀{xs ys:MC T}{vs d:MC V},bS K H xs vs->bS K H ys d->bS K H (xs++ys) (vs++d)
 | [],ys,vs,d,h,g=>by rw[h.gz];calc g
 |x::r,ys,vs,d,h,g=>by
  let(v,q,rfl,j,e):=h.inv;calc .cons j (bS.append e g)
def bS.one {K:cB}(h:Rp K H x v):bS K H [x] [v]:=.cons h .nil
def bS.snoc {K:cB}(h:bS K H xs vs)(g:Rp K H x v):bS K H (xs++[x]) (vs++[v]):=h.append (.one g)
theorem bS.drop {K:cB}:∀{xs:MC T}{vs:MC V}(n:Nat),bS K H xs vs->bS K H (xs.drop n) (vs.drop n)
 |xs,vs,0,h=>h
 | [],vs,n+1,h=>by rw[h.gz];calc .nil
 |x::r,vs,n+1,h=>by
  let(v,q,rfl,_,d):=h.inv;calc bS.drop n d
theorem bS.take {K:cB}:∀{xs:MC T}{vs:MC V}(n:Nat),bS K H xs vs->bS K H (xs.take n) (vs.take n)
 |xs,vs,0,h=>.nil
 | [],vs,n+1,h=>by rw[h.gz];calc .nil
 |x::r,vs,n+1,h=>by
  let(v,q,rfl,e,d):=h.inv;calc .cons e (bS.take n d)
theorem bS.split {K:cB}:∀{xs ys:MC T}{vs:MC V},bS K H (xs++ys) vs->∃d us,vs=d++us/\bS K H xs d/\bS K H ys us
 | [],ys,vs,h=>#[[],vs,rfl,.nil,h]
 |x::r,ys,vs,h=>by
  let(v,q,rfl,l,j):=bS.inv h;let(d,us,rfl,g,e):=bS.split j;calc#[v::d,us,rfl,.cons l g,e]
theorem bS.reverse {K:cB}:∀{xs:MC T}{vs:MC V},bS K H xs vs->bS K H xs.reverse vs.reverse
 | [],vs,h=>by rw[h.gz];calc .nil
 |x::r,vs,h=>by
  let(v,q,rfl,e,d):=h.inv;rw[S1,S1];calc(bS.reverse d).snoc e
theorem bS.strs {K:cB}:∀(xs:List AA),bS K H (xs.map .s) (xs.map .str)
 | []=>.nil
 |_::r=>.cons .s (bS.strs r)
theorem bS.tT {K:cB}:∀{xs:List AA}{vs:MC V},bS K H (xs.map .s) vs->vs=xs.map .str
 | [],vs,h=>h.gz
 |x::r,vs,h=>by
  let(v,q,rfl,e,d):=bS.inv h;rw[e.aP,bS.tT d];rfl
def Rp.inj {s:fy}(I:Inv X pins σ H s)(a:T):∀(b:T) {v:V},Rp X.K H a v->Rp X.K H b v->a=b:=by
 induction a using T.induct with
 |hs x =>
  intro b v h g;rw[h.aP]at g
  cases b with
  |s y=>let z:=g.aP;injection z with z;rw[z]
  |i y=>let z:=g.kZ;cases z
  |n=>unfold Rp at g;cases g
  |t ys=>let(_,_,z,_):=g.aT;cases z
 |hi x =>
  intro b v h g;rw[h.kZ]at g
  cases b with
  |s y=>let z:=g.aP;cases z
  |i y=>let z:=g.kZ;injection z with z;rw[z]
  |n=>unfold Rp at g;cases g
  |t ys=>let(_,_,z,_):=g.aT;cases z
 |hn =>
  intro b v h g;unfold Rp at h;rw[h]at g
  cases b with
  |s y=>let z:=g.aP;cases z
  |i y=>let z:=g.kZ;cases z
  |n=>rfl
  |t ys=>let(_,_,z,_):=g.aT;cases z
 |ht xs ih =>
  intro b v h g;let(p,o,rfl,hs,hr):=h.aT
  cases b with
  |t ys =>
   let(L,G,e,j,d):=g.aT
   cases e
   let e:=I.qO hs j;subst e
   congr 1
   clear hs j h g
   induction xs generalizing ys o with
   |nil =>
    let z:=hr.gz;subst z
    cases ys with
    |nil=>rfl
    |cons y q=>let(_,_,z,_):=d.inv;cases z
   |cons x r ih2 =>
    let(v,q,rfl,D,C):=hr.inv
    cases ys with
    |nil=>cases d.gz
    |cons y q' =>
     let(J,u,e,m,l):=d.inv
     cases e
     rw[ih x (.head _) y D m,ih2 (λz B=>ih z (.tail _ B)) _ C _ l]
  |_=>unfold Rp at g;cases g
def gU (p:YD h a d):h.IsTuple a d:=p
def vL (r:Vals us d)(e:us[j]?=U v){h:j<d.toArray.size}:RelV v d.toArray[j]:=by
 let(u,l,g):=r.get e
 let z:d.toArray[j]=u:=by
  let q:d[j]?=U d.toArray[j]:=by
   rw[pC (by simpa using h)];simp
  rw[l]at q;exact(Qw q).symm
 rw[z];calc g
meta def Bd(s:fy)(K:cB)(H:Hp)(x:T):Prop:=∀(b:T) {u v:V}{e d:eT}(A:Qk),A.units+x.dep<US->Rp K H x u->Rp K H b v->RelV u e->RelV v d->EqAt A s e d (x.eqB b)
def vM {X:Cx}(t:∀x∈xs,Bd s X.K H x)(z:A.units+T.nA xs<US)(hr:bS X.K H xs us)(e:bS X.K H ys l)(r:Vals us d)(o:Vals l its')(j:Nat)(h1:j<d.toArray.size)(h2:j<its'.toArray.size):EqAt A s d.toArray[j] its'.toArray[j] (T.eqB (xs.getD j .n) (ys.getD j .n)):=by
 let l1:⇑us=⇑d:=⇑r;let l2:⇑l=⇑its':=⇑o;let l3:=⇑hr;let I:=⇑e;let C:j<⇑d:=by simpa using h1
 let B:j<⇑its':=by simpa using h2
 let g:j<⇑xs:=()
 let p:j<⇑ys:=()
 let(v,y,q):=hr.get (pC g);let(w,u,m):=e.get (pC p);let G:xs.getD j .n=xs[j]:=by simp[g]
 let D:ys.getD j .n=ys[j]:=by simp[p]
 rw[G,D];calc t _ (Qz g) _ A (VL (Xz (T.DI (Qz g)) _) z) q m (vL r y) (vL o u)
def Ca (I:Inv X pins σ H s)(y:∀x∈xs,Bd s X.K H x)(B:A.units+1+T.nA xs<US)(hs:b9 X.K H p us)(hr:bS X.K H xs us)(t:b9 X.K H q m)(l:bS X.K H ys m):
  RcAt A s (.ref p) (.ref q) (T.qd xs ys):=by
 let(g,r,v,_):=I.tuple hs;let(d,u,o,_):=I.tuple t;let z:=RcAt.tuples (A:=A) (gU v) (gU o) () (e:=λj=>T.eqB (xs.getD j .n) (ys.getD j .n)) (vM (A:=A.in1) y (by show A.units+1+_<_;calc B) hr l r u);let l1:⇑us=⇑g:=⇑r;let l2:⇑m=⇑d:=⇑u;let l3:=⇑hr;let G:=⇑l;rw[T.pA];let D:g.toArray.size=⇑xs:=by simp;omega
 let C:d.toArray.size=⇑ys:=by simp;omega
 rw[D,C]at z;calc z
def DQ (I:Inv X pins σ H s)(N:∀x∈xs,Bd s X.K H x)(O:A.units+1+T.nA xs<US)(hs:aV X.K H p us)(hr:bS X.K H xs us)(D:aV X.K H q B)(t:bS X.K H ys B):
  RcAt A s (.ref p) (.ref q) (T.qd xs ys)/\RcNeAt A s (.ref p) (.ref q) (!T.qd xs ys):=by
 let(m,r,M,_):=I.list hs;let(g,J,C,_):=I.list D;let z:s.heap.IsList p m.toArray:=by obtain⟨o,n,e,c,-,d⟩:=M;exact#[o,e,c,n,d]
 let y:s.heap.IsList q g.toArray:=by obtain⟨o,n,e,c,-,d⟩:=C;exact#[o,e,c,n,d]
 let l1:⇑us=⇑m:=⇑r;let l2:⇑B=⇑g:=⇑J;let l3:=⇑hr;let Q:=⇑t;let G:m.toArray.size=⇑xs:=by simp;omega
 let L:g.toArray.size=⇑ys:=by simp;omega
 let l:=vM (A:=A.in1) N (by show A.units+1+_<_;calc O) hr t r J;rw[T.pA]
 by_cases e:⇑xs=⇑ys
 .have v:=RcAt.lists (A:=A) z y () () (e:=λj=>T.eqB (xs.getD j .n) (ys.getD j .n)) l;let u:=RcNeAt.lists (A:=A) z y () () (e:=λj=>T.eqB (xs.getD j .n) (ys.getD j .n)) l;rw[G]at v u;rw[show min ⇑xs ⇑ys=⇑xs by omega,show(⇑xs == ⇑ys)=AD by simpa using e,Bool.and_true];exact#[v,u]
 .have v:=RcAt.lists_lengths (A:=A) z y (by rw[G,L];simpa using e) ();let u:=RcNeAt.lists_lengths (A:=A) z y (by rw[G,L];simpa using e) ();rw[show(⇑xs == ⇑ys)=AE by simpa using e,Xi];calc#[v,u]
def NT (I:Inv X pins σ H s)(a:T):Bd s X.K H a:=by
 induction a using T.induct with
 |hs x =>
  intro b u v D C A r h g j d;rw[h.aP]at j;let(t,rfl):=j
  cases b with
  |s y=>rw[g.aP]at d;let(m,rfl):=d;unfold T.eqB;calc EqAt.str_str _ _ _ _
  |i y=>rw[g.kZ]at d;let(m,rfl):=d;unfold T.eqB;calc EqAt.str_int _ _ _ _
  |n=>unfold Rp at g;rw[g]at d;cases d;unfold T.eqB;calc EqAt.str_none _ _
  |t ys =>
   let(q,B,rfl,hs,hr):=g.aT
   cases d
   let(o,_,l,_):=I.tuple hs;unfold T.eqB;calc EqAt.str_tuple _ _ (gU l) ()
 |hi x =>
  intro b u v D C A r h g j d;rw[h.kZ]at j;let(t,rfl):=j
  cases b with
  |s y=>rw[g.aP]at d;let(m,rfl):=d;unfold T.eqB;calc EqAt.int_str _ _ _ _
  |i y=>rw[g.kZ]at d;let(m,rfl):=d;unfold T.eqB;calc EqAt.int_int _ _ _ _
  |n=>unfold Rp at g;rw[g]at d;cases d;unfold T.eqB;calc EqAt.int_none _ _
  |t ys =>
   let(q,B,rfl,hs,hr):=g.aT
   cases d
   let(o,_,l,_):=I.tuple hs;unfold T.eqB;calc EqAt.int_tuple _ _ (gU l) ()
 |hn =>
  intro b u v D C A r h g j d;unfold Rp at h;rw[h]at j
  cases j
  cases b with
  |s y=>rw[g.aP]at d;let(m,rfl):=d;unfold T.eqB;calc EqAt.none_str _ _
  |i y=>rw[g.kZ]at d;let(m,rfl):=d;unfold T.eqB;calc EqAt.none_int _ _
  |n=>unfold Rp at g;rw[g]at d;cases d;unfold T.eqB;calc EqAt.same _
  |t ys =>
   let(q,B,rfl,hs,hr):=g.aT
   cases d
   let(o,_,l,_):=I.tuple hs;unfold T.eqB;calc EqAt.none_tuple (gU l) ()
 |ht xs ih =>
  intro b u v D C A r h g j d;let(p,M,rfl,hs,hr):=h.aT
  cases j
  let(o,L,l,_):=I.tuple hs
  cases b with
  |s y=>rw[g.aP]at d;let(m,rfl):=d;unfold T.eqB;calc EqAt.tuple_str _ _ (gU l) ()
  |i y=>rw[g.kZ]at d;let(m,rfl):=d;unfold T.eqB;calc EqAt.tuple_int _ _ (gU l) ()
  |n=>unfold Rp at g;rw[g]at d;cases d;unfold T.eqB;calc EqAt.tuple_none (gU l) ()
  |t ys =>
   let(q,B,rfl,G,J):=g.aT
   cases d
   by_cases e:p=q
   .subst e;let z:=Rp.inj I _ _ h g;rw[z,T.DJ];exact EqAt.same _
   .unfold T.dep at r;unfold T.eqB;calc EqAt.of_refs e (Ca I ih () hs hr G J)
meta def NU(K:cB):R2:=λx y H Q=>∃p q d e j g,x=.ref p/\y=.ref q/\aV K H p j/\bS K H d j/\aV K H q g/\bS K H e g/\T.nA d<=149/\Q (.bl (!decide (d=e))) H
def Kv (B:X.A.units+150<US):nY X (RX .NotEq) (NU X.K):=by
 intro pins s σ H x y v u Q I e d h;let(p,q,r,o,z,t,rfl,rfl,m,l,j,g,hd,k):=h;obtain rfl:v=Value.ref p:=e;obtain rfl:u=Value.ref q:=d;rw[<-T.DL]at k;calc(DQ I (A:=X.A) (λx _=>NT I x) () m l j g).2 X.prog X.w X.xe _ #[.bl _,H,I,rfl,k]
def dZ.Kw (r:dZ k A):A.units+150<US:=by let:=r.un;omega
end L2
namespace L2
open PySem PySem.Spec PyProof.Rows
def Ow {A:Prop}(e:b=AD)(h:A):if b=AD then A else B:=by rw[if_pos e];calc h
def Jk {A:Prop}(e:b=AE)(h:B):if b=AD then A else B:=by rw[if_neg (by rw[e];calc Qf)];calc h
def jd {pos:Pos}{d:MC Expr}{k:Nat}{t:Ga}{n:Nat}(K:cB)(j:X.K=K)(g:X.calm=AD)(h:LX X d t)(hn:⇑(Ug d X.env)=n:=by rfl)(e:(Ug d X.env).findIdx? (·.1)=gV:=by rfl):PG X (.Tuple d k pos) (Gb K n t):=by
 subst j;calc JN g h hn e
def wW (K:cB)(d:X.K=K):Dz X (Gk K):=by subst d;calc aJ
def qg (K:cB)(d:X.K=K):Dz X (Ke K):=by subst d;calc br
def DR (K:cB)(d:X.K=K):Dy X (Mn K):=by subst d;calc jV
def oX (K:cB)(d:X.K=K):iQ X (.builtin "len") (λxs H Q=>∃p ys,xs=[.ref p]/\(aV K H p ys\/b9 K H p ys)/\Q (.int ⇑ys) H):=by subst d;calc aN
meta def Jl(w:Qe):MC SV->MC (AA×V)->Prop
 | [],kvs=>kvs=[]
 |e::r,kvs=>∃x v q,kvs=(x,v)::q/\(∃t,e.key=.str x t)/\e.hash=hashStr w x/\RelV v e.val/\Jl w r q
meta def KD(K:cB)(w:Qe)(d:AB)(kvs:MC (AA×V)):Prop :=
 ∃(e:Array SV) (n:Nat),K.lookup d=U {cls:=.type "dict",dict:=gV,data:=.dict e n,slots:=#[]}/\Jl w e.toList kvs/\(kvs.map (·.1)).Nodup/\(d == RM)=AE
theorem Jl.keys :∀{g:MC SV}{kvs:MC (AA×V)},Jl w g kvs->∃vs:MC (AA×eT),Pairs (SD P w) g vs/\(∀e∈g,∃k,(SD P w).is k e.key=AD/\e.hash=(SD P w).hash k)/\vs.map (·.1)=kvs.map (·.1) /\
  ∀k,lD (kvs.lookup k) (TV vs k)
 | [],kvs,h=>by
  obtain rfl:kvs=[]:=h;calc#[[],.nil,(λ_ h=>nomatch h),rfl,λ_=>trivial]
 |e::r,kvs,h=>by
  let(x,v,q,rfl,(t,m),o,l,hr):=h;let(vs,B,y,u,p):=Jl.keys (P:=P) hr;let j:(SD P w).is x e.key=AD:=by rw[m];exact(by simp[SD,Wc]:(SD P w).is x (.str x t)=AD)
  refine#[(x,e.val)::vs,.cons j rfl B,λD d=>?_,by rw[Qd,Qd,u],λk=>?_]
  .cases d with
   |head=>calc#[x,j,o]
   |tail _ d=>exact y D d
  .rw[QK]
   by_cases c:k=x
   .subst c;rw[beq_self_eq_true];simp only[TV,Rz,decide_true,Sk];exact l
   .rw[beq_false_of_ne c];let z:=p k
    let C:TV ((x,e.val)::vs) k=TV vs k:=by
     simp only[TV,Rz];rw[decide_eq_false (λq=>c q.symm)]
    rw[C];calc z
def KD.dict {K:cB}(D:KD K w d kvs)(X:K.In h):∃vs,h.DictOf (SD P w) d vs/\(d == RM)=AE/\∀k,lD (kvs.lookup k) (TV vs k):=by
 let(r,n,e,j,g,hd):=D;let(vs,q,p,o,m):=Jl.keys (P:=P) j;calc#[vs,#[_,r,n,X _ _ e,#[rfl,rfl,rfl],rfl,λt l=>p t (by simpa using l),q,by rw[o];calc g],hd,m]
def Be :(SD P w).is x (.str x t)=AD:=by simp[SD,Wc]
meta def NV(K:cB)(w:Qe):R2:=λx y H Q=>∃k d e,x=.str k/\y=.ref d/\KD K w d e/\Q (.bl (e.lookup k).isSome) H
def lD.GB (r:lD a b):b.isSome=a.isSome:=by
 cases a<;>cases b<;>first|rfl|calc r.elim
def GC :nY X (RX .In) (NV X.K X.w):=by
 intro g s p H x y v u Q I l j h;let(k,d,m,rfl,rfl,D,q):=h;let(t,rfl):=l;obtain rfl:u=Value.ref d:=j;let(r,o,hd,e):=D.dict (P:=X.prog) I.tu;calc wpAny_in_of Be hd o.mapOf ?_;rw[(e k).GB];calc#[.bl _,H,I.tok _,rfl,q]
meta def Mv(K:cB)(w:Qe)(j ty:TE):TE:=λg H Q=>j g H λx m=>ty g m λy l=>∃d e k v,x=.ref d/\y=.str k/\KD K w d e/\e.lookup k=U v/\Q v l
def Bf (M:PE X o m)(hi:PE X i ty)(hs:Ko i):PE X (.Subscript o i pos) (Mv X.K X.w m ty):=by
 intro e s l H Q I h;calc Ba V0.lookup hs (cQ (M e s l H _ I h) λu z ⟨x,S,O,C,q1⟩=>cQ (hi e z l S _ O q1) λV gD ⟨y,R,q,B,d,J,k,v,ex,N,D,lk,G⟩=>?_);subst ex N;obtain rfl:u=Value.ref d:=C;let(t,rfl):=B;let(r,p,hd,j):=D.dict (P:=X.prog) q.tu;let(T,L,g):=lD.some_of (v:=v) (o:=TV r k) (by rw[<-lk];calc j k);calc#[p.typeIs,wpAny_getItem_of Be p.mapOf L #[v,R,q.tok _,g,G]]
def Ar :nY X (SI .Mult) (λx y H Q=>∃z n,x=.str z/\y=.int n/\-1000000<=n/\n<=1000000/\⇑z*n.toNat<=my/\Q (.str (UM z n)) H):=by
 intro d s p H x y v u Q I m l h;let(z,n,rfl,rfl,D,C,g,q):=h;let(t,rfl):=m;let(j,rfl):=l;refine PySem.SB.mul #[by simp;omega,λa b=>?_,λa b=>?_] λj k=>#[.str _,H,I.tok _,#[_,rfl],q]
 .intro c;let r:1<=n:=()
  let o:⇑z*n.toNat<=16777216:=by rw[<-TL];exact g
  let B:⇑z<=⇑z*n.toNat:=Nat.le_mul_of_pos_right _ ();let e:(9223372036854:Int)<=(2 ^ 63-1) / n:=Int.le_ediv_of_mul_le () ();omega
 .unfold RQ.Str.tooLong;simp;calc g
def je {K:cB}(j:Nat->St->MC V->Hp->Prop)(r:j 0 σ0 [] H0)(l:∀i d vs H,i<=⇑xs->j i d vs H->⇑vs<=i)(hn:⇑xs<=my)(o:∀i d vs H,i<=⇑xs->j i d vs H->b9 K H a xs)(hs:∀i x d vs H,xs[i]?=U x->j i d vs H->g x d H λe u=>tt e u λok q=>if ok=AD then te e q λv t=>j (i+1) e (vs++[v]) t else j (i+1) e vs q)(hd:∀d vs H,j ⇑xs d vs H->∀p,H p=gV->Q (.ref p) (upd H p (.Y vs))):mU (A2 K a) g tt te Q σ0 H0:=by
 calc sJ ⇑xs j r l hn (λi d vs H m p=>#[xs,xs[i],o i d vs H (QB m) p,by simp[m]]) (λd vs H p=>#[xs,o _ d vs H (u4 _) p,u4 _]) (λi d vs H x z m p y=>?_) hd;let(rfl,y):=y;calc hs i x d vs _ (y xs (o i d vs _ (QB m) p)) p
mutual
noncomputable def T.py:T->PyData
 |.s x=>.str x
 |.i k=>.int k
 |.n=>.none
 |.t xs=>.tuple (T.GD xs)
noncomputable def T.GD:MC T->MC PyData
 | []=>[]
 |x::r=>x.py::T.GD r
end
theorem tU {X:Cx}{s:fy}:∀{xs:MC T},(∀x∈xs,∀{v:V}{u:eT},Rp X.K H x v->RelV v u->∃d,Reads s.heap u x.py d)->∀{vs:MC V}{us:List eT},bS X.K H xs vs->Vals vs us->∃d,ReadsAll s.heap us (T.GD xs) d
 | [],_,vs,us,h,r=>by
  obtain rfl:=h.gz
  cases r
  calc#[[],.nil]
 |x::q,ih,vs,us,h,r=>by
  let(v,w,rfl,m,l):=h.inv
  cases r with
  |cons r1 r2 =>
   let(d,j):=ih x (.head _) m r1;let(bs,g):=tU (λy e=>ih y (.tail _ e)) l r2;calc#[d++bs,.cons j g]
def GF (I:Inv X pins σ H s)(a:T):∀{v:V}{u:eT},Rp X.K H a v->RelV v u->∃g,Reads s.heap u a.py g:=by
 induction a using T.induct with
 |hs x=>intro v u h r;rw[h.aP]at r;let(t,rfl):=r;unfold T.py;calc#[[],.str x t]
 |hi x=>intro v u h r;rw[h.kZ]at r;let(t,rfl):=r;unfold T.py;calc#[[],.int x t]
 |hn=>intro v u h r;unfold Rp at h;rw[h]at r;cases r;unfold T.py;calc#[[],.none]
 |ht xs ih =>
  intro v u h r;let(p,q,rfl,hs,hr):=h.aT
  cases r
  let(l,j,(o,e,c,n,d),_):=I.tuple hs;let(g,m):=tU (s:=s) ih hr j;unfold T.py;calc#[g,.tuple e c d (by simpa using m)]
structure Jm(d:PyData):Prop where
 sh:d.showable=AD
 nd:d.hasDict=AE
 dp:d.depth<=100
 sz:⇑d.shown<=my
def As (B:X.A.guards=U [])(J:X.A.units+150<US):iQ X (.builtin "repr") (λxs H Q=>∃p g vs,xs=[.ref p]/\aV X.K H p vs/\bS X.K H g vs/\Jm (.list (T.GD g))/\Q (.str (PyData.list (T.GD g)).shown) H):=by
 intro pins s σ H xs D Q I r h;let(p,g,vs,rfl,v,hr,S,q):=h;let(u,rfl,l):=vals1 r
 cases l
 let(t,j,m,_):=I.list v;let(o,e,c,n,d):=m.isList;let(M,C):=tU (s:=s) (λx _=>GF I x) hr j;calc repr_of_reads' (.list e c d (by simpa using C)) S.sh (λz=>by rw[S.nd]at z;cases z) B (by let:=S.dp;omega) (λ_ _ e=>e) (λL u G y=>?_) S.sz;calc#[.str _,H,I.kept y,#[_,rfl],q]
def atS {z:AA}(j:0<=r)(h:r<(⇑z:Int)):∃c,fM z.cps.toList r=U c/\c∈z.cps.toList:=by
 let e:⇑z.cps.toList=⇑z:=by simp[WT]
 let d:r.toNat<⇑z.cps.toList:=by rw[e];omega
 let g:r=((r.toNat:Nat):Int):=()
 let q:fM z.cps.toList ((r.toNat:Nat):Int)=U z.cps.toList[r.toNat]:=aG (pC d);rw[<-g]at q;calc#[_,q,Qz d]
def GG (d:MC Nat):Txt.join "" (d.map λc=>(⟨#[c]⟩:AA))=⟨d.toArray⟩:=by
 show RQ.Str.glued (Qv "") _=_;rw[StrLaws.glued_eq_join];calc PyProof.Rows.join_ones d
def DS (l:MC Nat):((l.map λc=>(⟨#[c]⟩:AA)).map (·.length)).sum=⇑l:=by
 induction l with
 |nil=>rfl
 |cons c r ih=>rw[Qd,Qd,List.sum_cons,ih,Qn];show 1+_=_;omega
def Kx (d:MC Nat):⇑(⟨d.toArray⟩:AA)=⇑d:=by simp[WT]
def Mw (b:Bool)(z:AA):⇑(UM z (if b then 1 else 0))<=⇑z:=by
 cases b with
 |true=>simp[UM]
 |false=>simp[UM,WT,Qi]
end L2
namespace L2
open PySem
meta def cH(H:Hp)(f:AB):Prop:=∃p q:Int,H f=U (.Y [.int p,.int q])
meta def Ext(f:AB)(H d:Hp):Prop:=(∀b o,b≠f->H b=U o->d b=U o)/\cH d f
def Ext.refl (h:cH H f):Ext f H H:=#[λ_ _ _ e=>e,h]
def Ext.trans (a:Ext f H g)(b:Ext f g d):Ext f H d:=#[λc o n e=>b.1 c o n (a.1 c o n e),b.2]
def Ext.Z (a:Ext f H g)(s:aS g d):Ext f H d:=#[λc o n e=>s c o (a.1 c o n e),let⟨p,q,e⟩:=a.2;#[p,q,s f _ e]]
def ae (h:H p=gV)(o:HO):aS H (upd H p o):=λb u q=>by rw[aB (ay q h)];calc q
def cH.Z (h:cH H f)(s:aS H d):cH d f:=let⟨p,q,e⟩:=h;#[p,q,s f _ e]
def Ext.J (e:Ext f H g)(d:cH H f)(h:H a=U (.J xs)):g a=U (.J xs):=by
 calc e.1 a _ ?_ h;let(p,q,d):=d;calc jw h d (by intro z;cases z)
meta def cg:Sp:=λe H Q _=>∃(f:AB) (m:Int),e=[.ref f,.int m]/\0<m/\m<1073741824/\cH H f/\∀(r:Int) (d:Hp),0<=r->r<m->Ext f H d->Q (.int r) d
meta def DT(K:cB):Sp:=λg H Q _=>∃(a:AB) (e:MC Int) (k:Int),g=[.ref a,.int k]/\aV K H a (e.map V.int)/\⇑e<=63/\0<=k/\k<=100 /\
 ∀(r:AB) (d:Hp),aS H d->H r=gV->cH d r->Q (.ref r) d
def small (h:n<=1000):n<=my:=QB (bg h)
def Bg {ns:MC Int}(g:0<=k)(h:k<(⇑ns:Int)):∃v:Int,fM (ns.map V.int) k=U (.int v):=by
 let d:k.toNat<⇑ns:=()
 let e:k=((k.toNat:Nat):Int):=()
 let q:fM (ns.map V.int) ((k.toNat:Nat):Int)=U (.int ns[k.toNat]):=aG (by rw[EF,pC d]<;>rfl)
 rw[<-e]at q;calc#[_,q]
def mE {xs:List d}(j:0<=k)(h:k<(⇑xs:Int)):∃v:d,fM xs k=U v/\v∈xs:=by
 let e:k.toNat<⇑xs:=()
 let g:k=((k.toNat:Nat):Int):=()
 let q:fM xs ((k.toNat:Nat):Int)=U xs[k.toNat]:=aG (pC e);rw[<-g]at q;calc#[_,q,Qz e]
def Ext.kt (e:Ext f H g)(d:cH H f):Kt H g:=λa j r=>by
 let(p,q,d):=d;rcases r with h|⟨o,h⟩
 .exact .inl (e.1 a _ (jw h d (by intro z;cases z)) h)
 .exact .inr #[o,e.1 a _ (jw h d (by intro z;cases z)) h]
def Ext.Y (e:Ext f H d)(n:l≠f)(h:H l=U (.Y xs)):d l=U (.Y xs):=e.1 l _ n h
def Ext.new (e:Ext f H d)(h:d p=gV)(o:HO):Ext f H (L2.upd d p o):=e.Z (ae h o)
structure dh(P:L0) (w:Qe) (K:cB) (mg:AA->AF eT) (base:Heap) (x:AA) (k:Nat) (ps:List AA) (sp:Sp) (f:AB) (fd:PZ):Prop where
 ok:cD P w K mg base gy k f fd ps sp
 at':mg x=U (.ref f)
 kp:R3 K (.ref f)=AD
 bd:Binds K fd ps []
def qh {sp:Sp}(h:∀vs H Q E,¬sp vs H Q E):cD P w K mg base gy k f d ps sp :=
 #[λvs H Q E z=>(h vs H Q E z).elim,λ_ _ _ _ _ _ _ _ _ _ _ _ _ z=>(h _ _ _ _ z).elim]
open PySem.Spec PyProof.Rows
meta def tV(p:List AA×Tm):T:=.t [.t (p.1.map .s),enc p.2]
meta def right(d:Tm):MC (List AA×Tm):=(bnd d.hd ⇑d.ks).zip d.ks
def b9.Z {K:cB}(e:aS H d)(h:b9 K H a xs):b9 K d a xs:=h.kt (Kt.Z e)
def Rp.Z {K:cB}(e:aS H d)(h:Rp K H x v):Rp K d x v:=h.kt (Kt.Z e)
def bS.Z {K:cB}(e:aS H d)(h:bS K H x v):bS K d x v:=h.kt (Kt.Z e)
def Rp.new {K:cB}(d:H p=gV)(h:bS K H xs vs):Rp K (upd H p (.J vs)) (.t xs) (.ref p):=.t (.of aj) (h.Z (ae d _))
def yU {K:cB}{ps:MC Nat}{ks:MC T}(S:b9 K H0 a vs)(hr:bS K H0 D vs)(gD:b9 K H0 M (ps.map λ(j:Nat)=>V.int (j:Int)))(v:⇑ps<=1000)(N:ps.map (λ(j:Nat)=>D[j]?)=ks.map U)(k:∀(p:AB) (C:Hp) (L:MC V),aS H0 C->C p=U (.Y L)->bS K C (ks.map λk=>.t [.t [],k]) L->Q (.ref p) C):
  mU (A2 K M) (iZ 0) yQ (uS (kF (uS tL) (kF (BY (Gk K) (jD 1) (jD 0)) tL))) Q [gV,U (.ref a)] H0:=by
 refine je (xs:=ps.map λ(j:Nat)=>V.int (j:Int)) (λi u g m=>(∃x,u=[x,U (.ref a)])/\aS H0 m/\bS K m ((ks.take i).map λk=>.t [.t [],k]) g) #[#[gV,rfl],aS.refl _,.nil] ?_ (small (by rw[bM];calc v)) ?_ ?_ ?_
 .rintro i u g m hi ⟨_,_,r⟩;rw[⇑r,bM,I0];omega
 .rintro i u g m hi ⟨_,e,_⟩;exact gD.Z e
 .rintro i x u g m hx ⟨⟨W,rfl⟩,e,r⟩;rw[EF]at hx;let(j,R,rfl):=IF.mp hx
  let d:D[j]?=ks[i]?/\i<⇑ks:=by
   let z:=congrArg (λl=>l[i]?) N;simp only[EF,R,Sk]at z
   cases B:ks[i]? with
   |none=>rw[B]at z;cases z
   |some q=>rw[B]at z;exact#[Qw z,(eF.mp B).1]
  let(d,y):=d;rw[pC y]at d;let(w,O,G):=hr.get d;calc#[Qc _,λq I=>?_];let J:=e.trans (ae I (.J []));calc#[_,rfl,_,rfl,a,_,_,w,rfl,rfl,S.Z J,aG O,(by show 2<=my;decide),λt H=>?_];let B:=J.trans (ae H (.J [.ref q,w]));calc#[#[_,rfl],B,?_];rw[we y,i4];calc(r.Z (λb o h=>ae H _ b o (ae I _ b o h))).snoc (Rp.new H (.cons ?_ (.one (G.Z J))));exact Rp.new I .nil
 .rintro u g m ⟨_,e,r⟩ p hp
  let l:⇑(ps.map λ(j:Nat)=>V.int (j:Int))=⇑ks:=by
   let z:=congrArg Us N
   simpa using z
  rw[l,Ql]at r;calc k p _ g (e.trans (ae hp _)) aj (r.Z (ae hp _))
def Cb {K:cB}(J:b9 K H0 C vs)(hr:bS K H0 ks vs)(G:⇑ks<=1000)(k:∀(p:AB) (m:Hp) (B:MC V),aS H0 m->m p=U (.Y B)->bS K m (ks.map λk=>.t [.t [],k]) B->Q (.ref p) m):
  mU (A2 K C) (iZ 0) yQ (uS (kF (uS tL) (kF (jD 0) tL))) Q [gV] H0:=by
 let l:=⇑hr;refine je (xs:=vs) (λi j d g=>(∃x,j=[x])/\aS H0 g/\bS K g ((ks.take i).map λk=>.t [.t [],k]) d) #[#[gV,rfl],aS.refl _,.nil] ?_ (small ()) ?_ ?_ ?_
 .rintro i j d g hi ⟨_,_,r⟩;rw[⇑r,bM,I0];omega
 .rintro i j d g hi ⟨_,e,_⟩;exact J.Z e
 .rintro i x j d g hx ⟨⟨N,rfl⟩,e,r⟩;let(y,D,I):=hr.get' hx;let z:i<⇑ks:=(eF.mp D).1;let L:ks[i]=y:=(eF.mp D).2;calc#[Qc _,λq v=>?_];let H:=e.trans (ae v (.J []));calc#[_,rfl,(by show 2<=my;decide),λt u=>?_];let M:=H.trans (ae u (.J [.ref q,x]));calc#[#[_,rfl],M,?_];rw[we z,i4,L];calc(r.Z (λb o h=>ae u _ b o (ae v _ b o h))).snoc (Rp.new u (.cons ?_ (.one (I.Z H))));exact Rp.new v .nil
 .rintro j d g ⟨_,e,r⟩ p hp;rw[l,Ql]at r;calc k p _ d (e.trans (ae hp _)) aj (r.Z (ae hp _))
def Cc {K:cB}(O:⇑arms=⇑ks)(R:b9 K H0 C vs)(hr:bS K H0 (QE jF arms ks) vs)(G:⇑ks<=1000)(k:∀(p:AB) (o:Hp) (B:MC V),aS H0 o->o p=U (.Y B)->bS K o (QE (λa k=>.t [.t (a.2.map .s),k]) arms ks) B->Q (.ref p) o):
  mU (A2 K C) (Gb K 3 (tH (iZ 0) (tH (iZ 1) (tH (iZ 2) JM)))) yQ (uS (kF (jD 1) (kF (jD 2) tL))) Q [gV,gV,gV] H0:=by
 let l:=⇑hr;rw[Rq,O,S3]at l;refine je (xs:=vs) (λi m g j=>(∃x y z,m=[x,y,z])/\aS H0 j/\bS K j ((QE (λ(a:AA×List AA) k=>T.t [.t (a.2.map .s),k]) arms ks).take i) g) #[#[gV,gV,gV,rfl],aS.refl _,.nil] ?_ (small ()) ?_ ?_ ?_
 .rintro i m g j H ⟨_,_,r⟩;rw[⇑r,I0];omega
 .rintro i m g j H ⟨_,e,_⟩;exact R.Z e
 .rintro i x m g j hx ⟨⟨Z,Y,X,rfl⟩,e,r⟩;let(y,D,J):=hr.get' hx;let H:i<⇑vs:=(eF.mp hx).1;let v:i<⇑arms:=()
  let u:i<⇑ks:=()
  let N:i<⇑(QE (λ(a:AA×List AA) k=>T.t [.t (a.2.map .s),k]) arms ks):=by rw[Rq];omega
  rw[Tu,pC v,pC u]at D
  cases D
  let(M,L,rfl,I,d):=(show Rp K H0 (.t [_,_,_]) x from J).aT;let(t1,q1,rfl,h1,d):=d.inv;let(t2,q2,rfl,gD,d):=d.inv;let(t3,q3,rfl,S,d):=d.inv;obtain rfl:=d.gz;calc#[M,_,rfl,I.Z e,rfl,_,_,rfl,_,_,rfl,_,_,rfl,rfl,?_];calc#[_,rfl,_,rfl,(by show 2<=my;decide),λt q=>?_];let W:=e.trans (ae q (.J [t2,t3]));calc#[#[_,_,_,rfl],W,?_];rw[we N];calc(r.Z (ae q _)).snoc ?_;rw[List.getElem_zipWith];exact Rp.new q (.cons (gD.Z e) (.one (S.Z e)))
 .rintro m g j ⟨_,e,r⟩ p hp;rw[QO (by rw[Rq];omega)]at r;calc k p _ g (e.trans (ae hp _)) aj (r.Z (ae hp _))
theorem mV {d e:Type}(f:d->AF e)(g:d->e):∀(l:List d),(∀a∈l,f a=U (g a))->l.filterMap f=l.map g
 | [],_=>rfl
 |a::r,h=>by rw[RV,h a (.head _),Qd,mV f g r λb j=>h b (.tail _ j)]
def Cd {g:Type}(xs:List g):((Si ⇑xs).map λk=>⇑xs-1-k).filterMap (xs[·]?)=xs.reverse:=by
 cases xs with
 |nil=>rfl
 |cons x r =>
  rw[XW,mV _ (λk=>(x::r).reverse.getD k x)]
  .apply List.ext_getElem
   .simp
   .intro i l e;simp only[WD,List.getElem_range];simp at l;simp only[Rg];rw[pC e];rfl
  .intro k j;let d:=SG.mp j;show(x::r)[⇑(x::r)-1-k]?=_;let e:k<(x::r).reverse.length:=by simpa using d
   simp only[Rg];rw[pC e,Xm,pC ()];rfl
def Ce (n:Nat):VN (Rb gV gV (U (-1)) n).1 (Rb gV gV (U (-1)) n).2.1 (Rb gV gV (U (-1)) n).2.2=(Si n).map λk=>n-1-k:=by
 show VN ((n:Int) - 1) (-1) (-1)=_;unfold VN
 let c:(if(-1:Int)>0 then(if(n:Int) - 1 < -1 then(-1 - ((n:Int) - 1)+-1-1) / -1 else 0)else(if(n:Int) - 1 > -1 then((n:Int) - 1 - -1 - -1-1) / (- -1)else 0))=(n:Int):=by
  rw[if_neg ∅]
  split
  .rw[show(- -1:Int)=1 from rfl,Yb];omega
  .omega
 simp only[c,Rv];calc XA λk d=>?_;let:=SG.mp d;omega
def yV (xs:MC V):vK xs gV gV (U (-1))=xs.reverse:=by
 rw[Gy (Ce ⇑xs)];calc Cd xs
meta def Mx(d:Rt)(y:AA):Bool:=(d.names.lookup y == U .local||d.names.lookup y == U .cell||d.names.lookup y == U .free)&&!(y == ("__debug__":AA))&&!(y == ("__classdict__":AA))
abbrev Nm(N:List AA)(d:Rt):Prop:=N.all (Mx d)=AD
meta def My(d:Rt)(y:AA):Bool:=d.names.lookup y == U .local||d.names.lookup y == U .cell
abbrev Lm(N:List AA)(d:Rt):Prop:=N.all (My d)=AD
def Nm.get (h:Nm N d){i:Nat}(e:N[i]?=U x):LV d x/\(x == ("__debug__":AA))=AE/\(x == ("__classdict__":AA))=AE:=by
 let z:=QY.mp h x (P6 e);unfold Mx at z;simp only[QJ,Sm,Bool.not_eq_true']at z;let((z1,j),g):=z;calc#[?_,j,g];rcases z1 with(z1|z1)|z1
 .exact Or.inl (Sd z1)
 .exact Or.inr (Or.inl (Sd z1))
 .exact Or.inr (Or.inr (Sd z1))
def Lm.get (h:Lm N d){i:Nat}(e:N[i]?=U x):Loc d x:=by
 let z:=QY.mp h x (P6 e);unfold My at z;simp only[Sm]at z;rcases z with z|z
 .exact Or.inl (Sd z)
 .exact Or.inr (Sd z)
def va (h:Nm X.N X.env.scope)(i:Nat)(d:X.N[i]?=U x:=by rfl):PE X (.Name x pos) (jD i):=Dm d (h.get d).1 (h.get d).2.1 (h.get d).2.2
def sa {x:AA}{e:Expr}{g:TE}{pos d:Pos}(l:X.N.Nodup)(h:Lm X.N X.env.scope)(i:Nat)(j:PE X e g)(hi:X.N[i]?=U x:=by rfl)(hs:U6 e (U (.Name x d)) pos.line X.env=pure AE:=by kernel_rfl)(hf:X.fn x=AD\/X.env.scope.names.lookup x=U .local:=by calc .inl rfl):PS X (.Assign [.Name x d] e pos) (wI g (iZ i)):=lZ l hi (h.get hi) j hs hf
def ga (e:X.N.Nodup)(h:Lm X.N X.env.scope)(i:Nat)(hi:X.N[i]?=U x:=by rfl)(d:X.fn x=AD\/X.env.scope.names.lookup x=U .local:=by first|calc .inl rfl|calc .inr (by kernel_rfl)):PG X (.Name x pos) (iZ i):=lY e hi (h.get hi) d
def GH {T:TT}{V:TE}(own:List AA)(fr:MC Nat)(hc:X.calm=AD)(hkind:scope.kind=.function)(hcell:∀x∈scope.names,x.2≠.cell)(hnames:∀x∈scope.names,x.2=.local->scope.names.lookup x.1=U .local)(hfr:∀x∈scope.names,x.2=.free->X.env.scope.names.lookup x.1=U .cell\/X.env.scope.names.lookup x.1=U .free)(hin:∀j∈fr,scope.names.lookup (X.N.getD j Qi)=U .free)(hi:PI X tg iter S)(hg:∀u C s H,PG (bD X scope (own++fr.map λj=>X.N.getD j Qi) u C s H) tg g)(ht:∀u C s H,tQ (bD X scope (own++fr.map λj=>X.N.getD j Qi) u C s H) r T)(he:∀u C s H,PE (bD X scope (own++fr.map λj=>X.N.getD j Qi) u C s H) t V)(hgg:PG X (.Name y d) Z)(hsw:U6 (.ListComp t [#[tg,iter,r,0]] scope pos) (U (.Name y d)) m.line X.env=pure AD)(hs:∀x,QN iter X.env x=pure x:=by intro _;rfl):PS X (.Assign [.Name y d] (.ListComp t [#[tg,iter,r,0]] scope pos) m) (wI (vJ ⇑own fr S g T V) Z):=by
 intro l s J H D0 I h;rw[exec_Assign_Name_used _ _ _ _ hsw,arm_evalThenUse_ListComp];calc bN (Ry (bN (bN ?_)));calc cQ (yR (gD:=U (VB (.Name y d) X.env)) (R:=λ_ s'=>SP X l D0 .next s') own fr hc hkind hcell hnames hfr hin hi hg ht he hs I h λ{u C s2 s4 H2 H3 σ3 vs ys pn pl} I2 f2 J4 hCle hDC dn3 e4 rv hz q=>?_) λ_ _ q=>rz (rz q);let(m4,M,_):=id J4.loc;let(G,es,ep,eC,dC,kC,fC):=M;let I4:Inv X l J (upd H3 s2⁻¹ (.Y vs)) s4:=tS (h'':=s4.heap) I2 f2 J4 hCle (u4 _) hDC dn3 #[_,e4] rv hz #[rfl,λ_ _=>rfl];let cL:C≠X.env.locals:=λz=>absurd I2.lt (by rw[<-z];calc XY.mpr hCle)
 let I5:Inv X (l++[(C,G)]) J (upd H3 s2⁻¹ (.Y vs)) s4:=I4.fJ λp D=>by
  rcases zv.mp D with z|z
  .exact I4.pin p (xn _ z)
  .have z:p=(C,G):=by simpa using z
   subst z;exact#[eC,by rw[aB hDC.symm];exact J4.free,cL,I2.FY hCle,λv Q=>by rw[dC]at Q;cases Q]
 show PY _ _ (VB (.Name y d) X.env (.ref s2⁻¹)) _ _ _;calc cQ (hgg _ s4 J _ (.ref s2⁻¹) _ _ I5 rfl q) λ_ W ⟨B,H5,O,q6⟩=>?_;let Y:=O.pin (C,G) (xn _ (xn _ (by simp)));calc#[m4,#[G,es,ep,Y.1,dC,kC,fC],λh' L=>?_];let I7:Inv X l B H5 W:=O.fJ λp D=>O.pin p (xn _ (Qx _ D));refine#[B,H5,I7.turned (t':=W.toks) (it:=C) (λb o hb e=>(L.2 b hb).trans e) Y.2.1 cL (.inr (Qq I2.sz hCle)) (λx c e z=>?_) (λp D z=>?_),q6]
 .have(_,o,ho,_):=I2.cell x c e;exact absurd (P0 ho) (by rw[z];calc XY.mpr hCle)
 .exact absurd (P0 (I2.pin p D).1) (by rw[z];calc XY.mpr hCle)
def nF {y:AA}{d l:Pos}{I:TG}{o iter tg:Expr}{m:MC Expr}{scope:Rt}{pos:Pos}{v:TI}{g:TG}{B:TT}{D:TE}(G:Rt)(r own:List AA)(fr:MC Nat)(O:X.calm=AD)(u:X.env.scope=G)(Q:X.N=r)(ok:nC scope G r fr=AD)(hi:PI X tg iter v)(hg:∀q C s H,PG (bD X scope (own++fr.map λj=>r.getD j Qi) q C s H) tg g)(ht:∀q C s H,tQ (bD X scope (own++fr.map λj=>r.getD j Qi) q C s H) m B)(he:∀q C s H,PE (bD X scope (own++fr.map λj=>r.getD j Qi) q C s H) o D)(hgg:PG X (.Name y d) I)(hsw:U6 (.ListComp o [#[tg,iter,m,0]] scope pos) (U (.Name y d)) l.line X.env=pure AD:=by kernel_rfl)(hs:∀x,QN iter X.env x=pure x:=by intro _;rfl):PS X (.Assign [.Name y d] (.ListComp o [#[tg,iter,m,0]] scope pos) l) (wI (vJ ⇑own fr v g B D) I):=by
 subst u Q;unfold nC at ok;simp only[QJ,QY,bne_iff_ne,beq_iff_eq,Sm]at ok;let((L,t),J):=ok;refine GH own fr O L (λx p=>(t x p).1.1) (λx p e=>?_) (λx p e=>?_) (λj M=>J j M) hi hg ht he hgg hsw hs
 .rcases(t x p).1.2 with z|z
  .exact absurd e z
  .exact z
 .rcases(t x p).2 with(z|z)|z
  .exact absurd e z
  .exact .inl z
  .exact .inr z
def uW {TI TO T:AB}(L:A.handled=gV)(D:UL z TI TO m l l1 l2)(hz:wR s.heap z TI TO T q)(hT:s.heap.get? T=U J)(hTI:R5 s.heap TI (.ref m) (.ref l))(h1:s.heap.IsListIter m l1 B)(h2:s.heap.IsListIter l l2 y)(hl1:s.heap.IsList l1 xs)(hl2:s.heap.IsList l2 ys)(hx:xs[B]?=U x)(hy:ys[y]?=gV)(hQ:∀h',(∀c o,c≠z->c≠m->c≠l->s.heap.get? c=U o->h'.get? c=U o)->Q gV {s with heap:=h'}):
  PY (P9 prog w) A (SR (.ref z)) Q E s:=by
 let p:s.TypeIs (.ref z) "zip":=#[_,hz,rfl];unfold SR
 refine bN (SA (QX (name:=Qv "__next__") p Q0
  (Rm Q0 p Su ?_ (Se _))))
 show PY _ _ (WB (.ref z) 2>>=_) _ _ _;calc bN (QC hz rfl (x:=.bool AE) rfl ?_);show PY _ _ (WB (.ref z) 3>>=_) _ _ _;calc bN (QC hz rfl (x:=.ref TI) rfl ?_);calc bN (Rh hTI rfl ?_);show PY _ _ (QA (.ref z)>>=_) _ _ _;calc bN (qU hz hT λH r d=>?_);simp only[Ra,if_false];calc bN ?_;simp only[<-VM,Sl,SK];calc bN (bN (QG ?_));show PY _ _ (Qt (.ref m)>>=_) _ _ _;calc bN (Tj (h1.extBut d.extBut D.i1z) (hl1.extBut d.extBut D.l1z) hx λG v g=>rz (rz ?_));dsimp only;calc bN (bN (QG ?_));show PY _ _ (Qt (.ref l)>>=_) _ _ _;calc bN (UX L ((h2.extBut d.extBut D.i2z).extBut g.extBut D.i12.symm) ((hl2.extBut d.extBut D.l2z).extBut g.extBut D.l2i1) hy λC e j M=>?_);let(I,t,u):=M;calc bN (R6 (T:="StopIteration") (b:=AD) #[I,t,u] Xl ?_);calc rz (hQ _ λc o S R O N=>j _ _ O (g.extBut _ _ R (d.extBut _ _ S N)))
def vN :entryFor table "dict.update.loop"=U RQ.«dict.update.loop»:=by kernel_rfl
def nZ :plainId "dict.update.loop"=AD:=by kernel_rfl
def rV :isSubtype (.type "AttributeError") (.type "AttributeError")=pure AD:=by kernel_rfl
def mZ (I:Nat->fy->Prop)(turn:∀n s,I n s->PY (P9 prog w) A (SR it) (λr o=>match r with
   |none=>R (.ok .next) o
   |some v=>PY (P9 prog w) A (RY d it v) (λ_ l=>PY (P9 prog w) A (VB d g v) (λ_ u =>
     PY (P9 prog w) A (forIn C AD λc r=>if r=AD then do let ok ←isTrue c g (eval c g);pure (ForInStep.yield ok)else pure (ForInStep.yield r)) (λok j =>
      if ok=AD then PY (P9 prog w) A (eval O g) (λx t=>PY (P9 prog w) A (eval N g) (λy q =>
       PY (P9 prog w) A (dictSet D x y) (λ_ p=>∃m,m<n/\I m p) E q) E t) E j
      else ∃m,m<n/\I m j) E u) E l) E o) E s)(hE:∀e s',E e s'->notedBy (P9 prog w) A g (λe s'=>R (.error e) s') e s')(n:Nat)(h:I n s):
  RS (P9 prog w) A (.compLoop (.DictComp O N [#[d,iter,C,0]] scope pos) 0 it (.ref D) g) R s:=by
 calc WX rfl I (λn s Q=>?_) n h;show PY _ A ((Xj (.DictComp O N [#[d,iter,C,0]] scope pos) 0 it (.ref D) g).onRaise (λx=>do Xx x g;theTreesLotGoes x)) _ _ s;calc Xk ?_;rw[compTurn_dict];refine bN (Ry (bN (Qu (turn n s Q) (λr o B=>?_) hE)))
 cases r with
 |none=>calc rz B
 |some v =>
  calc bN (Qu B (λ_ l G=>?_) hE);refine bN (Qu G (λ_ u M=>bN (Qu M (λok j z=>?_) hE)) hE)
  cases ok with
  |false=>calc rz #[rfl,z]
  |true =>
   calc bN (bN (Qu z (λx t L=>bN (QG (Qu L (λy q J=>bN (Ry (QG (Qu J (λ_ p H=>rz #[rfl,H]) hE)))) hE))) hE))
def yW (I:Inv X pins σ H s)(y:∀b∈t,pR X pins H b)(I':Inv (bD X scope Q t C s H) j σ' p s')(hC:s⁻¹<=C)(hD:s⁻¹<=D)(hDC:D≠C)(hDn:p D=gV)(pl:s'.heap.DictOf (aW X.prog X.w) D rs)(rv:KV kvs rs)(hz:⇑kvs<=my)(hs:R9 C s'.heap h''):
  Inv X pins σ (upd p D (.dK kvs)) {s' with heap:=h''}:=by
 let un:Un (frs X.stack) t H p s.heap s'.heap:=I'.base;let r:p C=gV:=I'.free;let at':∀b,b≠C->h''.get? b=s'.heap.get? b:=λb g=>hs.2 b g;let l:∀b o,s.heap.get? b=U o->b≠C:=λb o e=>Qs (P8 (P0 e) hC);let G:∀b o,s.heap.get? b=U o->b≠D:=λb o e=>Qs (P8 (P0 e) hD);let d:∀b u,H b=U u->b≠D:=λb u e=>Qs (P8 (I.hok.lt e) hD)
 let B:Un (frs X.stack) t H (upd p D (.dK kvs)) s.heap h'':=by
  refine#[λb o e n L m=>?_,λb o e n L m=>?_,λb o e n m=>?_,λb o e m=>?_,λb M e=>?_,λb o u e=>?_,λb N e=>?_]
  .rw[at' b (l b o e)];exact un.keep b o e n L m
  .rw[at' b (l b o e)];exact un.slot b o e n L m
  .rw[aB (G b o e)];exact un.free b o e n m
  .rw[at' b (l b o e)];exact un.there b o e m
  .rw[aB (d b _ e)];exact un.tups b M e
  .rw[aB (d b _ e)];exact un.frzs b o u e
  .rw[aB (d b _ e)];exact un.tbls b N e
 let J:nh X.prog X.w (upd p D (.dK kvs)) h'':=λb u e=>by
  by_cases g:b=D
  .subst g;rw[aj]at e
   cases e
   exact#[hz,beq_eq_false_iff_ne.mpr (RP (Qs (P8 I.big hD))),rs,rv,pl.at λo e=>by rw[at' b hDC];calc e]
  .rw[aB g]at e;refine(I'.hok b u e).stay (λc v O q=>?_) (λc q=>?_) λc M q=>?_
   .rw[at' c ?_];calc q;rintro rfl;rcases O with z|z
    .rw[<-z,r]at e;cases e
    .rw[r]at z;cases z
   .rw[aB (λz=>by rw[z,hDn]at q;cases q)];exact q
   .rw[aB (λz=>by rw[z,hDn]at q;cases q)];exact q
 calc I.Jc (s':={s' with heap:=h''}) (ch:=t) I'.os B J I'.bare λb g=>#[(y b g).2.2.2.1,(y b g).2.1,(y b g).2.2.2.2.1,(y b g).2.2.2.2.2]
meta def wX(J:It)(g:TG)(B:TT)(C z:TE)(Q:VK)(r:St)(L:Hp):Prop:=∃W:Nat->Nat->St->MC (Key×V)->Hp->Prop,(∃m,W 0 m r [] L)/\∀i m j e H,W i m j e H ->
 (J.stop i H/\⇑e<=my/\∀p,H p=gV->Q (.ref p) (upd H p (.dK e))) \/
 (J.go i H/\⇑e<my/\∃N:St->MC (Key×V)->Hp->Prop,(∀d l q,N d l q->∃t,t < m/\W (i+1) t d l q)/\∀x y,J.yld i H x y->g x j y λd q=>B d q λok u =>
  if ok=AD then C d u λD I=>z d I λv G=>∃o,D=kV o/\N d (putK e o v) G else N d e u)
meta def DU(own:Nat)(fr:MC Nat)(e:TI)(g:TG)(l:TT)(m j:TE):TE:=λd H Q=>e d H λJ o=>wX J g l m j Q (jb own fr d) o
def GI {W:Nat->Nat->St->MC (Key×V)->Hp->Prop}{Q:MC (Key×V)->Hp->Prop}(hc:Y.calm=AD)(hx:∀e s,¬Y.xe e s)(hg:PG Y tg g)(ht:tQ Y ag tt)(hk:PE Y kx tk)(he:PE Y vx tv)(T:Turn Y.prog Y.w Y.K tg J fp it tn)(d:Ku Y D fp)(I:Inv Y [] σ H s)(st:tn 0 s.heap)(fn:∀b∈fp,H b=gV)(dn:H D=gV)(dd:s.heap.DictOf (aW Y.prog Y.w) D [])(w0:W 0 m σ [] H)(turn:∀i m σ' kvs H,W i m σ' kvs H->(J.stop i H/\⇑kvs<=my/\Q kvs H) \/
   (J.go i H/\⇑kvs<my/\∃N:St->MC (Key×V)->Hp->Prop,(∀j ae H2,N j ae H2->∃m',m' < m/\W (i+1) m' j ae H2)/\∀x H',J.yld i H x H'->g x σ' H' λj H2=>tt j H2 λok H3 =>
    if ok=AD then tk j H3 λkv H4=>tv j H4 λv H5=>∃key,kv=kV key/\N j (putK kvs key v) H5 else N j kvs H3))(fin:∀{σ:St}{H:Hp}{s:fy}{pl:MC (AB×Obj)}{kvs:MC (Key×V)}{rs:MC (Key×eT)},Inv Y pl σ H s->H D=gV->s.heap.DictOf (aW Y.prog Y.w) D rs->KV kvs rs->⇑kvs<=my->Q kvs H->R (.ok .next) s):
  RS (P9 Y.prog Y.w) Y.A (.compLoop (.DictComp kx vx [#[tg,iter,ag,0]] scope pos) 0 (.ref it) (.ref D) Y.env) R s:=by
 refine mZ (E:=Y.xe) (λn s'=>∃i σ' H' kvs rs,Inv Y [] σ' H' s'/\tn i s'.heap/\(∀b∈fp,H' b=gV)/\H' D=gV/\s'.heap.DictOf (aW Y.prog Y.w) D rs/\KV kvs rs/\W i n σ' kvs H')
  ?_ (λe s z=>(hx e s z).elim) m #[0,σ,H,[],[],I,st,fn,dn,dd,.nil,w0]
 rintro n s3 ⟨i,B,H3,kvs,rs,J3,af,ah,ai,as,rv,w3⟩;let(C,ab,ac,ao,aa,L,Z,S,gD):=id as;let al:Inv Y [(D,C)] B H3 s3:=d.pin (pl:=[]) J3 ai ao λv z=>by rw[L]at z;cases z
 let l:∀p∈[(D,C)],p.1=D:=λp hp=>by
  let e':p=(D,C):=by simpa using hp
  rw[e']
 rcases turn i n B kvs H3 w3 with⟨stop,hz,q⟩|⟨go,hz,N,hN,step⟩
 .refine cQ (T.done Y rfl rfl rfl hc i _ s3 B H3 Y.xe al (d.stat ah l) af stop) λr s4 ⟨hr,J4⟩=>?_;subst hr;exact fin J4 ai #[C,ab,ac,(J4.pin (D,C) (xn _ (by simp))).1,aa,L,Z,S,gD] rv hz q
 .refine cQ (T.item Y rfl rfl rfl hc i _ s3 B H3 Y.xe al (d.stat ah l) af go) λr s4 ⟨u,hr,h4⟩=>?_;subst hr;calc cQ h4 λ_ s5 ⟨x,H5,J5,r5,y5,O,ar⟩=>?_;let aw:=J5.pinned (d.stat ar l) (T.obj _ _ O);calc cQ (hg _ s5 B H5 x u _ aw r5 (step x H5 y5)) λ_ s6 ⟨t,H6,J6,q6⟩=>?_;refine cQ (ht _ s6 t H6 _ J6 q6) λok s7 ⟨H7,J7,q7⟩=>?_
  let after:∀{s8:fy}{H8:Hp},Inv Y ([(D,C)]++oZ fp s5.heap) t H8 s8->tn (i+1) s8.heap/\(∀b∈fp,H8 b=gV)/\H8 D=gV/\s8.heap.get? D=U C:=λ{s8 H8} J8=>by
   refine#[T.keep _ _ _ O λb M o e=>(J8.pin (b,o) (xn _ (xn _ (fB M e)))).1,λb M=>?_,?_,?_]
   .have(o,e,d):=T.obj _ _ O b M;exact(J8.pin (b,o) (xn _ (xn _ (fB M e)))).2.1
   .exact(J8.pin (D,C) (xn _ (Qx _ (by simp)))).2.1
   .exact(J8.pin (D,C) (xn _ (Qx _ (by simp)))).1
  cases ok with
  |false =>
   let(m',hm,w7):=hN _ _ _ q7;let(a1,a2,a3,a4):=after J7;calc#[m',hm,i+1,t,H7,kvs,rs,J7.fJ (λp hp=>absurd hp (by simp)),a1,a2,a3,#[C,ab,ac,a4,aa,L,Z,S,gD],rv,w7]
  |true =>
   calc cQ (hk _ s7 t H7 _ J7 q7) λx am ⟨az,ax,av,an,ap⟩=>?_;calc cQ (he _ am t ax _ av ap) λy s8 ⟨v8,H8,J8,r8,n8⟩=>?_;let(key,rfl,n8):=n8;let(m',hm,w8):=hN _ _ _ n8;let(a1,a2,a3,a4):=after J8;let aq:⇑rs<=my:=by let:=KV.length rv;omega
   refine Vv (qc an) (#[C,ab,ac,a4,aa,L,Z,S,gD]:s8.heap.DictOf (aW Y.prog Y.w) D rs) (λay ad G=>?_) aq
   calc#[m',hm,i+1,t,H8,putK kvs key v8,YH rs key y,d.put (J8.fJ λp hp=>absurd hp (by simp)) (λb o M e=>by rw[G.2 b M];calc e) a3 (λp hp=>absurd hp (by simp)),
    T.keep _ _ _ a1 λb M o e=>(G.2 b (λz=>d.out (z▸M))).trans e,a2,a3,ad,rv.put key r8,w8]
def vO {cs}(own:List AA)(fr:MC Nat)(hkind:scope.kind=.function)(hcell:∀x∈scope.names,x.2≠.cell)(hnames:∀x∈scope.names,x.2=.local->scope.names.lookup x.1=U .local)(hfr:∀x∈scope.names,x.2=.free->X.env.scope.names.lookup x.1=U .cell\/X.env.scope.names.lookup x.1=U .free)(hin:∀j∈fr,scope.names.lookup (X.N.getD j Qi)=U .free)(hi:PI X tg iter wi)(hs:∀x,QN iter X.env x=pure x)(I:Inv X pins D H s)(h:wi D H Z)(lp:∀{it:AB}{m:List AB}{tn:Nat->Heap->Prop}{J:It}{d s':fy}{r:Hp}{C:AB}{R:Uh->fy->Prop},Turn X.prog X.w X.K tg J m it tn->Z J r->Ku (bD X scope (own++fr.map λj=>X.N.getD j Qi) m C d r) d⁻¹ m->Inv (bD X scope (own++fr.map λj=>X.N.getD j Qi) m C d r) [] (jb ⇑own fr D) r s'->tn 0 s'.heap->(∀b∈m,r b=gV)->r d⁻¹=gV->s'.heap.DictOf (aW X.prog X.w) d⁻¹ [] ->
   (∀{D:St}{H:Hp}{s:fy}{pl:MC (AB×Obj)}{kvs:MC (Key×V)}{rs:MC (Key×eT)},Inv (bD X scope (own++fr.map λj=>X.N.getD j Qi) m C d r) pl D H s->H d⁻¹=gV->s.heap.DictOf (aW X.prog X.w) d⁻¹ rs->KV kvs rs->⇑kvs<=my->(∀p,H p=gV->Q (.ref p) (upd H p (.dK kvs)))->R (.ok .next) s) ->
   RS (P9 (bD X scope (own++fr.map λj=>X.N.getD j Qi) m C d r).prog (bD X scope (own++fr.map λj=>X.N.getD j Qi) m C d r).w) (bD X scope (own++fr.map λj=>X.N.getD j Qi) m C d r).A (.compLoop (.DictComp kx vx (#[tg,iter,aa,0]::cs) scope pos) 0 (.ref it) (.ref d⁻¹) (bD X scope (own++fr.map λj=>X.N.getD j Qi) m C d r).env) R s'):
  PY (P9 X.prog X.w) X.A (eval (.DictComp kx vx (#[tg,iter,aa,0]::cs) scope pos) X.env) (EP X pins D Q) X.xe s:=by
 rw[arm_eval_DictComp];let u:∀x∈scope.names,x.2=.free->∃c,X.env.cells.lookup x.1=U c:=λx hx e=>I.ok.has x.1 (hfr x hx e);calc Wl (use:=gV) rfl hs (oV u) hkind hnames ?_;calc cQ (hi pins s D H _ I h) λv s1 h1=>cQ h1 λam d h2=>?_;let(it,m,tn,J,r,e,S,T,W,f2,z2):=h2;subst e;let ac:∀b∈m,b<d⁻¹:=λb B=>by let(o,e,_):=T.obj 0 _ W b B;exact P0 e
 calc QW (wpAny_newFunctionEnv hcell (by intro y hy;simp at hy) (λt l g=>?_) hkind);dsimp only at l g|-;generalize hH2:d.heap.push {cls:=.type "dict",dict:=gV,data:=.dict #[]}=G2 at l g|-;let hC:G2.objs.size=d⁻¹+1:=by rw[<-hH2,Q6]
 let G:d⁻¹≠G2.objs.size:=by rw[hC];exact Qs (S8 _)
 let M:d⁻¹<=G2.objs.size:=by rw[hC];exact QT _
 let Y:∀b o,d.heap.get? b=U o->t.get? b=U o:=λb o e=>g.extBut b o (by rw[hC];calc Qs (V9 (P0 e))) (u5 _ (hH2▸u5 _ e));let ad:t.DictOf (aW X.prog X.w) d⁻¹ []:=(hH2▸W5 (knd:=aW X.prog X.w) d.heap:G2.DictOf (aW X.prog X.w) d⁻¹ []).at λo e=>g.extBut _ _ G (u5 _ e)
 let I3:Inv (bD X scope (own++fr.map λj=>X.N.getD j Qi) m G2.objs.size d r) [] (jb ⇑own fr D) r {d with heap:=t,toks:=d.toks+⇑([]:MC (AA×eT))} :=
  tR S hkind hcell hfr hin M f2 ac Y l
 let gD:tn 0 t:=T.keep 0 _ _ W λb _ o e=>Y b o e;let af:d⁻¹∉m:=λhm=>Q8 _ (ac _ hm);let ae:r d⁻¹=gV:=S.hok.fresh (u4 _);let sub:∀y c,(eA X.env scope.names []).lookup y=U c->X.env.cells.lookup y=U c:=jX _ _ u (by intro y c e;simp at e)
 let O:∀y c,(eA X.env scope.names []).lookup y=U c->c≠d⁻¹:=λy c e=>by
  let(_,o,ho,_):=S.cell y c (sub y c e);exact Qs (P0 ho)
 let al:d⁻¹∉frs X.stack:=λz=>by
  rcases P1.mp (S.tF _ z)with e|e
  .exact absurd S.lt (by rw[<-e];calc Q8 _)
  .exact S.FY (u4 _) e
 let dI:Ku (bD X scope (own++fr.map λj=>X.N.getD j Qi) m G2.objs.size d r) d⁻¹ m:=#[λ{H' pl} hn hp b B=>by
  calc#[hn b B,(I3.ok.exf b B).1,I3.ok.exfs b B,.inl B,(I3.ok.exf b B).2,λp ah z=>?_];let ab:p∈pl:=by simpa[bD]using ah
  exact af (by rw[<-hp p ab,z];calc B),λ{σ' H' s' o pl} J hn e hcl=>J.fJ λp hp=>by
  rcases zv.mp hp with hp|hp
  rotate_left
  .exact J.pin p (xn _ hp)
  let e':p=(d⁻¹,o):=by simpa using hp
  subst e';exact#[e,hn,G,al,hcl],
  λ{σ' H' s' h' t' pl} J k hn hp=>J.turned (it:=d⁻¹) k hn G (.inr (u4 _)) O (λp q=>hp p (by simpa[bD]using q)),af]
 let L:=lp (R:=compPost (P9 X.prog X.w) X.A X.xe gV (EP X pins D Q) (.ref d⁻¹) G2.objs.size) T z2 dI I3 gD (λb B=>(f2 b B).1) ae ad λ{σ3 H3 s4 pl kvs rs} J4 dn3 dd rv hz q=>by
  let(m4,ai,_):=id J4.loc;exact#[m4,ai,λh' ag=>#[.ref d⁻¹,_,yW S f2 J4 M (u4 _) G dn3 dd rv hz ag,rfl,q _ dn3]]
 calc codeAny_compStart_dict L (T.self X.A 0 _ _ _ gD L)
def DV (own:List AA)(fr:MC Nat)(v:X.calm=AD)(hkind:scope.kind=.function)(hcell:∀x∈scope.names,x.2≠.cell)(hnames:∀x∈scope.names,x.2=.local->scope.names.lookup x.1=U .local)(hfr:∀x∈scope.names,x.2=.free->X.env.scope.names.lookup x.1=U .cell\/X.env.scope.names.lookup x.1=U .free)(hin:∀j∈fr,scope.names.lookup (X.N.getD j Qi)=U .free)(hi:PI X tg iter m)(hg:∀e C s H,PG (bD X scope (own++fr.map λj=>X.N.getD j Qi) e C s H) tg g)(ht:∀e C s H,tQ (bD X scope (own++fr.map λj=>X.N.getD j Qi) e C s H) l q)(hk:∀e C s H,PE (bD X scope (own++fr.map λj=>X.N.getD j Qi) e C s H) u r)(he:∀e C s H,PE (bD X scope (own++fr.map λj=>X.N.getD j Qi) e C s H) o p)(hs:∀x,QN iter X.env x=pure x:=by intro _;rfl):PE X (.DictComp u o [#[tg,iter,l,0]] scope pos) (DU ⇑own fr m g q r p):=by
 intro t s y H Q I h
 exact vO own fr hkind hcell hnames hfr hin hi hs I h λ{it e tn J s2 s' H2 C R} T ⟨W,⟨m0,w0⟩,turn⟩ d I3 st f2 dn dd fin =>
  GI v (λ_ _ z=>z) (hg _ _ _ _) (ht _ _ _ _) (hk _ _ _ _) (he _ _ _ _) T d I3 st f2 dn dd w0 turn fin
def qW {D t iter tg:Expr}{m:MC Expr}{scope:Rt}{pos:Pos}{r:TI}{g:TG}{v:TT}{y u:TE}(B:Rt)(l own:List AA)(fr:MC Nat)(L:X.calm=AD)(q:X.env.scope=B)(M:X.N=l)(ok:nC scope B l fr=AD)(hi:PI X tg iter r)(hg:∀d C s H,PG (bD X scope (own++fr.map λj=>l.getD j Qi) d C s H) tg g)(ht:∀d C s H,tQ (bD X scope (own++fr.map λj=>l.getD j Qi) d C s H) m v)(hk:∀d C s H,PE (bD X scope (own++fr.map λj=>l.getD j Qi) d C s H) D y)(he:∀d C s H,PE (bD X scope (own++fr.map λj=>l.getD j Qi) d C s H) t u)(hs:∀x,QN iter X.env x=pure x:=by intro _;rfl):PE X (.DictComp D t [#[tg,iter,m,0]] scope pos) (DU ⇑own fr r g v y u):=by
 subst q M;unfold nC at ok;simp only[QJ,QY,bne_iff_ne,beq_iff_eq,Sm]at ok;let((I,p),G):=ok;refine DV own fr L I (λx o=>(p x o).1.1) (λx o e=>?_) (λx o e=>?_) (λj J=>G j J) hi hg ht hk he hs
 .rcases(p x o).1.2 with z|z
  .exact absurd e z
  .exact z
 .rcases(p x o).2 with(z|z)|z
  .exact absurd e z
  .exact .inl z
  .exact .inr z
def yX (n:Nat)(l:Nat->St->MC (Key×V)->Hp->Prop)(L:l 0 σ0 [] H0)(r:∀i d kvs H,i<=n->l i d kvs H->⇑kvs<=i)(hn:n<=my)(z:∀i d kvs H,i<n->l i d kvs H->J.go i H)(u:∀d kvs H,l n d kvs H->J.stop n H)(hs:∀i d kvs H x t,i<n->l i d kvs H->J.yld i H x t->g x d t λj C=>tt j C λok B=>if ok=AD then tk j B λG N=>tv j N λv M=>∃key,G=kV key/\l (i+1) j (putK kvs key v) M else l (i+1) j kvs B)(hd:∀d kvs H,l n d kvs H->∀p,H p=gV->Q (.ref p) (upd H p (.dK kvs))):wX J g tt tk tv Q σ0 H0:=by
 calc#[λi m d kvs H=>m=n-i/\i<=n/\l i d kvs H,#[n,by simp,Qc _,L],?_];rintro i m d kvs H ⟨rfl,I,p⟩;let O:=r i d kvs H I p
 by_cases o:i<n
 .exact .inr #[z i d kvs H o p,(),l (i+1),λj D C q=>#[n - (i+1),(),rfl,o,q],λx t y=>hs i d kvs H x t o p y]
 .have e:i=n:=()
  subst e;calc .inl #[u d kvs H p,(),hd d kvs H p]
def Cf {K:cB}(j:Nat->St->MC (Key×V)->Hp->Prop)(u:j 0 σ0 [] H0)(m:∀i d kvs H,i<=⇑xs->j i d kvs H->⇑kvs<=i)(hn:⇑xs<=my)(q:∀i d kvs H,i<=⇑xs->j i d kvs H->b9 K H a xs)(hs:∀i x d kvs H,xs[i]?=U x->j i d kvs H->g x d H λe C=>tt e C λok r=>if ok=AD then tk e r λt B=>tv e B λv z=>∃key,t=kV key/\j (i+1) e (putK kvs key v) z else j (i+1) e kvs r)(hd:∀d kvs H,j ⇑xs d kvs H->∀p,H p=gV->Q (.ref p) (upd H p (.dK kvs))):wX (A2 K a) g tt tk tv Q σ0 H0:=by
 calc yX ⇑xs j u m hn (λi d l H o p=>#[xs,xs[i],q i d l H (QB o) p,by simp[o]]) (λd l H p=>#[xs,q _ d l H (u4 _) p,u4 _]) (λi d l H x D o p y=>?_) hd;let(rfl,y):=y;calc hs i x d l _ (y xs (q i d l _ (QB o) p)) p
end L2
namespace L2
open PySem
def Rp.t1 (h:Rp K H (.t [x]) v):∃a u,v=.ref a/\b9 K H a [u]/\Rp K H x u:=by
 let(a,e,rfl,d,r):=h.aT;let(u,q,rfl,g,r2):=r.inv;obtain rfl:=r2.gz;calc#[a,u,rfl,d,g]
def Rp.t2 (h:Rp K H (.t [x,y]) v):∃a e d,v=.ref a/\b9 K H a [e,d]/\Rp K H x e/\Rp K H y d:=by
 let(a,m,rfl,j,r):=h.aT;let(u,q,rfl,g,r2):=r.inv;let(d,o,rfl,l,r3):=r2.inv;obtain rfl:=r3.gz;calc#[a,u,d,rfl,j,g,l]
def Rp.t3 (h:Rp K H (.t [x,y,z]) v):∃a j e d,v=.ref a/\b9 K H a [j,e,d]/\Rp K H x j/\Rp K H y e/\Rp K H z d:=by
 let(a,p,rfl,l,r):=h.aT;let(u,q,rfl,g,r2):=r.inv;let(e,C,rfl,o,r3):=r2.inv;let(d,B,rfl,m,r4):=r3.inv;obtain rfl:=r4.gz;calc#[a,u,e,d,rfl,l,g,o,m]
def Rp.t4 (h:Rp K H (.t [x,y,z,l]) v):∃a m j e d,v=.ref a/\b9 K H a [m,j,e,d]/\Rp K H x m/\Rp K H y j/\Rp K H z e/\Rp K H l d:=by
 let(a,G,rfl,o,r):=h.aT;let(u,q,rfl,g,r2):=r.inv;let(j,L,rfl,D,r3):=r2.inv;let(e,J,rfl,C,r4):=r3.inv;let(d,I,rfl,B,p):=r4.inv;obtain rfl:=p.gz;calc#[a,u,j,e,d,rfl,o,g,D,C,B]
def Rp.t5 (h:Rp K H (.t [x,y,z,o,m]) v):∃a p l j e d,v=.ref a/\b9 K H a [p,l,j,e,d]/\Rp K H x p/\Rp K H y l/\Rp K H z j/\Rp K H o e/\Rp K H m d:=by
 let(a,M,rfl,B,r):=h.aT;let(u,q,rfl,g,r2):=r.inv;let(l,R,rfl,L,r3):=r2.inv;let(j,Q,rfl,J,r4):=r3.inv;let(e,O,rfl,I,D):=r4.inv;let(d,N,rfl,G,C):=D.inv;obtain rfl:=C.gz;exact#[a,u,l,j,e,d,rfl,B,g,L,J,I,G]
open PySem.Spec PyProof.Rows
def wY (K:cB)(e:X.K=K)(d:PE X l tl):PI X tg l (JR K tl):=by subst e;calc dj d
def DW :nY X (SI .Add) (λx y H Q=>∃a b ys,x=.ref a/\y=.ref b/\b9 X.K H a []/\b9 X.K H b ys/\Q (.ref b) H):=by
 intro r s V H x y u v Q I J G h;let(a,b,ys,rfl,rfl,S,R,q):=h
 cases J
 cases G
 let(N,L,O,_):=I.tuple S;let(l,r2,m,_):=I.tuple R
 cases L
 let((gD,T,B,D),t,z,n,hd):=id O;let((C,o,p,j),d,g,M,e):=id m;simp only at z hd g e;subst z hd g e
 exact X9 #[_,t,rfl] #[_,d,rfl] Wx XJ UH Uu (Ub _ _)
   (tuple_addW0 a b _ l.toArray n M T o D j (by simp)) #[t,d,#[.ref b,H,I,rfl,q]]
meta def vP(K:cB):R2:=λx y H Q=>∃a b e d,x=.ref a/\y=.ref b/\b9 K H a e/\b9 K H b d/\⇑e+⇑d<=my/\∀p g,aS H g->b9 K g p (e++d)->Q (.ref p) g
def di :nY X (SI .Add) (vP X.K):=by
 intro d s j H x y u v Q I o m h;let(a,b,q,l,rfl,rfl,g,e,t,k):=h
 cases q with
 |nil=>calc DW d s j H _ _ u v Q I o m #[a,b,l,rfl,rfl,g,e,k b H (aS.refl _) e]
 |cons x r =>
  exact Gi d s j H _ _ u v Q I o m #[a,b,_,l,rfl,rfl,g,e,(by simp),t,(λz=>by subst z;let:=k a H (aS.refl _);rw[QM]at this;calc this g),λ_ p B=>k p _ (ae B _) (b9.of aj)]
set_option maxRecDepth 100000
def qX :fillsNumberSlot (.type "tuple") "mul"=pure AE :=
 PySem.fillsNumberSlot_seq (id:="tuple.__mul__") (r:=U (.builtin "tuple.__rmul__")) Sv.lookup ∅ WE.lookup ∅
def wZ :seqRepeat? (.type "tuple")=pure (U (.builtin "tuple.__mul__")):=by
 unfold seqRepeat?;rw[Yq (T:="tuple") (name:="__mul__") (id:="tuple.__mul__") Sv.lookup ∅,Yq (T:="tuple") (name:="__rmul__") (id:="tuple.__rmul__") WE.lookup ∅];rfl
def tW (a:Int)(t:Tok)(l:AB)(m:AF AB)(items:Array eT)(n:Nat)(j:Array (AF eT)):
  YJ (RQ.«int.__rmul__» #[[.int a t,.ref l],[]]) (λ_ R s=>s.heap.get? l=U {cls:=.type "tuple",dict:=m,data:=.seq items n,slots:=j}/\R (.ok (.ret eT.notImplemented)) s) :=
 .of_wp λe w A R s h=>by let(q,g,d,o,p):=s;let(r,h):=h;wp_walk;calc#[_,rfl,h]
def tX (l:AB)(o:AF AB)(items:Array eT)(n:Nat)(j:Array (AF eT))(x:Int)(u:Tok)(m:(decide (x < -2 ^ 63)||decide (x ≥ 2 ^ 63))=AE)(v:(items.isEmpty||x == 1)=AD):
  YJ (RQ.«tuple.__mul__» #[[.ref l,.int x u],[]]) (λ_ R s=>s.heap.get? l=U {cls:=.type "tuple",dict:=o,data:=.seq items n,slots:=j}/\R (.ok (.ret (.ref l))) s) :=
 .of_wp λe w A R s h=>by let(r,g,d,p,q):=s;let(t,h):=h;wp_walk;calc Vo (decide_eq_false (by rw[m];calc Qf)) ?_;wp_walk;calc#[_,rfl,h]
def uX (l:AB)(r:AF AB)(items:Array eT)(n:Nat)(o:Array (AF eT))(x:Int)(u:Tok)(q:(decide (x < -2 ^ 63)||decide (x ≥ 2 ^ 63))=AE)(G:¬(items.isEmpty||x == 1)=AD)(D:(decide (x<=0)||items.isEmpty)=AE)(p:¬(items.size:Int)*x>(2 ^ 63-1) / 8)(C:¬VO ((items.size:Int)*x)=AD)(B:(VJ (λj e=>j++e) #[] (P7 x.toNat items)).size<=my):
  YJ (RQ.«tuple.__mul__» #[[.ref l,.int x u],[]]) (λ_ R s=>s.heap.get? l=U {cls:=.type "tuple",dict:=r,data:=.seq items n,slots:=o}/\R (.ok (.ret (Value.ref s⁻¹))) {s with heap:=s.heap.push {cls:=Value.type "tuple",data:=Data.seq (VJ (λj e=>j++e) #[] (P7 x.toNat items))}}) :=
 .of_wp λm w A R s h=>by let(y,g,d,t,v):=s;let(z,h):=h;wp_walk;calc Vo (decide_eq_false (by rw[q];calc Qf)) ?_;wp_walk;calc Vo (decide_eq_false p) ?_;wp_walk;calc#[_,rfl,h]
def uY (l:AB)(o:AF AB)(items:Array eT)(n:Nat)(j:Array (AF eT))(x:Int)(u:Tok)(m:(decide (x < -2 ^ 63)||decide (x ≥ 2 ^ 63))=AE)(y:¬(items.isEmpty||x == 1)=AD)(v:(decide (x<=0)||items.isEmpty)=AD):
  YJ (RQ.«tuple.__mul__» #[[.ref l,.int x u],[]]) (λ_ R s=>s.heap.get? l=U {cls:=.type "tuple",dict:=o,data:=.seq items n,slots:=j}/\R (.ok (.ret (Value.ref s⁻¹))) {s with heap:=s.heap.push {cls:=Value.type "tuple",data:=Data.seq #[]}}) :=
 .of_wp λe w A R s h=>by let(r,g,d,p,q):=s;let(t,h):=h;wp_walk;calc Vo (decide_eq_false (by rw[m];calc Qf)) ?_;wp_walk;calc#[_,rfl,h]
meta def Mz(K:cB):R2:=λx y H Q=>∃a k d,x=.ref a/\y=.int k/\b9 K H a d/\0<=k/\k<=100/\⇑d<=9/\∀p e,aS H e->b9 K e p (P7 k.toNat d).flatten->Q (.ref p) e
def GJ :nY X (SI .Mult) (Mz X.K):=by
 intro J s σ H x y v u Q I rx Z h;let(a,k,j,rfl,rfl,p,k0,k1,L,q):=h
 cases rx
 let(t,rfl):=Z;let(d,r,ht,_):=I.tuple p;let N:=⇑r;let((cls,m,data,l),e,O,n,hd):=id ht;simp only at O hd;subst O hd
 let D:(decide (k < -2 ^ 63)||decide (k ≥ 2 ^ 63))=AE:=by
  rw[decide_eq_false (),decide_eq_false ()];rfl
 refine VZ (T:="tuple") (U:="int") ∅ #[_,e,rfl] (λY=>Uj Y k t) qX PySem.F.fills_int_mul Uk wZ PySem.F.slot_int_index.lookup
  (Ti Uk (Uj s k t) PySem.F.entry_int_rmul (PySem.F.args_int_rmul_2 _ _) (tW k t a m d.toArray n l)
   #[e,rfl,#[_,e,rfl],?_])
 by_cases g:(d.toArray.isEmpty||k == 1)=AD
 .refine Ti Sv #[_,e,rfl] Uw (Ud _ _) (tX a m d.toArray n l k t D g) #[e,#[.ref a,H,I,rfl,q a H (λ_ _ z=>z) ?_]];rcases(Sm _ _).mp g with z|z
  .have:j=[]:=by
    cases j with
    |nil=>rfl
    |cons y ys=>cases d with
     |nil=>cases N
     |cons b bs=>simp at z
   subst this
   simpa using p
  .have:k=1:=Sd z;subst this
   simpa using p
 let R:VJ (λW V=>W++V) #[] (P7 k.toNat d.toArray)=(P7 k.toNat d).flatten.toArray:=by
  let:=foldl_rep d k.toNat [];rw[Sj]at this;exact this
 let M:(P7 k.toNat j).flatten.length<=my:=QB (bg (by rw[len_rep];calc Qq (Nat.mul_le_mul (show k.toNat<=100 by omega) L) ∅));let S:=I.laid (t':=s.toks) (o:=.J (P7 k.toNat j).flatten) (h':=s.heap.push {cls:=Value.type "tuple",data:=Data.seq (P7 k.toNat d).flatten.toArray}) (λb ob q=>u5 _ q) (u4 _) #[M,_,r.rep k.toNat,Wv _ _,_,P5 _ rfl,rfl];let G:=q _ _ (ae I.fresh _) (b9.of aj)
 by_cases C:(decide (k<=0)||d.toArray.isEmpty)=AD
 .refine Ti Sv #[_,e,rfl] Uw (Ud _ _) (uY a m d.toArray n l k t D g C) #[e,?_]
  let ek:k=0:=by
   rcases(Sm _ _).mp C with z|z
   .have:=of_decide_eq_true z;omega
   .exact absurd (by rw[z];rfl) g
  subst ek;exact#[.ref _,_,S,rfl,G]
 let B:(decide (k<=0)||d.toArray.isEmpty)=AE:=by simpa using C
 let aa:d.toArray.size<=9:=by rw[P4,<-N];exact L
 let hp:(d.toArray.size:Int)*k<=900:=Int.le_trans (Int.mul_le_mul () k1 k0 ()) (∅:(9:Int)*100<=900);calc Ti Sv #[_,e,rfl] Uw (Ud _ _) (uX a m d.toArray n l k t D g B () ?_ (by rw[R,P4,<-⇑(r.rep k.toNat)];calc M)) #[e,by rw[R];calc#[.ref _,_,S,rfl,G]];unfold VO;let:(1000:Int)<=(my:Int):=∅
 intro z;let:=of_decide_eq_true z;omega
end L2
namespace HT
open PySem PyProof.Rows
section
open PySem.SeqAt
open PySem.AutoSeq1 (wpAny_loadPart')
open PySem.MeetsSeq PySem.MeetsSeq2 PySem.MeetsSeq3
def oN {lo:AF Int}(ht:YD s.heap t items)(hs:s.heap.IsSliceOf d m l .none)(pl:Wi m lo)(o:Wi l hi)(h0:iL items.size 0 lo=0)(h1:iL items.size items.size hi=items.size)(h:Q (.ref t) s):PY (P9 prog w) A (UI (.ref t) (.ref d)) Q E s:=by
 let(p,e,g,q):=id hs;let j:s.TypeIs (.ref d) "slice":=#[p,e,g];unfold UI
 try with_reducible refine QG ?_
 first|refine bN (rz ?_)|skip
 refine bN (V6 ht.typeIs ∅ ?_)
 refine bN (QX (name:=Qv "__getitem__") ht.typeIs QH
  (Rm QH ht.typeIs Vt ?_ (VG _ _)))
 show PY _ _ (TN (.ref t)>>=_) _ _ s;calc bN (XM ht ?_);calc bN (SY j ?_);rw[if_pos ∅];calc bN (lR hs pl o ?_);rw[h0,h1];show PY _ _ (if(((0:Nat):Int) == 0&&(1:Int) == 1&&(items.size-0) == items.size)=AD then _ else _) _ _ s;rw[if_pos (by simp)];show PY _ _ ((typeOf (.ref t)>>=_)>>=_) _ _ s;calc bN (bN (SY ht.typeIs (rz ?_)));show PY _ _ (if(_:Bool)=AD then _ else _) _ _ s;rw[if_pos ∅];calc bN (U7 ?_);calc rz #[_,rfl,rz h]
def qi {n:Nat}(hs:s.heap.IsSliceOf j .none .none (.int (-1) t))(h:Q ((n:Int) - 1,-1,n) s):PY (P9 prog w) A (SJ (.ref j) (pure (n:Int))) Q E s:=by
 let(m,d,l,g):=id hs;unfold SJ VY;calc bN (bN (QC d g (x:=.none) rfl (bN (QC d g (x:=.none) rfl (bN (QC d g (x:=.int (-1) t) rfl (rz ?_)))))));calc bN (kG (.int (-1) t) ?_);show PY _ _ (if((-1:Int) == 0)=AD then _ else _) _ _ s;rw[if_neg ∅];calc bN (kG .none (bN (kG .none (bN (rz ?_)))));show PY _ _ (pure ((n:Int) - 1,(-1:Int),Rj ((n:Int) - 1) (-1) (-1))) _ _ s
 let e:Rj ((n:Int) - 1) (-1) (-1)=n:=by
  unfold Rj;rw[if_neg ∅]
  split
  .rw[show(-(-1:Int))=1 from rfl,Yb];omega
  .omega
 rw[e];calc rz h
def Cg (xs:Array eT):((Si xs.size).filterMap λ(k:Nat)=>xs[(((xs.size:Nat):Int) - 1+(k:Int)*(-1)).toNat]?).toArray=xs.toList.reverse.toArray:=by
 congr 1
 let d:∀n,n<=xs.size->((Si n).filterMap λ(k:Nat)=>xs[(((xs.size:Nat):Int) - 1+(k:Int)*(-1)).toNat]?)=xs.toList.reverse.take n:=by
  intro n
  induction n with
  |zero=>intro _;rfl
  |succ n ih =>
   intro h;rw[Vp,List.filterMap_append,ih ()];let j:n<⇑xs.toList.reverse:=by rw[Ss,RW];omega
   rw[we j]
   congr 1
   let e:(((xs.size:Nat):Int) - 1+(n:Int)*(-1)).toNat=xs.size-1-n:=()
   let g:xs.size-1-n<xs.size:=()
   rw[RV,e,Array.getElem?_eq_getElem g];simp only[List.filterMap_nil];rw[Xm,Array.getElem_toList];simp
 rw[d xs.size (u4 _),QO (by rw[Ss,RW];calc u4 _)]
def pI (ht:YD s.heap t items)(hs:s.heap.IsSliceOf e .none .none (.int (-1) o))(hsz:items.size<=my)(h:Q (.ref s⁻¹) {s with heap:=s.heap.push {cls:=.type "tuple",data:=.seq items.toList.reverse.toArray}}):PY (P9 prog w) A (UI (.ref t) (.ref e)) Q E s:=by
 let d:sizeOk (.seq items.toList.reverse.toArray):=by
  show items.toList.reverse.toArray.size<=my;rw[P4,Ss,RW];exact hsz
 let(p,g,j,q):=id hs;let l:s.TypeIs (.ref e) "slice":=#[p,g,j];unfold UI
 try with_reducible refine QG ?_
 first|refine bN (rz ?_)|skip
 refine bN (V6 ht.typeIs ∅ ?_)
 refine bN (QX (name:=Qv "__getitem__") ht.typeIs QH
  (Rm QH ht.typeIs Vt ?_ (VG _ _)))
 show PY _ _ (TN (.ref t)>>=_) _ _ s;calc bN (XM ht ?_);calc bN (SY l ?_);rw[if_pos ∅];calc bN (qi hs ?_);show PY _ _ (if((((items.size:Nat):Int) - 1) == 0&&(-1:Int) == 1&&items.size == items.size)=AD then _ else _) _ _ s;rw[if_neg (by simp),Cg]
 first
  |calc bN (m:=Q9 _) (QW (rz #[_,rfl,rz h]) d)
  |calc bN (m:=Q9 _) (QW (bN (rz (rz #[_,rfl,rz h]))) d)
  |calc bN (bN (m:=Q9 _) (QW (rz (rz #[_,rfl,rz h])) d))
  |calc bN (bN (m:=Q9 _) (QW (rz #[_,rfl,rz h]) d))
end
end HT
namespace L2
open PySem PySem.Spec PyProof.Rows
meta def DX(K:cB):V->AF Int->AF Int->Hp->VK->Prop:=λx lo hi H Q=>∃a g,x=.ref a/\b9 K H a g/\∀p d,aS H d->b9 K d p (gx g lo hi)->Q (.ref p) d
def er :Dy X (DX X.K):=by
 intro j s D H x v J G lo hi L Q I t C z y h;let(a,d,rfl,o,q):=h
 by_cases l:HT.iL ⇑d 0 lo=0/\HT.iL ⇑d ⇑d hi=⇑d
 .cases t
  let(m,r,B,N):=I.tuple o;let g:m.toArray.size=⇑d:=by rw[P4];exact r.length.symm
  calc#["tuple",_,QH.lookup,B.typeIs,?_];refine HT.oN B C z y (by rw[g];calc l.1) (by rw[g];calc l.2) #[.ref a,H,I,rfl,q a H (λ_ _ e=>e) ?_]
  let:gx d lo hi=d:=by
   unfold gx;rw[l.1,l.2,List.drop_zero,Nat.sub_zero,Ql]
  rw[this];exact o
 .exact Ah j s D H (.ref a) v J G lo hi L Q I t C z y #[a,d,rfl,o,l,λp M=>q p _ (λb u q=>by rw[aB (ay q M)];calc q) (b9.of aj)]
meta def MB(K:cB)(te:TE)(tl th tk:TO):TE:=λd H Q=>te d H λx q=>tl d q λl o=>th d o λu m=>tk d m λk g=>∃a j,x=.ref a/\b9 K g a j/\l=gV/\u=gV/\k=U (-1) /\
 ∀p,g p=gV->Q (.ref p) (upd g p (.J j.reverse))
def GK {st:Expr}{lo:AF Expr}(K:cB)(hK:X.K=K)(he:PE X e te)(hl:PO X lo tl)(hu:PO X hi th)(hk:PO X (U st) tk):PE X (.Subscript e (.Slice lo hi (U st) p2) pos) (MB K te tl th tk):=by
 subst hK;intro d s j H Q I h;calc WR (cQ (he d s j H _ I h) λv L ⟨x,H1,I1,M,q1⟩=>?_);calc wpAny_Slice (cQ (hl d L j H1 _ I1 q1) λvl J ⟨l,H2,I2,gD,R⟩=>cQ (hu d J j H2 _ I2 R) λvu G ⟨u,H3,I3,S,O⟩=>cQ (hk d G j H3 _ I3 O) λD m ⟨k,H4,I4,V,N⟩=>?_);let(a,z,rfl,Z,rfl,rfl,rfl,q):=N
 cases M
 cases gD
 cases S
 obtain⟨tk,rfl⟩:∃t,D=.int (-1) t:=by cases V;exact#[_,rfl]
 let y:Inv X d j H4 {m with heap:=m.heap.push {cls:=.type "slice",data:=.fields #[.none,.none,.int (-1) tk,]}}:=I4.kept (t':=m.toks) λb Y q=>u5 _ q;let(g,r,C,B):=y.tuple Z;let p:⇑g=⇑z:=r.length.symm;calc tail_any (T:="tuple") (ops:=[.ref a,.ref m⁻¹]) C.typeIs QH.lookup ?_ (by rfl');calc HT.pI (items:=g.toArray) C (VI ..) (by rw[P4,p];calc B) ?_;calc#[.ref _,_,y.laid (t':=m.toks) (o:=.J z.reverse) (λb Y q=>u5 _ q) (u4 _) ?_,rfl,q _ (y.hok.fresh (u4 _))];calc#[by rw[Ss];calc B,g.reverse,r.reverse,Wv _ _,_,P5 _ rfl,rfl]
end L2
namespace L2
open PySem
def aS.w5 (s:aS H d)(h:H l=gV)(o:HO):aS H (upd d l o):=λb g e=>by rw[aB (ay e h)];calc s b g e
structure Ox(K:cB) (Ps:St->Prop) (H2:Hp) (us:MC V) (ys:MC T) (σ:St) (H5:Hp):Prop where
 p:Ps σ
 s:aS H2 H5
 r:bS K H5 ys us
theorem Au {d j:Type}{φ:d->List j}(e:∀p,⇑(φ p)<=1):∀ps:List d,⇑(ps.flatMap φ)<=⇑ps
 | []=>Qc _
 |x::r=>by
  rw[Sf,mu,Qn];let:=e x;let:=Au e r;omega
theorem nH {d e:Type}(f:d->e):∀l:List d,(l.flatMap λp=>[f p])=l.map f
 | []=>rfl
 |x::r=>by rw[Sf,nH f r];rfl
def j9 {D:Type}{e:D->T}{φ:D->MC T}{ps:MC D}(B:St->Prop)(M:b9 K H0 a vs)(hr:bS K H0 (ps.map e) vs)(W:⇑ps<=900)(O:∀p,⇑(φ p)<=1)(R:B σ0)(hs:∀p∈ps,∀x o j (N:MC V->St->Hp->Prop),aS H0 j->B o->Rp K j (e p) x->(∀us d t,Ox K B j us (φ p) d t->N us d t)->g x o j λd gD=>tt d gD λok J=>if ok=AD then te d J λv t=>N [v] d t else N [] d J)(k:∀l C u,aS H0 C->H0 l=gV->C l=U (.Y u)->bS K C (ps.flatMap φ) u->Q (.ref l) C):mU (A2 K a) g tt te Q σ0 H0:=by
 let l:=⇑hr;rw[bM]at l;refine je (xs:=vs) (λi o us j=>B o/\aS H0 j/\bS K j ((ps.take i).flatMap φ) us) #[R,aS.refl _,.nil] ?_ (small ()) ?_ ?_ ?_
 .rintro i o us j hi ⟨_,_,r⟩;rw[⇑r];exact Qq (Au O _) (by rw[I0];calc W7 _ _)
 .rintro i o us j hi ⟨_,s,_⟩;exact M.Z s
 .rintro i x o us j hx ⟨p,s,r⟩;let(y,I,L):=hr.get' hx;rw[EF]at I;let(q,G,rfl):=IF.mp I;let H:i<⇑ps:=(eF.mp G).1;let S:ps[i]=q:=(eF.mp G).2
  let z:=hs q (P6 G) x o j (λu d t=>B d/\aS H0 t/\bS K t ((ps.take (i+1)).flatMap φ) (us++u)) s p (L.Z s) λu d t m=>by
   calc#[m.p,s.trans m.s,?_];rw[we H,S,Q4];exact(r.Z m.s).append (by rw[Sf,WG,QM];calc m.r)
  simp only[QM]at z;exact z
 .rintro o us j ⟨_,s,r⟩ p hp;rw[l,Ql]at r;calc k p _ us (s.trans (ae hp _)) (s.free hp) aj (r.Z (ae hp _))
def Ci {D:Type}{e:D->T}{φ:D->MC T}{ps:MC D}(B:St->Prop)(M:H0 a=U (.Y vs))(hr:bS K H0 (ps.map e) vs)(W:⇑ps<=900)(O:∀p,⇑(φ p)<=1)(R:B σ0)(hs:∀p∈ps,∀x o j (N:MC V->St->Hp->Prop),aS H0 j->B o->Rp K j (e p) x->(∀us d t,Ox K B j us (φ p) d t->N us d t)->g x o j λd gD=>tt d gD λok J=>if ok=AD then te d J λv t=>N [v] d t else N [] d J)(k:∀l C u,aS H0 C->H0 l=gV->C l=U (.Y u)->bS K C (ps.flatMap φ) u->Q (.ref l) C):mU (JP K a) g tt te Q σ0 H0:=by
 let l:=⇑hr;rw[bM]at l;refine j8 (xs:=vs) (λi o us j=>B o/\aS H0 j/\bS K j ((ps.take i).flatMap φ) us) #[R,aS.refl _,.nil] ?_ (small ()) ?_ ?_ ?_
 .rintro i o us j hi ⟨_,_,r⟩;rw[⇑r];exact Qq (Au O _) (by rw[I0];calc W7 _ _)
 .rintro i o us j hi ⟨_,s,_⟩;exact aV.of (s _ _ M)
 .rintro i x o us j hx ⟨p,s,r⟩;let(y,I,L):=hr.get' hx;rw[EF]at I;let(q,G,rfl):=IF.mp I;let H:i<⇑ps:=(eF.mp G).1;let S:ps[i]=q:=(eF.mp G).2
  let z:=hs q (P6 G) x o j (λu d t=>B d/\aS H0 t/\bS K t ((ps.take (i+1)).flatMap φ) (us++u)) s p (L.Z s) λu d t m=>by
   calc#[m.p,s.trans m.s,?_];rw[we H,S,Q4];exact(r.Z m.s).append (by rw[Sf,WG,QM];calc m.r)
  simp only[QM]at z;exact z
 .rintro o us j ⟨_,s,r⟩ p hp;rw[l,Ql]at r;calc k p _ us (s.trans (ae hp _)) (s.free hp) aj (r.Z (ae hp _))
theorem bS.nI :∀{ns:List AA}{vs:MC V},bS K H (ns.map .s) vs->vs=ns.map V.str
 | [],_,h=>h.gz
 |n::r,_,h=>by
  let(v,d,rfl,g,h):=bS.inv (K:=K) (x:=.s n) h;rw[g.aP,nI h];rfl
theorem tY (k:Nat):∀{fs:MC (AA×V)},⇑fs+(k+1)<n->⇑(aX f v fs)+k<n
 | [],h=>by show 1+k<n;simp at h;omega
 |(g,x)::r,h=>by
  unfold aX
  split
  .rw[Qn]at h|-;omega
  .rw[Qn]at h|-;let:=tY (f:=f) (v:=v) (n:=n) (k+1) (fs:=r) ();omega
def DY (h:⇑fs+1<n):⇑(aX f v fs)<n:=tY 0 h
def bA :(uT g P w K mg base N e d f cdv A outer s H E).oS.K=K:=rfl
meta def Cut(b:TS)(D:Ends)(N:St->Hp->Prop):Prop:=∀d H,b D d H->N d H
def Cut.go (h:Cut b D N)(g:b D d H):N d H:=h d H g
def jY (h:∀N:St->Hp->Prop,Cut b D N->a (D.wn N) d H):bf a b D d H:=h (b D) (λ_ _ x=>x)
def GL (h:D.nx d H):Jd D d H:=h
def GN (h:D.nx (d.set i (U v)) H):wI (tC v) (iZ i) D d H:=h
def kI (h:∀j g:St->Hp->Prop,Cut t1 (D.wn g) j->Cut t2 D g->e (D.wn j) d H):bf e (bf t1 t2) D d H:=h (bf t1 t2 D) (t2 D) (λ_ _ x=>x) (λ_ _ x=>x)
def qj (h:∀l j g:St->Hp->Prop,Cut t1 (D.wn j) l->Cut t2 (D.wn g) j->Cut t3 D g->e (D.wn l) d H):bf e (bf t1 (bf t2 t3)) D d H:=h (bf t1 (bf t2 t3) D) (bf t2 t3 D) (t3 D) (λ_ _ x=>x) (λ_ _ x=>x) (λ_ _ x=>x)
def qk (h:∀m l j g:St->Hp->Prop,Cut t1 (D.wn l) m->Cut t2 (D.wn j) l->Cut t3 (D.wn g) j->Cut t4 D g->e (D.wn m) d H):bf e (bf t1 (bf t2 (bf t3 t4))) D d H:=h (bf t1 (bf t2 (bf t3 t4)) D) (bf t2 (bf t3 t4) D) (bf t3 t4 D) (t4 D) (λ_ _ x=>x) (λ_ _ x=>x) (λ_ _ x=>x) (λ_ _ x=>x)
def yY (h:∀o m l j g:St->Hp->Prop,Cut t1 (D.wn m) o->Cut t2 (D.wn l) m->Cut t3 (D.wn j) l->Cut t4 (D.wn g) j->Cut t5 D g->e (D.wn o) d H):bf e (bf t1 (bf t2 (bf t3 (bf t4 t5)))) D d H:=h (bf t1 (bf t2 (bf t3 (bf t4 t5))) D) (bf t2 (bf t3 (bf t4 t5)) D) (bf t3 (bf t4 t5) D) (bf t4 t5 D) (t5 D) (λ_ _ x=>x) (λ_ _ x=>x) (λ_ _ x=>x) (λ_ _ x=>x) (λ_ _ x=>x)
def ql (h:∀q p o m l j:St->Hp->Prop,Cut t1 (D.wn p) q->Cut t2 (D.wn o) p->Cut t3 (D.wn m) o->Cut t4 (D.wn l) m->Cut t5 (D.wn j) l->Cut d D j->g (D.wn q) e H):bf g (bf t1 (bf t2 (bf t3 (bf t4 (bf t5 d))))) D e H:=h (bf t1 (bf t2 (bf t3 (bf t4 (bf t5 d)))) D) (bf t2 (bf t3 (bf t4 (bf t5 d))) D) (bf t3 (bf t4 (bf t5 d)) D) (bf t4 (bf t5 d) D) (bf t5 d D) (d D) (λ_ _ x=>x) (λ_ _ x=>x) (λ_ _ x=>x) (λ_ _ x=>x) (λ_ _ x=>x) (λ_ _ x=>x)
def ΓA (h:∀t r q p o m l:St->Hp->Prop,Cut t1 (D.wn r) t->Cut t2 (D.wn q) r->Cut t3 (D.wn p) q->Cut t4 (D.wn o) p->Cut t5 (D.wn m) o->Cut e (D.wn l) m->Cut d D l->j (D.wn t) g H):bf j (bf t1 (bf t2 (bf t3 (bf t4 (bf t5 (bf e d)))))) D g H:=h (bf t1 (bf t2 (bf t3 (bf t4 (bf t5 (bf e d))))) D) (bf t2 (bf t3 (bf t4 (bf t5 (bf e d)))) D) (bf t3 (bf t4 (bf t5 (bf e d))) D) (bf t4 (bf t5 (bf e d)) D) (bf t5 (bf e d) D) (bf e d D) (d D) (λ_ _ x=>x) (λ_ _ x=>x) (λ_ _ x=>x) (λ_ _ x=>x) (λ_ _ x=>x) (λ_ _ x=>x) (λ_ _ x=>x)
def tZ (h:∀v u t r q p o m:St->Hp->Prop,Cut t1 (D.wn u) v->Cut t2 (D.wn t) u->Cut t3 (D.wn r) t->Cut t4 (D.wn q) r->Cut t5 (D.wn p) q->Cut g (D.wn o) p->Cut e (D.wn m) o->Cut d D m->l (D.wn v) j H):bf l (bf t1 (bf t2 (bf t3 (bf t4 (bf t5 (bf g (bf e d))))))) D j H:=h (bf t1 (bf t2 (bf t3 (bf t4 (bf t5 (bf g (bf e d)))))) D) (bf t2 (bf t3 (bf t4 (bf t5 (bf g (bf e d))))) D) (bf t3 (bf t4 (bf t5 (bf g (bf e d)))) D) (bf t4 (bf t5 (bf g (bf e d))) D) (bf t5 (bf g (bf e d)) D) (bf g (bf e d) D) (bf e d D) (d D) (λ_ _ x=>x) (λ_ _ x=>x) (λ_ _ x=>x) (λ_ _ x=>x) (λ_ _ x=>x) (λ_ _ x=>x) (λ_ _ x=>x) (λ_ _ x=>x)
def Nk {e d:Type}{p:e->d->Prop}(a:e)(b:d)(h:p a b):∃a b,p a b:=#[a,b,h]
def Pg {g e d:Type}{p:g->e->d->Prop}(a:g)(b:e)(c:d)(h:p a b c):∃a b c,p a b c:=#[a,b,c,h]
def Ph {l j g e:Type}{p:l->j->g->e->Prop}(a:l)(b:j)(c:g)(d:e)(h:p a b c d):∃a b c d,p a b c d:=#[a,b,c,d,h]
def Pj {o m l j ε g:Type}{p:o->m->l->j->ε->g->Prop}(a:o)(b:m)(c:l)(d:j)(e:ε)(f:g)(h:p a b c d e f):∃a b c d e f,p a b c d e f:=#[a,b,c,d,e,f,h]
def Pk {v u t r ε q o m l:Type}{p:v->u->t->r->ε->q->o->m->l->Prop}(a:v)(b:u)(c:t)(d:r)(e:ε)(f:q)(g:o)(i:m)(j:l)(h:p a b c d e f g i j):∃a b c d e f g i j,p a b c d e f g i j:=#[a,b,c,d,e,f,g,i,j,h]
def Pn :T.nA []<=d:=by rw[T.nA];calc Qc _
def Po (h:x.dep<=d)(r:T.nA xs<=d):T.nA (x::xs)<=d:=by rw[T.nA];calc YI.mpr #[h,r]
def Pp (h:T.nA xs<=d):T.dep (.t xs)<=d+1:=by rw[T.dep];calc U9 h
def Oz :T.dep (.s x)<=d:=by simp[T.dep]
def Pr :T.dep (.i x)<=d:=by simp[T.dep]
end L2
open L2 in
local macro_rules | `(tactic| fail "Z") => `(tactic| first | exact aV.of (by first | assumption | exact aj) | exact b9.of (by first | assumption | exact aj) | omega | (dsimp only [List.length_cons, List.length_nil]; decide) | decide | exact Nat.zero_le _ | (refine DY ?_; (repeat with_reducible refine tY _ ?_); decide))
open L2 in
local macro_rules | `(tactic| fail "S") => `(tactic| first
  | ((with_reducible change @Eq _ _ _); (first | exact rfl | assumption | exact aj | (rw [aB (by assumption)]; first | exact aj | assumption | (rw [aB (by assumption)]; first | exact aj | assumption)) | omega))
  | ((with_reducible first | change @LT.lt _ _ _ _ | change @LE.le _ _ _ _); (first | omega | with_reducible assumption | fail "Z"))
  | assumption
  | ((with_reducible refine And.intro ?_ ?_) <;> fail "S")
  | ((with_reducible refine Or.inl ?_); fail "S")
  | ((with_reducible refine Or.inr ?_); fail "S")
  | ((with_reducible apply Exists.intro); fail "S")
  | ((with_reducible first | change Nh _ _ _ _ | change JY _ _ _ _ | change L8 _ _ | change Ge _ _ | change Ma _ _); first | ((first | refine (?_ : @Eq _ _ _) | refine (?_ : And _ _) | refine (?_ : Or _ _) | refine (?_ : Exists _)); fail "S") | exact True.intro)
  | fail "Z")
open L2 in
local macro_rules | `(tactic| fail "T") => `(tactic| first
  | ((with_reducible first | refine tZ ?_ | refine ql ?_ | refine yY ?_ | refine qk ?_ | refine qj ?_ | refine kI ?_ | refine jY ?_); intros)
  | (refine (?_ : Exists _); first
     | with_reducible first | apply @Exists.intro Hp | apply @Exists.intro Sp
     | ((fail_if_success (with_reducible apply @Exists.intro (_ -> _))); (with_reducible first | apply Pk | apply Pj | apply Ph | apply Pg | apply Nk | apply Exists.intro)))
  | (refine And.intro ?_ ?_; fail "S")
  | ((try with_reducible first | refine GL ?_ | refine GN ?_); refine (by with_reducible assumption : Cut _ _ _) _ _ ?_))
local macro_rules | `(tactic| ext) => `(tactic| first | (fail "T"; ext) | refine And.intro ?_ ?_ | refine (?_ : @ite _ _ _ _ _) | skip)|`(tactic|ext$x:rintroPat$y:rintroPat*)=>`(tactic|(ext;rintro$x$y*))
local macro_rules | `(tactic| fail "F") => `(tactic| first | ((with_reducible apply Exists.intro); fail "F") | ((with_reducible refine And.intro ?_ ?_); fail "S"))
local macro_rules | `(tactic| fail "O") => `(tactic| first | (fail "T"; fail "O") | refine And.intro ?_ ?_ | ((first | (refine Or.inl ?_; fail "F") | (refine Or.inr ?_; fail "F")); fail "O") | refine (?_ : @ite _ _ _ _ _) | skip)
open L2 in
local macro_rules | `(tactic| fail "D") => `(tactic| repeat' first | exact Pn | exact Oz | exact Pr | assumption | exact Nat.le_trans (by assumption) (by decide) | refine Pp ?_ | refine Po ?_ ?_)
namespace L2
open PySem
structure dH(M:List AB) (f:AB) (H H':Hp):Prop where
 jT:∀b o,b∉M->b≠f->H b=U o->H' b=U o
 kt:Kt H H'
 ff:cH H' f
def dH.refl (d:cH H f):dH M f H H:=#[λ_ _ _ _ e=>e,Kt.refl,d]
def dH.ext (a:dH M f H H1)(e:Ext f H1 H2):dH M f H H2:=#[λb o g d h=>e.1 b o d (a.jT b o g d h),a.kt.trans (e.kt a.ff),e.2]
def dH.Z (a:dH M f H H1)(e:aS H1 H2):dH M f H H2:=#[λb o g d h=>e b o (a.jT b o g d h),a.kt.trans (Kt.Z e),let⟨p,q,h⟩:=a.ff;#[p,q,e _ _ h]]
def dH.trans (a:dH M f H H1)(b:dH M f H1 H2):dH M f H H2:=#[λc o e d h=>b.jT c o e d (a.jT c o e d h),a.kt.trans b.kt,b.ff]
def dH.upd {M:List AB}{f:AB}{H H1:Hp}{l:AB}{us:MC V}{o:HO}(a:dH M f H H1)(m:l∈M)(n:l≠f)(h:H1 l=U (.Y us)):dH M f H (upd H1 l o):=#[λb g d j e=>by let z:b≠l:=(λz=>d (by rw[z];calc m));rw[aB z];exact a.jT b g d j e,a.kt.trans (Kt.Y h o),let⟨p,q,e⟩:=a.ff;#[p,q,by rw[aB n.symm];calc e]]
def dH.DZ (a:dH M f H H1)(hn:H l=gV)(n:l≠f)(h:H1 l=U (.Y us)):dH M f H (L2.upd H1 l o):=#[λb d j g e=>by rw[aB (ay e hn)];exact a.jT b d j g e,a.kt.trans (Kt.Y h o),let⟨p,q,e⟩:=a.ff;#[p,q,by rw[aB n.symm];calc e]]
def dH.Jo (a:dH M f H H1)(hn:H l=gV)(n:l≠f)(h:H1 l=U (.dK us)):dH M f H (L2.upd H1 l o):=#[λb d j g e=>by rw[aB (ay e hn)];exact a.jT b d j g e,a.kt.trans (Kt.upd h ⋯ (λ_ _ z=>nomatch z) o),let⟨p,q,e⟩:=a.ff;#[p,q,by rw[aB n.symm];calc e]]
def dH.drop (a:dH (l::M) f H H1)(hn:H l=gV):dH M f H H1:=#[λb o e d h=>a.jT b o (λz=>(P1.mp z).elim (λz=>by subst z;rw[hn]at h;cases h) e) d h,a.kt,a.ff]
def dH.more (a:dH M f H H1):dH (l::M) f H H1:=#[λb o e d h=>a.jT b o (λz=>e (.tail _ z)) d h,a.kt,a.ff]
def dH.sub (a:dH M f H H1)(h:∀z∈M,z∈M'):dH M' f H H1:=#[λb o g d e=>a.jT b o (λz=>g (h b z)) d e,a.kt,a.ff]
def dH.ex (a:dH [] f H H1):Ext f H H1:=#[λb o n h=>a.jT b o nofun n h,a.ff]
def Ext.uc (d:cH H f)(e:Ext f H H1):dH M f H H1:=(dH.refl d).ext e
def dH.D4 (a:dH [] f H H1)(n:b≠f)(h:H b=U o):H1 b=U o:=a.jT b o nofun n h
def dH.gm (a:dH [l] f H H1)(d:b≠l)(n:b≠f)(h:H b=U o):H1 b=U o:=a.jT b o (λz=>d (vv.mp z)) n h
def dH.NW (a:dH [l,m] f H H1)(e:b≠l)(d:b≠m)(n:b≠f)(h:H b=U o):H1 b=U o:=a.jT b o (λz=>(P1.mp z).elim e λz=>d (vv.mp z)) n h
def dH.free (a:dH M f H H1)(d:H1 p=gV)(g:p∉M):H p=gV:=by
 cases e:H p with
 |none=>rfl
 |some o =>
  by_cases c:p=f
  .subst c;let(x,y,z):=a.ff;rw[z]at d;cases d
  .rw[a.jT p o g c e]at d;cases d
def bj (d:cH H f)(h:H l=gV):l≠f:=λz=>by
 let(p,q,e):=d;rw[<-z,h]at e
 cases e
def dm (xs:MC V)(n:Nat):gx xs gV (U (n:Int))=xs.take n:=by
 unfold gx;rw[HT.mw,HT.tM,List.drop_zero,Nat.sub_zero];rcases Yc n ⇑xs with h|h
 .rw[SW h]
 .rw[WH h,QO (u4 _),QO h]
def iA (xs:MC V)(j:Nat):gx xs (U (j:Int)) gV=xs.drop j:=by
 unfold gx;rw[HT.mw,HT.tM];rcases Yc j ⇑xs with h|h
 .rw[SW h,QO (by rw[QF];omega)]
 .rw[WH h,Tn h,Tn (u4 _)];simp
def yZ (xs:MC V)(a b:Nat)(h:b<=⇑xs)(d:a<=b):gx xs (U (a:Int)) (U (b:Int))=(xs.drop a).take (b-a):=by
 unfold gx;rw[HT.mw,HT.mw,SW h,SW ()]
def GO {t:Nat}{R:V->Hp->Prop}(hi:o[i]?=U (U (.ref a)))(hj:o[j]?=U (U (.int (t:Int))))(T:b9 K H a g)(lw:⇑g<=100)(hm:∀d q,aS H d->(∀v e,aS d e->R v e->q v e)->G o d q)(hR:∀v D e,aS D e->R v D->R v e)(hc:∀d q,aS H d->q (.int (m:Int)) d->I o d q)(k:∀p v d,aS H d->R v d->b9 K d p (g.take t++[v]++g.drop m)->Q (.ref p) d):
  BY (vP K) (BY (vP K) (Mh (DX K) (jD i) pW (yE (jD j))) (uS (kF G tL))) (Mh (DX K) (jD i) (yE I) pW) o H Q:=by
 ext
 intro p1 D N O;rw[dm]at O
 ext
 calc hm _ _ N λv e M r2=>?_;let C:=O.Z M
 ext
 intro y z;let r:=ae z (.J [v]);let h3:b9 K (upd e y (.J [v])) y [v]:=b9.of aj;let B:=C.Z r;let r3:=hR _ _ _ r r2;generalize upd e y (.J [v])=H3 at r h3 B r3|-;let l3:⇑(g.take t)+[v].length<=my:=small (by rw[I0];show _+1<=_;omega)
 ext
 intro p4 H4 L h4;let l:=(N.trans M).trans (r.trans L);let S:=T.Z l
 ext
 refine hc _ _ l ?_
 ext
 intro p5 H5 u Y;rw[iA]at Y;let Z:=h4.Z u;let l5:⇑(g.take t++[v])+⇑(g.drop m)<=my:=small (by rw[mu,I0,QF];show _+1+_<=_;omega)
 ext
 intro gD H6 J X;calc k gD v H6 ((l.trans u).trans J) (hR _ _ _ ((L.trans u).trans J) r3) X
def nw {Q:VK}(h:∀(p:AB) (d:Hp),aS H d->d p=U o->H p=gV->Q (.ref p) d):∀p,H p=gV->Q (.ref p) (upd H p o):=λp e=>h p _ (ae e o) aj e
def Rp.nw (e:d p=U (.J us))(s:aS H d)(r:bS K H xs us):Rp K d (.t xs) (.ref p):=Rp.t (b9.of e) (r.Z s)
end L2
open Lean in
nonrec def r2:List Name:=[`ok,`at',`kp,`bd,`lS,`rfl,`au,`PySem.F.plainAttrs_list,`PySem.F.slot_list_append,`PySem.F.type_list_append,`B4,`ak,`kX,`K,`br,`P,`w,`mg,`base,`f,`cdv,`A,`outer,`s,`E,`z_range,`wH]
open Lean in
nonrec def r3:List (Name × Name × Nat × List Nat):=[(`Z0,`eV,16,[1000,0,1,1001,1002,1003,2,204,101,3,4,4]),
 (`Z1,`cU,5,[100,101,4]),
 (`Z2,`pU,9,[100,1,101,102,103,3,3,4,4]),
 (`Z3,`lY,99,[100,101,205,5,6]),
 (`Z4,`sa,6,[100,101,102,103,4,7,8]),
 (`Z5,`eN,5,[100,101]),
 (`Z6,`B3,9,[100,1,101,102,103,3,3,4,4]),
 (`Z7,`fQ,99,[100,101,206,9]),
 (`Z8,`yF,12,[207,208,209,210,100,101,4,4,4,4,4]),
 (`Za,`cU,99,[100,211]),
 (`Zb,`lN,8,[100,101,212]),
 (`Zc,`jd,5,[10,213,205,205,100,4,4]),
 (`Zd,`d7,3,[100]),
 (`Ze,`eO,5,[100]),
 (`Zf,`pQ,5,[100,101,4]),
 (`Zg,`kH,11,[100,101,102,103,205,205,205,11,104,105,12,106,13]),
 (`Zh,`fV,8,[100,101,102,14]),
 (`Zi,`fQ,7,[214,100,101,9]),
 (`Zj,`bX,8,[100,101,102]),
 (`Zk,`uT,99,[100,215,216,213,217,218,101,102,103,219,220,221,222,223,104,224]),
 (`Zl,`JS,8,[100,205,101,102,103,13]),
 (`Zm,`F0,4,[100,4]),
 (`Zn,`zV,6,[100,101,4,4,4]),
 (`Zo,`eX,4,[100]),
 (`Zp,`fV,99,[100,101,102,14]),
 (`Zq,`iE,10,[100,101,102,103]),
 (`Zr,`qP,6,[1,225,100,4]),
 (`Zs,`fh,6,[15,100,101,9]),
 (`Zt,`pQ,99,[100,226])]
set_option hygiene false in
open Lean in
nonrec def r8:Nat->MacroM Term
 | 0=>`(hr.mono ())
 | 1=>`(by left)
 | 2=>`(.nil)
 | 3=>`(by decide)
 | 4=>`(by rfl)
 | 5=>`(Or.inl (by kernel_rfl))
 | 6=>`(by first|exact .inl rfl|exact .inr (by kernel_rfl))
 | 7=>`(by kernel_rfl)
 | 8=>`(by exact .inl rfl)
 | 9=>`(λ_ _=>rfl)
 | 10=>`(2)
 | 11=>`(by decide)
 | 12=>`(λ_ _ _ _=>fj)
 | 13=>`(by intro _;rfl)
 | 14=>`(mh _)
 | _=>`(gQ hr)
open Lean in
nonrec def r4 (f:Name)(a:Array Term):MacroM Term:=do
 let some (_,n,k,c):=r3.find? (·.1==f) | Macro.throwUnsupported
 let b←c.mapM λi=>do
  if i<100 then r8 i else if i<200 then return a.getD (i-100) ⟨.missing⟩ else if i<1000 then return mkIdent (r2.getD (i-200) .anonymous) else return mkIdent ((a.getD (i/1000-1) ⟨.missing⟩).raw.getId++r2.getD (i%1000) .anonymous)
 let b:=b.toArray
 if k==99 then `($(mkIdent n) $b*) else
 let h←`(_)
 let s:=Array.replicate k h
 `(@$(mkIdent n) $s* $b*)
local macro_rules|`($f:ident $a*)=>r4 f.getId (a.map λx=>⟨x.raw⟩)
set_option hygiene false in
open Lean in
nonrec def r5(f:Name)(a:Array Term):MacroM Term:=do
  if f==`Ya then `(dh P w K mg base $a*)
  else if f==`Yf then `(cD P w K mg base $a*)
  else if f==`Y1 then `(oO P w K mg base $a*)
  else if f==`Y2 then `(Dh P w K mg base $a*)
  else if f==`Xt then `(va (show Nm $(a[0]!) _ by left) $(a[1]!))
  else if f==`X1 then `(Z3 (i:=$(a[1]!)) (show($(a[0]!) :List Str).Nodup by decide))
  else Macro.throwUnsupported
local macro_rules|`($f:ident $a*)=>r5 f.getId (a.map λx=>⟨x.raw⟩)
namespace G16
open PySem L2
meta def top(i:Nat):Stmt:=PySem.Challenge.pw_gapwork_k16_whole_named_otherwise.main.body.getD i (.Pass #[0,0,0,0])
meta abbrev GP:Stmt:=top 3
meta abbrev D5:Stmt:=top 4
meta abbrev w9:Stmt:=top 5
meta abbrev jG:Stmt:=top 14
meta abbrev jz:Stmt:=top 15
meta abbrev n9:Stmt:=top 17
meta abbrev kJ:Stmt:=top 18
meta abbrev kg:Stmt:=top 19
meta abbrev GQ:Stmt:=top 21
meta abbrev jH:Stmt:=top 22
meta abbrev kK:Stmt:=top 23
meta abbrev jf:Stmt:=top 24
meta abbrev iF:Stmt:=top 25
meta abbrev mF:Stmt:=top 26
meta abbrev jZ:Stmt:=top 27
meta abbrev iR:Stmt:=top 28
meta abbrev jI:Stmt:=top 29
meta abbrev jg:Stmt:=top 30
meta abbrev ud:Stmt:=top 32
meta abbrev ue:Stmt:=top 33
meta abbrev dz:Stmt:=top 34
meta abbrev dX:Stmt:=top 35
meta abbrev kh:Stmt:=top 36
meta abbrev ck:Stmt:=top 37
meta abbrev cz:Stmt:=top 38
meta abbrev aU:Stmt:=top 39
meta abbrev aQ:Stmt:=top 40
meta abbrev kL:Stmt:=top 41
meta abbrev nJ:Stmt:=top 42
meta abbrev gX:Stmt:=top 43
meta abbrev cu:Stmt:=top 44
meta abbrev dY:Stmt:=top 45
meta abbrev gY:Stmt:=top 46
meta abbrev lT:Stmt:=top 47
meta abbrev nK:Stmt:=top 48
meta abbrev iS:Stmt:=top 49
meta abbrev lU:Stmt:=top 50
meta abbrev fR:Stmt:=top 51
meta abbrev jJ:Stmt:=top 52
meta abbrev fS:Stmt:=top 53
meta abbrev fY:Stmt:=top 54
meta abbrev xg:Stmt:=top 55
meta abbrev lz:Stmt:=top 56
def Av :aY ["_law_feed_here","_law_many_here","_law_digit","_law_one"] YO (af ue):=by ac_rfl
def GR (F:i9 K "_law_take" "_law_take" ue f r):Yf gy 1 f r YO cg:=by
 exists F.ok Av
 .have(a,m,rfl,_):=h;rfl
 let(a,m,rfl,g,u,(p,q,d),k):=h
 refine#[_,eN (lN (Zp pS (Z7 br (pv 0)) au)
   (eN (lZ (i:=2) Av.nd rfl (Or.inl rfl) (bX gJ (Z7 br (pv 0)) (pv 1)))
   (eN (zV (bX sI (Z7 br (pv 0)) (pv 1)) (oY (pv 0) au set_list))
   (d7 (eX (pv 2))))) kX)
  (eN (lZ (i:=3) Av.nd rfl (Or.inl rfl) (bX gJ (bX lE (Z7 br (pv 0)) au) au))
  (eN (zV (bX dU (bX gJ (bX dU (bX lE (pv 3) au) au) au) au) (oY (pv 0) au set_list))
  (d7 (eX (bX gJ (bX sI (bX dU (bX lE (pv 3) au) (Z7 br (pv 0))) au) (pv 1)))))),?_]
 let ext:∀l j:Int,Ext a H (upd H a (.Y [.int l,.int j])):=λl j=>#[λb o n e=>by rw[aB n];calc e,l,j,aj];calc#[_,rfl,a,_,0,_,rfl,rfl,aV.of d,rfl,_,_,rfl,rfl,_,rfl,?_];refine b8 (λ_=>?_) (λ_=>?_)
 .refine#[_,rfl,a,_,0,_,rfl,rfl,aV.of d,rfl,_,rfl,_,_,rfl,rfl,g,?_];calc#[_,rfl,a,_,0,_,rfl,rfl,aV.of d,rfl,_,rfl,_,_,rfl,rfl,#[g,u],?_];calc#[_,rfl,a,_,0,0,rfl,rfl,d,rfl,?_];calc#[_,rfl,?_];exact k _ _ (W8 _ ()) (VP _ g) (ext _ _)
 .refine#[_,rfl,a,_,1,_,rfl,rfl,aV.of d,rfl,_,_,rfl,rfl,.inr #[∅,∅],_,_,rfl,rfl,(by show(0:Int)<2147483647;decide),?_];calc#[_,rfl,_,_,rfl,rfl,.inr #[∅,∅],_,_,rfl,rfl,_,_,rfl,rfl,(by show(0:Int)<2147483399;decide),_,_,rfl,rfl,?_];calc#[_,rfl,a,_,1,1,rfl,rfl,d,rfl,?_];calc#[_,rfl,_,_,rfl,rfl,.inr #[∅,∅],_,rfl,a,_,1,_,rfl,rfl,aV.of aj,rfl,_,_,rfl,rfl,_,_,rfl,rfl,#[∅,∅],_,rfl,_,_,rfl,rfl,g,?_];calc k _ _ (W8 _ ()) (VP _ g) (ext _ _)
def qY :aY ["_law_script","_law_k","_law_cell","_law_own"] Γp (af ud):=by ac_rfl
def GS (F:i9 K "_law_feed" "_law_feed" ud f r)(o:mg "len"=gV):Yf gy 1 f r Γp (DT K):=by
 exists F.ok qY
 .have(a,ns,m,rfl,_):=h;rfl
 let(a,ns,k,rfl,j,B,k0,z,g):=h
 refine#[_,eN (lZ (i:=2) qY.nd rfl (Or.inl rfl) (bX dU (bX lE au (pv 1)) au))
  (eN (lN (Zp lQ (pv 1) (pU aN (by rfl) o Qh (bR (pv 0) ak)))
   (d7 (lZ (i:=2) qY.nd rfl (Or.inl rfl) (fQ br (pv 0) (pv 1) (λ_ _=>rfl))))
   (d7 (lN (Zp pS (pU aN (by rfl) o Qh (bR (pv 0) ak)) au)
    (d7 (lZ (i:=2) qY.nd rfl (Or.inl rfl) (bX dU (bX lE (bX gJ (fQ br (pv 0) (bX gJ (pv 1) (pU aN (by rfl) o Qh (bR (pv 0) ak))) (λ_ _=>rfl)) au) au) (bX lE au (pv 1)))))
    kX)))
  (eN (lZ (i:=3) qY.nd rfl (Or.inl rfl) au)
  (eN (lN (Zp Mc (pv 2) (bX JV au au)) (d7 (lZ (i:=3) qY.nd rfl (Or.inl rfl) (pv 2))) kX)
  (d7 (eX (aZ (bR (pv 3) (bR (bX dU (bX gJ (bX dU (bX lE (bX gJ (pv 2) au) au) (bX lE au (pv 1))) au) au) ak)))))))),?_]
 let e:⇑(ns.map V.int)=⇑ns:=bM _;calc#[_,rfl,_,_,rfl,rfl,.inl #[∅,∅],_,_,rfl,rfl,?_];calc#[_,rfl,_,rfl,a,_,rfl,.inl j,_,_,rfl,rfl,_,rfl,?_];refine b8 (λc=>?_) (λc=>?_)
 .have t:k<(⇑(ns.map V.int):Int):=of_decide_eq_true c;rw[e]at t;let(v,p):=Bg (ns:=ns) k0 t;calc#[_,rfl,_,rfl,a,_,_,_,rfl,rfl,j,p,?_];refine#[_,rfl,_,_,rfl,rfl,#[∅,∅,∅],_,_,rfl,rfl,_,rfl,b8 (λ_=>?_) (λ_=>?_)]
  .refine#[_,rfl,_,rfl,_,rfl,_,_,rfl,rfl,(by show(0:Int)<2147483629;decide),_,_,rfl,rfl,.inr #[∅,∅],_,rfl,_,_,rfl,rfl,.inl #[∅,∅],_,_,rfl,rfl,_,_,rfl,rfl,(by show(0:Int)<2147483629;decide),_,_,rfl,rfl,(by show 2<=my;decide),λl e=>?_];exact g l _ (ae e _) e #[_,_,aj]
  .refine#[_,rfl,_,rfl,_,_,rfl,rfl,(by show(0:Int)<2147483629;decide),_,_,rfl,rfl,.inr #[∅,∅],_,rfl,_,_,rfl,rfl,.inl #[∅,∅],_,_,rfl,rfl,_,_,rfl,rfl,(by show(0:Int)<2147483629;decide),_,_,rfl,rfl,(by show 2<=my;decide),λl e=>?_];exact g l _ (ae e _) e #[_,_,aj]
 .refine#[_,rfl,a,_,rfl,.inl j,_,_,rfl,rfl,_,rfl,?_];refine b8 (λd=>?_) (λd=>?_)
  .have q:(0:Int)<(⇑(ns.map V.int):Int):=of_decide_eq_true d;let y:(0:Int)<(⇑ns:Int):=by rw[e]at q;exact q
   let(v,p):=Bg (ns:=ns) (k:=k % ((⇑(ns.map V.int):Nat):Int)) (W8 _ ()) (by rw[e];calc VP _ y);calc#[_,rfl,_,rfl,_,rfl,a,_,rfl,.inl j,_,_,rfl,rfl,q,a,_,_,_,rfl,rfl,j,p,_,_,rfl,rfl,(by show(0:Int)<2147483629;decide),_,_,rfl,rfl,.inr #[∅,∅],_,rfl,_,_,rfl,rfl,.inl #[∅,∅],_,_,rfl,rfl,?_];refine#[_,rfl,_,_,rfl,rfl,#[∅,∅,∅],_,_,rfl,rfl,_,rfl,b8 (λ_=>?_) (λ_=>?_)]
   .refine#[_,rfl,_,rfl,_,rfl,_,_,rfl,rfl,(by show(0:Int)<2147483629;decide),_,_,rfl,rfl,.inr #[∅,∅],_,rfl,_,_,rfl,rfl,.inl #[∅,∅],_,_,rfl,rfl,_,_,rfl,rfl,(by show(0:Int)<2147483629;decide),_,_,rfl,rfl,(by show 2<=my;decide),λl e=>?_];exact g l _ (ae e _) e #[_,_,aj]
   .refine#[_,rfl,_,rfl,_,_,rfl,rfl,(by show(0:Int)<2147483629;decide),_,_,rfl,rfl,.inr #[∅,∅],_,rfl,_,_,rfl,rfl,.inl #[∅,∅],_,_,rfl,rfl,_,_,rfl,rfl,(by show(0:Int)<2147483629;decide),_,_,rfl,rfl,(by show 2<=my;decide),λl e=>?_];exact g l _ (ae e _) e #[_,_,aj]
  .refine#[_,rfl,_,_,rfl,rfl,#[∅,∅,∅],_,_,rfl,rfl,_,rfl,b8 (λ_=>?_) (λ_=>?_)]
   .refine#[_,rfl,_,rfl,_,rfl,_,_,rfl,rfl,(by show(0:Int)<2147483629;decide),_,_,rfl,rfl,.inr #[∅,∅],_,rfl,_,_,rfl,rfl,.inl #[∅,∅],_,_,rfl,rfl,_,_,rfl,rfl,(by show(0:Int)<2147483629;decide),_,_,rfl,rfl,(by show 2<=my;decide),λl e=>?_];exact g l _ (ae e _) e #[_,_,aj]
   .refine#[_,rfl,_,rfl,_,_,rfl,rfl,(by show(0:Int)<2147483629;decide),_,_,rfl,rfl,.inr #[∅,∅],_,rfl,_,_,rfl,rfl,.inl #[∅,∅],_,_,rfl,rfl,_,_,rfl,rfl,(by show(0:Int)<2147483629;decide),_,_,rfl,rfl,(by show 2<=my;decide),λl e=>?_];calc g l _ (ae e _) e #[_,_,aj]
end G16
namespace L2
open PySem PySem.Spec PyProof.Rows
meta def rW(b:Bool)(h:Heap)(l:AB)(xs:Array eT):Prop:=match b with|false=>h.IsList l xs|true=>h.IsTuple l xs
meta def qI(b:Bool)(h:Heap)(i l:AB)(k:Nat):Prop:=match b with|false=>h.IsListIter i l k|true=>h.IsTupleIter i l k
def rW.at (x:rW b h l xs)(k:∀o,h.get? l=U o->h'.get? l=U o):rW b h' l xs:=by
 cases b with
 |false=>calc Heap.IsList.at (show h.IsList l xs from x) k
 |true=>let(o,e,r):=(show h.IsTuple l xs from x);calc#[o,k o e,r]
def qI.at (x:qI b h i l n)(k:∀o,h.get? i=U o->h'.get? i=U o):qI b h' i l n:=by
 cases b with
 |false=>calc Heap.IsListIter.at (show h.IsListIter i l n from x) k
 |true=>let(o,e,r):=(show h.IsTupleIter i l n from x);calc#[o,k o e,r]
def rW.extBut (x:rW b h l xs)(hs:Xn c h h')(d:l≠c):rW b h' l xs:=x.at λo e=>hs l o d e
def qI.extBut (x:qI b h i l n)(hs:Xn c h h')(d:i≠c):qI b h' i l n:=x.at λo e=>hs i o d e
def rW.got (x:rW b h l xs):∃o,h.get? l=U o:=by
 cases b with
 |false=>let(o,e,_):=(show h.IsList l xs from x);calc#[o,e]
 |true=>let(o,e,_):=(show h.IsTuple l xs from x);calc#[o,e]
def qI.got (x:qI b h i l n):∃o,h.get? i=U o:=by
 cases b with
 |false=>let(o,e,_):=(show h.IsListIter i l n from x);calc#[o,e]
 |true=>let(o,e,_):=(show h.IsTupleIter i l n from x);calc#[o,e]
def uZ (d:s.heap.IsTupleIter it t i)(ht:s.heap.IsTuple t items)(m:items[i]?=U x)(hQ:∀h',h'.IsTupleIter it t (i+1)->R9 it s.heap h'->Q x {s with heap:=h'}):PY (P9 prog w) A (Qt (.ref it)) Q E s:=by
 let(o,e,p,hd):=id d;let(q,g,_,r,j):=ht;let l:=d.typeIs;unfold Qt;calc bN (QX (name:=Qv "__next__") l RT (Rm RT l UA ?_ (Um _)));show PY _ _ (WB (.ref it) 0>>=_) _ _ s;calc bN (QC e hd (x:=.ref t) rfl ?_);show PY _ _ (if(Value.ref t == Value.none)=AD then _ else _) _ _ s;rw[if_neg (show ¬((Value.ref t == Value.none)=AD)from Qf)];show PY _ _ (WB (.ref it) 1>>=_) _ _ s;calc bN (QC e hd (x:=.int i 0) rfl ?_);show PY _ _ (Yr (.ref t)>>=_) _ _ s;calc bN (Rh g j ?_);simp only[Rv,m];calc bN (UN e hd (by simp) (rz #[x,rfl,rz (hQ _ #[_,RH _ e (UZ (Uo hd _)),(Yd ..).trans p,?_] (XC ..))]));rw[Uo hd];simp[S5]
def xh (p:A.handled=gV)(d:s.heap.IsTupleIter it t i)(ht:s.heap.IsTuple t items)(r:items[i]?=gV)(hE:∀h' e,Xn it s.heap h'->(∃o,h'.get? e=U o/\o.cls=.type "StopIteration")->E (.ref e) {s with heap:=h'}):PY (P9 prog w) A (Qt (.ref it)) Q E s:=by
 let(o,j,y,hd):=id d;let(u,g,_,v,l):=ht;let q:=d.typeIs;unfold Qt;calc bN (QX (name:=Qv "__next__") q RT (Rm RT q UA ?_ (Um _)));show PY _ _ (WB (.ref it) 0>>=_) _ _ s;calc bN (QC j hd (x:=.ref t) rfl ?_);show PY _ _ (if(Value.ref t == Value.none)=AD then _ else _) _ _ s;rw[if_neg (show ¬((Value.ref t == Value.none)=AD)from Qf)];show PY _ _ (WB (.ref it) 1>>=_) _ _ s;calc bN (QC j hd (x:=.int i 0) rfl ?_);show PY _ _ (Yr (.ref t)>>=_) _ _ s;calc bN (Rh g l ?_);simp only[Rv,r];calc bN (U7 (bN (UN j hd (by simp) ?_)));show PY _ _ (newExc (.type "StopIteration") []>>=_) _ _ _;calc bN ?_;simp only[newExc,newTuple];calc bN (QW ?_ (by size_fits));refine bN (m:=firstArgMember _ _) (wpAny_of_eq (a:=Value.none) (by first|rfl|(simp only[firstArgMember];rfl)) ?_)
 calc QW ?_ (by size_fits);simp only[raiseNew];refine bN (wpAny_handled ?_)
 first|rw[show A.in1.handled=gV from p]|rw[p]
 calc bN (rz (wpAny_throw ?_));calc hE _ _ (((XC ..).extBut.push _).push _) #[_,P5 _ rfl,rfl]
def qm (d:qI b s.heap it l i)(g:rW b s.heap l items)(e:items[i]?=U x)(hQ:∀h',qI b h' it l (i+1)->R9 it s.heap h'->Q x {s with heap:=h'}):PY (P9 prog w) A (Qt (.ref it)) Q E s:=by
 cases b with
 |false=>calc Tj d g e hQ
 |true=>calc uZ d g e hQ
def xm (m:A.handled=gV)(d:qI b s.heap it l i)(j:rW b s.heap l items)(g:items[i]?=gV)(hE:∀h' e,Xn it s.heap h'->(∃o,h'.get? e=U o/\o.cls=.type "StopIteration")->E (.ref e) {s with heap:=h'}):PY (P9 prog w) A (Qt (.ref it)) Q E s:=by
 cases b with
 |false=>calc UX m d j g hE
 |true=>calc xh m d j g hE
meta abbrev nL(b:Bool)(l:AB):Obj:={cls:=.type (cond b "tuple_iterator" "list_iterator"),data:=.fields #[.ref l,.int 0 0,]}
def za (d:rW b s.heap l items)(e:Q (.ref s⁻¹) {s with heap:=s.heap.push (nL b l)}):PY (P9 prog w) A (Xf (.ref l)) Q E s:=by
 cases b with
 |false=>calc V4 d e
 |true=>calc wpAny_pyIter_tuple d e
meta abbrev Nl(d:Bool)(h:Heap)(l1:AB):Heap:=h.push (nL d l1)
meta abbrev Nn(e d:Bool)(h:Heap)(l1 l2:AB):Heap:=(Nl e h l1).push (nL d l2)
meta abbrev Np(d e:Bool)(h:Heap)(l1 l2:AB):Heap:=(Nn d e h l1 l2).push {cls:=.type "tuple",data:=.seq #[.ref h.objs.size,.ref (Nl d h l1).objs.size,]}
meta abbrev Nq(e d:Bool)(h:Heap)(l1 l2:AB):Heap:=(Np e d h l1 l2).push {cls:=.type "tuple",data:=.seq #[.none,.none,]}
meta abbrev Ky(e d:Bool)(h:Heap)(l1 l2:AB):Heap:=(Nq e d h l1 l2).push {cls:=.type "zip",data:=.fields #[.none,.bool AE,.bool AE,.ref (Nn e d h l1 l2).objs.size,.ref (Np e d h l1 l2).objs.size,]}
def Kz (j l:Bool)(l1 l2:AB)(xs ys:Array eT):
  YJ (RQ.«zip.__new__» #[[.type "zip",.ref l1,.ref l2],[]]) (λ_ R s=>rW j s.heap l1 xs/\rW l s.heap l2 ys/\R (.ok (.ret (.ref (Nq j l s.heap l1 l2).objs.size))) {s with heap:=Ky j l s.heap l1 l2}) :=
 .of_wp λu w A R s h=>by
  let(z,g,d,t,v):=s;let(p,m,h):=h;let y:=sub_zip;let r:rW j (Yy #[z,g,d,t,v]) l1 xs:=p;let q:rW l (Yy #[z.push (nL j l1),g,d,t,v]) l2 ys:=m.at λo e=>u5 _ e
  wp_walk using za r,za q
  calc#[_,rfl,h]
def D6 (e:h.get? i=U (nL b l)):qI b h i l 0:=by
 cases b with
 |false=>calc#[_,e,rfl,rfl]
 |true=>calc#[_,e,rfl,rfl]
def GU (q:rW b1 s.heap l1 xs)(p:rW b2 s.heap l2 ys)(h:∀h',WC h' (s⁻¹+4) (s⁻¹+2) (s⁻¹+3) .none->R5 h' (s⁻¹+2) (.ref s⁻¹) (.ref (s⁻¹+1)) ->
   R5 h' (s⁻¹+3) .none .none->qI b1 h' s⁻¹ l1 0->qI b2 h' (s⁻¹+1) l2 0->h'.objs.size=s⁻¹+5 ->
   (∀c o,s.heap.get? c=U o->h'.get? c=U o)->Q (.ref (s⁻¹+4)) {s with heap:=h'}):
  PY (P9 prog w) A (call (.type "zip") [.ref l1,.ref l2]) Q E s:=by
 calc callType_new PySem.F.called_zip ∅ (PySem.F.typeCall_zip_2 _ _) (PySem.F.newCall_zip_2 _ _) (λm=>PySem.F.args_object_init_3 m _ _) PySem.F.entry_zip_new (Kz b1 b2 l1 l2 xs ys) #[q,p,?_];let l:(Nl b1 s.heap l1).objs.size=s⁻¹+1:=Q6 ..;let j:(Nn b1 b2 s.heap l1 l2).objs.size=s⁻¹+2:=by rw[Q6,l]
 let g:(Np b1 b2 s.heap l1 l2).objs.size=s⁻¹+3:=by rw[Q6,j]
 let d:(Nq b1 b2 s.heap l1 l2).objs.size=s⁻¹+4:=by rw[Q6,g]
 let y:(Ky b1 b2 s.heap l1 l2).objs.size=s⁻¹+5:=by rw[Q6,d]
 let up:∀{h:Heap}{c:AB}{o:Obj}(x:Obj),h.get? c=U o->(h.push x).get? c=U o:=λx e=>u5 _ e;let r:(Ky b1 b2 s.heap l1 l2).get? (Nq b1 b2 s.heap l1 l2).objs.size=U _:=P5 _ rfl;let t:(Ky b1 b2 s.heap l1 l2).get? (Np b1 b2 s.heap l1 l2).objs.size=U _:=up _ (P5 _ rfl);let u:(Ky b1 b2 s.heap l1 l2).get? (Nn b1 b2 s.heap l1 l2).objs.size=U _:=up _ (up _ (P5 _ rfl));let v:(Ky b1 b2 s.heap l1 l2).get? (Nl b1 s.heap l1).objs.size=U (nL b2 l2):=up _ (up _ (up _ (P5 _ rfl)));let z:(Ky b1 b2 s.heap l1 l2).get? s⁻¹=U (nL b1 l1):=up _ (up _ (up _ (up _ (P5 _ rfl))));show _/\_;rw[j,g,d]at r;rw[l,j]at u;rw[g]at t;rw[l]at v;rw[d];calc#[#[_,r,rfl],h _ r u t (D6 z) (D6 v) y λc o x=>up _ (up _ (up _ (up _ (up _ x))))]
def GV {TI TO:AB}(D:UL z TI TO N M l1 l2)(Y:WC s.heap z TI TO .none)(ai:R5 s.heap TI (.ref N) (.ref M))(ah:R5 s.heap TO a b)(h1:qI b1 s.heap N l1 k1)(h2:qI b2 s.heap M l2 k2)(hl1:rW b1 s.heap l1 xs)(hl2:rW b2 s.heap l2 ys)(hx:xs[k1]?=U x)(hy:ys[k2]?=U y)(hQ:∀h',WC h' z TI TO (S5 s⁻¹)->R5 h' TO x y->qI b1 h' N l1 (k1+1)->qI b2 h' M l2 (k2+1)->R5 h' s⁻¹ x y->h'.objs.size=s⁻¹+1 ->
   (∀c o,c≠z->c≠TO->c≠N->c≠M->s.heap.get? c=U o->h'.get? c=U o)->Q (U (.ref s⁻¹)) {s with heap:=h'}):
  PY (P9 prog w) A (SR (.ref z)) Q E s:=by
 let ag:s.TypeIs (.ref z) "zip":=#[_,Y,rfl];unfold SR;calc bN (SA (QX (name:=Qv "__next__") ag Q0 (Rm Q0 ag Su ?_ (Se _))));show PY _ _ (WB (.ref z) 2>>=_) _ _ _;calc bN (QC Y rfl (x:=.bool AE) rfl ?_);show PY _ _ (WB (.ref z) 3>>=_) _ _ _;calc bN (QC Y rfl (x:=.ref TI) rfl (bN (Rh ai rfl ?_)));show PY _ _ (QA (.ref z)>>=_) _ _ _;calc bN ?_;unfold QA;calc bN (QC Y rfl (x:=.none) rfl (rz ?_));simp only[if_true];calc bN (U7 (bN (QC Y rfl (x:=.ref TO) rfl ?_)));refine bN (R4 Y (by simp) λad B g=>?_)
 replace B:WC ad z TI TO .ellipsis:=B
 calc bN ?_;simp only[Ys,List.zipIdx_nil,Sl,SK];calc bN (bN (Vb ?_));show PY _ _ (Qt (.ref N)>>=_) _ _ _;calc bN (qm (h1.extBut g.extBut D.i1z) (hl1.extBut g.extBut D.l1z) hx λac W l=>rz ?_);let I:R5 ac TO a b:=l.extBut _ _ D.TOi1 (g.extBut _ _ D.TOz ah);refine bN (Rh I rfl (bN (Vh I λab t j=>?_)))
 replace t:R5 ab TO x b:=t
 calc bN (wpAny_letGo (rz ?_));calc bN (bN (Vb ?_));show PY _ _ (Qt (.ref M)>>=_) _ _ _;calc bN (qm (((h2.extBut g.extBut D.i2z).extBut l.extBut D.i12.symm).extBut j.extBut D.TOi2.symm) (((hl2.extBut g.extBut D.l2z).extBut l.extBut D.l2i1).extBut j.extBut D.l2TO) hy λaa gD q=>rz ?_);let H:R5 aa TO x b:=q.extBut _ _ D.TOi2 t;refine bN (Rh H rfl (bN (Vh H λd m p=>?_)))
 replace m:R5 d TO x y:=m
 calc bN (wpAny_letGo (rz (rz (bN (Rh m rfl (bN (wpAny_newTuple ?_)))))));let af:d.objs.size=s⁻¹:=by rw[p.1,q.1,j.1,l.1,g.1]
 let J:WC d z TI TO .ellipsis:=p.extBut _ _ D.TOz.symm (q.extBut _ _ D.i2z.symm (j.extBut _ _ D.TOz.symm (l.extBut _ _ D.i1z.symm B)));let S:∀c o,c≠z->c≠TO->c≠N->c≠M->s.heap.get? c=U o->d.get? c=U o:=λc o X c2 c3 c4 e=>p.extBut _ _ c2 (q.extBut _ _ c4 (j.extBut _ _ c2 (l.extBut _ _ c3 (g.extBut _ _ X e))));let V:qI b1 d N l1 (k1+1):=((W.extBut j.extBut D.TOi1.symm).extBut q.extBut D.i12).extBut p.extBut D.TOi1.symm;let T:qI b2 d M l2 (k2+1):=gD.extBut p.extBut D.TOi2.symm;let O:z<d.objs.size:=P0 J;show PY _ _ (T3 (.ref z) (.ref d.objs.size)>>=_) _ _ _;calc bN ?_;unfold T3;let R:WC (d.push {cls:=.type "tuple",data:=.seq #[x,y,]}) z TI TO .ellipsis:=u5 _ J;refine bN (R4 R (by simp) λZ v G=>?_)
 replace v:WC Z z TI TO (S5 d.objs.size):=v
 refine R4 v (by simp) λu r C=>?_
 replace r:WC u z TI TO (S5 d.objs.size):=r
 let up:∀c o,c≠z->d.get? c=U o->u.get? c=U o:=λc o X e=>C.extBut _ _ X (G.extBut _ _ X (u5 _ e));let L:R5 u d.objs.size x y:=C.extBut _ _ (Tf O) (G.extBut _ _ (Tf O) (P5 _ rfl));let ae:u.objs.size=d.objs.size+1:=by rw[C.1,G.1,Q6]
 rw[af]at r L ae;calc rz #[_,rfl,rz ?_];show Q (U (.ref d.objs.size)) _;rw[af];calc hQ u r (up _ _ D.TOz m) (V.at λo e=>up _ o D.i1z e) (T.at λo e=>up _ o D.i2z e) L ae λc o X c2 c3 c4 e=>up c o X (S c o X c2 c3 c4 e)
def KA {TI TO:AB}{V:Nat}(hh:A.handled=gV)(D:UL z TI TO I H l1 l2)(J:WC s.heap z TI TO .none)(Z:R5 s.heap TI (.ref I) (.ref H))(Y:R5 s.heap TO a b)(h1:qI b1 s.heap I l1 W)(h2:qI b2 s.heap H l2 V)(hl1:rW b1 s.heap l1 xs)(hl2:rW b2 s.heap l2 ys)(hend:xs[W]?=gV\/ys[V]?=gV)(hQ:∀h',(∀c o,c≠z->c≠TO->c≠I->c≠H->s.heap.get? c=U o->h'.get? c=U o)->Q gV {s with heap:=h'}):PY (P9 prog w) A (SR (.ref z)) Q E s:=by
 let O:s.TypeIs (.ref z) "zip":=#[_,J,rfl]
 let B:∀(h':Heap) (e:AB),(∀c o,c≠z->c≠TO->c≠I->c≠H->s.heap.get? c=U o->h'.get? c=U o)->(∃o,h'.get? e=U o/\o.cls=.type "StopIteration") ->
   PY (P9 prog w) A (do if(←XZ (.ref e) (.type "StopIteration"))then pure gV else throw (.ref e)) Q E {s with heap:=h'}:=λh' e hk ⟨o,ho,hc⟩ =>
  bN (R6 (T:="StopIteration") (b:=AD) #[o,ho,hc] Xl (rz (hQ _ hk)))
 unfold SR;calc bN (SA (QX (name:=Qv "__next__") O Q0 (Rm Q0 O Su ?_ (Se _))));show PY _ _ (WB (.ref z) 2>>=_) _ _ _;calc bN (QC J rfl (x:=.bool AE) rfl ?_);show PY _ _ (WB (.ref z) 3>>=_) _ _ _;calc bN (QC J rfl (x:=.ref TI) rfl (bN (Rh Z rfl ?_)));show PY _ _ (QA (.ref z)>>=_) _ _ _;calc bN ?_;unfold QA;calc bN (QC J rfl (x:=.none) rfl (rz ?_));simp only[if_true];calc bN (U7 (bN (QC J rfl (x:=.ref TO) rfl ?_)));refine bN (R4 J (by simp) λN l d=>?_)
 replace l:WC N z TI TO .ellipsis:=l
 calc bN ?_;simp only[Ys,List.zipIdx_nil,Sl,SK];calc bN (bN (Vb ?_));show PY _ _ (Qt (.ref I)>>=_) _ _ _
 cases hx:xs[W]? with
 |none =>
  calc bN (xm hh (h1.extBut d.extBut D.i1z) (hl1.extBut d.extBut D.l1z) hx λq e g X=>?_);let(gD,m,y):=X;let t:WC q z TI TO .ellipsis:=g _ _ D.i1z.symm l;let G:e≠z:=λx=>by subst x;rw[t]at m;cases m;simp at y
  calc R4 t (by simp) λC _ j=>B C e (λc o R _ c3 _ x=>j.extBut _ _ R (g _ _ c3 (d.extBut _ _ R x))) #[gD,j.extBut _ _ G m,y]
 |some x =>
  let hy:ys[V]?=gV:=by
   rcases hend with h|h
   .rw[hx]at h;cases h
   .exact h
  calc bN (qm (h1.extBut d.extBut D.i1z) (hl1.extBut d.extBut D.l1z) hx λq aa g=>rz ?_);let p:R5 q TO a b:=g.extBut _ _ D.TOi1 (d.extBut _ _ D.TOz Y);calc bN (Rh p rfl (bN (Vh p λC S j=>?_)));calc bN (wpAny_letGo (rz ?_));calc bN (bN (Vb ?_));show PY _ _ (Qt (.ref H)>>=_) _ _ _;calc bN (xm hh (((h2.extBut d.extBut D.i2z).extBut g.extBut D.i12.symm).extBut j.extBut D.TOi2.symm) (((hl2.extBut d.extBut D.l2z).extBut g.extBut D.l2i1).extBut j.extBut D.l2TO) hy λM e v X=>?_);let(gD,m,y):=X;let r:WC M z TI TO .ellipsis:=v _ _ D.i2z.symm (j.extBut _ _ D.TOz.symm (g.extBut _ _ D.i1z.symm l));let G:e≠z:=λx=>by subst x;rw[r]at m;cases m;simp at y
  calc R4 r (by simp) λL _ u=>B L e (λc o R c2 c3 c4 x=>u.extBut _ _ R (v _ _ c4 (j.extBut _ _ c2 (g.extBut _ _ c3 (d.extBut _ _ R x))))) #[gD,u.extBut _ _ G m,y]
meta def mW(K:cB)(b:Bool)(H:Hp)(p:AB)(xs:MC V):Prop:=match b with|false=>aV K H p xs|true=>b9 K H p xs
def mG (I:Inv X g q H s)(h:mW X.K c H p xs):∃d:List eT,Vals xs d/\rW c s.heap p d.toArray/\⇑xs<=my:=by
 cases c with
 |false =>
  let(d,j,l,m):=I.list h;calc#[d,j,l.isList,m]
 |true =>
  let(d,j,l,m):=I.tuple h;calc#[d,j,(show Heap.IsTuple _ _ _ by let(o,e,r):=l;calc#[o,e,r]),m]
def Inv.xo {j:List AB}(I:Inv X pins σ H s)(l:∀b∈j,pR X pins H b)(k:∀b o,b∉j->s.heap.get? b=U o->h'.get? b=U o):Inv X pins σ H {s with heap:=h',toks:=t'}:=by
 let g:∀b u,H b=U u->b∉j:=λb u e z=>by rw[(l b z).1]at e;cases e
 let B:X.env.locals∉j:=λz=>(l _ z).2.1 rfl
 refine I.step (g':=s.gens) (d':=s.drawn) (ch:=j) (λb y=>?_) (λb o _ _ d e _=>k b o d e) (λb o _ _ d e _=>#[o.slots,k b o d e]) (λ_ _ _ _ n=>n)
  (λb o d e=>#[o,k b o d e]) (λ_ _ e=>e) (λ_ _ _ e=>e) (λb N e=>#[#[],by rw[e];simp]) (λm t=>?_) (λb u e=>?_) I.bare
 .have(_,J,_,G,D,C):=l b y;exact#[G,J,D,C]
 .have(o,L,M,p,r):=t;exact#[o,L,M,k _ o B p,r]
 .refine(I.hok b u e).stay (λc v d q=>k c v ?_ q) (λ_ q=>q) λ_ _ q=>q;rcases d with z|z
  .rw[z];exact g b u e
  .exact g c _ z
def Inv.xr {j:List AB}(I:Inv X pins σ H s)(p:∀b∈j,pR X pins H b)(k:∀b o,b∉j->s.heap.get? b=U o->h'.get? b=U o)(t:s⁻¹<=a)(new:eW X.prog X.w (upd H a o) h' a o):
  Inv X pins σ (upd H a o) {s with heap:=h',toks:=t'}:=by
 let g:∀b u,H b=U u->b∉j:=λb u e z=>by rw[(p b z).1]at e;cases e
 let D:X.env.locals∉j:=λz=>(p _ z).2.1 rfl;let B:H a=gV:=I.hok.fresh t;let up:∀b u,H b=U u->upd H a o b=U u:=λb u e=>by rw[aB (ay e B)];exact e
 refine I.step (g':=s.gens) (d':=s.drawn) (ch:=j) (λb l=>?_) (λb o _ _ d e _=>k b o d e) (λb o _ _ d e _=>#[o.slots,k b o d e]) (λb R _ e n=>?_)
  (λb o d e=>#[o,k b o d e]) (λb _ e=>up b _ e) (λb _ _ e=>up b _ e) (λb Q e=>#[#[],by rw[up b _ e];simp]) (λm C=>?_) (λb u e=>?_) I.bare
 .have(_,M,_,L,J,G):=p b l;exact#[L,M,J,G]
 .rw[aB (Qs (P8 (P0 e) t))];exact n
 .have(o,N,O,y,r):=C;exact#[o,N,O,k _ o D y,r]
 .by_cases l:b=a
  .subst l;rw[aj]at e;cases e;exact new
  .rw[aB l]at e;calc(I.hok b u e).stay (λc v d q=>k c v ?_ q) (λc q=>up c _ q) λc _ q=>up c _ q;rcases d with z|z
   .rw[z];exact g b u e
   .exact g c _ z
meta def LL (K : cB) (j : Bool) (l1 : AB) (g : Bool) (l2 : AB) : It :=
  #[λi H => ∃ e d x y, mW K j H l1 e ∧ mW K g H l2 d ∧ e[i]? = U x ∧ d[i]? = U y,
   λi H v l => ∃ p x y, H p = gV ∧ v = .ref p ∧ l = upd H p (.J [x, y]) ∧ (∀ e, mW K j H l1 e -> e[i]? = U x) ∧ ∀ d, mW K g H l2 d -> d[i]? = U y,
   λi H => ∃ e d, mW K j H l1 e ∧ mW K g H l2 d ∧ (⇑e ≤ i ∨ ⇑d ≤ i)]
def mW.inj (I:Inv X d g H s)(h:mW X.K b H a xs)(e:mW X.K b H a ys):xs=ys:=by
 cases b with
 |false=>calc I.yx h e
 |true=>calc I.qO h e
def D7 {K:cB}{T:MC Expr}(z TI TO N M l1 l2:AB)(D:UL z TI TO N M l1 l2):Turn P w K (.Tuple T x1 pos) (LL K b1 l1 b2 l2) [z,TI,TO,N,M] z
  (λi h=>WC h z TI TO .none/\R5 h TI (.ref N) (.ref M)/\(∃a b,R5 h TO a b)/\qI b1 h N l1 i/\qI b2 h M l2 i) where
 mem:=by simp
 obj:=λi h r b j=>by
  let(C,g,(a,c,m),J,G):=r
  let R:∀{b:Bool}{i l:AB}{k:Nat},qI b h i l k->∃o,h.get? i=U o/\∀v,o.data≠.cell v:=λ{b i l k} q=>by
   cases b with
   |false=>let(o,e,_,d):=(show h.IsListIter i l k from q);calc#[o,e,λv z=>by rw[d]at z;cases z]
   |true=>let(o,e,_,d):=(show h.IsTupleIter i l k from q);exact#[o,e,λv z=>by rw[d]at z;cases z]
  simp only[P1,Qo,or_false]at j;rcases j with rfl|rfl|rfl|rfl|rfl
  .exact#[_,C,λv z=>by cases z]
  .exact#[_,g,λv z=>by cases z]
  .exact#[_,m,λv z=>by cases z]
  .exact R J
  .exact R G
 keep:=λi h h' r k=>by
  let(C,g,(a,c,m),J,G):=r;exact#[k z (by simp) _ C,k TI (by simp) _ g,#[a,c,k TO (by simp) _ m],J.at λo e=>k N (by simp) o e,G.at λo e=>k M (by simp) o e]
 item:=by
  intro X hP hw hK hc i Q s σ H E I Y r hg;subst hP hw hK;let(xs,ys,x,y,B,t,hx,hy):=hg;let(C,g,(a,c,m),J,G):=r;let(ab,rv,p1,_):=mG I B;let(aa,L,p2,_):=mG I t;let(u,hu,ru):=rv.get hx;let(v,hv,Z):=L.get hy;calc GV D C g m J G p1 p2 (x:=u) (y:=v) (by simpa using hu) (by simpa using hv) λh' a1 a2 a3 a4 a5 a6 V=>?_;refine#[.ref s⁻¹,rfl,wpAny_letOwnedTupleGo_zip (s:={s with heap:=h'}) a1 λS ac p=>?_]
  let np:∀b∈[z,TI,TO,N,M],b≠s⁻¹:=λb j e=>by
   obtain⟨o,e2⟩:∃o,s.heap.get? b=U o:=by
    simp only[P1,Qo,or_false]at j;rcases j with rfl|rfl|rfl|rfl|rfl
    .exact#[_,C]
    .exact#[_,g]
    .exact#[_,m]
    .exact J.got
    .exact G.got
   let:=P0 e2;rw[e]at this;exact Q8 _ this
  let kk:∀b o,b∉[z,TI,TO,N,M]->s.heap.get? b=U o->S.get? b=U o:=λb o j e=>by
   simp only[P1,Qo,or_false,not_or]at j;let(n1,n2,n3,n4,n5):=j;exact p.extBut _ _ n1 (V b o n1 n3 n4 n5 e)
  let gD:R5 S s⁻¹ u v:=p.extBut _ _ (np z (by simp)).symm a5
  refine#[.ref s⁻¹,upd H s⁻¹ (.J [x,y]),I.xr (t':=s.toks) Y kk (u4 _) #[(by show 2<=my;decide),_,.cons ru (.cons Z .nil),#[_,gD,rfl,_,rfl],_,gD,rfl],rfl,
   #[_,x,y,I.hok.fresh (u4 _),rfl,rfl,λzs O=>by rw[mW.inj I O B];calc hx,λzs O=>by rw[mW.inj I O t];calc hy],?_,λb j=>?_]
  .exact#[ac,p.extBut _ _ D.TIz (V TI _ D.TIz D.TITO D.TIi1 D.TIi2 g),#[u,v,p.extBut _ _ D.TOz a2],a3.extBut p.extBut D.i1z,a4.extBut p.extBut D.i2z]
  .rw[aB (np b j)];exact(Y b j).1
 done:=by
  intro X hP hw hK hc i Q s σ H E I Y r hg;subst hP hw hK;let(xs,ys,B,t,hl):=hg;let(C,g,(a,c,m),J,G):=r;let(ab,rv,p1,_):=mG I B;let(aa,L,p2,_):=mG I t;let e1:=⇑rv;let e2:=⇑L;refine KA (I.ok.hd hc) D C g m J G p1 p2 ?_ λh' V=>#[rfl,I.xo (t':=s.toks) Y λb o j e=>?_]
  .rcases hl with hl|hl
   .refine .inl ?_;simp;omega
   .refine .inr ?_;simp;omega
  .simp only[P1,Qo,or_false,not_or]at j;exact V b o j.1 j.2.2.1 j.2.2.2.1 j.2.2.2.2 e
 self:=λ_ _ _ _ _ r h=>WJ r.1 h
meta def NX(K:cB)(t:TA):TI:=λj H R=>t j H λo d=>∃g e p q m l,o=[.ref p,.ref q]/\mW K g d p m/\mW K e d q l/\R (LL K g p e q) d
def D8 (K:cB)(hK:X.K=K)(hg:Gl X "zip")(hm:X.mg "zip"=gV)(ha:PA X [a,b] t)(he:QS [a,b] X.env=(AE,eval a X.env)::QS [b] X.env:=by rfl)(hpl:(UC v (QS [b] X.env)).any (·.1)=AE:=by rfl):PI X (.Tuple m M pos) (.Call (.Name "zip" O) [a,b] [] v) (NX K t):=by
 subst hK;intro j s L H R I h;calc Rx (ni I hg hm boot_zip ?_ ∅ ∅);calc Ru ?_ he hpl;calc cQ (ha v j s L H _ I h) λus d ⟨vs,H1,o,r,q1⟩=>?_;let(c1,c2,p,q,xs,ys,rfl,Y,V,hq):=q1;let(u,w',rfl,r,r2):=vals2 r
 cases r
 cases r2
 let(gD,rv,C,_):=mG o Y;let(T,N,B,_):=mG o V;let S:@LT.lt Nat _ p d⁻¹:=by let(_,e):=C.got;exact P0 e
 let Q:@LT.lt Nat _ q d⁻¹:=by let(_,e):=B.got;exact P0 e
 refine GU C B λg G z y h1 h2 Z hk=>?_
 let D:UL (d⁻¹+4) (d⁻¹+2) (d⁻¹+3) d⁻¹ (d⁻¹+1) p q:=by
  refine#[?_,?_,?_,?_,?_,?_,?_,?_,?_,?_,?_,?_,?_,?_,?_,?_,?_,?_]<;>(show @Ne Nat _ _;omega)
 calc WJ (s:={d with heap:=g}) G ?_;refine#[d⁻¹+4,[d⁻¹+4,d⁻¹+2,d⁻¹+3,d⁻¹,d⁻¹+1],_,_,H1,rfl,o.kept (t':=d.toks) hk,D7 _ _ _ _ _ p q D,#[G,z,#[_,_,y],h1,h2],λb J=>?_,hq]
 let l:d⁻¹<=b:=by
  simp only[P1,Qo,or_false]at J;rcases J with rfl|rfl|rfl|rfl|rfl
  .exact RA _ 4
  .exact RA _ 2
  .exact RA _ 3
  .exact u4 _
  .exact RA _ 1
 calc o.BW l (o.hok.fresh l)
def GW {K:cB}{g:TG}{C:TS}{D:Ends}(j:Nat->St->Hp->Prop)(S:j 0 d H)(z:∀i d H,i<=min ⇑xs ⇑ys->j i d H->mW K r H a xs)(v:∀i d H,i<=min ⇑xs ⇑ys->j i d H->mW K q H b ys)(hs:∀i x y d H p,xs[i]?=U x->ys[i]?=U y->j i d H->H p=gV->g (.ref p) d (upd H p (.J [x,y])) λl B=>C {D with nx:=j (i+1),ct:=j (i+1),bk:=D.nx} l B)(hd:∀d H,j (min ⇑xs ⇑ys) d H->D.nx d H):
  ∃W:Nat->Nat->St->Hp->Prop,(∃m,W 0 m d H)/\∀i m d H,W i m d H ->
   ((LL K r a q b).stop i H/\D.nx d H)\/((LL K r a q b).go i H/\∃N:St->Hp->Prop,(∀σ' o,N σ' o->∃m',m' < m/\W (i+1) m' σ' o)/\∀x o,(LL K r a q b).yld i H x o->g x d o λl B=>C {D with nx:=N,ct:=N,bk:=D.nx} l B):=by
 generalize hn:min ⇑xs ⇑ys=n at *;calc#[λi m d H=>m=n-i/\i<=n/\j i d H,#[n,by simp,Qc _,S],?_];rintro i m d H ⟨rfl,G,p⟩;let q1:=z i d H G p;let t:=v i d H G p
 by_cases u:i<n
 .have Q:i<⇑xs:=()
  let O:i<⇑ys:=()
  calc .inr #[#[xs,ys,xs[i],ys[i],q1,t,by simp[Q],by simp[O]],j (i+1),λσ' o M=>#[n - (i+1),(),rfl,u,M],λx o y=>?_];let(L,J,I,R,rfl,rfl,gD,T):=y;exact hs i J I d H L (gD xs q1) (T ys t) p R
 .have e:i=n:=()
  subst e;calc .inl #[#[xs,ys,q1,t,()],hd d H p]
def Ea {K:cB}(j:Nat->St->MC V->Hp->Prop)(G:j 0 σ0 [] H0)(l:∀i d vs H,i<=min ⇑xs ⇑ys->j i d vs H->⇑vs<=i)(hn:min ⇑xs ⇑ys<=my)(hl1:∀i d vs H,i<=min ⇑xs ⇑ys->j i d vs H->mW K q H a xs)(hl2:∀i d vs H,i<=min ⇑xs ⇑ys->j i d vs H->mW K o H b ys)(hs:∀i x y d vs H p,xs[i]?=U x->ys[i]?=U y->j i d vs H->H p=gV->g (.ref p) d (upd H p (.J [x,y])) λe M=>tt e M λok r=>if ok=AD then te e r λv L=>j (i+1) e (vs++[v]) L else j (i+1) e vs r)(hd:∀d vs H,j (min ⇑xs ⇑ys) d vs H->∀p,H p=gV->Q (.ref p) (upd H p (.Y vs))):mU (LL K q a o b) g tt te Q σ0 H0:=by
 refine sJ (min ⇑xs ⇑ys) j G l hn (λi d vs H m p=>?_) (λd vs H p=>#[xs,ys,hl1 _ d vs H (u4 _) p,hl2 _ d vs H (u4 _) p,()]) (λi d vs H x N m p y=>?_) hd
 .have C:i<⇑xs:=()
  let B:i<⇑ys:=()
  exact#[xs,ys,xs[i],ys[i],hl1 i d vs H (QB m) p,hl2 i d vs H (QB m) p,by simp[C],by simp[B]]
 .have(z,u,t,D,rfl,rfl,J,I):=y;calc hs i u t d vs H z (J xs (hl1 i d vs H (QB m) p)) (I ys (hl2 i d vs H (QB m) p)) p D
end L2
namespace G16
open PySem L2
def Eb {ns:MC Int}:pK (.int n) (ns.map V.int)=decide (n∈ns):=by
 unfold pK
 by_cases h:n∈ns
 .rw[decide_eq_true h,Yt];exact#[.int n,QI h,show(n == n)=AD from beq_self_eq_true n]
 .rw[decide_eq_false h,UD];intro y g e;let(z,d,rfl):=Qa.mp g;let:z=n:=Sd (show(z == n)=AD from e);calc h (this▸d)
def uf {xs:List AA}:pK (.str x) (xs.map V.str)=decide (x∈xs):=by
 unfold pK
 by_cases h:x∈xs
 .rw[decide_eq_true h,Yt];exact#[.str x,QI h,show(x == x)=AD from beq_self_eq_true x]
 .rw[decide_eq_false h,UD];intro y g e;let(z,d,rfl):=Qa.mp g;let:z=x:=Sd (show(z == x)=AD from e);calc h (this▸d)
def Cj (ns:MC Int):(ns.map V.int).all oU=AD:=by
 rw[QY];intro y d;let(z,_,rfl):=Qa.mp d;rfl
def oh (xs:List AA):(xs.map V.str).all oU=AD:=by
 rw[QY];intro y d;let(z,_,rfl):=Qa.mp d;rfl
meta def cy(d:List AA):List AA->AF AA
 | []=>gV
 |x::r=>if x∈d then U x else cy (d++[x]) r
def Ec {xs:List AA}(h:xs[i]?=U x):cy (xs.take i) (xs.drop i)=if x∈xs.take i then U x else cy (xs.take (i+1)) (xs.drop (i+1)):=by
 let d:=(eF.mp h).1;let g:xs.drop i=x::xs.drop (i+1):=by rw[QV d,(eF.mp h).2]
 let e:xs.take (i+1)=xs.take i++[x]:=by rw[we d,(eF.mp h).2]
 rw[g,e];rfl
def zb (h:mW K b H p xs)(s:aS H d):mW K b d p xs:=by
 cases b with
 |false=>calc s.seq (show aV K H p xs from h)
 |true=>calc b9.Z s (show b9 K H p xs from h)
end G16
namespace L2
open PySem PySem.Spec PyProof.Rows
def sG {os:OsState}(F:ExcBaseFacts B newId initId bmB)(T:YC h bmB bm){rest:List eT}(hC:h.get? C=U (Td nm q C N bs bm hdct sn sub ab col dd k0 k1 k2 k3 k5 newId))(hn:h.Ns N G)(hi:G "__init__"=U (.ref z))(hfI:h.get? z=U D)(hfc:D.cls=.type "function")(hq:∀h' e,Heap.MadeExcOf h h' e (.ref C) rest->h.objs.size<=e ->
   PY (P9 prog w) A (call (.ref z) (.ref e::rest)) (λr s'=>r=.none/\Q (.done (.ret (.ref e))) s') E #[h',g,d,t,os])(hrest:rest.length<=my):
  PY (P9 prog w) A (RQ.«type.__call__» #[.ref C::rest,[]]) Q E #[h,g,d,t,os]:=by
 repeat (first|with_reducible calc Sg hC ?_|with_reducible calc wpAny_madeBy_exc hC ?_|wp_step)
 calc codeAny_call_builtin_code (X0 _ F.quiet) (wpAny_check_new_subT F T hC ?_);calc codeAny_exc_new_subT F T hC ?_ hrest;show PY _ _ _ _ _ _;generalize ee:({cls:=.ref C,data:=.fields #[.ref h.objs.size,.none,.none,.none,.bool AE,.none,]}:Obj)=oe;let kp:∀b o,h.get? b=U o->((h.push {cls:=.type "tuple",data:=.seq rest.toArray}).push oe).get? b=U o:=λb o e=>u5 _ (u5 _ e);let j:=kp _ _ hC;let l:=kp _ _ hfI;let p:=hn.keeps kp;let u:=T.keeps kp
 let m:((h.push {cls:=.type "tuple",data:=.seq rest.toArray}).push oe).get? (h.objs.size+1)=U oe:=by
  subst ee
  heap_get
 let v:oe.cls=.ref C:=by rw[<-ee]
 let y:(Value.ref C::bm).contains (.ref C)=AD:=by simp
 unfold XZ
 repeat (first|(with_reducible calc Sg m ?_;rw[v])|(with_reducible calc T8 j ?_;rw[y])|wp_step)
 show PY _ _ (VH (.ref C) _) _ _ _;calc wpAny_typeLookup_tail j p u F.mroIs F.init.lookup ?_;rw[hi];calc QG (bN ?_);unfold bindSpecial;calc bN (SY (T:="function") #[_,l,hfc] ?_);rw[if_pos ∅];refine rz (bN (Qu (hq _ (h.objs.size+1) #[kp,Ve (QT _),h.objs.size,by rw[m,<-ee],Ve (u4 _),?_] (QT _)) (λr s' hr=>?_) λ_ _ x=>x))
 .exact u5 _ (Ye rfl rfl)
 .have(rfl,H):=hr
  wp_walk
  calc H
def Aw {os:OsState}(F:ExcBaseFacts B newId initId bmB)(T:YC h bmB bm){rest:List eT}(hC:h.get? C=U (Td nm q C N bs bm hdct sn sub ab col dd k0 k1 k2 k3 k5 newId))(hn:h.Ns N m)(hi:m "__init__"=U (.ref j))(hfI:h.get? j=U l)(hfc:l.cls=.type "function")(hq:∀h' e,Heap.MadeExcOf h h' e (.ref C) rest->h.objs.size<=e ->
   PY (P9 prog w) (A.under (.builtin "type.__call__" #[.ref C::rest,[]])) (call (.ref j) (.ref e::rest)) (λr s'=>r=.none/\Q (.ref e) s') E #[h',g,d,t,os])(hrest:rest.length<=my):
  PY (P9 prog w) A (call (.ref C) rest) Q E #[h,g,d,t,os]:=by
 let y:=tc_lookup;let v:=tc_bind (.ref C);let u:(#[h,g,d,t,os]:fy).TypeIs (.ref C) "type":=#[_,hC,rfl];calc U8 (codeAny_of_tree ?_);show PY _ _ (callAny (.ref C) _) _ _ _
 repeat (any_goals (first|assumption|with_reducible calc Sg hC ?_|wp_step))
 calc#[rfl,?_];exact codeAny_call_builtin_at (X0 _ ∅) entry_typeCall (wpAny_check_type_call_sub hC (sG F T hC hn hi hfI hfc (λh' e p o=>hq h' e p o) hrest))
open PySem.W
meta abbrev iG:List eT:=[.type "ValueError",.type "Exception",.type "BaseException",.type "object"]
meta def cP:List eT->Bool
 |.ref _::r=>cP r
 |l=>l == iG
def rX :cP (.ref c::r)=cP r:=rfl
theorem ug (d:eT):∀{l:List eT},cP l=AD->refuseLoop d "__setattr__" l=pure Unit.unit
 |.ref c::r,e=>by rw[refuseLoop_ref];calc ug d (by rw[rX]at e;calc e)
 | [],e=>by cases e
 |.type n::r,e=>by
  let g:(.type n::r:List eT)=iG:=by unfold cP at e;exact beq_iff_eq.mp e
  rw[g];calc PySem.F.store_ValueError.passes d
 |.none::r,e=>by unfold cP at e;cases e
 |.bool _::r,e=>by unfold cP at e;cases e
 |.int _ _::r,e=>by unfold cP at e;cases e
 |.str _ _::r,e=>by unfold cP at e;cases e
 |.bytes _ _::r,e=>by unfold cP at e;cases e
 |.float _ _::r,e=>by unfold cP at e;cases e
 |.builtin _::r,e=>by unfold cP at e;cases e
 |.ellipsis::r,e=>by unfold cP at e;cases e
open Builtin Builtin.ObjectAttr
theorem rY :∀{l:List eT},cP l=AD->l.contains (.type "object")=AD/\l.isEmpty=AE
 |.ref c::r,e=>by rw[rX]at e;rw[SM,(rY e).1,Vz];calc#[rfl,rfl]
 | [],e=>by cases e
 |.type n::r,e=>by
  let d:(.type n::r:List eT)=iG:=by unfold cP at e;exact beq_iff_eq.mp e
  rw[d];calc#[∅,rfl]
 |.none::r,e=>by unfold cP at e;cases e
 |.bool _::r,e=>by unfold cP at e;cases e
 |.int _ _::r,e=>by unfold cP at e;cases e
 |.str _ _::r,e=>by unfold cP at e;cases e
 |.bytes _ _::r,e=>by unfold cP at e;cases e
 |.float _ _::r,e=>by unfold cP at e;cases e
 |.builtin _::r,e=>by unfold cP at e;cases e
 |.ellipsis::r,e=>by unfold cP at e;cases e
meta def sL(K:Frag)(C:AB):Bool:=(clsIn K C).any λd=>cP d.mro&&d.hasDict
meta def iH(w:Qe)(name:AA)(d:Tok)(v:eT):Obj:=Obj.putName name (VQ w.params name) (.str name d) v {cls:=.type "dict",data:=.dict #[]}
def rZ (w:Qe)(name:AA)(d:Tok)(v:eT):∃n,(iH w name d v).data=.dict #[#[VQ w.params name,.str name d,v],] n/\(iH w name d v).cls=.type "dict"/\(iH w name d v).dict=gV:=by
 refine#[1,?_,?_,?_]<;>rfl
def GX {K:Frag}(X:K.In s.heap)(I:InstAt s.heap x ox C gV)(hp:sL K C=AD)(ht:UQ K C name=U gV)(go:∀h',h'.get? x=U {ox with dict:=U s⁻¹}->h'.get? s⁻¹=U (iH w name s.toks v)->(∀b o,b≠x->s.heap.get? b=U o->h'.get? b=U o) ->
   s⁻¹<h'.objs.size->R (.ok (.ret .none)) {s with heap:=h',toks:=s.toks+1}):
  RS (P9 prog w) A (.call (.builtin "object.__setattr__") #[[.ref x,.str name u,v],[]]) R s:=by
 let(j,g,d,t,Y):=s;dsimp only at X I go;let B:=PySem.F.store_object;let(cd,S,N):=any_some hp;let(Z,Q):=Bool.and_eq_true_iff.mp N;let q:=rY Z
 let M:Looks (P9 prog w) j (XZ (.ref x) (.type "object")) AD :=
  I.type.andThen (looks_mroIn X (by unfold mroIn;rw[S,SE,if_neg (by rw[q.2];decide),q.1]))
 let G:=@check_slot (P9 prog w) A.in1 (λe p=>R (.error e) p) #[j,g,d,t,Y] "object.__setattr__" "object" "__setattr__" (.ref x) [.str name u,v] [];calc Vi B.slot.plain B.entry (G B.kind B.split M (B.args (.ref x) (.str name u) v) ?_);clear G;let(m,ha,hr):=Ux.mp ht;let hm:Looks (P9 prog w) j (mroOf (.ref C)) cd.mro:=(looks_clsIn X S).andThen .now
 let J:Looks (P9 prog w) j (storeTaker? m) gV:=by
  match m,hr with
  |none,_=>calc .now
  |some a,hr =>
   let(b,T,e):=IF.mp hr;refine(looks_takesIn X T).andThen ?_
   cases b
   .exact .now
   .cases e
 rw[osa_eq,refuse_eq];calc bN (bN (I.type.here (bN (hm.here ?_))));rw[ug _ Z];calc rz (bN (I.type.here (bN ((Yg X ha).here (bN (J.here ?_))))));let(H,D,hn,z):=I;let(oc,L,r,aa):=ox;dsimp only at D z;subst D
 cases L with
 |some _=>calc z.elim
 |none =>
 calc bN (rz (bN (bN (VE H (bN ((looks_clsIn X S).here ?_))))));rw[Q];let nc:∀c,r≠.cls c:=by intro c e;rw[e]at hn;cases hn
 generalize eD:({cls:=.type "dict",data:=.dict #[]}:Obj)=oD;let W:=u5 oD H;let V:x≠j.objs.size:=Qs (P0 H)
 let fin:PY (P9 prog w) A.in1 (alloc oD>>=λdx=>(update x λo=>{o with dict:=U dx})>>=λ_=>pure (U dx)) (λod y =>
   PY (P9 prog w) A.in1 (match od with|some d=>storeInDict d (.str name u) name v|none=>noDictFor (.ref x) (.ref C) name m.isSome)
    (λfin p=>match fin with|.done f=>R (.ok f) p|.again c'=>c'.quiet=AD/\RS (P9 prog w) A c' R p) (λe p=>R (.error e) p) y) (λe p=>R (.error e) p) #[j,g,d,t,Y]:=by
  calc bN (wpAny_alloc' ?_);calc bN (wpAny_update' W ?_);refine rz ?_
  let l:((j.push oD).update x λo=>{o with dict:=U j.objs.size}).get? j.objs.size=U oD :=
   (T9 _ _ _ _ V.symm).trans (Ye rfl (by rw[<-eD];rfl))
  show PY _ _ (storeInDict j.objs.size (.str name u) name v) _ _ _;calc bN (rz (bN ?_));unfold nsSet;calc bN (bN (wpAny_askSetting (rz (bN (WZ (bN (VE l ?_)))))));rw[<-eD]at l|-;dsimp only;rw[aRefKeyMayBeTheName_at];rw[if_neg (by simp)];calc wpAny_updatePart' l ?_;generalize eU:((j.push {cls:=.type "dict",data:=.dict #[]}).update x λo=>{o with dict:=U j.objs.size})=h2;rw[eU]at l;let hf:(iH w name t v).isFreed=AE:=rfl;let gD:(h2.update j.objs.size (Obj.putName name (VQ w.params name) (.str name t) v)).get? j.objs.size=U (iH w name t v):=RH _ l hf;obtain⟨n,q1,-,-⟩:=rZ w name t v;calc bN (wpAny_lookBehind gD (by rw[q1];calc pastItsLine_dict (by rw[TL];calc Nat.le_add_left 1 _)) ?_);refine rz (go _ ?_ gD ?_ ?_)
  .refine(T9 _ _ _ _ V).trans ?_;rw[<-eU,eD];calc RH _ W ?_;let O:=(Heap.get?_some_iff.mp H).2
   cases r<;>first|rfl|exact O
  .intro b o T e;calc(T9 _ _ _ _ (Qs (P0 e))).trans ?_;rw[<-eU,eD];exact(T9 _ _ _ _ T).trans (u5 _ e)
  .exact P0 gD
 cases r with
 |cls c=>calc absurd rfl (nc c)
 |_=>calc fin
def GY {K:Frag}(X:K.In s.heap)(I:InstAt s.heap x ox C gV)(d:sL K C=AD)(ht:UQ K C name=U gV)(hs:Q3 K (.ref C) "__setattr__"=U (U (.builtin "object.__setattr__")))(go:∀h',h'.get? x=U {ox with dict:=U s⁻¹}->h'.get? s⁻¹=U (iH w name (s.toks+1) v)->(∀b o,b≠x->s.heap.get? b=U o->h'.get? b=U o) ->
   s⁻¹<h'.objs.size->Q Unit.unit {s with heap:=h',toks:=s.toks+1+1}):
  PY (P9 prog w) A (setAttr (.ref x) name v) Q E s :=
 set_plain X I hs (GX (s:={s with toks:=s.toks+1}) X I d ht go)
end L2
namespace L2
open PySem PySem.Spec PyProof.Rows PySem.W
meta def uh(C ta:AB)(od:AF AB):Obj:={cls:=.ref C,dict:=od,data:=.fields #[.ref ta,.none,.none,.none,.bool AE,.none,]}
meta def iB(x C:AB)(od:AF AB):Heap->Prop:=λh=>∃ta,h.get? x=U (uh C ta od)
def Ed (e:iB x C od h):eW P w H h x (.ext (iB x C od)) :=
 #[e,e.elim λ_ q=>#[_,q],λ_ _ ⟨ta,q⟩ k=>#[ta,k _ q]]
structure GZ(K:Frag) (C f:AB):Prop where
 cls:∀h,K.In h->∃nm q N bs bm hdct sn sub ab col dd k0 k1 k2 k3 k5 mN oI,h.get? C=U (Td nm q C N bs bm hdct sn sub ab col dd k0 k1 k2 k3 k5 "ValueError.__new__") /\
  h.Ns N mN/\mN "__init__"=U (.ref f)/\YC h iG bm/\h.get? f=U oI/\oI.cls=.type "function"
 kp:R3 K (.ref C)=AD
structure xu(K:Frag) (C:AB) (n:AA):Prop where
 over:sL K C=AD
 sa:Q3 K (.ref C) "__setattr__"=U (U (.builtin "object.__setattr__"))
 no:UQ K C n=U gV
meta def NY(K:Frag)(ta j:TE)(f:AA):TS:=λD e H=>j e H λy l=>ta e l λx g=>∃a C,x=.ref a/\g a=U (.ext (iB a C gV))/\xu K C f /\
 ∀d,g d=gV->d≠a->D.nx e (upd (upd g d (.xd [(f,y)])) a (.ext (iB a C (U d))))
def KC {h:Heap}(e:h.get? g=U (iH w n d v)):h.Ns1 g λy=>if y=n then U v else gV:=by
 obtain⟨c,q1,-,-⟩:=rZ w n d v;refine#[_,_,c,e,q1,?_,?_,?_]
 .intro a l;let z:a=#[VQ w.params n,.str n d,v]:=by simpa using l
  rw[z];exact#[n,d,rfl]
 .exact Uv _ _
 .intro y;show _=if y=n then U v else gV
  by_cases q:y=n
  .subst q;rw[if_pos rfl];simp[Yl,findBy,Value.isStr]
  .rw[if_neg q];let j:(n == y)=AE:=beq_false_of_ne λz=>q z.symm;simp[Yl,findBy,Value.isStr,j]
def Ck (I:Inv X d l H s)(e:H a=U (.ext (iB a C gV)))(c:xu X.K C n)(v:RelV y u)(go:∀g s',H g=gV->g≠a->Inv X d l (upd (upd H g (.xd [(n,y)])) a (.ext (iB a C (U g)))) s'->Q Unit.unit s'):PY (P9 X.prog X.w) A (setAttr (.ref a) n u) Q E s:=by
 obtain⟨⟨ta,j⟩,-,-⟩:=I.hok a _ e;calc GY (ox:=uh C ta gV) I.tu #[j,rfl,rfl,trivial] c.over c.no c.sa λh' r hd D L=>go s⁻¹ _ (I.hok.fresh (u4 _)) (Tf (P0 j)) ?_;let fr:=P5 s.heap (o:=iH X.w n (s.toks+1) u) rfl
 let J:=I.laid (a:=s⁻¹) (o:=.xd [(n,y)]) (t':=s.toks) (h':=s.heap.push (iH X.w n (s.toks+1) u)) (λb o q=>u5 _ q) (u4 _) #[_,KC fr,λz=>by
  by_cases q:z=n
  .subst q;rw[if_pos rfl,QK,beq_self_eq_true];exact v
  .rw[if_neg q,QK,beq_false_of_ne q];calc True.intro]
 let B:a≠s⁻¹:=Qs (P0 j);calc J.write (x:=a) (e:=a) (t':=s.toks+1+1) (by rw[aB B,e];calc True.intro) (.inl rfl) (λb o G q=>?_) #[_,r] (Ed #[ta,r]);rcases Heap.get?_push_cases q with⟨rfl,rfl⟩|q
 .exact hd
 .exact D b o G q
def Ax (O:PE X o ta)(M:PE X d v)(hs:U6 d (U (.Attribute o n g)) pos.line X.env=pure AE:=by rfl):PS X (.Assign [.Attribute o n g] d pos) (NY X.K ta v n):=by
 intro j s l H D I h;calc UR (cQ (M j s l H _ I h) λu z ⟨y,V,gD,B,q⟩=>cQ (O j z l V _ gD q) λL Y ⟨x,Z,T,G,a,C,ex,Q,c,J⟩=>?_) hs;subst ex;obtain rfl:L=Value.ref a:=G;exact Ck T Q c B λR W N r S=>#[l,_,S,J R N r]
open Builtin Builtin.ObjectAttr
structure Ay(K:Frag) (C:AB):Prop where
 ga:Q3 K (.ref C) "__getattribute__"=U (U (.builtin "BaseException.__getattribute__"))
 gn:Q3 K (.ref C) "__getattr__"=U gV
 mro:mroIn K C (.type "BaseException")=U AD
def Cm {K:Frag}(X:K.In s.heap)(I:InstAt s.heap x ox C od)(G:Ay K C)(l:Q Unit.unit s):PY M A (checkBuiltinCall "BaseException.__getattribute__" #[[.ref x,d],[]]) Q E s:=by
 let m:builtinKind "BaseException.__getattribute__"=U .slot:=∅
 let e:splitId "BaseException.__getattribute__"=U ("BaseException","__getattribute__"):=∅
 let g:Looks M s.heap (XZ (.ref x) (.type "BaseException")) AD:=I.type.andThen (looks_mroIn X G.mro);let o:=PySem.F.args_bexc_ga (.ref x) d;let j:=@check_slot M A E s "BaseException.__getattribute__" "BaseException" "__getattribute__" (.ref x) [d] [] Q;calc j m e g o l
def Ef {K:Frag}{fill:Bool}(X:K.In s.heap)(I:InstAt s.heap x ox C od)(G:Ay K C)(h:PY (P9 prog w) A.in1 (RQ.«object.__getattribute__» #[[.ref x,.str name o],[]]) (λfin s'=>match fin with
   |.done (.ret v)=>PY (P9 prog w) A (handedOut v) Q E s'
   |.again c=>c.quiet=AD/\RS (P9 prog w) A c (λr j=>match r with|.ok (.ret v)=>PY (P9 prog w) A (handedOut v) Q E j|_=>False) s'
   |_=>False) (λ_ _=>False) s):PY (P9 prog w) A (getAttrBy (.ref x) (.str name o) fill expr) Q E s:=by
 let y:=I.type (M:=P9 prog w);let u:=Yg (M:=P9 prog w) X G.ga;let L2:=Yg (M:=P9 prog w) X G.gn;let p:=WK.ga.bind (.ref x);let m:(expr&&onTheHeap (Value.builtin "BaseException.__getattribute__"))=AE:=by cases expr<;>rfl
 let l:(Value.builtin "BaseException.__getattribute__" == Value.builtin "object.__getattribute__")=AE:=∅
 let(D,g,d,t,B):=s;unfold getAttrBy;calc QG (bN (y.at (bN (u.at ?_))));dsimp only;rw[l,Xi,if_neg ∅];unfold getAttrByItsOwn hookBefore;calc bN ?_;rw[show onTheHeap (Value.ref C)=AD from rfl,if_pos rfl];calc L2.at (bN (SA (QG ?_)));unfold callGetattribute;rw[m,if_neg ∅];unfold boundAndCalled;calc bN (wpAny_of_eq p ?_);calc U8 (Vi WK.ga.plain PySem.F.entry_bexc_ga (Cm X I G ?_));calc Qu h (λfin s' z=>?_) λ_ _ z=>z.elim;rcases fin with(_|_|_|_)|c
 case again=>
  calc#[z.1,Th z.2 λr j q=>?_];rcases r with e|(_|_|_|_)<;>first|exact q|exact q.elim
 all_goals first|calc z|calc z.elim
def Cn {K:Frag}(X:K.In s.heap)(I:InstAt s.heap x ox C od)(G:Ay K C)(l:findObj K C od name=U (.value v))(j:handedIn v=AD)(h:Q v {s with toks:=s.toks+1}):
  PY (P9 prog w) A (YA (.ref x) name expr) Q E s:=by
 unfold YA;calc bN (WZ ?_);calc Ef (s:={s with toks:=s.toks+1}) X I G ?_;let(e,g,d,t,p):=s;let o:=I.type (M:=P9 prog w);let m:=looks_find (M:=P9 prog w) X I l;calc bN (rz (bN (rz (bN (o.at (bN (m.at ?_)))))));calc rz ?_;show PY _ _ (handedOut v) _ _ _;rw[handedOut_of j];calc rz h
def Co {K:Frag}(X:K.In s.heap)(I:InstAt s.heap x ox C od)(G:Ay K C)(m:findObj K C od "__class__"=U (.bind (.builtin "getset_descriptor.__get__") (.builtin "object.__class__")))(l:mroIn K C (.type "object")=U AD)(h:Q (U (.ref C)) {s with toks:=s.toks+1}):PY (P9 prog w) A (getAttr? (.ref x) "__class__") Q E s:=by
 unfold getAttr? getAttrBy?;calc bN (WZ (bN (SA ?_)));calc Ef (s:={s with toks:=s.toks+1}) X I G ?_;let(e,g,d,t,j):=s;let q:InstAt (#[e,g,d,t+1,j]:fy).heap x ox C od:=I;let p:=I.type (M:=P9 prog w);let o:=looks_find (M:=P9 prog w) X I m;calc bN (rz (bN (rz (bN (p.at (bN (o.at ?_)))))));show PY _ _ (Vy [_] (call (.builtin "getset_descriptor.__get__") [.builtin "object.__class__",.ref x,.ref C])>>=ret) _ _ _;calc bN (QG (U8 (class_get (s:=#[e,g,d,t+1,j]) X q l ?_)));calc rz ?_;calc handed_on rfl ?_;calc rz h
end L2
namespace L2
open PySem PySem.Spec PyProof.Rows PySem.W PySem.Calls
structure Cp(K:Frag) (C:AB):Prop where
 hg:Ay K C
 hd:Tg K C=AD
 ha:Q3 K (.ref C) "__class__"=U (U (.builtin "object.__class__"))
 hn:specialIn K (.builtin "object.__class__") "__get__"=U (U (.builtin "getset_descriptor.__get__"))
 tk:takesIn K (.builtin "object.__class__")=U AD
 hm:mroIn K C (.type "object")=U AD
meta def Jp(x C:AB)(h:Heap):Prop:=∃d e,InstAt h x d C e
def xw {K:Frag}(G:Cp K C):KitX K (.ref x) (.ref C) (Jp x C) where
 ty:=λ_ _ _ ⟨_,_,I⟩=>I.type
 it:=λ_ _ X _=>by
  obtain⟨m,d,-⟩:=any_some G.hd;unfold clsIn at d
  split at d
  .rename_i t r l e j
   intro D z B v k q;unfold isType loadHead;exact bN (VE (k _ _ (X _ _ j)) (rz q))
  .cases d
 ne:=λh tp y o n u X g=>by
  obtain⟨m,d,-⟩:=any_some G.hd;calc Bool.eq_false_iff.mpr λq=>?_;obtain rfl:C=tp:=Value.ref.inj (beq_iff_eq.mp q);unfold clsIn at d
  split at d
  .rename_i t r l e j
   cases(X _ _ j).symm.trans g
  .cases d
 ca:=λ{prog w A E Q s} X ⟨ox,od,I⟩ go=>by
  let p:findObj K C od "__class__"=U (.bind (.builtin "getset_descriptor.__get__") (.builtin "object.__class__")):=by
   obtain⟨m,d,-⟩:=any_some G.hd;unfold findObj;rw[d,SE,G.ha,SE];dsimp only;rw[G.hn,SE];dsimp only;rw[G.tk,SE]
  calc Co X I G.hg p G.hm go
theorem vQ :∀{ds:List AB}{us:List eT},Vals (ds.map V.ref) us->us=ds.map Value.ref
 | [],us,r=>by cases r;rfl
 |d::ds,us,r=>by
  cases r with
  |cons a b =>
   let z:=vQ b;subst z;calc congrArg (·::_) a
structure KG(K:Frag) (C:AB) (n:AA):Prop where
 hg:Ay K C
 hd:Tg K C=AD
 no:∃attr,Q3 K (.ref C) n=U attr/\noGet K attr=AD
end L2
namespace L2
open PySem PySem.Spec PyProof.Rows
def Cq (o:Obj)(g):(o.mapFields g).dict=o.dict:=by
 let(c,d,e,j):=o
 cases e<;>rfl
structure Fl(H:Hp) (h:Heap) (n:Nat) (x C:AB) (od:AF AB) (fl:eT):Prop where
 ob:∃oe vs,h.get? x=U oe/\oe.cls=.ref C/\oe.dict=od/\oe.data=.fields vs/\1<vs.size /\
  ((vs[1]?=U .none/\fl=.none)\/∃T oT ts,vs[1]?=U (.ref T)/\T≠x/\n<=T/\H T=gV/\h.get? T=U oT/\oT.data=.fields ts/\ts[3]?=U fl)
 nx:n<=x
 hx:H x=gV
structure Rest(fs ch:List AB) (h h':Heap):Prop where
 keep:∀b o,b∉ch->b∉fs->h.get? b=U o->h'.get? b=U o
 slot:∀b o,b∉ch->h.get? b=U o->∃sl,h'.get? b=U {o with slots:=sl}
 sz:h.objs.size<=h'.objs.size
def Rest.trans (a:Rest fs ch h l)(b:Rest fs ch l j):Rest fs ch h j :=
 #[λc o d g e=>b.keep c o d g (a.keep c o d g e),λc o d e=>by
  let(r,q):=a.slot c o d e;let(m,p):=b.slot c _ d q;calc#[m,p],Qq a.sz b.sz]
def um :Rest fs [a] h (h.update a g):=by
 let k:∀b o,b∉([a]:List AB)->h.get? b=U o->(h.update a g).get? b=U o:=λb o n e=>by
  rw[Rl _ _ (λz=>n (by rw[z];calc vv.mpr rfl))];exact e
 calc#[λb o n _ e=>k b o n e,λb o n e=>#[o.slots,k b o n e],?_];rw[Heap.size_update];calc u4 _
def vR {A:Qk}(hfr:A.frames=U (d::outer))(hl:s.heap.FunFrames base (d::outer))(hf:d.frame=U L)(hxf:x∉frs (d::outer))(he:s.heap.get? x=U p)(hd:p.data=.fields vs)(hsz:1<vs.size)(go:∀(h':Heap) (T:AB) (l g:Obj) (m:Array eT),Rest (frs (d::outer)) [x] s.heap h'->s⁻¹<=T->h'.get? x=U l->l.cls=p.cls->l.dict=p.dict->l.data=.fields (vs.setIfInBounds 1 (.ref T)) ->
   h'.get? T=U g->g.data=.fields m->m[3]?=U (S5 L)->Q Unit.unit {s with heap:=h'}):
  PY M A (do let a ←frameOf d;let pl ←entryPlaceOf L B;let b ←XD head a .none (S5 L) .none pl;setField (.ref x) 1 b) Q E s:=by
 calc bN (wpAny_frameOf_fun hfr hl hf λj t=>?_);calc bN (wpAny_entryPlaceOf λpl y=>?_);unfold XD newFields;calc bN (QW ?_ (y.sizeOk5 _ _ _ _ _));generalize hO:({cls:=.type "traceback",dict:=gV,data:=.fields ([head,.ref L,.none,S5 L,.none]++(if pl.isEmpty then P7 6 Value.none else pl)).toArray}:Obj)=g
 let D:∃m,g.data=.fields m/\m[3]?=U (S5 L):=by
  subst hO;exact#[_,rfl,by simp]
 let C:g.isFreed=AE:=by subst hO;rfl
 let(m,z,v):=D;let r:j.get? x=U p:=(t.2.1 x hxf).trans he;let Nk:(j.push g).get? x=U p:=u5 g r;calc UN Nk hd hsz ?_;let u:j.objs.size≠x:=Tf (P0 r);let G:=Uo hd (·.setIfInBounds 1 (Value.ref j.objs.size));let O:=RH (S7 (·.setIfInBounds 1 (Value.ref j.objs.size))) Nk (UZ G)
 let N:((j.push g).update x (S7 (·.setIfInBounds 1 (Value.ref j.objs.size)))).get? j.objs.size=U g:=by
  rw[Rl _ _ (RP u)];exact P5 j C
 let I:Rest (frs (d::outer)) [x] s.heap (j.push g):=by
  refine#[λb o _ J e=>u5 g ((t.2.1 b J).trans e),λb o _ e=>?_,?_]
  .have(H,q):=t.2.2 b o e;exact#[H,u5 g q]
  .rw[Q6,t.1];exact QT _
 calc go _ _ _ _ m (I.trans um) (WO t.1.symm) O (Yd _ _) (Cq _ _) G N z v
def Inv.rest (I:Inv X pins σ H s)(r:Rest (frs X.stack) ch s.heap h')(g:∀b∈ch,H b=gV/\X.s₀.heap.objs.size<=b/\b≠X.env.locals/\(∀x c,X.env.cells.lookup x=U c->c≠b)/\∀p∈X.pn++pins,p.1≠b):Inv X pins σ H {s with heap:=h'}:=by
 let tr:∀b u,H b=U u->b∉ch/\b∉frs X.stack:=λb u e=>#[λz=>by(rw[(g b z).1]at e;cases e),λz=>by(rw[I.wG b z]at e;cases e)]
 let u:Un (frs X.stack) ch H H s.heap h':={
  keep:=λb o e _ m d=>r.keep b o d m e
  slot:=λb o e _ _ d=>r.slot b o d e
  free:=λ_ _ _ n _=>n
  there:=λb o e d=>(r.slot b o d e).elim λ_ q=>#[_,q]
  tups:=λ_ _ e=>e
  frzs:=λ_ _ _ e=>e
  tbls:=λ_ y e=>#[#[],by rw[e];simp]}
 let l:nh X.prog X.w H h':=λb u e=>by
  calc(I.hok b u e).stay (λc v t q=>?_) (λ_ q=>q) λ_ _ q=>q;rcases t with z|z
  .rw[z]at q|-;exact r.keep _ _ (tr b u e).1 (tr b u e).2 q
  .exact r.keep _ _ (tr c _ z).1 (tr c _ z).2 q
 calc I.call (g':=s.gens) (t':=s.toks) (d':=s.drawn) (ch:=ch) u l I.bare λb j=>#[.inr (g b j).2.1,(g b j).2.2.1,(g b j).2.2.2.1,(g b j).2.2.2.2]
def Inv.xx (I:Inv X pins σ H s)(e:s.heap.get? a=U o)(d:o.data=.fields vs):a≠X.env.locals/\(∀x c,X.env.cells.lookup x=U c->c≠a)/\a∉frs X.stack:=by
 refine#[λz=>?_,λx c p z=>?_,λz=>?_]
 .have(m,(j,q,r,g,hd,_),_):=I.loc;rw[<-z,e]at g
  cases g
  rw[d]at hd
  cases hd
 .have(v,j,g,hd):=I.cell x c p;rw[z,e]at g
  cases g
  rw[d]at hd
  cases hd
 .have(_,j,g,l):=I.stack.mem z;rw[e]at g
  cases g
  calc l vs d
def xA (I:Inv X [] σ H s)(S:X.pn=[])(e:X.stack=X.env::X.outer)(V:X.env.frame=U X.env.locals)(F:Fl H s.heap X.s₀.heap.objs.size x C od Y)(go:∀s',s'.os=s.os->Inv X [] σ H s'->Fl H s'.heap X.s₀.heap.objs.size x C od (S5 X.env.locals)->Q Unit.unit s'):PY (P9 X.prog X.w) X.A (Xx (.ref x) X.env) Q E s:=by
 let((z,vs,u,J,G,hd,j,hh),O,R):=F;let D:X.A.frames=U (X.env::X.outer):=by rw[<-e];exact I.ok.frames
 let B:∀(a:AB),∀p∈X.pn++[],p.1≠a:=λa p hp=>by rw[S]at hp;cases hp
 let(n1,n2,n3):=I.xx u hd
 let Z:∀b∈[x],H b=gV/\X.s₀.heap.objs.size<=b/\b≠X.env.locals/\(∀y c,X.env.cells.lookup y=U c->c≠b)/\∀p∈X.pn++[],p.1≠b:=λb W=>by
  rw[vv.mp W];exact#[R,O,n1,n2,B x]
 let fin:∀(t:fy),t.os=s.os->Inv X [] σ H t->∀(l:Heap) (T:AB) (d o:Obj) (m:Array eT),Rest (frs (X.env::X.outer)) [x] t.heap l->t⁻¹<=T->l.get? x=U d->d.cls=z.cls->d.dict=z.dict->d.data=.fields (vs.setIfInBounds 1 (.ref T)) ->
   t.heap.get? x=U z->l.get? T=U o->o.data=.fields m->m[3]?=U (S5 X.env.locals)->Q Unit.unit {t with heap:=l}:=λt gD v l T d o m r q e1 e2 e3 e4 ex e5 e6 e7=>by
  rw[<-e]at r;refine go _ gD (v.rest r Z) #[#[d,_,e1,e2.trans J,e3.trans G,e4,?_,.inr #[T,o,m,?_,?_,?_,v.hok.fresh q,e5,e6,e7]],O,R]
  .rw[Array.size_setIfInBounds];exact j
  .rw[TH j]
  .exact Tf (P8 (P0 ex) q)
  .exact Qq v.sz q
 unfold Xx;simp only[V];rcases hh with⟨h1,rfl⟩|⟨T,o,m,h1,hTx,hTn,hTH,q,hdT,h3⟩
 .refine bN (QC u hd h1 ?_);rw[if_neg ∅];exact vR D (by rw[<-e];calc I.stack) V (by rw[<-e];calc n3) u hd j λl T d o m r a1 a2 a3 a4 a5 a6 a7 a8=>fin s rfl I l T d o m r a1 a2 a3 a4 a5 u a6 a7 a8
 .refine bN (QC u hd h1 ?_);rw[if_pos (show(Value.ref T != Value.none)=AD from by simp)];calc bN (QC q hdT h3 ?_);let(t1,t2,t3):=I.xx q hdT
  by_cases c:(Y == S5 X.env.locals)=AD
  .rw[if_pos c];let ef:Y=S5 X.env.locals:=Sd c;subst ef;exact rz (go s rfl I #[#[z,vs,u,J,G,hd,j,.inr #[T,o,m,h1,hTx,hTn,hTH,q,hdT,h3]],O,R])
  .rw[if_neg c];refine bN (UN q hdT (VR.mp h3).1 ?_)
   let v:=I.rest (um (fs:=frs X.stack) (a:=T) (g:=S7 (·.setIfInBounds 3 Value.none))) λb W=>by
    rw[vv.mp W];exact#[hTH,hTn,t1,t2,B T]
   let L:(s.heap.update T (S7 (·.setIfInBounds 3 Value.none))).get? x=U z:=by rw[Rl _ _ hTx];exact u
   calc vR D (by rw[<-e];calc v.stack) V (by rw[<-e];calc n3) L hd j λl T2 d N M r a1 a2 a3 a4 a5 a6 a7 a8=>fin {s with heap:=s.heap.update T (S7 (·.setIfInBounds 3 Value.none))} rfl v l T2 d N M r a1 a2 a3 a4 a5 L a6 a7 a8
def oj (I:Inv X [] σ H s)(o:X.pn=[])(F:Fl H s.heap X.s₀.heap.objs.size x C od G)(go:∀s' q,s'.os=s.os->Inv X [] σ H s'->Fl H s'.heap X.s₀.heap.objs.size x C od q->Q Unit.unit s'):PY (P9 X.prog X.w) X.A (setFlight (.ref x) fr) Q E s:=by
 let((m,t,l,j,e,hd,d,B),u,v):=F;unfold setFlight;rcases B with⟨h1,rfl⟩|⟨T,oT,ts,h1,hTx,hTn,hTH,hT,hdT,h3⟩
 .refine bN (QC l hd h1 ?_);rw[if_neg ∅];exact rz (go s .none rfl I #[#[m,t,l,j,e,hd,d,.inl #[h1,rfl]],u,v])
 .refine bN (QC l hd h1 ?_);rw[if_pos (show(Value.ref T != Value.none)=AD from by simp)];let(t1,t2,t3):=I.xx hT hdT;let l3:=(VR.mp h3).1;calc UN hT hdT l3 ?_;generalize fr.elim Value.none (λf=>S5 f)=w
  let L:=I.rest (um (fs:=frs X.stack) (a:=T) (g:=S7 (·.setIfInBounds 3 w))) λb D=>by
   rw[vv.mp D];exact#[hTH,hTn,t1,t2,λp y=>by(rw[o]at y;cases y)]
  let z:=Uo hdT (·.setIfInBounds 3 w);let r:(s.heap.update T (S7 (·.setIfInBounds 3 w))).get? x=U m:=by rw[Rl _ _ hTx];exact l
  let J:=RH (S7 (·.setIfInBounds 3 w)) hT (UZ z);calc go _ w rfl L #[#[m,t,r,j,e,hd,d,.inr #[T,_,_,h1,hTx,hTn,hTH,J,z,by rw[TH l3]]],u,v]
meta def zc(P:L0)(w:Qe):yn:=λouter H s E e d=>∃(x C:AB) (j:AF AB) (l:eT) (g:Hp),e=.ref x/\d.os=s.os/\Vx d.gens/\Un (frs outer) [] H g s.heap d.heap/\nh P w g d.heap/\Fl g d.heap s⁻¹ x C j l/\E (.ref C) j g
meta def Jq(X:Cx)(E:XK):eT->fy->Prop:=λe g=>∃(x C:AB) (j:AF AB) (m:eT) (l:St) (d:Hp),e=.ref x/\Inv X [] l d g/\Fl d g.heap X.s₀.heap.objs.size x C j m/\E (.ref C) j d
def Fl.young (f:Fl H h n x C od l)(j:m<=n):Fl H h m x C od l:=by
 let((p,o,u,g,e,hd,d,t),q,r):=f;calc#[#[p,o,u,g,e,hd,d,?_],Qq j q,r];rcases t with h|⟨T,oT,ts,h1,h2,h3,h4⟩
 .exact .inl h
 .exact .inr #[T,oT,ts,h1,h2,Qq j h3,h4]
def rN.KH {X:Cx}{st:MC Stmt}(k:∀e s,W e s->m e s)(h:rN (X.jE W) st t):rN (X.jE m) st t:=λl s o H D I p =>
 Qu (h l s o H D (I.fL.jE _) p) (λf y q=>by
  cases f with
  |next=>let(d,j,g,q):=q;calc#[d,j,g.fL.jE _,q]
  |brk=>let(d,j,g,q):=q;calc#[d,j,g.fL.jE _,q]
  |cont=>let(d,j,g,q):=q;calc#[d,j,g.fL.jE _,q]
  |ret u=>let(v,d,j,g,r,q):=q;calc#[v,d,j,g.fL.jE _,r,q]) k
def jK {X:Cx}:Passes (zc X.prog X.w) (X.jE (Jq X E)) E:=by
 intro r o H s e v I h;let(x,C,B,J,L,rfl,y,j,un,m,F,q):=h;let u:Inv X [] o H s:=I.fL.fJ λp D=>nomatch D
 let(G,g,d,t,l):=v;obtain rfl:l=s.os:=y;calc#[x,C,B,J,o,L,rfl,u.call (h':=G) (g':=g) (d':=d) (t':=t) (ch:=[]) un m j (λb z=>nomatch z),F.young u.sz,q]
def jh (d:X.pn=[])(g:X.stack=X.env::X.outer)(t:X.env.frame=U X.env.locals):PassesOwn (P9 X.prog X.w) X.A X.env (Jq X E):=by
 intro e N h;let(x,C,o,S,m,G,rfl,I,F,q):=h;show PY _ _ (Xx _ _) _ _ _;calc xA I d g t F λM R D l=>?_;show PY _ _ _ _ _ _;let(O,J,u,y,v,hd,p,r):=id l.ob;rcases r with⟨h1,z⟩|⟨T,oT,ts,h1,_⟩
 .exact absurd z (by unfold S5;intro z;cases z)
 .refine bN (QC u hd h1 ?_);rw[if_neg (by simp)];calc oj D d l λL j Q B H=>#[x,C,o,j,m,G,rfl,B,H,q]
def KI {K:cB}(h:Jq (uT (zc P w) P w K mg base N d scope f l A outer s H E) E e s'):(uT (zc P w) P w K mg base N d scope f l A outer s H E).xe e s':=by
 let(x,C,m,D,u,p,rfl,I,F,q):=h;show PY _ _ (leaving _ _) _ _ _;unfold leaving;calc bN (xA I rfl rfl rfl F λy B o t=>?_);calc oj o rfl t λv j z g r=>?_;exact#[x,C,m,j,p,rfl,g.os,g.bare,g.base,g.hok,r,q]
open PySem.W
meta def Dg(x:AB)(H:Hp):Hp:=λb=>if b=x then gV else H b
def zd :Dg x H x=gV:=by unfold Dg;rw[if_pos rfl]
def nN (n:b≠x):Dg x H b=H b:=by unfold Dg;rw[if_neg n]
def qo (e:H b=gV):Dg x H b=gV:=by
 unfold Dg
 split
 .rfl
 .exact e
def Inv.Dg (I:Inv X pins σ H s)(t:H x=U (.ext φ))(hn:X.s₀.heap.objs.size<=x):Inv X pins σ (L2.Dg x H) s:=by
 let d:∀b u,H b=U u->(∀j,u≠.ext j)->b≠x:=λb u e n z=>by
  rw[z,t]at e
  cases e
  exact n φ rfl
 let r:∀b o,X.s₀.heap.get? b=U o->b≠x:=λb o e z=>Q8 _ (P8 (P0 e) (by rw[z];calc hn));refine#[I.ok,I.os,I.bare,#[I.base.keep,I.base.slot,λb o e n B=>?_,I.base.there,λb g e=>?_,λb o u e=>?_,λb l e=>?_],I.loc,I.cell,qo I.free,λy c h=>qo (I.freeC y c h),λp v=>?_,λb u e=>?_,I.len]
 .exact qo (I.base.free b o e n B)
 .have q:=I.base.tups b g e;rw[nN (d b _ q ⋯)]
  exact q
 .have q:=I.base.frzs b o u e;rw[nN (d b _ q ⋯)]
  exact q
 .have(m,q):=I.base.tbls b l e;exact#[m,by rw[nN (d b _ q ⋯)];calc q]
 .have(J,G,D):=I.pin p v;exact#[J,qo G,D]
 .have C:b≠x:=λz=>by(rw[z,zd]at e;cases e)
  rw[nN C]at e;calc(I.hok b u e).stay (λ_ _ _ q=>q) (λc q=>by rw[nN (d c _ q ⋯)];calc q) λc g q=>by rw[nN (d c _ q ⋯)];calc q
structure Az(K:Frag) (C:AB):Prop where
 cls:∀h,K.In h->∃nm q N bs bm hdct sn sub ab col dd k0 k1 k2 k3 k5 nw,h.get? C=U (Td nm q C N bs bm hdct sn sub ab col dd k0 k1 k2 k3 k5 nw)/\bm.contains (.type "BaseException")=AD
def Cr (I:A.handled=gV)(go:PY M A y (λv e=>∃x C ta od o q N bs j d m sub H g G k0 u t r p nw,v=.ref x/\e.heap.get? C=U (Td o q C N bs j d m sub H g G k0 u t r p nw)/\j.contains (.type "BaseException")=AD/\e.heap.get? x=U (uh C ta od)/\E (.ref x) e) E s):
  PY M A (raiseStmt l (U y) gV) Q E s:=by
 unfold raiseStmt;calc bN (Qu go (λv e q1=>?_) λ_ _ z=>z);let(x,C,ta,od,o,q,N,bs,j,d,m,sub,H,g,G,k0,u,t,r,p,nw,rfl,D,J,B,L):=q1;let O:(Value.ref C::j).contains (.type "BaseException")=AD:=by rw[SM,J,Vz]
 let(T,gD,V,R,S):=e;unfold uh at B
 repeat (first|(with_reducible calc Sg B ?_)|(with_reducible calc Sg D ?_)|(with_reducible calc T8 D ?_;rw[O])|wp_step)
 calc wpAny_raiseNew_none I L
meta def KJ(K:Frag)(n:Nat)(j:TE)(E:XK):TS:=λ_ g H=>j g H λv e=>∃x C d,v=.ref x/\n<=x/\e x=U (.ext (iB x C d))/\Az K C/\E (.ref C) d (Dg x e)
def gZ {X:Cx}{E:XK}{j:Expr}{B:TE}{pos:Pos}(hc:X.calm=AD)(Z:PE (X.jE (Jq X E)) j B):PS (X.jE (Jq X E)) (.Raise (U j) gV pos) (KJ X.K X.s₀.heap.objs.size B E):=by
 intro d s m H D I h;let Y:(X.jE (Jq X E)).A.handled=gV:=I.ok.hd hc;rw[arm_exec_Raise];calc bN (Ry (Cr Y ?_));calc bN (Qu (Z d s m H _ I h) (λv G q=>bN (Ry (rz ?_))) λ_ _ z=>z);let(u,y,I1,O,x,C,l,rfl,L,J,o,q):=q
 cases O
 let t:Inv X [] m y G:=I1.fL.fJ λp W=>nomatch W
 let(R,Q,N,bs,bm,g,M,sub,ab,r,dd,k0,V,gD,T,S,nw,hC,hb):=o.cls _ t.tu;let((ta,e),_):=(show eW X.prog X.w y G.heap x (.ext (iB x C l))from t.hok x _ J);calc#[x,C,ta,l,R,Q,N,bs,bm,g,M,sub,ab,r,dd,k0,V,gD,T,S,nw,rfl,hC,hb,e,#[x,C,l,.none,m,L2.Dg x y,rfl,t.Dg J L,#[#[uh C ta l,_,e,rfl,rfl,rfl,(by show 1<6;decide),.inl #[rfl,rfl]],L,zd],q]]
meta def MD(n:Nat)(C:AB)(sp:Sp)(d:MC V)(E:XK)(t:TA):TE:=λj H Q=>t j H λe g=>⇑e<=1000/\∀x,n<=x->g x=gV ->
 sp (.ref x::(e++d)) (upd g x (.ext (iB x C gV))) (λv l=>v=.gu/\Q (.ref x) l) E
def Eg {sp:Sp}(M:GZ X.K C f)(F:cD X.prog X.w X.K X.mg X.base CX k f fd ps sp)(hr:dZ (k+1) X.A)(hb:Binds X.K fd ps ds)(hd:Vals dvs ds)(hx:Passes CX X E)(I:Inv X l y H s)(r:Vals vs us)(hl:⇑vs<=1000)(go:∀x,X.s₀.heap.objs.size<=x->H x=gV->sp (.ref x::(vs++dvs)) (upd H x (.ext (iB x C gV))) (λv H2=>v=.gu/\Q (.ref x) H2) E):
  PY (P9 X.prog X.w) X.A (call (.ref C) us) (EP X l y Q) X.xe s:=by
 let(nm,q,N,bs,bm,Y,sn,sub,ab,aa,dd,k0,k1,k2,k3,k5,mN,oI,hC,hn,hi,T,gD,S):=M.cls _ I.tu;let O:⇑us<=my:=by rw[<-⇑r];exact QB (bg hl)
 let R:=I.sz;let(hh,g,d,W,os):=s;calc Aw PySem.F.excBase_ValueError T hC hn hi gD S (λh' x made L=>?_) O;obtain⟨kp,-,tup,ex,-,-⟩:=made;let B:Inv X l y (upd H x (.ext (iB x C gV))) #[h',g,d,W,os]:=I.laid (a:=x) (o:=.ext (iB x C gV)) (t':=W) kp L (Ed #[tup,ex]);let q1:=go x (Qq R L) (I.hok.fresh L);let r2:Vals (V.ref x::(vs++dvs)) (Value.ref x::(us++ds)):=.cons rfl (r.append hd)
 let J:⇑(Value.ref x::us++ds)=⇑ps:=by
  let z:=⇑r2;rw[F.len _ _ _ _ q1]at z;exact z.symm
 let D:=F.run _ X.stack _ _ #[Value.ref x::us,[]] (Value.ref x::(us++ds)) _ _ E (hr.make C us []) (B.Ka.make C us []) (hb _ (Value.ref x::us) B.tu J) r2 q1;refine U8 (Th D λG Z j=>?_)
 match G,j with
 |.error e,j=>calc hx l y _ _ e Z B j
 |.ok (.ret u),j =>
  let(v,H',I3,rv,rfl,q3):=B.after j;calc#[rv,#[V.ref x,H',I3,rfl,q3]]
 |.ok .next,j=>calc Rr j
 |.ok .brk,j=>calc Rr j
 |.ok .cont,j=>calc Rr j
def ji {CX:yn}{k:Nat}{f C:AB}{fd:PZ}{ps:List AA}{sp:Sp}{dvs:MC V}{ds:List eT}{E:XK}{x:AA}{p pos:Pos}{e:Expr}{es:MC Expr}{t:TA}(M:GZ X.K C f)(F:cD X.prog X.w X.K X.mg X.base CX k f fd ps sp)(hr:dZ (k+1) X.A)(y:Gl X x)(u:X.mg x=U (.ref C))(z:Binds X.K fd ps ds)(hd:Vals dvs ds)(l:Passes CX X E)(ha:PA X (e::es) t)(hdb:(x == ("__debug__":AA))=AE:=by decide)(he:QS (e::es) X.env=(AE,eval e X.env)::QS es X.env:=by rfl)(hpl:(UC pos (QS es X.env)).any (·.1)=AE:=by rfl):
  PE X (.Call (.Name x p) (e::es) [] pos) (MD X.s₀.heap.objs.size C sp dvs E t):=by
 intro d s j H Q I h;calc Rx (pN I y u ?_ hdb);calc callWith_K (h₀:=X.base) I.ok.mod.kin M.kp (cQ (ha pos d s j H _ I h) λD G ⟨B,J,g,r,v,q⟩=>#[g.tu,Eg M F hr z hd l g r v q]) he hpl
def Inv.names (I:Inv X pins σ H s)(hs:R9 X.env.locals s.heap h')(l:h'.Ns X.env.locals m')(J:⇑σ'=⇑σ)(k:∀(i:Nat) (x:AA) (v:V),X.N[i]?=U x->σ'[i]?=U (U v)->LV X.env.scope x->∃u,RelV v u/\Look X.env h' m' x u):Inv X pins σ' H {s with heap:=h',toks:=t'}:=by
 let young:∀b o,X.s₀.heap.get? b=U o->b≠X.env.locals:=λb o e=>Qs (P8 (P0 e) I.ok.above)
 let FZ:∀x c,X.env.cells.lookup x=U c->c≠X.env.locals:=λx c L z=>by
  let(m,(R,S,T,G,hd,_),_):=I.loc;let(v,t,g,j):=I.cell x c L;rw[z,G]at g
  cases g
  rw[hd]at j
  cases j
 refine#[I.ok,I.os,I.bare,#[λb o e n r d=>?_,λb o e n r d=>?_,I.base.free,λb o e d=>?_,I.base.tups,I.base.frzs,I.base.tbls],#[m',l,k],λy c e=>?_,I.free,I.freeC,λp D=>?_,λb u e=>?_,J.trans I.len]
 .rw[hs.2 b (young b o e)];exact I.base.keep b o e n r d
 .rw[hs.2 b (young b o e)];exact I.base.slot b o e n r d
 .rw[hs.2 b (young b o e)];exact I.base.there b o e d
 .have(v,t,g,j):=I.cell y c e;exact#[v,t,(hs.2 c (FZ y c e)).trans g,j]
 .have(Q,O,B,M):=I.pin p D;exact#[(hs.2 _ B).trans Q,O,B,M]
 .refine(I.hok b u e).stay (λc v C q=>(hs.2 c ?_).trans q) (λ_ q=>q) λ_ _ q=>q;rintro rfl;rcases C with z|z
  .rw[<-z,I.free]at e
   cases e
  .rw[I.free]at z
   cases z
def G0 (I:Inv X pins σ H s)(G:X.N.Nodup)(hi:X.N[i]?=U n)(l:X.env.scope.names.lookup n=U .local)(go:∀s',Inv X pins (σ.set i gV) H s'->Q Unit.unit s'):PY M A (do Xd X.env n .none;Vj X.env n pos) Q E s:=by
 let S:(X.env.scope.kind == .class||(X.env.scope.kind == .module&&X.env.locals != X.env.globals))=AE:=by rw[I.ok.kind];rfl
 let g:X.env.kindOf n=U .local:=l;calc bN (Xe (lK I G hi (.inl l) (show RelV .gu Value.none from rfl) (λO C=>?_) (.inr l)));let(m,gD,D):=id C.loc;unfold Vj;calc Vb ?_;unfold unbindName;calc bN (wpAny_point (bN ?_));unfold deleteName;simp only[g,S];rw[if_neg ∅];refine bN (wpAny_nsDel_keeps gD λh2 L p e=>?_)
 let V:(m n).isSome=AD:=by
  let(u,r,q):=D i n .gu hi (by rw[Te (by rw[I.len];calc(eF.mp hi).1)]) (.inl l);rcases q with⟨_,q⟩|⟨q,_⟩
  .rw[q];rfl
  .rw[g]at q;rcases q with q|q<;>cases q
 simp only[V,Bool.not_true,Ra,if_false];calc rz (wpAny_point (go _ ?_));refine C.names (σ':=σ.set i gV) (t':=O.toks) e p (by simp) λj y v J o W=>?_
 let t:j≠i:=λz=>by
  subst z;rw[Te (by rw[I.len];calc(eF.mp hi).1)]at o
  cases o
 rw[TJ (RP t)]at o;let(u,r,q):=D j y v J (by rw[TJ (RP t)];calc o) W;calc#[u,r,?_];rcases q with⟨q1,q2⟩|⟨q1,c,q2,q3⟩
 .refine .inl #[q1,?_];let:y≠n:=λz=>t (lJ G (by rw[J,z]) hi);show(if y=n then L else m y)=U u;rw[if_neg this];exact q2
 .have(R,d,B):=q3;calc .inr #[q1,c,q2,R,(e.2 c ?_).trans d,B];intro z;let(Z,(Y,es,ep,T,hd,_),_):=C.loc;rw[z,T]at d
  cases d
  rw[hd]at B
  cases B
meta def u6(x C:AB)(od:AF AB):Heap->Prop:=λh=>∃d e,h.get? x=U d/\d.cls=.ref C/\d.dict=od/\d.data=.fields e
def G1 (e:u6 x C od h):eW P w H h x (.ext (u6 x C od)) :=
 #[e,e.elim λ_ q=>q.elim λ_ q=>#[_,q.1],λ_ _ ⟨g,d,q,r⟩ k=>#[g,d,k _ q,r]]
structure xE(K:Frag) (C G:AB):Prop where
 cls:∀h,K.In h->∃nm q N bs bm hdct sn sub ab col dd k0 k1 k2 k3 k5 nw,h.get? C=U (Td nm q C N bs bm hdct sn sub ab col dd k0 k1 k2 k3 k5 nw)/\(Value.ref C::bm).contains (.ref G)=AD
 top:Az K G
def Cs {K:Frag}(p:K.In s.heap)(S:xE K C G)(J:s.heap.get? x=U m)(g:m.cls=.ref C)(go:Q AD s):PY M A (excMatches (.ref x) (.ref G)) Q E s:=by
 let(nm,q,N,bs,bm,o,Y,sub,ab,gD,dd,k0,k1,k2,k3,k5,nw,O,d):=S.cls _ p;let(y,Z,N',V,j,e,u,l,W,t,T,I,H,D,B,z,v,r,L):=S.top.cls _ p;let R:(Value.ref G::j).contains (.type "BaseException")=AD:=by rw[SM,L,Vz]
 let f:=tc_notTuple;let(h9,g9,d9,X,o9):=s;unfold excMatches
 repeat (first|(with_reducible calc Sg J ?_;rw[g])|(with_reducible calc Sg r ?_)|(with_reducible calc T8 r ?_;rw[R])|(with_reducible calc T8 O ?_;rw[d])|wp_step)
 calc go
meta def Cx.Ct(X:Cx)(x:AB):Cx:={X with A:=X.A.mark (U (.ref x)),calm:=AE,xe:=λ_ _=>False}
def Inv.Ct (I:Inv X pins σ H s)(x:AB):Inv (X.Ct x) pins σ H s :=
 #[#[I.ok.mod,I.ok.kind,I.ok.glob,I.ok.blt,I.ok.above,I.ok.inj,I.ok.has,I.ok.cab,nofun,I.ok.frames,I.ok.stk,I.ok.exf,I.ok.bs,I.ok.bsz,I.ok.noex,I.ok.exfs,I.ok.qL,I.ok.frf],I.os,I.bare,I.base,I.loc,I.cell,I.free,I.freeC,I.pin,I.hok,I.len]
def Inv.NZ (I:Inv (X.Ct x) pins σ H s)(ok:X.Ok):Inv X pins σ H s:=#[ok,I.os,I.bare,I.base,I.loc,I.cell,I.free,I.freeC,I.pin,I.hok,I.len]
def Inv.ME {T:eT}(I:Inv X [] σ H s)(j:X.pn=[])(F:Fl H s.heap X.s₀.heap.objs.size x C od T):Inv X [] σ (upd H x (.ext (u6 x C od))) s:=by
 let((L,G,B,r,l,hd,R,V),M,Q):=F;let(O,N,gD):=I.xx B hd;let d:∀b u,H b=U u->b≠x:=λb u e z=>by(rw[z,Q]at e;cases e)
 let g:∀b o,X.s₀.heap.get? b=U o->b≠x:=λb o e z=>Q8 _ (P8 (P0 e) (by rw[z];calc M));refine#[I.ok,I.os,I.bare,#[I.base.keep,I.base.slot,λb o e n S=>?_,I.base.there,λb t e=>?_,λb o u e=>?_,λb J e=>?_],I.loc,I.cell,?_,λy c h=>?_,λp v=>?_,λb u e=>?_,I.len]
 .rw[aB (g b o e)];exact I.base.free b o e n S
 .have q:=I.base.tups b t e;rw[aB (d b _ q)];exact q
 .have q:=I.base.frzs b o u e;rw[aB (d b _ q)];exact q
 .have(m,q):=I.base.tbls b J e;exact#[m,by rw[aB (d b _ q)];calc q]
 .rw[aB (RP O)];exact I.free
 .rw[aB (N y c h)];exact I.freeC y c h
 .rw[j]at v
  cases v
 .by_cases D:b=x
  .subst D;rw[aj]at e
   cases e
   exact G1 #[L,G,B,r,l,hd]
  .rw[aB D]at e;calc(I.hok b u e).stay (λ_ _ _ q=>q) (λc q=>by rw[aB (d c _ q)];calc q) λc t q=>by rw[aB (d c _ q)];calc q
meta def Oa(X:Cx)(st:Stmt)(t:TS):Prop :=
 ∀(s:fy) (d:St) (H:Hp) (D:Ends),Inv X [] d H s->t D d H->PY (P9 X.prog X.w) X.A (exec st X.env) (SP X [] D) X.xe s
meta def ze(X:Cx)(st:MC Stmt)(t:TS):Prop :=
 ∀(s:fy) (d:St) (H:Hp) (D:Ends),Inv X [] d H s->t D d H->PY (P9 X.prog X.w) X.A (execs st X.env) (SP X [] D) X.xe s
def rN.top {st:MC Stmt}(h:rN X st t):ze X st t:=λs d H D I q=>h [] s d H D I q
def PS.top {st:Stmt}(h:PS X st t):Oa X st t:=λs d H D I q=>h [] s d H D I q
meta def behind(i:Nat)(D:Ends):Ends:={nx:=λd H=>D.nx (d.set i gV) H,rt:=D.rt,bk:=λd H=>D.bk (d.set i gV) H,ct:=λd H=>D.ct (d.set i gV) H}
meta def Ob(K:Frag)(G:AB)(o i:Nat)(E':XK)(m:TS)(l:TS):TS:=λD j H=>m D j H/\∀d g e,E' d g e->∃C,d=.ref C/\xE K C G/\∀x,e x=gV->l (behind i D) ((P7 o gV).set i (U (.ref x))) (upd e x (.ext (u6 x C g)))
def KL {T:TS}{V:Pos}(p:X.pn=[])(M:X.stack=X.env::X.outer)(hf:X.env.frame=U X.env.locals)(hb:rN (X.jE (Jq X E')) y T)(hg:Gl X g)(hm:X.mg g=U (.ref G))(hN:X.N.Nodup)(hi:X.N[i]?=U n)(hk:X.env.scope.names.lookup n=U .local)(hs:∀x,rN (X.Ct x) (W::l) R)(hdb:(g == ("__debug__":AA))=AE:=by decide):
  Oa X (.Try y [.ExceptHandler (U (.Name g gp)) (U n) (W::l) V] [] [] pos) (Ob X.K G ⇑X.N i E' T R):=by
 intro s σ H D I h;let(h1,h2):=h;refine wpAny_Try_except (Qu (hb [] s σ H D (I.jE _) h1) (λf s1 q=>?_) λe s1 q=>?_)
 .cases f with
  |next=>calc rz q.fL
  |brk=>calc q.fL
  |cont=>calc q.fL
  |ret u=>exact q.fL
 .have(x,C,od,fl,aa,H1,rfl,I1,F1,q1):=q;let(C',ec,S,q2):=h2 _ _ _ q1
  cases ec
  let q3:=q2 x F1.hx;calc xA I1 p M hf F1 λs2 o2 I2 F2=>?_;calc oj I2 p F2 λs3 ac o3 I3 Z=>?_;calc wpAny_handleBy_cons (codeAny_handlers_test ?_) (by intro z;cases z);let Q:=I3.Ct x;calc pN Q hg hm ?_ hdb;let(oe,vs,he,O,_):=Z.ob;calc Cs Q.tu S he O ?_;calc codeAny_handlers_suite_as ?_;calc oj (X:=X.Ct x) Q p Z λs4 ab o4 J4 F4=>?_;let Y:=Inv.ME J4 p F4
  let J6:Inv (X.Ct x) [] (P7 ⇑X.N gV) (upd H1 x (.ext (u6 x C od))) s4:=Y.weak (by rw[UT];calc Y.len.symm) λj v e=>by
   rw[Ut]at e
   split at e<;>cases e
  calc lK (X:=X.Ct x) J6 hN hi (.inl hk) (show RelV (.ref x) (Value.ref x)from rfl) (λs5 J7=>?_) (.inr hk);refine Qu (hs x [] s5 _ _ _ J7 q3) (λf gD B=>?_) λ_ _ z=>z.elim
  let fin:∀{d:St}{m:Hp}{L:Flow->fy->Prop},Inv (X.Ct x) [] d m gD->(∀o,Inv X [] (d.set i gV) m o->L f o)->PY (P9 X.prog X.w) X.A (do Xd X.env n .none;Vj X.env n V) (λ_ o=>L f o) X.xe gD:=λ{d m L} J go =>
   G0 (J.NZ I.ok) hN hi hk λo t=>go o t
  cases f with
  |next =>
   let(d,m,J,q):=B;calc fin J λo t=>#[_,m,t,q]
  |brk =>
   let(d,m,J,q):=B;calc fin J λo t=>#[_,m,t,q]
  |cont =>
   let(d,m,J,q):=B;calc fin J λo t=>#[_,m,t,q]
  |ret u =>
   let(v,d,m,J,r,q):=B;calc fin J λo t=>#[v,_,m,t,r,q]
meta def lI(H:Hp)(x C:AB)(fs:MC (AA×V)):Prop:=(fs=[]/\H x=U (.ext (u6 x C gV)))\/∃d,H x=U (.ext (u6 x C (U d)))/\H d=U (.xd fs)
def lI.Ct (e:lI H x C fs)(ok:nh P w H h):Jp x C h:=by
 rcases e with⟨-,e⟩|⟨dx,e,ed⟩
 .obtain⟨⟨j,p,m,l,g,d⟩,-,-⟩:=ok x _ e;exact#[j,gV,m,l,by(unfold notCls;rw[d]),by(rw[g];trivial)]
 .obtain⟨⟨j,p,m,l,g,d⟩,-,-⟩:=ok x _ e;obtain⟨r,⟨o,t,u,q,-⟩,-⟩:=ok dx _ ed;calc#[j,U o,m,l,by(unfold notCls;rw[d]),by(rw[g];calc q)]
def nQ :iQ X (.builtin "isinstance") (λxs H Q=>∃x C fs D r,xs=[.ref x,.ref D]/\lI H x C fs/\Cp X.K C/\Vq X.K (.ref C) (.ref D)=U r/\Q (.bl r) H):=by
 intro d s l H xs m Q I r h;let(x,C,fs,D,b,rfl,e,G,k,q):=h;let(u,g,rfl,j,r2):=vals2 r;obtain rfl:u=Value.ref x:=j;obtain rfl:g=Value.ref D:=r2;calc kia_one (xw G) I.tu (e.Ct I.hok) k nofun λo=>#[.bl b,H,I.tok _,rfl,q]
def xF :iQ X (.builtin "isinstance") (λxs H Q=>∃x C fs T r,xs=[.ref x,.ty T]/\lI H x C fs/\Cp X.K C/\Vq X.K (.ref C) (.type T)=U r/\Q (.bl r) H):=by
 intro d s l H xs m Q I r h;let(x,C,fs,T,b,rfl,e,G,k,q):=h;let(u,g,rfl,j,r2):=vals2 r;obtain rfl:u=Value.ref x:=j;obtain rfl:g=Value.type T:=r2;calc kia_one (xw G) I.tu (e.Ct I.hok) k nofun λo=>#[.bl b,H,I.tok _,rfl,q]
def xG :iQ X (.builtin "isinstance") (λxs H Q=>∃x C fs d,∃ds:List AB,∃r,xs=[.ref x,.ref d]/\lI H x C fs/\Cp X.K C/\b9 X.K H d (ds.map V.ref)/\YK X.K (.ref C) (ds.map Value.ref)=U r/\Q (.bl r) H):=by
 intro g s J H xs L Q I r h;let(x,C,fs,d,ds,b,rfl,e,G,l,k,q):=h;let(u,j,rfl,o,r2):=vals2 r;obtain rfl:u=Value.ref x:=o;obtain rfl:j=Value.ref d:=r2;obtain⟨y,m,B,-⟩:=I.tuple l;let z:=vQ m;subst z;let((N,t,v,p),D,rfl,n,rfl):=B;calc kia_tup (xw G) I.tu (e.Ct I.hok) D k nofun λM=>#[.bl b,H,I.tok _,rfl,q]
meta def KN(K:Frag)(ta:TE)(n:AA):TE:=λe H Q=>ta e H λx d=>∃a C fs v,x=.ref a/\lI d a C fs/\KG K C n/\fs.lookup n=U v/\Q v d
def Eh (T:PE X e ta)(gD:Tr e n X.env (eval e X.env)=eval e X.env:=by rfl):PE X (.Attribute e n pos) (KN X.K ta n):=by
 intro d s D H Q I h;calc A7 gD (cQ (T d s D H _ I h) λu s1 ⟨x,H1,g,G,a,C,fs,v,ex,t,R,l,q⟩=>?_);subst ex;obtain rfl:u=Value.ref a:=G;rcases t with⟨rfl,-⟩|⟨dx,t,ed⟩
 .cases l
 obtain⟨⟨L,vs,Z,Y,r,m⟩,-,-⟩:=g.hok a _ t;let(O,(o,es,ep,W,p,sk,uk,N),j):=g.hok dx _ ed;let(u,S,y):=lD.some_of (v:=v) (o:=O n) (by rw[<-l];calc j n);let(B,V,M):=R.no
 let lk:We n o=U (U u):=by
  let z:=N n;rw[S]at z;unfold Yl findBy at z;let(en,q1,J):=IF.mp z;unfold We;rw[p];dsimp only;rw[<-XS]at q1;rw[q1];exact congrArg (λz=>U (U z)) J
 calc Cn (ox:=L) (od:=U o) g.tu #[Z,Y,by(unfold notCls;rw[m]),by(rw[r];calc W)] R.hg (findObj_own R.hd V M lk) (vj y) #[v,H1,g.tok _,y,q]
def qZ {st:Stmt}{rest:MC Stmt}(l:Oa X st t)(j:ze X rest u):ze X (st::rest) (bf t u):=by
 intro s e H D I h;refine Wu (cQ (l s e H {D with nx:=u D} I h) λf g q=>?_)
 cases f with
 |next =>
  let(d,o,m,q):=q;calc j g d o D m q
 |ret v=>calc q
 |brk=>calc q
 |cont=>calc q
def i9.G4 {P:L0}{w:Qe}{K:cB}{mg:AA->AF eT}{base:Heap}{x d:AA}{st:Stmt}{f:AB}{m:PZ}{N ps:List AA}{k:Nat}{sp:Sp}(F:i9 K x d st f m)(S:aY N ps (af st))(g:∀vs H Q E,sp vs H Q E->⇑vs=⇑ps)(hbody:∀(cdv:eT) (A:Qk) (outer:MC Env) (s:fy) (H:Hp) (vs:MC V) (Q:VK) (E:XK),dZ k (A.deeper (Qj d (af st) s⁻¹ f cdv))->sp vs H Q E ->
   ∃t,rN ((Zk (zc P w) N d (af st) H).jE (Jq (Zk (zc P w) N d (af st) H) E)) (bE st) t/\t {nx:=λ_ r=>Q .gu r,rt:=Q} (start N vs) H):Yf (zc P w) (k+1) f m ps sp:=by
 let(B,y,kV,p,v,D,cdv,C,o,rfl,lk,l):=F.ex;calc Jg lk l S g λA outer s H vs Q E hr j=>?_;let(t,h,q):=hbody cdv A outer s H vs Q E hr j;calc#[t,rN.KH (λe u z=>KI z) h,q]
end L2
namespace L2
open PySem PySem.Spec PyProof.Rows
def ze.oS {st:MC Stmt}(h:ze X.oS st t):ze X st t:=λs d H D I e =>
 Qu (h s d H D (I.jE _) e) (λ_ _ q=>q.fL) λ_ _ z=>Rr z
def KO {CX:yn}{P:L0}{w:Qe}{K:cB}{mg:AA->AF eT}{base:Heap}{k:Nat}{f:AB}{name d:AA}{g:Arguments}{j:MC Stmt}{scope:Rt}{T kV D R cdv ct oc:eT}{X od:AF AB}{osl:Array (AF eT)}{N ps:List AA}{sp:Sp}(lk:K.lookup f=U #[oc,od,.func (UG name d g j scope T kV D R X cdv ct),osl])(hcd:Wh K cdv d=AD)(S:aY N ps scope)(len:∀vs H Q E,sp vs H Q E->⇑vs=⇑ps)(hbody:∀(A:Qk) (outer:MC Env) (s:fy) (H:Hp) (vs:MC V) (Q:VK) (E:XK),dZ k (A.deeper (Qj d scope s⁻¹ f cdv))->sp vs H Q E ->
   ∃t,ze (Zk CX N d scope H) j t/\t {nx:=λ_ m=>Q .gu m,rt:=Q} (start N vs) H):
  Yf CX (k+1) f (UG name d g j scope T kV D R X cdv ct) ps sp:=by
 calc#[len,λA outer s H gD Z vs Q E hr C hb r B=>?_];let hl:=len _ _ _ _ B;let Y:K.In s.heap:=C.mod.kin.keeps λb o e=>(C.bs b o e).1;let M:s.heap.NoLimit:=C.mod.nolimit.keeps λb o e=>(C.bs b o e).1
 let p:∀y∈ps.zip Z,scope.names.lookup y.1=U .local\/(scope.names.lookup y.1=U .cell/\((Yn (s⁻¹+1) scope.names []).lookup y.1).isSome=AD):=λ⟨n,v⟩ hy=>by
  rcases S.par n (R0 hy).1 with q|q
  .exact .inl q
  .exact .inr #[q,UE _ _ _ (.inl q)]
 calc W9 hr.depth (Y _ _ lk) rfl S.co S.gen rfl (XU Y hcd) (hb _ _ _ _ ?_);calc VF S.kind p λaa he O x=>?_;subst he;calc#[M.keeps x.toInCall.keep,codeAny_func ?_];let(t,ht,hq):=hbody A outer s H vs Q E (hr.deeper _) B;let I:Inv (Zk CX N d scope H) [] (start N vs) H O:=vD S hr.hd C hl r x;refine Qu (ht O (start N vs) H _ I hq) (λfl G z=>?_) λe G z=>z
 let fin:∀{l:St}{m:Hp}{v:V}{u:eT},Inv (Zk CX N d scope H) [] l m G->RelV v u->Q v m->CE outer P w H s Q u G :=
  λ{l m v u} J L q=>#[v,m,J.os,J.bare,J.base,J.hok,L,q]
 cases fl with
 |ret u =>
  let(v,l,m,J,L,q):=z;calc fin J L q
 |next =>
  let(l,m,J,q):=z;calc fin (v:=V.gu) (u:=Value.none) J rfl q
 |brk =>
  let(_,_,_,q):=z;calc Rr q
 |cont =>
  let(_,_,_,q):=z;calc Rr q
def i9.Pu {P:L0}{w:Qe}{K:cB}{mg:AA->AF eT}{base:Heap}{x d:AA}{st:Stmt}{f:AB}{l:PZ}{N ps:List AA}{k:Nat}{sp:Sp}(F:i9 K x d st f l)(S:aY N ps (af st))(e:∀vs H Q E,sp vs H Q E->⇑vs=⇑ps)(hbody:∀(cdv:eT) (A:Qk) (outer:MC Env) (s:fy) (H:Hp) (vs:MC V) (Q:VK) (E:XK),dZ k (A.deeper (Qj d (af st) s⁻¹ f cdv))->sp vs H Q E ->
   ∃t,ze (Zk gy N d (af st) H).oS (bE st) t/\t {nx:=λ_ p=>Q .gu p,rt:=Q} (start N vs) H):Yf gy (k+1) f l ps sp:=by
 let(v,u,kV,o,r,z,cdv,y,m,rfl,lk,j):=F.ex;calc KO lk j S e λA outer s H vs Q E hr g=>?_;let(t,h,q):=hbody cdv A outer s H vs Q E hr g;exact#[t,h.oS,q]
open PySem.W
meta def zf(C:AB)(n:AA):Sp:=λe H Q _=>∃(x:AB) (y:V),e=[.ref x,y]/\H x=U (.ext (iB x C gV))/\∀d,H d=gV->d≠x->Q .gu (upd (upd H d (.xd [(n,y)])) x (.ext (iB x C (U d))))
structure oO(P:L0) (w:Qe) (K:Frag) (mg:AA->AF eT) (base:Heap) (x:AA) (k:Nat) (ps:List AA) (sp:Sp) (f:AB) (fd:PZ):Prop where
 ok:Yf (zc P w) k f fd ps sp
 at':mg x=U (.ref f)
 kp:R3 K (.ref f)=AD
 bd:Binds K fd ps []
structure Dh(P:L0) (w:Qe) (K:Frag) (mg:AA->AF eT) (base:Heap) (x:AA) (n:AA) (C f:AB) (fd:PZ):Prop where
 k:GZ K C f
 ok:Yf gy 1 f fd ["self",n] (zf C n)
 m:mg x=U (.ref C)
 bd:Binds K fd ["self",n] []
 c:Az K C
meta def Told(E:XK)(H:Hp)(C:AB)(n:AA)(y:V):Prop:=∀(d:AB) (e:Hp),aS H e->H d=gV->e d=U (.xd [(n,y)])->E (.ref C) (U d) e
def Told.Z (t:Told E H C n y)(s:aS H d):Told E d C n y:=λl m e j g=>t l m (s.trans e) (s.free j) g
def gq {K:Frag}(c:Az K C)(h:Told E H C n y):∀x,m<=x->H x=gV->zf C n (.ref x::([y]++[])) (upd H x (.ext (iB x C gV))) (λv o=>v=.gu/\∃d l od,V.ref x=.ref d/\m<=d/\o d=U (.ext (iB d l od))/\Az K l/\E (.ref l) od (Dg d o)) E0:=by
 intro x t r;refine#[x,y,rfl,aj,λj hd g=>#[rfl,x,C,U j,rfl,t,aj,c,h j _ (λb u q=>?_) ?_ ?_]]
 .have e:b≠x:=ay q r
  let p:b≠j:=by
   intro z;subst z;rw[aB e]at hd;rw[hd]at q
   cases q
  rw[nN e,aB e,aB p,aB e];exact q
 .rw[aB g]at hd;exact hd
 .rw[nN g,aB g];calc aj
end L2
namespace L2
open PySem
@[irreducible] def jA (X:Cx) (st:MC Stmt):TS:=λD σ H=>∃u,rN X st u/\u D σ H
def cZ :rN X st (jA X st):=λd s e H D I h=>by
 unfold jA at h;let(u,g,q):=h;calc g d s e H D I q
def eY (h:rN X st u)(q:u D d H):jA X st D d H:=by
 unfold jA;calc#[u,h,q]
meta def isStar:Expr->Bool
 |.Starred _ _=>AD
 |_=>AE
def Ei (h:isStar e=AE):QS (e::g) d=(AE,eval e d)::QS g d:=by
 cases e<;>first|rfl|cases h
def cU {e:Expr}{g:MC Expr}{d:TE}{t:TA}(j:PE X e d)(hr:PA X g t)(hs:isStar e=AE:=by rfl):PA X (e::g) (kF d t):=bR j hr (Ei hs)
open PySem.Spec PyProof.Rows
open PySem.AutoSeq1 (wpAny_loadPart')
def Ej (r:A.handled=gV)(it l:AB)(m:l≠it)(items:Array eT):
  Draws prog w A it [it,l] items.size (λi v=>items[i]?=U v) (λi h=>qI b h it l i/\rW b h l items) where
 live:=λ_ _ d=>d.1.got
 frame:=λ_ _ _ d p=>#[d.1.at λo e=>p it (by simp) o e,d.2.at λo e=>p l (by simp) o e]
 item:=λi s Q E q d t=>by
  calc qm d.1 d.2 (x:=items[i]) (by simp[q]) λy j g=>?_;exact t _ y s.toks (by simp[q]) #[j,d.2.extBut g.extBut m] g
 done:=λs Q E d u=>xm r d.1 d.2 (by simp) u
set_option maxRecDepth 100000 in
def G7 (b:Bool)(l:AB)(items:Array eT):
  YJ (RQ.«enumerate.__new__» #[[.type "enumerate",.ref l],[]]) (λ_ R s=>rW b s.heap l items /\
   R (.ok (.ret (.ref (s.heap.push (nL b l)).objs.size)))
    {s with heap:=(s.heap.push (nL b l)).push {cls:=.type "enumerate",data:=.fields #[.none,.bool AE,.ref s⁻¹,S5 0,.none,.none,]}}) :=
 .of_wp λp w A R s h=>by
  let(y,g,d,r,u):=s;let(e,h):=h;let q:=sub_enumerate;let m:rW b (Yy #[y,g,d,r,u]) l items:=e;let(o,j):=e.got;let(C,B,v,t):=o
  wp_walk using Vr j
  refine wpAny_stack_any λz=>rz ?_
  split
  .rename_i c _ _ _ _ _
   cases(c == Value.type "enumerate")
   .wp_walk using Vr j,za m
    exact#[_,rfl,h]
   .wp_walk using Vr j,za m
    exact#[_,rfl,h]
  .wp_walk using Vr j,za m
   calc#[_,rfl,h]
end L2
namespace L2
open PySem PySem.Spec PyProof.Rows
def Ek (j:rW b s.heap l items)(h:∀h',IsEnum h' (s⁻¹+1) s⁻¹ 0 .none->qI b h' s⁻¹ l 0->h'.objs.size=s⁻¹+2 ->
   (∀b o,s.heap.get? b=U o->h'.get? b=U o)->Q (.ref (s⁻¹+1)) {s with heap:=h'}):
  PY (P9 prog w) A (call (.type "enumerate") [.ref l]) Q E s:=by
 calc callType_new PySem.F.called_enumerate ∅ (PySem.F.typeCall_enumerate_1 _) (PySem.F.newCall_enumerate_1 _) (λd=>PySem.F.args_object_init_2 d _) PySem.F.entry_enumerate_new (G7 b l items) #[j,?_];let g:(s.heap.push (nL b l)).objs.size=s⁻¹+1:=Q6 ..;let e:=P5 (s.heap.push (nL b l)) (o:={cls:=.type "enumerate",data:=.fields #[.none,.bool AE,.ref s⁻¹,S5 0,.none,.none,]}) rfl;show _/\_;rw[g]at e|-;calc#[#[_,e,rfl],h _ e (D6 (u5 _ (P5 _ rfl))) (by rw[Q6,g]) λb o x=>u5 _ (u5 _ x)]
meta def MF (K : cB) (b : Bool) (l : AB) : It :=
  #[λi H => ∃ d x, mW K b H l d ∧ d[i]? = U x,
   λi H v e => ∃ p x, H p = gV ∧ v = .ref p ∧ e = upd H p (.J [.int i, x]) ∧ ∀ d, mW K b H l d -> d[i]? = U x,
   λi H => ∃ d, mW K b H l d ∧ ⇑d = i]
def Cu {K:cB}(e it l:AB)(d1:e≠it)(d2:l≠it)(d3:l≠e):Turn P w K (.Tuple L x1 pos) (MF K b l) [e,it] e
  (λi h=>(∃j,IsEnum h e it i j)/\qI b h it l i) where
 mem:=by simp
 obj:=λi h t c g=>by
  let((j,p),r):=t;simp only[P1,Qo,or_false]at g;rcases g with rfl|rfl
  .exact#[_,p,λv z=>by cases z]
  .cases b with
   |false=>let(o,e,_,d):=(show h.IsListIter _ l i from r);calc#[o,e,λv z=>by rw[d]at z;cases z]
   |true=>let(o,e,_,d):=(show h.IsTupleIter _ l i from r);exact#[o,e,λv z=>by rw[d]at z;cases z]
 keep:=λi h h' t k=>by
  let((j,p),r):=t;exact#[#[j,k e (by simp) _ p],r.at λo q=>k it (by simp) o q]
 item:=by
  intro X hP gD hK g i C s σ H E I O t hg;subst hP gD hK;let(xs,x,N,hx):=hg;let((j,p),r):=t;let(m,Q,R,_):=mG I N;let(u,hu,ru):=Q.get hx
  let Y:i<m.toArray.size:=by
   let:=(eF.mp hu).1
   simpa using this
  refine wpAny_pyNext_enum_itemD (Ej (A:=X.A.in1) (b:=b) (I.ok.hd g) it l d2 m.toArray) p #[r,R] Y d1 (by simp[d1,RP d3]) λy h' M hy ho V hT ab Z=>?_
  let T:y=u:=by
   let D:m[i]?=U y:=by simpa using hy
   rw[hu]at D;exact(Qw D).symm
  subst T;refine#[.ref s⁻¹,rfl,wpAny_letOwnedTupleGo_enum (s:={s with heap:=h',toks:=M+1}) ho λJ aa B=>?_]
  let ne:∀c∈[e,it],c≠s⁻¹:=λc g z=>by
   obtain⟨o,e2⟩:∃o,s.heap.get? c=U o:=by
    simp only[P1,Qo,or_false]at g;rcases g with rfl|rfl
    .exact#[_,p]
    .exact r.got
   let:=P0 e2;rw[z]at this;exact Q8 _ this
  let kk:∀c o,c∉[e,it]->s.heap.get? c=U o->J.get? c=U o:=λc o g q=>by
   simp only[P1,Qo,or_false,not_or]at g;exact(B.2 c g.1).trans (Z c o g.1 g.2 q)
  let G:J.get? s⁻¹=U {cls:=.type "tuple",data:=.seq #[.int i M,y,]}:=(B.2 _ (ne e (by simp)).symm).trans hT
  refine#[.ref s⁻¹,upd H s⁻¹ (.J [.int i,x]),I.xr (t':=M+1) O kk (u4 _) #[(by show 2<=my;decide),_,.cons #[M,rfl] (.cons ru .nil),#[_,G,rfl,_,rfl],_,G,rfl],rfl,
   #[_,x,I.hok.fresh (u4 _),rfl,rfl,λzs S=>by rw[mW.inj I S N];calc hx],?_,λc g=>?_]
  .exact#[#[_,by simpa using aa],V.1.at λo q=>(B.2 it (RP d1)).trans q]
  .rw[aB (ne c g)];exact(O c g).1
 done:=by
  intro X hP gD hK g i C s σ H E I O t hg;subst hP gD hK;let(xs,N,hl):=hg;let((j,p),r):=t;let(m,Q,R,_):=mG I N;let e1:=⇑Q;let ei:i=m.toArray.size:=by simp;omega
  rw[ei]at r;calc wpAny_pyNext_enum_endD (Ej (A:=X.A.in1) (b:=b) (I.ok.hd g) it l d2 m.toArray) p #[r,R] λh' Z=>#[rfl,I.xo (t':=s.toks) O λc o g q=>?_];simp only[P1,Qo,or_false,not_or]at g;exact Z c o g.2 q
 self:=λ_ _ _ _ _ t h=>let⟨_,p⟩:=t.1;wpAny_pyIter_enum p h
meta def MG(K:cB)(t:TA):TI:=λe H R=>t e H λj d=>∃b p g,j=[.ref p]/\mW K b d p g/\R (MF K b p) d
def G8 (K:cB)(V:X.K=K)(T:Gl X "enumerate")(Q:X.mg "enumerate"=gV)(gD:PA X [a] t)(he:QS [a] X.env=(AE,eval a X.env)::QS [] X.env:=by rfl)(hpl:(UC q (QS [] X.env)).any (·.1)=AE:=by rfl):PI X (.Tuple m B pos) (.Call (.Name "enumerate" G) [a] [] q) (MG K t):=by
 subst V;intro j s z H R I h;calc Rx (ni I T Q (u:=.type "enumerate") ∅ ?_ ∅ ∅);calc Ru ?_ he hpl;calc cQ (gD q j s z H _ I h) λus d ⟨vs,Z,o,D,q1⟩=>?_;let(c,p,xs,rfl,M,O):=q1;let(u,rfl,C):=vals1 D;obtain rfl:u=Value.ref p:=C;let(L,rv,r,_):=mG o M;let J:@LT.lt Nat _ p d⁻¹:=by let(_,e):=r.got;exact P0 e
 calc Ek r λg v Y N S=>?_;calc wpAny_pyIter_enum (s:={d with heap:=g}) v ?_;refine#[d⁻¹+1,[d⁻¹+1,d⁻¹],_,_,Z,rfl,o.kept (t':=d.toks) S,Cu _ _ p (by show @Ne Nat _ _;omega) (by show @Ne Nat _ _;omega) (by show @Ne Nat _ _;omega),#[#[_,v],Y],λb y=>?_,O]
 let l:d⁻¹<=b:=by
  simp only[P1,Qo,or_false]at y;rcases y with rfl|rfl
  .exact RA _ 1
  .exact u4 _
 calc o.BW l (o.hok.fresh l)
def El {K:cB}{g:TG}{t:TS}{D:Ends}(j:Nat->St->Hp->Prop)(I:j 0 d H)(C:∀i d H,i<=⇑xs->j i d H->mW K b H a xs)(hs:∀i x d H p,xs[i]?=U x->j i d H->H p=gV->g (.ref p) d (upd H p (.J [.int i,x])) λl r=>t {D with nx:=j (i+1),ct:=j (i+1),bk:=D.nx} l r)(hd:∀d H,j ⇑xs d H->D.nx d H):
  ∃W:Nat->Nat->St->Hp->Prop,(∃m,W 0 m d H)/\∀i m d H,W i m d H ->
   ((MF K b a).stop i H/\D.nx d H)\/((MF K b a).go i H/\∃N:St->Hp->Prop,(∀σ' o,N σ' o->∃m',m' < m/\W (i+1) m' σ' o)/\∀x o,(MF K b a).yld i H x o->g x d o λl r=>t {D with nx:=N,ct:=N,bk:=D.nx} l r):=by
 calc#[λi m d H=>m=⇑xs-i/\i<=⇑xs/\j i d H,#[⇑xs,by simp,Qc _,I],?_];rintro i m d H ⟨rfl,G,p⟩;let q1:=C i d H G p
 by_cases q:i<⇑xs
 .refine .inr #[#[xs,xs[i],q1,by simp[q]],j (i+1),λσ' o z=>#[⇑xs - (i+1),(),rfl,q,z],λx o y=>?_];let(v,u,B,rfl,rfl,J):=y;exact hs i u d H v (J xs q1) p B
 .have e:i=⇑xs:=()
  subst e;calc .inl #[#[xs,q1,rfl],hd d H p]
meta def sp(c:Nat):MC Nat->MC (MC Nat)
 | []=>[[]]
 |a::l=>if a=c then []::sp c l else match sp c l with
  |p::r=>(a::p)::r
  | []=>[[a]]
meta def wd(l:MC Nat):MC (MC Nat):=(sp 32 l).filter λp=>!p.isEmpty
end L2
local macro_rules|`(tactic|right)=>`(tactic|try dsimp only[L2.bA])
namespace G16
open PySem L2
def qp {W:eT->fy->Prop}{CX:yn}{P:L0}{w:Qe}{K:cB}{mg:AA->AF eT}{base:Heap}{N:List AA}{e:AA}{d:Rt}{f:AB}{cdv:eT}{A:Qk}{outer:MC Env}{s:fy}{H:Hp}{E:XK}:((Zk CX N e d H).jE W).K=K:=rfl
def qq {CX:yn}{P:L0}{w:Qe}{K:cB}{mg:AA->AF eT}{base:Heap}{N:List AA}{e:AA}{d:Rt}{f:AB}{cdv:eT}{A:Qk}{outer:MC Env}{s:fy}{H:Hp}{E:XK}:(Zk CX N e d H).K=K:=rfl
meta def Em(g:AB):Sp:=λe H Q E=>∃(n:Int) (l:AB) (d:MC Int),e=[.int n,.ref l]/\H l=U (.Y (d.map V.int))/\⇑d<=900/\(n∈d->Told E H g "name" (.str "?"))/\(n∉d->Q .gu (upd H l (.Y ((d++[n]).map V.int))))
meta def rg(K:cB)(j:AB):Sp:=λg H Q E=>∃(a:AB) (b:Bool) (d:List AA),g=[.ref a]/\mW K b H a (d.map V.str)/\⇑d<=500/\(∀x,cy [] d=U x->Told E H j "name" (.str x))/\(cy [] d=gV->∀e,aS H e->Q .gu e)
def lA :Nm Γn (af mF):=∅
def zg :aY Γn Γn (af mF):=by ac_rfl
def KP (F:i9 K "look_gap" "look_gap" mF f j)(d:Y2 "Twice" "name" cT fT dT):Yf (zc P w) 3 f j Γn (Em cT):=by
 exists F.G4 zg
 .have(_,_,_,rfl,_):=h;rfl
 let(n,l,ns,rfl,r,y,t,k):=h;refine#[_,(Z5 (Zb (fV iz (va lA 0) (va lA 1) (by rfl')) (Zd (gZ[5]! rfl (ji d.k d.ok (hr.mono ()) (by left) d.m d.bd .nil lS (Za aC))))) (Zd (Zm (Z8 (va lA 1) (Za (va lA 0)))))),?_]
 right
 try dsimp only[qp,qq]
 let B:=Cj ns;let u:aV K H l (ns.map V.int):=aV.of r;let g:=Eb (n:=n) (ns:=ns);let v:⇑(ns.map V.int)<my:=bg (by rw[bM];omega);ext;refine b8 (λc=>?_) (λc=>?_)
 .have e:n∈ns:=by
   let o:pK (.int n) (ns.map V.int)=AD:=c;rw[g]at o;exact of_decide_eq_true o
  let q:=t e;ext;exact gq d.c q
 .have e:n∉ns:=λz=>c (by show pK (.int n) (ns.map V.int)=AD;rw[g];calc decide_eq_true z);ext;let:=k e;rw[i4]at this;calc this
def jl :Nm ["names","at","name"] (af jH):=∅
def qt :Lm ["names","at","name"] (af jH):=∅
def mH :aY ["names","at","name"] Γv (af jH):=by ac_rfl
def G9 {T:PZ}(F:i9 K "look_once" "look_once" jH f T)(d:Y2 "Twice" "name" cT fT dT)(e:mg "enumerate"=gV):Yf (zc P w) 3 f T Γv (rg K cT):=by
 exists F.G4 mH
 .have(_,_,_,rfl,_):=h;rfl
 let(a,b,xs,rfl,M,Z,S,k):=h;refine#[_,(Zd (Zl (jh rfl rfl rfl) (G8 K rfl (by left) e (Za (va jl 0))) (Zc (Zf (ga mH.nd qt 1) (Zt (ga mH.nd qt 2)))) (Zd (Zb (fV[8]! iz (va jl 2) (Zq (Dy.or jV Ah) (va jl 0) bW (bL (va jl 1))) (by rfl')) (Zd (gZ[5]! rfl (ji[17]! d.k d.ok (hr.mono ()) (by left) d.m d.bd .nil lS (Za (va jl 2)) ∅ (by rfl) (by rfl)))))))),?_]
 right
 try dsimp only[qp,qq]
 let O:⇑(xs.map V.str)=⇑xs:=bM _;ext;refine El (K:=K) (b:=b) (xs:=xs.map V.str) (λi G t=>(∃y z,G=[U (.ref a),y,z])/\aS H t/\cy [] xs=cy (xs.take i) (xs.drop i)) #[#[_,_,rfl],aS.refl _,rfl] ?_ ?_ ?_
 .rintro i G t hi ⟨_,C,_⟩;exact zb M C
 .rintro i v G t p3 hv ⟨⟨_,_,rfl⟩,C,g⟩ hp3;rw[EF]at hv;let(x,R,rfl):=IF.mp hv;let X:=(eF.mp R).1;let N:=ae hp3 (.J [.int i,.str x]);let Y:upd t p3 (.J [.int i,.str x]) p3=U (.J [.int i,.str x]):=aj;generalize upd t p3 (.J [.int i,.str x])=H3 at N Y|-;let o:=C.trans N;let u:=zb M o;rw[Ec R]at g;let gD:gx (xs.map V.str) gV (U (i:Int))=(xs.take i).map V.str:=by rw[dm,RK]
  let fl:=oh (xs.take i);let I:=uf (x:=x) (xs:=xs.take i)
  cases b with
  |false =>
   let l:aV K H3 a (xs.map V.str):=u;ext;calc .inl #[_,_,rfl,l,λp q=>?_];rw[gD];let B:=ae q (.Y ((xs.take i).map V.str));let L:aV K (upd H3 p (.Y ((xs.take i).map V.str))) p ((xs.take i).map V.str):=aV.of aj;generalize upd H3 p (.Y ((xs.take i).map V.str))=H4 at B L|-;let j:=o.trans B;ext;refine b8 (λc=>?_) (λc=>?_)
   .have r:x∈xs.take i:=by
     let D:pK (.str x) ((xs.take i).map V.str)=AD:=c;rw[I]at D;exact of_decide_eq_true D
    rw[if_pos r]at g;let J:=(S x g).Z j;ext;exact gq d.c J
   .have r:x∉xs.take i:=λz=>c (by show pK (.str x) ((xs.take i).map V.str)=AD;rw[I];calc decide_eq_true z);rw[if_neg r]at g;calc#[#[_,_,rfl],j,g]
  |true =>
   let l:b9 K H3 a (xs.map V.str):=u
   let nw:¬(HT.iL ⇑(xs.map V.str) 0 gV=0/\HT.iL ⇑(xs.map V.str) ⇑(xs.map V.str) (U (i:Int))=⇑(xs.map V.str)):=λz=>by
    let:=z.2;rw[HT.mw,O]at this;omega
   ext;calc .inr #[_,_,rfl,l,nw,λp q=>?_];rw[gD];let B:=ae q (.J ((xs.take i).map V.str));let L:b9 K (upd H3 p (.J ((xs.take i).map V.str))) p ((xs.take i).map V.str):=b9.of aj;generalize upd H3 p (.J ((xs.take i).map V.str))=H4 at B L|-;let j:=o.trans B;ext;refine b8 (λc=>?_) (λc=>?_)
   .have r:x∈xs.take i:=by
     let D:pK (.str x) ((xs.take i).map V.str)=AD:=c;rw[I]at D;exact of_decide_eq_true D
    rw[if_pos r]at g;let J:=(S x g).Z j;ext;exact gq d.c J
   .have r:x∉xs.take i:=λz=>c (by show pK (.str x) ((xs.take i).map V.str)=AD;rw[I];calc decide_eq_true z);rw[if_neg r]at g;exact#[#[_,_,rfl],j,g]
 .rintro G t ⟨_,C,g⟩;rw[O,RO]at g;calc k g _ C
end G16
namespace L2
open PySem
def Jr (p:Prop)(ht:∀C:Bool->Hp->Prop,(p->C AD H)->(¬p->C AE H)->e d H C)(a:p->ta D d H)(b:¬p->g D d H):JK e ta g D d H:=ht _ a b
def KQ (R:Bool->Hp->Prop)(ht:∀C:Bool->Hp->Prop,(∀b d,R b d->C b d)->g e H C)(a:∀d,R AD d->ta D e d)(b:∀d,R AE d->j D e d):JK g ta j D e H:=ht _ λc d h=>by
 cases c with
 |true=>calc a d h
 |false=>calc b d h
end L2
namespace G16
open PySem L2
set_option genInjectivity true in
inductive Kk|num|kd (x:AA)|op (n:Int)|row (k:Kk)
meta def jN:Kk->T
 |.num=>.s "num"
 |.kd x=>.t [.s "kind",.s x]
 |.op n=>.t [.s "open",.i n]
 |.row k=>.t [.s "row",jN k]
meta def Kk.core:Kk->Kk
 |.row k=>k.core
 |k=>k
meta def Kk.dep:Kk->Nat
 |.row k=>k.dep+1
 |_=>0
meta def Kk.ok(ns:List AA):Kk->Prop
 |.num=>True
 |.kd x=>x∈ns
 |.op _=>False
 |.row k=>k.ok ns
theorem Kk.xH :∀(k j:Kk),k.core≠.row j
 |.num,_=>nofun
 |.kd x,_=>nofun
 |.op n,_=>nofun
 |.row k,j=>xH k j
meta def uR(p:AA×Kk):T:=.t [.s p.1,jN p.2]
meta def iC(d:AA×MC (AA×Kk)×Tm):T:=.t [.s d.1,.t (d.2.1.map uR),enc d.2.2]
meta def cw:Kk->AA
 |.num=>"n"
 |.kd _=>"kind"
 |.op _=>"open"
 |.row _=>"row"
def core0 (r:Rp K H (jN c) v)(h:Q (.str (cw c)) H):Ml K v (.int 0) H Q:=by
 cases c with
 |num =>
  obtain rfl:=(show Rp K H (.s "num") v from r).aP;calc .inr (.inr #[_,0,110,rfl,rfl,∅,∅,h])
 |kd y =>
  let(e,l,j,rfl,d,g,m):=(show Rp K H (.t [.s "kind",.s y]) v from r).t2;obtain rfl:=g.aP;calc .inr (.inl #[e,_,0,.str "kind",rfl,rfl,d,rfl,h])
 |op n =>
  let(e,l,j,rfl,d,g,m):=(show Rp K H (.t [.s "open",.i n]) v from r).t2;obtain rfl:=g.aP;calc .inr (.inl #[e,_,0,.str "open",rfl,rfl,d,rfl,h])
 |row k =>
  let(e,l,j,rfl,d,g,m):=(show Rp K H (.t [.s "row",jN k]) v from r).t2;obtain rfl:=g.aP;calc .inr (.inl #[e,_,0,.str "row",rfl,rfl,d,rfl,h])
meta def hU(ah:List AA)(k:Kk):AF AA:=match k.core with
 |.op _=>U "?"
 |.kd x=>if x∈ah then gV else U x
 |_=>gV
meta def eR{d:Type}(f:d->AF AA):List d->AF AA
 | []=>gV
 |x::r=>match f x with
  |some n=>U n
  |none=>eR f r
theorem Γy {d:Type}{f:d->AF AA}{xs:List d}{i:Nat}{x:d}(h:xs[i]?=U x):eR f (xs.drop i)=match f x with
  |some n=>U n
  |none=>eR f (xs.drop (i+1)):=by
 let e:=(eF.mp h).1;let g:xs.drop i=x::xs.drop (i+1):=by rw[QV e,(eF.mp h).2]
 rw[g];rfl
meta def nR(K:cB):Sp:=λe H Q _=>∃(v:V) (k:Kk),e=[v]/\Rp K H (jN k) v/\∀d,Rp K H (jN k.core) d->Q d H
meta def Js(K:cB)(j:AB):Sp:=λg H Q E=>∃(a l:AB) (e:MC V) (ks:MC Kk) (d:List AA),g=[.ref a,.ref l]/\b9 K H a e/\bS K H (ks.map jN) e/\H l=U (.Y (d.map V.str))/\⇑ks<=100/\⇑d<=100 /\
 (∀n,eR (hU d) ks=U n->Told E H j "name" (.str n))/\(eR (hU d) ks=gV->Q .gu H)
def mJ :Nm ["kind"] (af jG):=∅
def xK :Lm ["kind"] (af jG):=∅
def qu :aY ["kind"] ["kind"] (af jG):=by ac_rfl
def xM (F:i9 K "innermost" "innermost" jG f D):Yf gy 1 f D ["kind"] (nR K):=by
 exists F.ok qu
 .have(_,_,rfl,_):=h;rfl
 let(v,k0,rfl,J,k):=h;refine#[_,(Z5 (yy[6]! QU (Zh bV (Z7 qS (va mJ 0)) aC) (Zd (Z4 qu.nd xK 0 (Z7 qS (va mJ 0))))) (Zd (eX (va mJ 0)))),?_]
 right
 right
 calc#[λm C o=>o=H/\∃(v:V) (l:Kk),C=[U v]/\Rp K H (jN l) v/\l.dep=m/\l.core=k0.core,#[k0.dep,rfl,v,k0,rfl,J,rfl,rfl],?_];rintro m C o ⟨rfl,v,l,rfl,j,M,y⟩
 let g:∀(s:AA),s≠"row"->¬(decide (V.str s=V.str "row")=AD):=λs L h=>by
  let e:=of_decide_eq_true h;injection e with e;exact L e
 cases l with
 |num =>
  obtain rfl:=(show Rp K o (.s "num") v from j).aP;calc#[_,rfl,.inr (.inr #[_,0,110,rfl,rfl,∅,∅,rfl,_,rfl,b8 (λc=>absurd c (g _ ∅)) (λ_=>?_)])];ext;calc k _ (by rw[<-y];calc j)
 |kd x =>
  let(p,l,r,rfl,d,u,B):=(show Rp K o (.t [.s "kind",.s x]) v from j).t2;obtain rfl:=u.aP;calc#[_,rfl,.inr (.inl #[p,_,0,.str "kind",rfl,rfl,d,rfl,rfl,_,rfl,b8 (λc=>absurd c (g _ ∅)) (λ_=>?_)])];ext;calc k _ (by rw[<-y];calc j)
 |op n =>
  let(p,l,r,rfl,d,u,B):=(show Rp K o (.t [.s "open",.i n]) v from j).t2;obtain rfl:=u.aP;calc#[_,rfl,.inr (.inl #[p,_,0,.str "open",rfl,rfl,d,rfl,rfl,_,rfl,b8 (λc=>absurd c (g _ ∅)) (λ_=>?_)])];ext;calc k _ (by rw[<-y];calc j)
 |row r =>
  let(p,R,z,rfl,d,u,B):=(show Rp K o (.t [.s "row",jN r]) v from j).t2;obtain rfl:=u.aP;calc#[_,rfl,.inr (.inl #[p,_,0,.str "row",rfl,rfl,d,rfl,rfl,_,rfl,b8 (λ_=>?_) (λc=>absurd ∅ c)])];calc#[λq G=>G=o/\q=[U z],λq G ⟨O,N⟩=>#[r.dep,by rw[<-M];calc S8 _,O,z,r,N,B,rfl,y],?_];calc#[_,rfl,.inr (.inl #[p,_,1,z,rfl,rfl,d,rfl,rfl,rfl])]
def ic :Nm Γi (af kK):=∅
def se :Lm Γi (af kK):=∅
def nS :aY Γi ["inner","ahead"] (af kK):=by ac_rfl
def KR (F:i9 K "look_tag" "look_tag" kK f W)(IM:Ya "innermost" 1 ["kind"] (nR K) gI ifd)(d:Y2 "NoName" "name" cN fN dN):Yf (zc P w) 3 f W ["inner","ahead"] (Js K cN):=by
 exists F.G4 nS
 .have(_,_,_,_,_,rfl,_):=h;rfl
 let(a,l,R,ks,g,rfl,sq,r,hl,hk,ha,gD,k):=h;refine#[_,(Zd (Zl (jh rfl rfl rfl) (dj (va ic 0)) (ga nS.nd se 2) (Z5 (Z4 nS.nd se 3 (Z0 IM (Za (va ic 2)))) (Z5 (Zb (Zh bV (Z7 qS (va ic 3)) aC) (Zd (gZ[5]! rfl (ji d.k d.ok (hr.mono ()) (by left) d.m d.bd .nil lS (Za aC))))) (Zd (Zb (PW.pt (iY[7]! (Zh bV (Z7 qS (va ic 3)) aC) (iu[4]! (fV[8]! pY (Z7 aJ (va ic 3)) (va ic 1) (by rfl'))))) (Zd (gZ[5]! rfl (ji[17]! d.k d.ok (hr.mono ()) (by left) d.m d.bd .nil lS (Z1 (Z7 aJ (va ic 3)) ak) ∅ (by rfl) (by rfl)))))))))),?_]
 right
 try dsimp only[qp,qq]
 let L:=⇑r;rw[bM]at L;ext;refine iJ (K:=K) (xs:=R) (λi G B=>(∃y z,G=[U (.ref a),U (.ref l),y,z])/\B=H/\eR (hU g) ks=eR (hU g) (ks.drop i)) #[#[_,_,rfl],rfl,rfl] ?_ ?_ ?_
 .rintro i G B hi ⟨_,rfl,_⟩;exact sq
 .rintro i v G B hv ⟨⟨_,_,rfl⟩,rfl,o⟩;let(t,T,rv):=r.get' hv;rw[EF]at T;let(q,hq,rfl):=IF.mp T;rw[Γy hq]at o;let ne:=q.xH;calc kI ?_;intro N1 N2 c1 Y;let fl:=oh g;let aa:aV K B l (g.map V.str):=aV.of hl;ext v' I;ext;calc core0 (K:=K) I ?_;ext;refine b8 (λc=>?_) (λc=>?_)
  .have p:cw q.core="open":=by injection(of_decide_eq_true c)
   let u:hU g q=U "?":=by
    unfold hU
    cases e:q.core with
    |op n=>rfl
    |num=>rw[e]at p;calc absurd p ∅
    |kd y=>rw[e]at p;calc absurd p (by show("kind":AA)≠"open";decide)
    |row j=>rw[e]at p;exact absurd p (by show("row":AA)≠"open";decide)
   rw[u]at o;let J:=gD _ o;ext;exact gq d.c J
  calc Y _ _ ?_;clear Y;let C:∀n,q.core≠.op n:=λn e=>c (by rw[e];calc decide_eq_true rfl);ext;calc core0 (K:=K) I ?_;ext;refine b8 (λO=>?_) (λO=>?_)
  .have p:cw q.core="kind":=by injection(of_decide_eq_true O)
   obtain⟨y,X⟩:∃y,q.core=.kd y:=by
    cases e:q.core with
    |kd y=>calc#[y,rfl]
    |num=>rw[e]at p;calc absurd p ∅
    |op n=>calc absurd e (C n)
    |row j=>rw[e]at p;exact absurd p (by show("row":AA)≠"kind";decide)
   rw[X]at I;let(ka,k1,k2,rfl,ab,g1,g2):=(show Rp K B (.t [.s "kind",.s y]) v' from I).t2;obtain rfl:=g1.aP;obtain rfl:=g2.aP;let a1:fM [V.str "kind",.str y] 1=U (.str y):=aG (j:=1) rfl;let S:=uf (x:=y) (xs:=g);let u:hU g q=if y∈g then gV else U y:=by unfold hU;rw[X]
   ext;refine b8 (λN=>?_) (λN=>?_)
   .have M:y∉g:=λz=>by
     let D:(!pK (.str y) (g.map V.str))=AD:=N;rw[S,decide_eq_true z]at D
     cases D
    rw[u,if_neg M]at o;let J:=gD _ o;ext;exact gq d.c J
   .have M:y∈g:=by
     by_cases z:y∈g
     .exact z
     .refine absurd ?_ N;show(!pK (.str y) (g.map V.str))=AD;rw[S,decide_eq_false z];rfl
    rw[u,if_pos M]at o;exact#[#[_,_,rfl],rfl,o]
  .have u:hU g q=gV:=by
    unfold hU
    cases e:q.core with
    |op n=>calc absurd e (C n)
    |num=>rfl
    |kd y=>calc absurd (by rw[e];calc decide_eq_true rfl) O
    |row j=>rfl
   rw[u]at o;exact#[#[_,_,rfl],rfl,o]
 .rintro G B ⟨_,rfl,o⟩;rw[show ⇑R=⇑ks by omega,RO]at o;calc k o
inductive Er|tw|nn|wr
abbrev Flt:=Er×AA
abbrev Kl:=MC (AA×MC (AA×MC Kk))
meta def j4(t:AA×MC Kk):T:=.t [.s t.1,.t (t.2.map jN)]
meta def fP(k:AA×MC (AA×MC Kk)):T:=.t [.s k.1,.t (k.2.map j4)]
meta def oQ(d e cW:AB):Er->AB
 |.tw=>d
 |.nn=>e
 |.wr=>cW
meta def TF(d e cW:AB)(E:XK)(H:Hp)(f:Flt):Prop:=Told E H (oQ d e cW f.1) "name" (.str f.2)
def TF.Z (t:TF d e cW E H f)(s:aS H g):TF d e cW E g f:=Told.Z t s
meta def ie(ah ta:List AA):MC (AA×MC Kk)->AF Flt
 | []=>gV
 |t::r=>match cy [] (ta++[t.1])with
  |some x=>U (.tw,x)
  |none=>match eR (hU ah) t.2 with
   |some n=>U (.nn,n)
   |none=>ie ah (ta++[t.1]) r
meta def cY(ah ta:List AA):Kl->AF Flt
 | []=>gV
 |k::r=>match cy [] (ah++[k.1])with
  |some x=>U (.tw,x)
  |none=>match ie ah ta k.2 with
   |some f=>U f
   |none=>cY (ah++[k.1]) (ta++k.2.map (·.1)) r
meta def FO(kl:Kl):Prop:=⇑kl<=10/\∀k∈kl,⇑k.2<=10/\∀t∈k.2,⇑t.2<=10
meta def Bh(K:cB)(j l cW:AB):Sp:=λg H Q E=>∃(v:V) (d:Kl),g=[v]/\Rp K H (.t (d.map fP)) v/\FO d/\(∀f,cY [] [] d=U f->TF j l cW E H f)/\(cY [] [] d=gV->∀e,aS H e->Q .gu e)
theorem Cv {ah ta:List AA}{d:MC (AA×MC Kk)}{i:Nat}{t:AA×MC Kk}(h:d[i]?=U t):ie ah ta (d.drop i)=match cy [] (ta++[t.1])with
  |some x=>U (.tw,x)
  |none=>match eR (hU ah) t.2 with
   |some n=>U (.nn,n)
   |none=>ie ah (ta++[t.1]) (d.drop (i+1)):=by
 let e:=(eF.mp h).1;let g:d.drop i=t::d.drop (i+1):=by rw[QV e,(eF.mp h).2]
 rw[g];rfl
theorem Γz {ah ta:List AA}{kl:Kl}{i:Nat}{k:AA×MC (AA×MC Kk)}(h:kl[i]?=U k):cY ah ta (kl.drop i)=match cy [] (ah++[k.1])with
  |some x=>U (.tw,x)
  |none=>match ie ah ta k.2 with
   |some f=>U f
   |none=>cY (ah++[k.1]) (ta++k.2.map (·.1)) (kl.drop (i+1)):=by
 let d:=(eF.mp h).1;let e:kl.drop i=k::kl.drop (i+1):=by rw[QV d,(eF.mp h).2]
 rw[e];rfl
meta def oR(kl:Kl):List AA:=kl.flatMap λk=>k.2.map (·.1)
def sN (h:FO kl):⇑(oR kl)<=100:=by
 let:∀l:Kl,(∀k∈l,⇑k.2<=10)->⇑(oR l)<=⇑l*10:=by
  intro l
  induction l with
  |nil=>intro _;calc Qc _
  |cons k r ih =>
   intro d;let m:=d k (.head _);let j:=ih λx e=>d x (.tail _ e);unfold oR at j|-;rw[Sf,mu,bM,Qn,WV];omega
 let:=this kl λk g=>(h.2 k g).1;let:=h.1;omega
structure Oc(H:Hp) (l1 l2:AB) (ah ta:List AA) (H2:Hp):Prop where
 s:aS H H2
 h1:H2 l1=U (.Y (ah.map V.str))
 h2:H2 l2=U (.Y (ta.map V.str))
def cJ :Nm ZP (af jf):=∅
def gv :Lm ZP (af jf):=∅
def fE :aY ZP ["kinds"] (af jf):=by ac_rfl
def En (F:i9 K "look_kinds" "look_kinds" jf f fd)(G:Y1 "look_once" 3 Γv (rg K cT) gO ofd)(C:Y1 "look_tag" 3 ["inner","ahead"] (Js K cN) gG gfd):Yf (zc P w) 4 f fd ["kinds"] (Bh K cT cN cW):=by
 exists F.G4 fE
 .have(_,_,rfl,_):=h;rfl
 let(v,l,rfl,r,hB,hE,k):=h;refine#[_,(Z5 (sa fE.nd gv 1 (aZ ak)) (Z5 (sa fE.nd gv 2 (aZ ak)) (Zd (Zl (jh rfl rfl rfl) (dj (va cJ 0)) (Zc (Zf (ga fE.nd gv 3) (Zt (ga fE.nd gv 4)))) (Z5 (Zm (eV[16]! G.ok (hr.mono ()) (by left) G.at' G.kp G.bd .nil jK (Z1 (Zj jQ (va cJ 1) (aZ[4]! (Za (va cJ 3)))) ak) ∅ (by rfl) (by rfl))) (Z5 (Zl (jh rfl rfl rfl) (dj (va cJ 4)) (Zc (Zf (ga fE.nd gv 5) (Zt (ga fE.nd gv 6)))) (Z5 (Zm (Z8 (va cJ 2) (Za (va cJ 5)))) (Z5 (Zm (eV[16]! G.ok (hr.mono ()) (by left) G.at' G.kp G.bd .nil jK (Za (va cJ 2)) ∅ (by rfl) (by rfl))) (Zd (Zm (eV[16]! C.ok (hr.mono ()) (by left) C.at' C.kp C.bd .nil jK (Z1 (va cJ 6) (Za (va cJ 1))) ∅ (by rfl) (by rfl))))))) (Zd (Zm (Z8 (va cJ 1) (Za (va cJ 3))))))))))),?_]
 right
 try dsimp only[qp,qq]
 let(a,us,rfl,sq,rs):=r.aT;let ag:=⇑rs;rw[bM]at ag;let bj:=sN hB;let ar:=hB.1;ext;calc nw λl1 H1 s1 h1 aq=>?_;ext;calc nw λl2 H2 s2 h2 ab=>?_;let T:l1≠l2:=ay h1 ab;let a3:=s2 _ _ h1;let aa:H l2=gV:=s1.free ab;let be:=sq.Z (s1.trans s2);ext;refine iJ (K:=K) (xs:=us) (λi u H3=>(∃y4 y5 y6 y7,u=[U (.ref a),U (.ref l1),U (.ref l2),y4,y5,y6,y7])/\Oc H l1 l2 ((l.take i).map (·.1)) (oR (l.take i)) H3/\cY [] [] l=cY ((l.take i).map (·.1)) (oR (l.take i)) (l.drop i)) #[#[_,_,_,_,rfl],#[s1.trans s2,a3,h2],rfl] ?_ ?_ ?_
 .rintro i u H3 hi ⟨_,o,_⟩;exact sq.Z o.s
 .rintro i xv u H3 hxv ⟨⟨_,_,_,_,rfl⟩,o,p⟩;let(t,Y,rx):=rs.get' hxv;rw[EF]at Y;let(kd,z,rfl):=IF.mp Y;let av:=(eF.mp z).1;let L:l.take (i+1)=l.take i++[kd]:=by rw[we av,(eF.mp z).2]
  let(bu,aw):=hB.2 kd (P6 z);rw[Γz z]at p;let(ka,k1,k2,rfl,al,g1,g2):=(show Rp K H (.t [.s kd.1,.t (kd.2.map j4)]) xv from rx).t2;obtain rfl:=g1.aP;let a9:=al.Z o.s;let(ae,I,rfl,M,N):=g2.aT;let ai:=⇑N;rw[bM]at ai;generalize hah:(l.take i).map (·.1)=ah at o p;generalize hta:oR (l.take i)=ta at o p;let bn:⇑ah<=10:=by rw[<-hah,bM,I0];omega
  let bk:⇑ta+⇑kd.2<=100:=by
   let e:oR (l.take (i+1))=ta++kd.2.map (·.1):=by rw[L,<-hta];unfold oR;rw[Q4];simp
   let hT:FO (l.take (i+1)):=#[Qq (List.length_take_le' _ _) ar,λx X=>hB.2 x (Qy X)];let:=sN hT;rw[e,mu,bM]at this;exact this
  let a2:=o.h1;ext;calc nw λp4 H4 s4 h4 bs=>?_;let bx:=s4 _ _ a2;let lc:⇑(ah.map V.str)+⇑([.str kd.1]:MC V)<=my:=small (by rw[bM];show _+1<=_;omega);ext;calc nw λp5 H5 s5 D bq=>?_;let ea:ah.map V.str++[.str kd.1]=(ah++[kd.1]).map V.str:=by simp
  rw[ea]at D;let h5:mW K AE H5 p5 ((ah++[kd.1]).map V.str):=aV.of D;let R:=s4.trans s5;let af:=o.s.trans R;let l5:⇑(ah++[kd.1])<=500:=by rw[mu];show _+1<=_;omega
  let oE:∀x,cy [] (ah++[kd.1])=U x->Told E H5 cT "name" (.str x):=λx X=>by
   rw[X]at p;exact(hE _ p).Z af
  ext ap H6 s6;rw[ap]at p
  let g:cY [] [] l=match ie ah ta kd.2 with
    |some f=>U f
    |none=>cY (ah++[kd.1]) (ta++kd.2.map (·.1)) (l.drop (i+1)):=p
  let J:=R.trans s6;let i6:Oc H l1 l2 ah ta H6:=#[o.s.trans J,J _ _ o.h1,J _ _ o.h2];let a8:=M.Z i6.s;ext;refine iJ (K:=K) (xs:=I) (λj u q=>(∃y6 y7,u=[U (.ref a),U (.ref l1),U (.ref l2),U (.str kd.1),U (.ref ae),y6,y7])/\Oc H l1 l2 ah (ta++(kd.2.take j).map (·.1)) q/\ie ah ta kd.2=ie ah (ta++(kd.2.take j).map (·.1)) (kd.2.drop j)) #[#[_,_,rfl],by rw[VS,RL,QM];calc i6,by rw[VS,RL,QM];rfl] ?_ ?_ ?_
  .rintro j u q hj ⟨_,m,_⟩;exact M.Z m.s
  .rintro j yv u q hyv ⟨⟨_,_,rfl⟩,m,B⟩;let(t,Y,ry):=N.get' hyv;rw[EF]at Y;let(d,y,rfl):=IF.mp Y;let as:=(eF.mp y).1;let a6:kd.2.take (j+1)=kd.2.take j++[d]:=by rw[we as,(eF.mp y).2]
   let bt:=aw d (P6 y);rw[Cv y]at B;rw[B]at g;let(ga,w1,w2,rfl,a4,q1,q2):=(show Rp K H (.t [.s d.1,.t (d.2.map jN)]) yv from ry).t2;obtain rfl:=q1.aP;let(ia,bp,rfl,am,an):=q2.aT;let bc:=a4.Z m.s;generalize htj:ta++(kd.2.take j).map (·.1)=tj at m B g;let bi:⇑tj<=99:=by rw[<-htj,mu,bM,I0];omega
   let a1:=m.h2;let ll:⇑(tj.map V.str)<my:=bg (by rw[bM];omega);let et:tj.map V.str++[.str d.1]=(tj++[d.1]).map V.str:=by simp
   let s8:=m.s.w5 aa (.Y (tj.map V.str++[.str d.1]));let h8:upd q l2 (.Y (tj.map V.str++[.str d.1])) l2=U (.Y ((tj++[d.1]).map V.str)):=by rw[aj,et]
   let a0:upd q l2 (.Y (tj.map V.str++[.str d.1])) l1=U (.Y (ah.map V.str)):=by rw[aB T];exact m.h1
   let k8:Kt q (upd q l2 (.Y (tj.map V.str++[.str d.1]))):=Kt.Y a1 _;let gD:=(am.Z m.s).kt k8;let W:=(an.Z m.s).kt k8;let bv:mW K AE (upd q l2 (.Y (tj.map V.str++[.str d.1]))) l2 ((tj++[d.1]).map V.str):=aV.of h8;let l8:⇑(tj++[d.1])<=500:=by rw[mu];show _+1<=_;omega
   let bh:∀x,cy [] (tj++[d.1])=U x->Told E (upd q l2 (.Y (tj.map V.str++[.str d.1]))) cT "name" (.str x):=λx X=>by
    rw[X]at g;exact(hE _ g).Z s8
   ext Z H9 O;rw[Z]at g B;let S:=s8.trans O;let az:=O _ _ a0;let ax:=O _ _ h8;let ba:=gD.Z O;let bb:=W.Z O;let bm:⇑d.2<=100:=()
   let bo:⇑ah<=100:=()
   let bf:∀n,eR (hU ah) d.2=U n->Told E H9 cN "name" (.str n):=λn hn=>by
    rw[hn]at g;exact(hE _ g).Z S
   ext ao;rw[ao]at B;let a5:ta++(kd.2.take (j+1)).map (·.1)=tj++[d.1]:=by rw[a6,i4,<-Rw,htj];rfl
   rw[a5];exact#[#[_,_,rfl],#[S,az,ax],B]
  .rintro u q ⟨⟨_,_,rfl⟩,m,B⟩;rw[show ⇑I=⇑kd.2 by omega,Ql]at m;rw[show ⇑I=⇑kd.2 by omega,Ql,RO]at B;let a7:ie ah ta kd.2=gV:=B;rw[a7]at g;let bw:=m.h1;let bl:⇑(ah.map V.str)<my:=bg (by rw[bM];omega);let ad:(l.take (i+1)).map (·.1)=ah++[kd.1]:=by rw[L,i4,hah];rfl
   let ac:oR (l.take (i+1))=ta++kd.2.map (·.1):=by rw[L,<-hta];unfold oR;rw[Q4];simp
   ext
   .rw[ad,ac];exact#[m.s.w5 aq _,by rw[aj];simp,by rw[aB (RP T)];calc m.h2]
   .rw[ad,ac];exact g
 .rintro u H3 ⟨_,o,p⟩;rw[show ⇑us=⇑l by omega,RO]at p;calc k p _ o.s
end G16
namespace L2
open PySem PySem.Spec PyProof.Rows
def Eo (l j t1 g t2 e:Expr)(scope:Rt)(pos:Pos)(it:eT)(D:AB)(d:Env):Xj (.DictComp l j [#[t1,g,[],0],#[t2,e,[],0]] scope pos) 0 it (.ref D) d=(do
  WN g.pos
  match←SR it with
  |none=>pure (.done .next)
  |some v =>
   RY t1 it v
   VB t1 d v
   let x ←eval e d
   WN e.pos
   let x ←QN e d x
   let _ ←runOwn (.compStart (.DictComp l j [#[t1,g,[],0],#[t2,e,[],0]] scope pos) 1 (←Vy [x] (Xf x)) (.ref D) d) d
   again (.compLoop (.DictComp l j [#[t1,g,[],0],#[t2,e,[],0]] scope pos) 0 it (.ref D) d)):=by
 rfl
def Hl (g e t1 o t2 l:Expr)(scope:Rt)(pos:Pos)(it:eT)(D:AB)(d:Env):Xj (.DictComp g e [#[t1,o,[],0],#[t2,l,[],0]] scope pos) 1 it (.ref D) d=(do
  WN l.pos
  match←SR it with
  |none=>pure (.done .next)
  |some v =>
   RY t2 it v
   VB t2 d v
   (do
    let j ←eval g d
    let m ←Vy [j] (eval e d)
    WN {g.pos with endLine:=e.pos.endLine,endCol:=e.pos.endCol}
    Vy [j,m] (dictSet D j m))
   again (.compLoop (.DictComp g e [#[t1,o,[],0],#[t2,l,[],0]] scope pos) 1 it (.ref D) d)):=by
 rfl
def Ho (g:∀e s,¬E e s)(I:Nat->fy->Prop)(turn:∀n s,I n s->PY (P9 prog w) A (SR it) (λr l=>match r with
   |none=>R (.ok .next) l
   |some v=>PY (P9 prog w) A (RY t2 it v) (λ_ C=>PY (P9 prog w) A (VB t2 d v) (λ_ B =>
     PY (P9 prog w) A (eval o d) (λx u=>PY (P9 prog w) A (eval j d) (λy t =>
      PY (P9 prog w) A (dictSet D x y) (λ_ p=>∃m,m<n/\I m p) E t) E u) E B) E C) E l) E s)(n:Nat)(h:I n s):RS (P9 prog w) A (.compLoop (.DictComp o j [#[t1,H,[],0],#[t2,G,[],0]] scope pos) 1 it (.ref D) d) R s:=by
 calc WX rfl I (λn s q=>?_) n h;show PY _ A ((Xj (.DictComp o j [#[t1,H,[],0],#[t2,G,[],0]] scope pos) 1 it (.ref D) d).onRaise _) _ _ s;calc Xk ?_;rw[Hl];refine bN (Ry (bN (Qu (turn n s q) (λr l q1=>?_) λe s z=>(g e s z).elim)))
 cases r with
 |none=>calc rz q1
 |some v =>
  calc bN (Qu q1 (λ_ C O=>bN (Qu O (λ_ B N=>?_) λe s z=>(g e s z).elim)) λe s z=>(g e s z).elim);calc bN (bN (Qu N (λx u M=>bN (QG (Qu M (λy t L=>bN (Ry (QG (Qu L (λ_ p J=>rz #[rfl,J]) λe s z=>(g e s z).elim)))) λe s z=>(g e s z).elim))) λe s z=>(g e s z).elim))
def Ep (t:∀e s,¬E e s)(r:RS (P9 prog w) A (.compLoop (.DictComp o m [#[t1,p,[],0],#[t2,l,[],0]] scope pos) 1 it g d) R s)(h:PY (P9 prog w) A (Xf it) (λj s'=>RS (P9 prog w) A (.compLoop (.DictComp o m [#[t1,p,[],0],#[t2,l,[],0]] scope pos) 1 j g d) R s') E s):
  RS (P9 prog w) A (.compStart (.DictComp o m [#[t1,p,[],0],#[t2,l,[],0]] scope pos) 1 it g d) R s:=by
 calc codeAny_of_tree ?_;show PY _ A ((compStart (.DictComp o m [#[t1,p,[],0],#[t2,l,[],0]] scope pos) 1 it g d).onRaise _) _ _ s;calc wpAny_notedAt ?_;unfold compStart;show PY _ A (ask>>=_) _ _ s;refine bN (wpAny_askSetting (wpAny_ite ?_))
 split
 .first
   |calc rz #[rfl,r]
   |exact bN (rz (rz #[rfl,r]))
 .refine bN (U7 ?_);show PY _ _ (WN l.pos>>=_) _ _ s;calc bN (Ry (bN (Qu h (λj s' q=>rz #[rfl,q]) λe s z=>(t e s z).elim)))
def Es (l:∀e s,¬E e s)(I:Nat->fy->Prop)(hs:∀x,QN j d x=pure x)(turn:∀n s,I n s->PY (P9 prog w) A (SR it) (λr p=>match r with
   |none=>R (.ok .next) p
   |some v=>PY (P9 prog w) A (RY t1 it v) (λ_ H=>PY (P9 prog w) A (VB t1 d v) (λ_ G =>
     PY (P9 prog w) A (eval j d) (λx C=>PY (P9 prog w) A (Xf x) (λg B =>
      RS (P9 prog w) A (.compStart (.DictComp t o [#[t1,u,[],0],#[t2,j,[],0]] scope pos) 1 g (.ref D) d) (λr y=>match r with|.ok _=>∃m,m<n/\I m y|.error _=>False) B) E C) E G) E H) E p) E s)(n:Nat)(h:I n s):RS (P9 prog w) A (.compLoop (.DictComp t o [#[t1,u,[],0],#[t2,j,[],0]] scope pos) 0 it (.ref D) d) R s:=by
 calc WX rfl I (λn s q=>?_) n h;show PY _ A ((Xj (.DictComp t o [#[t1,u,[],0],#[t2,j,[],0]] scope pos) 0 it (.ref D) d).onRaise _) _ _ s;calc Xk ?_;rw[Eo];refine bN (Ry (bN (Qu (turn n s q) (λr p q1=>?_) λe s z=>(l e s z).elim)))
 cases r with
 |none=>calc rz q1
 |some v =>
  calc bN (Qu q1 (λ_ H O=>bN (Qu O (λ_ G N=>?_) λe s z=>(l e s z).elim)) λe s z=>(l e s z).elim);calc bN (Qu N (λx C M=>bN (Ry ?_)) λe s z=>(l e s z).elim);rw[hs x];calc bN (rz (bN (QG (Qu M (λg B L=>?_) λe s z=>(l e s z).elim))));refine bN (wpAny_runOwn (Th L λr y J=>?_))
  cases r with
  |ok f=>calc rz #[rfl,J]
  |error e=>calc J.elim
meta def Bj(J:It)(g:TG)(M:TI)(Z:TG)(X gD:TE)(Q:VK)(L:St)(H0:Hp):Prop:=∃W:Nat->Nat->St->MC (Key×V)->Hp->Prop,(∃m,W 0 m L [] H0)/\∀i m r o H,W i m r o H ->
 (J.stop i H/\⇑o<=my/\∀p,H p=gV->Q (.ref p) (upd H p (.dK o))) \/
 (J.go i H/\∃N:St->MC (Key×V)->Hp->Prop,(∀l u I,N l u I->∃z,z < m/\W (i+1) z l u I)/\∀x T,J.yld i H x T->g x r T λl I=>M l I λR H3 =>
  ∃O:Nat->Nat->St->MC (Key×V)->Hp->Prop,(∃G,O 0 G l o H3)/\∀j G q d D,O j G q d D ->
   (R.stop j D/\N q d D) \/
   (R.go j D/\⇑d<my/\∃S:St->MC (Key×V)->Hp->Prop,(∀e t C,S e t C->∃z,z < G/\O (j+1) z e t C)/\∀y C,R.yld j D y C->Z y q C λe H6 =>
    X e H6 λY H7=>gD e H7 λv H8=>∃B,Y=kV B/\S e (putK d B v) H8))
meta def Bk(own:Nat)(fr:MC Nat)(j:TI)(g:TG)(d:TI)(o:TG)(m l:TE):TE:=λe H Q=>j e H λJ p=>Bj J g d o m l Q (jb own fr e) p
def MH {W2:Nat->Nat->St->MC (Key×V)->Hp->Prop}{N:St->MC (Key×V)->Hp->Prop}(hc:Y.calm=AD)(hx:∀e s,¬Y.xe e s)(hg:PG Y X g2)(hk:PE Y kx tk)(he:PE Y vx tv)(T:Turn Y.prog Y.w Y.K X J2 fp it tn)(d:Ku Y D fo)(hp:∀p∈pl,p.1≠D)(hD:D∉fp)(stat:∀{H:Hp}{o:Obj},(∀b∈fp,H b=gV)->∀b∈fp,pR Y ([(D,o)]++pl) H b)(I:Inv Y pl σ H s)(st:tn 0 s.heap)(fn:∀b∈fp,H b=gV)(dn:H D=gV)(dd:s.heap.DictOf (aW Y.prog Y.w) D rs)(rv:KV kvs rs)(w0:W2 0 m σ kvs H)(turn:∀j m2 gD g H4,W2 j m2 gD g H4 ->
   (J2.stop j H4/\N gD g H4) \/
   (J2.go j H4/\⇑g<my/\∃N2:St->MC (Key×V)->Hp->Prop,(∀l ad H5,N2 l ad H5->∃m',m' < m2/\W2 (j+1) m' l ad H5)/\∀y H5,J2.yld j H4 y H5->g2 y gD H5 λl H6 =>
    tk l H6 λkv H7=>tv l H7 λv H8=>∃key,kv=kV key/\N2 l (putK g key v) H8))(fin:∀{σ:St}{H:Hp}{s:fy}{kvs:MC (Key×V)}{rs:MC (Key×eT)},Inv Y pl σ H s->H D=gV->s.heap.DictOf (aW Y.prog Y.w) D rs->KV kvs rs->N σ kvs H->R (.ok .next) s):
  RS (P9 Y.prog Y.w) Y.A (.compLoop (.DictComp kx vx [#[tg,iter,[],0],#[X,iter2,[],0]] scope pos) 1 (.ref it) (.ref D) Y.env) R s:=by
 refine Ho hx (λn s'=>∃j ac H' kvs rs,Inv Y pl ac H' s'/\tn j s'.heap/\(∀b∈fp,H' b=gV)/\H' D=gV/\s'.heap.DictOf (aW Y.prog Y.w) D rs/\KV kvs rs/\W2 j n ac kvs H')
  ?_ m #[0,σ,H,kvs,rs,I,st,fn,dn,dd,rv,w0]
 rintro n2 t3 ⟨j,u,G3,g,aa,K3,ae,ag,ah,as,Z,v3⟩;let(B,M,O,af,L,q,J,C,G):=id as;let ai:=d.pin K3 ah af λv z=>by rw[q]at z;cases z
 rcases turn j n2 u g G3 v3 with⟨stop2,q2⟩|⟨go2,hz2,N2,hN2,step2⟩
 .refine cQ (T.done Y rfl rfl rfl hc j _ t3 u G3 Y.xe ai (stat ag) ae stop2) λr t4 ⟨hr,K4⟩=>?_;subst hr;exact fin (K4.fJ λp hp=>K4.pin p (xn _ (xn _ hp))) ah #[B,M,O,(K4.pin (D,B) (xn _ (Qx _ (by simp)))).1,L,q,J,C,G] Z q2
 .refine cQ (T.item Y rfl rfl rfl hc j _ t3 u G3 Y.xe ai (stat ag) ae go2) λr t4 ⟨u2,hr,g4⟩=>?_;subst hr;calc cQ g4 λ_ t5 ⟨y,G5,K5,an,al,W,ar⟩=>?_;let av:=K5.pinned (stat ar) (T.obj _ _ W);calc cQ (hg _ t5 u G5 y u2 _ av an (step2 y G5 al)) λ_ t6 ⟨S,G6,K6,p6⟩=>?_;calc cQ (hk _ t6 S G6 _ K6 p6) λx am ⟨az,ax,aw,ao,ap⟩=>?_;calc cQ (he _ am S ax _ aw ap) λy s8 ⟨v8,H8,J8,r8,n8⟩=>?_;let(key,rfl,n8):=n8;let(m',hm,w8):=hN2 _ _ _ n8;let pD:=J8.pin (D,B) (xn _ (Qx _ (Qx _ (by simp))))
  let pF:∀b∈fp,H8 b=gV:=λb Q=>by
   let(o,e,d):=T.obj _ _ W b Q;exact(J8.pin (b,o) (xn _ (xn _ (fB Q e)))).2.1
  let pT:tn (j+1) s8.heap:=T.keep _ _ _ W λb Q o e=>(J8.pin (b,o) (xn _ (xn _ (fB Q e)))).1;let aq:⇑aa<=my:=by let:=KV.length Z;omega
  refine Vv (qc ao) (#[B,M,O,pD.1,L,q,J,C,G]:s8.heap.DictOf (aW Y.prog Y.w) D aa) (λay ab t=>?_) aq
  calc#[m',hm,j+1,S,H8,putK g key v8,YH aa key y,d.put (J8.fJ λp hp=>J8.pin p (xn _ (Qx _ (xn _ hp)))) (λb o Q e=>by rw[t.2 b Q];calc e) pD.2.1 hp,
   T.keep _ _ _ pT λb Q o e=>(t.2 b (λz=>hD (z▸Q))).trans e,pF,pD.2.1,ab,Z.put key r8,w8]
def KS {ad:TI}{W:Nat->Nat->St->MC (Key×V)->Hp->Prop}{Q:MC (Key×V)->Hp->Prop}(hc:Y.calm=AD)(hx:∀e s,¬Y.xe e s)(hg:PG Y tg g)(hi2:PI Y aa iter2 ad)(hg2:PG Y aa g2)(hk:PE Y kx tk)(he:PE Y vx tv)(hs2:∀x,QN iter2 Y.env x=pure x)(T:Turn Y.prog Y.w Y.K tg J fp it tn)(d:Ku Y D fp)(I:Inv Y [] σ H s)(st:tn 0 s.heap)(fn:∀b∈fp,H b=gV)(dn:H D=gV)(dd:s.heap.DictOf (aW Y.prog Y.w) D [])(w0:W 0 m σ [] H)(turn:∀i m σ' kvs H,W i m σ' kvs H ->
 (J.stop i H/\⇑kvs<=my/\Q kvs H) \/
 (J.go i H/\∃N:St->MC (Key×V)->Hp->Prop,(∀L af H2,N L af H2->∃m',m' < m/\W (i+1) m' L af H2)/\∀x G,J.yld i H x G->g x σ' G λL H2=>ad L H2 λJ2 H3 =>
  ∃W2:Nat->Nat->St->MC (Key×V)->Hp->Prop,(∃m2,W2 0 m2 L kvs H3)/\∀j m2 l B H4,W2 j m2 l B H4 ->
   (J2.stop j H4/\N l B H4) \/
   (J2.go j H4/\⇑B<my/\∃N2:St->MC (Key×V)->Hp->Prop,(∀C ae X,N2 C ae X->∃m',m' < m2/\W2 (j+1) m' C ae X)/\∀y X,J2.yld j H4 y X->g2 y l X λC H6 =>
    tk C H6 λkv H7=>tv C H7 λv H8=>∃key,kv=kV key/\N2 C (putK B key v) H8)))(fin:∀{σ:St}{H:Hp}{s:fy}{pl:MC (AB×Obj)}{kvs:MC (Key×V)}{rs:MC (Key×eT)},Inv Y pl σ H s->H D=gV->s.heap.DictOf (aW Y.prog Y.w) D rs->KV kvs rs->⇑kvs<=my->Q kvs H->R (.ok .next) s):
  RS (P9 Y.prog Y.w) Y.A (.compLoop (.DictComp kx vx [#[tg,iter,[],0],#[aa,iter2,[],0]] scope pos) 0 (.ref it) (.ref D) Y.env) R s:=by
 refine Es hx (λn s'=>∃i σ' G kvs rs,Inv Y [] σ' G s'/\tn i s'.heap/\(∀b∈fp,G b=gV)/\G D=gV/\s'.heap.DictOf (aW Y.prog Y.w) D rs/\KV kvs rs/\W i n σ' kvs G)
  hs2 ?_ m #[0,σ,H,[],[],I,st,fn,dn,dd,.nil,w0]
 rintro n s3 ⟨i,l,H3,kvs,rs,J3,ah,aq,ar,a0,rv,w3⟩;let(S,ao,ap,ax,an,ac,am,ai,al):=id a0;let as:Inv Y [(D,S)] l H3 s3:=d.pin (pl:=[]) J3 ar ax λv z=>by rw[ac]at z;cases z
 let t:∀p∈[(D,S)],p.1=D:=λp hp=>by
  let e':p=(D,S):=by simpa using hp
  rw[e']
 rcases turn i n l kvs H3 w3 with⟨stop,hz,q⟩|⟨go,N,hN,step⟩
 .refine cQ (T.done Y rfl rfl rfl hc i _ s3 l H3 Y.xe as (d.stat aq t) ah stop) λr s4 ⟨hr,J4⟩=>?_;subst hr;exact fin J4 ar #[S,ao,ap,(J4.pin (D,S) (xn _ (by simp))).1,an,ac,am,ai,al] rv hz q
 .refine cQ (T.item Y rfl rfl rfl hc i _ s3 l H3 Y.xe as (d.stat aq t) ah go) λr s4 ⟨u,hr,h4⟩=>?_;subst hr;calc cQ h4 λ_ s5 ⟨x,X,J5,r5,y5,ab,ay⟩=>?_;let a1:=J5.pinned (d.stat ay t) (T.obj _ _ ab);calc cQ (hg _ s5 l X x u _ a1 r5 (step x X y5)) λ_ s6 ⟨av,H6,J6,q6⟩=>?_;calc cQ (hi2 _ s6 av H6 _ J6 q6) λv7 s7 h7=>cQ h7 λa2 s8 h8=>?_;let(a5,az,a3,J2,H8,e8,I8,T2,ag,f8,W2,(a4,aw),Z):=h8;subst e8;let z:=I8.pin (D,S) (xn _ (Qx _ (by simp)));let gD:D∉az:=λhm=>(f8 _ hm).2.2.2.2.2 (D,S) (xn _ (Qx _ (by simp))) rfl
  let M:=MH (R:=λr s6=>match r with|.ok _=>∃m,m<n/\∃i σ' G kvs rs,Inv Y [] σ' G s6/\tn i s6.heap/\(∀b∈fp,G b=gV)/\G D=gV/\s6.heap.DictOf (aW Y.prog Y.w) D rs/\KV kvs rs/\W i m σ' kvs G|.error _=>False) (pl:=oZ fp s5.heap) (tg:=tg) (iter:=iter) (iter2:=iter2) (scope:=scope) (pos:=pos)
   hc hx hg2 hk he T2 d (λp hp z=>d.out (by let:=(vg hp).1;rw[z]at this;calc this)) gD (λ{G o'} hn b O=>by
    let(z0,z1,z2,z3,z4,z5):=f8 b O;calc#[hn b O,z1,z2,z3,z4,λp hp=>?_];rcases zv.mp hp with hp|hp
    .exact z5 p (Qx _ hp)
    .rcases zv.mp hp with hp|hp
     .have e':p=(D,o'):=by simpa using hp
      rw[e'];exact λz=>gD ((show D=b from z)▸O)
     .exact z5 p (xn _ (xn _ hp)))
   (I8.fJ λp hp=>I8.pin p (xn _ (xn _ hp))) ag (λb O=>(f8 b O).1) z.2.1 #[S,ao,ap,z.1,an,ac,am,ai,al] rv aw Z λ{σ9 H9 s9 kvs9 rs9} J9 dn9 dd9 rv9 q9=>by
    let(m',hm,w7):=hN _ _ _ q9;calc#[m',hm,i+1,σ9,H9,kvs9,rs9,J9.fJ (λp hp=>absurd hp (by simp)),T.keep _ _ _ ab λb O o e=>(J9.pin (b,o) (xn _ (fB O e))).1,λb O=>?_,dn9,dd9,rv9,w7];let(o,e,d):=T.obj _ _ ab b O;exact(J9.pin (b,o) (xn _ (fB O e))).2.1
  calc Ep hx M (T2.self Y.A 0 _ _ _ ag M)
def Cw (own:List AA)(fr:MC Nat)(B:X.calm=AD)(hkind:scope.kind=.function)(hcell:∀x∈scope.names,x.2≠.cell)(hnames:∀x∈scope.names,x.2=.local->scope.names.lookup x.1=U .local)(hfr:∀x∈scope.names,x.2=.free->X.env.scope.names.lookup x.1=U .cell\/X.env.scope.names.lookup x.1=U .free)(hin:∀j∈fr,scope.names.lookup (X.N.getD j Qi)=U .free)(hi:PI X tg iter p)(hg:∀e C s H,PG (bD X scope (own++fr.map λj=>X.N.getD j Qi) e C s H) tg g)(hi2:∀e C s H,PI (bD X scope (own++fr.map λj=>X.N.getD j Qi) e C s H) l iter2 m)(hg2:∀e C s H,PG (bD X scope (own++fr.map λj=>X.N.getD j Qi) e C s H) l y)(hk:∀e C s H,PE (bD X scope (own++fr.map λj=>X.N.getD j Qi) e C s H) v t)(he:∀e C s H,PE (bD X scope (own++fr.map λj=>X.N.getD j Qi) e C s H) q r)(hs:∀x,QN iter X.env x=pure x:=by intro _;rfl)(hs2:∀o x,QN iter2 o x=pure x:=by intro _ _;rfl):PE X (.DictComp v q [#[tg,iter,[],0],#[l,iter2,[],0]] scope pos) (Bk ⇑own fr p g m y t r):=by
 intro u s D H Q I h
 exact vO own fr hkind hcell hnames hfr hin hi hs I h λ{it e tn J s2 s' H2 C R} T ⟨W,⟨m0,w0⟩,turn⟩ d I3 st f2 dn dd fin =>
  KS B (λ_ _ z=>z) (hg _ _ _ _) (hi2 _ _ _ _) (hg2 _ _ _ _) (hk _ _ _ _) (he _ _ _ _) (hs2 _) T d I3 st f2 dn dd w0 turn fin
def Γw (D:Rt)(m own:List AA)(fr:MC Nat)(O:X.calm=AD)(r:X.env.scope=D)(Q:X.N=m)(ok:nC scope D m fr=AD)(hi:PI X tg iter u)(hg:∀d C s H,PG (bD X scope (own++fr.map λj=>m.getD j Qi) d C s H) tg g)(hi2:∀d C s H,PI (bD X scope (own++fr.map λj=>m.getD j Qi) d C s H) l iter2 o)(hg2:∀d C s H,PG (bD X scope (own++fr.map λj=>m.getD j Qi) d C s H) l I)(hk:∀d C s H,PE (bD X scope (own++fr.map λj=>m.getD j Qi) d C s H) G B)(he:∀d C s H,PE (bD X scope (own++fr.map λj=>m.getD j Qi) d C s H) v y)(hs:∀x,QN iter X.env x=pure x:=by intro _;rfl)(hs2:∀t x,QN iter2 t x=pure x:=by intro _ _;rfl):PE X (.DictComp G v [#[tg,iter,[],0],#[l,iter2,[],0]] scope pos) (Bk ⇑own fr u g o I B y):=by
 subst r Q;unfold nC at ok;simp only[QJ,QY,bne_iff_ne,beq_iff_eq,Sm]at ok;let((L,q),J):=ok;refine Cw own fr O L (λx p=>(q x p).1.1) (λx p e=>?_) (λx p e=>?_) (λj M=>J j M) hi hg hi2 hg2 hk he hs hs2
 .rcases(q x p).1.2 with z|z
  .exact absurd e z
  .exact z
 .rcases(q x p).2 with(z|z)|z
  .exact absurd e z
  .exact .inl z
  .exact .inr z
meta def Od(d:Obj)(e:Array SV)(ep:Nat)(h:Heap)(l:AB):Prop:=h.get? l=U d/\d.ExactDict/\d.data=.dict e ep/\(l == RM)=AE
meta def Oe(d:Array SV)(ep:Nat)(h:Heap)(i l:AB)(k:Nat):Prop:=h.IsKeyIter i l k d.size ep
def Od.at (x:Od ob es ep h l)(k:∀o,h.get? l=U o->h'.get? l=U o):Od ob es ep h' l:=#[k _ x.1,x.2]
def Oe.at (x:Oe es ep h i l n)(k:∀o,h.get? i=U o->h'.get? i=U o):Oe es ep h' i l n:=by
 let(o,e,r):=x;calc#[o,k o e,r]
def Inv.nT (I:Inv X d l H s)(j:H p=U (.dK kvs))(y:s.heap.get? p=U t):Inv X d l (upd H p (.nT t (.dK kvs))) s:=by
 let g:∀{b u},H b=U u->u≠.dK kvs->b≠p:=λe n z=>by subst z;rw[j]at e;exact n (Qw e).symm
 refine I.step (g':=s.gens) (d':=s.drawn) (t':=s.toks) (h':=s.heap) (ch:=[]) ⋯ (λb o _ _ _ e _=>e) (λb o _ _ _ e _=>#[o.slots,e]) (λb o _ _ n=>?_) (λb o _ e=>#[o,e]) (λb r e=>?_) (λb o u e=>?_) (λb B e=>#[#[],?_]) (λm h=>h) (λb u e=>?_) I.bare
 .rw[aB (λz=>by subst z;rw[j]at n;cases n)];exact n
 .rw[aB (g e nofun)];exact e
 .rw[aB (g e nofun)];exact e
 .rw[aB (g e nofun)];simpa using e
 .by_cases v:b=p
  .subst v;rw[aj]at e
   cases e
   refine#[y,(I.hok b _ j).stay (λ_ _ _ q=>q) (λc q=>?_) λc r q=>?_]
   .rw[aB (g q nofun)];exact q
   .rw[aB (g q nofun)];exact q
  .rw[aB v]at e;refine(I.hok b u e).stay (λ_ _ _ q=>q) (λc q=>?_) λc r q=>?_
   .rw[aB (g q nofun)];exact q
   .rw[aB (g q nofun)];calc q
def Bl (h:(aW P w).is k v=AD):RelV (kV k) v:=by
 rcases eK (show sZ k v=AD from h)with⟨i,t,rfl,rfl⟩|⟨x,t,rfl,rfl⟩
 .exact#[t,rfl]
 .exact#[t,rfl]
def Cy :entryFor table "dict_itemiterator.__iter__"=U RQ.«dict_keyiterator.__iter__» :=
 entryFor_alias (id':="dict_keyiterator.__iter__") (by kernel_rfl) rfl ∅ (by kernel_rfl)
meta def Itm (d : Obj) (kvs : MC (Key × V)) (l : AB) : It :=
  #[λi H => H l = U (.nT d (.dK kvs)) ∧ i < ⇑kvs,
   λi H v g => ∃ p e, H p = gV ∧ v = .ref p ∧ g = upd H p (.J [kV e.1, e.2]) ∧ kvs[i]? = U e,
   λi H => H l = U (.nT d (.dK kvs)) ∧ ⇑kvs ≤ i]
def KV.get (r:KV kvs vs):∀{i:Nat}{e:Key×V},kvs[i]?=U e->∃u,vs[i]?=U (e.1,u)/\RelV e.2 u:=by
 induction r with
 |nil=>intro i e h;simp at h
 |@cons a b l1 l2 q t ih =>
  intro i e h
  cases i with
  |zero =>
   simp only[Uy,UK]at h;subst h;calc#[b.2,?_,q.2];simp only[Uy,UK];calc Prod.ext q.1.symm rfl
  |succ n=>calc ih (by simpa using h)
def Γx {K:cB}(he:m.ExactDict)(hd:m.data=.dict N ep)(D:KeysOf (aW P w) N)(B:Pairs (aW P w) N.toList vs)(C:(vs.map (·.1)).Nodup)(r:KV kvs vs)(it l:AB)(ac:l≠it):
  Turn P w K (.Tuple O x1 pos) (Itm m kvs l) [it] it (λi h=>∃ok j,IsItemIter h it l i ⇑vs ep ok j) where
 mem:=by simp
 obj:=λi h g c e=>by
  let(ok,j,d):=g;obtain rfl:c=it:=by simpa using e
  exact#[_,d,λv z=>by cases z]
 keep:=λi h h' g k=>by
  let(ok,j,d):=g;exact#[ok,j,k it (by simp) _ d]
 item:=by
  intro X hP S hK e i t s σ H E I Q g Z;subst hP S hK;let(T,hi):=Z;let(ok,j,d):=g;let p:s.heap.DictAt (aW X.prog X.w) l vs ep:=#[m,N,(show eW X.prog X.w H s.heap l (.nT m (.dK kvs))from I.hok l _ T).1,he,hd,D,B,C];let hx:kvs[i]?=U kvs[i]:=by simp[hi]
  let(u,hu,ru):=r.get hx;calc wpAny_pyNext_items_item d p hu λR h' Y ho L ab gD=>?_;refine#[.ref s⁻¹,rfl,wpAny_letOwnedTupleGo_items (s:={s with heap:=h'}) ho λM aa y=>?_]
  let ne:it≠s⁻¹:=λz=>by
   let:=P0 d;rw[z]at this;exact Q8 _ this
  let kk:∀c o,c∉[it]->s.heap.get? c=U o->M.get? c=U o:=λc o e q=>by
   let G:c≠it:=by simpa using e
   exact(y.2 c G).trans (gD c o G q)
  let J:M.get? s⁻¹=U {cls:=.type "tuple",data:=.seq #[R,u,]}:=(y.2 _ ne.symm).trans L
  refine#[.ref s⁻¹,upd H s⁻¹ (.J [kV kvs[i].1,kvs[i].2]),I.xr (t':=s.toks) Q kk (u4 _) #[(by show 2<=my;decide),_,.cons (Bl Y) (.cons ru .nil),#[_,J,rfl,_,rfl],_,J,rfl],rfl,
   #[_,kvs[i],I.hok.fresh (u4 _),rfl,rfl,hx],#[_,_,aa],λc e=>?_]
  obtain rfl:c=it:=by simpa using e
  rw[aB ne];exact(Q c e).1
 done:=by
  intro X hP S hK e i t s σ H E I Q g Z;subst hP S hK;let(T,hi):=Z;let(ok,j,d):=g;let p:s.heap.DictAt (aW X.prog X.w) l vs ep:=#[m,N,(show eW X.prog X.w H s.heap l (.nT m (.dK kvs))from I.hok l _ T).1,he,hd,D,B,C]
  let hn:vs[i]?=gV:=by
   let:=⇑r;simp;omega
  refine wpAny_pyNext_items_end (I.ok.hd e) d p hn λh' Y=>#[rfl,I.xo (t':=s.toks) Q λc o e q=>Y c o (by simpa using e) q]
 self:=λ_ _ _ _ _ g h=>by
  let(ok,j,d):=g
  rename_i s0 _ _
  let L:s0.TypeIs (.ref it) "dict_itemiterator":=#[_,d,rfl];calc wpAny_pyIter_slot L Vk (Rm Vk L Cy ?_ (F.args_dict_itemiterator_iter_1 _));show PY _ _ (ret (.ref it)) _ _ s0;calc rz #[_,rfl,"dict_itemiterator",_,L,F.slot_dict_itemiterator_next.lookup,h]
meta def KU(l:TE):TI:=λj H R=>l j H λv g=>∃p d,v=.ref p/\g p=U (.dK d)/\∀e,R (Itm e d p) (upd g p (.nT e (.dK d)))
def zh {V:TE}(B:PE X o V)(hbase:Tr o "items" X.env (eval o X.env)=eval o X.env:=by rfl)(hline:(r.endLine == l.line)=AD:=by rfl):PI X (.Tuple L x1 pos) (.Call (.Attribute o "items" r) [] [] l) (KU V):=by
 intro m s gD H R I h;calc Wy hbase hline (cQ (B m s gD H _ I h) λv g ⟨x,H1,Z,r1,p,kvs,e,W,q1⟩=>?_);subst e;obtain rfl:v=Value.ref p:=r1;let(ab,Q,C,N,D,Y,ep,B,j,z,y,t,u):=rS Z.hok (.inl W);let M:g.heap.DictOf (aW X.prog X.w) p C:=#[D,Y,ep,B,j,z,y,t,u];calc#["dict","dict.items",F.plainAttrs_dict,F.slot_dict_items,F.type_dict_items,M.typeIs,M.mapOf.noDict,?_];show PY _ _ (callWith l (.builtin "dict.items") [.ref p] [] []) _ _ g;calc method_meetsIn F.slot_dict_items F.entry_dict_items rfl (Xy #[rfl,M.typeIs,F.args_dict_items_1 _,_,meets_dict_items (aW X.prog X.w) p Q,#[C,M],?_]);let aa:@LT.lt Nat _ p g⁻¹:=P0 B;let S:g.heap.DictAt (aW X.prog X.w) p C ep:=#[D,Y,B,j,z,y,t,u];let O:(g.heap.push {cls:=.type "dict_items",data:=.fields #[.ref p]}).objs.size=g⁻¹+1:=Q6 ..;show PY _ _ (Xf (.ref g⁻¹)) _ _ _;calc wpAny_pyIter_items (knd:=aW X.prog X.w) (d:=p) (kvs:=C) (ep:=ep) #[_,P5 _ rfl,rfl,rfl] (S.push _) ?_;let T:Inv X m gD (upd H1 p (.nT D (.dK kvs))) g:=Z.nT W B;dsimp only;let G:=P5 (g.heap.push {cls:=.type "dict_items",data:=.fields #[.ref p]}) (o:={cls:=.type "dict_itemiterator",data:=.fields #[.none,.bool AE,.ref p,.int 0 0,.int ⇑C 0,.int ep 0,.none,.none,]}) rfl;rw[O]at G|-;refine#[g⁻¹+1,[g⁻¹+1],_,_,upd H1 p (.nT D (.dK kvs)),rfl,T.kept (t':=g.toks) (λc o q=>u5 _ (u5 _ q)),Γx j z y t u N _ p (by show @Ne Nat _ _;omega),#[_,_,G],λb hb=>?_,q1 D]
 let J:g⁻¹<=b:=by
  obtain rfl:b=g⁻¹+1:=by simpa using hb
  exact RA _ 1
 calc T.BW J (T.hok.fresh J)
def sr (l:Nat->St->MC (Key×V)->Hp->Prop)(G:l 0 σ0 [] H0)(o:∀i d kvs H,i<=⇑xs->l i d kvs H->⇑kvs<=i)(hn:⇑xs<=my)(t:∀i d kvs H,i<=⇑xs->l i d kvs H->H a=U (.nT r (.dK xs)))(hs:∀i x d kvs H p,xs[i]?=U x->l i d kvs H->H p=gV->g (.ref p) d (upd H p (.J [kV x.1,x.2])) λj L=>tt j L λok u=>if ok=AD then tk j u λB J=>tv j J λv I=>∃key,B=kV key/\l (i+1) j (putK kvs key v) I else l (i+1) j kvs u)(hd:∀d kvs H,l ⇑xs d kvs H->∀p,H p=gV->Q (.ref p) (upd H p (.dK kvs))):wX (Itm r xs a) g tt tk tv Q σ0 H0:=by
 calc yX ⇑xs l G o hn (λi d m H q p=>#[t i d m H (QB q) p,q]) (λd m H p=>#[t _ d m H (u4 _) p,u4 _]) (λi d m H x M q p y=>?_) hd;let(z,e,D,rfl,rfl,C):=y;calc hs i e d m H z C p D
meta def OA(u:It)(H:TG)(D C:TE)(N:St->MC (Key×V)->Hp->Prop)(r:St)(kvs:MC (Key×V))(M:Hp):Prop :=
 ∃t:Nat->Nat->St->MC (Key×V)->Hp->Prop,(∃q,t 0 q r kvs M)/\∀j q g d p,t j q g d p ->
   (u.stop j p/\N g d p) \/
   (u.go j p/\⇑d<my/\∃B:St->MC (Key×V)->Hp->Prop,(∀e l o,B e l o->∃z,z < q/\t (j+1) z e l o)/\∀y o,u.yld j p y o->H y g o λe L =>
    D e L λG J=>C e J λv I=>∃m,G=kV m/\B e (putK d m v) I)
def Δa {K:cB}(j:Nat->St->MC (Key×V)->Hp->Prop)(z:j 0 σ0 [] H0)(u:∀i d kvs H,i<=⇑xs->j i d kvs H->b9 K H a xs)(hs:∀i x d kvs H,xs[i]?=U x->j i d kvs H->g x d H λl r=>wi2 l r λB C=>OA B g2 tk tv (j (i+1)) l kvs C)(hz:∀d kvs H,j ⇑xs d kvs H->⇑kvs<=my)(hd:∀d kvs H,j ⇑xs d kvs H->∀p,H p=gV->Q (.ref p) (upd H p (.dK kvs))):Bj (A2 K a) g wi2 g2 tk tv Q σ0 H0:=by
 calc#[λi m d kvs H=>m=⇑xs-i/\i<=⇑xs/\j i d kvs H,#[⇑xs,by simp,Qc _,z],?_];rintro i m d kvs H ⟨rfl,v,p⟩;let q1:=u i d kvs H v p
 by_cases o:i<⇑xs
 .refine .inr #[#[xs,xs[i],q1,by simp[o]],j (i+1),λl t r q=>#[⇑xs - (i+1),(),rfl,o,q],λx D y=>?_];let(rfl,y):=y;exact hs i x d kvs _ (y xs q1) p
 .have e:i=⇑xs:=()
  subst e;calc .inl #[#[xs,q1,u4 _],hz d kvs H p,hd d kvs H p]
def Hr {K:cB}(l:Nat->St->MC (Key×V)->Hp->Prop)(D:l 0 σ0 kvs H0)(B:∀j d kvs H,j<=⇑ys->l j d kvs H->b9 K H b ys)(hn:∀j d kvs H,j<⇑ys->l j d kvs H->⇑kvs<my)(hs:∀j y d kvs H,ys[j]?=U y->l j d kvs H->g2 y d H λo J=>tk o J λz I=>tv o I λv G=>∃key,z=kV key/\l (j+1) o (putK kvs key v) G)(hd:∀d kvs H,l ⇑ys d kvs H->N d kvs H):OA (A2 K b) g2 tk tv N σ0 kvs H0:=by
 calc#[λj m d kvs H=>m=⇑ys-j/\j<=⇑ys/\l j d kvs H,#[⇑ys,by simp,Qc _,D],?_];rintro j m d kvs H ⟨rfl,C,p⟩;let q1:=B j d kvs H C p
 by_cases r:j<⇑ys
 .refine .inr #[#[ys,ys[j],q1,by simp[r]],hn j d kvs H r p,l (j+1),λt u L q=>#[⇑ys - (j+1),(),rfl,r,q],λx M y=>?_];let(rfl,y):=y;exact hs j x d kvs _ (y ys q1) p
 .have e:j=⇑ys:=()
  subst e;calc .inl #[#[ys,q1,u4 _],hd d kvs H p]
def Paired.Jt {F:α->β->Prop}{l1:MC α}{l2:List β}(r:Paired F l1 l2){a:α}{b:β}(h:F a b):Paired F (l1++[a]) (l2++[b]):=by
 induction r with
 |nil=>calc .cons h .nil
 |cons q t ih=>calc .cons q ih
def Paired.getL {F:α->β->Prop}{l1:MC α}{l2:List β}(r:Paired F l1 l2):∀{i:Nat}{b:β},l2[i]?=U b->∃a,l1[i]?=U a/\F a b:=by
 induction r with
 |nil=>intro i b h;simp at h
 |@cons a b l1 l2 q t ih =>
  intro i c h
  cases i with
  |zero =>
   simp only[Uy,UK]at h;subst h;calc#[a,by simp,q]
  |succ n =>
   let(x,d,f):=ih (by simpa using h);calc#[x,by simpa using d,f]
def qv {d:MC (Key×V)}(h:∀e∈d,e.1≠k):putK d k v=d++[(k,v)]:=by
 unfold putK
 let:(d.any λe=>decide (e.1=k))=AE:=by
  rw[UD];intro e g
  simpa using h e g
 rw[this];rfl
end L2
namespace G16
open PySem L2
meta def tl(kl:Kl):MC (AA×AA×MC Kk):=kl.flatMap λk=>k.2.map λt=>(t.1,k.1,t.2)
meta def Hs(K:cB)(H:Hp)(x:AA×AA×MC Kk)(e:Key×V):Prop:=∃q d,e=(Sum.inr x.1,V.ref q)/\H q=U (.J [.str x.2.1,d])/\Rp K H (.t (x.2.2.map jN)) d
def Hs.Z (t:Hs K H x e)(s:aS H d):Hs K d x e:=by
 let(q,g,e,h,r):=t;calc#[q,g,e,s _ _ h,r.Z s]
def uo (kl:Kl):(tl kl).map (·.1)=oR kl:=by
 unfold tl oR;rw[Yu]
 congr 1
 funext k
 rw[Qm];rfl
def xN (l:Kl)(k:AA×MC (AA×MC Kk)):tl (l++[k])=tl l++k.2.map λt=>(t.1,k.1,t.2):=by
 unfold tl;rw[Q4];simp
meta def zj(K:cB):Sp:=λj H Q _=>∃(v:V) (e:Kl) (l:T),j=[v]/\Rp K H (.t [.t (e.map fP),l]) v/\FO e/\(oR e).Nodup /\
 ∀(p:AB) (g:Hp) (d:MC (Key×V)),aS H g->H p=gV->g p=U (.dK d)->Paired (Hs K g) (tl e) d->Q (.ref p) g
structure OB(K:cB) (H:Hp) (xs:MC (AA×AA×MC Kk)) (H2:Hp) (kvs:MC (Key×V)):Prop where
 s:aS H H2
 p:Paired (Hs K H2) xs kvs
def uq :Nm Γf (af kg):=∅
def uu :Lm Γf (af kg):=∅
def pJ :aY Γf Γr (af kg):=by ac_rfl
def AG (F:i9 K "tags_of" "tags_of" kg f fd):Yf gy 1 f fd Γr (zj K):=by
 exists F.ok pJ
 .have(_,_,_,rfl,_):=h;rfl
 let(v,g,dt,rfl,r,hB,ag,k):=h;refine#[_,(Z5 (Zn (va uq 0) (Zc (Zf (ga pJ.nd uu 1) (Zt (ga pJ.nd uu 2))))) (Zd (Zo (Γw (af kg) Γf Zy [] rfl rfl rfl ∅ (dj (va uq 1)) (λ_ _ _ _=>(Zc (Zf (X1 Zy 0) (Zt (X1 Zy 1))))) (λ_ _ _ _=>(wY K rfl (Xt Zy 1))) (λ_ _ _ _=>(Zc (Zf (X1 Zy 2) (Zt (X1 Zy 3))))) (λ_ _ _ _=>(Xt Zy 2)) (λ_ _ _ _=>(Ze (Z1 (Xt Zy 0) (Za (Xt Zy 3))))))))),?_]
 right
 right
 let(pa,u1,u2,rfl,ar,g1,g2):=r.t2;let(a,W,rfl,sq,rs):=g1.aT;let Y:=⇑rs;rw[bM]at Y;let aa:=sN hB;rw[<-uo,bM]at aa;ext;refine Δa (K:=K) (xs:=W) (λi o d R=>(∃y1 y2 V gD,o=[y1,y2,V,gD])/\OB K H (tl (g.take i)) R d) #[#[_,_,_,_,rfl],aS.refl _,.nil] ?_ ?_ ?_ ?_
 .rintro i o d R hi ⟨_,l⟩;exact sq.Z l.s
 .rintro i xv o d R hxv ⟨⟨_,_,_,_,rfl⟩,l⟩;let(t,L,rx):=rs.get' hxv;rw[EF]at L;let(kd,N,rfl):=IF.mp L;let al:=(eF.mp N).1;let y:g.take (i+1)=g.take i++[kd]:=by rw[we al,(eF.mp N).2]
  let(ka,k1,k2,rfl,ab,q1,q2):=(show Rp K H (.t [.s kd.1,.t (kd.2.map j4)]) xv from rx).t2;obtain rfl:=q1.aP;let ap:=ab.Z l.s;let(X,D,rfl,G,I):=q2.aT;let Z:=⇑I;rw[bM]at Z;let ao:=G.Z l.s;ext
  let M:∀j,j<=⇑kd.2->((tl (g.take i)++(kd.2.take j).map λt=>(t.1,kd.1,t.2)).map (·.1)).Nodup:=λj hj=>by
   calc ag.sublist ?_;rw[<-uo];calc TX _ ?_;refine Yh.trans (l₂:=tl (g.take (i+1))) ?_ ?_
   .rw[y,xN];exact Yh.append (Yh.refl _) (TX _ (Tw _ _))
   .conv=>rhs;rw[<-R1 (i+1) g]
    unfold tl;rw[Q4];exact List.sublist_append_left _ _
  let ac:∀j,⇑(tl (g.take i)++(kd.2.take j).map λt=>(t.1,kd.1,t.2))<=100:=λj=>by
   let e:⇑(tl (g.take (i+1)))<=⇑(tl g):=by
    conv=>rhs;rw[<-R1 (i+1) g]
    unfold tl;rw[Q4,mu];omega
   rw[y,xN,mu,bM]at e;rw[mu,bM,I0];omega
  refine Hr (K:=K) (ys:=D) (λj o d B=>(∃V gD,o=[U (.str kd.1),U (.ref X),V,gD])/\OB K H (tl (g.take i)++(kd.2.take j).map λt=>(t.1,kd.1,t.2)) B d) #[#[_,_,rfl],by rw[VS,RL,QM];calc l] ?_ ?_ ?_ ?_
  .rintro j o d B hj ⟨_,m⟩;exact G.Z m.s
  .rintro j o d B hj ⟨_,m⟩;let e1:=⇑m.p;let e2:=ac j;exact bg ()
  .rintro j yv o d B hyv ⟨⟨_,_,rfl⟩,m⟩;let(t,L,ry):=I.get' hyv;rw[EF]at L;let(u,J,rfl):=IF.mp L;let O:=(eF.mp J).1;let an:kd.2.take (j+1)=kd.2.take j++[u]:=by rw[we O,(eF.mp J).2]
   let(ga,w1,C,rfl,am,p1,p2):=(show Rp K H (.t [.s u.1,.t (u.2.map jN)]) yv from ry).t2;obtain rfl:=p1.aP;let aq:=am.Z m.s;let r3:=p2.Z m.s;let hn:=M (j+1) O;let en:(tl (g.take i)++(kd.2.take (j+1)).map λt=>(t.1,kd.1,t.2))=(tl (g.take i)++(kd.2.take j).map λt=>(t.1,kd.1,t.2))++[(u.1,kd.1,u.2)]:=by rw[an,i4,Rw];rfl
   rw[en,i4]at hn
   let nw:∀kv∈d,kv.1≠Sum.inr u.1:=λkv ai z=>by
    let(n,ah):=QL ai;let(x,hx,q,iv,e,_):=Paired.getL m.p ah;rw[e]at z;let z':x.1=u.1:=SX z;let:=(RU.mp hn).2.2 x.1 (QI (P6 hx)) u.1 (by simp);exact this z'
   ext T ad;let S:=ae ad (.J [.str kd.1,C]);let h4:upd B T (.J [.str kd.1,C]) T=U (.J [.str kd.1,C]):=aj;generalize upd B T (.J [.str kd.1,C])=H4 at S h4|-;calc#[Sum.inr u.1,rfl,#[_,_,rfl],?_];rw[qv nw,en];exact#[m.s.trans S,Paired.Jt (Paired.imp' (λx e h=>Hs.Z h S) m.p) #[T,C,rfl,h4,r3.Z S]]
  .rintro o d B ⟨⟨_,_,rfl⟩,m⟩;rw[show ⇑D=⇑kd.2 by omega,Ql]at m;rw[y,xN];exact#[#[_,_,_,_,rfl],m]
 .rintro o d R ⟨_,l⟩;rw[show ⇑W=⇑g by omega,Ql]at l;let:=⇑l.p;exact small ()
 .rintro o d R ⟨_,l⟩ p hp;rw[show ⇑W=⇑g by omega,Ql]at l;let s3:=ae hp (.dK d);ext;calc k p _ d (l.s.trans s3) (l.s.free hp) aj (Paired.imp' (λx e h=>Hs.Z h s3) l.p)
meta def Nr(s:Stmt)(i:Nat):Stmt:=match s with
 |.ClassDef _ _ _ b _ _ _ _ _ _ _=>b.getD i (.Pass #[0,0,0,0])
 |_=>.Pass #[0,0,0,0]
meta abbrev fZ:Stmt:=Nr GQ 0
structure qw where
 dx:AB
 dK:AB
 dT:AB
 dM:AB
 dD:AB
 lG:AB
 lO:AB
 kv:MC (Key×V)
meta def Ju(a:qw):MC (AA×V):=[("kinds",.ref a.dK),("kind_of_tag",.ref a.dT),("many_of_tag",.ref a.dM),("many_of_def",.ref a.dD),("gaps",.ref a.lG),("opens",.ref a.lO)]
meta def So(o:AB)(H d:Hp):Prop:=∀b u,b≠o->H b=U u->d b=U u
def So.refl (o:AB)(H:Hp):So o H H:=λ_ _ _ e=>e
def So.Z (a:So o H g)(s:aS g d):So o H d:=λb u n e=>s _ _ (a b u n e)
def So.upd (a:So o H d)(x:HO):So o H (L2.upd d o x):=λb u n e=>by rw[aB n];calc a b u n e
def So.trans (a:So o H g)(b:So o g d):So o H d:=λc u n e=>b c u n (a c u n e)
def So.free (a:So o H d)(n:b≠o)(e:d b=gV):H b=gV:=by
 cases q:H b with
 |none=>rfl
 |some u=>rw[a b u n q]at e;cases e
def So.kt (a:So o H g)(e:H o=U (.ins C j fs)):Kt H g:=by
 intro b l d;rcases d with d|⟨z,d⟩
 .exact .inl (a b _ (λq=>by rw[q,e]at d;cases d) d)
 .exact .inr #[z,a b _ (λq=>by rw[q,e]at d;cases d) d]
meta def Nt(a:qw)(H:Hp)(k:AA×MC (AA×MC Kk))(e:Key×V):Prop:=∃l,e=(Sum.inr k.1,V.ref l)/\H l=U (.Y (k.2.map λt=>.str t.1))/\l≠a.lG/\l≠a.lO
structure ig(C:AB) (H0:Hp) (o:AB) (a:qw) (kl:Kl) (ds:MC (AA×Nat)) (gs os:MC Int) (H:Hp):Prop where
 sm:aS H0 H
 d0:H0 a.dD=gV
 g0:H0 a.lG=gV
 o0:H0 a.lO=gV
 go:a.lG≠a.lO
 kd:a.dK≠a.dD
 td:a.dT≠a.dD
 md:a.dM≠a.dD
 ins:H o=U (.ins C a.dx (Ju a))
 kk:H a.dK=U (.dK a.kv)
 ke:Paired (Nt a H) kl a.kv
 kt:H a.dT=U (.dK ((tl kl).map λx=>(Sum.inr x.1,.str x.2.1)))
 km:H a.dM=U (.dK ((tl kl).map λx=>(Sum.inr x.1,.int ⇑x.2.2)))
 dd:H a.dD=U (.dK (ds.map λd=>(Sum.inr d.1,.int d.2)))
 gg:H a.lG=U (.Y (gs.map V.int))
 oo:H a.lO=U (.Y (os.map V.int))
def ig.step {os:MC Int}(h:ig C H0 o a kl ds gs os H)(s:∀b u,b≠a.dD->b≠a.lG->b≠a.lO->H b=U u->H' b=U u)(dd:H' a.dD=U (.dK (m.map λd=>(Sum.inr d.1,.int d.2))))(gg:H' a.lG=U (.Y (j.map V.int)))(oo:H' a.lO=U (.Y (g.map V.int))):ig C H0 o a kl m j g H':=by
 let y:=h.kk;let v:=h.ke;let dict:∀{b:AB}{p:MC (Key×V)},b≠a.dD->H b=U (.dK p)->H' b=U (.dK p):=λ{b p} n e=>s b _ n (λz=>by rw[z,h.gg]at e;cases e) (λz=>by rw[z,h.oo]at e;cases e) e;refine#[λb u e=>?_,h.d0,h.g0,h.o0,h.go,h.kd,h.td,h.md,?_,dict h.kd y,?_,dict h.td h.kt,dict h.md h.km,dd,gg,oo]
 .exact s b u (ay e h.d0) (ay e h.g0) (ay e h.o0) (h.sm b u e)
 .exact s o _ (λz=>by let:=h.ins;rw[z,h.dd]at this;cases this) (λz=>by let:=h.ins;rw[z,h.gg]at this;cases this) (λz=>by let:=h.ins;rw[z,h.oo]at this;cases this) h.ins
 .exact Paired.imp' (λk e ⟨l,B,q,t,r⟩=>#[l,B,s l _ (λz=>by rw[z,h.dd]at q;cases q) t r q,t,r]) v
meta def kO(a:qw)(H H':Hp):Prop:=∀b u,b≠a.dD->b≠a.lG->b≠a.lO->H b=U u->H' b=U u
def kO.refl (a:qw)(H:Hp):kO a H H:=λ_ _ _ _ _ e=>e
def kO.Z (x:kO a H g)(s:aS g d):kO a H d:=λb u m l j e=>s _ _ (x b u m l j e)
def kO.of (s:aS H d):kO a H d:=λb u _ _ _ e=>s _ _ e
def kO.trans (x:kO a H m)(y:kO a m l):kO a H l:=λb u j g d e=>y _ _ j g d (x b u j g d e)
def kO.DZ (x:kO a H d)(e:H b=gV)(o:HO):kO a H (upd d b o):=λc u l j g h=>by rw[aB (ay h e)];calc x c u l j g h
def ig.Nu {os:MC Int}(h:ig C H0 o a kl ds gs os H)(x:kO a H H'):Kt H H':=by
 intro b e d;rcases d with d|⟨z,d⟩
 .exact .inl (x b _ (λq=>by rw[q,h.dd]at d;cases d) (λq=>by rw[q,h.gg]at d;cases d) (λq=>by rw[q,h.oo]at d;cases d) d)
 .exact .inr #[z,x b _ (λq=>by rw[q,h.dd]at d;cases d) (λq=>by rw[q,h.gg]at d;cases d) (λq=>by rw[q,h.oo]at d;cases d) d]
theorem Paired.both {F G:e->d->Prop}:∀{l1:List e}{l2:List d},Paired F l1 l2->Paired G l1 l2->Paired (λx y=>F x y/\G x y) l1 l2
 |_,_,.nil,_=>.nil
 |_,_,.cons f t,.cons g u=>.cons #[f,g] (Paired.both t u)
def ig.other {os:MC Int}(h:ig C H0 o a kl ds gs os H)(d:ig C H0 o a kl r j g t)(e:t b=gV)(x:HO):ig C H0 o a kl ds gs os (upd H b x):=by
 let n:∀{c:AB}{u:HO},t c=U u->c≠b:=λq=>ay q e;refine#[h.sm.w5 (d.sm.free e) x,h.d0,h.g0,h.o0,h.go,h.kd,h.td,h.md,?_,?_,?_,?_,?_,?_,?_,?_]
 .rw[aB (n d.ins)];exact h.ins
 .rw[aB (n d.kk)];exact h.kk
 .refine Paired.imp' (λk y ⟨⟨l,G,D,z,v⟩,B,p,m,_,_⟩=>?_) (Paired.both h.ke d.ke);subst G;obtain rfl:l=B:=V.ref.inj (Xo p).2;exact#[l,rfl,by rw[aB (n m)];calc D,z,v]
 .rw[aB (n d.kt)];exact h.kt
 .rw[aB (n d.km)];exact h.km
 .rw[aB (n d.dd)];exact h.dd
 .rw[aB (n d.gg)];exact h.gg
 .rw[aB (n d.oo)];calc h.oo
def kO.setG (x:kO a H e)(y:HO):kO a H (upd e a.lG y):=λc u j d g h=>by rw[aB d];calc x c u j d g h
def kO.Ht (x:kO a H e)(y:HO):kO a H (upd e a.lO y):=λc u j g d h=>by rw[aB d];calc x c u j g d h
def ig.ext {os:MC Int}(h:ig C H0 o a kl ds gs os H)(s:aS H H'):ig C H0 o a kl ds gs os H':=h.step (λb u _ _ _ e=>s b u e) (s _ _ h.dd) (s _ _ h.gg) (s _ _ h.oo)
def ig.dG {os:MC Int}(h:ig C H0 o a kl ds gs os H):a.dD≠a.lG:=λz=>by let:=h.dd;rw[z,h.gg]at this;cases this
def ig.dO {os:MC Int}(h:ig C H0 o a kl ds gs os H):a.dD≠a.lO:=λz=>by let:=h.dd;rw[z,h.oo]at this;cases this
def ig.setG {os:MC Int}(h:ig C H0 o a kl ds gs os H)(d:MC Int):ig C H0 o a kl ds d os (upd H a.lG (.Y (d.map V.int))) :=
 h.step (λb u _ n _ e=>by rw[aB n];calc e) (by rw[aB h.dG];calc h.dd) aj (by rw[aB h.go.symm];calc h.oo)
def ig.Ht {os:MC Int}(h:ig C H0 o a kl ds gs os H)(d:MC Int):ig C H0 o a kl ds gs d (upd H a.lO (.Y (d.map V.int))) :=
 h.step (λb u _ _ n e=>by rw[aB n];calc e) (by rw[aB h.dO];calc h.dd) (by rw[aB h.go];calc h.gg) aj
def ig.Cz {os:MC Int}(h:ig C H0 o a kl ds gs os H)(g:MC (AA×Nat)):ig C H0 o a kl g gs os (upd H a.dD (.dK (g.map λd=>(Sum.inr d.1,.int d.2)))) :=
 h.step (λb u n _ _ e=>by rw[aB n];calc e) aj (by rw[aB h.dG.symm];calc h.gg) (by rw[aB h.dO.symm];calc h.oo)
def uv (a:qw):(Ju a).lookup ("kinds":AA)=U (V.ref a.dK):=by kernel_rfl
def Et (a:qw):(Ju a).lookup ("kind_of_tag":AA)=U (V.ref a.dT):=by kernel_rfl
def vS (a:qw):(Ju a).lookup ("many_of_tag":AA)=U (V.ref a.dM):=by kernel_rfl
def zk (a:qw):(Ju a).lookup ("many_of_def":AA)=U (V.ref a.dD):=by kernel_rfl
def CA (a:qw):(Ju a).lookup ("gaps":AA)=U (V.ref a.lG):=by kernel_rfl
def AH (a:qw):(Ju a).lookup ("opens":AA)=U (V.ref a.lO):=by kernel_rfl
structure LM(K:cB) (C:AB):Prop where
 c:Jf K C
 kinds:jP K C "kinds"
 ktag:jP K C "kind_of_tag"
 mtag:jP K C "many_of_tag"
 mdef:jP K C "many_of_def"
 gaps:jP K C "gaps"
 opens:jP K C "opens"
def Eu (a:qw):aX "opens" (.ref a.lO) (aX "gaps" (.ref a.lG) (aX "many_of_def" (.ref a.dD) (aX "many_of_tag" (.ref a.dM) (aX "kind_of_tag" (.ref a.dT) (aX "kinds" (.ref a.dK) [])))))=Ju a:=by kernel_rfl
meta def Bm(K:cB)(C:AB):Sp:=λj H Q _=>∃(e:Hp) (o l:AB) (v:V) (d:Kl) (m:T),j=[.ref o,v]/\aS e H/\e o=gV/\H o=U (.ins C l [])/\Rp K H (.t [.t (d.map fP),m]) v/\FO d/\(oR d).Nodup/\(d.map (·.1)).Nodup /\
 ∀(g:Hp) (a:qw),ig C e o a d [] [] [] g->Q .gu g
theorem uw :∀(l a:List AA) (x:AA),cy a (l++[x])=match cy a l with
  |some y=>U y
  |none=>if x∈a++l then U x else gV
 | [],a,x=>by
  show(if x∈a then U x else cy (a++[x]) [])=_;rw[QM];rfl
 |y::r,a,x=>by
  show(if y∈a then U y else cy (a++[y]) (r++[x]))=_;let d:=uw r (a++[y]) x
  by_cases h:y∈a
  .have e:cy a (y::r)=U y:=by show(if y∈a then U y else _)=_;rw[if_pos h]
   rw[if_pos h,e]
  .have e:cy a (y::r)=cy (a++[y]) r:=by show(if y∈a then U y else _)=_;rw[if_neg h]
   rw[if_neg h,e,d,Rw];rfl
def zl (h:cy [] l=gV):cy [] (l++[x])=if x∈l then U x else gV:=by
 rw[uw,h];rfl
theorem rD :∀(l a:List AA),cy a l=gV->l.Nodup/\∀x∈l,x∉a
 | [],a,_=>#[Xp,λ_ h=>nomatch h]
 |y::r,a,h=>by
  let d:(if y∈a then U y else cy (a++[y]) r)=gV:=h
  by_cases c:y∈a
  .rw[if_pos c]at d;cases d
  .rw[if_neg c]at d;let(g,e):=rD r _ d;calc#[RZ.mpr #[λz=>e y z (by simp),g],λx hx=>?_];rcases P1.mp hx with rfl|hx
   .exact c
   .exact λz=>e x hx (by simp[z])
theorem zm :∀(d:MC (AA×MC Kk)) (ta:List AA),ie ah ta d=gV->cy [] ta=gV->cy [] (ta++d.map (·.1))=gV
 | [],ta,_,h=>by rw[RL,QM];calc h
 |t::r,ta,h,hd=>by
  unfold ie at h
  cases e:cy [] (ta++[t.1])with
  |some x=>rw[e]at h;cases h
  |none =>
   rw[e]at h
   cases e2:eR (hU ah) t.2 with
   |some n=>rw[e2]at h;cases h
   |none =>
    rw[e2]at h;let:=zm r _ h e
    rwa [Rw]at this
theorem vU :∀(kl:Kl) (ah ta:List AA),cY ah ta kl=gV->cy [] ah=gV->cy [] ta=gV->cy [] (ah++kl.map (·.1))=gV/\cy [] (ta++oR kl)=gV
 | [],ah,ta,_,h1,h2=>by
  show cy [] (ah++[])=gV/\cy [] (ta++[])=gV;rw[QM,QM];calc#[h1,h2]
 |k::r,ah,ta,h,h1,h2=>by
  unfold cY at h
  cases e:cy [] (ah++[k.1])with
  |some x=>rw[e]at h;cases h
  |none =>
   rw[e]at h
   cases e2:ie ah ta k.2 with
   |some n=>rw[e2]at h;cases h
   |none =>
    rw[e2]at h;let(a,b):=vU r _ _ h e (zm _ _ e2 h2);rw[Rw]at a b;calc#[a,b]
def zo (h:cY [] [] kl=gV):(kl.map (·.1)).Nodup/\(oR kl).Nodup:=by
 let(a,b):=vU kl [] [] h rfl rfl;calc#[(rD _ _ a).1,(rD _ _ b).1]
meta def iT(kn:List AA)(os:MC Int)(k:Kk):Except Flt (MC Int):=match k.core with
 |.kd x=>if x∈kn then .ok os else .error (.nn,x)
 |.op n=>if n∈os then .error (.tw,"?")else .ok (os++[n])
 |_=>.ok os
meta def cE(kn:List AA):List AA->MC Int->MC (AA×Kk)->Except Flt (MC Int)
 |_,os,[]=>.ok os
 |ah,os,p::r=>if p.1∈ah then .error (.tw,p.1)else match iT kn os p.2 with
  |.error f=>.error f
  |.ok os'=>cE kn (ah++[p.1]) os' r
theorem zp {kn ah:List AA}{os:MC Int}{ps:MC (AA×Kk)}{i:Nat}{p:AA×Kk}(h:ps[i]?=U p):cE kn ah os (ps.drop i)=if p.1∈ah then .error (.tw,p.1)else match iT kn os p.2 with
  |.error f=>.error f
  |.ok os'=>cE kn (ah++[p.1]) os' (ps.drop (i+1)):=by
 let d:=(eF.mp h).1;let e:ps.drop i=p::ps.drop (i+1):=by rw[QV d,(eF.mp h).2]
 rw[e];rfl
meta def iX(kl:Kl)(t:AA):AF (AA×AA×MC Kk):=(tl kl).find? λx=>decide (x.1=t)
meta def u7(kl:Kl)(n:AA):AF (AA×MC (AA×MC Kk)):=kl.find? λk=>decide (k.1=n)
theorem qx {d:Type}(key:d->AA)(f:d->V)(t:AA):∀l:List d,eM (l.map λx=>((Sum.inr (key x):Key),f x)) (Sum.inr t)=(l.find? λx=>decide (key x=t)).map f
 | []=>rfl
 |x::r=>by
  rw[Qd]
  by_cases h:key x=t
  .rw[fc (show(Sum.inr (key x):Key)=Sum.inr t by rw[h]),Sw (by simpa using h)];rfl
  .rw[fg (λz=>h (SX z)),Sx (by simpa using h)];calc qx key f t r
meta def j5(kl:Kl)(a:AA×List AA):AF Flt:=match iX kl a.1 with
 |none=>U (.nn,a.1)
 |some y=>if ⇑a.2=⇑y.2.2 then(cy [] a.2).map λx=>(.tw,x)else U (.wr,a.1)
meta def gE(kl:Kl)(arms:MC (AA×List AA)):AF Flt:=match arms with
 | []=>U (.nn,"match")
 |a::r=>match(a::r).find? (λb=>decide ((iX kl b.1).isSome=AE))with
  |some b=>U (.nn,b.1)
  |none=>if((a::r).map (·.1)).isPerm ((((iX kl a.1).bind λy=>u7 kl y.2.1).map λk=>k.2.map (·.1)).getD [])=AD then(a::r).findSome? (j5 kl)else U (.wr,"match")
meta def fU(kl:Kl)(ds:MC (AA×Nat))(gs:MC Int)(ns:List AA):Hd->Nat->Except Flt (MC Int)
 |.name x,_=>if x∈ns then .ok gs else .error (.nn,x)
 |.tag t,n=>match iX kl t with
  |none=>.error (.nn,t)
  |some y=>if n=⇑y.2.2 then .ok gs else .error (.wr,t)
 |.call f,n=>match ds.find? (λd=>decide (d.1=f))with
  |none=>.error (.nn,f)
  |some d=>if n=d.2 then .ok gs else .error (.wr,f)
 |.mat arms,_=>match gE kl arms with
  |some f=>.error f
  |none=>.ok gs
 |.fold x y,_=>if x=y then .error (.tw,x)else .ok gs
 |.gap n,_=>if n∈gs then .error (.tw,"?")else .ok (gs++[n])
 |_,_=>.ok gs
meta def iU(kl:Kl)(ds:MC (AA×Nat)):MC Int->MC (List AA×Tm)->Except Flt (MC Int)
 |gs,[]=>.ok gs
 |gs,p::r=>match fU kl ds gs p.1 p.2.hd ⇑p.2.ks with
  |.error f=>.error f
  |.ok gs'=>iU kl ds gs' r
structure Di where
 d:AB
 dk:AB
 dt:AB
 lo:AB
 lg:AB
 dd:AB
 kv:MC (Key×V)
meta def ky(x:AA):Key:=Sum.inr x
meta def OC(S:Di):MC (Key×V):=[(ky "kinds",.ref S.dk),(ky "tags",.ref S.dt),(ky "opens",.ref S.lo),(ky "gaps",.ref S.lg),(ky "defs",.ref S.dd)]
meta def Pw(S:Di)(H:Hp)(k:AA×MC (AA×MC Kk))(e:Key×V):Prop:=∃l,e=(Sum.inr k.1,V.ref l)/\H l=U (.Y (k.2.map λt=>.str t.1))/\l≠S.lg/\l≠S.lo
meta def Px(H:Hp)(x:AA×AA×Nat)(e:Key×V):Prop:=∃q,e=(Sum.inr x.1,V.ref q)/\H q=U (.J [.str x.2.1,.int x.2.2])
meta def Py(H:Hp)(x:AA×Nat)(e:Key×V):Prop:=∃q,e=(Sum.inr x.1,V.ref q)/\H q=U (.J [.str x.1,.int x.2])
structure OD(H0:Hp) (S:Di):Prop where
 d0:H0 S.d=gV
 k0:H0 S.dk=gV
 t0:H0 S.dt=gV
 o0:H0 S.lo=gV
 g0:H0 S.lg=gV
 f0:H0 S.dd=gV
 kt:S.dk≠S.dt
 kd:S.dk≠S.dd
 td:S.dt≠S.dd
 dk:S.d≠S.dk
 dt:S.d≠S.dt
 dd:S.d≠S.dd
 og:S.lo≠S.lg
structure Ew(H0:Hp) (S:Di) (kn:Kl) (tg:MC (AA×AA×Nat)) (ds:MC (AA×Nat)) (gs os:MC Int) (H:Hp):Prop where
 n:OD H0 S
 sm:aS H0 H
 sd:H S.d=U (.dK (OC S))
 hk:H S.dk=U (.dK S.kv)
 ke:Paired (Pw S H) kn S.kv
 ht:∃tv,H S.dt=U (.dK tv)/\Paired (Px H) tg tv
 hd:∃dv,H S.dd=U (.dK dv)/\Paired (Py H) ds dv
 hg:H S.lg=U (.Y (gs.map V.int))
 ho:H S.lo=U (.Y (os.map V.int))
structure Pz(H0:Hp) (S:Di) (m:Nat) (H:Hp):Prop where
 n:OD H0 S
 sm:aS H0 H
 sd:H S.d=U (.dK (OC S))
 hd:∃dv,H S.dd=U (.dK dv)/\⇑dv<=m
meta def FP(S:Di)(H d:Hp):Prop:=∀b u,b≠S.dk->b≠S.dt->b≠S.dd->b≠S.lo->b≠S.lg->H b=U u->d b=U u
def FP.of (s:aS H d):FP S H d:=λb u _ _ _ _ _ e=>s _ _ e
def FP.trans (x:FP S H p)(y:FP S p o):FP S H o:=λb u m l j g d e=>y _ _ m l j g d (x b u m l j g d e)
def FP.Z (x:FP S H e)(y:aS e d):FP S H d:=x.trans (FP.of y)
def Ew.w {os:MC Int}(h:Ew H0 S kn tg ds gs os H){n:Nat}(hn:⇑ds<=n):Pz H0 S n H:=by
 let(g,e,d):=h.hd;calc#[h.n,h.sm,h.sd,g,e,by rw[<-⇑d];calc hn]
def Ew.Ht {os:MC Int}(h:Ew H0 S kn tg ds gs os H)(j:MC Int):Ew H0 S kn tg ds gs j (upd H S.lo (.Y (j.map V.int))):=by
 let(r,t1,t2):=h.ht;let(v,p,y):=h.hd;let g:∀{b:AB}{u:HO},H b=U u->(∀k,u≠.Y k)->b≠S.lo:=λ{b u} e n q=>n _ (by rw[q,h.ho]at e;calc(Qw e).symm);refine#[h.n,h.sm.w5 h.n.o0 _,?_,?_,?_,#[r,?_,?_],#[v,?_,?_],?_,aj]
 .rw[aB (g h.sd ⋯)];exact h.sd
 .rw[aB (g h.hk ⋯)];exact h.hk
 .exact Paired.imp' (λk e ⟨l,m,d,t,o⟩=>#[l,m,by rw[aB o];calc d,t,o]) h.ke
 .rw[aB (g t1 ⋯)];exact t1
 .exact Paired.imp' (λk e ⟨l,m,d⟩=>#[l,m,by rw[aB (g d ⋯)];calc d]) t2
 .rw[aB (g p ⋯)];exact p
 .exact Paired.imp' (λk e ⟨l,m,d⟩=>#[l,m,by rw[aB (g d ⋯)];calc d]) y
 .rw[aB h.n.og.symm];calc h.hg
meta def CB:Er->AA
 |.tw=>"twice"
 |.nn=>"noname"
 |.wr=>"wrong"
meta def Hu(H:Hp):AF Flt->V->Prop
 |none,v=>v=.gu
 |some f,v=>∃p,v=.ref p/\H p=U (.Y [.str (CB f.1),.str f.2])
def Hu.Z (h:Hu H f v)(s:aS H d):Hu d f v:=by
 cases f with
 |none=>calc h
 |some f =>
  let(p,e,q):=h;calc#[p,e,s _ _ q]
end G16
namespace L2
open PySem PySem.Spec PyProof.Rows
theorem Bo :∀{xs:MC V}{us:List eT},⇑xs=⇑us->(∀(i:Nat) (x:V) (u:eT),xs[i]?=U x->us[i]?=U u->RelV x u)->Vals xs us
 | [],[],_,_=>.nil
 |x::r,u::t,hl,h=>.cons (h 0 x u rfl rfl) (Bo (by simpa using hl) λi y v d e=>h (i+1) y v (by simpa using d) (by simpa using e))
def KW {kvs:MC (Key×V)}(r:KV kvs vs){i:Nat}(h:kvs[i]?=U e):∃u,vs[i]?=U (e.1,u)/\RelV e.2 u:=KV.get r h
def ux :iQ X (.builtin "sorted") (λxs H Q=>∃(p:AB) (m:List AA),xs=[.ref p]/\aV X.K H p (m.map V.str)/\⇑m<64 /\
  ∀(d:List AA) (l:AB),d.Perm m->sortedS d=AD->H l=gV->Q (.ref l) (upd H l (.Y (d.map V.str)))):=by
 intro D s S H xs T Q I r h;let(p,m,rfl,O,W,q):=h;let(u,rfl,L):=vals1 r
 cases L
 let(v,C,M,gD):=I.list O;let j:=⇑C;rw[bM]at j;calc sorted_strs M.isList (wV C) () λg d B z G=>?_;let(e,J):=sortedAll_at s.heap v g
 let N:Vals (d.map V.str) g.toList:=by
  generalize g.toList=l at B;clear z G J q
  induction B with
  |nil=>calc .nil
  |cons x t _ ih=>exact .cons #[t,rfl] ih
 let y:⇑(d.map V.str)<=my:=by rw[bM,z.length_eq];let:=TL;omega
 let R:H (s⁻¹+1)=gV:=I.hok.fresh (QT _);calc#[.ref (s⁻¹+1),_,I.laid (t':=s.toks) (a:=s⁻¹+1) (o:=.Y (d.map V.str)) (λb o q=>sortedAll_old q) (QT _) (show eW X.prog X.w _ _ _ (.Y (d.map V.str))from#[y,g.toList,e,N,J]),rfl,q d _ z G R]
def AI (hc:X.calm=AD):iQ X (.type "list") (λxs H Q=>∃(p:AB) (kvs:MC (Key×V)),xs=[.ref p]/\H p=U (.dK kvs)/\∀l,H l=gV->Q (.ref l) (upd H l (.Y (kvs.map λe=>kV e.1)))):=by
 intro O s σ H xs us Q I r h;let(p,kvs,rfl,hq,q):=h;let(u,rfl,T):=vals1 r
 cases T
 let(B,C,v,j,gD,es,ep,ho,t,M,J,D,G):=rS I.hok (.inl hq);let N:s.heap.DictAt (aW X.prog X.w) p v ep:=#[gD,es,ho,t,M,J,D,G];let hl:=⇑j;refine PySem.W.kdl_call (PySem.W.kdl_dict (knd:=aW X.prog X.w) (kvs:=v) (ep:=ep) C) (I.ok.hd hc) N () λh' S d c' hk hD g=>?_
 let Z:Vals (kvs.map λe=>kV e.1) d.toList:=by
  let ha:⇑d.toList=⇑v:=(RW (xs:=d)).trans g.1;calc Bo (by rw[bM,ha,hl]) λi x u R hu=>?_;rw[EF]at R;let(e,he,rfl):=IF.mp R;let(k,y,m,L):=g.2 i u (by rw[<-Xb];calc hu);let(z,Y,_):=KW j he;rw[Y]at m;let(rfl,rfl):=Xo (Qw m);exact Bl L
 calc#[.ref s⁻¹,_,I.laid (t':=S) (a:=s⁻¹) (o:=.Y (kvs.map λe=>kV e.1)) hk (u4 _) (show eW X.prog X.w _ _ _ (.Y (kvs.map λe=>kV e.1))from#[by rw[bM];calc B,d.toList,c',Z,hD]),rfl,q _ (I.hok.fresh (u4 _))]
def CC {a b c:AA}(j:ltCps b.cps.toList a.cps.toList=AE)(g:ltCps c.cps.toList b.cps.toList=AE):ltCps c.cps.toList a.cps.toList=AE:=by
 rw[ltCps_eq]at *;let e:a.cps.toList<=b.cps.toList:=by simpa using j
 let d:b.cps.toList<=c.cps.toList:=by simpa using g
 let:=List.le_trans e d
 simpa using this
theorem uy :∀(l:List AA) (p:AA),risingS p l=AD->(p::l).Pairwise λa b=>ltCps b.cps.toList a.cps.toList=AE
 | [],p,_=>Uv _ _
 |x::r,p,h=>by
  let d:(!ltCps x.cps.toList p.cps.toList&&risingS x r)=AD:=h;rw[QJ]at d;let e:=uy r x d.2;let g:ltCps x.cps.toList p.cps.toList=AE:=by simpa using d.1
  calc X3.mpr #[λb hb=>?_,e];rcases P1.mp hb with rfl|hb
  .exact g
  .exact CC g ((X3.mp e).1 b hb)
theorem uz :∀{l:List AA},sortedS l=AD->l.Pairwise λa b=>ltCps b.cps.toList a.cps.toList=AE
 | [],_=>List.Pairwise.nil
 |x::r,h=>uy r x h
def zw (p:a.Perm b)(o:sortedS a=AD)(m:sortedS b=AD):a=b:=by
 calc List.Perm.eq_of_pairwise ?_ (uz o) (uz m) p;intro x y _ _ l j;rw[ltCps_eq]at l j;let g:x.cps.toList<=y.cps.toList:=by simpa using l
 let d:y.cps.toList<=x.cps.toList:=by simpa using j
 let e:=List.le_antisymm g d
 cases x
 cases y
 simp only at e
 congr
 calc Array.toList_inj.mp e
def rE (l:X.A.units+1<US):nY X (RX .NotIn) (λy x H Q=>∃a o,x=.ref a/\fX H a y o/\Q (.bl (!o.isSome)) H):=by
 intro d s p H y x t u Q I e j h;let(a,o,rfl,g,q):=h;obtain rfl:u=Value.ref a:=j;calc Gq l I g e λr m=>#[.bl (!o.isSome),H,m,rfl,q]
def vV (K:cB)(y:X.K=K):iQ X (.builtin "isinstance") (λxs H Q=>∃x,xs=[x,.ty "tuple"]/\((∃p ys,x=.ref p/\b9 K H p ys/\Q (.bl AD) H)\/(∃z,x=.str z/\Q (.bl AE) H)\/∃z,x=.int z/\Q (.bl AE) H)):=by
 subst y;intro e s B H xs C Q I r h;let(x,rfl,h):=h;let(u,g,rfl,d,r2):=vals2 r;obtain rfl:g=Value.type "tuple":=r2;rcases h with⟨p,ys,rfl,hq,q⟩|⟨z,rfl,q⟩|⟨z,rfl,q⟩
 .obtain rfl:u=Value.ref p:=d;let(l,D,j,G):=I.tuple hq;let(o,m,v,n,hd):=j;exact IsiPair.tuple_tuple m v #[.bl AD,H,I,rfl,q]
 .have(t,rfl):=d;exact IsiPair.str_tuple #[.bl AE,H,I.tok _,rfl,q]
 .have(t,rfl):=d;calc IsiPair.int_tuple #[.bl AE,H,I.tok _,rfl,q]
end L2
namespace G16
open PySem L2
meta def zx(K:cB)(C u y cW:AB):Sp:=λr H Q E=>∃(l:Hp) (v:V) (o:AB) (a:qw) (j:Kl) (q:MC (AA×Nat)) (p g:MC Int) (e:MC (AA×Kk)),r=[v,.ref o]/\Rp K H (.t (e.map uR)) v/\ig C l o a j q p g H/\⇑e<=20/\⇑g+⇑e<=90 /\
 (∀f,cE (j.map (·.1)) [] g e=.error f->TF u y cW E l f)/\(∀d,cE (j.map (·.1)) [] g e=.ok d->∀m,ig C l o a j q p d m->kO a H m->⇑d<=⇑g+⇑e->Q .gu m)
structure OE(C:AB) (H0:Hp) (o:AB) (a:qw) (kl:Kl) (ds:MC (AA×Nat)) (gs os os':MC Int) (ps:MC (AA×Kk)) (i:Nat) (l1:AB) (H H2:Hp):Prop where
 k:ig C H0 o a kl ds gs os' H2
 t:kO a H H2
 h:H2 l1=U (.Y ((ps.take i).map λp=>V.str p.1))
 e:cE (kl.map (·.1)) [] os ps=cE (kl.map (·.1)) ((ps.take i).map (·.1)) os' (ps.drop i)
 d:cy [] ((ps.take i).map (·.1))=gV
 l:⇑os'<=⇑os+i
def Hv :∀{kl:Kl}{kvs:MC (Key×V)},Paired (Nt a H) kl kvs->(eM kvs (Sum.inr x)).isSome=decide (x∈kl.map (·.1)):=by
 intro kl kvs p
 induction p with
 |nil=>rfl
 |@cons k _ r _ he t ih =>
  let(l,e,_):=he;subst e
  by_cases h:k.1=x
  .rw[fc (show(Sum.inr k.1:Key)=Sum.inr x by rw[h]),Qd,decide_eq_true (by rw[h];calc SH)];rfl
  .rw[fg (λz=>h (SX z)),ih,Qd];let:(x∈k.1::r.map (·.1))↔x∈r.map (·.1):=by rw[P1];exact or_iff_right (λz=>h z.symm)
   calc(decide_eq_decide.mpr this).symm
def bZ :Nm ZW (af iF):=∅
def jo :Lm ZW (af iF):=∅
def ik :aY ZW ["params","known"] (af iF):=by ac_rfl
def CD (F:i9 K "look_params" "look_params" iF f fd)(N:LM K C)(LO:Y1 "look_once" 3 Γv (rg K cT) gO ofd)(L:Y1 "look_gap" 3 Γn (Em cT) gG gfd)(IM:Ya "innermost" 1 ["kind"] (nR K) gI ifd)(g:Y2 "NoName" "name" cN fN dN):Yf (zc P w) 4 f fd ["params","known"] (zx K C cT cN cW):=by
 exists F.G4 ik
 .have(_,_,_,_,_,_,_,_,_,rfl,_):=h;rfl
 let(H0,v,o,a,O,ds,gs,os,G,rfl,r,X,hp,ar,hE,k):=h;refine#[_,(Z5 (sa ik.nd jo 2 (aZ ak)) (Zd (Zl (jh rfl rfl rfl) (dj (va bZ 0)) (Zc (Zf (ga ik.nd jo 3) (Zt (ga ik.nd jo 4)))) (Z5 (Zm (Z8 (va bZ 2) (Za (va bZ 3)))) (Z5 (Zm (eV[16]! LO.ok (hr.mono ()) (by left) LO.at' LO.kp LO.bd .nil jK (Za (va bZ 2)) ∅ (by rfl) (by rfl))) (Z5 (Z4 ik.nd jo 5 (Z0 IM (Za (va bZ 4)))) (Z5 (Zb (PW.pt (iY[7]! (Zh bV (Z7 qS (va bZ 5)) aC) (iu[4]! (fV[8]! (rE (gQ hr)) (Z7 aJ (va bZ 5)) (kB (va bZ 1) rfl) (by rfl'))))) (Zd (gZ[5]! rfl (ji[17]! g.k g.ok (hr.mono ()) (by left) g.m g.bd .nil lS (Z1 (Z7 aJ (va bZ 5)) ak) ∅ (by rfl) (by rfl))))) (Zd (Zb (Zh bV (Z7 qS (va bZ 5)) aC) (Zd (Zm (eV[16]! L.ok (hr.mono ()) (by left) L.at' L.kp L.bd .nil jK (Z1 (Z7 aJ (va bZ 5)) (Z1 (kB (va bZ 1) rfl) ak)) ∅ (by rfl) (by rfl))))))))))))),?_]
 right
 try dsimp only[qp,qq]
 let hc:=N.c;let n1:=N.kinds;let n6:=N.opens;let(pa,us,rfl,sq,rs):=r.aT;let af:=⇑rs;rw[bM]at af;ext;calc nw λl1 H1 s1 h1 W=>?_;let an:=sq.Z s1;ext;refine iJ (K:=K) (xs:=us) (λi σ I=>(∃y3 y4 y5,σ=[U (.ref pa),U (.ref o),U (.ref l1),y3,y4,y5])/\∃q,OE C H0 o a O ds gs os q G i l1 H I) #[#[_,_,_,rfl],os,X.ext s1,kO.of s1,h1,rfl,rfl,u4 _] ?_ ?_ ?_
 .rintro i σ I hi ⟨_,q,u⟩;exact sq.kt (X.Nu u.t)
 .rintro i xv σ I hxv ⟨⟨_,_,_,rfl⟩,q,u⟩;let(t,ht,rx):=rs.get' hxv;rw[EF]at ht;let(p,S,rfl):=IF.mp ht;let ai:=(eF.mp S).1;let aa:G.take (i+1)=G.take i++[p]:=by rw[we ai,(eF.mp S).2]
  let B:=u.e;rw[zp S]at B;let d2:=zl (x:=p.1) u.d;let k2:=X.Nu u.t;let(qa,v1,v2,rfl,ae,q1,q2):=(show Rp K H (.t [.s p.1,jN p.2]) xv from rx).t2;obtain rfl:=q1.aP;let am:=ae.kt k2;let h2:=u.h;let ag:⇑((G.take i).map λp=>V.str p.1)<my:=bg (by rw[bM,I0];omega);generalize hnm:(G.take i).map (·.1)=nm at B d2;let ac:((G.take i).map λp=>V.str p.1)=nm.map V.str:=by rw[<-hnm,Qm];rfl
  rw[ac]at h2 ag;let aq:⇑nm<=20:=by rw[<-hnm,bM,I0];omega
  let k3:=u.k.other X W (.Y (nm.map V.str++[.str p.1]));let t3:kO a H (upd I l1 (.Y (nm.map V.str++[.str p.1]))):=u.t.DZ W _;let h3:upd I l1 (.Y (nm.map V.str++[.str p.1])) l1=U (.Y ((nm++[p.1]).map V.str)):=by rw[aj];simp
  let ad:mW K AE (upd I l1 (.Y (nm.map V.str++[.str p.1]))) l1 ((nm++[p.1]).map V.str):=aV.of h3;let l3:⇑(nm++[p.1])<=500:=by rw[mu];show _+1<=_;omega
  let oE:∀x,cy [] (nm++[p.1])=U x->Told E (upd I l1 (.Y (nm.map V.str++[.str p.1]))) cT "name" (.str x):=λx Z=>by
   rw[d2]at Z
   by_cases c:p.1∈nm
   .rw[if_pos c]at Z B
    cases Z
    exact(hE _ B).Z k3.sm
   .rw[if_neg c]at Z;cases Z
  ext;generalize upd I l1 (.Y (nm.map V.str++[.str p.1]))=H3 at k3 t3 h3 ad oE|-;intro T y s4;let c:p.1∉nm:=λc=>by rw[d2,if_pos c]at T;cases T
  rw[if_neg c]at B;let J:=k3.ext s4;let t4:=t3.Z s4;let h4:=s4 _ _ h3;let r4:=q2.kt (X.Nu t4);ext Y M;let al:((G.take (i+1)).map λp=>V.str p.1)=(nm++[p.1]).map V.str:=by rw[aa,i4,ac,i4];rfl
  let ab:(G.take (i+1)).map (·.1)=nm++[p.1]:=by rw[aa,i4,hnm];rfl
  let fin:∀D H5,iT (O.map (·.1)) q p.2=.ok D->⇑D<=⇑q+1->ig C H0 o a O ds gs D H5->kO a y H5->H5 l1=U (.Y ((nm++[p.1]).map V.str))->OE C H0 o a O ds gs os D G (i+1) l1 H H5:=λD H5 eo lo k5 t5 h5=>by
   calc#[k5,t4.trans t5,by rw[al];calc h5,?_,by rw[ab];exact T,by let:=u.l;omega];rw[eo]at B;rw[ab];exact B
  let as:=J.ins;let gk:=uv a;let go:=AH a
  cases ec:p.2.core with
  |row j=>calc absurd ec (p.2.xH j)
  |num =>
   rw[ec]at M;let f5:=fin q y (by unfold iT;rw[ec]) (QT _) J (kO.refl _ _) h4;let R:∀{Q:VK},Q (.str "n") y->Ml K Y (.int 0) y Q:=λh=>core0 M h;ext;calc R ?_;ext;calc R ?_;ext;calc f5
  |kd x =>
   rw[ec]at M;let R:∀{Q:VK},Q (.str "kind") y->Ml K Y (.int 0) y Q:=λh=>core0 M h;let(ka,w1,w2,rfl,ah,g1,g2):=(show Rp K y (.t [.s "kind",.s x]) Y from M).t2;obtain rfl:=g1.aP;obtain rfl:=g2.aP;let a1:fM [V.str "kind",.str x] 1=U (.str x):=aG (j:=1) rfl;let dg:fX y a.dK (.str x) (eM a.kv (Sum.inr x)):=fX.k (k:=Sum.inr x) J.kk;let vk:(eM a.kv (Sum.inr x)).isSome=decide (x∈O.map (·.1)):=Hv J.ke;ext;calc R ?_;ext;refine b8 (λc3=>?_) (λc3=>?_)
   .have gD:x∉O.map (·.1):=λz=>by
     rw[vk,decide_eq_true z]at c3
     cases c3
    let tt:=(hE (.nn,x) (by rw[B];unfold iT;rw[ec];dsimp only;rw[if_neg gD])).Z J.sm;ext;exact gq g.c tt
   .have gD:x∈O.map (·.1):=by
     by_cases z:x∈O.map (·.1)
     .exact z
     .exact absurd (by rw[vk,decide_eq_false z];rfl) c3
    let f5:=fin q y (by unfold iT;rw[ec];dsimp only;rw[if_pos gD]) (QT _) J (kO.refl _ _) h4;ext;calc R ?_;ext;calc f5
  |op n =>
   rw[ec]at M;let R:∀{Q:VK},Q (.str "open") y->Ml K Y (.int 0) y Q:=λh=>core0 M h;let(ka,w1,w2,rfl,ah,g1,g2):=(show Rp K y (.t [.s "open",.i n]) Y from M).t2;obtain rfl:=g1.aP;obtain rfl:=g2.kZ;let a1:fM [V.str "open",.int n] 1=U (.int n):=aG (j:=1) rfl;let ao:=J.oo;let ap:⇑q<=900:=by let:=u.l;omega
   let tw:n∈q->Told E y cT "name" (.str "?"):=λgD=>(hE (.tw,"?") (by rw[B];unfold iT;rw[ec];dsimp only;rw[if_pos gD])).Z J.sm;ext;calc R ?_;ext;calc R ?_;ext gD;let f5:=fin (q++[n]) _ (by unfold iT;rw[ec];dsimp only;rw[if_neg gD]) (by rw[mu];calc u4 _) (J.Ht (q++[n])) ((kO.refl a y).Ht _) (by rw[aB (ay X.oo W).symm];calc h4);exact#[#[_,_,_,rfl],_,f5]
 .rintro σ I ⟨_,q,u⟩;let B:=u.e;rw[show ⇑us=⇑G by omega,RO]at B;calc k q B I u.k u.t (by let:=u.l;omega)
meta def xO(K:cB)(j cW:AB):Sp:=λg H Q E=>∃(t:AA) (b d:AB) (e:MC V) (c:AF Nat),g=[.str t,.ref b,.ref d]/\b9 K H b e/\fX H d (.str t) (c.map λ(n:Nat)=>V.int (n:Int)) /\
 (c=gV->Told E H j "name" (.str t))/\(∀n,c=U n->⇑e≠n->Told E H cW "name" (.str t))/\(∀n,c=U n->⇑e=n->Q .gu H)
def fF :Nm ZT (af jZ):=∅
def u9 :aY ZT ZT (af jZ):=by ac_rfl
def Ex (F:i9 K "look_count" "look_count" jZ f u)(j:Y2 "NoName" "name" cN fN dN)(g:Y2 "WrongCount" "name" cW fW dW)(l:mg "len"=gV):Yf (zc P w) 3 f u ZT (xO K cN cW):=by
 exists F.G4 u9
 .have(_,_,_,_,_,rfl,_):=h;rfl
 let(t,b,d,r,c,rfl,G,v,D,B,k):=h;refine#[_,(Z5 (Zb (fV (rE (gQ hr)) (va fF 0) (va fF 2) (by rfl')) (Zd (gZ[5]! rfl (ji[17]! j.k j.ok (hr.mono ()) (by left) j.m j.bd .nil lS (Za (va fF 0)) ∅ (by rfl) (by rfl))))) (Zd (Zb (Zh vh (Z2 aN l Qh (Za (va fF 1))) (fh (gQ hr) (va fF 2) (va fF 0) (λ_ _=>rfl))) (Zd (gZ[5]! rfl (ji[17]! g.k g.ok (hr.mono ()) (by left) g.m g.bd .nil lS (Za (va fF 0)) ∅ (by rfl) (by rfl))))))),?_]
 right
 try dsimp only[qp,qq]
 cases c with
 |none =>
  let o:=D rfl;let p:fX H d (.str t) gV:=v;ext;calc gq j.c o
 |some n =>
  let p:fX H d (.str t) (U (.int n)):=v;ext;refine b8 (λc=>?_) (λc=>?_)
  .have o:=B n rfl (λz=>by rw[z]at c;simp at c);ext;exact gq g.c o
  .have e:⇑r=n:=by
    by_cases z:⇑r=n
    .exact z
    .exact absurd (by simpa using λq=>z (by exact_mod_cast q)) c
   ext;calc k n rfl e
meta def Bp(K:cB)(C t u cW:AB):Sp:=λm H Q E=>∃(j:Hp) (b o:AB) (a:qw) (e:Kl) (r:MC (AA×Nat)) (q p:MC Int) (d:MC (AA×List AA)) (ks:MC T) (g:MC V),m=[.ref b,.ref o]/\b9 K H b g/\bS K H (QE jF d ks) g/\⇑d=⇑ks/\⇑d<=20/\(∀x∈d,⇑x.2<=20) /\
 ig C j o a e r q p H/\FO e/\(oR e).Nodup/\(∀f,gE e d=U f->TF t u cW E j f)/\(gE e d=gV->∀l,aS H l->Q .gu l)
def Hw (h:∀x∈a,x.dep<=d):T.nA a<=d:=by
 induction a with
 |nil=>calc Qc _
 |cons x r ih =>
  let j:=h x (.head _);let g:=ih λy e=>h y (.tail _ e);unfold T.nA;omega
def CF (xs:List AA):T.nA (xs.map T.s)<=149:=Hw λx d=>by
 let(y,_,rfl):=Qa.mp d;calc Oz
def CG {d:Type}{p:d->Bool}{l:List d}{x:d}(h:l[i]?=U x):(l.drop i).find? p=if p x=AD then U x else(l.drop (i+1)).find? p:=by
 let e:=(eF.mp h).1;let g:l.drop i=x::l.drop (i+1):=by rw[QV e,(eF.mp h).2]
 rw[g,Rz]
 cases p x<;>rfl
theorem AJ {d g:Type}{p:d->AF g}{l:List d}{i:Nat}{x:d}(h:l[i]?=U x):(l.drop i).findSome? p=match p x with
  |some y=>U y
  |none=>(l.drop (i+1)).findSome? p:=by
 let e:=(eF.mp h).1;let j:l.drop i=x::l.drop (i+1):=by rw[QV e,(eF.mp h).2]
 rw[j,Vw]
 cases p x<;>rfl
def sO {i:Nat}(h:(QE jF arms ks)[i]?=U t):∃x k,arms[i]?=U x/\t=.t [.s x.1,.t (x.2.map .s),k]:=by
 rw[Tu]at h
 cases e1:arms[i]? with
 |none=>rw[e1]at h;cases h
 |some x =>
  cases e2:ks[i]? with
  |none=>rw[e1,e2]at h;cases h
  |some k =>
   rw[e1,e2]at h;calc#[x,k,rfl,(Qw h).symm]
theorem Ey :∀{kl:Kl}{kvs:MC (Key×V)}{kd:AA×MC (AA×MC Kk)},Paired (Nt a H) kl kvs->u7 kl n=U kd->∃l,eM kvs (Sum.inr n)=U (.ref l)/\H l=U (.Y (kd.2.map λt=>.str t.1))
 |_,_,_,.nil,h=>nomatch h
 |k::r,_,kd,.cons ⟨l,e,hl,_⟩ t,h=>by
  subst e;unfold u7 at h;rw[Rz]at h
  by_cases c:k.1=n
  .rw[decide_eq_true c]at h
   cases h
   exact#[l,fc (show(Sum.inr k.1:Key)=Sum.inr n by rw[c]),hl]
  .rw[decide_eq_false c]at h;let(l2,g,d):=Ey t h;calc#[l2,by rw[fg (λz=>c (SX z))];calc g,d]
def MI (h:iX kl t=U y):∃kd,u7 kl y.2.1=U kd/\kd∈kl/\y.1=t:=by
 let d:=Rk h;let l:y.1=t:=by simpa using List.find?_some h
 unfold tl at d;let(k,j,g):=RB.mp d;let(z,_,rfl):=Qa.mp g
 cases e:u7 kl k.1 with
 |none =>
  let:=VT.mp e k j;simp at this
 |some kd=>calc#[kd,rfl,Rk e,l]
def bY :Nm ZM (af iR):=∅
def gc :Lm ZM (af iR):=∅
def fk :aY ZM ["arms","known"] (af iR):=by ac_rfl
def Hz (F:i9 K "look_arms" "look_arms" iR f fd)(N:LM K C)(LO:Y1 "look_once" 3 Γv (rg K cT) gO ofd)(S:Y1 "look_count" 3 ZT (xO K cN cW) gC cfd)(e:Y2 "NoName" "name" cN fN dN)(g:Y2 "WrongCount" "name" cW fW dW)(r:mg "sorted"=gV):Yf (zc P w) 4 f fd ["arms","known"] (Bp K C cT cN cW):=by
 exists F.G4 fk
 .have(_,_,_,_,_,_,_,_,_,_,_,rfl,_):=h;rfl
 let(H0,b,o,a,l,ds,gs,os,d,ks,L,rfl,sq,rs,hl,la,ln,J,hB,bn,hE,k):=h;refine#[_,(Z5 (Zb (Dn[4]! (yz (va bY 0) (λ_=>rfl))) (Zd (gZ[5]! rfl (ji e.k e.ok (hr.mono ()) (by left) e.m e.bd .nil lS (Za aC))))) (Z5 (Zl (jh rfl rfl rfl) (dj (va bY 0)) (@jd _ _ _ _ _ (3) K rfl rfl (Zf (ga fk.nd gc 2) (Zf (ga fk.nd gc 3) (Zt (ga fk.nd gc 4)))) (by rfl) (by rfl)) (Zd (Zb (fV[8]! (rE (gQ hr)) (va bY 2) (kB (va bY 1) rfl) (by rfl')) (Zd (gZ[5]! rfl (ji[17]! e.k e.ok (hr.mono ()) (by left) e.m e.bd .nil lS (Za (va bY 2)) ∅ (by rfl) (by rfl))))))) (Z5 (Z4 fk.nd gc 5 (Zs (kB (va bY 1) rfl) (fQ[7]! aJ (Z7 aJ (va bY 0)) au (λ_ _=>rfl)))) (Z5 (Zb (Zh (Kv hr.Kw) (Z2 ux r Wm (Z1 (Zg (af iR) ZM ZI [] (dj (va bY 0)) (λ_ _ _ _=>(@jd _ _ _ _ _ (3) K rfl rfl (Zf (X1 ZI 0) (Zf (X1 ZI 1) (Zt (X1 ZI 2)))) (by rfl) (by rfl))) (λ_ _ _ _=>(Xt ZI 0))) ak)) (Z2 ux r Wm (Z1 (Zs (kB (va bY 1) rfl) (va bY 5)) ak))) (Zd (gZ[5]! rfl (ji g.k g.ok (hr.mono ()) (by left) g.m g.bd .nil lS (Za aC))))) (Zd (Zl (jh rfl rfl rfl) (dj (va bY 0)) (@jd _ _ _ _ _ (3) K rfl rfl (Zf (ga fk.nd gc 2) (Zf (ga fk.nd gc 3) (Zt (ga fk.nd gc 4)))) (by rfl) (by rfl)) (Z5 (Zm (eV[16]! S.ok (hr.mono ()) (by left) S.at' S.kp S.bd .nil jK (Z1 (va bY 2) (Z1 (va bY 3) (Z1 (kB (va bY 1) rfl) ak))) ∅ (by rfl) (by rfl))) (Zd (Zm (eV[16]! LO.ok (hr.mono ()) (by left) LO.at' LO.kp LO.bd .nil jK (Za (va bY 3)) ∅ (by rfl) (by rfl))))))))))),?_]
 right
 try dsimp only[qp,qq]
 let hc:=N.c;let n1:=N.kinds;let n2:=N.ktag;let n3:=N.mtag;let g1:=uv a;let g2:=Et a;let g3:=vS a;let ay:=J.ins;let u:=⇑rs;rw[Rq,<-hl,S3]at u
 cases ea:d with
 |nil =>
  subst ea;let tt:=(hE (.nn,"match") rfl).Z J.sm;obtain rfl:L=[]:=Uz.mp u;ext;calc gq e.c tt
 |cons a0 ar =>
  let em:(!L.isEmpty)=AD:=by
   cases L with
   |nil=>rw[ea]at u;cases u
   |cons _ _=>rfl
  let e0:gE l d=match d.find? (λb=>decide ((iX l b.1).isSome=AE))with
    |some b=>U (.nn,b.1)
    |none=>if(d.map (·.1)).isPerm ((((iX l a0.1).bind λy=>u7 l y.2.1).map λk=>k.2.map (·.1)).getD [])=AD then d.findSome? (j5 l)else U (.wr,"match"):=by subst ea;rfl
  let h0:d[0]?=U a0:=by rw[ea];rfl
  clear ea;calc kI ?_;intro N1 N2 c1 c2;ext;rw[em];ext;clear c1
  let a2:∀t,fX H a.dT (.str t) ((iX l t).map λx=>V.str x.2.1):=λt=>by
   let:=fX.k (k:=Sum.inr t) J.kt;rw[qx (λx:AA×AA×MC Kk=>x.1) (λx=>V.str x.2.1)]at this;exact this
  refine iJ (K:=K) (xs:=L) (λi v X=>(∃y2 y3 y4 y5,v=[U (.ref b),U (.ref o),y2,y3,y4,y5])/\X=H/\d.find? (λb=>decide ((iX l b.1).isSome=AE))=(d.drop i).find? (λb=>decide ((iX l b.1).isSome=AE))) #[#[_,_,_,_,rfl],rfl,rfl] ?_ ?_ ?_
  .rintro i v X hi ⟨_,rfl,_⟩;exact sq
  .rintro i xv v X hxv ⟨⟨_,_,_,_,rfl⟩,rfl,R⟩;let(t,ht,rx):=rs.get' hxv;let(x,kk,hx,rfl):=sO ht;let(qa,v1,v2,v3,rfl,a4,q1,q2,q3):=rx.t3;obtain rfl:=q1.aP;rw[CG hx]at R;let dg:=a2 x.1
   cases et:iX l x.1 with
   |none =>
    rw[et]at dg R;let bh:fX X a.dT (.str x.1) gV:=dg;let e3:d.find? (λb=>decide ((iX l b.1).isSome=AE))=U x:=R;rw[e3]at e0;let tt:=(hE _ e0).Z J.sm;ext;calc gq e.c tt
   |some y =>
    rw[et]at dg R;let bh:fX X a.dT (.str x.1) (U (.str y.2.1)):=dg;ext;exact R
  rintro v X ⟨⟨_,_,_,_,rfl⟩,rfl,R⟩;rw[u,RO]at R;rw[R]at e0;let hz:0<⇑d:=(eF.mp h0).1
  obtain⟨y,hy⟩:∃y,iX l a0.1=U y:=by
   let hm:=VT.mp R a0 (P6 h0)
   cases et:iX l a0.1 with
   |some y=>calc#[y,rfl]
   |none=>rw[et]at hm;simp at hm
  let(kd,ax,a9,_):=MI hy;let(lk,vk,aw):=Ey J.ke ax;rw[hy]at e0
  let p:gE l d=if(d.map (·.1)).isPerm (kd.2.map (·.1))=AD then d.findSome? (j5 l)else U (.wr,"match"):=by
   rw[e0];show(if(d.map (·.1)).isPerm (((u7 l y.2.1).map λk=>k.2.map (·.1)).getD [])=AD then _ else _)=_;rw[ax];rfl
  let bq:fX X a.dK (.str y.2.1) (U (.ref lk)):=by
   let:=fX.k (k:=Sum.inr y.2.1) J.kk;rw[vk]at this;exact this
  let bt:fX X a.dT (.str a0.1) (U (.str y.2.1)):=by let:=a2 a0.1;rw[hy]at this;exact this
  obtain⟨u0,aq⟩:∃u0,L[0]?=U u0:=#[L[0],by simp[u,hz]];let(t,ht,rx):=rs.get' aq;let(x,kk,hx,rfl):=sO ht;obtain rfl:a0=x:=Qw (h0.symm.trans hx);let(qa,v1,v2,v3,rfl,a4,q1,q2,q3):=rx.t3;obtain rfl:=q1.aP;let bx:fM L 0=U (.ref qa):=aG (j:=0) aq;let bw:fM [V.str a0.1,v2,v3] 0=U (.str a0.1):=aG (j:=0) rfl;ext;clear c2;refine je (K:=K) (xs:=L) (λj v Z W=>(∃y1 y2 y3,v=[y1,y2,y3])/\W=X/\Z=(d.take j).map λx=>V.str x.1) #[#[_,_,_,rfl],rfl,rfl] ?_ (small ()) ?_ ?_ ?_
  .rintro j v Z W hj ⟨_,_,rfl⟩;rw[bM,I0];omega
  .rintro j v Z W hj ⟨_,rfl,_⟩;exact sq
  .rintro j yv v Z W hyv ⟨⟨_,_,_,rfl⟩,rfl,rfl⟩;let(t,ht,ry):=rs.get' hyv;let(x,kj,ao,rfl):=sO ht;let ba:=(eF.mp ao).1;let bc:d.take (j+1)=d.take j++[x]:=by rw[we ba,(eF.mp ao).2]
   let(ga,w1,w2,w3,rfl,a1,p1,p2,p3):=ry.t3;obtain rfl:=p1.aP;ext;rw[bc,i4];rfl
  rintro v Z W ⟨_,rfl,rfl⟩ l3 hl3;rw[u,Ql];let bf:(d.map λx=>V.str x.1)=(d.map (·.1)).map V.str:=by rw[Qm];rfl
  rw[bf];let s4:=ae hl3 (.Y ((d.map (·.1)).map V.str));let h4:aV K (upd W l3 (.Y ((d.map (·.1)).map V.str))) l3 ((d.map (·.1)).map V.str):=aV.of aj;generalize upd W l3 (.Y ((d.map (·.1)).map V.str))=H4 at s4 h4|-;let lm:⇑(d.map (·.1))<64:=by rw[bM];omega
  ext G l5 ad am a8;let s5:=ae a8 (.Y (G.map V.str));let h5:aV K (upd H4 l5 (.Y (G.map V.str))) l5 (G.map V.str):=aV.of aj;generalize upd H4 l5 (.Y (G.map V.str))=H5 at s5 h5|-;let O:=s4.trans s5;let bp:=O _ _ ay
  let a3:fX H5 a.dK (.str y.2.1) (U (.ref lk)):=by
   let:=fX.k (k:=Sum.inr y.2.1) (O _ _ J.kk);rw[vk]at this;exact this
  let be:(kd.2.map λt=>V.str t.1)=(kd.2.map (·.1)).map V.str:=by rw[Qm];rfl
  rw[be]at aw;let av:aV K H5 lk ((kd.2.map (·.1)).map V.str):=aV.of (O _ _ aw);let Oj:⇑(kd.2.map (·.1))<64:=by rw[bM];let:=(hB.2 kd a9).1;omega
  ext M l6 ac al a7;let s6:=ae a7 (.Y (M.map V.str));let h6:aV K (upd H5 l6 (.Y (M.map V.str))) l6 (M.map V.str):=aV.of aj;generalize upd H5 l6 (.Y (M.map V.str))=H6 at s6 h6|-;let ab:=O.trans s6;let az:aV K H6 l5 (G.map V.str):=s6.seq h5
  let ah:G=M↔(d.map (·.1)).isPerm (kd.2.map (·.1))=AD:=by
   rw[Ue];constructor
   .intro z;subst z;exact ad.symm.trans ac
   .intro z;exact zw (ad.trans (z.trans ac.symm)) am al
  let D:G.map T.s=M.map T.s↔G=M:=#[λz=>List.map_inj_right (λ_ _ q=>T.s.inj q)|>.mp z,λz=>by rw[z]]
  calc#[l5,l6,G.map T.s,M.map T.s,_,_,rfl,rfl,az,bS.strs _,h6,bS.strs _,CF _,_,rfl,?_];refine b8 (λc=>?_) (λc=>?_)
  .have np:¬(d.map (·.1)).isPerm (kd.2.map (·.1))=AD:=λz=>by
    rw[decide_eq_true (D.mpr (ah.mpr z))]at c
    cases c
   rw[if_neg np]at p;let tt:=(hE _ p).Z (J.sm.trans ab);ext;exact gq g.c tt
  let np:(d.map (·.1)).isPerm (kd.2.map (·.1))=AD:=by
   by_cases z:G.map T.s=M.map T.s
   .exact ah.mp (D.mp z)
   .exact absurd (by rw[decide_eq_false z];rfl) c
  rw[if_pos np]at p;let bk:=sq.Z ab
  let bg:∀t H',aS W H'->fX H' a.dM (.str t) (((iX l t).map λx=>⇑x.2.2).map λ(n:Nat)=>V.int (n:Int)):=λt H' s'=>by
   let:=fX.k (k:=Sum.inr t) (s' _ _ J.km);rw[qx (λx:AA×AA×MC Kk=>x.1) (λx=>V.int ⇑x.2.2)]at this;rw[Xq];exact this
  clear ah D ac ad am al az h6 h5 av a3 h4;ext;refine iJ (K:=K) (xs:=L) (λi v gD=>(∃y2 y3 y4 y5,v=[U (.ref b),U (.ref o),y2,y3,y4,y5])/\aS W gD/\d.findSome? (j5 l)=(d.drop i).findSome? (j5 l)) #[#[_,_,_,_,rfl],ab,rfl] ?_ ?_ ?_
  .rintro i v gD hi ⟨_,I,_⟩;exact sq.Z I
  .rintro i xv v gD hxv ⟨⟨_,_,_,_,rfl⟩,I,B⟩;let(t,ht,ry):=rs.get' hxv;let(x,kj,ap,rfl):=sO ht;let(ga,w1,w2,w3,rfl,a1,p1,p2,p3):=ry.t3;obtain rfl:=p1.aP;let(na,bl,rfl,a5,a6):=p2.aT;obtain rfl:=a6.nI;rw[AJ ap]at B;let bi:=a1.Z I;let an:=a5.Z I;let bo:=I _ _ ay;let bs:=bg x.1 gD I;let aa:=J.sm.trans I;let bm:=ln x (P6 ap)
   let bv:(iX l x.1).map (λx=>⇑x.2.2)=gV->Told E gD cN "name" (.str x.1):=λz=>by
    let Y:j5 l x=U (.nn,x.1):=by
     unfold j5;rw[UO.mp z]
    rw[Y]at B;rw[B]at p;exact(hE _ p).Z aa
   let bu:∀n,(iX l x.1).map (λx=>⇑x.2.2)=U n->⇑(x.2.map V.str)≠n->Told E gD cW "name" (.str x.1):=λn z hn=>by
    let(y',ag,rfl):=IF.mp z
    let Y:j5 l x=U (.wr,x.1):=by
     unfold j5;rw[ag];dsimp only;rw[if_neg (λq=>hn (by rw[bM];calc q))]
    rw[Y]at B;rw[B]at p;exact(hE _ p).Z aa
   ext n hn as;let(y',ag,rfl):=IF.mp hn
   let Y:j5 l x=(cy [] x.2).map λz=>(.tw,z):=by
    unfold j5;rw[ag];dsimp only;rw[if_pos (by rw[bM]at as;calc as)]
   let bj:mW K AD gD na (x.2.map V.str):=an;let l5:⇑x.2<=500:=()
   let oE:∀z,cy [] x.2=U z->Told E gD cT "name" (.str z):=λz hz=>by
    rw[hz]at Y;let ai:j5 l x=U (.tw,z):=Y;rw[ai]at B;rw[B]at p;exact(hE _ p).Z aa
   ext bb H8 s8;rw[bb]at Y;let ai:j5 l x=gV:=Y;rw[ai]at B;exact#[#[_,_,_,_,rfl],I.trans s8,B]
  .rintro v gD ⟨_,I,B⟩;rw[u,RO]at B;rw[B]at p;calc k p _ I
meta def uA(h:Hd):Prop:=∀d,h=.mat d->⇑d<=20/\∀x∈d,⇑x.2<=20
meta def Bq(K:cB)(C y z cW:AB):Sp:=λu H Q E=>∃(m:Hp) (v q:V) (o:AB) (a:qw) (d:Kl) (l:MC (AA×Nat)) (j r:MC Int) (h:Hd) (ks:MC Tm) (g:List AA),u=[v,q,.ref o]/\Rp K H (enc (.mk h ks)) v/\dc h ⇑ks=AD/\uA h/\⇑ks<=900/\Rp K H (.t (g.map .s)) q/\⇑g<=900 /\
 ig C m o a d l j r H/\FO d/\(oR d).Nodup/\⇑j<=900/\(∀f,fU d l j g h ⇑ks=.error f->TF y z cW E m f)/\(∀e,fU d l j g h ⇑ks=.ok e->∀p,ig C m o a d l e r p->kO a H p->Q .gu p)
def bu :Nm Γj (af jI):=∅
def xP :Lm Γj (af jI):=∅
def qy :aY Γj Γq (af jI):=by ac_rfl
def Ez (F:i9 K "look_term" "look_term" jI f fd)(N:LM K C)(LO:Y1 "look_once" 3 Γv (rg K cT) gO ofd)(J:Y1 "look_count" 3 ZT (xO K cN cW) gC cfd)(X:Y1 "look_arms" 4 ["arms","known"] (Bp K C cT cN cW) gA afd)(W:Y1 "look_gap" 3 Γn (Em cT) gG gfd)(p:Y2 "NoName" "name" cN fN dN):Yf (zc P w) 5 f fd Γq (Bq K C cT cN cW):=by
 exists F.G4 qy
 .have(_,_,_,_,_,_,_,_,_,_,_,_,rfl,_):=h;rfl
 let(H0,v,vn,o,a,O,ds,B,os,hd,ks,ns,rfl,r,ar,am,lk,rn,ln,u,hB,aw,lg,Z,k):=h;refine#[_,(Z5 (Z4 qy.nd xP 3 (Z7 aJ (va bu 0))) (Z5 (Zb (PW.pt (iY[7]! (Zp bV (va bu 3) aC) (iu[4]! (fV[8]! pY (Z7 aJ (va bu 0)) (va bu 1) (by rfl'))))) (Zd (gZ[5]! rfl (ji[17]! p.k p.ok (hr.mono ()) (by left) p.m p.bd .nil lS (Z1 (Z7 aJ (va bu 0)) ak) ∅ (by rfl) (by rfl))))) (Z5 (Zb (Zp bV (va bu 3) aC) (Zd (Zm (eV[16]! J.ok (hr.mono ()) (by left) J.at' J.kp J.bd .nil jK (Z1 (Z7 aJ (va bu 0)) (Z1 (Z7 aJ (va bu 0)) (Z1 (kB (va bu 2) rfl) ak))) ∅ (by rfl) (by rfl))))) (Z5 (Zb (Zp bV (va bu 3) aC) (Zd (Zm (eV[16]! J.ok (hr.mono ()) (by left) J.at' J.kp J.bd .nil jK (Z1 (Z7 aJ (va bu 0)) (Z1 (Z7 aJ (va bu 0)) (Z1 (kB (va bu 2) rfl) ak))) ∅ (by rfl) (by rfl))))) (Z5 (Zb (Zp bV (va bu 3) aC) (Zd (Zm (eV[16]! X.ok (hr.mono ()) (by left) X.at' X.kp X.bd .nil jK (Z1 (Z7 aJ (va bu 0)) (Za (va bu 2))) ∅ (by rfl) (by rfl))))) (Z5 (Zb (Zp bV (va bu 3) aC) (Zd (Zm (eV[16]! LO.ok (hr.mono ()) (by left) LO.at' LO.kp LO.bd .nil jK (Z1 (Ze (Z1 (Z7 aJ (va bu 0)) (Z1 (Z7 aJ (va bu 0)) ak))) ak) ∅ (by rfl) (by rfl))))) (Zd (Zb (Zp bV (va bu 3) aC) (Zd (Zm (eV[16]! W.ok (hr.mono ()) (by left) W.at' W.kp W.bd .nil jK (Z1 (Z7 aJ (va bu 0)) (Z1 (kB (va bu 2) rfl) ak)) ∅ (by rfl) (by rfl)))))))))))),?_]
 right
 try dsimp only[qp,qq]
 let hc:=N.c;let n3:=N.mtag;let n4:=N.mdef;let n5:=N.gaps;let g3:=vS a;let g4:=zk a;let g5:=CA a;let ax:=u.ins;let(na,ap,rfl,aq,ag):=rn.aT;obtain rfl:=ag.nI;let fl:=oh ns;rw[bG]at r
 cases hd with
 |num n =>
  let(ta,D,rfl,g,e):=(show Rp K H (.t (.s "num"::[.i n])) v from r).aT;let(L,G,rfl,l,_):=e.inv;obtain rfl:=l.aP;let gD:fM (V.str "num"::G) 0=U (.str "num"):=aG (j:=0) rfl;let fin:=k B rfl H u (kO.refl _ _);ext;calc fin
 |name x =>
  let(ta,L,Y,rfl,g,l,T):=(show Rp K H (.t [.s "name",.s x]) v from r).t2;obtain rfl:=l.aP;obtain rfl:=T.aP;let iv:=uf (x:=x) (xs:=ns);ext;refine b8 (λc=>?_) (λc=>?_)
  .have hm:x∉ns:=λz=>by
    let af:(!pK (.str x) (ns.map V.str))=AD:=c;rw[iv,decide_eq_true z]at af
    cases af
   let tt:=(Z (.nn,x) (if_neg hm)).Z u.sm;ext;exact gq p.c tt
  .have hm:x∈ns:=by
    by_cases z:x∈ns
    .exact z
    .refine absurd ?_ c;show(!pK (.str x) (ns.map V.str))=AD;rw[iv,decide_eq_false z];rfl
   let fin:=k B (if_pos hm) H u (kO.refl _ _);ext;calc fin
 |gap n =>
  let(ta,L,Y,rfl,g,l,T):=(show Rp K H (.t [.s "gap",.i n]) v from r).t2;obtain rfl:=l.aP;obtain rfl:=T.kZ;let gg:=u.gg;let tw:n∈B->Told E H cT "name" (.str "?"):=λhm=>(Z (.tw,"?") (if_pos hm)).Z u.sm;ext hm;calc k (B++[n]) (if_neg hm) _ (u.setG _) ((kO.refl a H).setG _)
 |op z =>
  let(ta,D,rfl,g,e):=(show Rp K H (.t (.s "op"::.s z::ks.map enc)) v from r).aT;let(L,G,rfl,l,_):=e.inv;obtain rfl:=l.aP;let gD:fM (V.str "op"::G) 0=U (.str "op"):=aG (j:=0) rfl;let fin:=k B rfl H u (kO.refl _ _);ext;calc fin
 |row =>
  let(ta,D,rfl,g,e):=(show Rp K H (.t (.s "row"::[.t (ks.map enc)])) v from r).aT;let(L,G,rfl,l,_):=e.inv;obtain rfl:=l.aP;let gD:fM (V.str "row"::G) 0=U (.str "row"):=aG (j:=0) rfl;let fin:=k B rfl H u (kO.refl _ _);ext;calc fin
 |more =>
  let(ta,D,rfl,g,e):=(show Rp K H (.t (.s "more"::ks.map enc)) v from r).aT;let(L,G,rfl,l,_):=e.inv;obtain rfl:=l.aP;let gD:fM (V.str "more"::G) 0=U (.str "more"):=aG (j:=0) rfl;let fin:=k B rfl H u (kO.refl _ _);ext;calc fin
 |first =>
  let(ta,D,rfl,g,e):=(show Rp K H (.t (.s "first"::ks.map enc)) v from r).aT;let(L,G,rfl,l,_):=e.inv;obtain rfl:=l.aP;let gD:fM (V.str "first"::G) 0=U (.str "first"):=aG (j:=0) rfl;let fin:=k B rfl H u (kO.refl _ _);ext;calc fin
 |others =>
  let(ta,D,rfl,g,e):=(show Rp K H (.t (.s "others"::ks.map enc)) v from r).aT;let(L,G,rfl,l,_):=e.inv;obtain rfl:=l.aP;let gD:fM (V.str "others"::G) 0=U (.str "others"):=aG (j:=0) rfl;let fin:=k B rfl H u (kO.refl _ _);ext;calc fin
 |long =>
  let(ta,D,rfl,g,e):=(show Rp K H (.t (.s "long"::ks.map enc)) v from r).aT;let(L,G,rfl,l,_):=e.inv;obtain rfl:=l.aP;let gD:fM (V.str "long"::G) 0=U (.str "long"):=aG (j:=0) rfl;let fin:=k B rfl H u (kO.refl _ _);ext;calc fin
 |tag t =>
  let(ta,L,Y,w3,rfl,g,l,T,p3):=(show Rp K H (.t [.s "tag",.s t,.t (ks.map enc)]) v from r).t3;obtain rfl:=l.aP;obtain rfl:=T.aP;let(ua,M,rfl,ab,S):=p3.aT;let lu:=⇑S;rw[bM]at lu
  let dg:fX H a.dM (.str t) (((iX O t).map λ(y:AA×AA×MC Kk)=>⇑y.2.2).map λ(n:Nat)=>V.int (n:Int)):=by
   let:=fX.k (k:=Sum.inr t) u.km;rw[qx (λx:AA×AA×MC Kk=>x.1) (λ(y:AA×AA×MC Kk)=>V.int (⇑y.2.2:Nat))]at this;rw[Xq];exact this
  let al:(iX O t).map (λ(y:AA×AA×MC Kk)=>⇑y.2.2)=gV->Told E H cN "name" (.str t):=λz=>by
   calc(Z (.nn,t) ?_).Z u.sm;let z':=UO.mp z
   show(match iX O t with
    |none=>Except.error (Er.nn,t)
    |some y=>if ⇑ks=⇑y.2.2 then Except.ok B else .error (.wr,t))=_
   rw[z']
  let ai:∀n,(iX O t).map (λ(y:AA×AA×MC Kk)=>⇑y.2.2)=U n->⇑M≠n->Told E H cW "name" (.str t):=λn z R=>by
   let(y,hy,rfl):=IF.mp z;refine(Z (.wr,t) ?_).Z u.sm
   show(match iX O t with
    |none=>Except.error (Er.nn,t)
    |some y=>if ⇑ks=⇑y.2.2 then Except.ok B else .error (.wr,t))=_
   rw[hy];exact if_neg (λq=>R (by rw[lu];calc q))
  let fin:∀n,(iX O t).map (λ(y:AA×AA×MC Kk)=>⇑y.2.2)=U n->⇑M=n->Q .gu H:=λn z R=>by
   let(y,hy,rfl):=IF.mp z;refine k B ?_ H u (kO.refl _ _)
   show(match iX O t with
    |none=>Except.error (Er.nn,t)
    |some y=>if ⇑ks=⇑y.2.2 then Except.ok B else .error (.wr,t))=_
   rw[hy];exact if_pos (by rw[<-lu];calc R)
  ext n z R;let I:=fin n z R;ext;calc I
 |call t =>
  let(ta,L,Y,w3,rfl,g,l,T,p3):=(show Rp K H (.t [.s "call",.s t,.t (ks.map enc)]) v from r).t3;obtain rfl:=l.aP;obtain rfl:=T.aP;let(ua,M,rfl,ab,S):=p3.aT;let lu:=⇑S;rw[bM]at lu
  let dg:fX H a.dD (.str t) (((ds.find? (λd=>decide (d.1=t))).map λ(y:AA×Nat)=>y.2).map λ(n:Nat)=>V.int (n:Int)):=by
   let:=fX.k (k:=Sum.inr t) u.dd;rw[qx (λx:AA×Nat=>x.1) (λ(y:AA×Nat)=>V.int (y.2:Nat))]at this;rw[Xq];exact this
  let al:(ds.find? (λd=>decide (d.1=t))).map (λ(y:AA×Nat)=>y.2)=gV->Told E H cN "name" (.str t):=λz=>by
   calc(Z (.nn,t) ?_).Z u.sm;let z':=UO.mp z
   show(match ds.find? (λd=>decide (d.1=t))with
    |none=>Except.error (Er.nn,t)
    |some y=>if ⇑ks=y.2 then Except.ok B else .error (.wr,t))=_
   rw[z']
  let ai:∀n,(ds.find? (λd=>decide (d.1=t))).map (λ(y:AA×Nat)=>y.2)=U n->⇑M≠n->Told E H cW "name" (.str t):=λn z R=>by
   let(y,hy,rfl):=IF.mp z;refine(Z (.wr,t) ?_).Z u.sm
   show(match ds.find? (λd=>decide (d.1=t))with
    |none=>Except.error (Er.nn,t)
    |some y=>if ⇑ks=y.2 then Except.ok B else .error (.wr,t))=_
   rw[hy];exact if_neg (λq=>R (by rw[lu];calc q))
  let fin:∀n,(ds.find? (λd=>decide (d.1=t))).map (λ(y:AA×Nat)=>y.2)=U n->⇑M=n->Q .gu H:=λn z R=>by
   let(y,hy,rfl):=IF.mp z;refine k B ?_ H u (kO.refl _ _)
   show(match ds.find? (λd=>decide (d.1=t))with
    |none=>Except.error (Er.nn,t)
    |some y=>if ⇑ks=y.2 then Except.ok B else .error (.wr,t))=_
   rw[hy];exact if_pos (by rw[<-lu];calc R)
  ext n z R;let I:=fin n z R;ext;calc I
 |mat arms =>
  obtain⟨k0,kr,rfl⟩:∃k0 kr,ks=k0::kr:=by
   cases ks with
   |nil=>simp[dc]at ar
   |cons x y=>exact#[x,y,rfl]
  let as:⇑arms=⇑(kr.map enc):=by
   rw[bM];let:⇑(k0::kr)=⇑arms+1:=by simpa[dc]using ar
   rw[Qn]at this;omega
  let(ta,L,Y,w3,rfl,g,l,T,p3):=(show Rp K H (.t [.s "match",enc k0,.t (QE jF arms (kr.map enc))]) v from r).t3;obtain rfl:=l.aP;let(ua,M,rfl,ab,S):=p3.aT;let(la,lx):=am arms rfl
  let aE:∀f,gE O arms=U f->TF cT cN cW E H0 f:=λf hf=>Z f (by
   show(match gE O arms with
    |some f=>Except.error f
    |none=>Except.ok B)=_
   rw[hf])
  let fin:gE O arms=gV->∀H',aS H H'->Q .gu H':=λhf H' s'=>k B (by
   show(match gE O arms with
    |some f=>Except.error f
    |none=>Except.ok B)=_
   rw[hf]) H' (u.ext s') (kO.of s')
  ext hf H2 s2;let I:=fin hf H2 s2;let ao:=g.Z s2;ext;calc I
 |ife =>
  let(ta,D,rfl,g,e):=(show Rp K H (.t (.s "if"::ks.map enc)) v from r).aT;let(L,G,rfl,l,_):=e.inv;obtain rfl:=l.aP;let gD:fM (V.str "if"::G) 0=U (.str "if"):=aG (j:=0) rfl;let fin:=k B rfl H u (kO.refl _ _);ext;calc fin
 |lt z =>
  let(ta,D,rfl,g,e):=(show Rp K H (.t (.s "let"::.s z::ks.map enc)) v from r).aT;let(L,G,rfl,l,_):=e.inv;obtain rfl:=l.aP;let gD:fM (V.str "let"::G) 0=U (.str "let"):=aG (j:=0) rfl;let fin:=k B rfl H u (kO.refl _ _);ext;calc fin
 |fold x y =>
  let(ta,D,rfl,g,e):=(show Rp K H (.t [.s "fold",(ks.map enc).getD 0 .n,.s x,.s y,(ks.map enc).getD 1 .n,(ks.map enc).getD 2 .n]) v from r).aT;let(L,q1,rfl,l,t1):=e.inv;let(Y,q2,rfl,T,t2):=t1.inv;let(w3,q3,rfl,p3,t3):=t2.inv;let(w4,q4,rfl,p4,t4):=t3.inv;obtain rfl:=l.aP;obtain rfl:=p3.aP;obtain rfl:=p4.aP;let gD:fM (V.str "fold"::Y::.str x::.str y::q4) 0=U (.str "fold"):=aG (j:=0) rfl;let a2:fM (V.str "fold"::Y::.str x::.str y::q4) 2=U (.str x):=aG (j:=2) rfl;let a3:fM (V.str "fold"::Y::.str x::.str y::q4) 3=U (.str y):=aG (j:=3) rfl
  let ac:cy [] [x,y]=if y=x then U y else gV:=by
   show(if x∈([]:List AA)then _ else if y∈([x]:List AA)then U y else gV)=_;rw[if_neg Qo]
   by_cases c:y=x
   .rw[if_pos c,if_pos (by rw[c];calc List.mem_singleton_self x)]
   .rw[if_neg c,if_neg (λz=>c (vv.mp z))]
  ext;calc nw λp5 H5 s5 ae av=>?_;let h5:mW K AD H5 p5 (([x,y]:List AA).map V.str):=b9.of ae;let l5:⇑([x,y]:List AA)<=500:=by show 2<=500;omega
  let oE:∀z,cy [] [x,y]=U z->Told E H5 cT "name" (.str z):=λz hz=>by
   rw[ac]at hz
   by_cases c:y=x
   .rw[if_pos c]at hz
    cases hz
    calc(Z (.tw,y) ?_).Z (u.sm.trans s5);show(if x=y then Except.error (Er.tw,x)else _)=_;rw[if_pos c.symm,c]
   .rw[if_neg c]at hz;cases hz
  ext ad H6 s6;let ah:¬x=y:=λc=>by rw[ac,if_pos c.symm]at ad;cases ad
  let aa:=s5.trans s6;let an:=g.Z aa;let fin:=k B (if_neg ah) H6 (u.ext aa) (kO.of aa);ext;calc fin
meta def placesOf:MC (AA×MC Nat):=[("num",[]),("name",[]),("gap",[]),("op",[2,3]),("more",[1,2]),("first",[1]),("others",[1]),("long",[1]),("if",[1,2,3])]
meta def uB:MC (AA×V):=[("row",.int 1),("tag",.int 2),("call",.int 2)]
structure MJ(K:cB) (w:Qe) (mg:AA->AF eT) (dP dM:AB) (pl:MC (AA×V)):Prop where
 mP:mg "PLACES"=U (.ref dP)
 mM:mg "PLACE_OF_MANY"=U (.ref dM)
 kP:KD K w dP pl
 kM:KD K w dM uB
 at_:∀f ps,(f,ps)∈placesOf->∃a,pl.lookup f=U (.ref a)/\∀H,b9 K H a (ps.map λ(j:Nat)=>V.int (j:Int))
meta def vW(K:cB):Sp:=λj H Q _=>∃(v:V) (d:Tm),j=[v]/\Rp K H (enc d) v/\Wf d/\⇑d.ks<=900 /\
 ∀(p:AB) (e:Hp) (g:MC V),aS H e->e p=U (.Y g)->bS K e ((right d).map tV) g->Q (.ref p) e
theorem vX :∀ks:MC Tm,((P7 ⇑ks ([]:List AA)).zip ks).map tV=(ks.map enc).map λk=>.t [.t [],k]
 | []=>rfl
 |k::r=>by rw[Qn,RD,To,Qd,Qd,Qd,vX r];rfl
def su (e:bnd h ⇑ks=P7 ⇑ks []):(right (.mk h ks)).map tV=(ks.map enc).map λk=>.t [.t [],k]:=by
 unfold right;show((bnd h ⇑ks).zip ks).map tV=_;rw[e];calc vX ks
theorem zA :∀(arms:MC (AA×List AA)) (kr:MC Tm),⇑arms=⇑kr->((arms.map (·.2)).zip kr).map tV=QE (λ(a:AA×List AA) k=>T.t [.t (a.2.map .s),k]) arms (kr.map enc)
 | [],kr,h=>rfl
 |x::r,[],h=>rfl
 |x::r,y::q,h=>by rw[Qd,To,Qd,Qd,W0,zA r q (by simpa using h)];rfl
def ML (v:d)(q:List d):fM (v::q) 0=U v:=aG (j:=0) rfl
theorem l1 {d:Type}:∀{xs:List d},⇑xs=1->∃a,xs=[a]
 | [a],_=>#[a,rfl]
theorem l2 {d:Type}:∀{xs:List d},⇑xs=2->∃a b,xs=[a,b]
 | [a,b],_=>#[a,b,rfl]
theorem l3 {d:Type}:∀{xs:List d},⇑xs=3->∃a b c,xs=[a,b,c]
 | [a,b,c],_=>#[a,b,c,rfl]
def LN (h:a≠b):decide (V.str a=V.str b)=AE:=decide_eq_false λz=>h (V.str.inj z)
def EA :∀p∈placesOf,p.1≠"match"/\p.1≠"let"/\p.1≠"fold"/\(Sa p.1 uB).isSome=AE:=∅
def CH (d:(e,ps)∈placesOf):⇑ps<=1000:=(show ∀p∈placesOf,⇑p.2<=1000 by decide) _ d
def HD :∀p∈([("row",1),("tag",2),("call",2)]:MC (AA×Nat)),p.1≠"match"/\p.1≠"let"/\p.1≠"fold"/\uB.lookup p.1=U (.int (p.2:Int)):=∅
meta def KY(hd:Hd)(ks:MC Tm):Prop:=∃(d:AA) (r:MC T) (e:MC Nat),(d,e)∈placesOf/\mY hd (ks.map enc)=.t (.s d::r)/\e.map (λ(j:Nat)=>(T.s d::r)[j]?)=(ks.map enc).map U/\bnd hd ⇑ks=P7 ⇑ks []
meta def MM(hd:Hd)(ks:MC Tm):Prop:=∃(d:AA) (r:MC T) (j:Nat),(d,j)∈([("row",1),("tag",2),("call",2)]:MC (AA×Nat))/\mY hd (ks.map enc)=.t (.s d::r)/\(T.s d::r)[j]?=U (.t (ks.map enc))/\bnd hd ⇑ks=P7 ⇑ks []
def HF (d : dc hd ⇑ks = AD): KY hd ks ∨ MM hd ks ∨ (∃ arms, hd = .mat arms) ∨ (∃ x, hd = .lt x) ∨ ∃ x y, hd = .fold x y := by
  cases hd
  case num n => obtain rfl : ks = [] := by simpa [dc] using d
                exact .inl #["num", [.i n], [], by decide, rfl, rfl, rfl]
  case name x => obtain rfl : ks = [] := by simpa [dc] using d
                 exact .inl #["name", [.s x], [], by decide, rfl, rfl, rfl]
  case gap n => obtain rfl : ks = [] := by simpa [dc] using d
                exact .inl #["gap", [.i n], [], by decide, rfl, rfl, rfl]
  case op s => let(a, b, rfl) := l2 (show ⇑ks = 2 by simpa [dc] using d)
               exact .inl #["op", [.s s, enc a, enc b], [2, 3], by decide, rfl, rfl, rfl]
  case more => let(a, b, rfl) := l2 (show ⇑ks = 2 by simpa [dc] using d)
               exact .inl #["more", [enc a, enc b], [1, 2], by decide, rfl, rfl, rfl]
  case first => let(a, rfl) := l1 (show ⇑ks = 1 by simpa [dc] using d)
                exact .inl #["first", [enc a], [1], by decide, rfl, rfl, rfl]
  case others => let(a, rfl) := l1 (show ⇑ks = 1 by simpa [dc] using d)
                 exact .inl #["others", [enc a], [1], by decide, rfl, rfl, rfl]
  case long => let(a, rfl) := l1 (show ⇑ks = 1 by simpa [dc] using d)
               exact .inl #["long", [enc a], [1], by decide, rfl, rfl, rfl]
  case ife => let(a, b, c, rfl) := l3 (show ⇑ks = 3 by simpa [dc] using d)
              exact .inl #["if", [enc a, enc b, enc c], [1, 2, 3], by decide, rfl, rfl, rfl]
  case row => exact .inr (.inl #["row", [.t (ks.map enc)], 1, by decide, rfl, rfl, rfl])
  case tag t => exact .inr (.inl #["tag", [.s t, .t (ks.map enc)], 2, by decide, rfl, rfl, rfl])
  case call t => exact .inr (.inl #["call", [.s t, .t (ks.map enc)], 2, by decide, rfl, rfl, rfl])
  case mat arms => exact .inr (.inr (.inl #[_, rfl]))
  case lt x => exact .inr (.inr (.inr (.inl #[_, rfl])))
  case fold x y => calc .inr (.inr (.inr (.inr #[_, _, rfl])))
def vY :aY ["term","form"] ["term"] (af jz):=by ac_rfl
def zB (F:i9 K "right_in" "right_in" jz f fd)(TB:MJ K w mg dP dM pl):Yf gy 1 f fd ["term"] (vW K):=by
 exists F.ok vY
 .have(v,tm,rfl,_):=h;rfl
 let(v,tm,rfl,I,wf,ag,k):=h
 refine#[_,(eN (lZ (i:=1) vY.nd rfl (Or.inl rfl) (Z7 aJ (pv 0)))
  (eN (lN (Zp bV (pv 1) aC) (d7 (eX (bX jQ (aZ (bR (eO (bR (eO ak) (bR (Z7 aJ (pv 0)) ak))) ak)) (kH (af jz) ["term","form"] ZI [] rfl rfl rfl ∅ (dj (Z7 aJ (pv 0))) (λ_ _ _ _=>(jd (n:=3) K rfl rfl (pQ (lY (i:=0) (show(ZI:List AA).Nodup by decide) rfl (Or.inl rfl)) (pQ (lY (i:=1) (show(ZI:List AA).Nodup by decide) rfl (Or.inl rfl)) (Zt (lY (i:=2) (show(ZI:List AA).Nodup by decide) rfl (Or.inl rfl))))))) (λ_ _ _ _=>fj) (λ_ _ _ _=>(eO (bR (pv 1) (bR (pv 2) ak)))))))) kX)
  (eN (lN (Zp bV (pv 1) aC) (d7 (eX (aZ (bR (eO (bR (eO ak) (bR (Z7 aJ (pv 0)) ak))) (bR (eO (bR (eO (bR (Z7 aJ (pv 0)) ak)) (bR (Z7 aJ (pv 0)) ak))) ak))))) kX)
  (eN (lN (Zp bV (pv 1) aC) (d7 (eX (aZ (bR (eO (bR (eO ak) (bR (Z7 aJ (pv 0)) ak))) (bR (eO (bR (eO ak) (bR (Z7 aJ (pv 0)) ak))) (bR (eO (bR (eO (bR (Z7 aJ (pv 0)) (bR (Z7 aJ (pv 0)) ak))) (bR (Z7 aJ (pv 0)) ak))) ak)))))) kX)
  (eN (lN (fV GC (pv 1) (iI (v:=.ref dM) (by rfl) TB.mM rfl) (by rfl')) (d7 (eX (kH (af jz) ["term","form"] ["inner"] [] rfl rfl rfl ∅ (dj (fQ aJ (pv 0) (Bf (iI (v:=.ref dM) (by rfl) TB.mM rfl) (pv 1) (λ_ _=>rfl)) (λ_ _=>rfl))) (λ_ _ _ _=>(lY (i:=0) (show(["inner"]:List AA).Nodup by decide) rfl (Or.inl rfl))) (λ_ _ _ _=>fj) (λ_ _ _ _=>(eO (bR (eO ak) (bR (pv 0) ak))))))) kX)
  (d7 (eX (kH (af jz) ["term","form"] ["place"] [0] rfl rfl rfl ∅ (dj (Bf (iI (v:=.ref dP) (by rfl) TB.mP rfl) (pv 1) (λ_ _=>rfl))) (λ_ _ _ _=>(lY (i:=0) (show(["place","term"]:List AA).Nodup by decide) rfl (Or.inl rfl))) (λ_ _ _ _=>fj) (λ_ _ _ _=>(eO (bR (eO ak) (bR (fQ (wW K rfl) (pv 1) (pv 0) (λ_ _=>rfl)) ak)))))))))))),?_]
 right
 let kM:=TB.kM;let kP:=TB.kP;calc yY ?_;intro N1 N2 N3 N4 N5 c1 c2 c3 c4 c5
 cases wf with
 |mk ar wk =>
 rename_i hd ks
 rw[bG]at I;let M:⇑ks<=900:=ag;let nE:⇑(ks.map enc)=⇑ks:=bM _;rcases HF ar with⟨fm,r,ps,hm,he,hp,hb⟩|⟨fm,r,j,hm,he,hj,hb⟩|⟨arms,rfl⟩|⟨x,rfl⟩|⟨x,y,rfl⟩
 .rw[he]at I;let(a,vs,rfl,D,d):=I.aT;let(v0,q0,rfl,S,B):=d.inv;obtain rfl:=S.aP;let(pa,lk,ad):=TB.at_ fm ps hm;let ao:=ad H;ext
  .exact ML _ _
  ext;let(n1,n2,n3,n4):=EA (fm,ps) hm;calc Jk (LN n1) ?_;ext;calc Jk (LN n2) ?_;ext;calc Jk (LN n3) ?_;ext;calc Jk n4 ?_;ext;calc yU (ks:=ks.map enc) D d (ad H) (CH hm) hp λp H' ws z h1 r1=>k p H' ws z h1 ?_;rw[su hb];exact r1
 .rw[he]at I;let(a,vs,rfl,D,d):=I.aT;let(u,hu,ru):=d.get hj;let(b,us,rfl,R,Y):=ru.aT;let(v0,q0,rfl,S,B):=d.inv;obtain rfl:=S.aP;let(n1,n2,n3,n4):=HD (fm,j) hm;let ap:Sa fm uB=U (.int (j:Int)):=n4;let aq:=aG hu;ext
  .exact ML _ _
  ext;calc Jk (LN n1) ?_;ext;calc Jk (LN n2) ?_;ext;calc Jk (LN n3) ?_;ext;calc Ow (by rw[n4];rfl) ?_;ext;calc Cb (ks:=ks.map enc) R Y () λp H' ws z h1 r1=>k p H' ws z h1 ?_;rw[su hb];exact r1
 .skip
  let O:⇑ks=⇑arms+1:=by simpa[dc]using ar
  match ks,O with
  |k0::kr,O =>
  let ah:⇑arms=⇑kr:=by simpa using O.symm
  unfold mY at I;let(a,vs,rfl,D,d):=I.aT;let(v0,q0,rfl,S,B):=d.inv;obtain rfl:=S.aP;let(v1,q1,rfl,e1,L):=B.inv;let(v2,q2,rfl,e2,J):=L.inv;obtain rfl:=J.gz;let(b,us,rfl,R,Y):=e2.aT;ext p1 q;let z:=ae q (.J []);calc#[_,rfl,a,_,1,_,rfl,rfl,D.Z z,rfl,(by show 2<=my;decide),λV o=>?_];let W:=z.trans (ae o (.J [.ref p1,v1]));calc#[(by show 1<=my;decide),λX m=>?_];let G:=W.trans (ae m (.Y [.ref V]));calc#[_,rfl,a,_,2,_,rfl,rfl,D.Z G,rfl,b,rfl,#[_,R.Z G],?_];calc Cc (arms:=arms) (ks:=kr.map enc) (by rw[bM];calc ah) (R.Z G) (by calc Y.Z G) (by rw[bM];let:=M;simp at this;omega) λp H' ws N h4 r4=>?_;let z3:H' X=U (.Y [.ref V]):=N _ _ aj;refine#[X,p,_,_,rfl,rfl,z3,h4,?_,λp5 g=>?_]
  .have l:=⇑r4;rw[Rq,bM]at l;rw[l];exact small (by let:=M;simp at this;show 1+_<=1000;omega)
  let gD:=N.trans (ae g (.Y ([.ref V]++ws)));refine k p5 _ _ (G.trans gD) aj ?_
  let e:(right (.mk (.mat arms) (k0::kr))).map tV=T.t [.t [],enc k0]::QE (λ(a:AA×List AA) k=>T.t [.t (a.2.map .s),k]) arms (kr.map enc):=by
   unfold right;show((([]:List AA)::arms.map (·.2)).zip (k0::kr)).map tV=_;rw[To,Qd];rw[zA arms kr ah];rfl
  rw[e];calc .cons ?_ (r4.Z (ae g _));refine Rp.Z ((ae m _).trans gD) (Rp.new o (.cons (Rp.new q .nil) (.one (e1.Z z))))
 .skip
  let O:⇑ks=2:=by simpa[dc]using ar
  match ks,O with
  | [k0,k1],O =>
  unfold mY at I;let(a,vs,rfl,D,d):=I.aT;let(v0,q0,rfl,S,B):=d.inv;obtain rfl:=S.aP;let(v1,q1,rfl,e1,L):=B.inv;let(v2,q2,rfl,e2,J):=bS.inv L;let(v3,q3,rfl,e3,Z):=bS.inv J;obtain rfl:=Z.gz;ext p1 q;let z:=ae q (.J []);calc#[_,rfl,a,_,2,_,rfl,rfl,D.Z z,rfl,(by show 2<=my;decide),λV o=>?_];let W:=z.trans (ae o (.J [.ref p1,v2]));calc#[_,rfl,a,_,1,_,rfl,rfl,D.Z W,rfl,(by show 1<=my;decide),λX m=>?_];let G:=W.trans (ae m (.J [v1]));calc#[_,rfl,a,_,3,_,rfl,rfl,D.Z G,rfl,(by show 2<=my;decide),λp4 C=>?_];let N:=G.trans (ae C (.J [.ref X,v3]));calc#[(by show 2<=my;decide),λp5 g=>?_];let gD:=N.trans (ae g (.Y [.ref V,.ref p4]));calc k p5 _ _ gD aj ?_;calc .cons (Rp.Z ((ae m _).trans ((ae C _).trans (ae g _))) (Rp.new o (.cons (Rp.new q .nil) (.one (e2.Z z))))) (.one ?_);exact Rp.Z (ae g _) (Rp.new C (.cons (Rp.new m (.one (e1.Z W))) (.one (e3.Z G))))
 .skip
  let O:⇑ks=3:=by simpa[dc]using ar
  match ks,O with
  | [k0,k1,k2],O =>
  unfold mY at I;let(a,vs,rfl,D,d):=I.aT;let(v0,q0,rfl,S,B):=d.inv;obtain rfl:=S.aP;let(v1,q1,rfl,e1,L):=B.inv;let(v2,q2,rfl,e2,J):=L.inv;let(v3,q3,rfl,e3,Z):=J.inv;let(v4,q4,rfl,e4,an):=Z.inv;let(v5,q5,rfl,e5,am):=an.inv;obtain rfl:=am.gz;ext p1 q;let z:=ae q (.J []);calc#[_,rfl,a,_,1,_,rfl,rfl,D.Z z,rfl,(by show 2<=my;decide),λV o=>?_];let W:=z.trans (ae o (.J [.ref p1,v1]));calc#[Qc _,λX m=>?_];let G:=W.trans (ae m (.J []));calc#[_,rfl,a,_,4,_,rfl,rfl,D.Z G,rfl,(by show 2<=my;decide),λp4 C=>?_];let N:=G.trans (ae C (.J [.ref X,v4]));calc#[_,rfl,a,_,2,_,rfl,rfl,D.Z N,rfl,_,rfl,a,_,3,_,rfl,rfl,D.Z N,rfl,(by show 2<=my;decide),λp5 g=>?_];let gD:=N.trans (ae g (.J [v2,v3]));calc#[_,rfl,a,_,5,_,rfl,rfl,D.Z gD,rfl,(by show 2<=my;decide),λp6 ab=>?_];let s6:=gD.trans (ae ab (.J [.ref p5,v5]));calc#[(by show 3<=my;decide),λp7 aa=>?_];let s7:=s6.trans (ae aa (.Y [.ref V,.ref p4,.ref p6]));calc k p7 _ _ s7 aj ?_;let ai:=(ae ab (.J [.ref p5,v5])).trans (ae aa (.Y [.ref V,.ref p4,.ref p6]));let ac:=(ae g (.J [v2,v3])).trans ai;let al:=(ae m (.J [])).trans ((ae C (.J [.ref X,v4])).trans ac);calc .cons (Rp.Z al (Rp.new o (.cons (Rp.new q .nil) (.one (e1.Z z))))) (.cons (Rp.Z ac (Rp.new C (.cons (Rp.new m .nil) (.one (e4.Z G))))) (.one ?_));calc Rp.Z (ae aa _) (Rp.new ab (.cons (Rp.new g (.cons (e2.Z N) (.one (e3.Z N)))) (.one (e5.Z gD))))
end G16
namespace L2
open PySem
def MN (o:PI X tg l j)(m:PI X tg l g):PI X tg l (λe H R=>j e H R\/g e H R):=λd s e H R I h=>h.elim (o d s e H R I) (m d s e H R I)
end L2
namespace G16
open PySem L2
meta def qz(ns:List AA)(o:AA):List AA:=ns.filter (λn=>decide (n≠o))++[o]
meta def gr(ns os:List AA):List AA:=os.foldl qz ns
def CI (ns os:List AA)(o:AA):gr ns (os++[o])=qz (gr ns os) o:=by unfold gr;rw[List.foldl_append];rfl
def EB (ns:List AA)(o:AA):⇑(qz ns o)<=⇑ns+1:=by
 unfold qz;rw[mu];calc Nat.add_le_add_right (U4 _ _) 1
theorem nU :∀(os ns:List AA),⇑(gr ns os)<=⇑ns+⇑os
 | [],ns=>u4 _
 |o::r,ns=>by
  let h:=nU r (qz ns o);let d:=EB ns o;show(gr (qz ns o) r).length<=_;rw[Qn];omega
meta def EC(K:cB):Sp:=λl H Q _=>∃(j:V) (b:AB) (e d:List AA),l=[j,.ref b]/\Rp K H (.t (e.map .s)) j/\(H b=U (.Y (d.map V.str))\/b9 K H b (d.map V.str))/\⇑e+⇑d<=900 /\
 ∀(v:V) (g:Hp),aS H g->Rp K g (.t ((gr e d).map .s)) v->Q v g
def nV :Nm Γg (af n9):=∅
def zC :Lm Γg (af n9):=∅
def uC :aY Γg ["names","others"] (af n9):=by ac_rfl
def ED (F:i9 K "bound" "bound" n9 f fd)(r:mg "tuple"=gV):Yf gy 1 f fd ["names","others"] (EC K):=by
 exists F.ok uC
 .have(_,_,_,_,rfl,_):=h;rfl
 let(W,b,u,g,rfl,Z,hb,hl,k):=h;refine#[_,(Z5 (Zl QU (MN (jU (va nV 1)) (dj (va nV 1))) (ga uC.nd zC 2) (Zd (Z4 uC.nd zC 0 (Zj di (Z6 bh r Qg (Z1 (kH[11]! (af n9) Γg ["name"] [2] rfl rfl rfl ∅ (dj (va nV 0)) (λ_ _ _ _=>(X1 Γt 0)) (λ_ _ _ _=>(DM[3]! (Zp vh (Xt Γt 0) (Xt Γt 1)))) (λ_ _ _ _=>(Xt Γt 0)) (by intro _;rfl)) ak)) (Ze (Za (va nV 2))))))) (Zd (eX (va nV 0)))),?_]
 right
 right
 calc jY ?_;intro N0 c0;ext
 let fin:∀e d,(∃(v:V) (m:AF V),e=[U v,U (.ref b),m]/\aS H d/\Rp K d (.t ((gr u (g.take ⇑g)).map .s)) v)->N0 e d:=by
  rintro e d ⟨v,m,rfl,B,G⟩;rw[Ql]at G;ext;exact k v d B G
 let Y:⇑(g.map V.str)=⇑g:=bM _
 let step:∀(i:Nat) (x:V) (e:St) (d:Hp),(g.map V.str)[i]?=U x->(∃(v:V) (m:AF V),e=[U v,U (.ref b),m]/\aS H d/\Rp K d (.t ((gr u (g.take i)).map .s)) v) ->
   iZ 2 x e d λM H2=>(wI (BY (vP K) (NK (λxs H Q=>∃p N,xs=[V.ref p]/\((aV K H p N/\∀(l:AB),H l=gV->Q (V.ref l) (upd H l (HO.J N)))\/b9 K H p N/\Q (V.ref p) H)) (kF (vJ [Qv "name"].length [2] (JR K (jD 0)) (iZ 0) (Ds (BY Ot (jD 0) (jD 1))) (jD 0)) tL)) (uS (kF (jD 2) tL))) (iZ 0))
    {nx:=λe d=>∃(v:V) (m:AF V),e=[U v,U (.ref b),m]/\aS H d/\Rp K d (.t ((gr u (g.take (i+1))).map .s)) v,rt:=Q,bk:=N0,ct:=λe d=>∃(v:V) (m:AF V),e=[U v,U (.ref b),m]/\aS H d/\Rp K d (.t ((gr u (g.take (i+1))).map .s)) v} M H2:=by
  rintro i x e d hi ⟨v,m,rfl,B,G⟩;rw[EF]at hi;let(o,ho,rfl):=IF.mp hi;let S:i<⇑g:=(eF.mp ho).1;let eo:g[i]=o:=(eF.mp ho).2;let eb:gr u (g.take (i+1))=qz (gr u (g.take i)) o:=by rw[we S,eo,CI]
  let J:=nU (g.take i) u;rw[I0]at J;rw[eb];generalize gr u (g.take i)=L at G J|-;let(a1,C,rfl,sq,O):=G.aT;obtain rfl:=O.tT;ext;refine je (xs:=L.map V.str) (λj e C Hd=>(∃y,e=[y,U (.str o)])/\Hd=d/\C=((L.take j).filter (λn=>decide (n≠o))).map V.str) #[#[_,rfl],rfl,rfl] ?_ (by rw[bM];calc QB (bg ())) ?_ ?_ ?_
  .rintro j e C Hd hj ⟨_,_,rfl⟩;rw[bM];exact Qq (U4 _ _) (by rw[I0];omega)
  .rintro j e C Hd hj ⟨_,rfl,_⟩;exact sq
  .rintro j x e C Hd hj ⟨⟨x0,rfl⟩,rfl,rfl⟩;rw[EF]at hj;let(n,hn,rfl):=IF.mp hj;let R:j<⇑L:=(eF.mp hn).1;let en:L[j]=n:=(eF.mp hn).2
   let et:(L.take (j+1)).filter (λn=>decide (n≠o))=(L.take j).filter (λn=>decide (n≠o))++(if n=o then []else [n]):=by
    rw[we R,List.filter_append,en]
    by_cases c:n=o<;>simp[c]
   ext;refine b8 (λc=>?_) (λc=>?_)
   .have gD:¬n=o:=λz=>by subst z;simp at c
    ext;rw[et,if_neg gD,i4];rfl
   .have gD:n=o:=by simpa using c
    ext;rw[et,if_pos gD,QM]
  .rintro e C Hd ⟨_,rfl,rfl⟩ p hp;rw[bM,Ql]at *;let sp:=ae hp (.Y ((L.filter (λn=>decide (n≠o))).map V.str));ext;calc .inl #[aV.of aj,λl hl=>?_];let X:=sp.trans (ae hl (.J ((L.filter (λn=>decide (n≠o))).map V.str)));let I:=aj (H:=upd Hd p (.Y ((L.filter (λn=>decide (n≠o))).map V.str))) (a:=l) (o:=.J ((L.filter (λn=>decide (n≠o))).map V.str));generalize upd (upd Hd p (.Y ((L.filter (λn=>decide (n≠o))).map V.str))) l (.J ((L.filter (λn=>decide (n≠o))).map V.str))=H3 at X I|-;ext q hq;let D:=ae hq (.J [.str o]);let aa:=D _ _ I;let fl:⇑(L.filter (λn=>decide (n≠o)))<=⇑L:=U4 _ _
   let hz:⇑((L.filter (λn=>decide (n≠o))).map V.str)+[V.str o].length<=my:=by
    rw[bM];exact QB (bg (by show(L.filter (λn=>decide (n≠o))).length+1<=1000;omega))
   ext p4 H4 s4 q4;calc#[_,_,rfl,B.trans (X.trans (D.trans s4)),?_];let e4:(qz L o).map T.s=((L.filter (λn=>decide (n≠o))).map T.s)++[T.s o]:=by unfold qz;rw[i4];rfl
   rw[e4];exact Rp.t q4 (by let:=bS.strs (K:=K) (H:=H4) (qz L o);unfold qz at this;rw[i4,i4]at this;calc this)
 rcases hb with hb|hb
 .refine .inl ?_;ext;calc tJ (xs:=g.map V.str) (λi e d=>∃(v:V) (m:AF V),e=[U v,U (.ref b),m]/\aS H d/\Rp K d (.t ((gr u (g.take i)).map .s)) v) #[W,gV,rfl,aS.refl _,Z] (λi e d _ h=>?_) step (by rw[Y];calc fin);let(_,_,_,B,_):=h;exact aV.of (B _ _ hb)
 .refine .inr ?_;ext;calc iJ (xs:=g.map V.str) (λi e d=>∃(v:V) (m:AF V),e=[U v,U (.ref b),m]/\aS H d/\Rp K d (.t ((gr u (g.take i)).map .s)) v) #[W,gV,rfl,aS.refl _,Z] (λi e d _ h=>?_) step (by rw[Y];calc fin);let(_,_,_,B,_):=h;calc hb.Z B
mutual
noncomputable def vZ(ns:List AA):Tm->MC (List AA×Tm)
 |.mk h ks=>(ns,.mk h ks)::qA ns (bnd h ⇑ks) ks
noncomputable def qA(ns:List AA):MC (List AA)->MC Tm->MC (List AA×Tm)
 |b::bs,k::ks=>vZ (gr ns b) k++qA ns bs ks
 |_,_=>[]
end
inductive Wn:Tm->Prop
 |mk {h:Hd}{ks:MC Tm}:dc h ⇑ks=AD->(∀b∈bnd h ⇑ks,⇑b<=5)->(∀k∈ks,Wn k)->Wn (.mk h ks)
def Wn.wf :Wn d->Wf d:=by
 refine Tm.induct (P:=λt=>Wn t->Wf t) (λh ks g w=>?_) d
 cases w with
 |mk a b c=>calc .mk a λk e=>g k e (c k e)
meta abbrev Pl:=List AA×Tm
meta def KZ(p:Pl):T:=.t [.t (p.1.map .s),enc p.2]
meta def Jv(st:MC Pl):MC Pl:=st.flatMap λp=>vZ p.1 p.2
meta def sy:MC Pl->Nat
 | []=>0
 |p::r=>p.2.size+sy r
theorem jB :∀a b:MC Pl,sy (a++b)=sy a+sy b
 | [],b=>by simp[sy]
 |x::r,b=>by rw[S9,sy,sy,jB r b];omega
theorem xQ :∀a:MC Pl,sy a.reverse=sy a
 | []=>rfl
 |x::r=>by rw[S1,jB,xQ r];simp only[sy];omega
theorem Br :∀st:MC Pl,⇑st<=sy st
 | []=>u4 _
 |(ns,.mk h ks)::r=>by
  let:=Br r;rw[Qn,sy,Tm.eG];omega
def wc (d:Tm)(wf:Wf d):(right d).map (·.2)=d.ks:=by
 cases wf with
 |mk ar wk =>
 rename_i h ks
 show(((bnd h ⇑ks).zip ks).map Prod.snd)=ks;refine List.map_snd_zip ?_
 cases h<;>simp_all[bnd,dc]
def rF (d:Tm)(wf:Wf d):⇑(right d)=⇑d.ks:=by
 let z:=congrArg Us (wc d wf)
 rwa [bM]at z
def Wf.kids (wf:Wf d):∀k∈d.ks,Wf k:=by
 cases wf with
 |mk ar wk=>calc wk
theorem rG :∀l:MC Tm,⇑l<=Tm.sizes l
 | []=>u4 _
 |k::r=>by rw[Tm.bT,Qn];let:=Tm.size_pos k;let:=rG r;omega
def wg (d:Tm):⇑d.ks<d.size:=by
 cases d with
 |mk h ks =>
  rw[Tm.eG];show ⇑ks<_
  let:⇑ks<=Tm.sizes ks:=by
   induction ks with
   |nil=>calc u4 _
   |cons k r ih=>rw[Tm.bT,Qn];let:=Tm.size_pos k;omega
  omega
meta def sC(ns:List AA)(d:Tm):MC Pl:=(right d).map λq=>(gr ns q.1,q.2)
theorem Bs (ns:List AA):∀(bs:MC (List AA)) (ks:MC Tm),qA ns bs ks=Jv ((bs.zip ks).map λq=>(gr ns q.1,q.2))
 | [],ks=>by cases ks<;>(unfold qA;rfl)
 |b::bs,[]=>by unfold qA;rfl
 |b::bs,k::ks=>by
  unfold qA;rw[To,Qd,Bs ns bs ks];rfl
def EE (ns:List AA)(d:Tm):vZ ns d=(ns,d)::Jv (sC ns d):=by
 cases d with
 |mk h ks=>unfold vZ;rw[Bs];rfl
theorem Bt (ns:List AA):∀(l:MC (List AA×Tm)),sy (l.map λq=>(gr ns q.1,q.2))=Tm.sizes (l.map (·.2))
 | []=>rfl
 |q::r=>by rw[Qd,sy,Qd,Tm.bT,Bt ns r]
def HG (w:Wf d):sy (sC ns d)+1=d.size:=by
 unfold sC;rw[Bt,wc d w]
 cases d with
 |mk h ks=>rw[Tm.eG];rfl
theorem ki :∀{ks:MC Tm}{k:Tm},k∈ks->k.size<=Tm.sizes ks
 |x::r,k,h=>by
  rw[Tm.bT]
  cases h with
  |head=>omega
  |tail _ h=>let:=ki h;omega
def Bu (w:Wn d)(h:⇑ns+5*d.size<=900):∀p∈sC ns d,Wn p.2/\⇑p.1+5*p.2.size<=900:=by
 intro p l;let(q,j,rfl):=Qa.mp l
 cases w with
 |mk a b c =>
  rename_i hd ks
  let e:q∈(bnd hd ⇑ks).zip ks:=j;let r:=b _ (R0 e).1;let g:=(R0 e).2;let o:=nU q.1 ns;let m:=ki g;rw[Tm.eG]at h;calc#[c _ g,by show(gr ns q.1).length+5*q.2.size<=900;omega]
def CJ (w:Wn d):∀q∈right d,⇑q.1<=5:=by
 cases w with
 |mk a b c=>calc λq e=>b _ (R0 (show q∈(bnd _ _).zip _ from e)).1
meta def K0(ps:MC (AA×T)):T:=.t (ps.map λp=>.t [.s p.1,p.2])
meta def zD(K:cB):Sp:=λo H Q _=>∃(m l:V) (g:MC (AA×T)) (d:Tm),o=[m,l]/\Rp K H (K0 g) m/\Rp K H (enc d) l/\Wn d/\d.size<=160/\⇑g<=50 /\
 ∀(p:AB) (e:Hp) (j:MC V),aS H e->H p=gV->e p=U (.Y j)->bS K e ((vZ (gr [] (g.map (·.1))) d).map KZ) j->Q (.ref p) e
meta def MO(K:cB)(H:Hp)(u t:V)(lt q:AB)(ns:List AA)(o:Tm)(m:Nat)(r:St)(e:Hp):Prop :=
 ∃(g d:MC Pl) (j l:MC V) (y v:AF V),r=[U u,U t,U (.ref lt),U (.ref q),y,v]/\aS H e/\e lt=U (.Y j)/\bS K e (g.map KZ) j/\e q=U (.Y l)/\bS K e (d.map KZ) l/\(∀p∈d,Wn p.2/\⇑p.1+5*p.2.size<=900)/\g++Jv d.reverse=vZ ns o/\⇑g+sy d=o.size/\m=sy d
def gw :Nm ZC (af kJ):=∅
def om :Lm ZC (af kJ):=∅
def lV :aY ZC ["params","term"] (af kJ):=by ac_rfl
def CK (F:i9 K "places" "places" kJ f fd)(bh:Ya "bound" 1 ["names","others"] (EC K) gB bfd)(RI:Ya "right_in" 1 ["term"] (vW K) gR rfd):Yf gy 2 f fd ["params","term"] (zD K):=by
 exists F.ok lV
 .have(_,_,_,_,rfl,_):=h;rfl
 let(vp,vt,D,tm,rfl,hp,ht,wf,cg,ck,k):=h;refine#[_,(Z5 (sa lV.nd om 2 (aZ ak)) (Z5 (Z4 lV.nd om 3 (aZ[4]! (Z1 (Ze (Z1 (Z0 bh (Z1 (eO ak) (Z1 (Zg (af kJ) ZC Γu [] (dj (va gw 0)) (λ_ _ _ _=>(Zc (Zf (X1 Γu 0) (Zt (X1 Γu 1))))) (λ_ _ _ _=>(Xt Γu 0))) ak))) (Za (va gw 1)))) ak))) (Z5 (yy[6]! QU (yz (va gw 3) (λ_=>rfl)) (Z5 (Zn (Kg Tc PySem.F.slot_list_pop PySem.F.type_list_pop Km (va gw 3)) (Zc (Zf (ga lV.nd om 4) (Zt (ga lV.nd om 5))))) (Z5 (Zm (Z8 (va gw 2) (Z1 (Ze (Z1 (va gw 4) (Za (va gw 5)))) ak))) (Zd (Zm (yF[12]! Tc Wq Wr vE (va gw 3) (Z1 (B9[11]! (Zg (af kJ) ZC ["others","inner"] [4] (jU[4]! (Z0 RI (Za (va gw 5)))) (λ_ _ _ _=>(Zc (Zf (X1 Γa 0) (Zt (X1 Γa 1))))) (λ_ _ _ _=>(Ze (Z1 (Z0 bh (Z1 (Xt Γa 2) (Za (Xt Γa 0)))) (Za (Xt Γa 1)))))) bW bW (bL (kY i5 au))) ak) (by rfl) (by rfl) (by rfl) (by rfl) (by rfl))))))) (Zd (eX (va gw 2)))))),?_]
 right
 right
 let(pa,aw,rfl,bp,ax):=hp.aT;let lp:=⇑ax;rw[bM]at lp;ext lt ai;let s1:=ae ai (.Y []);ext p0 a0;let s2:=s1.trans (ae a0 (.J []));let bc:upd (upd H lt (.Y [])) p0 (.J []) lt=U (.Y []):=ae a0 _ _ _ aj;let am:upd (upd H lt (.Y [])) p0 (.J []) p0=U (.J []):=aj;generalize upd (upd H lt (.Y [])) p0 (.J [])=H2 at s2 bc am|-;let aa:=b9.Z s2 bp;let ab:=ax.Z s2;ext;refine je (xs:=aw) (λi G us Hd=>(∃x y,G=[x,y])/\Hd=H2/\us=((D.take i).map (·.1)).map V.str) #[#[_,_,rfl],rfl,rfl] ?_ (QB (bg ())) ?_ ?_ ?_
 .rintro j G us Hd hj ⟨_,_,rfl⟩;rw[bM,bM,I0];omega
 .rintro j G us Hd hj ⟨_,rfl,_⟩;exact aa
 .rintro j x G us Hd hj ⟨⟨x0,y0,rfl⟩,rfl,rfl⟩;let(y,hy,ry):=ab.get' hj;rw[EF]at hy;let(q,hq,rfl):=IF.mp hy;let bx:j<⇑D:=(eF.mp hq).1;let Z:D[j]=q:=(eF.mp hq).2;let(qa,u1,u2,rfl,av,g1,g2):=ry.t2;obtain rfl:=g1.aP;ext;rw[we bx,Z,i4,i4];rfl
 .rintro G us Hd ⟨_,rfl,rfl⟩ lc hlc;let ec:((D.take ⇑aw).map (·.1)).map V.str=(D.map (·.1)).map V.str:=by rw[lp,Ql]
  rw[ec];let s3:=ae hlc (.Y ((D.map (·.1)).map V.str));ext
  .exact(Rp.t (b9.of (s3 _ _ am)) .nil:Rp K _ (.t (([]:List AA).map .s)) _)
  calc#[.inl aj,by rw[bM,Tq];omega,λv1 H3 s4 bl=>?_];let ar:=s3.trans s4;let s5:=s2.trans ar;let bb:=ar _ _ bc;clear s3 s4 aa ab am;ext;calc nw λp1 H4 s6 ba bv=>?_;let M:=s6 _ _ bb;let as:=bl.Z s6;let s7:=s5.trans s6;ext v L;let T:=ae L (.Y [.ref p1]);let ag:lt≠v:=ay M L
  let ac:H v=gV:=by
   cases e:H v with
   |none=>rfl
   |some o=>rw[s7 _ _ e]at L;cases L
  ext;refine#[MO K H (.ref pa) vt lt v (gr [] (D.map (·.1))) tm,#[tm.size,[],[(gr [] (D.map (·.1)),tm)],[],[.ref p1],gV,gV,rfl,s7.trans T,T _ _ M,.nil,aj,.one (Rp.t (b9.of (T _ _ ba)) (.cons (as.Z T) (.one (ht.Z (s7.trans T))))),?_,?_,?_,?_],?_]
  .intro p hp;let hb:=nU (D.map (·.1)) [];rw[bM,Tq]at hb
   cases hp with
   |head=>calc#[wf,by show(gr [] (D.map (·.1))).length+5*tm.size<=900;omega]
   |tail _ h=>cases h
  .simp[Jv]
  .simp[sy]
  .simp[sy]
  clear T L as ba M bv s7 s6 H4;rintro m G H' ⟨dn,st,N,us,o1,o2,rfl,sm,h1,r1,h2,r2,an,e1,e2,rfl⟩;let l1:=⇑r1;rw[bM]at l1;calc#[_,rfl,_,.inl #[us,aV.of h2,rfl],?_];rcases SN st with rfl|⟨st',hd,rfl⟩
  .obtain rfl:=r2.gz;calc Jk rfl ?_;ext;let z:dn=vZ (gr [] (D.map (·.1))) tm:=by simpa[Jv]using e1
   exact k lt H' N sm ai h1 (by rw[<-z];calc r1)
  .rw[U5]at *;rw[i4]at r2;let(g,ul,rfl,r3,r4):=r2.split;let(u,q,rfl,ru,rq):=(show bS K H' [KZ hd] ul from r4).inv;obtain rfl:=rq.gz;let(wh,O):=an hd (by simp);let(B,d):=hd
   replace wh:Wn d:=wh
   replace O:⇑B+5*d.size<=900:=O
   let(C,nv,tv,rfl,bj,rn,rt):=(show Rp K H' (.t [.t (B.map .s),enc d]) u from ru).t2
   let hz:⇑dn+sy st'+d.size=tm.size:=by
    rw[jB]at e2;simp only[sy]at e2;omega
   let hk:=wg d;calc Ow (by simp) ?_;calc#[λbi b4=>∃m',m' < sy (st'++[(B,d)])/\MO K H (.ref pa) vt lt v (gr [] (D.map (·.1))) tm m' bi b4,λ_ _ z=>z,?_];let bw:(g++[V.ref C])[⇑(g++[V.ref C])-1]?=U (V.ref C):=by simp
   let b2:(g++[V.ref C]).dropLast=g:=Vl;let k3:Kt H' (upd H' v (.Y (g++[V.ref C]).dropLast)):=Kt.Y h2 _;let b1:upd H' v (.Y (g++[V.ref C]).dropLast) lt=U (.Y N):=by rw[aB ag];exact h1
   let b0:upd H' v (.Y (g++[V.ref C]).dropLast) v=U (.Y (g++[V.ref C]).dropLast):=aj;let b6:=bj.kt k3;let cf:⇑N<my:=bg ();ext I Y;let k4:Kt (upd H' v (.Y (g++[V.ref C]).dropLast)) (upd (upd H' v (.Y (g++[V.ref C]).dropLast)) I (.J [nv,tv])):=Kt.Z (ae Y _);let a6:=ae Y (.J [nv,tv]) _ _ b1;let al:=ae Y (.J [nv,tv]) _ _ b0;let a7:upd (upd H' v (.Y (g++[V.ref C]).dropLast)) I (.J [nv,tv]) I=U (.J [nv,tv]):=aj
   let aq:aS H (upd (upd H' v (.Y (g++[V.ref C]).dropLast)) I (.J [nv,tv])):=λb o e=>by
    calc ae Y _ b o ?_;let n2:b≠v:=ay e ac;rw[aB n2];exact sm b o e
   let az:=k3.trans k4;generalize upd (upd H' v (.Y (g++[V.ref C]).dropLast)) I (.J [nv,tv])=H4 at az a6 al a7 aq|-;rw[b2]at al;let k5:Kt H4 (upd H4 lt (.Y (N++[V.ref I]))):=Kt.Y a6 _;let a4:upd H4 lt (.Y (N++[V.ref I])) v=U (.Y g):=by rw[aB ag.symm];exact al
   let X:=az.trans k5;let bm:=rt.kt X;let R:=wh.wf;let cn:⇑d.ks<=900:=()
   ext p6 H6 ao s6 h6 r6
   let ap:aS H (upd H4 lt (.Y (N++[V.ref I]))):=λb o e=>by
    let n2:b≠lt:=ay e ai;rw[aB n2];exact aq b o e
   let a5:upd H4 lt (.Y (N++[V.ref I])) lt=U (.Y (N++[V.ref I])):=aj;generalize upd H4 lt (.Y (N++[V.ref I]))=H5 at X k5 a4 a5 ap bm s6|-;ext;let l6:=⇑r6;rw[bM,rF d R]at l6;let bn:=(rn.kt X).Z s6;refine j8 (K:=K) (a:=p6) (xs:=ao) (λi G l Hd=>(∃x y,G=[x,y,U nv])/\aS H6 Hd/\bS K Hd (((right d).take i).map λq=>KZ (gr B q.1,q.2)) l) #[#[_,_,rfl],aS.refl _,.nil] ?_ (QB (bg ())) ?_ ?_ ?_
   .rintro i G l Hd hi ⟨_,_,r⟩;rw[⇑r,bM,I0];omega
   .rintro i G l Hd hi ⟨_,S,_⟩;exact aV.of (S _ _ h6)
   .rintro i x G l Hd hi ⟨⟨x0,y0,rfl⟩,S,r⟩;let(y,hy,ry):=r6.get' hi;rw[EF]at hy;let(q,hq,rfl):=IF.mp hy;let a1:i<⇑(right d):=(eF.mp hq).1;let Z:(right d)[i]=q:=(eF.mp hq).2;let bt:q∈right d:=by rw[<-Z];exact Qz a1
    let cj:⇑q.1<=5:=CJ wh q bt;let(qa,u1,u2,rfl,av,g1,g2):=(show Rp K H6 (.t [.t (q.1.map .s),enc q.2]) x from ry).t2;let(oa,ce,rfl,bq,bs):=g1.aT;obtain rfl:=bs.tT;let b7:=b9.Z S av;let b8:=b9.Z S bq;let cc:=bn.Z S;let ci:=Tm.size_pos d;let b5:⇑B+5*d.size<=900:=O;let cm:⇑B+⇑q.1<=900:=()
    ext v7 H7 s7 bk;ext p8 bu;let T:=ae bu (.J [v7,u2]);let ad:=s7.trans T;ext
    .exact S.trans ad
    rw[we a1,Z,i4];exact(r.Z ad).snoc (Rp.t (b9.of aj) (.cons (bk.Z T) (.one ((g2.Z S).Z ad))))
   .rintro G l Hd ⟨_,S,r⟩ p9 hp9;let e9:(right d).take ⇑ao=right d:=by rw[l6,<-rF d R,Ql]
    rw[e9]at r;let s9:=ae hp9 (.Y l);let gD:=s6.trans (S.trans s9);let l9:=⇑r;rw[bM,rF d R]at l9;let a2:=gD _ _ a4;let a3:=gD _ _ a5;let bz:upd Hd p9 (.Y l) p9=U (.Y l):=aj;let r9:=r.Z s9;generalize upd Hd p9 (.Y l)=H9 at gD a2 a3 bz r9|-;ext
    .rw[yV,Ss];exact small ()
    rw[yV];calc nw λcd bf W cb ca=>?_;let a8:=W _ _ a2;let a9:=W _ _ a3;let J:=gD.trans W;let bo:=r9.Z W;let l3:=⇑r3;rw[bM]at l3;let ch:=Br st';let cl:⇑g+⇑l.reverse<=my:=by rw[Ss];exact small ()
    let ah:Kt bf (upd bf v (.Y (g++l.reverse))):=Kt.Y a8 _;let kA:=X.trans ((Kt.Z J).trans ah);let kz:=HG (ns:=B) R;ext
    .exact(show sy st'+sy (sC B d)<sy (st'++[(B,d)]) by rw[jB];let:sy [(B,d)]=d.size:=rfl;omega)
    refine#[dn++[(B,d)],st'++(sC B d).reverse,N++[.ref I],g++l.reverse,_,_,rfl,?_,?_,?_,aj,?_,?_,?_,?_,?_]
    .intro b o e;let n2:b≠v:=ay e ac;rw[aB n2];exact J b o (ap b o e)
    .rw[aB ag];exact a9
    .rw[i4];exact(r1.kt kA).snoc (Rp.t ((b9.of a7).kt (k5.trans ((Kt.Z J).trans ah))) (.cons (rn.kt kA) (.one (rt.kt kA))))
    .rw[i4,Yv];calc(r3.kt kA).append ?_;let b3:(sC B d).map KZ=(right d).map λq=>KZ (gr B q.1,q.2):=by unfold sC;rw[Qm];rfl
     rw[b3];exact(bo.kt ah).reverse
    .intro p hp;rcases zv.mp hp with h|h
     .exact an p (Qx _ h)
     .exact Bu wh O p (List.mem_reverse.mp h)
    .rw[XE,List.reverse_reverse];let be:dn++Jv (st'++[(B,d)]).reverse=vZ (gr [] (D.map (·.1))) tm:=e1;rw[XE]at be;rw[<-be];simp only[Jv,Q4,S1,List.reverse_nil,Sj,Sf,WG,QM,Rw,S9];rw[EE];simp[Jv]
    .rw[mu,jB,xQ];let:[(B,d)].length=1:=rfl;omega
    .rw[jB,xQ]
meta def Un(xs:List AA):Prop:=∀(i j:Nat) (x:AA),xs[i]?=U x->xs[j]?=U x->i=j
meta def lets:MC Nat:=(Qv "abcdefghijklmnopqrstuvwxyz").cps.toList
def HH :∀i<26,∀j<26,lets[i]?=lets[j]?->i=j:=∅
def EG :lets.length=26:=∅
meta def sQ(e:MC Nat)(d:Int)(i:Nat)(x:AA):Prop:=∃c r,fM lets ((d+7*(i:Int)) % 26)=U c/\x.cps.toList=e++c::r
def sQ.un (hi:i<26)(y:j<26)(a:sQ g d i x)(b:sQ g d j x):i=j:=by
 let(c,r,p,t):=a;let(B,v,o,m):=b;rw[t]at m;let e:=List.append_cancel_left m;injection e with e _;subst e
 let f:∀n:Int,0<=n->n<26->fM lets n=lets[n.toNat]?:=λn z h=>by
  let l:n.toNat<lets.length:=by rw[EG];omega
  let u:n=((n.toNat:Nat):Int):=()
  let q:fM lets ((n.toNat:Nat):Int)=U lets[n.toNat]:=aG (pC l);rw[<-u]at q;rw[q,pC l]
 rw[f _ () ()]at p o;let:=HH _ () _ () (p.trans o.symm);omega
def sQ.snoc (a:sQ e d i x)(y:AA):sQ e d i (x++y):=by
 let(c,r,j,g):=a;calc#[c,r++y.cps.toList,j,?_];show(x.cps++y.cps).toList=_;rw[Ua,g];simp
def sQ.PB (m:⇑xs<=26)(h:∀j x,xs[j]?=U x->sQ e d j x):Un xs:=λi j x l g=>by
 let:=(eF.mp l).1;let:=(eF.mp g).1;calc sQ.un () () (h i x l) (h j x g)
def sQ.last (I:⇑(xs++[g,t])<=26)(M:0<⇑y)(h:∀j x,(xs++[g,t])[j]?=U x->sQ l d j x):Un (xs++[g,g++y]):=by
 let H:⇑xs+2<=26:=by simpa using I
 let L:sQ l d ⇑xs g:=h ⇑xs g (by simp);let v:sQ l d ⇑xs (g++y):=L.snoc y
 let u:g++y≠g:=λz=>by
  let:=congrArg WT z;rw[Vc]at this;omega
 let m:∀j x,j<⇑xs+1->(xs++[g,g++y])[j]?=U x->sQ l d j x:=λj x N e=>by
  refine h j x ?_
  by_cases c:j<⇑xs
  .rw[Ri c]at e|-;exact e
  .have:j=⇑xs:=()
   subst this;simp at e|-;exact e
 intro i j x p o;let G:=(eF.mp p).1;let D:=(eF.mp o).1;let C:⇑(xs++[g,g++y])=⇑xs+2:=by simp
 rw[C]at G D
 let lst:∀k x,k=⇑xs+1->(xs++[g,g++y])[k]?=U x->x=g++y:=λk x J e=>by
  subst J;rw[QZ ()]at e;simp at e;exact e.symm
 by_cases B:i<⇑xs+1
 .by_cases r:j<⇑xs+1
  .exact sQ.un () () (m i x B p) (m j x r o)
  .have q:=lst j x () o;subst q;let:=sQ.un () () (m i _ B p) v;subst this;exact absurd (by simpa using p) u.symm
 .by_cases r:j<⇑xs+1
  .have q:=lst i x () p;subst q;let:=sQ.un () () (m j _ r o) v;subst this;exact absurd (by simpa using o) u.symm
  .omega
meta def Lo(x:AA):Prop:=∀c∈x.cps.toList,c<1000
def Lo.append (a:Lo x)(b:Lo y):Lo (x++y):=λc h=>by
 let d:c∈(x.cps++y.cps).toList:=h;rw[Ua]at d;rcases zv.mp d with h|h
 .exact a c h
 .exact b c h
def Lo.slice (a:Lo x)(l u:AF Int):Lo (R7 x l u):=λc h=>by
 unfold R7 at h
 split at h
 .exact a c h
 .rw[List.toList_toArray]at h;let(i,_,e):=VD.mp h;calc a c ?_;rw[Vf];calc Array.mem_of_getElem? e
def Bv :∀c∈lets,c<1000:=∅
def Lo.one (h:c∈lets):Lo ⟨#[c]⟩:=λd hd=>by
 let:d=c:=by simpa using hd
 rw[this];calc Bv c h
def Lo.q (b:Bool):Lo (UM "q" (if b then 1 else 0)):=by
 let h:∀b:Bool,((UM "q" (if b then 1 else 0)).cps.toList.all (· < 1000))=AD:=∅
 intro c d;let:=QY.mp (h b) c d
 simpa using this
def Lo.q1 :Lo (Qv "q"):=by
 let h:((Qv "q").cps.toList.all (· < 1000))=AD:=∅
 intro c d;let:=QY.mp h c d
 simpa using this
def HK :(63:Nat)∉lets:=∅
def sQ.q (a:sQ g d i x):x≠"?":=λz=>by
 let(c,r,l,j):=a;subst z;let j:[63]=g++c::r:=j
 cases g with
 |nil =>
  simp at j;rw[<-j.1]at l;unfold fM at l;let(n,_,e):=Ux.mp l;calc HK (P6 e)
 |cons y s=>simp at j
def Jw (x:AA):x++Qv "q"≠"match":=λz=>by
 let:=congrArg (λs:AA=>s.cps.toList.getLast?) z
 let e:(x++Qv "q").cps.toList=x.cps.toList++[113]:=by
  show(x.cps++(Qv "q").cps).toList=_;rw[Ua]
  congr 1
 simp only[e,List.getLast?_concat]at this;calc absurd this ∅
def HL (x:AA):x++UM (Qv "q") (if AE=AD then 1 else 0)=x:=by
 rw[show UM (Qv "q") (if AE=AD then 1 else 0)=(⟨#[]⟩:AA) by decide];show(⟨x.cps++#[]⟩:AA)=x;rw[Array.append_empty]
meta def xR:Sp:=λg H Q _=>∃(f:AB) (m:Nat),g=[.ref f,.int m]/\1<=m/\m<=26/\cH H f /\
 ∀(r:AB) (e:Hp) (d:List AA),Ext f H e->H r=gV->e r=U (.Y (d.map V.str))->⇑d=m->(∀x∈d,⇑x<=20/\Lo x/\x≠"match"/\x≠"?")->Un d->Q (.ref r) e
def Ext.free (e:Ext f H d)(h:d l=gV):H l=gV:=by
 cases q:H l with
 |none=>rfl
 |some o =>
  by_cases n:l=f
  .subst n;let(a,b,z):=e.2;rw[h]at z;cases z
  .rw[e.1 l o n q]at h;cases h
theorem wj (x:AA):∀xs:List AA,pK (.str x) (xs.map V.str)=decide (x∈xs)
 | []=>rfl
 |y::r=>by
  let d:=wj x r;unfold pK at d|-;rw[Qd,Uc,d]
  by_cases h:y=x
  .subst h;simp[DA]
  .have g:¬x=y:=λz=>h z.symm
   by_cases e:x∈r<;>simp[DA,h,g,e]
structure MP(P:L0) (w:Qe) (K:cB) (mg:AA->AF eT) (base:Heap) (C:AB) (m:AA) (k:Nat) (ps:List AA) (sp:Sp) (f:AB) (fd:PZ):Prop where
 ok:Yf gy k f fd ps sp
 m:Meth K C m f
 bd:Binds K fd ps []
 c:Jf K C
abbrev Df:=AA×MC (AA×Kk)×Tm
class Wds where
 ok:AA->Prop
meta def Wo[Wds](x:AA):Prop:=⇑x<=20/\Lo x/\Wds.ok x
meta def HW[Wds]:Hd->Prop
 |.name x=>Wo x
 |.tag t=>Wo t
 |.call f=>Wo f
 |.mat arms=>∀a∈arms,Wo a.1/\∀x∈a.2,Wo x
 |.fold x y=>Wo x/\Wo y
 |.lt x=>Wo x
 |_=>True
inductive Ta[Wds]:Tm->Prop
 |mk {h:Hd}{ks:MC Tm}:uA h->HW h->(∀k∈ks,Ta k)->Ta (.mk h ks)
meta def Of[Wds](d:Df):Prop:=Wn d.2.2/\Ta d.2.2/\d.2.2.size<=80/\⇑d.2.1<=10
local instance:Wds:=⟨λ_=>True⟩
meta def jx(kl:Kl):MC (AA×Nat)->MC Int->MC Int->MC Df->AF Flt
 |_,_,_,[]=>gV
 |ds,gs,os,d::r=>if d.1∈ds.map (·.1)then U (.tw,d.1)else match cE (kl.map (·.1)) [] os d.2.1 with
  |.error f=>U f
  |.ok os'=>match iU kl ds gs (vZ (gr [] (d.2.1.map (·.1))) d.2.2)with
   |.error f=>U f
   |.ok gs'=>jx kl (ds++[(d.1,⇑d.2.1)]) gs' os' r
theorem wm {gs os:MC Int}{dl:MC Df}{i:Nat}{d:Df}(h:dl[i]?=U d):jx kl ds gs os (dl.drop i)=if d.1∈ds.map (·.1)then U (.tw,d.1)else match cE (kl.map (·.1)) [] os d.2.1 with
  |.error f=>U f
  |.ok os'=>match iU kl ds gs (vZ (gr [] (d.2.1.map (·.1))) d.2.2)with
   |.error f=>U f
   |.ok gs'=>jx kl (ds++[(d.1,⇑d.2.1)]) gs' os' (dl.drop (i+1)):=by
 let e:=(eF.mp h).1;let g:dl.drop i=d::dl.drop (i+1):=by rw[QV e,(eF.mp h).2]
 rw[g];rfl
meta def cR(kl:Kl)(dl:MC Df):AF Flt:=match cY [] [] kl with
 |some f=>U f
 |none=>jx kl [] [] [] dl
theorem CL {gs:MC Int}{ps:MC (List AA×Tm)}{i:Nat}{p:List AA×Tm}(h:ps[i]?=U p):iU kl ds gs (ps.drop i)=match fU kl ds gs p.1 p.2.hd ⇑p.2.ks with
  |.error f=>.error f
  |.ok gs'=>iU kl ds gs' (ps.drop (i+1)):=by
 let d:=(eF.mp h).1;let e:ps.drop i=p::ps.drop (i+1):=by rw[QV d,(eF.mp h).2]
 rw[e];rfl
def EH (e:fU kl ds gs ns h n=.ok j):⇑j<=⇑gs+1:=by
 let same:∀{g:MC Int},(Except.ok (ε:=Flt) gs)=.ok g->⇑g<=⇑gs+1:=λ{g} q=>by cases q;exact QT _
 cases h with
 |name x =>
  let e:(if x∈ns then Except.ok gs else .error (Er.nn,x))=.ok j:=e
  by_cases c:x∈ns
  .rw[if_pos c]at e;exact same e
  .rw[if_neg c]at e;cases e
 |tag t =>
  let e:(match iX kl t with
   |none=>Except.error (Er.nn,t)
   |some y=>if n=⇑y.2.2 then Except.ok gs else .error (.wr,t))=.ok j:=e
  cases q:iX kl t with
  |none=>rw[q]at e;cases e
  |some y =>
   rw[q]at e;let e:(if n=⇑y.2.2 then Except.ok gs else .error (Er.wr,t))=.ok j:=e
   by_cases c:n=⇑y.2.2
   .rw[if_pos c]at e;exact same e
   .rw[if_neg c]at e;cases e
 |call t =>
  let e:(match ds.find? (λd=>decide (d.1=t))with
   |none=>Except.error (Er.nn,t)
   |some y=>if n=y.2 then Except.ok gs else .error (.wr,t))=.ok j:=e
  cases q:ds.find? (λd=>decide (d.1=t))with
  |none=>rw[q]at e;cases e
  |some y =>
   rw[q]at e;let e:(if n=y.2 then Except.ok gs else .error (Er.wr,t))=.ok j:=e
   by_cases c:n=y.2
   .rw[if_pos c]at e;exact same e
   .rw[if_neg c]at e;cases e
 |mat arms =>
  let e:(match gE kl arms with
   |some f=>Except.error f
   |none=>Except.ok gs)=.ok j:=e
  cases q:gE kl arms with
  |none=>rw[q]at e;calc same e
  |some y=>rw[q]at e;cases e
 |fold x y =>
  let e:(if x=y then .error (Er.tw,x)else Except.ok gs)=.ok j:=e
  by_cases c:x=y
  .rw[if_pos c]at e;cases e
  .rw[if_neg c]at e;calc same e
 |gap m =>
  let e:(if m∈gs then .error (Er.tw,("?":AA))else Except.ok (gs++[m]))=.ok j:=e
  by_cases c:m∈gs
  .rw[if_pos c]at e;cases e
  .rw[if_neg c]at e
   cases e
   rw[mu];calc u4 _
 |num _=>calc same e
 |op _=>calc same e
 |row=>calc same e
 |more=>calc same e
 |first=>calc same e
 |others=>calc same e
 |long=>calc same e
 |ife=>calc same e
 |lt _=>calc same e
meta def Og(p:List AA×Tm):Prop:=dc p.2.hd ⇑p.2.ks=AD/\uA p.2.hd/\p.2.size<=80/\⇑p.1+5*p.2.size<=900
def HM :Wn d->Ta d->d.size<=80->∀ns:List AA,⇑ns+5*d.size<=900->∀p∈vZ ns d,Og p:=by
 calc Tm.induct (P:=λd=>Wn d->Ta d->d.size<=80->∀ns:List AA,⇑ns+5*d.size<=900->∀p∈vZ ns d,Og p) (λh ks o w t g ns l p hp=>?_) d;rw[EE]at hp;rcases P1.mp hp with rfl|hp
 .cases w with
  |mk a b c =>
   cases t with
   |mk x _ y=>exact#[a,x,g,l]
 .have(q,j,hp):=RB.mp hp;let(m,l2):=Bu w l q j;let(z,r,rfl):=Qa.mp j;let e:z.2∈ks:=(R0 (show z∈(bnd h ⇑ks).zip ks from r)).2
  cases t with
  |mk x _ y =>
   let:=ki e;rw[Tm.eG]at g;calc o _ e m (y _ e) () _ l2 p hp
def HN (ns:List AA)(d:Tm)(w:Wn d):⇑(vZ ns d)=d.size:=by
 revert ns
 refine Tm.induct (P:=λd=>Wn d->∀ns,⇑(vZ ns d)=d.size) (λh ks p w ns=>?_) d w
 let g:∀(bs:MC (List AA)) (l:MC Tm),⇑bs=⇑l->(∀k∈l,k∈ks)->(∀k∈l,Wn k)->⇑(qA ns bs l)=Tm.sizes l:=by
  intro bs
  induction bs with
  |nil=>intro l e _ _;obtain rfl:l=[]:=Uz.mp e.symm;unfold qA;rfl
  |cons b bs ihb =>
   intro l e o m
   cases l with
   |nil=>cases e
   |cons k l =>
    unfold qA;rw[mu,p k (o k (.head _)) (m k (.head _)),ihb l (by simpa using e) (λx j=>o x (.tail _ j)) (λx j=>m x (.tail _ j)),Tm.bT]
 cases w with
 |mk a b c =>
  unfold vZ;rw[Qn,Tm.eG,g _ ks ?_ (λ_ h=>h) c]
  cases h<;>simp_all[bnd,dc]
mutual
noncomputable def sD(kl:Kl)(ds:MC (AA×Nat)):MC Int->List AA->Tm->Except Flt (MC Int)
 |gs,ns,.mk h ks=>match fU kl ds gs ns h ⇑ks with
  |.error f=>.error f
  |.ok gs'=>m6 kl ds gs' ns (bnd h ⇑ks) ks
noncomputable def m6(kl:Kl)(ds:MC (AA×Nat)):MC Int->List AA->MC (List AA)->MC Tm->Except Flt (MC Int)
 |gs,ns,b::bs,k::ks=>match sD kl ds gs (ns++b) k with
  |.error f=>.error f
  |.ok gs'=>m6 kl ds gs' ns bs ks
 |gs,_,_,_=>.ok gs
end
theorem rH (kl:Kl)(ds:MC (AA×Nat))(gs:MC Int)(ns:List AA)(h:Hd)(ks:MC Tm):sD kl ds gs ns (.mk h ks)=match fU kl ds gs ns h ⇑ks with
  |.error f=>.error f
  |.ok gs'=>m6 kl ds gs' ns (bnd h ⇑ks) ks:=by unfold sD;rfl
theorem iV (kl:Kl)(ds:MC (AA×Nat))(gs:MC Int)(ns b:List AA)(bs:MC (List AA))(k:Tm)(ks:MC Tm):m6 kl ds gs ns (b::bs) (k::ks)=match sD kl ds gs (ns++b) k with
  |.error f=>.error f
  |.ok gs'=>m6 kl ds gs' ns bs ks:=by
 conv=>lhs;unfold m6
def kQ (kl:Kl)(ds:MC (AA×Nat))(gs:MC Int)(ns:List AA)(bs:MC (List AA)):m6 kl ds gs ns bs []=.ok gs:=by
 unfold m6
 cases bs<;>rfl
theorem zE (kl:Kl)(ds:MC (AA×Nat)):∀(a b:MC (List AA×Tm)) (gs:MC Int),iU kl ds gs (a++b)=match iU kl ds gs a with
  |.error f=>.error f
  |.ok gs'=>iU kl ds gs' b
 | [],b,gs=>rfl
 |p::r,b,gs=>by
  show(match fU kl ds gs p.1 p.2.hd ⇑p.2.ks with
   |.error f=>Except.error f
   |.ok gs'=>iU kl ds gs' (r++b))=match(match fU kl ds gs p.1 p.2.hd ⇑p.2.ks with
   |.error f=>Except.error f
   |.ok gs'=>iU kl ds gs' r)with
   |.error f=>Except.error f
   |.ok gs'=>iU kl ds gs' b
  cases fU kl ds gs p.1 p.2.hd ⇑p.2.ks with
  |error f=>rfl
  |ok gs'=>calc zE kl ds r b gs'
def EI :x∈qz ns o↔x∈ns\/x=o:=by
 unfold qz;rw[zv,W4,vv];constructor
 .rintro(⟨h,_⟩|h)
  .exact .inl h
  .exact .inr h
 .rintro(h|h)
  .by_cases c:x=o
   .exact .inr c
   .exact .inl #[h,decide_eq_true c]
  .exact .inr h
theorem uD :∀{os ns:List AA}{x:AA},x∈gr ns os↔x∈ns\/x∈os
 | [],ns,x=>by
  show x∈ns↔_;calc#[.inl,λh=>h.elim id nofun]
 |o::r,ns,x=>by
  show x∈gr (qz ns o) r↔_;rw[uD,EI,P1,or_assoc]
def CM (e:∀x,x∈ns↔x∈d):fU kl ds gs ns h n=fU kl ds gs d h n:=by
 cases h with
 |name x =>
  show(if x∈ns then Except.ok gs else .error (Er.nn,x))=if x∈d then Except.ok gs else .error (Er.nn,x)
  by_cases c:x∈ns
  .rw[if_pos c,if_pos ((e x).mp c)]
  .rw[if_neg c,if_neg (λz=>c ((e x).mpr z))]
 |_=>rfl
def K1 (g:Tm):∀(gs:MC Int) (ns d:List AA),(∀x,x∈ns↔x∈d)->iU kl ds gs (vZ ns g)=sD kl ds gs d g:=by
 refine Tm.induct (P:=λg=>∀(gs:MC Int) (ns d:List AA),(∀x,x∈ns↔x∈d)->iU kl ds gs (vZ ns g)=sD kl ds gs d g) (λh ks o gs ns d e=>?_) g
 let j:∀(l:MC Tm),(∀k∈l,k∈ks)->∀(bs:MC (List AA)) (gs:MC Int),iU kl ds gs (qA ns bs l)=m6 kl ds gs d bs l:=by
  intro l
  induction l with
  |nil=>intro _ bs gs;rw[kQ];cases bs<;>(unfold qA;rfl)
  |cons k r ihl =>
   intro m bs gs
   cases bs with
   |nil=>unfold qA m6;rfl
   |cons b bs =>
    unfold qA;rw[zE,iV,o k (m k (.head _)) gs (gr ns b) (d++b) (λx=>by rw[uD,zv,e x])]
    cases sD kl ds gs (d++b) k with
    |error f=>rfl
    |ok gs'=>exact ihl (λx p=>m x (.tail _ p)) bs gs'
 rw[rH];unfold vZ
 show(match fU kl ds gs ns h ⇑ks with
   |.error f=>Except.error f
   |.ok gs'=>iU kl ds gs' (qA ns (bnd h ⇑ks) ks))=_
 rw[CM e]
 cases fU kl ds gs d h ⇑ks with
 |error f=>rfl
 |ok gs'=>calc j ks (λ_ h=>h) _ gs'
meta def EJ(S:Di)(H:Hp)(ns:List AA)(bs:MC (List AA))(vs:MC V):Prop:=⇑vs=⇑bs/\∀(i:Nat) (b:List AA),bs[i]?=U b->∃a,vs[i]?=U (.ref a)/\(a≠S.lg/\a≠S.lo)/\H a=U (.Y ((ns++b).map V.str))
def EJ.Z (o:EJ S H ns bs vs)(s:aS H H'):EJ S H' ns bs vs:=#[o.1,λi b d=>by
 let(a,j,g,e):=o.2 i b d;calc#[a,j,g,s _ _ e]]
end G16
namespace G16
open PySem L2
meta def kR(K:cB):Sp:=λj H Q _=>∃(v:V) (d:Tm),j=[v]/\Rp K H (enc d) v/\Wf d/\d.size<=900 /\
 ∀(p:AB) (e:Hp) (g:MC V),aS H e->H p=gV->e p=U (.Y g)->bS K e (d.ks.map enc) g->Q (.ref p) e
def EK (xs:MC V)(j:Nat):gx xs (U (j:Int)) gV=xs.drop j:=by
 unfold gx;rw[HT.mw,HT.tM];rcases Yc j ⇑xs with h|h
 .rw[SW h,QO (by rw[QF];omega)]
 .rw[WH h,Tn h,Tn (u4 _)];simp
def HQ (xs:MC V)(j:Nat)(e:1<=j)(d:1<=⇑xs):¬(HT.iL ⇑xs 0 (U (j:Int))=0/\HT.iL ⇑xs ⇑xs gV=⇑xs):=λz=>by
 let:=z.1;rw[HT.mw]at this;omega
def zF (J:⇑arms=⇑ks)(L:b9 K H0 u vs)(hr:bS K H0 (QE jF arms ks) vs)(B:⇑ks<=1000)(k:∀(p:AB) (q:MC V),H0 p=gV->bS K H0 ks q->Q (.ref p) (upd H0 p (.Y q))):
  mU (A2 K u) (Gb K 3 (tH (iZ 0) (tH (iZ 1) (tH (iZ 2) JM)))) yQ (jD 2) Q [gV,gV,gV] H0:=by
 let l:=⇑hr;rw[Rq,J,S3]at l;refine je (xs:=vs) (λi g e m=>(∃x y z,g=[x,y,z])/\m=H0/\bS K H0 (ks.take i) e) #[#[gV,gV,gV,rfl],rfl,.nil] ?_ (small ()) ?_ ?_ ?_
 .rintro i g e m C ⟨_,_,r⟩;rw[⇑r,I0];omega
 .rintro i g e m C ⟨_,rfl,_⟩;exact L
 .rintro i x g e m hx ⟨⟨R,O,N,rfl⟩,rfl,r⟩;let(y,v,G):=hr.get' hx;let C:i<⇑vs:=(eF.mp hx).1;let o:i<⇑arms:=()
  let j:i<⇑ks:=()
  rw[Tu,pC o,pC j]at v
  cases v
  let(I,H,rfl,D,d):=(show Rp K _ (.t [_,_,_]) x from G).aT;let(t1,q1,rfl,X,d):=d.inv;let(t2,gD,rfl,W,d):=d.inv;let(t3,S,rfl,M,d):=d.inv;obtain rfl:=d.gz;calc#[I,_,rfl,D,rfl,_,_,rfl,_,_,rfl,_,_,rfl,rfl,?_];calc#[_,rfl,#[_,_,_,rfl],rfl,?_];rw[we j];exact r.snoc M
 .rintro g e m ⟨_,rfl,r⟩ p hp;rw[QO ()]at r;calc k p e hp r
def HR (xs:List d)(y:d):fM (xs++[y]) (-1)=U y:=by
 unfold fM wK;rw[if_neg ∅,if_pos (by rw[mu];simp;omega),SE,show(-1+((⇑(xs++[y]):Nat):Int)).toNat=⇑xs by rw[mu];simp;omega];simp
def HS (o:dc hd ⇑ks=AD):∃e rest,mY hd (ks.map enc)=.t (.s e::rest) /\
  (pK (.str e) [.str "row",.str "tag",.str "call"]=AD->∃d,rest=d++[.t (ks.map enc)])/\(decide (V.str e=.str "match")=AD->∃arms,hd=.mat arms) /\
  (decide (V.str e=.str "fold")=AD->∃x y,hd=.fold x y)/\(pK (.str e) [.str "num",.str "name",.str "gap"]=AD->ks=[]) /\
  (¬pK (.str e) [.str "row",.str "tag",.str "call"]=AD->¬decide (V.str e=.str "match")=AD->¬decide (V.str e=.str "fold")=AD->¬pK (.str e) [.str "num",.str "name",.str "gap"]=AD ->
   ∃d,rest=d++ks.map enc/\(⇑d=0/\pK (.str e) [.str "op",.str "let"]=AE\/⇑d=1/\pK (.str e) [.str "op",.str "let"]=AD)):=by
 cases hd<;>refine#[_,_,rfl,λc=>?_,λc=>?_,λc=>?_,λc=>?_,λm l j g=>?_]
 all_goals first
  |calc absurd c ∅
  |calc absurd ∅ m
  |calc absurd ∅ l
  |calc absurd ∅ j
  |calc absurd ∅ g
  |calc#[[],rfl]
  |calc#[[_],rfl]
  |calc#[_,rfl]
  |calc#[_,_,rfl]
  |calc#[[],rfl,.inl #[rfl,∅]]
  |calc#[[_],rfl,.inr #[rfl,∅]]
  |simpa[dc]using o
def cV :Nm Zz (af kL):=∅
def zG :aY Zz Zz (af kL):=by ac_rfl
def CN (F:i9 K "_law_within" "_law_within" kL f fd)(r:mg "list"=gV)(M:mg "int"=gV):Yf gy 1 f fd Zz (kR K):=by
 exists F.ok zG
 .have(v,tm,rfl,_):=h;rfl
 let(v,tm,rfl,hv,wf,aa,k):=h;refine#[_,(Z5 (Zb (fV[8]! iz (Z7 aJ (va cV 0)) (Ze (Z1 aC (cU aC (Za aC)))) (by rfl')) (Zd (Zo (Z6 jW r Sy (Z1 (fQ aJ (va cV 0) (kY i5 au) (λ_ _=>rfl)) ak))))) (Z5 (Zb (Zh bV (Z7 aJ (va cV 0)) aC) (Zd (Zo (Zj jQ (aZ[4]! (Z1 (Z7 aJ (va cV 0)) ak)) (Zg (af kL) Zz ZJ [] (dj[4]! (Z7 aJ (va cV 0))) (λ_ _ _ _=>(@jd _ _ _ _ _ (3) K rfl rfl (Zf (X1 ZJ 0) (Zf (X1 ZJ 1) (Zt (X1 ZJ 2)))) (by rfl) (by rfl))) (λ_ _ _ _=>(Xt ZJ 2))))))) (Z5 (Zb (Zh bV (Z7 aJ (va cV 0)) aC) (Zd (Zo (aZ[4]! (Z1 (Z7 aJ (va cV 0)) (Z1 (Z7 aJ (va cV 0)) (Z1 (Z7 aJ (va cV 0)) ak))))))) (Z5 (Zb (fV[8]! iz (Z7 aJ (va cV 0)) (Ze (Z1 aC (cU aC (Za aC)))) (by rfl')) (Zd (eX (aZ ak)))) (Zd (Zo (Z6 jW r Sy (Z1 (Zq Ah (va cV 0) (bL[3]! (Zj dU au (Z6 iy M Rc (Z1 (jC[8]! iz (Z7 aJ (va cV 0)) (Ze (cU aC (Za aC))) (by rfl')) ak)))) bW) ak)))))))),?_]
 right
 cases wf with
 |mk ar wk =>
 rename_i hd ks
 let wf:Wf (.mk hd ks):=.mk ar wk;rw[bG]at hv;let C:⇑ks<900:=P8 (wg (.mk hd ks)) aa;let nE:⇑(ks.map enc)=⇑ks:=bM _;let S0:∀(p:AB) (o:HO) (H:Hp),H p=gV->aS H (upd H p o):=λp o H h=>ae h o;let(L,rest,he,h1,h2,h3,h4,h5):=HS ar;rw[he]at hv;let(a,vs,rfl,hS,hr):=hv.aT;let(v0,wr,rfl,e0,hq):=hr.inv;obtain rfl:=e0.aP;calc qk ?_;intro N1 N2 N3 N4 d1 d2 d3 d4;calc#[_,rfl,a,_,0,_,rfl,rfl,hS,aG (j:=0) rfl,(by show 3<=my;decide),λp1 ag=>#[p1,_,rfl,.inr (b9.of aj),rfl,rfl,_,rfl,?_]];let D:=S0 p1 (.J [.str "row",.str "tag",.str "call"]) H ag;generalize upd H p1 (.J [.str "row",.str "tag",.str "call"])=H1 at D|-;let g:=hS.Z D;let f1:∀{l},H1 l=gV->H l=gV:=D.free;refine b8 (λc1=>?_) (λc1=>?_)
 .have(N,rfl):=h1 c1;let(t,u,rfl,ai,q):=bS.split hq;let(vb,_,rfl,eb,m):=q.inv;obtain rfl:=m.gz;let(b,u,rfl,J,O):=eb.aT;calc#[_,rfl,_,rfl,a,_,-1,_,rfl,rfl,g,HR (V.str L::t) (V.ref b),b,_,rfl,.inr (J.Z D),λl gD=>?_];exact k l _ u (D.trans (ae gD _)) (f1 gD) aj (O.Z (D.trans (ae gD _)))
 calc d1 _ _ ?_;calc#[_,rfl,a,_,0,_,rfl,rfl,g,aG (j:=0) rfl,rfl,_,rfl,?_];refine b8 (λc2=>?_) (λc2=>?_)
 .have(arms,rfl):=h2 c2;let W:⇑ks=⇑arms+1:=by simpa[dc]using ar
  match ks,W with
  |k0::kr,W =>
  let ah:⇑arms=⇑kr:=by simpa using W.symm
  unfold mY at he
  cases he
  let(S,q1,rfl,e1,q):=bS.inv hq;let(v2,q2,rfl,e2,m):=bS.inv q;obtain rfl:=m.gz;let(b,u,rfl,J,O):=e2.aT;calc#[_,rfl,a,_,1,_,rfl,rfl,g,rfl,(by show 1<=my;decide),λG B=>?_];let d:=D.trans (ae B (.Y [S]));calc#[_,rfl,a,_,2,_,rfl,rfl,hS.Z d,rfl,b,rfl,#[_,J.Z d],?_];calc zF (arms:=arms) (ks:=kr.map enc) (by rw[bM];calc ah) (J.Z d) (by calc O.Z d) (by rw[bM];let:=C;simp at this;omega) λp t T r4=>?_;let z2:upd (upd H1 G (.Y [S])) p (.Y t) G=U (.Y [S]):=(ae T _) _ _ aj;let l4:=⇑r4;rw[bM]at l4;calc#[G,p,_,_,rfl,rfl,z2,aj,small (by let:=C;simp at this;show 1+_<=1000;omega),λp5 R=>?_];let Y:=d.trans ((ae T (.Y t)).trans (ae R (.Y ([S]++t))));calc k p5 _ _ Y ((d.trans (ae T (.Y t))).free R) aj ?_;exact .cons (e1.Z Y) (r4.Z ((ae T _).trans (ae R _)))
 calc d2 _ _ ?_;calc#[_,rfl,a,_,0,_,rfl,rfl,g,aG (j:=0) rfl,rfl,_,rfl,?_];refine b8 (λc3=>?_) (λc3=>?_)
 .have(x,y,rfl):=h3 c3;let W:⇑ks=3:=by simpa[dc]using ar
  match ks,W with
  | [k0,k1,k2],W =>
  unfold mY at he
  cases he
  let(S,q1,rfl,e1,q):=bS.inv hq;let(v2,q2,rfl,e2,m):=bS.inv q;let(v3,q3,rfl,e3,ad):=bS.inv m;let(v4,q4,rfl,e4,ac):=bS.inv ad;let(v5,q5,rfl,e5,ab):=bS.inv ac;obtain rfl:=ab.gz;calc#[_,rfl,a,_,1,_,rfl,rfl,g,rfl,_,rfl,a,_,4,_,rfl,rfl,g,rfl,_,rfl,a,_,5,_,rfl,rfl,g,rfl,(by show 3<=my;decide),λG B=>?_];let d:=D.trans (ae B (.Y [S,v4,v5]));exact k G _ _ d (f1 B) aj (.cons (e1.Z d) (.cons (e4.Z d) (.one (e5.Z d))))
 calc d3 _ _ ?_;calc#[_,rfl,a,_,0,_,rfl,rfl,g,aG (j:=0) rfl,(by show 3<=my;decide),λG B=>#[G,_,rfl,.inr (b9.of aj),rfl,rfl,_,rfl,?_]];let d:=D.trans (S0 G (.J [.str "num",.str "name",.str "gap"]) _ B);generalize upd H1 G (.J [.str "num",.str "name",.str "gap"])=H2 at d|-;refine b8 (λc4=>?_) (λc4=>?_)
 .obtain rfl:=h4 c4;calc#[Qc _,λp3 I=>?_];exact k p3 _ _ (d.trans (ae I _)) (d.free I) aj .nil
 calc d4 _ _ ?_;let(N,rfl,T):=h5 c1 c2 c3 c4;let(t,u,rfl,m,q):=bS.split hq;let lw:=⇑m
 let hn:(1+(if pK (.str L) [.str "op",.str "let"]=AD then 1 else 0):Int)=((⇑N+1:Nat):Int):=by
  rcases T with⟨l,e⟩|⟨l,e⟩<;>rw[l,e]<;>rfl
 let hc:∀X:Int,X=((⇑N+1:Nat):Int)->gx (.str L::(t++u)) (U X) gV=u/\¬(HT.iL ⇑(V.str L::(t++u)) 0 (U X)=0/\HT.iL ⇑(V.str L::(t++u)) ⇑(V.str L::(t++u)) gV=⇑(V.str L::(t++u))):=λX e=>by
  rw[e];calc#[?_,HQ _ _ () (by simp)];rw[EK,<-lw];exact List.drop_left (l₁:=.str L::t)
 calc#[_,rfl,_,rfl,a,_,0,_,rfl,rfl,hS.Z d,aG (j:=0) rfl,(by show 2<=my;decide),λp3 I=>#[p3,_,rfl,.inr (b9.of aj),rfl,rfl,.inr #[_,rfl,_,_,rfl,rfl,_,rfl,?_]]];let s3:=d.trans (S0 p3 (.J [.str "op",.str "let"]) _ I);calc#[a,_,rfl,hS.Z s3,(hc _ hn).2,λp4 Z=>?_];calc#[p4,u,rfl,.inr (b9.of (aj.trans (congrArg (λz=>U (HO.J z)) (hc _ hn).1))),λl gD=>?_];let Y:=(s3.trans (ae Z _)).trans (ae gD (.Y u));calc k l _ u Y ((s3.trans (ae Z _)).free gD) aj (q.Z Y)
local instance:Wds:=⟨λ_=>True⟩
meta def qB(kl:Kl)(ds:MC (AA×Nat))(gs:MC Int)(d:Df)(r:MC Df):Except Flt (MC Int)->AF Flt
 |.error f=>U f
 |.ok os'=>match sD kl ds gs (d.2.1.map (·.1)) d.2.2 with
  |.error f=>U f
  |.ok gs'=>jx kl (ds++[(d.1,⇑d.2.1)]) gs' os' r
def CO {os:MC Int}{dl:MC Df}(h:dl[i]?=U d):jx kl ds gs os (dl.drop i)=if d.1∈ds.map (·.1)then U (.tw,d.1)else qB kl ds gs d (dl.drop (i+1)) (cE (kl.map (·.1)) [] os d.2.1):=by
 rw[wm h]
 by_cases c:d.1∈ds.map (·.1)
 .rw[if_pos c,if_pos c]
 .rw[if_neg c,if_neg c]
  cases cE (kl.map (·.1)) [] os d.2.1 with
  |error f=>rfl
  |ok os' =>
   unfold qB;dsimp only;rw[K1 d.2.2 gs (gr [] (d.2.1.map (·.1))) (d.2.1.map (·.1)) (λx=>by rw[uD];calc#[λh=>h.elim nofun id,.inr])]
   first|done|rfl
end G16
namespace G16
open PySem L2
@[irreducible] noncomputable def EL:Stmt:=(bE dz).getD 4 (.Pass #[0,0,0,0])
@[irreducible] noncomputable def EM:Stmt:=(bE dz).getD 5 (.Pass #[0,0,0,0])
@[irreducible] noncomputable def HU:MC Expr:=match(bE dz).getD 4 (.Pass #[0,0,0,0])with
 |.Assign _ (.List es _) _=>es
 |_=>[]
@[irreducible] noncomputable def HV:MC Expr:=match(bE dz).getD 5 (.Pass #[0,0,0,0])with
 |.Assign _ (.BinOp _ _ (.List es _) _) _=>es
 |_=>[]
@[irreducible] noncomputable def posK (i:Nat):Pos:=match(bE dz).getD 4 (.Pass #[0,0,0,0]),(bE dz).getD 5 (.Pass #[0,0,0,0])with
 |.Assign [.Name _ a] (.List _ b) c,.Assign [.Name _ d] (.BinOp (.Name _ e) _ (.List _ f) g) h=>[a,b,c,d,e,f,g,h].getD i a
 |_,_=>#[0,0,0,0]
meta def zH:List AA:=["num","row","kind","def","more","first","others","long","match","if","let","fold","call"]
meta def Bw:List AA:=["gap","in","world","fault","left"]
def HX :EL=.Assign [.Name "_law_kept" (posK 0)] (.List HU (posK 1)) (posK 2):=by unfold EL HU posK;kernel_rfl
def HY :EM=.Assign [.Name "_law_kept" (posK 3)] (.BinOp (.Name "_law_kept" (posK 4)) .Add (.List HV (posK 5)) (posK 6)) (posK 7):=by unfold EM HV posK;kernel_rfl
def PC :strsOf HU=U zH:=by unfold HU;kernel_rfl
def PD :strsOf HV=U Bw:=by unfold HV;kernel_rfl
def AK :bE dz=(bE dz).take 4++(EL::EM::(bE dz).drop 6):=by unfold EL EM;kernel_rfl
def MQ (hn:X.N.Nodup)(d:Lm X.N X.env.scope)(g:X.N[7]?=U ("_law_kept":AA))(e:X.fn "_law_kept"=AD):PS X EL (wI (J0 (DP zH)) (iZ 7)):=by
 rw[HX];calc sa hn d 7 (aZ (Bc PC)) g rfl (.inl e)
def MR (hn:X.N.Nodup)(g:Lm X.N X.env.scope)(e:Nm X.N X.env.scope)(d:X.N[7]?=U ("_law_kept":AA))(j:X.fn "_law_kept"=AD):PS X EM (wI (BY Mr (jD 7) (J0 (DP Bw))) (iZ 7)):=by
 rw[HY];calc sa hn g 7 (bX jQ (va e 7 d) (aZ (Bc PD))) d rfl (.inl j)
def K2 (xs:List d)(a b:d):fM (xs++[a,b]) (-2)=U a:=by
 unfold fM wK;let l:⇑(xs++[a,b])=⇑xs+2:=by simp
 rw[l,if_neg ∅,if_pos ()];let e:(-2+((⇑xs+2:Nat):Int)).toNat=⇑xs:=()
 rw[SE,e];simp
def K7 (n m:Nat)(h:n=m+1):wK n (-1)=U m:=by
 unfold wK;rw[if_neg ∅,if_pos ()]
 congr 1
 omega
def bx :Nm YV (af dz):=∅
def gi :Lm YV (af dz):=∅
def eS :aY YV YO (af dz):=by ac_rfl
def EN (F:i9 K "_law_names" "_law_names" dz f fd)(TK:Ya "_law_take" 1 YO cg gT tfd)(z_range:mg "range"=gV)(R:mg "len"=gV)(ab:mg "int"=gV):
  Yf gy 2 f fd YO xR:=by
 exists F.ok eS
 .have(v,tm,rfl,_):=h;rfl
 let(r,m,rfl,m1,m2,hf,k):=h;rw[AK];refine#[_,(Z5 (sa eS.nd gi 2 aC) (Z5 (Z4 eS.nd gi 3 (yF[12]! PySem.F.plainAttrs_str PySem.F.slot_str_join PySem.F.type_str_join Gx aC (Z1 (Zg (af dz) YV ["_law_k"] [0,2] (Zr (Z1 (Z0 TK (cU (va bx 0) (Za au))) ak)) (λ_ _ _ _=>(X1 Γb 0)) (λ_ _ _ _=>(fQ[7]! wM (Xt Γb 2) (Z0 TK (cU (Xt Γb 1) (Za au))) (λ_ _=>rfl)))) ak) (by kernel_rfl) (by kernel_rfl) (by kernel_rfl) (by kernel_rfl) (by kernel_rfl))) (Z5 (@zW _ _ (4) (5) _ _ _ _ _ _ _ _ _ _ _ rfl eS.nd rfl rfl ∅ rfl rfl (Z1 (Z0 TK (cU (va bx 0) (Za au))) (Z1 (Z0 TK (Z1 (va bx 0) (Z1 (Zj dU (Z2 pZ R Qh (Za (va bx 3))) au) ak))) ak)) (by rfl) (by rfl)) (Z5 (Z4 eS.nd gi 6 (Z0 TK (cU (va bx 0) (Za au)))) (Z5 (MQ eS.nd gi rfl rfl) (Z5 (MR eS.nd gi bx rfl rfl) (Z5 (sa eS.nd gi 8 (aZ ak)) (Z5 (Zl QU (Zr (Za (va bx 1))) (ga eS.nd gi 9) (Z5 (Z4 eS.nd gi 10 (fQ[7]! wM (va bx 2) (Zj gJ (Zj dU (va bx 4) (bX lE au (va bx 9))) au) (λ_ _=>rfl))) (Z5 (Z4 eS.nd gi 11 (Zj mj (Zj mj (Zq DO (va bx 3) bW (bL (va bx 5))) (va bx 10)) (Zq DO (va bx 3) (bL (va bx 5)) (bL[3]! (Zj gJ (bX dU (va bx 6) (va bx 9)) au))))) (Zd (Zm (Z8 (va bx 8) (Z1 (Zj mj (va bx 11) (Zj Ar aC (Z6 iy ab Rc (Z1 (jC iz (va bx 11) (va bx 7) (by rfl')) ak)))) ak))))))) (Z5 (Zb (PW.pt (iY[7]! (Zp pS (va bx 1) au) (iY[7]! (Zh lQ (Z2 pZ R Qh (Z1 (fQ br (va bx 8) (kY i5 au) (λ_ _=>rfl)) ak)) au) (iu[4]! (Zh bV (Z0 TK (cU (va bx 0) (Za au))) au))))) (Zd (Zn (Zj mj (fQ br (va bx 8) (kY i5 au) (λ_ _=>rfl)) aC) (oY (va bx 8) (kY i5 au) set_list)))) (Zd (eX (va bx 8)))))))))))),?_]
 right
 calc#[rfl,_,rfl,r,5,rfl,∅,∅,hf,λq H2 q0 q6 e2=>?_];calc#[_,rfl,(),(),?_];let n7:(q:Int).toNat<=4:=()
 refine pH (n:=q.toNat) (λi σ vs Hc=>(∃v,σ=[v,U (.ref r),U (.str "abcdefghijklmnopqrstuvwxyz")])/\Ext r H2 Hc/\∃O:MC Nat,vs=(O.map λc=>(⟨#[c]⟩:AA)).map V.str/\⇑O=i/\∀c∈O,c<1000)
  #[#[gV,rfl],Ext.refl e2.2,[],rfl,rfl,λ_ h=>nomatch h] (λi σ vs Hc _ ⟨_,_,O,e,el,_⟩=>by rw[e,bM,bM];omega) (small ()) ?_ ?_
 .rintro i' σ vs Hc hi' ⟨⟨v,rfl⟩,ext,O,rfl,aw,ah⟩;calc#[_,rfl,_,rfl,r,26,rfl,∅,∅,ext.2,λd H3 d0 d1 ax=>?_];let(c,S,am):=atS (z:="abcdefghijklmnopqrstuvwxyz") d0 d1;calc#[_,d,c,rfl,rfl,∅,S,?_];exact#[#[_,rfl],ext.trans ax,O++[c],by rw[i4,i4];rfl,by rw[mu,aw];rfl,λc' h=>by rcases zv.mp h with h|h;calc ah c' h;rw[vv.mp h];calc Bv c am]
 rintro σ vs Hc ⟨⟨v,rfl⟩,ext,O,rfl,aw,ah⟩ p hp;refine#[_,p,_,rfl,rfl,aV.of aj,?_,?_]
 .have z:(Qv "").length=0:=∅
  rw[DS,z];omega
 rw[GG];let ad:Ext r H (upd Hc p (.Y ((O.map λc=>(⟨#[c]⟩:AA)).map V.str))):=(e2.trans ext).new hp _;let ly:⇑(⟨O.toArray⟩:AA)<=4:=by rw[Kx];omega
 let hy:Lo ⟨O.toArray⟩:=λc h=>ah c (by simpa using h);generalize upd Hc p (.Y ((O.map λc=>(⟨#[c]⟩:AA)).map V.str))=H4 at ad|-;generalize(⟨O.toArray⟩:AA)=y at ly hy|-;calc#[_,rfl,r,26,rfl,∅,∅,ad.2,λd1 H5 b1 c1 e5=>?_];calc#[_,rfl,_,rfl,_,rfl,small (),_,_,rfl,rfl,r,_,rfl,(),(),e5.2,λC H6 b2 c2 e6=>?_];calc#[_,_,rfl,?_];calc#[_,rfl,r,5,rfl,∅,∅,e6.2,λd3 H7 b3 c3 e7=>?_];let x7:Ext r H H7:=ad.trans (e5.trans (e6.trans e7));let a3:zH.length<=100:=∅
 let ap:("match":AA)∈zH:=∅
 let a1:Bw.length<=100:=∅
 calc#[by rw[bM];calc small (),λp8 a4=>?_];calc#[_,rfl,by rw[bM];calc small (),λp9 aa=>?_];generalize zH=ks1 at a3 ap aa|-;generalize Bw=ks2 at a1 aa|-;calc#[p8,p9,_,_,rfl,rfl,(ae aa _) _ _ aj,aj,by rw[bM,bM];calc small (),λt ar=>?_];let gD:Ext r H (upd (upd (upd H7 p8 (.Y (ks1.map V.str))) p9 (.Y (ks2.map V.str))) t (.Y (ks1.map V.str++ks2.map V.str))):=((x7.new a4 _).new aa _).new ar _;let an:upd (upd (upd H7 p8 (.Y (ks1.map V.str))) p9 (.Y (ks2.map V.str))) t (.Y (ks1.map V.str++ks2.map V.str)) t=U (.Y ((ks1++ks2).map V.str)):=by rw[aj,i4]
 generalize upd (upd (upd H7 p8 (.Y (ks1.map V.str))) p9 (.Y (ks2.map V.str))) t (.Y (ks1.map V.str++ks2.map V.str))=H10 at gD an|-;calc#[Qc _,λl hl=>?_];let al:H l=gV:=Ext.free gD hl;let ac:l≠r:=λz=>by subst z;let(a,b,z):=gD.2;rw[hl]at z;cases z
 let ao:t≠l:=ay an hl;let a0:Ext r H (upd H10 l (.Y [])):=gD.new hl _;refine#[_,rfl,_,rfl,(),(),?_]
 refine iw (n:=m) (λi σ Hi=>∃(I:List AA) (v9 X W:AF V),σ=[U (.ref r),U (.int m),U (.str "abcdefghijklmnopqrstuvwxyz"),U (.str y),U (.int d1),U (.int C),U (.int d3),U (.ref t),U (.ref l),v9,X,W]/\⇑I=i/\((∀x∈I,⇑x<=10)/\(∀x∈I,Lo x/\x≠"match")/\∀j x,I[j]?=U x->sQ (R7 y gV (U C)).cps.toList d1 j x)/\Hi l=U (.Y (I.map V.str))/\Hi t=U (.Y ((ks1++ks2).map V.str))/\Ext r H Hi)
  #[[],gV,gV,gV,rfl,rfl,#[(λ_ h=>nomatch h),(λ_ h=>nomatch h),(λj x h=>by simp at h)],aj,by rw[aB ao];calc an,a0] ?_ ?_
 .rintro i σ Hi hi ⟨I,v9,X,W,rfl,B,⟨Z,D,N⟩,G,ag,xi⟩;let hm:0<=(d1+7*(0+(i:Int))) % 26/\(d1+7*(0+(i:Int))) % 26<26:=()
  let(c,S,am):=atS (z:="abcdefghijklmnopqrstuvwxyz") (r:=(d1+7*(0+(i:Int))) % 26) hm.1 hm.2;calc#[_,rfl,_,rfl,_,rfl,_,_,rfl,rfl,.inl #[∅,∅],_,_,rfl,rfl,_,_,rfl,rfl,(by show(0:Int)<26;decide),_,_,c,rfl,rfl,∅,S,?_];let la:=X4 y gV (U C);let lb:=X4 y (U C) (U ((d3+(0+(i:Int))) % 5));calc#[_,rfl,_,rfl,_,rfl,_,rfl,small (),_,rfl,_,_,rfl,rfl,small (by show _+1<=1000;omega),?_];calc#[_,rfl,_,rfl,_,rfl,_,rfl,_,rfl,_,_,rfl,rfl,_,_,rfl,rfl,(by show(0:Int)<5;decide),_,rfl,_,rfl,small (),?_];let lc:⇑(R7 y gV (U C)++(⟨#[c]⟩:AA))=⇑(R7 y gV (U C))+1:=by rw[Vc];rfl
  calc#[_,_,rfl,rfl,small (),?_];let ln:⇑(R7 y gV (U C)++(⟨#[c]⟩:AA)++R7 y (U C) (U ((d3+(0+(i:Int))) % 5)))<=9:=by rw[Vc];omega
  let av:Lo (R7 y gV (U C)++(⟨#[c]⟩:AA)++R7 y (U C) (U ((d3+(0+(i:Int))) % 5))):=((hy.slice _ _).append (Lo.one am)).append (hy.slice _ _)
  let as:sQ (R7 y gV (U C)).cps.toList d1 i (R7 y gV (U C)++(⟨#[c]⟩:AA)++R7 y (U C) (U ((d3+(0+(i:Int))) % 5))):=by
   refine sQ.snoc #[c,[],?_,?_] _
   .rw[Yi]at S;exact S
   .show((R7 y gV (U C)).cps++#[c]).toList=_;rw[Ua]
  generalize R7 y gV (U C)++(⟨#[c]⟩:AA)++R7 y (U C) (U ((d3+(0+(i:Int))) % 5))=nm at ln as av|-;refine#[_,rfl,.inl #[rfl,_,aV.of G],_,rfl,_,rfl,_,rfl,t,_,rfl,.inl (aV.of ag),rfl,oh _,.inr #[_,rfl,?_]]
  let hb:nm="match"->pK (V.str nm) ((ks1++ks2).map V.str)=AD:=λe=>by
   rw[e];exact(wj _ _).trans (decide_eq_true (Qx _ ap))
  generalize pK (V.str nm) ((ks1++ks2).map V.str)=b at hb;let aq:(Qv "q").length=1:=∅
  let lq:(UM (Qv "q") (if b=AD then 1 else 0)).length<=1:=by let:=Mw b "q";rw[aq]at this;exact this
  let a5:(UM (Qv "q") (if(if AE=AD then !b else b)=AD then 1 else 0)).length<=1:=lq;refine#[_,_,rfl,rfl,by split<;>omega,by split<;>omega,?_,?_]
  .rw[aq];exact small (by cases b<;>decide)
  calc#[_,_,rfl,rfl,small (),?_];calc#[l,_,_,rfl,rfl,G,by rw[bM];calc bg (),?_];refine#[I++[nm++UM "q" (if b then 1 else 0)],_,_,_,rfl,by rw[mu,B];rfl,#[λx g=>?_,λx g=>?_,λj x g=>?_],by rw[aj,i4];rfl,by rw[aB ao];calc ag,?_]
  .rcases zv.mp g with h|h
   .exact Z x h
   .rw[vv.mp h,Vc];omega
  .rcases zv.mp g with h|h
   .exact D x h
   .rw[vv.mp h];refine#[av.append (Lo.q b),?_]
    cases b with
    |true=>calc Jw nm
    |false =>
     rw[show nm++UM (Qv "q") (if AE=AD then 1 else 0)=nm from HL nm];exact λe=>nomatch hb e
  .by_cases cj:j<⇑I
   .rw[Ri cj]at g;exact N j x g
   .have hj:j=i:=by let:=(eF.mp g).1;rw[mu]at this;simp at this;omega
    subst hj;rw[QZ (),B,WY]at g;simp at g;rw[<-g];exact as.snoc _
  .refine#[λb o nb e=>?_,?_]
   .rw[aB (ay e al)];exact xi.1 b o nb e
   .have(a,b,z):=xi.2;exact#[a,b,by rw[aB ac.symm];calc z]
 .rintro σ Hi ⟨I,v9,X,W,rfl,B,⟨Z,D,N⟩,G,ag,xi⟩;let fin:∀(Hf:Hp) (L:List AA),Ext r H Hf->Hf l=U (.Y (L.map V.str))->⇑L=m->(∀x∈L,⇑x<=20/\Lo x/\x≠"match"/\x≠"?")->Un L->Q (.ref l) Hf:=λHf L a b c d=>k l Hf L a al b c d;let Y:∀{Hf:Hp}(L:List AA),Ext r H Hf->Hf l=U (.Y (L.map V.str))->⇑L=m->(∀x∈L,⇑x<=20/\Lo x/\x≠"match"/\x≠"?")->Un L->JJ (jD 8) {nx:=λ_ H'=>Q .gu H',rt:=Q} [U (.ref r),U (.int m),U (.str "abcdefghijklmnopqrstuvwxyz"),U (.str y),U (.int d1),U (.int C),U (.int d3),U (.ref t),U (.ref l),v9,X,W] Hf:=λL a b c d u=>#[_,rfl,fin _ L a b c d u];let un:Un I:=sQ.PB () N
  let xq:∀x∈I,x≠"?":=λx g=>by
   let(j,hj):=QL g;exact(N j x hj).q
  let T:∀x∈I,⇑x<=20/\Lo x/\x≠"match"/\x≠"?":=λx g=>#[Qq (Z x g) ∅,(D x g).1,(D x g).2,xq x g];refine#[_,rfl,_,_,rfl,rfl,_,rfl,b8 (λc=>?_) (λc=>?_)]
  .have c1:1<m:=by let z:(1:Int)<(m:Int):=of_decide_eq_true c;omega
   obtain⟨M,J,x1,rfl⟩:∃M J x1,I=M++[J,x1]:=by
    rcases SN I with rfl|⟨a,x1,rfl⟩
    .simp at B;omega
    rcases SN a with rfl|⟨b,J,rfl⟩
    .simp at B;omega
    exact#[b,J,x1,by simp]
   let l2:⇑J<=10:=Z J (by simp);let a2:fM ((M++[J,x1]).map V.str) (-2)=U (.str J):=by rw[i4];exact K2 _ _ _
   refine#[_,rfl,_,rfl,l,_,_,_,rfl,rfl,aV.of G,a2,_,rfl,small (),_,_,rfl,rfl,_,rfl,b8 (λc=>?_) (λc=>?_)]
   .refine#[_,rfl,r,4,rfl,∅,∅,xi.2,λd4 a6 _ _ az=>?_];let xj:=xi.trans az;let ai:=az.1 l _ ac G;refine#[rfl,_,rfl,b8 (λc=>?_) (λc=>?_)]
    .refine#[_,rfl,_,rfl,l,_,_,_,rfl,rfl,aV.of ai,a2,_,_,rfl,rfl,small (by show _+1<=1000;omega),?_];refine#[_,rfl,_,rfl,l,_,_,⇑M+1,rfl,rfl,ai,?_,?_]
     .exact K7 _ _ (by simp)
     refine Y (M++[J,J++Qv "q"]) ?_ ?_ ?_ ?_ (sQ.last () ∅ N)
     .refine#[λb o nb e=>?_,?_]
      .rw[aB (ay e al)];exact xj.1 b o nb e
      .have(a,b,z):=xj.2;exact#[a,b,by rw[aB ac.symm];calc z]
     .rw[aj];simp
     .rw[<-B];simp
     .intro x g;simp at g;rcases g with h|rfl|rfl
      .exact T x (by simp[h])
      .exact#[(),(D _ (by simp)).1,(D _ (by simp)).2,xq _ (by simp)]
      .refine#[?_,(D J (by simp)).1.append Lo.q1,Jw _,?_]
       rotate_left
       .have(j,hj):=QL (show J∈M++[J,x1] by simp);exact((N j J hj).snoc _).q
       rw[Vc];let:(Qv "q").length=1:=∅
       omega
    .exact Y _ xj ai B T un
   .exact Y _ xi G B T un
  .exact Y _ xi G B T un
meta def nW(sp:Wds->Sp):Sp:=λd H Q E=>∃W:Wds,sp W d H Q E
meta abbrev qC(xs:List AA):Wds:=⟨λx=>x∈xs++(["zzzzzz","yy"]:List AA)/\x≠"match"/\x≠"?"⟩
def Bx {xs:List AA}(d:cH H f)(h:H l=U (.Y (xs.map V.str))):l≠f:=λz=>by
 let(p,q,e):=d;rw[<-z,h]at e;injection e with e;injection e with e
 cases xs with
 |nil=>cases e
 |cons y ys=>rw[Qd]at e;injection e with e;cases e
theorem Kk.lC :∀{k:Kk},k.ok xs↔k.core.ok xs
 |.num=>Iff.rfl
 |.kd _=>Iff.rfl
 |.op _=>Iff.rfl
 |.row k=>Kk.lC (k:=k)
meta def HZ(ah:List AA)(os:MC Int)(k:Kk)(d:MC Int):Prop:=(d=os/\k.ok ah)\/∃o e,os=e++[o]/\⇑os<4/\k.core=.op ((o+7) % 100)/\d=os++[(o+7) % 100]
meta def mK(K:cB):Sp:=λo H Q _=>∃(f m e:AB) (l:List AA) (j:MC Int),o=[.ref f,.ref m,.ref e]/\cH H f/\H m=U (.Y (l.map V.str))/\⇑l<=100/\H e=U (.Y (j.map V.int))/\e≠f/\⇑j<=100 /\
 ∀(v:V) (g:Hp) (k:Kk) (d:MC Int),dH [e] f H g->g e=U (.Y (d.map V.int))->Rp K g (jN k) v->HZ l j k d->k.dep<=2->Q v g
def bH :Nm Y5 (af dX):=∅
def eZ :Lm Y5 (af dX):=∅
def ez :aY Y5 Y3 (af dX):=by ac_rfl
def Ia (X:Ya "_law_take" 1 YO cg gT tfd)(z_range:mg "range"=gV)(hr:dZ 1 (A.deeper (Qj "_law_named_kind" (af dX) s⁻¹ f cdv))){D:L2.Ends}{H:Hp}{fe:AB}{v:V}{k0:Kk}{o1 o2 o3 u:AF V}(hf:cH H fe)(r:Rp K H (jN k0) v)(h0:k0.dep=0)(k:∀e B d,Ext fe H B->Rp K B (jN d) e->d.core=k0.core->d.dep<=2->D.rt e B):
  jA (Zk gy Y5 "_law_named_kind" (af dX) M).oS ((bE dX).drop 4) D [U (.ref fe),o1,o2,o3,U v,u] H:=by
 refine eY ((Z5 (Zl QU (Zr (Z1 (Zi (aZ[4]! (Z1 au (Z1 au (cU au (Za au))))) (Z0 X (cU (va bH 0) (Za au)))) ak)) (ga ez.nd eZ 5) (Zd (Z4 ez.nd eZ 4 (Ze (Z1 aC (Za (va bH 4))))))) (Zd (eX (va bH 4))))) ?_
 right
 right
 ext;calc nw λl M G W T=>?_;let gD:=hf.Z G;let O:=bj hf T;ext m L R Q C;let Z:aV K L l [.int 0,.int 0,.int 1,.int 2]:=aV.of (C.1 _ _ O W);let g:Ext fe H L:=((Ext.refl hf).Z G).trans C;let(z,Y,j):=mE (xs:=[V.int 0,.int 0,.int 1,.int 2]) (k:=m) R Q
 obtain⟨n,rfl,S⟩:∃n:Nat,z=.int n/\n<=2:=by
  simp only[P1,Qo,or_false]at j;rcases j with rfl|rfl|rfl|rfl
  .exact#[0,rfl,()]
  .exact#[0,rfl,()]
  .exact#[1,rfl,()]
  .exact#[2,rfl,()]
 ext;refine iw (n:=n) (λi q o=>∃e d u,q=[U (.ref fe),o1,o2,o3,U e,u]/\(Ext fe H o/\Rp K o (jN d) e/\d.core=k0.core/\d.dep=i)) #[v,k0,_,rfl,g,r.kt (g.kt hf),rfl,h0] ?_ ?_
 .rintro i q o hi ⟨e,d,_,rfl,t,r3,y,J⟩;ext p I;let N:=ae I (.J [.str "row",e]);exact#[_,.row d,_,rfl,t.Z N,Rp.new (K:=K) I (.cons .s (.one r3)),y,congrArg (·+1) J]
 .rintro q o ⟨e,d,_,rfl,t,r3,y,J⟩;ext;calc k _ _ d t r3 y ()
def EO (F:i9 K "_law_named_kind" "_law_named_kind" dX f fd)(TK:Ya "_law_take" 1 YO cg gT tfd)(z_range:mg "range"=gV)(d:mg "len"=gV):Yf gy 2 f fd Y3 (mK K):=by
 exists F.ok ez
 .have(_,_,_,_,_,rfl,_):=h;rfl
 let(u,gD,j,R,B,rfl,Z,J,af,I,r,ac,k):=h;refine#[_,(Z5 (Z4 ez.nd eZ 3 (Z0 TK (cU (va bH 0) (Za au)))) (Z5 (sa ez.nd eZ 4 aC) (Z5 (Zb (PW.pt (iY[7]! (Zp bV (va bH 3) au) (iu[4]! (Zh pS (Z2 aN d Qh (Za (va bH 1))) au)))) (Zd (Z4 ez.nd eZ 4 (Ze (Z1 aC (Z1 (Zi (va bH 1) (Z0 TK (Z1 (va bH 0) (Z1 (Z2 aN d Qh (Za (va bH 1))) ak)))) ak)))))) (Z5 (Zb (PW.pt (iY[7]! (Zp bV (va bH 3) au) (iu[4]! (Dt[12]! lQ lQ au (Z2 aN d Qh (Za (va bH 2))) au (by rfl'))))) (Z5 (Zm (Z8 (va bH 2) (Z1 (Zj gJ (Zj dU (fQ br (va bH 2) (kY i5 au) (λ_ _=>rfl)) au) au) ak))) (Zd (Z4 ez.nd eZ 4 (Ze (Z1 aC (Z1 (fQ br (va bH 2) (kY i5 au) (λ_ _=>rfl)) ak))))))) cZ)))),?_]
 right
 right
 calc qk ?_;intro N1 N2 N3 N4 c1 c2 C N;let G:=Bx Z J;ext fm H1 ao an y;let ai:=y.2;let aa:=y.1 _ _ G J;let am:=y.1 _ _ r I;let f1:dH [j] u H H1:=Ext.uc Z y
 let fin:∀{v:V}{e:Hp}{k0:Kk}{q:MC Int}{D:AF V},dH [j] u H e->e j=U (.Y (q.map V.int))->Rp K e (jN k0) v->k0.dep=0->(∀g:Kk,g.core=k0.core->HZ R B g q)->N4 [U (.ref u),U (.ref gD),U (.ref j),U (.int fm),U v,D] e:=λ{v e k0 q D} M h2 r2 hd ok=>by
  calc Cut.go N ?_;exact Ia TK z_range hr M.ff r2 hd λv' H' g x' r' m d'=>k v' H' g q (M.ext x') (x'.1 _ _ r h2) r' (ok g m) d'
 clear N
 let z:∀{v:V}{k0:Kk}{e:Hp}{D:AF V},Ext u H e->Rp K e (jN k0) v->k0.dep=0->(∀g:Kk,g.core=k0.core->g.ok R)->N3 [U (.ref u),U (.ref gD),U (.ref j),U (.int fm),U v,D] e:=λ{v k0 e D} x2 r2 hd ok=>by
  let L:=x2.1 _ _ r I;let M:dH [j] u H e:=Ext.uc Z x2;let same:N4 [U (.ref u),U (.ref gD),U (.ref j),U (.int fm),U v,D] e:=fin M L r2 hd λg m=>.inl #[rfl,ok g m];let lm:⇑(B.map V.int)=⇑B:=bM _;ext;refine b8 (λc=>?_) (λc=>?_)
  .ext;refine b8 (λC=>?_) (λC=>?_)
   .ext;refine b8 (λN=>?_) (λN=>?_)
    .have O:(0:Int)<(⇑(B.map V.int):Int):=of_decide_eq_true C;let ap:(⇑(B.map V.int):Int)<4:=of_decide_eq_true N
     obtain⟨l,o,rfl⟩:∃l o,B=l++[o]:=by
      rcases SN B with rfl|⟨a,b,rfl⟩
      .simp at O
      .exact#[a,b,U5]
     let al:fM ((l++[o]).map V.int) (-1)=U (.int o):=by rw[i4];exact tN _ _
     let aq:fM ((l++[o]).map V.int++[.int ((o+7) % 100)]) (-1)=U (.int ((o+7) % 100)):=tN _ _;let ll:⇑((l++[o]).map V.int)<my:=bg ();let ab:aV K (upd e j (.Y ((l++[o]).map V.int++[.int ((o+7) % 100)]))) j ((l++[o]).map V.int++[.int ((o+7) % 100)]):=aV.of aj;let f3:dH [j] u H (upd e j (.Y ((l++[o]).map V.int++[.int ((o+7) % 100)]))):=M.upd (vv.mpr rfl) r L;let h3:upd e j (.Y ((l++[o]).map V.int++[.int ((o+7) % 100)])) j=U (.Y ((l++[o]++[(o+7) % 100]).map V.int)):=by rw[aj,i4 (l₁:=l++[o])];rfl
     ext p hp;let s4:=ae hp (.J [.str "open",.int ((o+7) % 100)]);exact fin (k0:=.op ((o+7) % 100)) (f3.Z s4) (s4 _ _ h3) (Rp.new (K:=K) hp (.cons .s (.one .i))) rfl λg m=>.inr #[o,l,rfl,(),m,rfl]
    .ext;exact same
   .ext;exact same
  .ext;exact same
 clear C;ext;refine b8 (λc=>?_) (λc=>?_)
 .ext;refine b8 (λC=>?_) (λC=>?_)
  .have O:(0:Int)<(⇑(R.map V.str):Int):=of_decide_eq_true C;let ad:(⇑(R.map V.str):Int)<1073741824:=by rw[bM];omega
   ext r5 H5 T S x5;let h5:=x5.1 _ _ G aa;let(v5,ag,Y):=mE (xs:=R.map V.str) T S;let(y5,W,rfl):=Qa.mp Y;ext p6 X;let s6:=ae X (.J [.str "kind",.str y5]);exact z (k0:=.kd y5) (y.trans (x5.Z s6)) (Rp.t (b9.of aj) (.cons .s (.one .s))) rfl (λg m=>by rw[Kk.lC,m];calc W)
  .ext;exact z (k0:=.num) y .s rfl (λg m=>by rw[Kk.lC,m];calc True.intro)
 .ext;calc z (k0:=.num) y .s rfl (λg m=>by rw[Kk.lC,m];calc True.intro)
meta def MS(xs:List AA)(t:AA×MC Kk):Prop:=⇑t.2<=2/\∀c∈t.2,c.ok xs/\c.dep<=2
structure CP(xs:List AA) (kl:Kl):Prop where
 nm:kl.map (·.1)=xs.take ⇑kl
 tg:oR kl=(xs.drop 3).take ⇑(oR kl)
 pt:∀i k,kl[i]?=U k->1<=⇑k.2/\⇑k.2<=3/\∀t∈k.2,MS (xs.take i) t
meta def By(K:cB):Sp:=λl H Q _=>∃(f j:AB) (d:List AA),l=[.ref f,.ref j]/\cH H f/\H j=U (.Y (d.map V.str))/\⇑d=24 /\
 ∀(v:V) (g:Hp) (e:Kl),Ext f H g->CP d e->⇑e<=3->Rp K g (.t (e.map fP)) v->Q v g
structure PF(K:cB) (f lf:AB) (xs:List AA) (H:Hp) (i:Nat) (at_:Int) (H':Hp):Prop where
 x:∃(kl:Kl) (vs:MC V),dH [] f H H'/\H' lf=U (.Y vs)/\bS K H' (kl.map fP) vs/\⇑kl=i/\CP xs kl/\at_=3+⇑(oR kl)/\⇑(oR kl)<=3*i
structure HJ(K:cB) (f lo:AB) (xs:List AA) (H:Hp) (i ML j:Nat) (at_:Int) (H':Hp):Prop where
 x:∃(own:MC (AA×MC Kk)) (us:MC V),dH [lo] f H H'/\H' lo=U (.Y us)/\bS K H' (own.map j4) us/\⇑own=j/\own.map (·.1)=((xs.drop 3).drop ML).take j/\(∀t∈own,MS (xs.take i) t)/\at_=3+ML+j
structure HP(K:cB) (f:AB) (xs:List AA) (H:Hp) (i:Nat) (us:MC V) (H':Hp):Prop where
 x:∃(ps:MC Kk),dH [] f H H'/\bS K H' (ps.map jN) us/\⇑ps=i/\∀c∈ps,c.ok xs/\c.dep<=2
def dF :Nm YZ (af kh):=∅
def iN :Lm YZ (af kh):=∅
def iq :aY YZ Γe (af kh):=by ac_rfl
def ER (F:i9 K "_law_heads" "_law_heads" kh f fd)(TK:Ya "_law_take" 1 YO cg gT tfd)(be:Ya "_law_named_kind" 2 Y3 (mK K) gA afd)(z_range:mg "range"=gV)(g:mg "tuple"=gV):Yf gy 3 f fd Γe (By K):=by
 exists F.ok iq
 .have(_,_,_,rfl,_):=h;rfl
 let(R,ln,xs,rfl,hf,hn,hx,k):=h;refine#[_,(Z5 (sa iq.nd iN 2 (aZ ak)) (Z5 (sa iq.nd iN 3 au) (Z5 (Zl QU (Zr (Z1 (Z0 TK (cU (va dF 0) (Za au))) ak)) (ga iq.nd iN 4) (Z5 (sa iq.nd iN 5 (aZ ak)) (Z5 (Zl QU (Zr (Z1 (Zj dU au (Z0 TK (cU (va dF 0) (Za au)))) ak)) (ga iq.nd iN 6) (Z5 (nF[15]! (af kh) YZ ["_law_i"] [0,1,4] rfl rfl rfl ∅ (Zr (Z1 (Z0 TK (cU (va dF 0) (Za au))) ak)) (λ_ _ _ _=>(X1 ZF 0)) (λ_ _ _ _=>fj) (λ_ _ _ _=>(Z0 be (Z1 (Xt ZF 1) (Z1 (Zq (DR K rfl) (Xt ZF 2) bW (bL (Xt ZF 3))) (Za (aZ ak)))))) (ga iq.nd iN 7) (by kernel_rfl) (by intro _;rfl)) (Z5 (Zm (Z8 (va dF 5) (Z1 (Ze (Z1 (fQ br (va dF 1) (va dF 3) (λ_ _=>rfl)) (Z1 (Z6 bh g Qg (Za (va dF 7))) ak))) ak))) (Zd (Z4 iq.nd iN 3 (bX dU (va dF 3) au)))))) (Zd (Zm (Z8 (va dF 2) (Z1 (Ze (Z1 (fQ br (va dF 1) (va dF 4) (λ_ _=>rfl)) (Z1 (Z6 bh g Qg (Za (va dF 5))) ak))) ak))))))) (Zd (Zo (Z6 bh g Qg (Za (va dF 2)))))))),?_]
 right
 right
 ext;calc nw λlf H1 s1 h1 as=>?_;let f1:dH [] R H H1:=(dH.refl hf).Z s1;let b1:=f1.ff;ext m H2 m0 m1 x2;let f2:=f1.ext x2;let W:=bj hf as;let h2:=x2.1 _ _ W h1;let B:=Bx hf hn;ext;refine iw (n:=m.toNat) (λi J H3=>(∃(C:Int) (y4 y5 y6 y7:AF V),J=[U (.ref R),U (.ref ln),U (.ref lf),U (.int C),y4,y5,y6,y7]/\G16.PF K R lf xs H i C H3)) #[3,_,_,_,_,rfl,#[[],[],f2,h2,.nil,rfl,#[rfl,rfl,λi k h=>by cases h],rfl,Qc _]] ?_ ?_
 .rintro i J H3 hi ⟨C,_,_,_,_,rfl,⟨Z,vs,f3,h3,r3,lk,ok,ha,a7⟩⟩;let a4:=f3.ff;ext;calc nw λlo H4 s4 h4 X=>?_;let f4:=f3.Z s4;let a3:=f4.ff;ext m5 H5 bo bn x5;let f5:=f4.ext x5;let gD:=bj a4 X;let ad:lf≠lo:=ay h3 X;let h5:=x5.1 _ _ gD h4;let a9:=x5.1 _ _ W (s4 _ _ h3);let r5:=(r3.Z s4).kt (x5.kt a3);let al:=x5.1 _ _ B (s4 _ _ (f3.D4 B hn));let G:ln≠lo:=ay (f3.D4 B hn) X;ext;refine iw (n:=(1+m5).toNat) (λj J H6=>(∃(C:Int) (y6 y7:AF V),J=[U (.ref R),U (.ref ln),U (.ref lf),U (.int C),U (.int (0+(i:Int))),U (.ref lo),y6,y7]/\HJ K R lo xs H5 i ⇑(oR Z) j C H6)) #[C,_,_,rfl,#[[],[],dH.refl f5.ff,h5,.nil,rfl,rfl,λt h=>(nomatch h),()]] ?_ ?_
  .rintro j J H6 hj ⟨p,_,_,rfl,⟨own,S,f6,h6,r6,ah,ab,ac,a6⟩⟩;let a2:=f6.ff;ext m7 H7 bm bl x7;let f7:=f6.ext x7;ext;refine pH (n:=m7.toNat) (λi7 J S H8=>(∃y,J=[y,U (.ref R),U (.ref ln),U (.int (0+(i:Int)))])/\HP K R (xs.take i) H7 i7 S H8) #[#[_,rfl],#[[],dH.refl x7.2,.nil,rfl,λc h=>by cases h]] ?_ (small ()) ?_ ?_
   .rintro i7 J S H8 h ⟨_,⟨ps,_,r,e,_⟩⟩;rw[⇑r,bM,e];exact u4 _
   .rintro i7 J us7 H8 hi7 ⟨⟨_,rfl⟩,⟨ps,f8,r8,l8,o8⟩⟩;let bv:H8 ln=U (.Y (xs.map V.str)):=f8.D4 B (f7.gm G B al);let b0:=f8.ff;let e0:gx (xs.map V.str) gV (U (0+(i:Int)))=(xs.take i).map V.str:=by rw[Yi,dm,RK]
    ext;calc nw λl9 H9 s9 h9 bx=>?_;rw[e0]at h9;let f9:=f8.Z s9;ext;calc nw λlq Hq sq az ar=>?_;let hq:Hq lq=U (.Y (([]:MC Int).map V.int)):=az;let bt:=sq _ _ h9;let fq:=f9.Z sq;let bz:=fq.ff;let bk:lq≠R:=bj f9.ff ar;let bp:⇑(xs.take i)<=100:=by rw[I0];omega
    let l0:⇑([]:MC Int)<=100:=Qc _;ext bi an ai bf ax _ D a1 bc
    let ao:ai.ok (xs.take i)/\ai.dep<=2:=by
     calc#[?_,bc];rcases a1 with⟨_,z⟩|⟨o,ot,z,_⟩
     .exact z
     .cases ot<;>cases z
    let bb:dH [] R H7 an:=(fq.more.trans ax).drop (f9.free ar nofun)
    ext;exact#[ps++[ai],bb,by rw[i4];calc(((r8.Z s9).Z sq).kt ax.kt).snoc D,by rw[mu,l8];rfl,λc hc=>(zv.mp hc).elim (o8 c) (λh=>by rw[vv.mp h];calc ao)]
   .rintro J us7 H8 ⟨⟨_,rfl⟩,⟨ps,f8,r8,l8,o8⟩⟩ p9 hp9;let s9:=ae hp9 (.Y us7);let h9:upd H8 p9 (.Y us7) p9=U (.Y us7):=aj;let r9:=r8.Z s9;generalize upd H8 p9 (.Y us7)=H9 at s9 h9 r9|-;let f9:=f8.Z s9;let ap:H9 lo=U (.Y S):=f9.D4 gD (x7.1 _ _ gD h6);let bs:⇑S<my:=bg (by rw[⇑r6,bM];omega);let bu:H9 ln=U (.Y (xs.map V.str)):=f9.D4 B (f7.gm G B al);let a5:p.toNat<⇑xs:=()
    let aw:fM (xs.map V.str) p=U (.str xs[p.toNat]):=by
     let:=aG (xs:=xs.map V.str) (j:=p.toNat) (v:=.str xs[p.toNat]) (by rw[EF,pC a5];rfl);rw[show((p.toNat:Nat):Int)=p by omega]at this;exact this
    ext;calc .inl #[aV.of h9,λT d=>?_];let q:=ae d (.J us7);let D:=Rp.new (K:=K) d r9;let N:=q _ _ ap;generalize upd H9 T (.J us7)=an at q D N|-;ext;calc nw λL am u I aq=>?_;let aa:=Rp.nw (K:=K) (xs:=[.s xs[p.toNat],.t (ps.map jN)]) I u (.cons .s (.one D));let M:=u _ _ N;let Y:=(f9.Z q).Z u;let ba:dH [lo] R H5 am:=f7.trans Y.more;let O:=Kt.Y (l:=lo) M (.Y (S++[.ref L]));ext;refine#[own++[(xs[p.toNat],ps)],S++[.ref L],ba.upd (vv.mpr rfl) gD M,aj,?_,by rw[mu,ah];rfl,?_,λt hm=>(zv.mp hm).elim (ac t) (λh=>by rw[vv.mp h];calc#[by show ⇑ps<=2;omega,o8]),()]
    .rw[i4];exact(((r6.kt (x7.kt a2)).kt Y.kt).kt O).snoc (aa.kt O)
    .rw[i4,ab,we (by rw[QF,QF];omega),Yj,Yj];let ei:p.toNat=3+(⇑(oR Z)+j):=()
     simp only[ei];rfl
  .rintro J H6 ⟨p,_,_,rfl,⟨own,S,f6,h6,r6,ah,ab,ac,a6⟩⟩;let a8:=f6.gm ad W a9;let a0:=r5.kt f6.kt;let bw:H6 ln=U (.Y (xs.map V.str)):=f6.gm G B al;let bq:⇑vs<my:=bg (by rw[⇑r3,bM];omega);let av:i<⇑xs:=()
   let aw:fM (xs.map V.str) (0+(i:Int))=U (.str xs[i]):=by
    rw[Yi];exact aG (by rw[EF,pC av];rfl)
   ext;calc .inl #[aV.of h6,λT d=>?_];let q:=ae d (.J S);let D:=Rp.new (K:=K) d r6;let N:=q _ _ a8;generalize upd H6 T (.J S)=an at q D N|-;ext;calc nw λL am u I aq=>?_;let aa:=Rp.nw (K:=K) (xs:=[.s xs[i],.t (own.map j4)]) I u (.cons .s (.one D));let M:=u _ _ N;let Y:dH [] R H am:=((f5.more.trans f6).drop (f3.free X nofun)).Z (q.trans u)
   let O:=Kt.Y (l:=lf) M (.Y (vs++[.ref L]));ext
   let et:oR (Z++[(xs[i],own)])=oR Z++own.map (·.1):=by
    unfold oR;rw[Q4];simp
   let ag:⇑(own.map (·.1))=⇑own:=bM _;refine#[Z++[(xs[i],own)],vs++[.ref L],Y.DZ as W M,aj,?_,by rw[mu,lk];rfl,#[?_,?_,?_],?_,?_]
   .rw[i4];exact((a0.Z (q.trans u)).kt O).snoc (aa.kt O)
   .rw[i4,ok.nm,mu,lk,show [(xs[i],own)].length=1 from rfl,we av];rfl
   .rw[et,mu,ag,ab,ok.tg,I0,QF,SW ()]
    conv=>lhs;rw[ah.symm]
    rw[List.take_add]
   .intro i' k' e'
    by_cases c:i' < ⇑Z
    .rw[Ri c]at e';exact ok.pt i' k' e'
    .rw[QZ ()]at e'
     let:i'=i:=by
      let:=(eF.mp e').1;let:[(xs[i],own)].length=1:=rfl;omega
     subst this;rw[lk,WY]at e'
     cases e'
     exact#[by show 1<=⇑own;omega,by show ⇑own<=3;omega,ac]
   .rw[et,mu,ag];omega
   .rw[et,mu,ag];omega
 .rintro J H3 ⟨C,_,_,_,_,rfl,⟨Z,vs,f3,h3,r3,lk,ok,ha,a7⟩⟩;ext;calc .inl #[aV.of h3,λT d=>?_];let q:=ae d (.J vs);exact k _ _ Z (f3.Z q).ex ok () (Rp.new (K:=K) d r3)
variable [Wds]
meta def Gd(kl:Kl)(ds:MC (AA×Nat))(ns:List AA)(g g':MC Int)(j:Tm):Prop:=∀e:MC Int,(∀x∈e,x∈g)->∃d,sD kl ds e ns j=.ok d/\∀x∈d,x∈g'
meta def Jx(kl:Kl)(ds:MC (AA×Nat))(ns:List AA)(g g':MC Int)(bs:MC (List AA))(ks:MC Tm):Prop:=∀e:MC Int,(∀x∈e,x∈g)->∃d,m6 kl ds e ns bs ks=.ok d/\∀x∈d,x∈g'
def BA :Jx kl ds ns g g bs []:=λd h=>#[d,kQ ..,h]
def ES (h:Gd kl ds (ns++b) g g1 k)(hs:Jx kl ds ns g1 g2 bs ks):Jx kl ds ns g g2 (b::bs) (k::ks):=λo m=>by
 let(e,q,l):=h o m;let(d,p,j):=hs e l;calc#[d,by rw[iV,q];calc p,j]
def Jy (ht:∀d,fU kl ds d ns h ⇑ks=.ok d)(hs:Jx kl ds ns g g' (bnd h ⇑ks) ks):Gd kl ds ns g g' (.mk h ks):=λd j=>by
 let(x,e,m):=hs d j;calc#[x,by rw[rH,ht d];calc e,m]
def K8 (h:n∉g):Gd kl ds ns g (g++[n]) (.mk (.gap n) []):=λd e=>by
 refine#[d++[n],?_,λx hx=>?_]
 .rw[rH]
  show(match(if n∈d then Except.error (Er.tw,("?":AA))else .ok (d++[n]))with
   |.error f=>Except.error f
   |.ok gs'=>m6 kl ds gs' ns (bnd (.gap n) 0) [])=_
  rw[if_neg (λz=>h (e n z))];exact kQ ..
 .rcases zv.mp hx with hx|hx
  .exact zv.mpr (.inl (e x hx))
  .exact zv.mpr (.inr hx)
def Jx.wk (h:Jx kl ds ns g g1 bs ks)(m:∀x∈g1,x∈g2):Jx kl ds ns g g2 bs ks:=λl j=>by
 let(x,e,q):=h l j;calc#[x,e,λy d=>m y (q y d)]
meta def pL(f0:Int)(m:Nat):MC Int:=(Si m).map λ(k:Nat)=>(f0+11*(k:Int)) % 100
def Ib (h:m<=m'):∀x∈pL f0 m,x∈pL f0 m':=λx d=>by
 let(k,e,rfl):=Qa.mp d;calc Qa.mpr #[k,SG.mpr (P8 (SG.mp e) h),rfl]
def xS (f0:Int)(m:Nat):pL f0 (m+1)=pL f0 m++[(f0+11*(m:Int)) % 100]:=by
 unfold pL;rw[Vp,i4];rfl
def K9 (h:m<5):(f0+11*(m:Int)) % 100∉pL f0 m:=λz=>by
 let(k,g,e):=Qa.mp z;let d:=SG.mp g;omega
def La (f0:Int)(m:Nat):⇑(pL f0 m)=m:=by
 unfold pL;rw[bM,UP]
structure mL(kl:Kl) (ds:MC (AA×Nat)) (f0:Int) (ns:List AA) (m m' z d:Nat) (tm:Tm):Prop where
 wn:Wn tm
 ta:Ta tm
 sz:tm.size<=z
 dp:tm.depth<=d
 gd:Gd kl ds ns (pL f0 m) (pL f0 m') tm
 mm:m<=m'
structure jL(kl:Kl) (ds:MC (AA×Nat)) (f0:Int) (ns:List AA) (bs:MC (List AA)) (m m' z d:Nat) (ks:MC Tm):Prop where
 wn:∀k∈ks,Wn k
 ta:∀k∈ks,Ta k
 sz:Tm.sizes ks<=z
 dp:∀k∈ks,k.depth<=d
 gd:Jx kl ds ns (pL f0 m) (pL f0 m') bs ks
 mm:m<=m'
def jL.nil (h:m<=m1):jL kl ds f0 ns bs m m1 0 d []:=#[(λ_ h=>nomatch h),(λ_ h=>nomatch h),(by simp[Tm.sizes]),(λ_ h=>nomatch h),BA.wk (Ib h),h]
def jL.cons (h:mL kl ds f0 (ns++b) m m1 z d k)(t:jL kl ds f0 ns bs m1 m2 z1 d ks):jL kl ds f0 ns (b::bs) m m2 (z+z1) d (k::ks) :=
 #[λx g=>(P1.mp g).elim (λe=>e▸h.wn) (t.wn x),λx g=>(P1.mp g).elim (λe=>e▸h.ta) (t.ta x),by rw[Tm.bT];let:=h.sz;let:=t.sz;omega,λx g=>(P1.mp g).elim (λe=>e▸h.dp) (t.dp x),ES h.gd t.gd,Qq h.mm t.mm]
def jL.jq (h:mL kl ds f0 ns m m1 z d k)(t:jL kl ds f0 ns bs m1 m2 z1 d ks):jL kl ds f0 ns ([]::bs) m m2 (z+z1) d (k::ks):=jL.cons (b:=[]) (by rw[QM];calc h) t
theorem wq :∀{ks:MC Tm},(∀k∈ks,k.depth<=d)->Tm.mC ks<=d
 | [],_=>by rw[Tm.mC];calc Qc _
 |k::r,h=>by rw[Tm.mC];calc YI.mpr #[h k (.head _),wq λx e=>h x (.tail _ e)]
def mL.Ic (l:dc h ⇑ks=AD)(j:∀b∈bnd h ⇑ks,⇑b<=5)(o:uA h)(g:HW h)(ht:∀e,fU kl ds e ns h ⇑ks=.ok e)(t:jL kl ds f0 ns (bnd h ⇑ks) m m1 z d ks)(p:z+1<=z1):mL kl ds f0 ns m m1 z1 (d+1) (.mk h ks):=by
 refine#[.mk l j t.wn,.mk o g t.ta,by rw[Tm.eG];let:=t.sz;omega,?_,Jy ht t.gd,t.mm]
 cases ks with
 |nil=>rw[Tm.depth];calc Qc _
 |cons k r=>rw[Tm.pB];calc U9 (wq t.dp)
def mL.leaf (o:dc h 0=AD)(l:∀b∈bnd h 0,⇑b<=5)(p:uA h)(j:HW h)(ht:∀e,fU kl ds e ns h 0=.ok e)(g:1<=z):mL kl ds f0 ns m m z d (.mk h []):=by
 refine#[.mk o l (λ_ h=>nomatch h),.mk p j (λ_ h=>nomatch h),by rw[Tm.eG];simp[Tm.sizes];calc g,by rw[Tm.depth];calc Qc _,Jy ht BA,u4 _]
def mL.gap (h:m<5)(g:1<=z):mL kl ds f0 ns m (m+1) z d (.mk (.gap ((f0+11*(m:Int)) % 100)) []):=by
 refine#[.mk rfl (λb j=>by cases j) (λ_ h=>nomatch h),.mk (λ_ e=>nomatch e) True.intro (λ_ h=>nomatch h),by rw[Tm.eG];simp[Tm.sizes];calc g,by rw[Tm.depth];calc Qc _,?_,QT _]
 rw[xS];calc K8 (K9 h)
def mL.wk (h:mL kl ds f0 ns m m1 z d g){e d':Nat}(j:z<=e)(hd:d<=d'):mL kl ds f0 ns m m1 e d' g:=#[h.wn,h.ta,Qq h.sz j,Qq h.dp hd,h.gd,h.mm]
def iO (q:∀arms,h≠.mat arms):uA h:=λarms e=>absurd e (q arms)
def mO :∀b∈(P7 n ([]:List AA)),⇑b<=5:=λb e=>by rw[(Up.mp e).2];calc Qc _
meta def zT(k:Kk):Prop:=(∀x,k.core=.kd x->Wo x)/\k.dep<=2
meta def CQ(k:AA×MC (AA×MC Kk)):Prop:=1<=⇑k.2/\⇑k.2<=3/\(∀t∈k.2,⇑t.2<=2)/\Wo k.1/\∀t∈k.2,Wo t.1/\∀c∈t.2,zT c
meta def EU(d:Df):Prop:=Wo d.1/\∀p∈d.2.1,Wo p.1/\zT p.2
structure Jz(kl:Kl):Prop where
 nk:(kl.map (·.1)).Nodup
 nt:(oR kl).Nodup
 l3:⇑kl<=3
 pt:∀k∈kl,1<=⇑k.2/\⇑k.2<=3/\∀t∈k.2,⇑t.2<=2
 nw:∀k∈kl,Wo k.1/\∀t∈k.2,Wo t.1
meta def yo(kl:Kl):MC (AA×Nat):=kl.flatMap λk=>k.2.map λt=>(t.1,⇑t.2)
theorem mQ (key:d->AA):∀{l:List d}{x:d},(l.map key).Nodup->x∈l->l.find? (λy=>decide (key y=key x))=U x
 |y::r,x,hn,hx=>by
  rw[Qd,RZ]at hn;rw[Rz];rcases P1.mp hx with rfl|hx
  .rw[decide_eq_true rfl]
  .have:key y≠key x:=λe=>hn.1 (e▸QI hx);rw[decide_eq_false this];calc mQ key hn.2 hx
def BB (h:Jz kl){k:AA×MC (AA×MC Kk)}(d:k∈kl){t:AA×MC Kk}(ht:t∈k.2):iX kl t.1=U (t.1,k.1,t.2):=by
 unfold iX;let:=mQ (λx:AA×AA×MC Kk=>x.1) (l:=tl kl) (x:=(t.1,k.1,t.2)) (by rw[uo];calc h.nt) (RB.mpr #[k,d,Qa.mpr #[t,ht,rfl]]);calc this
def MT (h:Jz kl){k:AA×MC (AA×MC Kk)}(d:k∈kl):u7 kl k.1=U k:=mQ (λk:AA×MC (AA×MC Kk)=>k.1) h.nk d
def Lb (h:Jz kl){p:AA×Nat}(d:p∈yo kl):∃y,iX kl p.1=U y/\⇑y.2.2=p.2:=by
 let(k,g,d):=RB.mp d;let(t,e,rfl):=Qa.mp d;calc#[_,BB h g e,rfl]
def EV (h:Jz kl):⇑(yo kl)<=9:=by
 let:∀l:Kl,(∀k∈l,⇑k.2<=3)->⇑(yo l)<=⇑l*3:=by
  intro l
  induction l with
  |nil=>intro _;calc Qc _
  |cons k r ih =>
   intro d;let m:=d k (.head _);let j:=ih λx e=>d x (.tail _ e);unfold yo at j|-;rw[Sf,mu,bM,Qn,WV];omega
 let:=this kl λk g=>(h.pt k g).2.1;let:=h.l3;omega
def Ie (h:Jz kl){k:AA×MC (AA×MC Kk)}(j:k∈kl){d:MC (AA×MC Kk)}(v:d.Perm k.2){arms:MC (AA×List AA)}(C:arms.map (·.1)=d.map (·.1))(L:∀(i:Nat) (a:AA×List AA) (t:AA×MC Kk),arms[i]?=U a->d[i]?=U t->⇑a.2=⇑t.2/\cy [] a.2=gV):gE kl arms=gV:=by
 let g:⇑arms=⇑d:=by let:=congrArg Us C;rwa [bM,bM]at this
 let I:⇑d=⇑k.2:=v.length_eq;let Q:=(h.pt k j).1
 let mem:∀a∈arms,∃t,t∈k.2/\t.1=a.1/\⇑a.2=⇑t.2/\cy [] a.2=gV:=λa J=>by
  let(i,z):=QL J;let m:i<⇑d:=by rw[<-g];exact(eF.mp z).1
  let D:=pC m
  let e:a.1=(d[i]).1:=by
   let q:=congrArg (λl=>l[i]?) C;simp only[EF,z,D,Sk]at q;exact Qw q
  let(q1,o):=L i a _ z D;exact#[d[i],v.mem_iff.mp (Qz m),e.symm,q1,o]
 cases arms with
 |nil=>rw[Tq]at g;omega
 |cons a r =>
  let H:(a::r).find? (λb=>decide ((iX kl b.1).isSome=AE))=gV:=by
   rw[VT];intro b B;let(t,u,e,_):=mem b B;rw[<-e,BB h j u];simp
  let(O,p,N,_):=mem a (.head _)
  let M:((((iX kl a.1).bind λy=>u7 kl y.2.1).map λk=>k.2.map (·.1)).getD [])=k.2.map (·.1):=by
   rw[<-N,BB h j p];show(((u7 kl k.1).map λk=>k.2.map (·.1)).getD [])=_;rw[MT h j];rfl
  let G:((a::r).map (·.1)).isPerm (k.2.map (·.1))=AD:=by
   rw[Ue,C];exact v.map _
  let fs:(a::r).findSome? (j5 kl)=gV:=by
   rw[VU];intro b B;let(t,u,e,q1,o):=mem b B;unfold j5;rw[<-e,BB h j u];dsimp only;rw[if_pos q1,o];rfl
  unfold gE;dsimp only;rw[H];dsimp only;rw[M,if_pos G];calc fs
structure Sn where
 kd:AB
 ln:AB
 ld:AB
 lg:AB
 lt:AB
 f0:Int
meta def AL(S:Sn):MC (Key×V):=[(ky "kinds",.ref S.kd),(ky "names",.ref S.ln),(ky "defs",.ref S.ld),(ky "gaps",.ref S.lg),(ky "first",.int S.f0),(ky "tags",.ref S.lt)]
meta def EW(p:AA×Nat):T:=.t [.s p.1,.i p.2]
structure fH(K:cB) (H:Hp) (f d:AB) (S:Sn) (kl:Kl) (nm:List AA) (ds:MC (AA×Nat)) (m:Nat):Prop where
 sd:H d=U (.dK (AL S))
 kd:Rp K H (.t (kl.map fP)) (.ref S.kd)
 ln:H S.ln=U (.Y (nm.map V.str))
 l6:⇑nm=6
 un:Un nm
 ld:∃vs,H S.ld=U (.Y vs)/\bS K H (ds.map EW) vs
 lt:∃vs,H S.lt=U (.Y vs)/\bS K H ((yo kl).map EW) vs
 lg:H S.lg=U (.Y ((pL S.f0 m).map V.int))
 m5:m<=5
 f0:0<=S.f0/\S.f0<100
 ff:cH H f
 nf:d≠f/\S.ln≠f/\S.ld≠f/\S.lg≠f/\S.lt≠f
 ng:S.ln≠S.lg/\S.ld≠S.lg/\S.lt≠S.lg
 kk:Jz kl
 dn:(ds.map (·.1)).Nodup
 dl:⇑ds<=8
 d3:∀p∈ds,p.2<=3
 nw:∀x∈nm,Wo x
 dw:∀p∈ds,Wo p.1
def fH.go (s:fH K H f d S kl nm ds m)(fr:dH [S.lg] f H H')(q:H' S.lg=U (.Y ((pL S.f0 m').map V.int)))(r:m'<=5):fH K H' f d S kl nm ds m':=by
 let(p,o,l,D,j):=s.nf;let(v,u,t):=s.ng;let(y,C,B):=s.ld;let(e,t1,t2):=s.lt;let g:d≠S.lg:=jw s.sd s.lg nofun
 calc#[fr.gm g p s.sd,s.kd.kt fr.kt,fr.gm v o s.ln,s.l6,s.un,#[y,fr.gm u l C,B.kt fr.kt],#[e,fr.gm t j t1,t2.kt fr.kt],q,r,s.f0,fr.ff,s.nf,s.ng,s.kk,s.dn,s.dl,s.d3,s.nw,s.dw]
def fH.ext (s:fH K H f d S kl nm ds m)(e:Ext f H H'):fH K H' f d S kl nm ds m:=s.go (Ext.uc s.ff e) (e.1 _ _ s.nf.2.2.2.1 s.lg) s.m5
def fH.Z (s:fH K H f d S kl nm ds m)(e:aS H H'):fH K H' f d S kl nm ds m:=s.ext ((Ext.refl s.ff).Z e)
def fH.get (s:fH K H f d S kl nm ds m)(e:eM (AL S) (ky y)=U v):fX H d (.str y) (U v):=by
 let h:=fX.k (k:=ky y) s.sd;rw[e]at h;calc h
def zI (S:Sn):eM (AL S) (ky "kinds")=U (.ref S.kd):=by kernel_rfl
def uE (S:Sn):eM (AL S) (ky "names")=U (.ref S.ln):=by kernel_rfl
def xT (S:Sn):eM (AL S) (ky "defs")=U (.ref S.ld):=by kernel_rfl
def BC (S:Sn):eM (AL S) (ky "gaps")=U (.ref S.lg):=by kernel_rfl
def EX (S:Sn):eM (AL S) (ky "first")=U (.int S.f0):=by kernel_rfl
def BD (S:Sn):eM (AL S) (ky "tags")=U (.ref S.lt):=by kernel_rfl
structure MU(K:cB) (f d:AB) (S:Sn) (kl:Kl) (nm:List AA) (ds:MC (AA×Nat)) (ns:List AA) (m z dp:Nat) (H H':Hp) (v:V) (tm:Tm) (m':Nat):Prop where
 sc:fH K H' f d S kl nm ds m'
 fr:dH [S.lg] f H H'
 r:Rp K H' (enc tm) v
 g:mL kl ds S.f0 ns m m' z dp tm
meta def xU(K:cB):Sp:=λq H Q _=>∃(f d g:AB) (S:Sn) (l:Kl) (j:List AA) (o:MC (AA×Nat)) (e:List AA) (m:Nat),q=[.ref f,.ref d,.ref g]/\fH K H f d S l j o m/\H g=U (.Y (e.map V.str))/\g≠f/\⇑e<=100/\(∀x∈e,Wo x) /\
 ∀(v:V) (p:Hp) (r:Tm) (t:Nat),MU K f d S l j o e m 1 0 H p v r t->Q v p
meta def fK(K:cB)(n:Nat):Sp:=λt H Q _=>∃(f d l:AB) (g e:Int) (S:Sn) (p:Kl) (o:List AA) (q:MC (AA×Nat)) (j:List AA) (m:Nat),t=[.ref f,.ref d,.ref l,.int g,.int e]/\fH K H f d S p o q m/\H l=U (.Y (j.map V.str))/\l≠f/\l≠S.lg/\0<=g/\g<=100/\0<=e/\e<n/\⇑j+2*e.toNat<=80/\(∀x∈j,Wo x) /\
 ∀(v:V) (r:Hp) (u:Tm) (y:Nat),MU K f d S p o q j m (max g.toNat 1) e.toNat H r v u y->Q v r
meta def uF(K:cB)(n:Nat):Sp:=λt H Q _=>∃(f d l:AB) (e g:Int) (S:Sn) (o:Kl) (p:List AA) (q:MC (AA×Nat)) (j:List AA) (m:Nat),t=[.ref f,.ref d,.ref l,.int e,.int g]/\fH K H f d S o p q m/\0<⇑o/\H l=U (.Y (j.map V.str))/\l≠f/\l≠S.lg/\1<=e/\e<=100/\0<=g/\g<n/\⇑j+2+2*g.toNat<=80/\(∀x∈j,Wo x) /\
 ∀(v:V) (r:Hp) (u:Tm) (y:Nat),MU K f d S o p q j m (4*e.toNat+1) (g.toNat+1) H r v u y->Q v r
def bI :Nm Y7 (af ck):=∅
def sH :Lm Y7 (af ck):=∅
def mX :aY Y7 ZN (af ck):=by ac_rfl
def Ig (TK:Ya "_law_take" 1 YO cg gT tfd)(hr:dZ 1 (A.deeper (Qj "_law_named_leaf" (af ck) s⁻¹ f cdv))){D:L2.Ends}{H:Hp}{fe d la:AB}{fm:Int}{S:Sn}{kl:Kl}{nm:List AA}{ds:MC (AA×Nat)}{ns:List AA}{m:Nat}(sc:fH K H fe d S kl nm ds m)(fm0:0<=fm)(fm5:fm<5)(k:∀(v:V) (gD:Hp) (X:Tm) (m':Nat),MU K fe d S kl nm ds ns m 1 0 H gD v X m'->D.rt v gD):
  jA (Zk gy Y7 "_law_named_leaf" (af ck) H1).oS ((bE ck).drop 3) D [U (.ref fe),U (.ref d),U (.ref la),U (.int fm)] H:=by
 refine eY ((Zd (Zo (Zi (aZ[4]! (Z1 (Ze (Z1 aC (Z1 (Z0 TK (cU (va bI 0) (Za au))) ak))) (Z1 (Ze (Z1 aC (Za (eO ak)))) ak))) (bX gJ (va bI 3) au))))) ?_
 right
 right
 let hf:=sc.ff;ext r H2 r0 r1 W;ext;calc nw λl H3 R C ad=>?_;let r3:Rp K H3 (enc (.mk (.num r) [])) (.ref l):=by rw[bG];exact Rp.nw (K:=K) C R (.cons .s (.one .i))
 ext;calc nw λp4 H4 L B ac=>?_;let r4:Rp K H4 (.t []) (.ref p4):=Rp.nw (K:=K) B L .nil;ext;calc nw λg H5 J y ab=>?_;let Z:Rp K H5 (enc (.mk .row [])) (.ref g):=by rw[bG];exact Rp.nw (K:=K) (xs:=[.s "row",.t []]) y J (.cons .s (.one r4))
 let N:=(r3.Z L).Z J;ext;calc nw λp6 G I u aa=>?_;let h6:aV K G p6 [.ref l,.ref g]:=aV.of u;let Q:Ext fe H G:=(((W.Z R).Z L).Z J).Z I;let Y:=Z.Z I;let M:=N.Z I;let o:=sc.ext Q;let T:dH [S.lg] fe H G:=Ext.uc sc.ff Q;let q:D.rt (.ref l) G:=k _ _ _ m #[o,T,M,.leaf rfl (λb O=>by cases O) (iO ⋯) True.intro (λ_=>rfl) (u4 _)]
 let p:D.rt (.ref g) G:=k _ _ _ m #[o,T,Y,.leaf rfl (λb O=>by cases O) (iO ⋯) True.intro (λ_=>rfl) (u4 _)]
 let em:fm % 2=0\/fm % 2=1:=()
 rcases em with e|e
 .have a0:fM [V.ref l,V.ref g] (fm % 2)=U (.ref l):=by rw[e];exact aG (j:=0) rfl
  ext;exact q
 .have a0:fM [V.ref l,V.ref g] (fm % 2)=U (.ref g):=by rw[e];exact aG (j:=1) rfl
  ext;calc p
def Ih (B:Ya "_law_take" 1 YO cg gT tfd)(e:mg "len"=gV)(hr:dZ 1 (A.deeper (Qj "_law_named_leaf" (af ck) s⁻¹ f cdv))){D:L2.Ends}{H:Hp}{fe d la:AB}{fm:Int}{S:Sn}{kl:Kl}{nm:List AA}{ds:MC (AA×Nat)}{ns:List AA}{m:Nat}(sc:fH K H fe d S kl nm ds m)(hla:H la=U (.Y (ns.map V.str)))(nla:la≠fe)(lns:⇑ns<=100)(wns:∀x∈ns,Wo x)(fm0:0<=fm)(fm5:fm<5)(k:∀(v:V) (C:Hp) (G:Tm) (m':Nat),MU K fe d S kl nm ds ns m 1 0 H C v G m'->D.rt v C):
  jA (Zk gy Y7 "_law_named_leaf" (af ck) R).oS ((bE ck).drop 2) D [U (.ref fe),U (.ref d),U (.ref la),U (.int fm)] H:=by
 refine eY ((Z5 (Zb (PW.pt (iY[7]! (Zp lQ (va bI 3) au) (iu[4]! (Zh pS (Z2 aN e Qh (Za (va bI 2))) au)))) (Zd (Zo (Ze (Z1 aC (Z1 (Zi (va bI 2) (Z0 B (Z1 (va bI 0) (Z1 (Z2 aN e Qh (Za (va bI 2))) ak)))) ak)))))) cZ)) ?_
 right
 right
 calc jY ?_;intro Q y;let last:Q [U (.ref fe),U (.ref d),U (.ref la),U (.int fm)] H:=Cut.go y (Ig B hr sc fm0 fm5 k);clear y;let X:=sc.ff;ext;refine b8 (λc=>?_) (λc=>?_)
 .ext;refine b8 (λu=>?_) (λu=>?_)
  .have O:(0:Int)<(⇑(ns.map V.str):Int):=of_decide_eq_true u;let J:(⇑(ns.map V.str):Int)<1073741824:=by rw[bM];omega
   ext gD Z p o t;let Y:=t.1 _ _ nla hla;let(T,L,q):=mE (xs:=ns.map V.str) p o;let(l,g,rfl):=Qa.mp q;ext W j;let I:=ae j (.J [.str "name",.str l]);let r:=t.Z I;exact k _ _ (.mk (.name l) []) m #[sc.ext r,Ext.uc sc.ff r,by rw[bG];calc Rp.new (K:=K) j (.cons .s (.one .s)),.leaf rfl (λb M=>by cases M) (iO ⋯) (wns l g) (λN=>by show(if l∈ns then Except.ok N else _)=_;rw[if_pos g]) (u4 _)]
  .ext;exact last
 .ext;calc last
def EY {T:PZ}(F:i9 K "_law_named_leaf" "_law_named_leaf" ck f T)(X:Ya "_law_take" 1 YO cg gT tfd)(e:mg "len"=gV):Yf gy 2 f T ZN (xU K):=by
 exists F.ok mX
 .have(_,_,_,_,_,_,_,_,_,rfl,_):=h;rfl
 let(L,d,la,S,kl,nm,ds,ns,m,rfl,y,I,o,D,B,k):=h;refine#[_,(Z5 (Z4 mX.nd sH 3 (Z0 X (cU (va bI 0) (Za au)))) (Z5 (Zb (PW.pt (iY[7]! (Zp bV (va bI 3) au) (iu[4]! (Zh lQ (Z2 aN e Qh (Z1 (fh (gQ hr) (va bI 1) aC (λ_ _=>rfl)) ak)) au)))) (Z5 (Zm (Z8 (fh (gQ hr) (va bI 1) aC (λ_ _=>rfl)) (Z1 (Zj gJ (Zj dU (fh (gQ hr) (va bI 1) aC (λ_ _=>rfl)) (Zj lE au (Z2 aN e Qh (Z1 (fh (gQ hr) (va bI 1) aC (λ_ _=>rfl)) ak)))) au) ak))) (Zd (Zo (Ze (Z1 aC (Z1 (Zi (fh (gQ hr) (va bI 1) aC (λ_ _=>rfl)) (kY i5 au)) ak))))))) cZ)),?_]
 right
 right
 let hf:=y.ff;calc kI ?_;intro N1 N2 c1 t;ext fm u J ac z;let j:=y.ext z;let q:=z.1 _ _ o I;let W:dH [S.lg] L H u:=Ext.uc y.ff z;let rest:N2 [U (.ref L),U (.ref d),U (.ref la),U (.int fm)] u:=Cut.go t (Ih X e hr j q o D B J () λv H' Z m' g=>k v H' Z m' #[g.sc,W.trans g.fr,g.r,g.g]);clear t;let gg:=j.get (BC S);let g1:=j.get (EX S);let hg:=j.lg;let G:⇑((pL S.f0 m).map V.int)=m:=by rw[bM,La]
 let m5:=j.m5;ext;refine b8 (λc=>?_) (λc=>?_)
 .ext;refine b8 (λt=>?_) (λt=>?_)
  .have ad:(⇑((pL S.f0 m).map V.int):Int)<5:=of_decide_eq_true t;let O:m<5:=()
   let ll:⇑((pL S.f0 m).map V.int)<my:=bg ();let C:=j.nf.2.2.2.1;let em:(S.f0+11*(⇑((pL S.f0 m).map V.int):Int)) % 100=(S.f0+11*(m:Int)) % 100:=by rw[G]
   let gD:dH [S.lg] L H (upd u S.lg (.Y ((pL S.f0 m).map V.int++[.int ((S.f0+11*(⇑((pL S.f0 m).map V.int):Int)) % 100)]))):=W.upd (vv.mpr rfl) C hg;let R:upd u S.lg (.Y ((pL S.f0 m).map V.int++[.int ((S.f0+11*(⇑((pL S.f0 m).map V.int):Int)) % 100)])) S.lg=U (.Y ((pL S.f0 (m+1)).map V.int)):=by rw[aj,em,xS,i4];rfl
   let l:=y.go gD R O;let ab:=l.get (BC S);let al:fM ((pL S.f0 (m+1)).map V.int) (-1)=U (.int ((S.f0+11*(m:Int)) % 100)):=by rw[xS,i4];exact tN _ _
   let aa:aV K (upd u S.lg (.Y ((pL S.f0 m).map V.int++[.int ((S.f0+11*(⇑((pL S.f0 m).map V.int):Int)) % 100)]))) S.lg ((pL S.f0 (m+1)).map V.int):=aV.of R;ext p N;let M:=ae N (.J [.str "gap",.int ((S.f0+11*(m:Int)) % 100)]);exact k _ _ _ (m+1) #[l.Z M,gD.Z M,by rw[bG];calc Rp.new (K:=K) N (.cons .s (.one .i)),.gap O (u4 _)]
  .ext;exact rest
 .ext;calc rest
theorem wu :∀{bs:MC (List AA)}{ks:MC Tm}{g:MC Int},⇑bs=⇑ks->m6 kl ds g ns (bs++[b]) (ks++[k])=match m6 kl ds g ns bs ks with
  |.error f=>.error f
  |.ok g'=>sD kl ds g' (ns++b) k
 | [],[],g,_=>by
  rw[Sj,Sj,iV,kQ];dsimp only
  cases sD kl ds g (ns++b) k with
  |error f=>rfl
  |ok g'=>calc kQ ..
 |c::bs,j::ks,g,h=>by
  rw[S9,S9,iV,iV]
  cases sD kl ds g (ns++c) j with
  |error f=>rfl
  |ok g'=>calc wu (by simpa using h)
def jL.snoc (t:jL kl ds f0 ns bs m l z d ks)(r:⇑bs=⇑ks)(h:mL kl ds f0 (ns++b) l j o d k):jL kl ds f0 ns (bs++[b]) m j (z+o) d (ks++[k]):=by
 refine#[λx g=>(zv.mp g).elim (t.wn x) (λe=>vv.mp e▸h.wn),λx g=>(zv.mp g).elim (t.ta x) (λe=>vv.mp e▸h.ta),?_,λx g=>(zv.mp g).elim (t.dp x) (λe=>vv.mp e▸h.dp),λv u=>?_,Qq t.mm h.mm]
 .rw[Tm.eI,Tm.bT];let:=t.sz;let:=h.sz;simp only[Tm.sizes];omega
 .have(q,B,l):=t.gd v u;let(p,y,j):=h.gd q l;calc#[p,by rw[wu r,B];calc y,j]
meta def jM(d:List AA)(t:Int)(n:Nat):List AA:=(Si n).map λj=>d.getD ((t.toNat+j) % 5) ""
def EZ (d:List AA)(t:Int)(n:Nat):jM d t (n+1)=jM d t n++[d.getD ((t.toNat+n) % 5) ""]:=by
 unfold jM;rw[Vp,i4];rfl
def sR (d:List AA)(t:Int)(n:Nat):⇑(jM d t n)=n:=by
 unfold jM;rw[bM,UP]
def Lc {d:List AA}(g:⇑d=6){t:Int}(l:0<=t)(j:Nat):fM (d.map V.str) ((t+(0+(j:Int))) % 5)=U (.str (d.getD ((t.toNat+j) % 5) "")):=by
 let e:(t.toNat+j) % 5<⇑d:=()
 let:=aG (xs:=d.map V.str) (j:=(t.toNat+j) % 5) (v:=.str (d.getD ((t.toNat+j) % 5) "")) (by rw[EF,pC e,Rg,pC e];rfl);rw[show(((t.toNat+j) % 5:Nat):Int)=(t+(0+(j:Int))) % 5 by omega]at this;calc this
def Ii (l:⇑d=6)(un:Un d){t:Int}{n:Nat}(hn:n<=2):cy [] (jM d t n)=gV:=by
 match n,hn with
 |0,_=>rfl
 |1,_=>rfl
 |2,_ =>
  show(if d.getD ((t.toNat+1) % 5) ""∈[d.getD ((t.toNat+0) % 5) ""]then U _ else gV)=gV;calc if_neg λz=>?_;let e:=vv.mp z;let l1:(t.toNat+1) % 5<⇑d:=()
  let g:(t.toNat+0) % 5<⇑d:=()
  rw[Rg,Rg,pC l1,pC g]at e;let j:d[(t.toNat+1) % 5]=d[(t.toNat+0) % 5]:=e;let:=un ((t.toNat+1) % 5) ((t.toNat+0) % 5) _ (pC l1) (by rw[j];calc pC g);omega
structure OF(K:cB) (fe d:AB) (S:Sn) (kl:Kl) (nm:List AA) (ds:MC (AA×Nat)) (ns:List AA) (m z dp:Nat) (ts:MC (AA×MC Kk)) (lar:AB) (H0:Hp) (i:Nat) (H:Hp) (arms:MC (AA×List AA)) (ks:MC Tm) (us:MC V) (m':Nat):Prop where
 sc:fH K H fe d S kl nm ds m'
 fr:dH [S.lg,lar] fe H0 H
 ha:H lar=U (.Y us)
 r:bS K H (QE jF arms (ks.map enc)) us
 la:⇑arms=i
 lk:⇑ks=i
 nm:arms.map (·.1)=(ts.take i).map (·.1)
 ok:∀(j:Nat) (a:AA×List AA) (t:AA×MC Kk),arms[j]?=U a->ts[j]?=U t->⇑a.2=⇑t.2/\cy [] a.2=gV
 g:jL kl ds S.f0 ns (arms.map (·.2)) m m' (i*z) dp ks
 w:∀a∈arms,Wo a.1/\∀x∈a.2,Wo x
def E1 (h:⇑arms=⇑ks):QE jF (arms++[a]) (ks++[k])=QE jF arms ks++[jF a k]:=by
 rw[XF h];rfl
def fH.other (s:fH K H f d S kl g ds m)(e:fH K r f d S kl g o z){l:AB}(B:r l=gV){xs:MC V}(h:H l=U (.Y xs))(ys:MC V):fH K (upd H l (.Y ys)) f d S kl g ds m:=by
 let(I,L,J):=s.ld;let(t,t1,t2):=s.lt;let(_,G,_):=e.ld;let(_,D,_):=e.lt;let(p,q,C):=e.ff;let(y,v,j):=s.ff;let n:∀{c:AB}{u:L2.HO},r c=U u->c≠l:=λq=>ay q B;let k:Kt H (upd H l (.Y ys)):=Kt.Y h _;calc#[by rw[aB (n e.sd)];calc s.sd,s.kd.kt k,by rw[aB (n e.ln)];calc s.ln,s.l6,s.un,#[I,by rw[aB (n G)];calc L,J.kt k],#[t,by rw[aB (n D)];calc t1,t2.kt k],by rw[aB (n e.lg)];calc s.lg,s.m5,s.f0,#[y,v,by rw[aB (n C)];calc j],s.nf,s.ng,s.kk,s.dn,s.dl,s.d3,s.nw,s.dw]
def aM :Nm YS (af cz):=∅
def cM :Lm YS (af cz):=∅
def cF :aY YS Y4 (af cz):=by ac_rfl
def Ij (hj:1<=j){f:AB}{cdv:eT}{A:Qk}{outer:MC RJ}{s:fy}{H1:Hp}{E:XK}(TK:Ya "_law_take" 1 YO cg gT tfd)(cq:Ya "_law_named" j YQ (fK K n) gN nfd)(an:mg "len"=gV)(z_range:mg "range"=gV)(C:mg "tuple"=gV)(hr:dZ j (A.deeper (Qj "_law_named_match" (af cz) s⁻¹ f cdv))){D:L2.Ends}{H:Hp}{fe d la ta:AB}{share down:Int}{S:Sn}{kl:Kl}{nm:List AA}{ds:MC (AA×Nat)}{ns:List AA}{m m1:Nat}{kd:AA×MC (AA×MC Kk)}{fv:V}{ft:Tm}{o5 o8 o9 av as o12:AF V}(sc:fH K H fe d S kl nm ds m1)(hk:kd∈kl)(hla:H la=U (.Y (ns.map V.str)))(nla:la≠fe)(nlg:la≠S.lg)(sh1:1<=share)(sh2:share<=100)(dn0:0<=down)(dn:down<n)(lns:⇑ns+2+2*down.toNat<=80)(wns:∀x∈ns,Wo x)(rt:Rp K H (.t (kd.2.map j4)) (.ref ta))(rf:Rp K H (enc ft) fv)(gf:mL kl ds S.f0 ns m m1 (max share.toNat 1) down.toNat ft)(k:∀(v:V) (H':Hp) (tm:Tm) (m':Nat),fH K H' fe d S kl nm ds m'->dH [S.lg] fe H H'->Rp K H' (enc tm) v->mL kl ds S.f0 ns m m' (4*share.toNat+1) (down.toNat+1) tm->D.rt v H'):
  jA (Zk gy YS "_law_named_match" (af cz) H1).oS ((bE cz).drop 2) D [U (.ref fe),U (.ref d),U (.ref la),U (.int share),U (.int down),o5,U (.ref ta),U fv,o8,o9,av,as,o12] H:=by
 refine eY ((Z5 (sa cF.nd cM 8 (aZ ak)) (Z5 (Zl QU (dj[4]! (Zi (aZ[4]! (Z1 (va aM 6) (Z1 (GK K rfl (va aM 6) bW bW (bL (kY i5 au))) ak))) (Z0 TK (cU (va aM 0) (Za au))))) (Zc (Zf (ga cF.nd cM 9) (Zt (ga cF.nd cM 10)))) (Z5 (Z4 cF.nd cM 11 (Z0 TK (cU (va aM 0) (Za au)))) (Z5 (nF[15]! (af cz) YS ["_law_j"] [1,11] rfl rfl rfl ∅ (Zr (Z1 (Z2 aN an Qh (Za (va aM 10))) ak)) (λ_ _ _ _=>(X1 ZX 0)) (λ_ _ _ _=>fj) (λ_ _ _ _=>(fQ[7]! (qg K rfl) (fh (gQ hr) (Xt ZX 1) aC (λ_ _=>rfl)) (Zj gJ (bX dU (Xt ZX 2) (Xt ZX 0)) au) (λ_ _=>rfl))) (ga cF.nd cM 12) (by kernel_rfl) (by intro _;rfl)) (Zd (Zm (Z8 (va aM 8) (Z1 (Ze (Z1 (va aM 9) (Z1 (Z6 bh C Qg (Za (va aM 12))) (Z1 (Z0 cq (Z1 (va aM 0) (Z1 (va aM 1) (Z1 (bX jQ (va aM 2) (va aM 12)) (Z1 (va aM 3) (Za (va aM 4))))))) ak)))) ak))))))) (Zd (Zo (Ze (Z1 aC (Z1 (va aM 7) (Z1 (Z6 bh C Qg (Za (va aM 8))) ak))))))))) ?_
 right
 right
 let(da,c9,aw):=sc.kk.pt kd hk;ext;calc nw λB H2 s2 ck I=>?_;let W:B≠fe:=bj sc.ff I;let bi:B≠S.lg:=(ay sc.lg I).symm;let a9:=sc.Z s2;let ar:=rt.Z s2;let(b1,ap,e,bx,a6):=ar.aT;obtain rfl:ta=b1:=V.ref.inj e;ext p3 bq;let s3:=ae bq (.J ap.reverse)
 let r3:Rp K (upd H2 p3 (.J ap.reverse)) (.t (kd.2.reverse.map j4)) (.ref p3):=by
  rw[Yv];exact Rp.new (K:=K) bq a6.reverse
 generalize upd H2 p3 (.J ap.reverse)=H3 at s3 r3|-;ext;calc nw λp4 H4 s4 h4 ce=>?_;let aa:=s3.trans s4;let a8:=a9.Z aa;let bu:=a8.ff;let n4:p4≠fe:=bj (a9.Z s3).ff ce;ext r5 H5 c5 c4 x5;let h5:aV K H5 p4 [.ref ta,.ref p3]:=aV.of (x5.1 _ _ n4 h4);let b3:=a8.ext x5;let f5:dH [S.lg,B] fe H H5:=((dH.refl sc.ff).Z (s2.trans aa)).ext x5;let cj:=x5.1 _ _ W (aa _ _ ck);let c3:=rf.kt f5.kt
 obtain⟨tb,Q,dc,N,b4⟩:∃(tb:AB) (Q:MC (AA×MC Kk)),fM [V.ref ta,V.ref p3] r5=U (.ref tb)/\Q.Perm kd.2/\Rp K H5 (.t (Q.map j4)) (.ref tb):=by
  let k5:=(Kt.Z aa).trans (x5.kt bu);rcases(show r5=0\/r5=1 by omega)with rfl|rfl
  .exact#[ta,kd.2,aG (j:=0) rfl,List.Perm.refl _,ar.kt k5]
  .exact#[p3,kd.2.reverse,aG (j:=1) rfl,List.reverse_perm _,(r3.Z s4).kt (x5.kt bu)]
 let(b0,ao,e,a5,ag):=b4.aT;obtain rfl:tb=b0:=V.ref.inj e;let ah:=⇑ag;rw[bM]at ah;let c8:⇑Q=⇑kd.2:=N.length_eq;clear rt ar bx a6 r3;ext;refine iJ (K:=K) (xs:=ao) (λi σ H6=>∃arms ks us m' o9 av as o12,σ=[U (.ref fe),U (.ref d),U (.ref la),U (.int share),U (.int down),o5,U (.ref ta),U fv,U (.ref B),o9,av,as,o12]/\OF K fe d S kl nm ds ns m1 share.toNat down.toNat Q B H i H6 arms ks us m'/\Kt H5 H6) #[[],[],[],m1,_,_,_,_,rfl,#[b3,f5,cj,.nil,rfl,rfl,rfl,λj a t h=>by simp at h,by rw[Nat.zero_mul];calc .nil (u4 _),λ_ h=>nomatch h],Kt.refl] ?_ ?_ ?_
 .rintro i σ H6 hi ⟨_,_,_,_,_,_,_,_,_,_,k6⟩;exact a5.kt k6
 .rintro i xv σ H6 hxv ⟨arms,ks,us,m',_,_,_,_,rfl,p,k6⟩;let(t,ht,rx):=ag.get' hxv;rw[EF]at ht;let(tg,X,rfl):=IF.mp ht;let cf:=(eF.mp X).1;let cp:Q.take (i+1)=Q.take i++[tg]:=by rw[we cf,(eF.mp X).2]
  let c1:=aw tg (N.mem_iff.mp (P6 X));let(ga,w1,w2,rfl,cn,q1,q2):=(show Rp K H5 (.t [.s tg.1,.t (tg.2.map jN)]) xv from rx).t2;obtain rfl:=q1.aP;let(ia,l,rfl,cc,cd):=q2.aT;let bl:=⇑cd;rw[bM]at bl;let cx:=cn.kt k6;let a7:=p.sc;let ch:=a7.ff;ext u H7 bz c0 x7;let G:=a7.ext x7;let ax:=x7.kt ch;let cv:=(cc.kt k6).kt ax;let de:=G.get (uE S);let db:=G.ln;ext;refine pH (n:=⇑l) (λq σ us H8=>(∃y,σ=[y,U (.ref d),U (.int u)])/\H8=H7/\us=(jM nm u q).map V.str) #[#[_,rfl],rfl,rfl] ?_ (small ()) ?_ ?_
  .rintro q σ us H8 h ⟨_,_,rfl⟩;rw[bM,sR];exact u4 _
  .rintro q σ us8 H8 hq ⟨⟨_,rfl⟩,rfl,rfl⟩;let oa:=Lc G.l6 bz q;ext;rw[EZ,i4];rfl
  .rintro σ us8 H8 ⟨⟨_,rfl⟩,rfl,rfl⟩ p9 hp9;let s9:=ae hp9 (.Y ((jM nm u ⇑l).map V.str));let h9:upd H8 p9 (.Y ((jM nm u ⇑l).map V.str)) p9=U (.Y ((jM nm u ⇑l).map V.str)):=aj;generalize upd H8 p9 (.Y ((jM nm u ⇑l).map V.str))=H9 at s9 h9|-;let b2:=G.Z s9;let bt:H6 la=U (.Y (ns.map V.str)):=p.fr.NW nlg (ay hla I) nla hla;let bs:=s9 _ _ (x7.1 _ _ nla bt);let dd:=s9 _ _ (x7.1 _ _ W p.ha);ext;calc .inl #[aV.of h9,λac al=>?_];let gD:=ae al (.J ((jM nm u ⇑l).map V.str));let be:Rp K (upd H9 ac (.J ((jM nm u ⇑l).map V.str))) (.t ((jM nm u ⇑l).map .s)) (.ref ac):=Rp.new (K:=K) al (bS.strs _);let cm:=gD _ _ h9;let a0:=gD _ _ bs;let L:=b2.Z gD;generalize upd H9 ac (.J ((jM nm u ⇑l).map V.str))=H10 at gD be cm a0 L|-;let lc:⇑(ns.map V.str)+⇑((jM nm u ⇑l).map V.str)<=my:=small (by rw[bM,bM,sR];omega);ext;calc nw λbm df aq cl am=>?_;let ea:ns.map V.str++(jM nm u ⇑l).map V.str=(ns++jM nm u ⇑l).map V.str:=by rw[i4]
   rw[ea]at cl;let c6:bm≠fe:=bj L.ff am;let ct:bm≠S.lg:=(ay L.lg am).symm;let cs:=L.Z aq;let c2:(0:Int)<=share:=()
   let a4:∀x∈jM nm u ⇑l,Wo x:=λx hx=>by
    let(q,hq,rfl):=Qa.mp hx;let hl:(u.toNat+q) % 5<⇑nm:=by let:=G.l6;omega
    rw[Rg,pC hl];exact G.nw _ (Qz hl)
   let cr:∀x∈ns++jM nm u ⇑l,Wo x:=λx hx=>(zv.mp hx).elim (wns x) (a4 x);let cu:⇑(ns++jM nm u ⇑l)+2*down.toNat<=80:=by rw[mu,sR];omega
   ext cy a3 R bk J;let T:=s9.trans (gD.trans aq);let ai:=(Kt.Z T).trans J.fr.kt;let b8:Rp K a3 (.t ((jM nm u ⇑l).map .s)) (.ref ac):=(be.Z aq).kt J.fr.kt;let x6:dH [S.lg,B] fe H a3:=(((p.fr.ext x7).Z T)).trans (J.fr.sub λz hz=>by rw[vv.mp hz];calc .head _);let bv:a3 B=U (.Y us):=J.fr.gm bi W (T _ _ (x7.1 _ _ W p.ha));let b6:=p.r.kt (ax.trans ai);let c7:⇑us<my:=bg (by rw[⇑p.r,Rq,p.la];omega);ext;calc nw λab ad M a1 cw=>?_;let b7:Rp K ad (jF (tg.1,jM nm u ⇑l) (enc R)) (.ref ab):=Rp.nw (K:=K) (xs:=[.s tg.1,.t ((jM nm u ⇑l).map .s),enc R]) a1 M (.cons .s (.cons b8 (.one J.r)));let Z:=M _ _ bv;let bw:=x6.Z M;let bb:=J.sc.Z M;let bc:=b6.Z M;let az:Kt ad (upd ad B (.Y (us++[.ref ab]))):=Kt.Y Z _;let ba:fH K (upd ad B (.Y (us++[.ref ab]))) fe d S kl nm ds bk:=bb.other sc I Z _;ext
   .refine OF.mk (arms:=arms++[(tg.1,jM nm u ⇑l)]) (ks:=ks++[R]) (us:=us++[.ref ab]) (m':=bk) ba (bw.upd (Q5 _ (.head _)) W Z) aj ?_ (by rw[mu,p.la];rfl) (by rw[mu,p.lk];rfl) ?_ ?_ ?_ (λa O=>(zv.mp O).elim (p.w a) (λz=>by rw[vv.mp z];calc#[(sc.kk.nw kd hk).2 tg (N.mem_iff.mp (P6 X)),a4]))
    .rw[i4,Qd,RL,E1 (by rw[bM,p.la,p.lk])];exact(bc.kt az).snoc (b7.kt az)
    .rw[i4,cp,i4,p.nm];rfl
    .intro q a t O bn
     by_cases c:q<⇑arms
     .rw[Ri c]at O;exact p.ok q a t O bn
     .rw[QZ ()]at O
      let hq:q=i:=by
       let:=(eF.mp O).1;let:[(tg.1,jM nm u ⇑l)].length=1:=rfl;let:=p.la;omega
      subst hq;rw[p.la,WY]at O
      cases O
      obtain rfl:tg=t:=Qw (X.symm.trans bn);exact#[by rw[sR];calc bl,Ii G.l6 G.un ()]
    .rw[i4,WV];calc jL.snoc p.g (by rw[bM,p.la,p.lk]) ?_;let e:=J.g;rw[Sq ()]at e;exact e
   .exact(((k6.trans ax).trans ai).trans (Kt.Z M)).trans az
 .rintro σ H6 ⟨arms,ks,us,m',_,_,_,_,rfl,p,k6⟩;let b5:=rf.kt p.fr.kt;let ci:=p.ha;ext;calc .inl #[aV.of ci,λp7 bp=>?_];let s7:=ae bp (.J us);let r7:=Rp.new (K:=K) bp p.r;generalize upd H6 p7 (.J us)=H7 at s7 r7|-;ext p8 bo;let s8:=ae bo (.J [.str "match",fv,.ref p7]);let cb:=p.la;let ca:=p.lk
  let r8:Rp K (upd H7 p8 (.J [.str "match",fv,.ref p7])) (enc (.mk (.mat arms) (ft::ks))) (.ref p8):=by
   rw[bG];exact Rp.new (K:=K) (xs:=[.s "match",enc ft,.t (QE jF arms (ks.map enc))]) bo (.cons .s (.cons (b5.Z s7) (.one r7)))
  let bf:=p.nm;rw[ah,Ql]at bf;let co:dH [S.lg] fe H H6:=#[λb o n1 n2 e=>p.fr.jT b o (λz=>(P1.mp z).elim (λz=>n1 (by rw[z];calc .head _)) (λz=>by rw[vv.mp z,I]at e;cases e)) n2 e,p.fr.kt,p.fr.ff];calc k _ _ (.mk (.mat arms) (ft::ks)) m' ((p.sc.Z s7).Z s8) ((co.Z s7).Z s8) r8 ?_;refine mL.Ic (d:=down.toNat) (z:=share.toNat+⇑ao*share.toNat) ?_ ?_ ?_ p.w ?_ ?_ ?_
  .show((⇑ks+1) == ⇑arms+1)=AD;rw[cb,ca];simp
  .intro b hb;rcases P1.mp (show b∈[]::arms.map (·.2)from hb)with rfl|hb
   .exact Qc _
   .have(a,O,rfl):=Qa.mp hb;let(q,hq):=QL O;let Y:q<⇑Q:=by let:=(eF.mp hq).1;omega
    let:=(p.ok q a _ hq (pC Y)).1;let:=aw Q[q] (N.mem_iff.mp (Qz Y));omega
  .intro a2 e;obtain rfl:arms=a2:=Hd.mat.inj e;calc#[(),λa O=>?_];let(q,hq):=QL O;let Y:q<⇑Q:=by let:=(eF.mp hq).1;omega
   let:=(p.ok q a _ hq (pC Y)).1;let:=aw Q[q] (N.mem_iff.mp (Qz Y));omega
  .intro g0
   show(match gE kl arms with
    |some f=>Except.error f
    |none=>Except.ok g0)=_
   rw[Ie sc.kk hk N bf p.ok]
  .have e:=gf;rw[Sq ()]at e;exact jL.jq e p.g
  .have:⇑ao*share.toNat<=3*share.toNat:=S4 _ ();omega
def CS (hj:1<=j)(F:i9 K "_law_named_match" "_law_named_match" cz f fd)(TK:Ya "_law_take" 1 YO cg gT tfd)(L:Ya "_law_named" j YQ (fK K n) gN nfd)(p:mg "len"=gV)(z_range:mg "range"=gV)(o:mg "tuple"=gV):Yf gy (j+1) f fd Y4 (uF K n):=by
 exists F.ok cF
 .have(_,_,_,_,_,_,_,_,_,_,_,rfl,_):=h;rfl
 let(fe,d,la,q,J,S,kl,nm,ds,ns,m,rfl,z,ap,aa,u,B,R,O,ad,dn,W,N,k):=h;refine#[_,(Z5 (Zn (fQ[7]! aJ (fh (gQ hr) (va aM 1) aC (λ_ _=>rfl)) (Z0 TK (Z1 (va aM 0) (Z1 (Z2 aN p Qh (Z1 (fh (gQ hr) (va aM 1) aC (λ_ _=>rfl)) ak)) ak))) (λ_ _=>rfl)) (Zc (Zf (ga cF.nd cM 5) (Zt (ga cF.nd cM 6))))) (Z5 (Z4 cF.nd cM 7 (Z0 L (Z1 (va aM 0) (Z1 (va aM 1) (Z1 (va aM 2) (Z1 (va aM 3) (Za (va aM 4)))))))) cZ)),?_]
 right
 right
 let hf:=z.ff;let gk:=z.get (zI S);let(ka,l,e,C,D):=z.kd.aT;let ek:S.kd=ka:=V.ref.inj e;rw[<-ek]at C;let X:=⇑D;rw[bM]at X;let l3:=z.kk.l3;let ao:(0:Int)<(⇑l:Int):=()
 let an:(⇑l:Int)<1073741824:=()
 ext r H1 r0 r1 M;let al:=z.ext M;let Y:=M.kt hf;let af:=C.kt Y;let(v1,Z,_):=mE (xs:=l) r0 r1;let G:r.toNat<⇑l:=()
 let(t,ht,rv):=D.get' (i:=r.toNat) (v:=v1) (by
  let:=aG (xs:=l) (j:=r.toNat) (v:=l[r.toNat]) (pC G);rw[show((r.toNat:Nat):Int)=r by omega,Z]at this;rw[pC G];calc this.symm)
 rw[EF]at ht;let(kd,ab,rfl):=IF.mp ht;let(qa,w1,w2,rfl,gD,q1,q2):=(show Rp K H (.t [.s kd.1,.t (kd.2.map j4)]) v1 from rv).t2;obtain rfl:=q1.aP;let(ta,ag,rfl,_,_):=q2.aT;let ae:=gD.kt Y;let I:=M.1 _ _ u aa;let ai:(0:Int)<=q:=()
 let am:⇑ns+2*J.toNat<=80:=()
 ext v2 H2 ah m2 y;ext;let f2:dH [S.lg] fe H H2:=(Ext.uc hf M).trans y.fr;calc Ij hj TK L p z_range o hr y.sc (P6 ab) (y.fr.gm B u I) u B R O ad dn W N ((q2.kt Y).kt y.fr.kt) y.r y.g λv' H' tm m' T ac r' g'=>k v' H' tm m' #[T,f2.trans ac,r',g']
structure yp(K:cB) (fe d la:AB) (S:Sn) (kl:Kl) (nm:List AA) (ds:MC (AA×Nat)) (ns:List AA) (room down:Int) (n:Nat) (H:Hp) (m:Nat):Prop where
 sc:fH K H fe d S kl nm ds m
 hla:H la=U (.Y (ns.map V.str))
 nla:la≠fe
 nlg:la≠S.lg
 r5:5<=room
 rh:room<=100
 d1:1<=down
 dn:down<n+1
 ln:⇑ns+2*down.toNat<=80
 wn:∀x∈ns,Wo x
meta def AM(D:L2.Ends)(K:cB)(o d:AB)(S:Sn)(kl:Kl)(p:List AA)(ds:MC (AA×Nat))(ns:List AA)(q:Nat)(e g:Int)(H:Hp):Prop:=∀(v:V) (j:Hp) (l:Tm) (m:Nat),fH K j o d S kl p ds m->dH [S.lg] o H j->Rp K j (enc l) v->mL kl ds S.f0 ns q m e.toNat (g.toNat-1+1) l->D.rt v j
def yp.step (x:yp K fe d la S kl nm ds ns room down n H m)(e:fH K H' fe d S kl nm ds m')(fr:dH [S.lg] fe H H'):yp K fe d la S kl nm ds ns room down n H' m':=#[e,fr.gm x.nlg x.nla x.hla,x.nla,x.nlg,x.r5,x.rh,x.d1,x.dn,x.ln,x.wn]
def yp.ext (x:yp K fe d la S kl nm ds ns room down n H m)(e:Ext fe H H'):yp K fe d la S kl nm ds ns room down n H' m:=x.step (x.sc.ext e) (Ext.uc x.sc.ff e)
def yp.Z (x:yp K fe d la S kl nm ds ns room down n H m)(e:aS H H'):yp K fe d la S kl nm ds ns room down n H' m:=x.ext ((Ext.refl x.sc.ff).Z e)
def AM.step (k:AM D K fe d S kl nm ds ns m0 room down H)(fr:dH [S.lg] fe H H'):AM D K fe d S kl nm ds ns m0 room down H':=λv j e m' s f r g=>k v j e m' s (fr.trans f) r g
def AM.ext (k:AM D K fe d S kl nm ds ns m0 room down H)(g:cH H fe)(e:Ext fe H H'):AM D K fe d S kl nm ds ns m0 room down H':=k.step (Ext.uc g e)
def aA :Nm YM (af aU):=∅
def iP :Lm YM (af aU):=∅
def gj :aY YM YQ (af aU):=by ac_rfl
def Ik (hj:1<=j)(TK:Ya "_law_take" 1 YO cg gT tfd)(l:mg "len"=gV)(hr:dZ j (A.deeper (Qj "_law_named" (af aU) s⁻¹ f cdv))){ls:AB}{vs:MC V}{ps:MC (AA×Nat)}(X:yp K fe d la S kl nm ds ns room down n H m)(k:AM D K fe d S kl nm ds ns m0 room down H)(hsh:share=(room-1) / 3)(ro:Rp K H (enc one) vo)(go:mL kl ds S.f0 ns m0 m1 share.toNat (down.toNat-1) one)(rt:Rp K H (enc other) vt)(gt:mL kl ds S.f0 ns m1 m share.toNat (down.toNat-1) other)(hls:H ls=U (.Y vs))(nls:ls≠fe)(rls:bS K H (ps.map EW) vs)(lps:⇑ps<=20)(hps:ps≠[]->(form=6/\ps=yo kl)\/(form=7/\ps=ds)):
  jA (Zk gy YM "_law_named" (af aU) H1).oS ((bE aU).drop 13) D [U (.ref fe),U (.ref d),U (.ref la),U (.int room),U (.int down),U (.int form),U (.int share),o7,o8,U vo,U vt,U (.ref ls),o12,o13] H:=by
 refine eY ((Z5 (Zb (Zh bV (Z2 aN l Qh (Za (va aA 11))) au) (Zd (Zo (Ze (Z1 aC (Z1 (Zq er (Ze (Z1 (va aA 9) (Za (va aA 10)))) bW (bL[3]! (Z0 TK (cU (va aA 0) (Za au))))) ak)))))) (Z5 (Zn (Zi (va aA 11) (Z0 TK (Z1 (va aA 0) (Z1 (Z2 aN l Qh (Za (va aA 11))) ak)))) (Zc (Zf (ga gj.nd iP 12) (Zt (ga gj.nd iP 13))))) (Zd (Zo (Ze (Z1 (Zi (aZ[4]! (cU aC (Za aC))) (bX jO (va aA 5) au)) (Z1 (va aA 12) (Z1 (Zq er (Ze (Z1 (va aA 9) (Z1 (va aA 10) (Z1 (Ze (cU aC (Za au))) ak)))) bW (bL (va aA 13))) ak))))))))) ?_
 right
 right
 let I:=X.sc.ff;let B:=⇑rls;rw[bM]at B;let r5:=X.r5;let a0:1<=share:=()
 ext;refine b8 (λc=>?_) (λc=>?_)
 .ext;calc nw λp2 H2 s2 ac a2=>?_;let h2:b9 K H2 p2 [vo,vt]:=b9.of ac;let ax:=I.Z s2;ext r3 H3 as gD L;let h3:=h2.kt (L.kt ax);let ah:Ext fe H H3:=((Ext.refl I).Z s2).trans L;ext p4 H4 s4 h4;let o:=ah.Z s4;let T:=ro.kt (o.kt I);let am:=rt.kt (o.kt I);obtain⟨q,rfl⟩:∃q:Nat,r3=q:=#[r3.toNat,()];rw[dm]at h4;ext M C;let s5:=ae C (.J [.str "row",.ref p4]);let O:=o.Z s5;let al:=X.sc.ext O;let f5:dH [S.lg] fe H _:=Ext.uc I O
  let fin:∀ks:MC Tm,bS K H4 (ks.map enc) ([vo,vt].take q)->jL kl ds S.f0 ns (P7 ⇑ks []) m0 m (share.toNat+share.toNat) (down.toNat-1) ks->D.rt (.ref M) (upd H4 M (.J [.str "row",.ref p4])):=λks rk J=>by
   refine k _ _ (.mk .row ks) m al f5 ?_ (mL.Ic rfl mO (iO ⋯) True.intro (λ_=>rfl) J ())
   rw[bG];exact Rp.new (K:=K) (xs:=[.s "row",.t (ks.map enc)]) C (.cons .s (.one (Rp.t h4 rk)))
  let mm:=go.mm;let v:=gt.mm
  match q,gD with
  |0,_=>calc fin [] .nil (by let:=jL.nil (kl:=kl) (ds:=ds) (f0:=S.f0) (ns:=ns) (d:=down.toNat-1) (bs:=[]) (show m0<=m by omega);calc#[this.wn,this.ta,by let:=this.sz;omega,this.dp,this.gd,this.mm])
  |1,_=>calc fin [one] (.one T) (by let:=jL.jq go (jL.nil (bs:=[]) v);calc#[this.wn,this.ta,by let:=this.sz;omega,this.dp,this.gd,this.mm])
  |2,_=>exact fin [one,other] (.cons T (.one am)) (jL.jq go (jL.jq gt (jL.nil (bs:=[]) (u4 _))))
 .have Z:ps≠[]:=λz=>c (by rw[z]at B;rw[B];rfl)
  let l0:(0:Int)<(⇑vs:Int):=by
   let:=List.length_pos_iff.mpr Z;omega
  let l1:(⇑vs:Int)<1073741824:=()
  ext r3 H3 as gD L;let h3:=L.1 _ _ nls hls;let hq:r3.toNat<⇑vs:=()
  let W:r3.toNat<⇑ps:=()
  let(v3,aw,Q):=rls.get (i:=r3.toNat) (x:=EW ps[r3.toNat]) (by rw[EF,pC W];rfl)
  let a3:fM vs r3=U v3:=by
   let:=aG (xs:=vs) (j:=r3.toNat) aw
   rwa [show((r3.toNat:Nat):Int)=r3 by omega]at this
  let g:ps[r3.toNat]∈ps:=Qz W;generalize ps[r3.toNat]=pp at Q g;let(qa,w1,w2,rfl,av,q1,q2):=(show Rp K H (.t [.s pp.1,.i pp.2]) v3 from Q).t2;obtain rfl:=q1.aP;obtain rfl:=q2.kZ;let k3:=L.kt I;let ay:=av.kt k3;let ao:=ro.kt k3;let an:=rt.kt k3
  let wd:∃z:AA,∃h:MC Tm->Tm,fM [V.str "tag",V.str "call"] (form-6)=U (.str z)/\(∀ks,enc (h ks)=.t [.s z,.s pp.1,.t (ks.map enc)])/\pp.2<=3/\∀ks zz,⇑ks=pp.2->jL kl ds S.f0 ns (P7 ⇑ks []) m0 m zz (down.toNat-1) ks->zz+1<=room.toNat->mL kl ds S.f0 ns m0 m room.toNat (down.toNat-1+1) (h ks):=by
   rcases hps Z with⟨rfl,e⟩|⟨rfl,e⟩<;>rw[e]at g
   .have(yt,e1,e2):=Lb X.sc.kk g;refine#["tag",λks=>.mk (.tag pp.1) ks,aG (j:=0) rfl,λks=>by rw[bG];rfl,?_,λks zz lk J hz=>mL.Ic rfl mO (iO ⋯) (by let(kk,G,hp):=RB.mp g;let(t,ht,e):=Qa.mp hp;rw[<-e];calc(X.sc.kk.nw kk G).2 t ht) (λg0=>?_) J hz]
    .have(kk,G,hp):=RB.mp g;let(t,ht,rfl):=Qa.mp hp;let:=(X.sc.kk.pt kk G).2.2 t ht;show ⇑t.2<=3;omega
    .show(match iX kl pp.1 with
      |none=>Except.error (Er.nn,pp.1)
      |some y=>if ⇑ks=⇑y.2.2 then Except.ok g0 else .error (.wr,pp.1))=_
     rw[e1];dsimp only;rw[if_pos (by rw[lk,e2])]
   .refine#["call",λks=>.mk (.call pp.1) ks,aG (j:=1) rfl,λks=>by rw[bG];rfl,X.sc.d3 pp g,λks zz lk J hz=>mL.Ic rfl mO (iO ⋯) (X.sc.dw pp g) (λg0=>?_) J hz]
    show(match ds.find? (λd=>decide (d.1=pp.1))with
      |none=>Except.error (Er.nn,pp.1)
      |some y=>if ⇑ks=y.2 then Except.ok g0 else .error (.wr,pp.1))=_
    rw[mQ (λp:AA×Nat=>p.1) X.sc.dn g];dsimp only;rw[if_pos lk]
  let(z,hh,az,eh,p3,gh):=wd;ext;calc nw λl4 H4 s4 ad a4=>?_;let h4:aV K H4 l4 [.str "tag",.str "call"]:=aV.of ad;ext;calc nw λM H5 s5 ab C=>?_;let ar:Rp K H5 (enc (.mk (.num 3) [])) (.ref M):=by rw[bG];exact Rp.nw (K:=K) ab s5 (.cons .s (.one .i))
  ext;calc nw λp6 H6 s6 aa a1=>?_;let h6:b9 K H6 p6 [vo,vt,.ref M]:=b9.of aa;let aq:=ar.Z s6;ext p7 H7 s7 h7;rw[dm]at h7;let r:=((s4.trans s5).trans s6).trans s7;let ag:Ext fe H H7:=L.Z r;let u:=ao.Z r;let R:=an.Z r;let ap:=aq.Z s7;ext p8 Y;let s8:=ae Y (.J [.str z,.str pp.1,.ref p7]);let N:=ag.Z s8;let ai:=X.sc.ext N;let f8:dH [S.lg] fe H _:=Ext.uc I N
  let fin:∀ks:MC Tm,⇑ks=pp.2->bS K H7 (ks.map enc) ([vo,vt,.ref M].take pp.2)->jL kl ds S.f0 ns (P7 ⇑ks []) m0 m (share.toNat+(share.toNat+1)) (down.toNat-1) ks->D.rt (.ref p8) (upd H7 p8 (.J [.str z,.str pp.1,.ref p7])):=λks lk rk J=>by
   calc k _ _ (hh ks) m ai f8 ?_ (gh ks _ lk J ());rw[eh];exact Rp.new (K:=K) (xs:=[.s z,.s pp.1,.t (ks.map enc)]) Y (.cons .s (.cons .s (.one (Rp.t h7 rk))))
  let mm:=go.mm;let v:=gt.mm;let g3:mL kl ds S.f0 ns m m 1 (down.toNat-1) (.mk (.num 3) []):=.leaf rfl (λb hb=>by cases hb) (iO ⋯) True.intro (λ_=>rfl) (u4 _)
  generalize pp.2=q at p3 fin
  match q,p3 with
  |0,_=>calc fin [] rfl .nil (by let:=jL.nil (kl:=kl) (ds:=ds) (f0:=S.f0) (ns:=ns) (d:=down.toNat-1) (bs:=[]) (show m0<=m by omega);calc#[this.wn,this.ta,by let:=this.sz;omega,this.dp,this.gd,this.mm])
  |1,_=>calc fin [one] rfl (.one u) (by let:=jL.jq go (jL.nil (bs:=[]) v);calc#[this.wn,this.ta,by let:=this.sz;omega,this.dp,this.gd,this.mm])
  |2,_=>calc fin [one,other] rfl (.cons u (.one R)) (by let:=(jL.jq go (jL.jq gt (jL.nil (bs:=[]) (u4 _))));calc#[this.wn,this.ta,by let:=this.sz;omega,this.dp,this.gd,this.mm])
  |3,_=>calc fin [one,other,.mk (.num 3) []] rfl (.cons u (.cons R (.one ap))) (by let:=(jL.jq go (jL.jq gt (jL.jq g3 (jL.nil (bs:=[]) (u4 _)))));calc#[this.wn,this.ta,by let:=this.sz;omega,this.dp,this.gd,this.mm])
def Il (hj:1<=j)(TK:Ya "_law_take" 1 YO cg gT tfd)(p:mg "len"=gV)(e:mg "int"=gV)(hr:dZ j (A.deeper (Qj "_law_named" (af aU) s⁻¹ f cdv)))(X:yp K fe d la S kl nm ds ns room down n H m)(k:AM D K fe d S kl nm ds ns m0 room down H)(hsh:share=(room-1) / 3)(ro:Rp K H (enc one) vo)(go:mL kl ds S.f0 ns m0 m1 share.toNat (down.toNat-1) one)(rt:Rp K H (enc other) vt)(gt:mL kl ds S.f0 ns m1 m share.toNat (down.toNat-1) other):
  jA (Zk gy YM "_law_named" (af aU) H1).oS ((bE aU).drop 12) D [U (.ref fe),U (.ref d),U (.ref la),U (.int room),U (.int down),U (.int form),U (.int share),o7,o8,U vo,U vt,o11,o12,o13] H:=by
 let Q:=X.sc.ff;let al:=X.sc.get (BD S);let an:=X.sc.get (xT S);let(l,t1,t2):=X.sc.lt;let(o,d1,T):=X.sc.ld;let I:=⇑t2;rw[bM]at I;let J:=T.length;rw[bM]at J;let l9:=EV X.sc.kk;let l8:=X.sc.dl
 let q:∀(t:MC (AA×Nat)) (a b:Nat) (r:MC V),a<=1->b<=1->r=(P7 a l).flatten++(P7 b o).flatten->bS K H (t.map EW) r->(t≠[]->(form=6/\t=yo kl)\/(form=7/\t=ds))->(if decide (V.int form=V.int 6)=AD then(1:Int)else 0)=(a:Int)->(if decide (V.int form=V.int 7)=AD then(1:Int)else 0)=(b:Int)->jA (Zk gy YM "_law_named" (af aU) H1).oS ((bE aU).drop 12) D [U (.ref fe),U (.ref d),U (.ref la),U (.int room),U (.int down),U (.int form),U (.int share),o7,o8,U vo,U vt,o11,o12,o13] H:=λt a b r N M R O hp ea eb=>by
  refine eY ((Z5 (Z4 gj.nd iP 11 (Zj jQ (Zj Am (fh (gQ hr) (va aA 1) aC (λ_ _=>rfl)) (Z6 iy e Rc (Z1 (jC bV (va aA 5) au (mh _)) ak))) (Zj Am (fh (gQ hr) (va aA 1) aC (λ_ _=>rfl)) (Z6 iy e Rc (Z1 (jC bV (va aA 5) au (mh _)) ak))))) cZ)) ?_
  right
  right
  let ad:⇑l*((a:Nat):Int).toNat<=my:=small (by rw[Rv];let:=XG ⇑l N;omega);let ac:⇑o*((b:Nat):Int).toNat<=my:=small (by rw[Rv];let:=XG ⇑o M;omega);let ab:(P7 a l).flatten.length<=20:=by rw[len_rep];let:=S4 ⇑l N;omega
  let aa:(P7 b o).flatten.length<=20:=by rw[len_rep];let:=S4 ⇑o M;omega
  ext;calc .inr #[_,rfl,?_];rw[ea];ext;calc nw λp2 H2 v L ah=>?_;rw[Rv]at L;let am:=(X.sc.Z v).get (xT S);let ao:=v _ _ d1;ext;calc .inr #[_,rfl,?_];rw[eb];ext;calc nw λp3 H3 G h3 ag=>?_;rw[Rv]at h3;let ai:=G _ _ L;let lc:(P7 a l).flatten.length+(P7 b o).flatten.length<=my:=small ();ext W u;rw[<-R];let gD:=ae u (.Y r);let g:=(v.trans G).trans gD;let Y:W≠fe:=bj (X.sc.Z (v.trans G)).ff u;let lv:=⇑O;rw[bM]at lv
  let Z:⇑r<=20:=by
   let:=congrArg Us R;rw[mu,len_rep,len_rep]at this;let h1:=S4 ⇑l N;let L:=S4 ⇑o M;omega
  ext;exact Ik hj TK p hr (X.Z g) (k.ext Q ((Ext.refl Q).Z g)) hsh (ro.Z g) go (rt.Z g) gt aj Y (O.Z g) () hp
 by_cases C:form=6
 .exact q (yo kl) 1 0 l (u4 _) (Qc _) (by simp) t2 (λ_=>.inl #[C,rfl]) (by rw[C];rfl) (by rw[C];rfl)
 .by_cases B:form=7
  .exact q ds 0 1 o (Qc _) (u4 _) (by simp) T (λ_=>.inr #[B,rfl]) (by rw[B];rfl) (by rw[B];rfl)
  .exact q [] 0 0 [] (Qc _) (Qc _) (by simp) .nil (λz=>absurd rfl z) (if_neg (λz=>C (V.int.inj (of_decide_eq_true z)))) (if_neg (λz=>B (V.int.inj (of_decide_eq_true z))))
def MV (hj:1<=j)(Z:Ya "_law_take" 1 YO cg gT tfd)(e:mg "len"=gV)(g:mg "int"=gV)(hr:dZ j (A.deeper (Qj "_law_named" (af aU) s⁻¹ f cdv)))(X:yp K fe d la S kl nm ds ns room down n H m)(k:AM D K fe d S kl nm ds ns m0 room down H)(hsh:share=(room-1) / 3)(ro:Rp K H (enc one) vo)(go:mL kl ds S.f0 ns m0 m1 share.toNat (down.toNat-1) one)(rt:Rp K H (enc other) vt)(gt:mL kl ds S.f0 ns m1 m share.toNat (down.toNat-1) other):
  jA (Zk gy YM "_law_named" (af aU) H1).oS ((bE aU).drop 11) D [U (.ref fe),U (.ref d),U (.ref la),U (.int room),U (.int down),U (.int form),U (.int share),o7,o8,U vo,U vt,o11,o12,o13] H:=by
 refine eY ((Z5 (Zb (Zp bV (va aA 5) au) (Zd (Zo (Zi (aZ[4]! (Z1 (Ze (Z1 aC (Z1 (fQ[7]! wM aC (Z0 Z (cU (va aA 0) (Za au))) (λ_ _=>rfl)) (Z1 (va aA 9) (Za (va aA 10)))))) (Z1 (Ze (Z1 aC (Z1 (va aA 9) (Za (va aA 10))))) ak))) (Z0 Z (cU (va aA 0) (Za au))))))) cZ)) ?_
 right
 right
 let Y:=X.sc.ff;let r5:=X.r5;calc jY ?_;intro N1 c1;let last:N1 [U (.ref fe),U (.ref d),U (.ref la),U (.int room),U (.int down),U (.int form),U (.int share),o7,o8,U vo,U vt,o11,o12,o13] H:=Cut.go c1 (Il hj Z e g hr X k hsh ro go rt gt);clear c1;ext;refine b8 (λc=>?_) (λc=>?_)
 .clear last
  let fin:∀(p:AB) (L:Hp) (h:Hd),Ext fe H L->Rp K L (enc (.mk h [one,other])) (.ref p)->dc h 2=AD->(∀b∈bnd h 2,⇑b<=5)->uA h->HW h->(∀g0,fU kl ds g0 ns h 2=.ok g0)->bnd h 2=[[],[]]->D.rt (.ref p) L:=λp L h x' r' a1 a2 a3 ah a4 a5=>by
   refine k _ _ (.mk h [one,other]) m (X.sc.ext x') (Ext.uc Y x') r' (mL.Ic (z:=share.toNat+(share.toNat+0)) a1 a2 a3 ah a4 ?_ ?_)
   .show jL kl ds S.f0 ns (bnd h 2) m0 m _ _ _;rw[a5];exact jL.jq go (jL.jq gt (jL.nil (u4 _)))
   .omega
  let z6:(("+-*:<=":AA)).length<=my:=∅
  ext r2 H2 T R q;let(J,ad,_):=mE (xs:=(("+-*:<=":AA)).cps.toList) (k:=r2) T (by rw[show((("+-*:<=":AA)).cps.toList.length:Int)=6 by decide];calc R);let v:=ro.kt (q.kt Y);let u:=rt.kt (q.kt Y);let ac:=q.2;ext o G;let t:=ae G (.J [.str "op",.str ⟨#[J]⟩,vo,vt])
  let r3:Rp K (upd H2 o (.J [.str "op",.str ⟨#[J]⟩,vo,vt])) (enc (.mk (.op ⟨#[J]⟩) [one,other])) (.ref o):=by
   rw[bG];exact Rp.new (K:=K) G (.cons .s (.cons .s (.cons v (.one u))))
  generalize upd H2 o (.J [.str "op",.str ⟨#[J]⟩,vo,vt])=H3 at t r3|-;ext l C;let I:=ae C (.J [.str "more",vo,vt])
  let r4:Rp K (upd H3 l (.J [.str "more",vo,vt])) (enc (.mk .more [one,other])) (.ref l):=by
   rw[bG];exact Rp.new (K:=K) C (.cons .s (.cons (v.Z t) (.one (u.Z t))))
  let B:=r3.Z I;generalize upd H3 l (.J [.str "more",vo,vt])=H4 at I r4 B|-;ext;calc nw λp5 H5 N h5 gD=>?_;let x5:Ext fe H H5:=((q.Z t).Z I).Z N;let n5:p5≠fe:=bj ((q.Z t).Z I).2 gD;let O:=r4.Z N;let Q:=B.Z N;let W:=x5.2;ext r6 H6 ab aa M;let h6:aV K H6 p5 [.ref o,.ref l]:=aV.of (M.1 _ _ n5 h5);let r:=x5.trans M;let k6:=M.kt W;rcases(show r6=0\/r6=1 by omega)with rfl|rfl
  .have a0:fM [V.ref o,V.ref l] 0=U (.ref o):=aG (j:=0) rfl;ext;exact fin _ _ _ r (Q.kt k6) rfl mO (iO ⋯) True.intro (λ_=>rfl) rfl
  .have a0:fM [V.ref o,V.ref l] 1=U (.ref l):=aG (j:=1) rfl;ext;exact fin _ _ _ r (O.kt k6) rfl mO (iO ⋯) True.intro (λ_=>rfl) rfl
 .ext;calc last
def MW (T:1<=j)(gD:Ya "_law_take" 1 YO cg gT tfd)(v:Ya "_law_named" j YQ (fK K n) gN nfd)(e:mg "len"=gV)(l:mg "int"=gV)(hr:dZ j (A.deeper (Qj "_law_named" (af aU) s⁻¹ f cdv)))(X:yp K fe d la S kl nm ds ns room down n H m)(k:AM D K fe d S kl nm ds ns m0 room down H)(hsh:share=(room-1) / 3)(ro:Rp K H (enc one) vo)(go:mL kl ds S.f0 ns m0 m1 share.toNat (down.toNat-1) one)(rt:Rp K H (enc other) vt)(gt:mL kl ds S.f0 ns m1 m share.toNat (down.toNat-1) other):
  jA (Zk gy YM "_law_named" (af aU) H1).oS ((bE aU).drop 10) D [U (.ref fe),U (.ref d),U (.ref la),U (.int room),U (.int down),U (.int form),U (.int share),o7,o8,U vo,U vt,o11,o12,o13] H:=by
 refine eY ((Z5 (Zb (Zp bV (va aA 5) au) (Zd (Zo (Ze (Z1 aC (Z1 (va aA 9) (Z1 (va aA 10) (Z1 (Z0 v (Z1 (va aA 0) (Z1 (va aA 1) (Z1 (va aA 2) (Z1 (va aA 6) (Z1 (bX jO (va aA 4) au) ak)))))) ak)))))))) cZ)) ?_
 right
 right
 let hf:=X.sc.ff;let Z:=X.r5;calc jY ?_;intro V G;let last:V [U (.ref fe),U (.ref d),U (.ref la),U (.int room),U (.int down),U (.int form),U (.int share),o7,o8,U vo,U vt,o11,o12,o13] H:=Cut.go G (MV T gD e l hr X k hsh ro go rt gt);clear G;let W:=X.sc;let R:=X.hla;let N:=X.nla;let M:=X.nlg;let Y:=X.rh;let d1:=X.d1;let dn:=X.dn;let ln:=X.ln;let I:=X.wn;let L:0<=share:=()
 let Q:⇑ns+2*(down-1).toNat<=80:=()
 ext;refine b8 (λc=>?_) (λc=>?_)
 .clear last;ext J H2 q O o;let u:=ro.kt o.fr.kt;let t:=rt.kt o.fr.kt;ext p3 p;let B:=ae p (.J [.str "if",vo,vt,J]);let C:=o.g;rw[Sq (),show(down-1).toNat=down.toNat-1 by omega]at C;refine k _ _ (.mk .ife [one,other,q]) O (o.sc.Z B) (o.fr.Z B) ?_ (mL.Ic (z:=share.toNat+(share.toNat+(share.toNat+0))) rfl mO (iO ⋯) True.intro (λ_=>rfl) (jL.jq go (jL.jq gt (jL.jq C (jL.nil (bs:=[]) (u4 _))))) ())
  rw[bG];exact Rp.new (K:=K) p (.cons .s (.cons u (.cons t (.one o.r))))
 .ext;calc last
def MX (hj:1<=j)(TK:Ya "_law_take" 1 YO cg gT tfd)(B:Ya "_law_named" j YQ (fK K n) gN nfd)(e:mg "len"=gV)(l:mg "int"=gV)(hr:dZ j (A.deeper (Qj "_law_named" (af aU) s⁻¹ f cdv)))(X:yp K fe d la S kl nm ds ns room down n H m)(k:AM D K fe d S kl nm ds ns m0 room down H)(hsh:share=(room-1) / 3)(ro:Rp K H (enc one) vo)(go:mL kl ds S.f0 ns m0 m1 share.toNat (down.toNat-1) one)(rt:Rp K H (enc other) vt)(gt:mL kl ds S.f0 ns m1 m share.toNat (down.toNat-1) other)(hxy:x≠y)(hwx:Wo x)(hwy:Wo y):
  jA (Zk gy YM "_law_named" (af aU) H1).oS ((bE aU).drop 9) D [U (.ref fe),U (.ref d),U (.ref la),U (.int room),U (.int down),U (.int form),U (.int share),U (.str x),U (.str y),U vo,U vt,o11,o12,o13] H:=by
 refine eY ((Z5 (Zb (Zp bV (va aA 5) au) (Zd (Zo (Ze (Z1 aC (Z1 (va aA 9) (Z1 (va aA 7) (Z1 (va aA 8) (Z1 (va aA 10) (Z1 (Z0 B (Z1 (va aA 0) (Z1 (va aA 1) (Z1 (Zj jQ (va aA 2) (aZ[4]! (Z1 (va aA 7) (Za (va aA 8))))) (Z1 (va aA 6) (Z1 (bX jO (va aA 4) au) ak)))))) ak)))))))))) cZ)) ?_
 right
 right
 let hf:=X.sc.ff;let r5:=X.r5;calc jY ?_;intro N1 W;let last:N1 [U (.ref fe),U (.ref d),U (.ref la),U (.int room),U (.int down),U (.int form),U (.int share),U (.str x),U (.str y),U vo,U vt,o11,o12,o13] H:=Cut.go W (MW hj TK B e l hr X k hsh ro go rt gt);clear W;let N:=X.hla;let ad:=X.nla;let ac:=X.nlg;let rh:=X.rh;let d1:=X.d1;let dn:=X.dn;let ln:=X.ln;let G:=X.wn;let aa:0<=share:=()
 ext;refine b8 (λc=>?_) (λc=>?_)
 .clear last;ext;calc nw λl2 H2 J h2 ai=>?_;let T:=J _ _ N;let lc:⇑(ns.map V.str)+⇑([.str x,.str y]:MC V)<=my:=small (by rw[bM];show ⇑ns+2<=_;omega);ext;calc nw λl3 H3 Q h3 u=>?_;let ea:ns.map V.str++[.str x,.str y]=(ns++[x,y]).map V.str:=by simp
  rw[ea]at h3;let o:=X.sc.Z J;let n3:l3≠fe:=bj o.ff u;let ag:l3≠S.lg:=(ay o.lg u).symm;let ab:=o.Z Q;let p:=J.trans Q
  let Y:∀q∈ns++[x,y],Wo q:=λq hq=>(zv.mp hq).elim (G q) (λz=>by
   simp only[P1,Qo,or_false]at z;rcases z with rfl|rfl
   .exact hwx
   .exact hwy)
  let ah:⇑(ns++[x,y])+2*(down-1).toNat<=80:=by rw[mu];show ⇑ns+2+_<=_;omega
  ext Z H4 I m4 v;let R:=(Kt.Z p).trans v.fr.kt;let M:=ro.kt R;let L:=rt.kt R;let f4:dH [S.lg] fe H H4:=((dH.refl hf).Z p).trans v.fr;ext p5 t;let O:=ae t (.J [.str "fold",vo,.str x,.str y,vt,Z]);let gD:=v.g;rw[Sq (),show(down-1).toNat=down.toNat-1 by omega]at gD;refine k _ _ (.mk (.fold x y) [one,other,I]) m4 (v.sc.Z O) (f4.Z O) ?_ (mL.Ic (z:=share.toNat+(share.toNat+(share.toNat+0))) rfl ?_ (iO ⋯) #[hwx,hwy] (λg0=>by show(if x=y then Except.error (Er.tw,x)else Except.ok g0)=_;rw[if_neg hxy]) (jL.jq go (jL.jq gt (jL.cons (b:=[x,y]) gD (jL.nil (bs:=[]) (u4 _))))) ())
  .rw[bG];exact Rp.new (K:=K) t (.cons .s (.cons M (.cons .s (.cons .s (.cons L (.one v.r))))))
  .intro b C;let C:b∈[[],[],[x,y]]:=C;simp only[P1,Qo,or_false]at C;rcases C with rfl|rfl|rfl
   .exact Qc _
   .exact Qc _
   .show 2<=5;decide
 .ext;calc last
def E2 (J:1<=j)(L:Ya "_law_take" 1 YO cg gT tfd)(p:Ya "_law_named" j YQ (fK K n) gN nfd)(e:mg "len"=gV)(l:mg "int"=gV)(hr:dZ j (A.deeper (Qj "_law_named" (af aU) s⁻¹ f cdv)))(X:yp K fe d la S kl nm ds ns room down n H m)(k:AM D K fe d S kl nm ds ns m0 room down H)(hsh:share=(room-1) / 3)(ro:Rp K H (enc one) vo)(go:mL kl ds S.f0 ns m0 m share.toNat (down.toNat-1) one)(hxy:x≠y)(hwx:Wo x)(hwy:Wo y):
  jA (Zk gy YM "_law_named" (af aU) H1).oS ((bE aU).drop 8) D [U (.ref fe),U (.ref d),U (.ref la),U (.int room),U (.int down),U (.int form),U (.int share),U (.str x),U (.str y),U vo,o10,o11,o12,o13] H:=by
 refine eY ((Z5 (Z4 gj.nd iP 10 (Z0 p (Z1 (va aA 0) (Z1 (va aA 1) (Z1 (va aA 2) (Z1 (va aA 6) (Z1 (bX jO (va aA 4) au) ak))))))) cZ)) ?_
 right
 right
 let gD:=X.sc.ff;let Q:=X.r5;let N:=X.sc;let I:=X.hla;let C:=X.nla;let B:=X.nlg;let O:=X.rh;let W:=X.d1;let V:=X.dn;let T:=X.ln;let u:=X.wn;let z:0<=share:=()
 let G:⇑ns+2*(down-1).toNat<=80:=()
 ext M Y v R o;let q:=ro.kt o.fr.kt;let t:=o.g;rw[Sq (),show(down-1).toNat=down.toNat-1 by omega]at t;ext;calc MX J L p e l hr (X.step o.sc o.fr) (k.step o.fr) hsh q go o.r t hxy hwx hwy
def MY (hj:1<=j)(TK:Ya "_law_take" 1 YO cg gT tfd)(Q:Ya "_law_named" j YQ (fK K n) gN nfd)(l:mg "len"=gV)(o:mg "int"=gV)(hr:dZ j (A.deeper (Qj "_law_named" (af aU) s⁻¹ f cdv)))(X:yp K fe d la S kl nm ds ns room down n H m)(k:AM D K fe d S kl nm ds ns m0 room down H)(hsh:share=(room-1) / 3)(ro:Rp K H (enc one) vo)(go:mL kl ds S.f0 ns m0 m (if form=1 then(room-1).toNat else share.toNat) (down.toNat-1) one)(hxy:x≠y)(hwx:Wo x)(hwy:Wo y):
  jA (Zk gy YM "_law_named" (af aU) H1).oS ((bE aU).drop 6) D [U (.ref fe),U (.ref d),U (.ref la),U (.int room),U (.int down),U (.int form),U (.int share),U (.str x),U (.str y),U vo,o10,o11,o12,o13] H:=by
 refine eY ((Z5 (Zb (Zp bV (va aA 5) au) (Zd (Zo (Ze (Z1 (Zi (aZ[4]! (Z1 aC (cU aC (Za aC)))) (Z0 TK (cU (va aA 0) (Za au)))) (Za (va aA 9))))))) (Z5 (Zb (Zp bV (va aA 5) au) (Zd (Zo (Ze (Z1 aC (Z1 (va aA 7) (Z1 (va aA 9) (Z1 (Z0 Q (Z1 (va aA 0) (Z1 (va aA 1) (Z1 (Zj jQ (va aA 2) (aZ[4]! (Za (va aA 7)))) (Z1 (va aA 6) (Z1 (bX jO (va aA 4) au) ak)))))) ak)))))))) cZ))) ?_
 right
 right
 let v:=X.sc.ff;let r5:=X.r5;let sc:=X.sc;let Z:=X.hla;let al:=X.nla;let ai:=X.nlg;let rh:=X.rh;let d1:=X.d1;let dn:=X.dn;let ln:=X.ln;let T:=X.wn;let ac:0<=share:=()
 calc kI ?_;intro N1 N2 c1 c2;let last:form≠1->N2 [U (.ref fe),U (.ref d),U (.ref la),U (.int room),U (.int down),U (.int form),U (.int share),U (.str x),U (.str y),U vo,o10,o11,o12,o13] H:=λc=>Cut.go c2 (E2 hj TK Q l o hr X k hsh ro (by rw[if_neg c]at go;calc go) hxy hwx hwy);clear c2;ext;refine b8 (λc=>?_) (λc=>?_)
 .have c':form=1:=V.int.inj (of_decide_eq_true c);rw[if_pos c']at go;clear last c1;ext;calc nw λl2 H2 u h2 M=>?_;let ao:=v.Z u;let n2:=bj v M;ext r3 H3 ah ag x3;let h3:aV K H3 l2 [.str "first",.str "others",.str "long"]:=aV.of (x3.1 _ _ n2 h2);let C:Ext fe H H3:=((Ext.refl v).Z u).trans x3;let Y:=ro.kt (C.kt v)
  obtain⟨z,hh,az,e1,e2,e3,e4,eh,e5,e6⟩:∃(z:AA) (h:Hd),fM [V.str "first",V.str "others",V.str "long"] r3=U (.str z)/\enc (.mk h [one])=.t [.s z,enc one]/\dc h 1=AD/\(∀b∈bnd h 1,⇑b<=5)/\uA h/\HW h/\(∀g0,fU kl ds g0 ns h 1=.ok g0)/\bnd h 1=[[]]:=by
   rcases(show r3=0\/r3=1\/r3=2 by omega)with rfl|rfl|rfl
   .exact#["first",.first,aG (j:=0) rfl,by rw[bG];rfl,rfl,mO,iO ⋯,True.intro,λ_=>rfl,rfl]
   .exact⟨"others",.others,aG (j:=1) rfl,by rw[bG];rfl,rfl,mO,iO ⋯,True.intro,λ_=>rfl,rfl⟩
   .exact⟨"long",.long,aG (j:=2) rfl,by rw[bG];rfl,rfl,mO,iO ⋯,True.intro,λ_=>rfl,rfl⟩
  ext p4 J;let s4:=ae J (.J [.str z,vo]);let B:=C.Z s4;refine k _ _ (.mk hh [one]) m (sc.ext B) (Ext.uc v B) ?_ (mL.Ic (z:=(room-1).toNat+0) e2 e3 e4 eh e5 ?_ ())
  .rw[e1];exact Rp.new (K:=K) J (.cons .s (.one Y))
  .show jL kl ds S.f0 ns (bnd hh 1) m0 m _ _ _;rw[e6];exact jL.jq go (jL.nil (u4 _))
 let O:form≠1:=λz=>c (by rw[z];rfl);let e:=last O;rw[if_neg O]at go;clear last;ext;refine b8 (λc=>?_) (λc=>?_)
 .clear e;ext;calc nw λl2 H2 u h2 M=>?_;let aa:=u _ _ Z;let lc:⇑(ns.map V.str)+⇑([.str x]:MC V)<=my:=small (by rw[bM];show ⇑ns+1<=_;omega);ext;calc nw λl3 H3 s3 h3 L=>?_;let ea:ns.map V.str++[.str x]=(ns++[x]).map V.str:=by simp
  rw[ea]at h3;let p:=X.sc.Z u;let n3:l3≠fe:=bj p.ff L;let am:l3≠S.lg:=(ay p.lg L).symm;let ad:=p.Z s3;let G:=u.trans s3;let ab:∀q∈ns++[x],Wo q:=λq hq=>(zv.mp hq).elim (T q) (λz=>by rw[vv.mp z];calc hwx);let an:⇑(ns++[x])+2*(down-1).toNat<=80:=by rw[mu];show ⇑ns+1+_<=_;omega
  ext v4 H4 gD m4 N;let k4:=(Kt.Z G).trans N.fr.kt;let W:=ro.kt k4;let f4:dH [S.lg] fe H H4:=((dH.refl v).Z G).trans N.fr;ext p5 I;let s5:=ae I (.J [.str "let",.str x,vo,v4]);let gg:=N.g;rw[Sq (),show(down-1).toNat=down.toNat-1 by omega]at gg;refine k _ _ (.mk (.lt x) [one,gD]) m4 (N.sc.Z s5) (f4.Z s5) ?_ (mL.Ic (z:=share.toNat+(share.toNat+0)) rfl ?_ (iO ⋯) hwx (λg0=>rfl) (jL.jq go (jL.cons (b:=[x]) gg (jL.nil (bs:=[]) (u4 _)))) ())
  .rw[bG];exact Rp.new (K:=K) I (.cons .s (.cons .s (.cons W (.one N.r))))
  .intro b R;let R:b∈[[],[x]]:=R;simp only[P1,Qo,or_false]at R;rcases R with rfl|rfl
   .exact Qc _
   .show 1<=5;decide
 .ext;calc e
def Ld (Z:1<=j)(TK:Ya "_law_take" 1 YO cg gT tfd)(p:Ya "_law_named" j YQ (fK K n) gN nfd)(l:mg "len"=gV)(e:mg "int"=gV)(hr:dZ j (A.deeper (Qj "_law_named" (af aU) s⁻¹ f cdv)))(X:yp K fe d la S kl nm ds ns room down n H m0)(k:AM D K fe d S kl nm ds ns m0 room down H)(hsh:share=(room-1) / 3)(hxy:x≠y)(hwx:Wo x)(hwy:Wo y):
  jA (Zk gy YM "_law_named" (af aU) H1).oS ((bE aU).drop 5) D [U (.ref fe),U (.ref d),U (.ref la),U (.int room),U (.int down),U (.int form),U (.int share),U (.str x),U (.str y),o9,o10,o11,o12,o13] H:=by
 refine eY ((Z5 (Z4 gj.nd iP 9 (Z0 p (Z1 (va aA 0) (Z1 (va aA 1) (Z1 (va aA 2) (Z1 (Zi (aZ[4]! (Z1 (va aA 6) (Z1 (bX jO (va aA 3) au) ak))) (Z6 iy e Rc (Z1 (jC bV (va aA 5) au (mh _)) ak))) (Z1 (bX jO (va aA 4) au) ak))))))) cZ)) ?_
 right
 right
 let hf:=X.sc.ff;let r5:=X.r5;let N:=X.sc;let u:=X.hla;let gD:=X.nla;let T:=X.nlg;let rh:=X.rh;let d1:=X.d1;let dn:=X.dn;let ln:=X.ln;let I:=X.wn;let L:0<=share:=()
 let W:⇑ns+2*(down-1).toNat<=80:=()
 ext;calc nw λl2 H2 t o Y=>?_;let h2:aV K H2 l2 [.int share,.int (room-1)]:=aV.of o;let M:=N.Z t;let C:=t _ _ u
 let aa:fM [V.int share,V.int (room-1)] (if decide (V.int form=V.int 1)=AD then 1 else 0)=U (.int (if form=1 then room-1 else share)):=by
  by_cases c:form=1
  .rw[if_pos (by rw[c];rfl),if_pos c];exact aG (j:=1) rfl
  .rw[if_neg (λz=>c (V.int.inj (of_decide_eq_true z))),if_neg c];exact aG (j:=0) rfl
 let R:0<=(if form=1 then room-1 else share):=by split<;>omega
 let Q:(if form=1 then room-1 else share)<=100:=by split<;>omega
 let O:1<=(if form=1 then room-1 else share):=by split<;>omega
 ext;calc .inr #[_,rfl,?_];ext v3 H3 J m3 q;let G:dH [S.lg] fe H H3:=((dH.refl hf).Z t).trans q.fr;let v:=q.g;rw[Sq (),show(down-1).toNat=down.toNat-1 by omega]at v;let B:(if form=1 then room-1 else share).toNat=if form=1 then(room-1).toNat else share.toNat:=by split<;>rfl
 rw[B]at v;ext;calc MY Z TK p l e hr (X.step q.sc G) (k.step G) hsh q.r v hxy hwx hwy
def E3 (hj:1<=j)(Z:Ya "_law_take" 1 YO cg gT tfd)(O:Ya "_law_named" j YQ (fK K n) gN nfd)(N:Ya "_law_named_match" (j+1) Y4 (uF K n) gM mfd)(l:mg "len"=gV)(o:mg "int"=gV)(hr:dZ (j+1) (A.deeper (Qj "_law_named" (af aU) s⁻¹ f cdv)))(X:yp K fe d la S kl nm ds ns room down n H m0)(k:AM D K fe d S kl nm ds ns m0 room down H):
  jA (Zk gy YM "_law_named" (af aU) H1).oS ((bE aU).drop 2) D [U (.ref fe),U (.ref d),U (.ref la),U (.int room),U (.int down),U (.int form),o6,o7,o8,o9,o10,o11,o12,o13] H:=by
 refine eY ((Z5 (Z4 gj.nd iP 6 (Zj sI (bX jO (va aA 3) au) au)) (Z5 (@zW _ _ (7) (8) _ _ _ _ _ _ _ _ _ _ _ rfl gj.nd rfl rfl ∅ rfl rfl (Z1 (Zi (fh (gQ hr) (va aA 1) aC (λ_ _=>rfl)) (Z0 Z (cU (va aA 0) (Za au)))) (Z1 (Zi (fh (gQ hr) (va aA 1) aC (λ_ _=>rfl)) au) ak)) (by rfl) (by rfl)) (Z5 (Zb (PW.pt (iY[7]! (Zp bV (va aA 5) au) (iu[4]! (Zh pS (Z2 aN l Qh (Z1 (fh (gQ hr) (va aA 1) aC (λ_ _=>rfl)) ak)) au)))) (Zd (Zo (Z0 N (Z1 (va aA 0) (Z1 (va aA 1) (Z1 (va aA 2) (Z1 (Zj sI (bX jO (va aA 3) au) au) (Z1 (bX jO (va aA 4) au) ak))))))))) cZ)))) ?_
 right
 right
 let hf:=X.sc.ff;let r5:=X.r5;let gn:=X.sc.get (uE S);let hn:=X.sc.ln;let l6:=X.sc.l6;let al:⇑(nm.map V.str)=6:=by rw[bM];exact l6
 let rh:=X.rh;let d1:=X.d1;let dn:=X.dn;let ln:=X.ln;let R:=X.sc.nf.2.1;let aa:=X.wn;calc qj ?_;intro N1 N2 N3 c1 M Y;ext r2 H2 ag ae Q;let t:=X.ext Q;let an:aV K H2 S.ln (nm.map V.str):=aV.of t.sc.ln;let ap:=t.sc.get (uE S);obtain⟨q,hq,rfl⟩:∃q:Nat,q<5/\r2=q:=#[r2.toNat,(),()];let aq:fM (nm.map V.str) (q:Int)=U (.str (nm[q]'())):=aG (by rw[EF,pC ()];rfl);let a5:fM (nm.map V.str) 5=U (.str (nm[5]'())):=aG (j:=5) (by rw[EF,pC ()];rfl)
 let p:(nm[q]'())≠(nm[5]'()):=λz=>by
  let:=X.sc.un q 5 (nm[q]'()) (pC ()) (by rw[z];calc pC ());omega
 let ar:=t.sc.get (zI S);let(ka,I,e,J,L):=t.sc.kd.aT;let ek:S.kd=ka:=V.ref.inj e;rw[<-ek]at J;let G:=⇑L;rw[bM]at G;let T:=k.ext hf Q;let v:Wo (nm[q]'()):=X.sc.nw _ (Qz _);let u:Wo (nm[5]'()):=X.sc.nw _ (Qz _);generalize(nm[q]'())=x at aq p v;generalize(nm[5]'())=y at a5 p u;let ad:=t.sc;let gD:=t.hla;let ai:=X.nla;let ah:=X.nlg;let last:N3 [U (.ref fe),U (.ref d),U (.ref la),U (.int room),U (.int down),U (.int form),U (.int ((room-1) / 3)),U (.str x),U (.str y),o9,o10,o11,o12,o13] H2:=Cut.go Y (Ld hj Z O l o (hr.mono ()) t T rfl p v u);clear Y;ext;refine b8 (λc=>?_) (λc=>?_)
 .ext;refine b8 (λM=>?_) (λM=>?_)
  .have as:(0:Int)<(⇑I:Int):=of_decide_eq_true M;let ao:0<⇑kl:=()
   let ac:1<=(room-1) / 4:=()
   let ab:(room-1) / 4<=100:=()
   let am:⇑ns+2+2*(down-1).toNat<=80:=()
   clear last;ext v3 H3 C m3 B;let W:=B.g;rw[show(down-1).toNat=down.toNat-1 by omega]at W;exact T v3 H3 C m3 B.sc B.fr B.r (W.wk () (u4 _))
  .ext;exact last
 .ext;calc last
def E4 (hj:1<=j)(F:i9 K "_law_named" "_law_named" aU f fd)(TK:Ya "_law_take" 1 YO cg gT tfd)(Y:Ya "_law_named" j YQ (fK K n) gN nfd)(X:Ya "_law_named_match" (j+1) Y4 (uF K n) gM mfd)(Z:Ya "_law_named_leaf" 2 ZN (xU K) gL lfd)(p:mg "len"=gV)(q:mg "int"=gV):Yf gy (j+2) f fd YQ (fK K (n+1)):=by
 exists F.ok gj
 .have(_,_,_,_,_,_,_,_,_,_,_,rfl,_):=h;rfl
 let(fe,d,la,l,o,S,kl,nm,ds,ns,m,rfl,sc,T,v,N,ac,ab,af,dn,R,I,k):=h;refine#[_,(Z5 (Z4 gj.nd iP 5 (Z0 TK (cU (va aA 0) (Za au)))) (Z5 (Zb (PW.pt (rO[7]! (Zp lQ (va aA 3) au) (rO[7]! (Zp lQ (va aA 4) au) (qN[4]! (Zp bV (va aA 5) au))))) (Zd (Zo (Z0 Z (Z1 (va aA 0) (Z1 (va aA 1) (Za (va aA 2)))))))) cZ)),?_]
 right
 right
 let hf:=sc.ff;calc kI ?_;intro N1 N2 c1 B;ext D H1 ae ad G;let M:=sc.ext G;let f1:dH [S.lg] fe H H1:=Ext.uc hf G;let y:=G.1 _ _ v T;calc Cut.go c1 ?_;refine Jr (l<5\/o<1\/D=0) (λC W cf=>?_) (λc=>?_) (λc=>?_)
 .ext;refine b8 (λc=>?_) (λc=>?_)
  .exact W (.inl (of_decide_eq_true c))
  .ext;refine b8 (λB=>?_) (λB=>?_)
   .exact W (.inr (.inl (of_decide_eq_true B)))
   .ext
    by_cases z:D=0
    .rw[show decide (V.int D=V.int 0)=AD by rw[z];rfl];exact W (.inr (.inr z))
    .rw[show decide (V.int D=V.int 0)=AE from decide_eq_false λe=>z (V.int.inj e)];exact cf (λw=>w.elim (λw=>c (decide_eq_true w)) λw=>w.elim (λw=>B (decide_eq_true w)) z)
 .have aa:⇑ns<=100:=()
  ext J H2 t O u;exact k J H2 t O #[u.sc,f1.trans u.fr,u.r,u.g.wk (WA _ _) (Qc _)]
 .have c5:¬l<5:=λz=>c (.inl z);let cd:¬o<1:=λz=>c (.inr (.inl z));calc Cut.go B ?_;calc E3 hj TK Y X p q hr #[M,y,v,N,(),(),(),(),R,I] ?_;intro J H2 t O L gD r2 u;calc k J H2 t O #[L,f1.trans gD,r2,u.wk (W6 _ _) ()]
theorem E5 :∀{l a:List AA},l.Nodup->(∀x∈l,x∉a)->cy a l=gV
 | [],_,_,_=>rfl
 |x::r,a,hn,ha=>by
  rw[RZ]at hn;show(if x∈a then U x else cy (a++[x]) r)=gV;rw[if_neg (ha x (.head _))];calc E5 hn.2 λy d z=>?_;rcases zv.mp z with z|z
  .exact ha y (.tail _ d) z
  .exact hn.1 (vv.mp z▸d)
def E6 (h:l.Nodup):cy [] l=gV:=E5 h λ_ _ z=>nomatch z
def Im (h:k.ok ah):hU ah k=gV:=by
 let d:=Kk.lC.mp h;unfold hU
 cases e:k.core with
 |num=>rfl
 |kd x=>rw[e]at d;calc if_pos d
 |op n=>rw[e]at d;calc absurd d id
 |row j=>rfl
theorem uG :∀{l:List d},(∀x∈l,f x=gV)->eR f l=gV
 | [],_=>rfl
 |x::r,h=>by
  unfold eR;rw[h x (.head _)];calc uG λy e=>h y (.tail _ e)
theorem BE :∀{d:MC (AA×MC Kk)}{ta:List AA},(ta++d.map (·.1)).Nodup->(∀t∈d,∀c∈t.2,c.ok ah)->ie ah ta d=gV
 | [],_,_,_=>rfl
 |t::r,ta,hn,h=>by
  let e:ta++(t::r).map (·.1)=(ta++[t.1])++r.map (·.1):=by simp
  rw[e]at hn;unfold ie;rw[E6 (RU.mp hn).1];dsimp only;rw[uG λc j=>Im (h t (.head _) c j)];calc BE hn λu g=>h u (.tail _ g)
theorem zJ :∀{kl:Kl}{ah ta:List AA},(ah++kl.map (·.1)).Nodup->(ta++oR kl).Nodup->(∀(i:Nat) (k:AA×MC (AA×MC Kk)),kl[i]?=U k->∀t∈k.2,∀c∈t.2,c.ok (ah++(kl.take i).map (·.1)))->cY ah ta kl=gV
 | [],_,_,_,_,_=>rfl
 |k::r,ah,ta,h1,h2,h3=>by
  let o:ah++(k::r).map (·.1)=(ah++[k.1])++r.map (·.1):=by simp
  let m:ta++oR (k::r)=(ta++k.2.map (·.1))++oR r:=by unfold oR;simp
  rw[o]at h1;rw[m]at h2;unfold cY;rw[E6 (RU.mp h1).1];dsimp only;let d:=h3 0 k rfl;rw[VS,RL,QM]at d;rw[BE (RU.mp h2).1 d];calc zJ h1 h2 λi e j t g c l=>?_;let:=h3 (i+1) e j t g c l;rw[XH,Qd]at this;rw[Rw];calc this
def nX {xs:List AA}(h:Un xs):xs.Nodup:=by
 unfold List.Nodup;rw[List.pairwise_iff_getElem];intro i j l d g e;let:=h i j xs[i] (pC l) (by rw[e];calc pC d);omega
def oq (h:Un xs)(n:Nat):Un (xs.drop n):=λi j x e d=>by
 rw[VW]at e d;let:=h _ _ x e d;omega
def ou (h:Un xs)(n:Nat):Un (xs.take n):=λi j x e d=>by
 rw[Uq]at e d
 split at e
 .split at d
  .exact h _ _ x e d
  .cases d
 .cases e
def E7 (d:Un xs)(ok:CP xs kl):cY [] [] kl=gV:=by
 refine zJ ?_ ?_ ?_
 .rw[Sj,ok.nm];exact nX (ou d _)
 .rw[Sj,ok.tg];exact nX (ou (oq d 3) _)
 .intro i k g t j c l;let m:i<⇑kl:=(eF.mp g).1
  let e:(kl.take i).map (·.1)=xs.take i:=by
   rw[RK,ok.nm,List.take_take,SW ()]
  rw[Sj,e];calc(((ok.pt i k g).2.2 t j).2 c l).1
def uH (ok:CP xs kl)(e:∀x∈xs,Wo x):∀k∈kl,CQ k:=λk g=>by
 let(i,m):=QL g;let(a,b,c):=ok.pt i k m;refine#[a,b,λt d=>(c t d).1,e _ ?_,λt d=>#[e _ ?_,λq j=>#[λx l=>?_,((c t d).2 q j).2]]]
 .have:k.1∈kl.map (·.1):=QI g;rw[ok.nm]at this;exact Qy this
 .have:t.1∈oR kl:=RB.mpr #[k,g,QI d];rw[ok.tg]at this;exact Q7 (Qy this)
 .have:=Kk.lC.mp ((c t d).2 q j).1;rw[l]at this;calc e x (Qy this)
def AN (j:Un xs)(ok:CP xs kl)(m:⇑kl<=3)(g:∀x∈xs,Wo x):Jz kl:=by
 refine#[?_,?_,m,λk d=>?_,λk d=>#[(uH ok g k d).2.2.2.1,λt e=>((uH ok g k d).2.2.2.2 t e).1]]
 .rw[ok.nm];exact nX (ou j _)
 .rw[ok.tg];exact nX (ou (oq j 3) _)
 .have(i,l):=QL d;let(a,b,c):=ok.pt i k l;calc#[a,b,λt e=>(c t e).1]
meta def qJ(d:Int)(c:Nat):MC Int:=(Si c).map λ(i:Nat)=>(d+7*(i:Int)) % 100
def xV (d:Int)(c:Nat):qJ d (c+1)=qJ d c++[(d+7*(c:Int)) % 100]:=by
 unfold qJ;rw[Vp,i4];rfl
def AO (d:Int)(c:Nat):⇑(qJ d c)=c:=by
 unfold qJ;rw[bM,UP]
def Le (m:c<=3)(l:1<=c):(g+7*(c:Int)) % 100∉(qJ g c).drop 1:=λz=>by
 let(i,d):=QL z;rw[VW]at d;unfold qJ at d;rw[EF]at d
 let j:1+i<c:=by
  by_cases h:1+i<c
  .exact h
  .rw[UY (by rw[UP];omega)]at d
   cases d
 rw[List.getElem?_range j]at d;let e:(g+7*((1+i:Nat):Int)) % 100=(g+7*(c:Int)) % 100:=by simpa using d
 omega
def E8 {kn:List AA}{os:MC Int}{k:Kk}(h:k.ok kn):iT kn os k=.ok os:=by
 let d:=Kk.lC.mp h;unfold iT
 cases e:k.core with
 |num=>rfl
 |kd x=>rw[e]at d;calc if_pos d
 |op n=>rw[e]at d;calc absurd d id
 |row j=>rfl
def Io (m:1<=c){k:Kk}{j:MC Int}(h:HZ kn (qJ d c) k j):∃l,1<=l/\j=qJ d l/\iT kn ((qJ d c).drop 1) k=.ok ((qJ d l).drop 1)/\l<=c+1/\(c<=4->l<=4):=by
 rcases h with⟨rfl,h⟩|⟨o,ot,e,h4,hk,rfl⟩
 .exact#[c,m,rfl,E8 h,QT _,id]
 .rw[AO]at h4;obtain⟨g,rfl⟩:∃g,c=g+1:=#[c-1,()]
  let q:o=(d+7*(g:Int)) % 100:=by
   rw[xV]at e;exact(List.append_inj_right' e rfl|> List.singleton_inj.mp).symm
  let p:(o+7) % 100=(d+7*((g+1:Nat):Int)) % 100:=()
  refine#[g+2,(),?_,?_,(),λ_=>by omega]
  .rw[xV d (g+1),p]
  .unfold iT;rw[hk];dsimp only;rw[p,if_neg (Le () ()),xV d (g+1),List.drop_append_of_le_length (by rw[AO];omega)]
def ow (kl:Kl)(ds:MC (AA×Nat))(gs os:MC Int)(d:Df)(r:MC Df):jx kl ds gs os (d::r)=if d.1∈ds.map (·.1)then U (.tw,d.1)else qB kl ds gs d r (cE (kl.map (·.1)) [] os d.2.1):=CO (dl:=d::r) (i:=0) rfl
meta def xW(dl:MC Df):MC (AA×Nat):=dl.map λd=>(d.1,⇑d.2.1)
structure Lf(kn:List AA) (xs:List AA) (o0:Int) (c0 c:Nat) (i:Nat) (ps:MC (AA×Kk)):Prop where
 nm:ps.map (·.1)=xs.take i
 c1:1<=c
 e:∀r,cE kn [] ((qJ o0 c0).drop 1) (ps++r)=cE kn (ps.map (·.1)) ((qJ o0 c).drop 1) r
def Lf.nil (h:1<=c):Lf kn xs d c c 0 []:=#[rfl,h,λ_=>rfl]
def Lf.snoc (g:Lf kn xs l t c i ps)(u:Un xs){x:AA}(p:xs[i]?=U x){k:Kk}{d:MC Int}(h:HZ kn (qJ l c) k d):∃m,d=qJ l m/\(c<=4->m<=4)/\Lf kn xs l t m (i+1) (ps++[(x,k)]):=by
 let(m,B,G,D,_,y):=Io g.c1 h;let q:=(eF.mp p).1;let C:xs.take (i+1)=xs.take i++[x]:=by rw[we q,(eF.mp p).2]
 calc#[m,G,y,by rw[i4,g.nm,C];rfl,B,λr=>?_];rw[Rw,g.e]
 show(if x∈ps.map (·.1)then Except.error (Er.tw,x)else match iT kn ((qJ l c).drop 1) k with
  |.error f=>.error f
  |.ok d=>cE kn (ps.map (·.1)++[x]) d r)=_
 let v:x∉ps.map (·.1):=λz=>by
  rw[g.nm]at z;let(j,o):=QL z;rw[Uq]at o
  split at o
  .have:=u i j x p o;omega
  .cases o
 rw[if_neg v,D];dsimp only;rw[i4];rfl
structure JA(kl:Kl) (xs:List AA) (o0 f0:Int) (c m i:Nat) (dl:MC Df):Prop where
 nm:dl.map (·.1)=xs.take i
 c1:1<=c
 e:∃gs,(∀x∈gs,x∈pL f0 m)/\∀r,jx kl [] [] [] (dl++r)=jx kl (xW dl) gs ((qJ o0 c).drop 1) r
def JA.nil :JA kl xs d f0 1 0 0 []:=#[rfl,u4 _,[],(λ_ h=>nomatch h),λ_=>rfl]
def JA.snoc (g:JA kl xs d f0 c m i dl)(C:Un xs){x:AA}(t:xs[i]?=U x){ys:List AA}{y q:Nat}{ps:MC (AA×Kk)}(p:Lf (kl.map (·.1)) ys d c y q ps){m':Nat}{o:Tm}(h:Gd kl (xW dl) (ps.map (·.1)) (pL f0 m) (pL f0 m') o):JA kl xs d f0 y m' (i+1) (dl++[(x,ps,o)]):=by
 let(B,J,I):=g.e;let(v,H,G):=h B J;let u:=(eF.mp t).1;let L:xs.take (i+1)=xs.take i++[x]:=by rw[we u,(eF.mp t).2]
 let N:(xW dl).map (·.1)=xs.take i:=by unfold xW;rw[Qm];exact g.nm
 calc#[by rw[i4,g.nm,L];rfl,p.c1,v,G,λr=>?_];rw[Rw,I,List.singleton_append,ow]
 let D:x∉(xW dl).map (·.1):=λz=>by
  rw[N]at z;let(j,l):=QL z;rw[Uq]at l
  split at l
  .have:=C i j x t l;omega
  .cases l
 rw[if_neg D]
 let M:cE (kl.map (·.1)) [] ((qJ d c).drop 1) ps=.ok ((qJ d y).drop 1):=by
  let:=p.e [];rw[QM]at this;rw[this];rfl
 show qB kl (xW dl) B (x,ps,o) r (cE (kl.map (·.1)) [] ((qJ d c).drop 1) ps)=_;rw[M];unfold qB;dsimp only;rw[H];dsimp only;unfold xW;rw[i4];rfl
def JA.none (g:JA kl xs d f0 c m i dl)(j:cY [] [] kl=gV):cR kl dl=gV:=by
 unfold cR;rw[j];dsimp only;let(l,_,e):=g.e;let:=e [];rw[QM]at this;rw[this];rfl
end G16
namespace G16
open PySem L2
structure Lg[Wds] (z dp:Nat) (kl:Kl) (dl:MC Df):Prop where
 k3:⇑kl<=3
 kt:∀k∈kl,CQ k
 d1:1<=⇑dl
 d3:⇑dl<=3
 dd:∀d∈dl,Wn d.2.2/\Ta d.2.2/\d.2.2.size<=z/\d.2.2.depth<=dp/\⇑d.2.1<=3
 dw:∀d∈dl,EU d
meta def BF(K:cB):Sp:=λo H Q _=>∃(f:AB) (d:Int),o=[.ref f,.int d]/\cH H f/\1<=d/\d<=40 /\
 ∀(p j:AB) (pv:V) (g:Hp) (l:Kl) (m:MC Df) (e:List AA),Ext f H g->H j=gV->g j=U (.Y (e.map V.str))->⇑e=24->(∀x∈e,@Wo (qC e) x)->b9 K g p [pv,.ref j]->Rp K g (.t [.t (l.map fP),.t (m.map iC)]) pv->@Lg (qC e) d.toNat 6 l m->cR l m=gV->Q (.ref p) g
def aF :Nm YN (af aQ):=∅
def bU :Lm YN (af aQ):=∅
def bJ :aY YN Γk (af aQ):=by ac_rfl
variable [Wds]
def fH.uc (s:fH K H f d S kl nm ds m)(e:fH K HB f d S kl nm ds' m')(fr:dH M f H H')(v:∀l∈M,HB l=gV):fH K H' f d S kl nm ds m:=by
 let(C,G,D):=s.ld;let(g,t1,t2):=s.lt;let(_,B,_):=e.ld;let(_,y,_):=e.lt;let(t,r,p,o,j):=s.nf;let n:∀{c:AB}{u:L2.HO},HB c=U u->c∉M:=λq z=>by rw[v _ z]at q;cases q
 calc#[fr.jT _ _ (n e.sd) t s.sd,s.kd.kt fr.kt,fr.jT _ _ (n e.ln) r s.ln,s.l6,s.un,#[C,fr.jT _ _ (n B) p G,D.kt fr.kt],#[g,fr.jT _ _ (n y) j t1,t2.kt fr.kt],fr.jT _ _ (n e.lg) o s.lg,s.m5,s.f0,fr.ff,s.nf,s.ng,s.kk,s.dn,s.dl,s.d3,s.nw,s.dw]
def fH.Cz (s:fH K H f d S kl nm ds m){j:MC V}(hd:H S.ld=U (.Y j))(l:bS K H (ds.map EW) j)(g:S.ln≠S.ld/\S.lt≠S.ld){p:AB}{x:AA}{n:Nat}(t:Rp K H (EW (x,n)) (.ref p))(C:x∉ds.map (·.1))(hn:n<=3)(G:⇑ds<=7)(D:Wo x):fH K (upd H S.ld (.Y (j++[.ref p]))) f d S kl nm (ds++[(x,n)]) m:=by
 let(r,t1,t2):=s.lt;let(Q,O,B,N,M):=s.nf;let(v,u,o):=s.ff;let k:Kt H (upd H S.ld (.Y (j++[.ref p]))):=Kt.Y hd _;let y:d≠S.ld:=jw s.sd hd nofun
 refine#[by rw[aB y];calc s.sd,s.kd.kt k,by rw[aB g.1];calc s.ln,s.l6,s.un,#[_,aj,?_],#[r,by rw[aB g.2];calc t1,t2.kt k],by rw[aB s.ng.2.1.symm];calc s.lg,s.m5,s.f0,#[v,u,by rw[aB B.symm];calc o],s.nf,s.ng,s.kk,?_,?_,?_,s.nw,λq hq=>(zv.mp hq).elim (s.dw q) (λz=>by rw[vv.mp z];calc D)]
 .rw[i4];exact(l.kt k).snoc (t.kt k)
 .rw[i4,RU];refine#[s.dn,RZ.mpr #[nofun,Xp],λa J b I e=>?_]
  rw[vv.mp I]at e;let L:a=x:=e;exact C (L▸J)
 .rw[mu];exact U9 G
 .intro q hq;rcases zv.mp hq with hq|hq
  .exact s.d3 q hq
  .rw[vv.mp hq];calc hn
structure Oh(K:cB) (fe d:AB) (S:Sn) (kl:Kl) (nm xs:List AA) (o0:Int) (z:Nat) (lo lf:AB) (H0:Hp) (i:Nat) (H:Hp) (dl:MC Df) (us:MC V) (c m:Nat):Prop where
 sc:fH K H fe d S kl nm (xW dl) m
 fr:dH [S.lg,S.ld,lo,lf] fe H0 H
 ho:H lo=U (.Y ((qJ o0 c).map V.int))
 hf:H lf=U (.Y us)
 r:bS K H (dl.map iC) us
 g:JA kl (xs.drop 21) o0 S.f0 c m i dl
 li:⇑dl=i
 c4:c<=4
 dd:∀d∈dl,Wn d.2.2/\Ta d.2.2/\d.2.2.size<=z/\d.2.2.depth<=6/\⇑d.2.1<=3
 dw:∀d∈dl,EU d
structure PJ(K:cB) (fe:AB) (kl:Kl) (ys:List AA) (o0:Int) (lo:AB) (H0:Hp) (c i:Nat) (us:MC V) (H:Hp):Prop where
 x:∃(ps:MC (AA×Kk)) (c':Nat),dH [lo] fe H0 H/\H lo=U (.Y ((qJ o0 c').map V.int))/\bS K H (ps.map uR) us/\Lf (kl.map (·.1)) ys o0 c c' i ps/\c'<=4/\∀p∈ps,Wo p.1/\zT p.2
def Ip (hn:6<n)(hj:2<=j){f:AB}{cdv:eT}{A:Qk}{outer:MC RJ}{s:fy}{H1:Hp}{E:XK}(TK:Ya "_law_take" 1 YO cg gT tfd)(dg:Ya "_law_named_kind" 2 Y3 (mK K) gA afd)(df:Ya "_law_named" j YQ (nW λ_=>fK K n) gN nfd)(a2:mg "len"=gV)(z_range:mg "range"=gV)(O:mg "tuple"=gV)(hr:dZ j (A.deeper (Qj "_law_named_program" (af aQ) s⁻¹ f cdv))){D:L2.Ends}{HB H:Hp}{fe d ln0 lth lo lf:AB}{room o0:Int}{S:Sn}{kl:Kl}{nm xs:List AA}{kv:V}{o5 o6 a6 a5:AF V}(scB:fH K HB fe d S kl nm [] 0)(sc:fH K H fe d S kl nm [] 0)(un:Un xs)(lx:⇑xs=24)(wx:∀x∈xs,Wo x)(wk:∀k∈kl,CQ k)(rm1:1<=room)(rm:room<=40)(rk:Rp K H (.t (kl.map fP)) kv)(hB:HB lo=gV/\HB lf=gV)(hkn:cY [] [] kl=gV)(h0:H ln0=U (.Y (xs.map V.str)))(n0:ln0≠fe/\ln0≠S.lg/\ln0≠S.ld/\ln0≠lo/\ln0≠lf)(hth:H lth=U (.Y ((kl.map (·.1)).map V.str)))(nth:lth≠fe/\lth≠S.lg/\lth≠S.ld/\lth≠lo/\lth≠lf)(ho:H lo=U (.Y ((qJ o0 1).map V.int)))(nlo:lo≠fe)(hlf:H lf=U (.Y []))(nlf:lf≠fe)(nol:lo≠lf)(nld:S.ln≠S.ld/\S.lt≠S.ld)(k:∀(p:AB) (pv:V) (H':Hp) (dl:MC Df),dH [S.lg,S.ld,lo,lf] fe H H'->H' ln0=U (.Y (xs.map V.str))->b9 K H' p [pv,.ref ln0]->Rp K H' (.t [.t (kl.map fP),.t (dl.map iC)]) pv->Lg room.toNat 6 kl dl->cR kl dl=gV->D.rt (.ref p) H'):
  jA (Zk gy YN "_law_named_program" (af aQ) H1).oS ((bE aQ).drop 8) D [U (.ref fe),U (.int room),U (.ref ln0),U kv,U (.ref d),o5,o6,U (.ref lth),U (.ref lo),U (.ref lf),a6,a5] H:=by
 refine eY ((Z5 (Zl QU (Zr (Z1 (Zj dU au (Z0 TK (cU (va aF 0) (Za au)))) ak)) (ga bJ.nd bU 10) (Z5 (nF[15]! (af aQ) YN ["_law_x"] [0,7,8] rfl rfl rfl ∅ (jU[4]! (Zq jV (va aF 2) (bL au) (bL[3]! (Zj dU au (Z0 TK (cU (va aF 0) (Za au))))))) (λ_ _ _ _=>(X1 Y8 0)) (λ_ _ _ _=>fj) (λ_ _ _ _=>(Ze (Z1 (Xt Y8 0) (Z1 (Z0 dg (Z1 (Xt Y8 1) (Z1 (Xt Y8 2) (Za (Xt Y8 3))))) ak)))) (ga bJ.nd bU 11) (by kernel_rfl) (by intro _;rfl)) (Z5 (Zm (Z8 (va aF 9) (Z1 (Ze (Z1 (Zi (va aF 2) (bX dU au (va aF 10))) (Z1 (Z6 bh O Qg (Za (va aF 11))) (Z1 (Z0 df (Z1 (va aF 0) (Z1 (va aF 4) (Z1 (Zg (af aQ) YN Γd [] (jU (va aF 11)) (λ_ _ _ _=>(Zc (Zf (X1 Γd 0) (Zt (X1 Γd 1))))) (λ_ _ _ _=>(Xt Γd 0))) (cU (va aF 1) (Za au)))))) ak)))) ak))) (Zd (Zm (Z8 (fh (gQ hr) (va aF 4) aC (λ_ _=>rfl)) (Z1 (Ze (Z1 (Zi (va aF 2) (bX dU au (va aF 10))) (Z1 (Z2 aN a2 Qh (Za (va aF 11))) ak))) ak))))))) (Zd (Zo (Ze (Z1 (Ze (Z1 (va aF 3) (Z1 (Z6 bh O Qg (Za (va aF 9))) ak))) (Za (va aF 2)))))))) ?_
 right
 right
 let hf:=sc.ff;let n1:lo≠S.lg:=(ay scB.lg hB.1).symm;let n3:lf≠S.lg:=(ay scB.lg hB.2).symm;let(em,b8,_):=scB.ld;let n2:lo≠S.ld:=(ay b8 hB.1).symm;let n4:lf≠S.ld:=(ay b8 hB.2).symm;let l3:=sc.kk.l3;let ef:⇑(xs.map V.str)=24:=by rw[bM];exact lx
 ext mq H2 ea d9 x2;let i0:Oh K fe d S kl nm xs o0 room.toNat lo lf H 0 H2 [] [] 1 0:=#[sc.ext x2,Ext.uc hf x2,x2.1 _ _ nlo ho,x2.1 _ _ nlf hlf,.nil,.nil,rfl,∅,(λ_ h=>nomatch h),λ_ h=>nomatch h]
 ext;refine iw (n:=(1+mq).toNat) (λi σ H3=>∃dl us c m o5 o6 a6 a5,σ=[U (.ref fe),U (.int room),U (.ref ln0),U kv,U (.ref d),o5,o6,U (.ref lth),U (.ref lo),U (.ref lf),a6,a5]/\Oh K fe d S kl nm xs o0 room.toNat lo lf H i H3 dl us c m) #[_,_,_,_,_,_,_,_,rfl,i0] ?_ ?_
 .rintro i σ H3 hi ⟨dl,us,c,m,_,_,_,_,rfl,u⟩
  let nM:∀{b:AB},b≠fe/\b≠S.lg/\b≠S.ld/\b≠lo/\b≠lf->b∉[S.lg,S.ld,lo,lf]:=λh z=>by
   simp only[P1,Qo,or_false]at z;rcases z with z|z|z|z
   .exact h.2.1 z
   .exact h.2.2.1 z
   .exact h.2.2.2.1 z
   .exact h.2.2.2.2 z
  let ar:H3 ln0=U (.Y (xs.map V.str)):=u.fr.jT _ _ (nM n0) n0.1 h0;let bx:H3 lth=U (.Y ((kl.map (·.1)).map V.str)):=u.fr.jT _ _ (nM nth) nth.1 hth;let b7:=u.sc.ff;ext q4 H4 d4 d3 x4;let el:=x4.1 _ _ n0.1 ar;obtain⟨q,hq,rfl⟩:∃q:Nat,q<=3/\q4=q:=#[q4.toNat,(),()]
  let ec:gx (xs.map V.str) (U 18) (U (18+(q:Int)))=((xs.drop 18).take q).map V.str:=by
   rw[show(U (18:Int))=U ((18:Nat):Int)from rfl,show(18+(q:Int))=((18+q:Nat):Int) by omega,yZ _ _ _ () (),RK,Tt,show 18+q-18=q by omega]
  ext l5 a9;rw[ec];let s5:=ae a9 (.Y (((xs.drop 18).take q).map V.str));let h5:upd H4 l5 (.Y (((xs.drop 18).take q).map V.str)) l5=U (.Y (((xs.drop 18).take q).map V.str)):=aj;let aa:Ext fe H3 (upd H4 l5 (.Y (((xs.drop 18).take q).map V.str))):=x4.Z s5;let cx:l5≠fe:=bj x4.2 a9;let b1:=aa.1 _ _ nlo u.ho;let cw:l5≠lo:=(ay (x4.1 _ _ nlo u.ho) a9).symm;let ax:=aa.1 _ _ nth.1 bx;generalize upd H4 l5 (.Y (((xs.drop 18).take q).map V.str))=H5 at s5 h5 aa b1 ax|-;let bt:⇑((xs.drop 18).take q)=q:=by rw[I0,QF];omega
  let cy:⇑(((xs.drop 18).take q).map V.str)=q:=by rw[bM];exact bt
  let cl:Un ((xs.drop 18).take q):=ou (oq un 18) q;let dc:=u.c4;ext;refine j8 (K:=K) (xs:=((xs.drop 18).take q).map V.str) (λi8 σ o H8=>(∃y,σ=[y,U (.ref fe),U (.ref lth),U (.ref lo)])/\PJ K fe kl ((xs.drop 18).take q) o0 lo H5 c i8 o H8) #[#[_,rfl],#[[],c,dH.refl aa.2,b1,.nil,.nil u.g.c1,dc,λ_ h=>nomatch h]] ?_ (small ()) ?_ ?_ ?_
  .rintro i8 σ o H8 h ⟨_,⟨W,c',_,_,r8,g8,_,_⟩⟩;let:=congrArg Us g8.nm;rw[bM,I0]at this;rw[⇑r8,bM];omega
  .rintro i8 σ o H8 h ⟨_,⟨W,c',f8,_⟩⟩;exact aV.of (f8.gm cw cx h5)
  .rintro i8 xv σ o H8 hxv ⟨⟨_,rfl⟩,⟨W,c',f8,b0,r8,g8,bb,w8⟩⟩;rw[EF]at hxv;let(M,ao,rfl):=IF.mp hxv;let ej:=f8.ff;let ds:=f8.gm nth.2.2.2.1 nth.1 ax;let dr:⇑(kl.map (·.1))<=100:=by rw[bM];omega
   let ee:⇑(qJ o0 c')<=100:=by rw[AO];omega
   ext v9 H9 k9 d5 f9 ap r9 bq db;let(c9,e9,de,g9):=g8.snoc cl ao bq
   let ck:zT k9:=by
    calc#[λx hx=>?_,db];rcases bq with⟨_,z⟩|⟨_,_,_,_,z,_⟩
    .have:=Kk.lC.mp z;rw[hx]at this;let(kk,c5,e):=Qa.mp this;rw[<-e];exact(wk kk c5).2.2.2.1
    .rw[hx]at z;cases z
   let ac:Wo M:=wx M (Q7 (Qy (P6 ao)));subst e9;ext bp gD;let J:=ae gD (.J [.str M,v9]);exact#[#[_,rfl],#[W++[(M,k9)],c9,(f8.trans f9).Z J,J _ _ ap,by rw[i4];calc((r8.kt f9.kt).Z J).snoc (Rp.new (K:=K) (xs:=[.s M,jN k9]) gD (.cons .s (.one r9))),g9,de bb,λp hp=>(zv.mp hp).elim (w8 p) (λz=>by rw[vv.mp z];calc#[ac,ck])]]
  .rintro σ o H8 ⟨⟨_,rfl⟩,⟨W,c',f8,b0,r8,g8,bb,w8⟩⟩ p9 hp9;rw[cy]at g8
   let ed:⇑W=q:=by
    let:=congrArg Us g8.nm;rw[bM,I0,bt,S3]at this;exact this
   let aw:=⇑r8;rw[bM]at aw;let cf:dH [lo] fe H3 H8:=(Ext.uc b7 aa).trans f8;let a3:fH K H8 fe d S kl nm (xW dl) m:=u.sc.uc scB cf λl hl=>by rw[vv.mp hl];exact hB.1
   let cu:p9≠S.lg:=(ay a3.lg hp9).symm;let cv:p9≠fe:=bj a3.ff hp9;let ct:p9≠lf:=(ay (cf.gm nol.symm nlf u.hf) hp9).symm
   let d6:p9≠S.ld:=by
    let(_,z,_):=a3.ld;exact(ay z hp9).symm
   let s9:=ae hp9 (.Y o);let h9:upd H8 p9 (.Y o) p9=U (.Y o):=aj;let r9:=r8.Z s9;let ab:dH [lo] fe H3 (upd H8 p9 (.Y o)):=((Ext.uc b7 aa).trans f8).Z s9;let ap:=s9 _ _ b0;generalize upd H8 p9 (.Y o)=H9 at s9 h9 r9 ab ap|-;let b5:H9 lf=U (.Y us):=ab.gm nol.symm nlf u.hf;let c7:=ab.gm n0.2.2.2.1 n0.1 ar;let cm:fH K H9 fe d S kl nm (xW dl) m:=u.sc.uc scB ab λl hl=>by rw[vv.mp hl];exact hB.1
   let ei:i<3:=()
   let bu:21+i<⇑xs:=()
   let ai:fM (xs.map V.str) (21+(0+(i:Int)))=U (.str xs[21+i]):=by
    let:=aG (xs:=xs.map V.str) (j:=21+i) (v:=.str xs[21+i]) (by rw[EF,pC bu];rfl);rw[show((21+i:Nat):Int)=21+(0+(i:Int)) by omega]at this;exact this
   let xi:(xs.drop 21)[i]?=U xs[21+i]:=by rw[VW,pC bu]
   let ac:Wo xs[21+i]:=wx _ (Qz _);generalize xs[21+i]=M at ai xi ac;ext;calc .inl #[aV.of h9,λbp gD=>?_];let J:=ae gD (.J o);let bo:=Rp.new (K:=K) gD r9;let cc:=J _ _ h9;let av:=r9.Z J;let Z:=cm.Z J;generalize upd H9 bp (.J o)=H10 at J bo cc av Z|-;ext;refine Ci (K:=K) (e:=uR) (φ:=λp=>[.s p.1]) (λσ=>∃a b,σ=[a,b]) cc av () (λ_=>u4 _) #[_,_,rfl] ?_ ?_
   .rintro p hp x _ H6 N s6 ⟨_,_,rfl⟩ rx kN;let(xa,x1,x2,rfl,dz,e1,e2):=(show Rp K H6 (.t [.s p.1,jN p.2]) x from rx).t2;obtain rfl:=e1.aP;ext;exact kN _ _ _ #[#[_,_,rfl],aS.refl _,.one .s]
   intro bv ep di a4 a1 ek bn;rw[nH,show(λp:AA×Kk=>T.s p.1)=T.s ∘ (·.1)from rfl,<-Qm]at bn;obtain rfl:=bn.nI;let dk:=Z.Z a4;let d8:bv≠fe:=bj Z.ff a1;let dm:bv≠S.lg:=(ay Z.lg a1).symm
   let dj:∀x∈W.map (·.1),Wo x:=λx hx=>by
    let(p,hp,rfl):=Qa.mp hx;exact(w8 p hp).1
   let d1:0<=room:=()
   let cn:room<=100:=()
   let eo:(0:Int)<=6:=∅
   let en:(6:Int)<n:=()
   let dn:⇑(W.map (·.1))+2*(6:Int).toNat<=80:=by rw[bM];show ⇑W+12<=80;omega
   ext d0 am Y bs G;let gg:=G.g;rw[Sq ()]at gg;let c2:=(Kt.Z a4).trans G.fr.kt;let cs:=bo.kt c2;let C:=J.trans a4;let a8:am lf=U (.Y us):=G.fr.gm n3 nlf (C _ _ b5);let b4:am lo=U (.Y ((qJ o0 c').map V.int)):=G.fr.gm n1 nlo (C _ _ ap);let ce:am ln0=U (.Y (xs.map V.str)):=G.fr.gm n0.2.1 n0.1 (C _ _ c7);let cp:=(u.r.kt ab.kt).kt ((Kt.Z C).trans G.fr.kt);let ch:dH [S.lg,S.ld,lo,lf] fe H am:=(u.fr.trans ((ab.Z C).sub λz hz=>by rw[vv.mp hz];simp)).trans (G.fr.sub λz hz=>by rw[vv.mp hz];simp);let d2:=r9.kt ((Kt.Z C).trans G.fr.kt);let cb:am p9=U (.Y o):=G.fr.gm cu cv (C _ _ h9);let bf:=G.sc;let eb:⇑us<my:=bg (by rw[⇑u.r,bM,u.li];omega);ext;calc nw λB I R ba dt=>?_;let cr:Rp K I (iC (M,W,Y)) (.ref B):=Rp.nw (K:=K) (xs:=[.s M,.t (W.map uR),enc Y]) ba R (.cons .s (.cons cs (.one G.r)));let be:=bf.Z R;let X:=R _ _ a8;let b3:=R _ _ b4;let cd:=R _ _ ce;let ca:=R _ _ cb;let bl:=cp.Z R;let da:=ch.Z R;let ag:fH K (upd I lf (.Y (us++[.ref B]))) fe d S kl nm (xW dl) bs:=be.other scB hB.2 X _;let bw:Kt I (upd I lf (.Y (us++[.ref B]))):=Kt.Y X _;let c8:dH [S.lg,S.ld,lo,lf] fe H (upd I lf (.Y (us++[.ref B]))):=da.upd (by simp) nlf X;let a7:upd I lf (.Y (us++[.ref B])) lf=U (.Y (us++[.ref B])):=aj;let b2:upd I lf (.Y (us++[.ref B])) lo=U (.Y ((qJ o0 c').map V.int)):=by rw[aB nol];exact b3
   let dx:upd I lf (.Y (us++[.ref B])) ln0=U (.Y (xs.map V.str)):=by rw[aB n0.2.2.2.2];exact cd
   let du:upd I lf (.Y (us++[.ref B])) p9=U (.Y o):=by rw[aB ct];exact ca
   let cq:=(bl.kt bw).snoc (cr.kt bw);let dy:=ag.get (xT S);let(dv,c6,bk):=ag.ld;let cz:=⇑bk;rw[bM]at cz;let eg:⇑(xW dl)=i:=by unfold xW;rw[bM,u.li]
   let dq:⇑dv<my:=bg ();ext an az;let Q:=ae az (.J [.str M,.int ⇑o])
   let bm:Rp K (upd (upd I lf (.Y (us++[.ref B]))) an (.J [.str M,.int ⇑o])) (EW (M,⇑W)) (.ref an):=by
    rw[aw];exact Rp.new (K:=K) (xs:=[.s M,.i (⇑W:Nat)]) az (.cons .s (.one .i))
   let ad:=ag.Z Q;let L:=Q _ _ c6;let ah:=bk.Z Q;let ci:=c8.Z Q;let a0:=Q _ _ b2;let al:=Q _ _ a7;let as:=cq.Z Q;generalize upd (upd I lf (.Y (us++[.ref B]))) an (.J [.str M,.int ⇑o])=H15 at Q bm ad L ah ci a0 al as|-
   let ao:M∉(xW dl).map (·.1):=λz=>by
    let e:(xW dl).map (·.1)=(xs.drop 21).take i:=by unfold xW;rw[Qm];exact u.g.nm
    rw[e]at z;let(jj,aq):=QL z;rw[Uq]at aq
    split at aq
    .have:=oq un 21 i jj M xi aq;omega
    .cases aq
   let bc:=ad.Cz L ah nld bm ao () () ac;let c0:Kt H15 (upd H15 S.ld (.Y (dv++[.ref an]))):=Kt.Y L _;ext;refine Oh.mk (dl:=dl++[(M,W,Y)]) (us:=us++[.ref B]) (c:=c') (m:=bs) ?_ (ci.upd (by simp) ad.nf.2.2.1 L) (by rw[aB n2];calc a0) (by rw[aB n4];calc al) ?_ (u.g.snoc (oq un 21) xi g8 gg.gd) (by rw[mu,u.li];rfl) bb ?_ (λdd hdd=>(zv.mp hdd).elim (u.dw dd) (λz=>by rw[vv.mp z];calc#[ac,w8]))
   .have e:xW (dl++[(M,W,Y)])=xW dl++[(M,⇑W)]:=by unfold xW;rw[i4];rfl
    rw[e];exact bc
   .rw[i4];exact as.kt c0
   .intro dd hdd;rcases zv.mp hdd with hdd|hdd
    .exact u.dd dd hdd
    .rw[vv.mp hdd];exact#[gg.wn,gg.ta,gg.sz,gg.dp,by show ⇑W<=3;omega]
 .rintro σ H3 ⟨dl,us,c,m,_,_,_,_,rfl,u⟩;let co:=rk.kt u.fr.kt
  let ar:H3 ln0=U (.Y (xs.map V.str)):=u.fr.jT _ _ (λz=>by
   simp only[P1,Qo,or_false]at z;rcases z with z|z|z|z
   .exact n0.2.1 z
   .exact n0.2.2.1 z
   .exact n0.2.2.2.1 z
   .exact n0.2.2.2.2 z) n0.1 h0
  let b6:=u.hf;ext;calc .inl #[aV.of b6,λp4 bz=>?_];let s4:=ae bz (.J us);let r4:=Rp.new (K:=K) bz u.r;generalize upd H3 p4 (.J us)=H4 at s4 r4|-;ext;calc nw λp5 H5 s5 cj eh=>?_;let r5:=Rp.nw (K:=K) (xs:=[.t (kl.map fP),.t (dl.map iC)]) cj s5 (.cons (co.Z s4) (.one r4));ext p6 c3;let s6:=ae c3 (.J [.ref p5,.ref ln0]);let bi:=(s4.trans s5).trans s6;calc k p6 (.ref p5) _ dl (u.fr.Z bi) (bi _ _ ar) (b9.of aj) (r5.Z s6) #[sc.kk.l3,wk,by rw[u.li];omega,by rw[u.li];omega,u.dd,u.dw] (u.g.none hkn)
end G16
namespace L2
open PySem
end L2
namespace HT
open PySem PyProof.Rows
section
open PySem.SeqAt
open PySem.AutoSeq1 (wpAny_loadPart')
open PySem.MeetsSeq PySem.MeetsSeq2 PySem.MeetsSeq3
end
end HT
namespace L2
open PySem PySem.Spec PyProof.Rows
def E9 {pos:Pos}{z y v u t l j g e d:Expr}{t1 t2 t3 t4 t5 r q p o m:TE}(N:PE X z t1)(H:PE X l r)(M:PE X y t2)(G:PE X j q)(L:PE X v t3)(D:PE X g p)(J:PE X u t4)(C:PE X e o)(I:PE X t t5)(B:PE X d m):
  PE X (.Dict [U z,U y,U v,U u,U t] [l,j,g,e,d] pos) (Jj [(t1,r),(t2,q),(t3,p),(t4,o),(t5,m)]) :=
 Gs (ny N H (ny M G (ny L D (ny J C (ny I B Gr))))) rfl rfl (List.cons_ne_nil _ _) (by show 5<=15;decide)
end L2
namespace G16
open PySem L2
variable [Wds]
structure Iq(K:cB) (H:Hp) (f d:AB) (S:Sn) (kl:Kl) (nm:List AA):Prop where
 sd:H d=U (.dK (AL S))
 kd:Rp K H (.t (kl.map fP)) (.ref S.kd)
 ln:H S.ln=U (.Y (nm.map V.str))
 l6:⇑nm=6
 un:Un nm
 ld:H S.ld=U (.Y [])
 lg:H S.lg=U (.Y [])
 f0:0<=S.f0/\S.f0<100
 ff:cH H f
 nf:d≠f/\S.ln≠f/\S.ld≠f/\S.lg≠f/\S.lt≠f
 ng:S.ln≠S.lg/\S.ld≠S.lg/\S.lt≠S.lg
 nt:d≠S.lt/\S.ln≠S.lt/\S.ld≠S.lt
 nd:S.ln≠S.ld
 kk:Jz kl
 nw:∀x∈nm,Wo x
def Iq.go (s:Iq K H f d S kl e)(fr:dH [S.lt] f H g):Iq K g f d S kl e :=
 #[fr.gm s.nt.1 s.nf.1 s.sd,s.kd.kt fr.kt,fr.gm s.nt.2.1 s.nf.2.1 s.ln,s.l6,s.un,fr.gm s.nt.2.2 s.nf.2.2.1 s.ld,fr.gm s.ng.2.2.symm s.nf.2.2.2.1 s.lg,s.f0,fr.ff,s.nf,s.ng,s.nt,s.nd,s.kk,s.nw]
def Iq.get (s:Iq K H f d S kl g)(e:eM (AL S) (ky y)=U v):fX H d (.str y) (U v):=by
 let h:=fX.k (k:=ky y) s.sd;rw[e]at h;calc h
def Iq.fin (s:Iq K H f d S kl e){vs:MC V}(h:H S.lt=U (.Y vs))(r:bS K H ((yo kl).map EW) vs):fH K H f d S kl e [] 0 :=
 #[s.sd,s.kd,s.ln,s.l6,s.un,#[[],s.ld,.nil],#[vs,h,r],s.lg,Qc _,s.f0,s.ff,s.nf,s.ng,s.kk,Xp,Qc _,(λ_ h=>nomatch h),s.nw,(λ_ h=>nomatch h)]
structure OG(K:cB) (fe:AB) (S:Sn) (kl:Kl) (H0:Hp) (i:Nat) (H:Hp) (vs:MC V):Prop where
 fr:dH [S.lt] fe H0 H
 h:H S.lt=U (.Y vs)
 r:bS K H ((yo (kl.take i)).map EW) vs
def Ir (hn:6<n)(hj:2<=j){f:AB}{cdv:eT}{A:Qk}{outer:MC RJ}{s:fy}{H1:Hp}{E:XK}(TK:Ya "_law_take" 1 YO cg gT tfd)(ax:Ya "_law_named_kind" 2 Y3 (mK K) gA afd)(aw:Ya "_law_named" j YQ (nW λ_=>fK K n) gN nfd)(I:mg "len"=gV)(z_range:mg "range"=gV)(l:mg "tuple"=gV)(hr:dZ j (A.deeper (Qj "_law_named_program" (af aQ) s⁻¹ f cdv))){D:L2.Ends}{H:Hp}{fe d ln0:AB}{room:Int}{S:Sn}{kl:Kl}{nm xs:List AA}{kv:V}{o5 o6 o7 o8 o9 o10 o11:AF V}(sc:fH K H fe d S kl nm [] 0)(un:Un xs)(lx:⇑xs=24)(wx:∀x∈xs,Wo x)(wk:∀k∈kl,CQ k)(rm1:1<=room)(rm:room<=40)(rk:Rp K H (.t (kl.map fP)) kv)(hkn:cY [] [] kl=gV)(h0:H ln0=U (.Y (xs.map V.str)))(n0:ln0≠fe/\ln0≠S.lg/\ln0≠S.ld)(nld:S.ln≠S.ld/\S.lt≠S.ld)(k:∀(p:AB) (pv:V) (W:Hp) (dl:MC Df),dH [S.lg,S.ld] fe H W->W ln0=U (.Y (xs.map V.str))->b9 K W p [pv,.ref ln0]->Rp K W (.t [.t (kl.map fP),.t (dl.map iC)]) pv->Lg room.toNat 6 kl dl->cR kl dl=gV->D.rt (.ref p) W):
  jA (Zk gy YN "_law_named_program" (af aQ) H1).oS ((bE aQ).drop 5) D [U (.ref fe),U (.int room),U (.ref ln0),U kv,U (.ref d),o5,o6,o7,o8,o9,o10,o11] H:=by
 refine eY ((Z5 (Z4 bJ.nd bU 7 (Zg (af aQ) YN Γh [] (dj (va aF 3)) (λ_ _ _ _=>(Zc (Zf (X1 Γh 0) (Zt (X1 Γh 1))))) (λ_ _ _ _=>(Xt Γh 0)))) (Z5 (Z4 bJ.nd bU 8 (aZ[4]! (Z1 (Z0 TK (cU (va aF 0) (Za au))) ak))) (Z5 (sa bJ.nd bU 9 (aZ ak)) cZ)))) ?_
 right
 right
 let(ka,a3,rfl,aq,ar):=rk.aT;let l3:=sc.kk.l3;ext;refine j9 (K:=K) (e:=fP) (φ:=λk=>[.s k.1]) (λσ=>∃a b,σ=[a,b]) aq ar () (λ_=>u4 _) #[_,_,rfl] ?_ ?_
 .rintro p hp x _ H6 N s6 ⟨_,_,rfl⟩ rx kN;let(xa,x1,x2,rfl,az,e1,e2):=(show Rp K H6 (.t [.s p.1,.t (p.2.map j4)]) x from rx).t2;obtain rfl:=e1.aP;ext;exact kN _ _ _ #[#[_,_,rfl],aS.refl _,.one .s]
 intro m H2 a0 Z q h2 r2;rw[nH,show(λp:AA×MC (AA×MC Kk)=>T.s p.1)=T.s ∘ (·.1)from rfl,<-Qm]at r2;obtain rfl:=r2.nI;let M:=sc.Z Z;let as:=M.ff;let C:m≠fe:=bj sc.ff q;let aa:m≠S.lg:=(ay sc.lg q).symm;let(dv,av,_):=sc.ld;let ab:m≠S.ld:=(ay av q).symm;ext B H3 a2 a1 X;let L:=M.ext X;ext y g;let Y:=ae g (.Y [.int B])
 let h4:upd H3 y (.Y [.int B]) y=U (.Y ((qJ B 1).map V.int)):=by
  rw[aj]
  let:qJ B 1=[B]:=by
   show [(B+7*((0:Nat):Int)) % 100]=[B]
   congr 1
   omega
  rw[this];rfl
 let ac:y≠fe:=bj L.ff g;let v:=X.1 _ _ C h2;let gD:=X.1 _ _ n0.1 (Z _ _ h0);let ad:ln0≠y:=ay gD g;let Q:m≠y:=ay v g;generalize upd H3 y (.Y [.int B])=H4 at Y h4|-;let an:=L.Z Y;ext;calc nw λR H5 s5 h5 u=>?_;let ag:R≠fe:=bj an.ff u;let ao:y≠R:=ay h4 u;let ap:ln0≠R:=ay (Y _ _ gD) u;let ah:m≠R:=ay (Y _ _ v) u;let O:=Y.trans s5;let J:Ext fe H2 H5:=X.Z O;let k5:=(Kt.Z Z).trans (J.kt as);let am:dH [S.lg,S.ld] fe H H5:=((dH.refl sc.ff).Z Z).ext J;let G:H3 R=gV:=Y.free u;ext;calc Ip hn hj TK ax aw I z_range l hr L (M.ext J) un lx wx wk rm1 rm (rk.kt k5) #[g,G] hkn (O _ _ gD) #[n0.1,n0.2.1,n0.2.2,ad,ap] (O _ _ v) #[C,aa,ab,Q,ah] (s5 _ _ h4) ac h5 ag ao nld λp pv W dl fr hl sq r b e=>k p pv W dl ?_ hl sq r b e;let ai:H y=gV:=Z.free (G16.Ext.free X g);let al:H R=gV:=Z.free (G16.Ext.free X G);refine#[λb o m1 m2 e=>(am.sub (M':=[S.lg,S.ld,y,R]) (λz hz=>by simp only[P1,Qo,or_false]at hz|-;rcases hz with h|h;calc .inl h;calc .inr (.inl h))|>.trans fr).jT b o (λz=>?_) m2 e,am.kt.trans fr.kt,fr.ff]
 simp only[P1,Qo,or_false]at z;rcases z with z|z|z|z
 .exact m1 (by rw[z];calc .head _)
 .exact m1 (by rw[z];simp)
 .rw[z,ai]at e;cases e
 .rw[z,al]at e;cases e
def Iu (hn:6<n)(hj:2<=j){f:AB}{cdv:eT}{A:Qk}{outer:MC RJ}{s:fy}{H1:Hp}{E:XK}(TK:Ya "_law_take" 1 YO cg gT tfd)(am:Ya "_law_named_kind" 2 Y3 (mK K) gA afd)(al:Ya "_law_named" j YQ (nW λ_=>fK K n) gN nfd)(m:mg "len"=gV)(z_range:mg "range"=gV)(l:mg "tuple"=gV)(hr:dZ j (A.deeper (Qj "_law_named_program" (af aQ) s⁻¹ f cdv))){D:L2.Ends}{H:Hp}{fe d ln0:AB}{room:Int}{S:Sn}{kl:Kl}{nm xs:List AA}{kv:V}{Z Y o7 o8 o9 o10 o11:AF V}(sq:Iq K H fe d S kl nm)(hlt:H S.lt=U (.Y []))(un:Un xs)(lx:⇑xs=24)(wx:∀x∈xs,Wo x)(wk:∀k∈kl,CQ k)(rm1:1<=room)(rm:room<=40)(rk:Rp K H (.t (kl.map fP)) kv)(hkn:cY [] [] kl=gV)(h0:H ln0=U (.Y (xs.map V.str)))(n0:ln0≠fe/\ln0≠S.lg/\ln0≠S.ld/\ln0≠S.lt)(k:∀(p:AB) (pv:V) (u:Hp) (dl:MC Df),dH [S.lt,S.lg,S.ld] fe H u->u ln0=U (.Y (xs.map V.str))->b9 K u p [pv,.ref ln0]->Rp K u (.t [.t (kl.map fP),.t (dl.map iC)]) pv->Lg room.toNat 6 kl dl->cR kl dl=gV->D.rt (.ref p) u):
  jA (Zk gy YN "_law_named_program" (af aQ) H1).oS ((bE aQ).drop 4) D [U (.ref fe),U (.int room),U (.ref ln0),U kv,U (.ref d),Z,Y,o7,o8,o9,o10,o11] H:=by
 refine eY ((Z5 (Zl QU (dj (va aF 3)) (Zc (Zf (ga bJ.nd bU 5) (Zt (ga bJ.nd bU 6)))) (Zd (Zm (yF[12]! Tc Wq Wr vE (fh (gQ hr) (va aF 4) aC (λ_ _=>rfl)) (Z1 (Zg (af aQ) YN ZZ [] (dj (va aF 6)) (λ_ _ _ _=>(Zc (Zf (X1 ZZ 0) (Zt (X1 ZZ 1))))) (λ_ _ _ _=>(Ze (Z1 (Xt ZZ 0) (Z1 (Z2 (oX K rfl) m Qh (Za (Xt ZZ 1))) ak))))) ak) (by rfl) (by rfl) (by rfl) (by rfl) (by rfl))))) cZ)) ?_
 right
 right
 calc jY ?_;intro N1 c1;let(ka,aa,rfl,ab,I):=rk.aT;let C:=⇑I;rw[bM]at C;let l3:=sq.kk.l3;ext;refine iJ (K:=K) (xs:=aa) (λi v M=>∃Z Y vs,v=[U (.ref fe),U (.int room),U (.ref ln0),U (.ref ka),U (.ref d),Z,Y,o7,o8,o9,o10,o11]/\OG K fe S kl H i M vs) #[_,_,[],rfl,dH.refl sq.ff,hlt,.nil] ?_ ?_ ?_
 .rintro i v M hi ⟨_,_,_,_,g⟩;exact ab.kt g.fr.kt
 .rintro i xv v M hxv ⟨_,_,vs,rfl,g⟩;let(t,ht,W):=I.get' hxv;rw[EF]at ht;let(kd,q,rfl):=IF.mp ht;let ah:=(eF.mp q).1;let ai:kl.take (i+1)=kl.take i++[kd]:=by rw[we ah,(eF.mp q).2]
  let(av,as,ar):=sq.kk.pt kd (P6 q);let(qa,w1,w2,rfl,X,q1,q2):=(show Rp K H (.t [.s kd.1,.t (kd.2.map j4)]) xv from W).t2;obtain rfl:=q1.aP;let(ta,ap,rfl,O,Q):=q2.aT;let k3:=g.fr.kt;let an:=X.kt k3;let y:=O.kt k3;let B:=Q.kt k3;let T:=sq.go g.fr;let ay:=T.get (BD S);let ag:=g.h;ext;refine j9 (K:=K) (e:=j4) (φ:=λt=>[EW (t.1,⇑t.2)]) (λv=>∃a b,v=[a,b]) y B () (λ_=>u4 _) #[_,_,rfl] ?_ ?_
  .rintro p hp x _ H6 N s6 ⟨_,_,rfl⟩ W kN;let(xa,x1,x2,rfl,ao,e1,e2):=(show Rp K H6 (.t [.s p.1,.t (p.2.map jN)]) x from W).t2;obtain rfl:=e1.aP;let(ia,ac,rfl,aw,ad):=e2.aT;let G:=⇑ad;rw[bM]at G;ext p7 L;let s7:=ae L (.J [.str p.1,.int ⇑ac]);exact kN _ _ _ #[#[_,_,rfl],s7,.one (by rw[G];calc Rp.new (K:=K) (xs:=[.s p.1,.i (⇑p.2:Nat)]) L (.cons .s (.one .i)))]
  intro l4 H4 o gD ax h4 r4;rw[nH]at r4;let J:=gD _ _ ag;let lw:=⇑r4;rw[bM]at lw;let lv:=⇑g.r
  let aq:⇑(yo (kl.take i))<=9:=by
   let:=EV sq.kk
   let e:yo kl=yo (kl.take i)++yo (kl.drop i):=by
    unfold yo;rw[<-Q4,R1]
   rw[e,mu]at this;omega
  rw[bM]at lv;let lc:⇑vs+⇑o<=my:=small ();let k5:Kt H4 (upd H4 S.lt (.Y (vs++o))):=Kt.Y J _;ext;refine OG.mk (vs:=vs++o) ((g.fr.Z gD).upd (.head _) sq.nf.2.2.2.2 J) aj ?_
  let e:yo (kl.take (i+1))=yo (kl.take i)++kd.2.map λt=>(t.1,⇑t.2):=by
   rw[ai];unfold yo;rw[Q4];simp
  rw[e,i4,Qm];exact((g.r.Z gD).kt k5).append (r4.kt k5)
 .rintro v M ⟨_,_,vs,rfl,g⟩;let r3:=g.r;rw[C,Ql]at r3;calc Cut.go c1 ?_;refine Ir hn hj TK am al m z_range l hr ((sq.go g.fr).fin g.h r3) un lx wx wk rm1 rm (rk.kt g.fr.kt) hkn (g.fr.gm n0.2.2.2 n0.1 h0) #[n0.1,n0.2.1,n0.2.2.1] #[sq.nd,sq.nt.2.2.symm] λp pv u dl fr hl R r b e=>k p pv u dl ((g.fr.sub ?_).trans (fr.sub ?_)) hl R r b e
  .intro z hz;rw[vv.mp hz];exact .head _
  .intro z hz;calc .tail _ hz
end G16
namespace G16
open PySem L2
meta def Dj(kd d g e:AB)(f0:Int):MC (Key×V):=[(ky "kinds",.ref kd),(ky "names",.ref d),(ky "defs",.ref g),(ky "gaps",.ref e),(ky "first",.int f0)]
def Lh (kd d g e:AB)(f0:Int):ja [] (Dj kd d g e f0)=Dj kd d g e f0:=by kernel_rfl
def Li (kd d g e lt:AB)(f0:Int):putK (Dj kd d g e f0) (ky "tags") (.ref lt)=AL #[kd,d,g,e,lt,f0]:=by kernel_rfl
def Fb [Wds](hn:6<n)(hj:2<=j){f:AB}{cdv:eT}{A:Qk}{outer:MC RJ}{s:fy}{H1:Hp}{E:XK}(TK:Ya "_law_take" 1 YO cg gT tfd)(a5:Ya "_law_named_kind" 2 Y3 (mK K) gA afd)(a4:Ya "_law_named" j YQ (nW λ_=>fK K n) gN nfd)(R:mg "len"=gV)(z_range:mg "range"=gV)(B:mg "tuple"=gV)(hr:dZ j (A.deeper (Qj "_law_named_program" (af aQ) s⁻¹ f cdv))){D:L2.Ends}{H:Hp}{fe ln0:AB}{room:Int}{kl:Kl}{xs:List AA}{kv:V}{o4 o5 o6 o7 o8 o9 o10 o11:AF V}(hf:cH H fe)(un:Un xs)(lx:⇑xs=24)(wx:∀x∈xs,Wo x)(rm1:1<=room)(rm:room<=40)(rk:Rp K H (.t (kl.map fP)) kv)(ok:CP xs kl)(k3:⇑kl<=3)(h0:H ln0=U (.Y (xs.map V.str)))(n0:ln0≠fe)(k:∀(p:AB) (pv:V) (H':Hp) (dl:MC Df),Ext fe H H'->H' ln0=U (.Y (xs.map V.str))->b9 K H' p [pv,.ref ln0]->Rp K H' (.t [.t (kl.map fP),.t (dl.map iC)]) pv->Lg room.toNat 6 kl dl->cR kl dl=gV->D.rt (.ref p) H'):
  jA (Zk gy YN "_law_named_program" (af aQ) H1).oS ((bE aQ).drop 2) D [U (.ref fe),U (.int room),U (.ref ln0),U kv,o4,o5,o6,o7,o8,o9,o10,o11] H:=by
 refine eY ((Z5 (Z4 bJ.nd bU 4 (E9[22]! aC (va aF 3) aC (iE jV (va aF 2) (bL au) (bL au)) aC (aZ ak) aC (aZ ak) aC (Z0 TK (cU (va aF 0) (Za au))))) (Z5 (Bb (gQ hr) (va aF 4) aC (aZ ak) (by rfl)) cZ))) ?_
 right
 right
 let e3:gx (xs.map V.str) (U 12) (U 18)=((xs.drop 12).take 6).map V.str:=by
  rw[show(U (12:Int))=U ((12:Nat):Int)from rfl,show(U (18:Int))=U ((18:Nat):Int)from rfl,yZ _ _ _ (by rw[bM];omega) (),RK,Tt]
 let(q,a7,rfl,a8,a9):=rk.aT;ext d hd;let G:=ae hd (.dK []);let h1:upd H d (.dK []) d=U (.dK []):=aj;let aq:=G _ _ h0;generalize upd H d (.dK [])=H1 at G h1 aq|-;ext m J;rw[e3];let W:=ae J (.Y (((xs.drop 12).take 6).map V.str));let h2:upd H1 m (.Y (((xs.drop 12).take 6).map V.str)) m=U (.Y (((xs.drop 12).take 6).map V.str)):=aj;generalize upd H1 m (.Y (((xs.drop 12).take 6).map V.str))=H2 at W h2|-;ext l L;let gD:=ae L (.Y []);let h3:upd H2 l (.Y []) l=U (.Y []):=aj;generalize upd H2 l (.Y [])=H3 at gD h3|-;ext g C;let s4:=ae C (.Y []);let h4:upd H3 g (.Y []) g=U (.Y []):=aj;generalize upd H3 g (.Y [])=H4 at s4 h4|-;let X:=((G.trans W).trans gD).trans s4;let ba:=hf.Z X;ext u Q a1 a0 x5;let nd:d≠fe:=bj hf hd;let nn:m≠fe:=bj (hf.Z G) J;let nl:l≠fe:=bj (hf.Z (G.trans W)) L;let ng:g≠fe:=bj (hf.Z ((G.trans W).trans gD)) C;let ao:=x5.1 _ _ nd (s4 _ _ (gD _ _ (W _ _ h1)));let al:=x5.1 _ _ nn (s4 _ _ (gD _ _ h2));let am:=x5.1 _ _ nl (s4 _ _ h3);let an:=x5.1 _ _ ng h4;let ap:=x5.1 _ _ n0 (X _ _ h0);let as:Ext fe H Q:=((Ext.refl hf).Z X).trans x5;let a6:=rk.kt (as.kt hf);let m1:m≠l:=ay h2 L;let m2:m≠g:=ay (gD _ _ h2) C;let m3:l≠g:=ay h3 C;let z1:H m=gV:=G.free J;let z2:H l=gV:=(G.trans W).free L;let z3:H g=gV:=((G.trans W).trans gD).free C;let bb:ln0≠m:=ay aq J;let a3:ln0≠l:=ay h0 z2;let a2:ln0≠g:=ay h0 z3;ext
 .exact(show _=(Dj q m l g u).map (λkv=>(kV kv.1,kv.2))from rfl)
 calc#[by show 5<=15;decide,?_];rw[Lh];let y:∀{b:AB}{us:MC V},Q b=U (.Y us)->b≠d:=λe=>jw e ao nofun
 let O:dH [] fe H (upd Q d (.dK (Dj q m l g u))):=(Ext.uc hf as).Jo hd nd ao;let ah:upd Q d (.dK (Dj q m l g u)) d=U (.dK (Dj q m l g u)):=aj;let ac:upd Q d (.dK (Dj q m l g u)) m=U (.Y (((xs.drop 12).take 6).map V.str)):=by rw[aB (y al)];exact al
 let ad:upd Q d (.dK (Dj q m l g u)) l=U (.Y []):=by rw[aB (y am)];exact am
 let ag:upd Q d (.dK (Dj q m l g u)) g=U (.Y []):=by rw[aB (y an)];exact an
 let ai:upd Q d (.dK (Dj q m l g u)) ln0=U (.Y (xs.map V.str)):=by rw[aB (y ap)];exact ap
 generalize upd Q d (.dK (Dj q m l g u))=H6 at O ah ac ad ag ai|-;ext lt o;let T:=ae o (.Y []);let h7:upd H6 lt (.Y []) lt=U (.Y []):=aj;let M:=T _ _ ah;let q1:d≠lt:=ay ah o;let q2:m≠lt:=ay ac o;let q3:l≠lt:=ay ad o;let q4:g≠lt:=ay ag o;let q5:ln0≠lt:=ay ai o;let q6:lt≠fe:=bj O.ff o;let z4:H lt=gV:=O.free o nofun
 let ar:=O.Z T;let Y:=T _ _ ac;let Z:=T _ _ ad;let aa:=T _ _ ag;let ab:=T _ _ ai;generalize upd H6 lt (.Y [])=H7 at T h7 M ar Y Z aa ab|-;let dp:=wO.k (k:=ky "tags") (v:=.ref lt) M (by show 5<my;decide);rw[Li]at dp;let I:∀{b:AB}{us:MC V},H7 b=U (.Y us)->b≠d:=λe=>jw e M nofun
 let N:dH [] fe H (upd H7 d (.dK (AL #[q,m,l,g,lt,u]))):=ar.Jo hd nd M;let av:Un ((xs.drop 12).take 6):=ou (oq un 12) 6;let l6:⇑((xs.drop 12).take 6)=6:=by rw[I0,QF];omega
 let sq:Iq K (upd H7 d (.dK (AL #[q,m,l,g,lt,u]))) fe d #[q,m,l,g,lt,u] kl ((xs.drop 12).take 6):=#[aj,rk.kt N.kt,by show upd _ _ _ m=_;rw[aB (I Y)];exact Y,l6,av,by show upd _ _ _ l=_;rw[aB (I Z)];exact Z,by show upd _ _ _ g=_;rw[aB (I aa)];calc aa,#[a1,a0],N.ff,#[nd,nn,nl,ng,q6],#[m2,m3,q4.symm],#[q1,q2,q3],m1,AN un ok k3 wx,λx hx=>wx x (Q7 (Qy hx))];let ax:upd H7 d (.dK (AL #[q,m,l,g,lt,u])) lt=U (.Y []):=by rw[aB q1.symm];exact h7
 let az:upd H7 d (.dK (AL #[q,m,l,g,lt,u])) ln0=U (.Y (xs.map V.str)):=by rw[aB (I ab)];exact ab
 ext;calc Iu (S:=#[q,m,l,g,lt,u]) hn hj TK a5 a4 R z_range B hr sq ax un lx wx (uH ok wx) rm1 rm (rk.kt N.kt) (E7 un ok) az #[n0,a2,a3,q5] λp pv H' dl fr hl aw r b e=>k p pv H' dl ?_ hl aw r b e;let ft:=(N.sub (M':=[lt,g,l]) (λz hz=>nomatch hz)).trans fr
 calc((ft.drop z4).drop z3).drop z2|>.ex
def Fc (hn:6<n)(hj:3<=j)(F:i9 K "_law_named_program" "_law_named_program" aQ f M)(TK:Ya "_law_take" 1 YO cg gT tfd)(NM:Ya "_law_names" 2 YO xR gM mfd)(G:Ya "_law_heads" 3 Γe (By K) gH hfd)(D:Ya "_law_named_kind" 2 Y3 (mK K) gA afd)(C:Ya "_law_named" j YQ (nW λ_=>fK K n) gN nfd)(l:mg "len"=gV)(z_range:mg "range"=gV)(d:mg "tuple"=gV):Yf gy (j+1) f M Γk (BF K):=by
 exists F.ok bJ
 .have(_,_,rfl,_):=h;rfl
 let(fe,J,rfl,Y,y,S,k):=h;refine#[_,(Z5 (Z4 bJ.nd bU 2 (Z0 NM (cU (va aF 0) (Za au)))) (Z5 (Z4 bJ.nd bU 3 (Z0 G (Z1 (va aF 0) (Za (va aF 2))))) cZ)),?_]
 right
 right
 ext t H1 m I g B gD z un;let o:⇑m=24:=gD;let X:=I.2;let L:t≠fe:=bj Y g;ext kv H2 V v ok W T;ext;let q:∀x∈m,@Wo (qC m) x:=λx u=>#[(z x u).1,(z x u).2.1,zv.mpr (.inl u),(z x u).2.2]
 letI:Wds:=qC m
 calc Fb hn () TK D C l z_range d hr v.2 un o q y S T ok W (v.1 _ _ L B) L λp pv H' dl N Z R r b e=>k p t pv H' V dl m ((I.trans v).trans N) g Z o q R r b e
local instance:Wds:=⟨λ_=>True⟩
def uI (x:AA)(h:(x.cps.toList.all λc=>decide (c<1000))=AD):Lo x:=λc d=>of_decide_eq_true (QY.mp h c d)
def Oi :Wo "?":=#[∅,uI _ ∅,True.intro]
def Fd :Wo "match":=⟨∅,uI _ ∅,True.intro⟩
theorem sS :∀{l a:List AA}{x:AA},cy a l=U x->x∈l
 |y::r,a,x,h=>by
  let h:(if y∈a then U y else cy (a++[y]) r)=U x:=h
  by_cases c:y∈a
  .rw[if_pos c]at h;cases h;exact .head _
  .rw[if_neg c]at h;calc .tail _ (sS h)
end G16
namespace G16
open PySem L2
variable [Wds]
abbrev Al:=AA×List AA×Tm
meta def xX(a:Al):T:=.t [.s a.1,.t (a.2.1.map .s),enc a.2.2]
structure FQ(q:Nat) (al:MC Al):Prop where
 len:⇑al<=3+q
 w:∀a∈al,Wo a.1/\(∀x∈a.2.1,Wo x)/\⇑a.2.1<=2+q
meta def yq(d:MC Al):Nat:=Tm.sizes (d.map λa=>a.2.2)
def sU (a b:MC Al):yq (a++b)=yq a+yq b:=by unfold yq;rw[i4,Tm.eI]
def rK (d:MC Al)(i:Nat):yq (d.take i)+yq (d.drop i)=yq d:=by rw[<-sU,R1]
def Lj (h:d[i]?=U a):yq (d.take i)+(a.2.2.size+yq (d.drop (i+1)))=yq d:=by
 let e:=(eF.mp h);let:d.drop i=a::d.drop (i+1):=by rw[QV e.1,e.2]
 rw[<-rK d i,this];unfold yq;rw[Qd,Tm.bT]
meta def BG(K:cB):Sp:=λl H Q _=>∃(f:AB) (v:V) (wd:AA) (e:MC Al) (q:Nat),l=[.ref f,v,.str wd]/\cH H f/\Rp K H (.t (e.map xX)) v/\FQ q e/\q<=4/\Wo wd /\
 ∀(j:V) (g:Hp) (d:MC Al),Ext f H g->Rp K g (.t (d.map xX)) j->FQ (q+1) d->(∀m∈d,∃a∈e,m.2.2=a.2.2)->yq d<=2*yq e->Q j g
def qD (xs:MC V):gx xs gV (U (-1))=xs.dropLast:=by
 rcases SN xs with rfl|⟨ys,y,rfl⟩
 .rfl
 .have h:(-1+(((⇑ys:Nat):Int)+1)).toNat=⇑ys:=()
  rw[U5,Vl];unfold gx HT.iL;simp;rw[h];simp
def FQ.up (h:FQ q e):FQ (q+1) e:=#[by let:=h.len;omega,λa d=>#[(h.w a d).1,(h.w a d).2.1,by let:=(h.w a d).2.2;omega]]
def FQ.sub (h:FQ q d)(s:∀a∈bl,a∈d)(l:⇑bl<=4+q):FQ (q+1) bl:=#[(),λa e=>h.up.w a (s a e)]
theorem _root_.L2.bS.rep (r:bS K H xs us):∀n:Nat,bS K H (P7 n xs).flatten (P7 n us).flatten:=by
 intro n
 induction n with
 |zero=>calc .nil
 |succ n ih =>
  rw[RD,RD,S2,S2];calc r.append ih
def aI :Nm Y6 (af gY):=∅
def cC :Lm Y6 (af gY):=∅
def b7 :aY Y6 Γc (af gY):=by ac_rfl
def Fe (F:i9 K "_law_other_arms" "_law_other_arms" gY f fd)(TK:Ya "_law_take" 1 YO cg gT tfd)(L:mg "len"=gV):Yf gy 2 f fd Γc (BG K):=by
 exists F.ok b7
 .have(_,_,_,_,_,rfl,_):=h;rfl
 let(W,v,wd,N,q,rfl,hf,rv,ab,hq,a2,k):=h;refine#[_,(Z5 (Z4 b7.nd cC 3 (Z0 TK (cU (va aI 0) (Za au)))) (Z5 (Zb (PW.pt (rO[7]! (Zp lQ (va aI 3) au) (qN[4]! (Zh bV (Z2 aN L Qh (Za (va aI 1))) au)))) (Zd (Zo (Zi (aZ[4]! (Z1 (Zq er (va aI 1) bW (bL (kY i5 au))) (Z1 (Zj di (va aI 1) (iE er (va aI 1) bW (bL au))) (Za (eO ak))))) (bX gJ (va aI 3) au))))) (Z5 (Z4 b7.nd cC 4 (Z0 TK (Z1 (va aI 0) (Z1 (Z2 aN L Qh (Za (va aI 1))) ak)))) (Z5 (Zn (fQ aJ (va aI 1) (va aI 4) (λ_ _=>rfl)) (@jd _ _ _ _ _ (3) K rfl rfl (Zf (ga b7.nd cC 5) (Zf (ga b7.nd cC 6) (Zt (ga b7.nd cC 7)))) (by rfl) (by rfl))) (Z5 (Zb (Zp bV (va aI 3) au) (Zd (sa b7.nd cC 5 (va aI 2)))) (Z5 (Zb (Zp bV (va aI 3) au) (Zd (Z4 b7.nd cC 5 (fQ[7]! aJ (Z7 aJ (va aI 1)) au (λ_ _=>rfl))))) (Z5 (Zb (Zp bV (va aI 3) au) (Zd (Z4 b7.nd cC 6 (Zj di (va aI 6) (Ze (Za (va aI 2))))))) (Z5 (Zb (Zp bV (va aI 3) au) (Zd (Z4 b7.nd cC 6 (Zq er (va aI 6) bW (bL (kY i5 au)))))) (Z5 (Zb (Zp bV (va aI 3) au) (Zd (Z4 b7.nd cC 6 (Zj GJ (iE er (va aI 6) bW (bL au)) (Z2 aN L Qh (Za (va aI 6))))))) (Zd (Zo (Zj di (Zj di (Zq er (va aI 1) bW (bL (va aI 4))) (Ze (Z1 (Ze (Z1 (va aI 5) (Z1 (va aI 6) (Za (va aI 7))))) ak))) (Zq er (va aI 1) (bL[3]! (bX dU (va aI 4) au)) bW))))))))))))),?_]
 right
 right
 let(a,G,rfl,sq,rs):=id rv.aT;let lw:=⇑rs;rw[bM]at lw;let lq:=ab.len;let bw:aV K H a G\/b9 K H a G:=.inr sq;calc tZ ?_;intro N1 N2 N3 N4 N5 N6 N7 N8 c1 c2 c3 c4 c5 c6 c7 c8;ext T H1 b4 b3 x1;let bx:=x1.2;let ao:=sq.kt (x1.kt hf);let ba:=rs.kt (x1.kt hf);calc c1.go ?_;refine KQ (λb H2=>H2=H1/\(b=AE->0<⇑G/\3<=T)) (λC hC=>?_) (λH2 h2=>?_) (λH2 h2=>?_)
 .ext;refine b8 (λc=>?_) (λc=>?_)
  .exact hC _ _ #[rfl,λz=>nomatch z]
  let bp:aV K H1 a G\/b9 K H1 a G:=.inr ao;ext;refine hC _ _ #[rfl,λz=>#[?_,?_]]
  .have z':=of_decide_eq_false z;let:(⇑G:Int)≠0:=λq=>z' (by rw[q]);omega
  .have:¬T<3:=λz=>c (decide_eq_true z);omega
 .have(rfl,_):=h2;ext p3 O s3 h3;rw[qD]at h3;let ar:=ao.Z s3;ext p4 H4 Y h4;rw[show gx G gV (U 1)=G.take 1 from dm G 1]at h4;let bq:=ar.Z Y;let l4:⇑G+⇑(G.take 1)<=my:=small (by rw[I0];omega);ext p5 H5 s5 h5;ext;calc nw λp6 H6 s6 a4 bv=>?_;let h6:b9 K H6 p6 []:=b9.of a4;ext;calc nw λp7 H7 s7 a3 bu=>?_;let h7:aV K H7 p7 [.ref p3,.ref p5,.ref p6]:=aV.of a3;let as:=Y.trans (s5.trans (s6.trans s7));let aw:=s3.trans as;let x7:=x1.Z aw;let r7:bS K H7 (N.map xX) G:=ba.Z aw;let rr:T % 3=0\/T % 3=1\/T % 3=2:=()
  obtain⟨u,hu,gD,ru,b',be,kz⟩:∃u,fM [.ref p3,.ref p5,.ref p6] (T % 3)=U u/\∃gD:MC Al,Rp K H7 (.t (gD.map xX)) u/\FQ (q+1) gD/\(∀a'∈gD,∃a∈N,a'.2.2=a.2.2)/\yq gD<=2*yq N:=by
   rcases rr with e|e|e<;>rw[e]
   .refine#[.ref p3,aG (j:=0) rfl,N.dropLast,Rp.t (h3.Z as) ?_,ab.sub (λa ha=>TQ _ ha) (by rw[Vg];omega),λa' ha=>#[a',TQ _ ha,rfl],?_]
    .rw[Wa,Q2,Q2,bM,<-lw];exact r7.take _
    .rw[Q2];let:=rK N (⇑N-1);omega
   .refine#[.ref p5,aG (j:=1) rfl,N++N.take 1,Rp.t (h5.Z (s6.trans s7)) ?_,ab.sub (λa ha=>(zv.mp ha).elim id Qy) (by rw[mu,I0];omega),λa' ha=>#[a',(zv.mp ha).elim id Qy,rfl],?_]
    .rw[i4,RK];exact r7.append (r7.take 1)
    .rw[sU];let:=rK N 1;omega
   .exact#[.ref p6,aG (j:=2) rfl,[],Rp.t (h6.Z s7) .nil,#[Qc _,λ_ h=>nomatch h],(λ_ h=>nomatch h),Qc _]
  ext;exact k _ _ gD x7 ru b' be kz
 let(rfl,h2):=h2;let(w0,b2):=h2 rfl;calc c2.go ?_;let bo:aV K H2 a G\/b9 K H2 a G:=.inr ao;let wz:⇑G<my:=bg ();ext ra O bc bs x3;let(J,rfl):=Int.eq_ofNat_of_zero_le bc;let bh:J<⇑N:=()
 obtain⟨D,am⟩:∃D,N[J]?=U D:=#[_,pC bh];let an:=x1.trans x3;let ar:=sq.kt (an.kt hf);let ay:=rs.kt (an.kt hf);let(xv,bf,a8):=ay.get (i:=J) (x:=xX D) (by rw[EF,am];rfl);let(ga,u1,u2,u3,rfl,bz,g1,g2,g3):=(show Rp K O (.t [.s D.1,.t (D.2.1.map .s),enc D.2.2]) xv from a8).t3;obtain rfl:=g1.aP;let av:fM G (J:Int)=U (.ref ga):=aG bf;let(a6,ag,af):=ab.w D (P6 am);let aq:=Lj am;let ad:=x3.2
 let R:∀(o:Hp) (g:AA) (B:V) (d:List AA),Ext W O o->Wo g->Rp K o (.t (d.map .s)) B->(∀x∈d,Wo x)->⇑d<=3+q->JJ (BY (vP K) (BY (vP K) (Mh (DX K) (jD 1) pW (yE (jD 4))) (uS (kF (uS (kF (jD 5) (kF (jD 6) (kF (jD 7) tL)))) tL))) (Mh (DX K) (jD 1) (yE (BY (Je λi j=>V.int (i+j)) (jD 4) (tC (.int 1)))) pW)) {nx:=λx H'=>Q V.gu H',rt:=Q} [U (.ref W),U (.ref a),U (.str wd),U (.int T),U (.int J),U (.str g),U B,U u3] o:=by
  intro o g B d x wt rn wn ln;let x0:=an.trans x;let a7:=sq.kt (x0.kt hf);let bi:=g3.kt (x.kt ad)
  (try calc Cut.go (by assumption) ?_);refine GO (R:=λv H'=>Rp K H' (xX (g,d,D.2.2)) v) rfl rfl a7 () (λH' Q' s h=>?_) (λv H1 H2 s r=>r.Z s) (m:=J+1) (λH' Q' s h=>by ext;calc h) λp v H' s a9 hp=>?_
  .have bb:=rn.Z s;let bj:=bi.Z s;ext p hp;let s2:=ae hp (.J [.str g,B,u3]);exact h _ _ s2 (Rp.new (K:=K) (xs:=[.s g,.t (d.map .s),enc D.2.2]) hp (.cons .s (.cons bb (.one bj))))
  .have x':=x0.Z s;let az:=rs.kt (x'.kt hf);refine k _ _ (N.take J++[(g,d,D.2.2)]++N.drop (J+1)) x' (Rp.t hp ?_) #[?_,λb hb=>?_] (λb hb=>?_) ?_
   .rw[i4,i4,RK,Tt];exact((az.take J).append (.one a9)).append (az.drop (J+1))
   .rw[mu,mu,I0,QF];show _+1+_<=_;omega
   .rcases zv.mp hb with h|h
    .rcases zv.mp h with h|h
     .exact ab.up.w b (Qy h)
     .rw[vv.mp h];exact#[wt,wn,by show ⇑d<=_;omega]
    .exact ab.up.w b (Q7 h)
   .rcases zv.mp hb with h|h
    .rcases zv.mp h with h|h
     .exact#[b,Qy h,rfl]
     .rw[vv.mp h];exact#[D,P6 am,rfl]
    .exact#[b,Q7 h,rfl]
   .rw[sU,sU];show yq _+(D.2.2.size+0)+_<=_;omega
 let T7:∀(o:Hp) (g:AA) (B:V) (d:List AA),Ext W O o->Wo g->Rp K o (.t (d.map .s)) B->(∀x∈d,Wo x)->⇑d<=3+q->N8 [U (.ref W),U (.ref a),U (.str wd),U (.int T),U (.int J),U (.str g),U B,U u3] o:=by
  intro o g B d x wt rn wn ln;calc c8.go ?_;calc jY ?_;intro N9 c9;let e9:∀(Hy:Hp) (ah:V) (ac:List AA),Ext W O Hy->Rp K Hy (.t (ac.map .s)) ah->(∀x∈ac,Wo x)->⇑ac<=3+q->N9 [U (.ref W),U (.ref a),U (.str wd),U (.int T),U (.int J),U (.str g),U ah,U u3] Hy:=λHy ah ac xy ry wy ly=>c9.go (R Hy g ah ac xy wt ry wy ly);clear c9;let(na,M,rfl,Z,I):=id rn.aT;let S:=⇑I;rw[bM]at S;let e0:=e9 o _ d x rn wn ln;ext;refine b8 (λc=>?_) (λc=>?_)
  rotate_left
  .ext;exact e0
  let bt:aV K o na M\/b9 K o na M:=.inr Z;ext p H4 Y h4;rw[show gx M gV (U 1)=M.take 1 from dm M 1]at h4;let bn:aV K H4 na M\/b9 K H4 na M:=.inr (Z.Z Y);let k1:(⇑M:Int)<=100:=()
  let k9:⇑(M.take 1)<=9:=by rw[I0];omega
  ext p2 H5 s5 h5;rw[Rv]at h5;let X:=Y.trans s5
  let e5:=e9 H5 (.ref p2) (P7 ⇑M (d.take 1)).flatten (x.Z X) (Rp.t h5 (by
   rw[List.map_flatten,X5,RK]
   calc((I.Z X).take 1).rep _)) (λy hy=>by
    let(l,hl,hy):=List.mem_flatten.mp hy;rw[(Up.mp hl).2]at hy;calc wn y (Qy hy)) (by
    rw[len_rep,I0];calc Qq (Nat.mul_le_mul (u4 _) (W7 ..)) ())
  ext;exact e5
 clear c8
 let T6:∀(o:Hp) (g:AA) (B:V) (d:List AA),Ext W O o->Wo g->Rp K o (.t (d.map .s)) B->(∀x∈d,Wo x)->⇑d<=3+q->N7 [U (.ref W),U (.ref a),U (.str wd),U (.int T),U (.int J),U (.str g),U B,U u3] o:=by
  intro o g B d x wt rn wn ln;let e0:=T7 o g B d x wt rn wn ln;calc c7.go ?_;let(na,M,rfl,Z,I):=id rn.aT;ext;refine b8 (λc=>?_) (λc=>?_)
  rotate_left
  .ext;exact e0
  ext p H4 Y h4;rw[qD]at h4;let S:=⇑I;rw[bM]at S
  let e5:=T7 H4 g (.ref p) d.dropLast (x.Z Y) wt (Rp.t h4 (by
   rw[Wa,Q2,Q2,bM,<-S];calc(I.Z Y).take _)) (λy hy=>wn y (TQ _ hy)) (by rw[Vg];omega)
  ext;exact e5
 clear c7 T7
 let T5:∀(o:Hp) (g:AA) (B:V) (d:List AA),Ext W O o->Wo g->Rp K o (.t (d.map .s)) B->(∀x∈d,Wo x)->⇑d<=2+q->N6 [U (.ref W),U (.ref a),U (.str wd),U (.int T),U (.int J),U (.str g),U B,U u3] o:=by
  intro o g B d x wt rn wn ln;let e0:=T6 o g B d x wt rn wn ();calc c6.go ?_;let(na,M,rfl,Z,I):=id rn.aT;let S:=⇑I;rw[bM]at S;ext;refine b8 (λc=>?_) (λc=>?_)
  rotate_left
  .ext;exact e0
  ext;calc nw λp H4 Y bk hp=>?_;let h4:b9 K H4 p [.str wd]:=b9.of bk;let bm:=Z.Z Y;let l4:⇑M+[V.str wd].length<=my:=small (by show ⇑M+1<=_;omega);ext p5 H5 s5 h5;let X:=Y.trans s5
  let e5:=T6 H5 g (.ref p5) (d++[wd]) (x.Z X) wt (Rp.t h5 (by
   rw[i4];calc(I.Z X).append (.one .s))) (λy hy=>(zv.mp hy).elim (wn y) λz=>by rw[vv.mp z];calc a2) (by rw[mu];show _+1<=_;omega)
  ext;exact e5
 clear c6 T6;obtain⟨b0,ap⟩:∃b0,N[0]?=U b0:=#[_,pC ()];let(a5,a1,ax):=ay.get (i:=0) (x:=xX b0) (by rw[EF,ap];rfl);let(gb,y1,y2,y3,rfl,b1,d1,d2,d3):=(show Rp K O (.t [.s b0.1,.t (b0.2.1.map .s),enc b0.2.2]) a5 from ax).t3;obtain rfl:=d1.aP;let a0:fM G 0=U (.ref gb):=aG (j:=0) a1;calc c3.go ?_;ext
 let T4:Wo b0.1->N5 [U (.ref W),U (.ref a),U (.str wd),U (.int T),U (.int J),U (.str D.1),U u2,U u3] O:=by
  intro wb;let e0:=T5 O D.1 u2 D.2.1 (Ext.refl ad) a6 g2 ag af;let e1:=T5 O b0.1 u2 D.2.1 (Ext.refl ad) wb g2 ag af;calc c5.go ?_;ext;refine b8 (λc=>?_) (λc=>?_)
  .ext;exact e1
  .ext;exact e0
 let bl:N5 [U (.ref W),U (.ref a),U (.str wd),U (.int T),U (.int J),U (.str wd),U u2,U u3] O:=by
  let e0:=T5 O wd u2 D.2.1 (Ext.refl ad) a2 g2 ag af;let e1:=T5 O b0.1 u2 D.2.1 (Ext.refl ad) (ab.w b0 (P6 ap)).1 g2 ag af;calc c5.go ?_;ext;refine b8 (λc=>?_) (λc=>?_)
  .ext;exact e1
  .ext;exact e0
 let T4:=T4 (ab.w b0 (P6 ap)).1;clear c5 T5;refine b8 (λc=>?_) (λc=>?_)
 .ext;exact bl
 .ext;calc T4
meta def LP(q:Nat)(h:Hd):Prop:=∀d,h=.mat d->⇑d<=3+q/\∀a∈d,⇑a.2<=2+q
inductive Tb(q:Nat):Tm->Prop
 |mk {h:Hd}{ks:MC Tm}:dc h ⇑ks=AD->HW h->LP q h->(∀k∈ks,Tb q k)->Tb q (.mk h ks)
def Tb.inv (t:Tb q (.mk h ks)):dc h ⇑ks=AD/\HW h/\LP q h/\∀k∈ks,Tb q k:=by
 cases t with
 |mk a b c d=>calc#[a,b,c,d]
def Tb.wf {q:Nat}{e:Tm}:Tb q e->Wf e:=by
 calc Tm.induct (P:=λt=>Tb q t->Wf t) (λh ks j w=>?_) e;let(a,_,_,d):=w.inv;calc .mk a λk g=>j k g (d k g)
def LP.up (a:LP q h)(l:q<=r):LP r h:=λd e=>#[by let:=(a d e).1;omega,λx g=>by let:=(a d e).2 x g;omega]
def Tb.up (l:q<=r){e:Tm}:Tb q e->Tb r e:=by
 calc Tm.induct (P:=λt=>Tb q t->Tb r t) (λh ks j w=>?_) e;let(a,b,c,d):=w.inv;calc .mk a b (c.up l) λk g=>j k g (d k g)
def Tb.wn (l:q<=3){e:Tm}:Tb q e->Wn e:=by
 calc Tm.induct (P:=λt=>Tb q t->Wn t) (λh ks j w=>?_) e;let(a,_,c,d):=w.inv;refine .mk a (λb hb=>?_) λk g=>j k g (d k g)
 cases h with
 |mat arms =>
  rcases P1.mp (show b∈[]::arms.map (·.2)from hb)with rfl|hb
  .exact Qc _
  .have(x,m,rfl):=Qa.mp hb;let:=(c arms rfl).2 x m;omega
 |lt x =>
  rcases P1.mp (show b∈[[],[x]]from hb)with rfl|hb
  .exact Qc _
  .rw[vv.mp hb];calc(∅:1<=5)
 |fold x y =>
  rcases P1.mp (show b∈[[],[],[x,y]]from hb)with rfl|hb
  .exact Qc _
  rcases P1.mp hb with rfl|hb
  .exact Qc _
  .rw[vv.mp hb];calc(∅:2<=5)
 |_=>rw[(Up.mp (show b∈P7 ⇑ks []from hb)).2];calc Qc _
def Tb.ta (l:q<=9){j:Tm}:Tb q j->Ta j:=by
 calc Tm.induct (P:=λt=>Tb q t->Ta t) (λh ks o w=>?_) j;let(_,b,c,d):=w.inv;calc .mk (λg e=>#[by let:=(c g e).1;omega,λx p=>by let:=(c g e).2 x p;omega]) b λk m=>o k m (d k m)
structure LQ(q:Nat) (tm tm':Tm):Prop where
 b:Tb (q+1) tm'
 d:tm'.depth<=tm.depth+1
 z:tm'.size<=2*tm.size+3
meta def xY(K:cB):Sp:=λo H Q _=>∃(f j:AB) (v:V) (g:Tm) (e:List AA) (q:Nat),o=[.ref f,v,.ref j]/\cH H f/\Rp K H (enc g) v/\Tb q g/\q<=4/\g.size<=80/\H j=U (.Y (e.map V.str))/\j≠f/\1<=⇑e/\⇑e<=100/\(∀x∈e,Wo x) /\
 ∀(m:V) (l:Hp) (d:Tm),Ext f H l->Rp K l (enc d) m->LQ q g d->Q m l
def Iv {hd:Hd}{ks:MC Tm}(m:dc hd ⇑ks=AD):∃(d:AA) (rest:MC T),mY hd (ks.map enc)=.t (.s d::rest) /\
  (pK (.str d) [.str "tag",.str "call"]=AD->∃t,rest=[.s t,.t (ks.map enc)]/\((d="tag"/\hd=.tag t)\/(d="call"/\hd=.call t))) /\
  (decide (V.str d=V.str "match")=AD->∃arms,hd=.mat arms)/\(decide (V.str d=V.str "fold")=AD->∃x y,hd=.fold x y)/\(decide (V.str d=V.str "let")=AD->∃x,hd=.lt x):=by
 cases hd<;>refine#[_,_,rfl,λl=>?_,λj=>?_,λg=>?_,λe=>?_]<;>first
  |calc absurd l ∅
  |calc absurd j ∅
  |calc absurd g ∅
  |calc absurd e ∅
  |calc#[_,rfl,.inl #[rfl,rfl]]
  |calc#[_,rfl,.inr #[rfl,rfl]]
  |calc#[_,rfl]
  |calc#[_,_,rfl]
theorem zK :∀{arms:MC (AA×List AA)}{kr:MC Tm},⇑arms=⇑kr->∃d:MC Al,arms=d.map (λa=>(a.1,a.2.1))/\kr=d.map (λa=>a.2.2)
 | [],[],_=>#[[],rfl,rfl]
 |a::ar,k::kr,h=>by
  let(d,g,e):=zK (arms:=ar) (kr:=kr) (by simpa using h);calc#[(a.1,a.2,k)::d,by rw[g];rfl,by rw[e];rfl]
theorem AQ :∀d:MC Al,QE jF (d.map λa=>(a.1,a.2.1)) ((d.map λa=>a.2.2).map enc)=d.map xX
 | []=>rfl
 |a::r=>by
  rw[Qd,Qd,Qd,W0,AQ r];rfl
def BH (a:dc h 0=AD)(w:HW h)(c:∀arms,h≠.mat arms):Tb q (.mk h []):=.mk a w (λarms e=>absurd e (c arms)) λ_ h=>nomatch h
def sE (a:dc h ⇑ks=AD)(w:HW h)(c:LP (q+1) h)(d:∀k∈ks,Tb (q+1) k/\k.depth<=e.depth)(z:Tm.sizes ks<=2*e.size+2):LQ q e (.mk h ks):=#[.mk a w c λk g=>(d k g).1,Tm.yP λk g=>(d k g).2,by rw[Tm.eG];omega]
def oz (a:dc h 0=AD)(w:HW h)(c:∀arms,h≠.mat arms):LQ q d (.mk h []):=sE a w (λarms e=>absurd e (c arms)) (λ_ h=>nomatch h) (Qc _)
def AR :(Tm.mk h []).depth<=n:=by unfold Tm.depth;calc Qc _
def Lk {hd:Hd}{ks:MC Tm}{d:AA}{rest:MC T}(g:mY hd (ks.map enc)=.t (.s d::rest))(j:dc hd ⇑ks=AD):rest.length<=⇑ks+5:=by
 let e:(mY hd (ks.map enc))=T.t (.s d::rest):=g
 cases hd<;>unfold mY at e<;>cases e<;>simp
def aO :Nm Zw (af lT):=∅
def mR :Lm Zw (af lT):=∅
def kT :aY Zw ZQ (af lT):=by ac_rfl
def Ff (F:i9 K "_law_other" "_law_other" lT f fd)(TK:Ya "_law_take" 1 YO cg gT tfd)(cv:Ya "_law_other_arms" 2 Γc (BG K) gO ofd)(ai:mg "len"=gV)(am:mg "int"=gV):Yf gy 3 f fd ZQ (xY K):=by
 exists F.ok kT
 .have(_,_,_,_,_,_,rfl,_):=h;rfl
 let(fe,lw,v,tm,ws,q,rfl,hf,rv,tb,hq,hz,bo,ci,w1,cw,b6,k):=h;refine#[_,(Z5 (Z4 kT.nd mR 3 (Zi (va aO 2) (Z0 TK (Z1 (va aO 0) (Z1 (Z2 aN ai Qh (Za (va aO 2))) ak))))) (Z5 (Z4 kT.nd mR 4 (Zi (aZ[4]! (Z1 au (Z1 au (Z1 au (cU au (Za au)))))) (Z0 TK (cU (va aO 0) (Za au))))) (Z5 (Z4 kT.nd mR 5 (Z0 TK (cU (va aO 0) (Za au)))) (Z5 (Zb (fV[8]! iz (Z7 aJ (va aO 1)) (Ze (Z1 aC (cU aC (Za aC)))) (by rfl')) (Zd (Zo (Zi (aZ[4]! (Z1 (Ze (Z1 aC (Za (va aO 3)))) (Z1 (Ze (Z1 aC (Za (va aO 4)))) (Z1 (Ze (Z1 aC (Z1 (va aO 3) (Za (eO ak))))) (Z1 (Ze (Z1 aC (Z1 (va aO 3) (Za (eO ak))))) ak))))) (va aO 5))))) (Z5 (Zb (fV[8]! iz (Z7 aJ (va aO 1)) (Ze (cU aC (Za aC))) (by rfl')) (Z5 (Z4 kT.nd mR 6 (Zi (aZ[4]! (Z1 (Zq er (Z7 aJ (va aO 1)) bW (bL (kY i5 au))) (Z1 (Zj di (Z7 aJ (va aO 1)) (Ze (Z1 (Ze (cU aC (Za au))) ak))) (Z1 (Z7 aJ (va aO 1)) ak)))) (bX gJ (va aO 5) au))) (Zd (Zo (Ze (Z1 (Z7 aJ (va aO 1)) (Z1 (Zi (aZ[4]! (Z1 (Z7 aJ (va aO 1)) (Za (va aO 3)))) (Z6 iy am Rc (Z1 (jC pS (va aO 5) au (mh _)) ak))) (Za (va aO 6))))))))) (Z5 (Zb (Zh bV (Z7 aJ (va aO 1)) aC) (Zd (Zo (Ze (Z1 aC (Z1 (Z7 aJ (va aO 1)) (Z1 (Z0 cv (Z1 (va aO 0) (Z1 (Z7 aJ (va aO 1)) (Za (va aO 3))))) ak))))))) (Z5 (Zb (Zh bV (Z7 aJ (va aO 1)) aC) (Zd (Zo (Zj di (Zj di (iE er (va aO 1) bW (bL au)) (Ze (Z1 (Zi (aZ[4]! (Z1 (Z7 aJ (va aO 1)) (Za (va aO 3)))) (bX gJ (va aO 5) au)) ak))) (iE er (va aO 1) (bL au) bW))))) (Z5 (Zb (Zh bV (Z7 aJ (va aO 1)) aC) (Zd (Zo (Zj di (Ze (Z1 aC (Za (va aO 3)))) (iE er (va aO 1) (bL au) bW))))) (Zd (Zo (Zi (aZ[4]! (Z1 (Ze (Z1 aC (Za (va aO 4)))) (Z1 (Ze (Z1 aC (Z1 (Ze (Za (va aO 1))) ak))) (Z1 (Ze (Z1 aC (Za (va aO 3)))) (Z1 (Ze (Z1 aC (Z1 (Ze (Z1 aC (Za (va aO 4)))) (Za (va aO 1))))) ak))))) (va aO 5)))))))))))),?_]
 right
 right
 let wf:=tb.wf
 cases tm with
 |mk hd ks =>
 let(ar,hw,aq,tk):=tb.inv;let(fm,rest,he,h1,h2,h3,h4):=Iv ar;let rt:=rv;rw[bG,he]at rv;let(a,vs,rfl,hS,bc):=id rv.aT;let(v0,wr,rfl,e0,bm):=bc.inv;obtain rfl:=e0.aP;let c0:=Tm.eG hd ks;calc tZ ?_;intro N1 N2 N3 N4 N5 N6 N7 N8 c1 c2 c3 c4 c5 c6 c7 c8;let dd:⇑(ws.map V.str)=⇑ws:=bM ..;let cr:aV K H lw (ws.map V.str):=aV.of bo;let cz:⇑(ws.map V.str)<my:=bg ();let w0:(0:Int)<(⇑(ws.map V.str):Int):=()
 let w2:(⇑(ws.map V.str):Int)<1073741824:=()
 ext r1 H1 cd cc x1;let(v1,dg,cm):=mE (xs:=ws.map V.str) cd cc;let(wd,ck,rfl):=Qa.mp cm;let wo:=b6 wd ck;let b2:aV K H1 lw (ws.map V.str):=aV.of (x1.1 _ _ ci bo);ext;calc nw λl2 H2 s2 bu bp=>?_;let n2:=bj x1.2 bp;let x2:=x1.Z s2;let dt:=x2.2;ext r3 H3 cb ca x3;let cp:aV K H3 l2 [.int 3,.int 10,.int 99,.int 98,.int 50]:=aV.of (x3.1 _ _ n2 bu);let(z3,de,bn):=mE (xs:=[V.int 3,.int 10,.int 99,.int 98,.int 50]) (k:=r3) cb ca
 obtain⟨n,rfl⟩:∃n:Int,z3=.int n:=by
  simp only[P1,Qo,or_false]at bn;rcases bn with rfl|rfl|rfl|rfl|rfl<;>exact#[_,rfl]
 let a0:=x2.trans x3;let ds:=a0.2;ext g H4 dy dx x4;let an:=a0.trans x4;let dr:=an.2;let aw:=an.kt hf;let bt:=hS.kt aw;let ac:=bm.kt aw;let a9:=rt.kt aw;clear hS bm rt cr b2 bp bu cp s2 n2;let cs:fM (V.str fm::wr) 0=U (.str fm):=aG (j:=0) rfl
 let lv:⇑(V.str fm::wr)<1000:=by
  let l1:=⇑bc;let l2:rest.length<=⇑ks+5:=Lk he ar;rw[l1];show rest.length+1<_;let:=rG ks;omega
 let lk:⇑ks<900:=by let:=rG ks;omega
 let L4:∀(H5:Hp),aS H4 H5->∀(p1 p2 p3 p4:AB) (h':Hd) ,True:=λ_ _ _ _ _ _ _=>True.intro;clear L4;calc c3.go ?_;ext;calc nw λp5 H5 s5 bx dl=>?_;let h5:b9 K H5 p5 [.str "name",.str "num",.str "gap"]:=b9.of bx;let az:=an.Z s5;let bs:=bt.Z s5;let bf:=ac.Z s5;let a8:=a9.Z s5;let ch:aV K H5 p5 [.str "name",.str "num",.str "gap"]\/b9 K H5 p5 [.str "name",.str "num",.str "gap"]:=.inr h5;ext;refine b8 (λd1=>?_) (λd1=>?_)
 .ext;calc nw λq1 J1 t1 X cl=>?_;let Y:=Rp.nw (K:=K) (xs:=[.s "name",.s wd]) X t1 (.cons .s (.one .s));ext;calc nw λq2 J2 t2 D bi=>?_;let e2:=Rp.nw (K:=K) (xs:=[.s "gap",.i n]) D t2 (.cons .s (.one .i));ext;calc nw λq3 J3 t3 C bh=>?_;let e3:=Rp.nw (K:=K) (xs:=[]) C t3 .nil;ext;calc nw λq4 J4 t4 W ac=>?_;let e4:=Rp.nw (K:=K) (xs:=[.s "call",.s wd,.t []]) W t4 (.cons .s (.cons .s (.one e3)));ext;calc nw λq5 J5 t5 l ah=>?_;let e5:=Rp.nw (K:=K) (xs:=[]) l t5 .nil;ext;calc nw λq6 J6 Z bv S=>?_;let e6:=Rp.nw (K:=K) (xs:=[.s "tag",.s wd,.t []]) bv Z (.cons .s (.cons .s (.one e5)));ext;calc nw λq7 J7 t7 gD p=>?_;let h7:aV K J7 q7 [.ref q1,.ref q2,.ref q4,.ref q6]:=aV.of gD;let L:=Z.trans t7;let ao:=t3.trans (t4.trans (t5.trans L));let x7:=az.Z (t1.trans (t2.trans ao))
  obtain⟨u,hu,o,ru,ot⟩:∃u,fM [.ref q1,.ref q2,.ref q4,.ref q6] g=U u/\∃o,Rp K J7 (enc o) u/\LQ q (.mk hd ks) o:=by
   rcases(show g=0\/g=1\/g=2\/g=3 by omega)with rfl|rfl|rfl|rfl
   .exact#[_,aG (j:=0) rfl,.mk (.name wd) [],by rw[bG];calc Y.Z (t2.trans ao),oz rfl wo ⋯]
   .exact#[_,aG (j:=1) rfl,.mk (.gap n) [],by rw[bG];calc e2.Z ao,oz rfl True.intro ⋯]
   .exact⟨_,aG (j:=2) rfl,.mk (.call wd) [],by rw[bG];calc e4.Z (t5.trans L),oz rfl wo ⋯⟩
   .exact#[_,aG (j:=3) rfl,.mk (.tag wd) [],by rw[bG];calc e6.Z t7,oz rfl wo ⋯]
  ext;exact k _ _ o x7 ru ot
 clear d1 h5 ch;let cy:fM (V.str fm::wr) 0=U (.str fm):=cs;calc c4.go ?_;ext;calc nw λp6 H6 s6 bw dk=>?_;let h6:b9 K H6 p6 [.str "tag",.str "call"]:=b9.of bw;let J:=az.Z s6;let co:=J.2;let ay:=bs.Z s6;let S:=bf.Z s6;let a7:=a8.Z s6;let cf:aV K H6 p6 [.str "tag",.str "call"]\/b9 K H6 p6 [.str "tag",.str "call"]:=.inr h6;clear bs bf a8 bt ac a9;ext;refine b8 (λd2=>?_) (λd2=>?_)
 .have(tt,rfl,hh):=h1 d2;let(y1,av,rfl,g1,p):=S.inv;obtain rfl:=g1.aP;let(y2,as,rfl,g2,G):=p.inv;obtain rfl:=G.gz;let(ta,us,rfl,a3,a4):=id g2.aT;let ba:=⇑a4;rw[bM]at ba;ext q1 J1 t1 Y;rw[qD]at Y;let ad:=ay.Z t1;let a2:=a3.Z t1;ext;calc nw λq2 J2 t2 D bi=>?_;let e2:=Rp.nw (K:=K) (xs:=[.s "num",.i 1]) D t2 (.cons .s (.one .i));ext;calc nw λq3 J3 t3 C bh=>?_;let e3:b9 K J3 q3 [.ref q2]:=b9.of C;let cx:=a2.Z (t2.trans t3);let l3:⇑us+[V.ref q2].length<=my:=small (by show ⇑us+1<=_;omega);ext q4 J4 t4 e4;let bq:=ad.Z ((t2.trans t3).trans t4);ext;calc nw λq5 J5 t5 l ah=>?_;let dw:aV K J5 q5 [.ref q1,.ref q4,.ref ta]:=aV.of l;let M:=t1.trans ((t2.trans t3).trans (t4.trans t5));let r5:=a4.Z M
  obtain⟨u,hu,B,ru,kd,kz⟩:∃u,fM [.ref q1,.ref q4,.ref ta] (g % 3)=U u/\∃B:MC Tm,Rp K J5 (.t (B.map enc)) u/\(∀k∈B,Tb (q+1) k/\k.depth<=(Tm.mk hd ks).depth)/\Tm.sizes B<=2*(Tm.mk hd ks).size+2:=by
   let kk:∀k∈ks,Tb (q+1) k/\k.depth<=(Tm.mk hd ks).depth:=λk hk=>#[(tk k hk).up (QT _),QB (Tm.jy hk)];rcases(show g % 3=0\/g % 3=1\/g % 3=2 by omega)with e|e|e<;>rw[e]
   .refine#[.ref q1,aG (j:=0) rfl,ks.dropLast,Rp.t (Y.Z ((t2.trans t3).trans (t4.trans t5))) ?_,λk hk=>kk k (TQ _ hk),?_]
    .rw[Wa,Q2,Q2,bM,<-ba];exact r5.take _
    .have:=Tm.eI (ks.take (⇑ks-1)) (ks.drop (⇑ks-1));rw[R1]at this;rw[Q2];omega
   .refine#[.ref q4,aG (j:=1) rfl,ks++[.mk (.num 1) []],Rp.t (e4.Z t5) ?_,λk hk=>(zv.mp hk).elim (kk k) λz=>by rw[vv.mp z];calc#[BH rfl True.intro ⋯,AR],?_]
    .rw[i4];calc r5.append (.one ?_);rw[bG];exact e2.Z (t3.trans (t4.trans t5))
    .rw[Tm.eI];show _+(1+0)<=_;omega
   .exact#[.ref ta,aG (j:=2) rfl,ks,Rp.t (a3.Z M) r5,kk,()]
  let du:=bq.Z t5;ext;calc nw λq6 J6 Z I be=>?_;let dv:aV K J6 q6 [.str tt,.str wd]:=aV.of I;let a6:=ru.Z Z
  obtain⟨t',dj,a1⟩:∃t':AA,fM [V.str tt,V.str wd] (if decide (g > 1)=AD then 1 else 0)=U (.str t')/\Wo t':=by
   let b7:Wo tt:=by
    rcases hh with⟨_,e⟩|⟨_,e⟩<;>(rw[e]at hw;calc hw)
   by_cases c:decide (g > 1)=AD
   .rw[if_pos c];exact#[_,aG (j:=1) rfl,wo]
   .rw[if_neg c];exact#[_,aG (j:=0) rfl,b7]
  ext;calc .inr #[_,rfl,?_];ext q7 m;let t7:=ae m (.J [.str fm,.str t',u]);let x7:=J.Z ((M.trans Z).trans t7);rcases hh with⟨rfl,rfl⟩|⟨rfl,rfl⟩
  .exact k _ _ (.mk (.tag t') B) x7 (by rw[bG];calc Rp.new (K:=K) (xs:=[.s "tag",.s t',.t (B.map enc)]) m (.cons .s (.cons .s (.one a6)))) (sE rfl a1 ⋯ kd kz)
  .exact k _ _ (.mk (.call t') B) x7 (by rw[bG];calc Rp.new (K:=K) (xs:=[.s "call",.s t',.t (B.map enc)]) m (.cons .s (.cons .s (.one a6)))) (sE rfl a1 ⋯ kd kz)
 clear h6 cf d2 h1;calc c5.go ?_;ext;refine b8 (λd3=>?_) (λd3=>?_)
 .have(b3,rfl):=h2 d3
  obtain⟨k0,kr,rfl⟩:∃k0 kr,ks=k0::kr:=by
   cases ks with
   |nil=>simp[dc]at ar
   |cons y r=>exact#[_,_,rfl]
  let cn:⇑b3=⇑kr:=by let:=ar;simp[dc]at this;omega
  let(al,rfl,rfl):=zK cn;let N:T.t [.s "match",enc k0,.t (QE jF (al.map λa=>(a.1,a.2.1)) ((al.map λa=>a.2.2).map enc))]=.t (.s fm::rest):=he;rw[AQ]at N
  cases N
  let(y1,av,rfl,g1,p):=S.inv;let(y2,as,rfl,g2,G):=p.inv;obtain rfl:=G.gz;let(b4,cu):=aq _ rfl;rw[bM]at b4;let ab:FQ q al:=#[b4,λb hb=>#[(hw _ (QI (f:=λa:Al=>(a.1,a.2.1)) hb)).1,(hw _ (QI (f:=λa:Al=>(a.1,a.2.1)) hb)).2,cu _ (QI (f:=λa:Al=>(a.1,a.2.1)) hb)]];ext v' J1 O xJ rJ af cj kz;let x7:=J.trans xJ;let cq:=g1.kt (xJ.kt co);ext q7 m;let t7:=ae m (.J [.str "match",y1,v']);let c9:Tm.sizes (k0::al.map λa=>a.2.2)=k0.size+yq al:=Tm.bT ..;refine k _ _ (.mk (.mat (O.map λa=>(a.1,a.2.1))) (k0::O.map λa=>a.2.2)) (x7.Z t7) ?_ (sE ?_ (λb hb=>?_) (λct e=>?_) (λkk hk=>?_) ?_)
  .rw[bG];show Rp K _ (.t [.s "match",enc k0,.t (QE jF (O.map λa=>(a.1,a.2.1)) ((O.map λa=>a.2.2).map enc))]) _;rw[AQ];exact Rp.new (K:=K) (xs:=[.s "match",enc k0,.t (O.map xX)]) m (.cons .s (.cons cq (.one rJ)))
  .simp[dc]
  .have(c,hc,rfl):=Qa.mp hb;exact#[(af.w c hc).1,(af.w c hc).2.1]
  .cases e
   exact#[by rw[bM];exact af.len,λb hb=>by
    let(c,hc,rfl):=Qa.mp hb;calc(af.w c hc).2.2]
  .have bb:∀kk∈(k0::al.map λa=>a.2.2),Tb (q+1) kk/\kk.depth<=(Tm.mk (.mat (al.map λa=>(a.1,a.2.1))) (k0::al.map λa=>a.2.2)).depth:=λk hk=>#[(tk k hk).up (QT _),QB (Tm.jy hk)];rcases P1.mp hk with rfl|hk
   .exact bb _ (.head _)
   .have(c,hc,rfl):=Qa.mp hk;let(d,hd,e):=cj c hc;rw[e];exact bb _ (.tail _ (QI (f:=λa:Al=>a.2.2) hd))
  .rw[Tm.bT];show k0.size+yq O<=_;omega
 clear d3 h2;calc c6.go ?_;ext;refine b8 (λd4=>?_) (λd4=>?_)
 .have(x,y,rfl):=h3 d4
  obtain⟨k0,R,k2,rfl⟩:∃k0 R k2,ks=[k0,R,k2]:=by
   rcases ks with _|⟨a,_|⟨b,_|⟨c,_|⟨d,r⟩⟩⟩⟩<;>first|exact#[_,_,_,rfl]|simp[dc]at ar
  let N:T.t [.s "fold",enc k0,.s x,.s y,enc R,enc k2]=.t (.s fm::rest):=he
  cases N
  let(y1,av,rfl,g1,p):=S.inv;let(y2,as,rfl,g2,G):=p.inv;let(y3,ce,rfl,g3,ax):=G.inv;let(y4,db,rfl,g4,bl):=ax.inv;let(y5,da,rfl,g5,bk):=bl.inv;obtain rfl:=bk.gz;obtain rfl:=g2.aP;obtain rfl:=g3.aP;ext p1 J1 t1 Y;rw[show gx [V.str "fold",y1,.str x,.str y,y4,y5] gV (U 3)=[V.str "fold",y1,.str x]from dm _ 3]at Y;let ad:=ay.Z t1;ext;calc nw λp2 J2 t2 b0 dp=>?_;let e2:aV K J2 p2 [.str x,.str wd]:=aV.of b0
  obtain⟨y',df,b5⟩:∃y':AA,fM [V.str x,V.str wd] (g % 2)=U (.str y')/\Wo y':=by
   rcases(show g % 2=0\/g % 2=1 by omega)with e|e<;>rw[e]
   .exact#[_,aG (j:=0) rfl,hw.1]
   .exact#[_,aG (j:=1) rfl,wo]
  ext;calc nw λp3 J3 t3 bz dn=>?_;let e3:b9 K J3 p3 [.str y']:=b9.of bz;let d0:=(Y.Z t2).Z t3;ext p4 J4 t4 e4;let bq:=ad.Z ((t2.trans t3).trans t4);ext p5 J5 t5 e5;rw[show gx [V.str "fold",y1,.str x,.str y,y4,y5] (U 4) gV=[y4,y5]from iA _ 4]at e5;let dz:=e4.Z t5;let l6:([V.str "fold",y1,V.str x]++[V.str y']).length+[y4,y5].length<=my:=small (by show 6<=1000;decide);ext p6 J6 Z e6;let aa:=t1.trans ((t2.trans t3).trans ((t4.trans t5).trans Z));refine k _ _ (.mk (.fold x y') [k0,R,k2]) (J.Z aa) ?_ (sE rfl #[hw.1,b5] ⋯ (λk hk=>#[(tk k hk).up (QT _),QB (Tm.jy hk)]) ())
  rw[bG];exact Rp.t (xs:=[.s "fold",enc k0,.s x,.s y',enc R,enc k2]) e6 (.cons .s (.cons (g1.Z aa) (.cons .s (.cons .s (.cons (g4.Z aa) (.one (g5.Z aa)))))))
 clear d4 h3;calc c7.go ?_;ext;refine b8 (λd5=>?_) (λd5=>?_)
 .have(x,rfl):=h4 d5
  obtain⟨k0,R,rfl⟩:∃k0 R,ks=[k0,R]:=by
   rcases ks with _|⟨a,_|⟨b,_|⟨c,r⟩⟩⟩<;>first|exact#[_,_,rfl]|simp[dc]at ar
  let N:T.t [.s "let",.s x,enc k0,enc R]=.t (.s fm::rest):=he
  cases N
  let(y1,av,rfl,g1,p):=S.inv;let(y2,as,rfl,g2,G):=p.inv;let(y3,ce,rfl,g3,ax):=G.inv;obtain rfl:=ax.gz;obtain rfl:=g1.aP;ext;calc nw λp1 J1 t1 b1 dq=>?_;let Y:b9 K J1 p1 [.str "let",.str wd]:=b9.of b1;let ad:=ay.Z t1;ext p2 J2 t2 e2;rw[show gx [V.str "let",.str x,y2,y3] (U 2) gV=[y2,y3]from iA _ 2]at e2;let d6:=Y.Z t2;let l3:[V.str "let",V.str wd].length+[y2,y3].length<=my:=small (by show 4<=1000;decide);ext p3 J3 t3 e3;let ap:=t1.trans (t2.trans t3);refine k _ _ (.mk (.lt wd) [k0,R]) (J.Z ap) ?_ (sE rfl wo ⋯ (λk hk=>#[(tk k hk).up (QT _),QB (Tm.jy hk)]) ())
  rw[bG];exact Rp.t (xs:=[.s "let",.s wd,enc k0,enc R]) e3 (.cons .s (.cons .s (.cons (g2.Z ap) (.one (g3.Z ap)))))
 clear d5 h4;calc c8.go ?_;ext;calc nw λq1 J1 t1 X cl=>?_;let Y:=Rp.nw (K:=K) (xs:=[.s "gap",.i n]) X t1 (.cons .s (.one .i));ext;calc nw λq2 J2 t2 D bi=>?_;let e2:=Rp.nw (K:=K) (xs:=[enc (.mk hd ks)]) D t2 (.one (a7.Z t1));ext;calc nw λq3 J3 t3 C bh=>?_;let e3:=Rp.nw (K:=K) (xs:=[.s "row",.t [enc (.mk hd ks)]]) C t3 (.cons .s (.one e2));ext;calc nw λq4 J4 t4 W ac=>?_;let e4:=Rp.nw (K:=K) (xs:=[.s "name",.s wd]) W t4 (.cons .s (.one .s));ext;calc nw λq5 J5 t5 l ah=>?_;let e5:=Rp.nw (K:=K) (xs:=[.s "gap",.i n]) l t5 (.cons .s (.one .i));let M:=(t1.trans t2).trans ((t3.trans t4).trans t5);ext;calc nw λq6 J6 Z I be=>?_;let e6:=Rp.nw (K:=K) (xs:=[.s "more",.t [.s "gap",.i n],enc (.mk hd ks)]) I Z (.cons .s (.cons e5 (.one (a7.Z M))));ext;calc nw λq7 J7 t7 gD p=>?_;let h7:aV K J7 q7 [.ref q1,.ref q3,.ref q4,.ref q6]:=aV.of gD;let L:=Z.trans t7;let a5:=t4.trans (t5.trans L);let x7:=J.Z (M.trans L);let ag:Tb (q+1) (.mk hd ks)/\(Tm.mk hd ks).depth<=(Tm.mk hd ks).depth:=#[tb.up (QT _),u4 _]
 obtain⟨u,hu,o,ru,ot⟩:∃u,fM [.ref q1,.ref q3,.ref q4,.ref q6] g=U u/\∃o,Rp K J7 (enc o) u/\LQ q (.mk hd ks) o:=by
  rcases(show g=0\/g=1\/g=2\/g=3 by omega)with rfl|rfl|rfl|rfl
  .exact#[_,aG (j:=0) rfl,.mk (.gap n) [],by rw[bG];calc Y.Z (t2.trans (t3.trans a5)),oz rfl True.intro ⋯]
  .exact⟨_,aG (j:=1) rfl,.mk .row [.mk hd ks],by rw[bG];calc e3.Z a5,sE rfl True.intro ⋯ (λk hk=>by rw[vv.mp hk];calc ag) (by rw[Tm.bT];show _+0<=_;omega)⟩
  .exact⟨_,aG (j:=2) rfl,.mk (.name wd) [],by rw[bG];calc e4.Z (t5.trans L),oz rfl wo ⋯⟩
  .refine#[_,aG (j:=3) rfl,.mk .more [.mk (.gap n) [],.mk hd ks],?_,sE rfl True.intro ⋯ (λk hk=>?_) (by rw[Tm.bT,Tm.bT];show 1+(_+0)<=_;omega)]
   .rw[bG];show Rp K _ (.t [.s "more",enc (.mk (.gap n) []),enc (.mk hd ks)]) _;rw[bG (.gap n)];exact e6.Z t7
   .rcases P1.mp hk with rfl|hk
    .exact#[BH rfl True.intro ⋯,AR]
    .rw[vv.mp hk];exact ag
 ext;calc k _ _ o x7 ru ot
def Fg {arms:MC (AA×List AA)}{d:MC T}{i:Nat}{t:T}(h:(QE jF arms d)[i]?=U t):∃x k,arms[i]?=U x/\t=jF x k:=by
 rw[Tu]at h
 cases e1:arms[i]? with
 |none=>rw[e1]at h;cases h
 |some x =>
  cases e2:d[i]? with
  |none=>rw[e1,e2]at h;cases h
  |some k=>rw[e1,e2]at h;calc#[x,k,rfl,(Qw h).symm]
def zL (h:⇑arms=⇑ks):QE jF (arms++[a]) (ks++[k])=QE jF arms ks++[jF a k]:=by
 rw[XF h];rfl
def oA {d:Type}{xs:List d}{i:Nat}{x:d}(h:xs[i]?=U x):xs.take (i+1)=xs.take i++[x]:=by
 rw[we (eF.mp h).1,(eF.mp h).2]
theorem _root_.L2.bS.dropLast (r:bS K H xs us):bS K H xs.dropLast us.dropLast:=by
 rw[Q2,Q2,⇑r];calc r.take _
def Iw {hd: Hd}{ks: MC Tm}(o : dc hd ⇑ks = AD): ∃ (e : AA) (rest : MC T), mY hd (ks.map enc) = .t (.s e :: rest) ∧
    (pK (.str e) [.str "row", .str "tag", .str "call"] = AD -> ∃ d, ⇑d ≤ 1 ∧ rest = d ++ [.t (ks.map enc)] ∧ ∀ g, mY hd g = .t (.s e :: (d ++ [.t g]))) ∧
    (decide (V.str e = V.str "match") = AD -> ∃ arms, hd = .mat arms) ∧ (decide (V.str e = V.str "fold") = AD -> ∃ x y, hd = .fold x y) ∧
    (¬ pK (.str e) [.str "row", .str "tag", .str "call"] = AD -> ¬ decide (V.str e = V.str "match") = AD -> ¬ decide (V.str e = V.str "fold") = AD -> ∃ d, ⇑d ≤ 1 ∧ rest = d ++ ks.map enc ∧ ∀ g : MC Tm, ⇑g = ⇑ks -> mY hd (g.map enc) = .t (.s e :: (d ++ g.map enc))) := by
  cases hd <;> refine #[_, _, rfl, λc => ?_, λc => ?_, λc => ?_, λm l j => ?_]
  all_goals first
    | calc absurd c ∅
    | calc absurd ∅ m
    | calc absurd ∅ l
    | calc absurd ∅ j
    | calc #[[], SQ rfl, rfl, λ_ => rfl]
    | calc #[[_], SQ rfl, rfl, λ_ => rfl]
    | calc #[_, rfl]
    | calc #[_, _, rfl]
    | calc #[[], SQ rfl, rfl, λ_ _ => rfl]
    | calc #[[_], SQ rfl, rfl, λ_ _ => rfl]
    | (obtain rfl : ks = [] := by simpa [dc] using o
       calc #[[_], SQ rfl, rfl, λg h => by obtain rfl := Uz.mp h; rfl])
meta def uJ(K:cB):Sp:=λm H Q _=>∃(v:V) (l:AB) (hd:Hd) (ks d:MC Tm) (j:MC V),m=[v,.ref l]/\Rp K H (enc (.mk hd ks)) v/\dc hd ⇑ks=AD/\H l=U (.Y j)/\bS K H (d.map enc) j/\⇑d=⇑ks/\⇑ks<=900 /\
 ∀g e,aS H e->Rp K e (enc (.mk hd d)) g->Q g e
def cO :Nm ZD (af nK):=∅
def CT :aY ZD ZD (af nK):=by ac_rfl
def Iz (F:i9 K "_law_back" "_law_back" nK f fd)(aa:mg "zip"=gV)(m:mg "tuple"=gV)(D:mg "len"=gV):Yf gy 1 f fd ZD (uJ K):=by
 exists F.ok CT
 .have(_,_,_,_,_,_,rfl,_):=h;rfl
 let(v,l,hd,ks,js,o,rfl,hv,ar,hl,rs,hk,hz,k):=h;refine#[_,(Z5 (Zb (fV[8]! iz (Z7 aJ (va cO 0)) (Ze (Z1 aC (cU aC (Za aC)))) (by rfl')) (Zd (Zo (Zj di (Zq er (va cO 0) bW (bL (kY i5 au))) (Ze (Z1 (Z6 bh m Qg (Za (va cO 1))) ak)))))) (Z5 (Zb (Zh bV (Z7 aJ (va cO 0)) aC) (Zd (Zo (Ze (Z1 aC (Z1 (Z7 br (va cO 1)) (Z1 (Z6 bh m Qg (Z1 (Zg (af nK) ZD Z9 [] (D8 K rfl (by left) aa (Z1 (Z7 aJ (va cO 0)) (Z1 (iE jV (va cO 1) (bL au) bW) ak))) (λ_ _ _ _=>(Zc (Zf (X1 Z9 0) (Zt (X1 Z9 1))))) (λ_ _ _ _=>(Ze (Z1 (Z7 (wW K rfl) (Xt Z9 0)) (Z1 (Z7 (wW K rfl) (Xt Z9 0)) (Za (Xt Z9 1))))))) ak)) ak))))))) (Z5 (Zb (Zh bV (Z7 aJ (va cO 0)) aC) (Zd (Zo (Ze (Z1 aC (Z1 (Z7 br (va cO 1)) (Z1 (Z7 aJ (va cO 0)) (Z1 (Z7 aJ (va cO 0)) (Z1 (Z7 br (va cO 1)) (Z1 (Z7 br (va cO 1)) ak)))))))))) (Zd (Zo (Zj di (Zq er (va cO 0) bW (bL[3]! (Zj jO (Z2 aN D Qh (Za (va cO 0))) (Z2 aN D Qh (Za (va cO 1)))))) (Z6 bh m Qg (Za (va cO 1))))))))),?_]
 right
 right
 rw[bG]at hv;let a6:=⇑rs;rw[bM]at a6;let(B,rest,he,h1,h2,h3,h4):=Iw ar;rw[he]at hv;let(a,M,rfl,hS,aq):=hv.aT;let(v0,wr,rfl,e0,aw):=id aq.inv;obtain rfl:=e0.aP;calc qj ?_;intro N1 N2 N3 c1 c2 c3;let bu:fM (V.str B::wr) 0=U (.str B):=aG (j:=0) rfl;ext;calc nw λp5 Y L az ad=>?_;let h5:b9 K Y p5 [.str "row",.str "tag",.str "call"]:=b9.of az;let bb:=hS.Z L;let S:=aq.Z L;let ag:=L _ _ hl;let O:=rs.Z L;let be:aV K Y l o:=aV.of ag;let bo:aV K Y p5 [.str "row",.str "tag",.str "call"]\/b9 K Y p5 [.str "row",.str "tag",.str "call"]:=.inr h5;let zu:⇑o<=my:=small ();ext;refine b8 (λd1=>?_) (λd1=>?_)
 .have(g,pl,rfl,hj):=h1 d1;ext p1 J1 t1 e1;rw[qD]at e1;let R:=(S.dropLast).Z t1;rw[show(T.s B::(g++[T.t (ks.map enc)])).dropLast=.s B::g from Vl (l₁:=T.s B::g) (b:=T.t (ks.map enc))]at R;let l1:=⇑S;let G:=⇑R;generalize(V.str B::wr).dropLast=w1 at e1 R G;let W:=t1 _ _ ag;ext;calc .inl #[aV.of W,λp2 gD=>?_];let t2:=ae gD (.J o);let r2:=Rp.new (K:=K) gD (O.Z t1);generalize upd J1 p2 (.J o)=J2 at t2 r2|-;ext;calc nw λp3 J3 t3 a1 bp=>?_;let e3:b9 K J3 p3 [.ref p2]:=b9.of a1;let bt:=e1.Z (t2.trans t3)
  let l3:⇑w1+[V.ref p2].length<=my:=small (by
   show ⇑w1+1<=1000;rw[G];show ⇑g+1+1<=1000;omega)
  ext p4 J4 t4 e4;let N:=t1.trans ((t2.trans t3).trans t4);exact k _ _ (L.trans N) (by rw[bG,hj];calc Rp.t e4 ((R.Z ((t2.trans t3).trans t4)).append (.one (r2.Z (t3.trans t4)))))
 calc c1.go ?_;ext;refine b8 (λd2=>?_) (λd2=>?_)
 .have(C,rfl):=h2 d2
  obtain⟨k0,kr,j0,jr,rfl,rfl⟩:∃k0 kr j0 jr,ks=k0::kr/\js=j0::jr:=by
   cases ks with
   |nil=>simp[dc]at ar
   |cons y r=>cases js with
    |nil=>cases hk
    |cons z u=>exact#[_,_,_,_,rfl,rfl]
  let X:⇑C=⇑kr:=by let:=ar;simp[dc]at this;omega
  let ah:⇑jr=⇑kr:=by simpa using hk
  let ai:T.t [.s "match",enc k0,.t (QE jF C (kr.map enc))]=.t (.s B::rest):=he
  cases ai
  let(y1,a5,rfl,g1,ac):=(aw.Z L).inv;let(y2,a4,rfl,g2,ab):=ac.inv;obtain rfl:=ab.gz;let(b,a2,rfl,ay,ap):=g2.aT;let(u0,ur,rfl,f0,fr):=O.inv;let an:=⇑ap;rw[Rq,bM,X,S3]at an;let am:=⇑fr;rw[bM]at am;let a0:fM (u0::ur) 0=U u0:=aG (j:=0) rfl;let bi:⇑(u0::ur)<my:=bg ();ext;calc nw λl1 H6 s1 al W=>?_;rw[show gx (u0::ur) (U 1) gV=ur from iA (u0::ur) 1]at al;let bq:mW K AE H6 l1 ur:=aV.of al;let bs:mW K AD H6 b a2:=ay.Z s1;ext;refine Ea (K:=K) (xs:=a2) (ys:=ur) (λi σ o J=>(∃y0 y1,σ=[y0,y1])/\aS H6 J/\bS K J (QE jF (C.take i) ((jr.take i).map enc)) o/\⇑o=i) #[#[_,_,rfl],aS.refl _,.nil,rfl] ?_ (small (by let:=hz;simp at this;omega)) ?_ ?_ ?_ ?_
  .exact λi σ o J _ ⟨_,_,_,e⟩=>WO e
  .exact λi σ o J _ ⟨_,s2,_⟩=>ay.Z (s1.trans s2)
  .exact λi σ o J _ ⟨_,s2,_⟩=>aV.of (s2 _ _ al)
  .rintro i xv yv σ o J p hx hy ⟨⟨_,_,rfl⟩,s2,r2,e2⟩ hp;let(ta,a8,ra):=ap.get' hx;let(x,kk,a7,rfl):=Fg a8;let(tk,ao,rk):=fr.get' hy;rw[EF]at ao;let(jj,ba,rfl):=IF.mp ao;let(xa,x1,x2,x3,rfl,a3,q1,q2,q3):=(show Rp K Y (.t [.s x.1,.t (x.2.map .s),kk]) xv from ra).t3;let Z:=ae hp (.J [V.ref xa,yv]);let h3:b9 K (upd J p (.J [V.ref xa,yv])) p [V.ref xa,yv]:=b9.of aj;generalize upd J p (.J [V.ref xa,yv])=H3 at Z h3|-;let q:=(s1.trans s2).trans Z;let bf:=a3.Z q;ext p4 I;let s4:=ae I (.J [x1,x2,yv]);calc#[#[_,_,rfl],(s2.trans Z).trans s4,?_,by rw[mu,e2];rfl];rw[oA a7,oA ba,i4,VX,zL (by rw[bM,I0,I0,ah,<-X])];exact((r2.Z Z).Z s4).snoc (Rp.new (K:=K) (xs:=[.s x.1,.t (x.2.map .s),enc jj]) I (.cons (q1.Z q) (.cons (q2.Z q) (.one (rk.Z q)))))
  .rintro σ M J ⟨⟨_,_,rfl⟩,s2,r2,e2⟩ p hp;rw[an,am,ah,S3,<-X,Ql,X,<-ah,Ql]at r2;let Z:=ae hp (.Y M);let h3:upd J p (.Y M) p=U (.Y M):=aj;generalize upd J p (.Y M)=H3 at Z h3|-;let q:=(s1.trans s2).trans Z;ext;calc .inl #[aV.of h3,λp4 I=>?_];let s4:=ae I (.J M);let r4:=Rp.new (K:=K) I (r2.Z Z);generalize upd H3 p4 (.J M)=H4 at s4 r4|-;ext p5 ad;exact k _ _ (L.trans ((q.trans s4).trans (ae ad _))) (by rw[bG];calc Rp.new (K:=K) (xs:=[.s "match",enc j0,.t (QE jF C (jr.map enc))]) ad (.cons .s (.cons (f0.Z (q.trans s4)) (.one r4))))
 calc c2.go ?_;ext;refine b8 (λd3=>?_) (λd3=>?_)
 .have(x,y,rfl):=h3 d3
  obtain⟨k0,k1,k2,rfl⟩:∃k0 k1 k2,ks=[k0,k1,k2]:=by
   rcases ks with _|⟨a,_|⟨b,_|⟨c,_|⟨d,r⟩⟩⟩⟩<;>first|exact#[_,_,_,rfl]|simp[dc]at ar
  obtain⟨j0,j1,j2,rfl⟩:∃k0 k1 k2,js=[k0,k1,k2]:=by
   rcases js with _|⟨a,_|⟨b,_|⟨c,_|⟨d,r⟩⟩⟩⟩<;>first|exact#[_,_,_,rfl]|simp at hk
  let ai:T.t [.s "fold",enc k0,.s x,.s y,enc k1,enc k2]=.t (.s B::rest):=he
  cases ai
  let(y1,a5,rfl,g1,ac):=(aw.Z L).inv;let(y2,a4,rfl,g2,ab):=ac.inv;let(y3,bl,rfl,g3,a9):=ab.inv;let(y4,bk,rfl,g4,av):=a9.inv;let(y5,bj,rfl,g5,as):=av.inv;obtain rfl:=as.gz;let(u1,_,rfl,f1,fr):=O.inv;let(u2,_,rfl,f2,fr):=fr.inv;let(u3,_,rfl,f3,fr):=fr.inv;obtain rfl:=fr.gz;ext p hp;exact k _ _ (L.trans (ae hp _)) (Rp.new (K:=K) (xs:=[.s "fold",enc j0,.s x,.s y,enc j1,enc j2]) hp (.cons .s (.cons f1 (.cons g2 (.cons g3 (.cons f2 (.one f3)))))))
 let(g,pl,rfl,hj):=h4 d1 d2 d3;calc c3.go ?_;let bn:aV K Y a (V.str B::wr)\/b9 K Y a (V.str B::wr):=.inr bb;let bm:aV K Y l o\/b9 K Y l o:=.inl be;let lv:=⇑S;ext p1 J1 t1 e1
 let ax:(⇑(V.str B::wr):Int) - ⇑o=((⇑g+1:Nat):Int):=by
  rw[lv,Qn,mu,bM];omega
 rw[ax,dm]at e1;let R:=(S.take (⇑g+1)).Z t1;rw[show(T.s B::(g++ks.map enc)).take (⇑g+1)=.s B::g by rw[XH,List.take_left]]at R;let G:=⇑R;generalize(V.str B::wr).take (⇑g+1)=w1 at e1 R G;let W:=t1 _ _ ag;ext;calc .inl #[aV.of W,λp2 gD=>?_];let t2:=ae gD (.J o);let e2:b9 K (upd J1 p2 (.J o)) p2 o:=b9.of aj;let bc:=e1.Z t2;generalize upd J1 p2 (.J o)=J2 at t2 e2 bc|-
 let l3:⇑w1+⇑o<=my:=small (by
  rw[G];show ⇑g+1+⇑o<=1000;omega)
 ext p4 J4 t4 e4;let N:=t1.trans (t2.trans t4);calc k _ _ (L.trans N) (by rw[bG,hj js hk];calc Rp.t e4 ((R.Z (t2.trans t4)).append (O.Z N)))
end G16
namespace L2
open PySem PySem.Spec PyProof.Rows
def Fi (B:X.calm=AD):iQ X (.builtin "sum") (λxs H Q=>∃(p:AB) (ns:MC Int),xs=[.ref p]/\aV X.K H p (ns.map V.int)/\Q (.int ns.sum) H):=by
 intro g s C H xs D Q I r h;let(p,ns,rfl,y,q):=h;let(u,rfl,t):=vals1 r
 cases t
 let(e,o,v,L):=I.list y;let m:Xv e ns:=intsAre_of o;let(xs,d):=m.allInts.items;let l:=v.isList;rw[d]at l;let j:(numsOf (intItems xs).toList)=ns:=by rw[<-d];exact m.numsOf
 rw[nums_intItems]at j;calc sum_intListG (I.ok.hd B) l λM G J z=>?_;calc#[.int _,H,I.kept z,#[_,rfl],?_];rw[preSum_eq,QO (by simp),j];calc q
end L2
namespace G16
open PySem L2
variable [Wds]
meta def xZ(K:cB)(n:Nat):Sp:=λg H Q _=>∃(v:V) (d:Tm),g=[v]/\Rp K H (enc d) v/\Wf d/\d.size<=900/\d.depth<n/\∀(e:Hp),aS H e->Q (.int (d.size:Int)) e
meta def LR(q D:Nat)(ks d:MC Tm)(e c:Int):Prop:=⇑d=⇑ks/\(e<0->c<0/\d=ks)/\(0<=e->(0<=c/\d=ks)\/(c<0/\(∀k∈d,Tb (q+1) k/\k.depth<=D+1)/\Tm.sizes d<=2*Tm.sizes ks+3))
meta def TR(q:Nat)(e d:Tm)(g c:Int):Prop:=(g<0->c<0/\d=e)/\(0<=g->(0<=c/\d=e)\/(c<0/\LQ q e d))
def LR.nil {q D:Nat}{c:Int}:LR q D [] [] c c:=#[rfl,λh=>#[h,rfl],λh=>.inl #[h,rfl]]
def LR.snoc (l:LR q D ks p r c)(t:TR q k j c u)(b:∀x∈ks++[k],Tb q x/\x.depth<=D):LR q D (ks++[k]) (p++[j]) r u:=by
 let(l1,l2,l3):=l;refine#[by rw[mu,mu,l1];rfl,λh=>?_,λh=>?_]
 .have(a,e):=l2 h;let(g,m):=t.1 a;exact#[g,by rw[e,m]]
 .have bk:∀x∈ks,Tb (q+1) x/\x.depth<=D+1:=λx hx=>#[(b x (Qx _ hx)).1.up (QT _),Yk (b x (Qx _ hx)).2];let v:=b k (xn _ (.head _));rcases l3 h with⟨a,e⟩|⟨a,e,z⟩
  .rcases t.2 a with⟨g,m⟩|⟨g,o⟩
   .exact .inl #[g,by rw[e,m]]
   .refine .inr #[g,λx hx=>?_,?_]
    .rcases zv.mp hx with hx|hx
     .rw[e]at hx;exact bk x hx
     .rw[vv.mp hx];exact#[o.b,by let:=o.d;omega]
    .have:=o.z;rw[e,Tm.eI,Tm.eI,Tm.bT,Tm.bT];show _+(_+0)<=2*(_+(_+0))+3;omega
  .have(g,m):=t.1 a;refine .inr #[g,λx hx=>?_,?_]
   .rcases zv.mp hx with hx|hx
    .exact e x hx
    .rw[vv.mp hx,m];exact#[v.1.up (QT _),Yk v.2]
   .rw[m,Tm.eI,Tm.eI,Tm.bT];show _+(_+0)<=2*(_+(_+0))+3;omega
meta def BI(K:cB)(n:Nat):Sp:=λr H Q _=>∃(f d l:AB) (v:V) (g:Tm) (j:List AA) (q:Nat) (c:Int),r=[.ref f,v,.ref d,.ref l]/\cH H f/\Rp K H (enc g) v/\Tb q g/\q<=4/\g.size<=80/\g.depth<n/\H d=U (.Y [.int c])/\d≠f/\H l=U (.Y (j.map V.str))/\l≠f/\l≠d/\1<=⇑j/\⇑j<=100/\(∀x∈j,Wo x) /\
 ∀(o:V) (m:Hp) (e:Tm) (p:Int),dH [d] f H m->m d=U (.Y [.int p])->Rp K m (enc e) o->TR q g e c p->Q o m
structure RI(K:cB) (f lc:AB) (H:Hp) (q D:Nat) (ks:MC Tm) (c0:Int) (i:Nat) (us:MC V) (H':Hp):Prop where
 x:∃js c,dH [lc] f H H'/\H' lc=U (.Y [.int c])/\bS K H' (js.map enc) us/\LR q D (ks.take i) js c0 c
def CU :Nm Zz (af lU):=∅
def CV :aY Zz Zz (af lU):=by ac_rfl
def IA (hj:1<=j)(F:i9 K "_law_many" "_law_many" lU f I)(WI:Ya "_law_within" 1 Zz (kR K) gW wfd)(MA:Ya "_law_many" j Zz (xZ K n) gM mfd)(e:mg "sum"=gV):
  Yf gy (j+1) f I Zz (xZ K (n+1)):=by
 exists F.ok CV
 .have(_,_,rfl,_):=h;rfl
 let(v,d,rfl,hv,wf,B,X,k):=h;refine#[_,(Zd (Zo (Zj dU au (Z2 (Fi rfl) e Xc (Z1 (Zg (af lU) Zz ["_law_inner"] [] (jU[4]! (Z0 WI (Za (va CU 0)))) (λ_ _ _ _=>(X1 ["_law_inner"] 0)) (λ_ _ _ _=>(Z0 MA (Za (Xt ["_law_inner"] 0))))) ak))))),?_]
 right
 right
 ext S H2 o N W Y r2;let l2:=⇑r2;rw[bM]at l2;let hk:=wg d;ext;refine j8 (K:=K) (a:=S) (xs:=o) (λi m p Hd=>(∃x,m=[x])/\aS H2 Hd/\p=((d.ks.take i).map λk=>(k.size:Int)).map V.int) #[#[_,rfl],aS.refl _,rfl] ?_ (QB (bg ())) ?_ ?_ ?_
 .rintro i m p Hd hi ⟨_,_,rfl⟩;rw[bM,bM,I0];omega
 .rintro i m p Hd hi ⟨_,l,_⟩;exact aV.of (l _ _ Y)
 .rintro i x m p Hd hi ⟨⟨x0,rfl⟩,l,rfl⟩;let(y,D,R):=r2.get' hi;rw[EF]at D;let(q,G,rfl):=IF.mp D;let t:i<⇑d.ks:=(eF.mp G).1;let u:d.ks[i]=q:=(eF.mp G).2;let g:q∈d.ks:=by rw[<-u];exact Qz t
  let T:q.size<=900:=by
   let:=ki g
   cases d with
   |mk h ks=>rw[Tm.eG]at B;let:q.size<=Tm.sizes ks:=this;omega
  let gD:q.depth<n:=by
   cases d with
   |mk h ks=>let:=Tm.jy (h:=h) (ks:=ks) g;omega
  let O:=R.Z l;let J:=Wf.kids wf q g;ext H4 M;ext
  .exact l.trans M
  rw[we t,u,i4,i4];rfl
 .rintro m p Hd ⟨_,l,rfl⟩ p9 hp9;let C:=ae hp9 (.Y (((d.ks.take ⇑o).map λk=>(k.size:Int)).map V.int));rw[l2,Ql]at C|-;let h9:upd Hd p9 (.Y ((d.ks.map λk=>(k.size:Int)).map V.int)) p9=U (.Y ((d.ks.map λk=>(k.size:Int)).map V.int)):=aj
  let Z:1+(d.ks.map λk=>(k.size:Int)).sum=(d.size:Int):=by
   let:∀ks:MC Tm,(ks.map λk=>(k.size:Int)).sum=((Tm.sizes ks:Nat):Int):=λks=>by
    induction ks with
    |nil=>rfl
    |cons k r ih=>rw[Qd,List.sum_cons,ih,Tm.bT];omega
   cases d with
   |mk h ks=>rw[Tm.eG];show 1+(ks.map λk=>(k.size:Int)).sum=_;rw[this];omega
  ext;let z:=k _ (N.trans (l.trans C));rw[<-Z]at z;calc z
def fu :Nm YY (af iS):=∅
def yb :aY YY YY (af iS):=by ac_rfl
def Ll (hj:3<=j)(F:i9 K "_law_rebuilt" "_law_rebuilt" iS f t)(WI:Ya "_law_within" 1 Zz (kR K) gW wfd)(an:Ya "_law_other" 3 ZQ (xY K) gO ofd)(ao:Ya "_law_back" 1 ZD (uJ K) gB bfd)(am:Ya "_law_rebuilt" j YY (BI K n) gR rfd):
  Yf gy (j+1) f t YY (BI K (n+1)):=by
 exists F.ok yb
 .have(_,_,_,_,_,_,_,_,rfl,_):=h;rfl
 let(fe,o,lw,v,g,ws,q,c,rfl,hf,rv,tb,hq,hz,hd,Y,T,X,N,O,w1,ap,as,k):=h;refine#[_,(Z5 (Zn (Zj jO (Z7 br (va fu 2)) au) (oY (va fu 2) au set_list)) (Z5 (Zb (Zh bV (Z7 br (va fu 2)) (kY i5 au)) (Zd (Zo (Z0 an (Z1 (va fu 0) (Z1 (va fu 1) (Za (va fu 3)))))))) (Zd (Zo (Z0 ao (Z1 (va fu 1) (Z1 (Zg (af iS) YY ["_law_one"] [0,2,3] (jU[4]! (Z0 WI (Za (va fu 1)))) (λ_ _ _ _=>(X1 Zu 0)) (λ_ _ _ _=>(Z0 am (Z1 (Xt Zu 1) (Z1 (Xt Zu 0) (Z1 (Xt Zu 2) (Za (Xt Zu 3)))))))) ak))))))),?_]
 right
 right
 let a4:aV K H o [.int c]:=aV.of Y;calc kI ?_;intro N1 N2 c1 c2;ext;let h1:upd H o (.Y ([V.int c].set (Int.toNat 0) ((λi j=>V.int (i-j)) c 1))) o=U (.Y [.int (c-1)]):=aj;let D:dH [o] fe H (upd H o (.Y ([V.int c].set (Int.toNat 0) ((λi j=>V.int (i-j)) c 1)))):=(dH.refl hf).upd (.head _) T Y;generalize upd H o (.Y ([V.int c].set (Int.toNat 0) ((λi j=>V.int (i-j)) c 1)))=H1 at h1 D|-;let ah:=D.ff;let ax:=rv.kt D.kt;let ar:=D.gm O N X;refine b8 (λd=>?_) (λd=>?_)
 .have e:c-1=-1:=V.int.inj (of_decide_eq_true d);let a0:g.size<=80:=hz;ext v' H2 u x2 r2 ot;exact k _ _ u (c-1) (D.ext x2) (x2.1 _ _ T h1) r2 #[λh=>absurd h (),λ_=>.inr #[(),ot]]
 let e:c-1≠-1:=λz=>d (decide_eq_true (by show V.int (c-1)=V.int (-1);rw[z]));let wf:=tb.wf;let az:g.size<=900:=()
 ext M H2 I s2 l h2 r2;let l2:=⇑r2;rw[bM]at l2;let hk:=wg g;let f2:=D.Z s2;let al:=s2 _ _ h1
 let J:∀k∈g.ks,Tb q k/\k.depth<g.depth/\k.size<=80:=λx hx=>by
  cases g with
  |mk h ks =>
   let(_,_,_,tk):=tb.inv;exact#[tk x hx,Tm.jy hx,by let:x.size<=Tm.sizes ks:=ki hx;rw[Tm.eG]at hz;omega]
 let S:M≠o:=λz=>by rw[z,h1]at l;cases l
 let R:M≠fe:=λz=>by
  let(_,_,e):=ah;rw[z,e]at l;cases l
 let aq:H M=gV:=D.free l (λz=>S (vv.mp z));ext;refine j8 (K:=K) (a:=M) (xs:=I) (λi G m Hd=>(∃x,G=[x,U (.ref fe),U (.ref o),U (.ref lw)])/\Hd M=U (.Y I)/\Kt H2 Hd/\RI K fe o H q (g.depth-1) g.ks (c-1) i m Hd) #[#[_,rfl],h2,Kt.refl,#[[],c-1,f2,al,.nil,.nil]] ?_ (QB (bg ())) ?_ ?_ ?_
 .rintro i G m Hd hi ⟨_,_,_,⟨B,c',_,_,L,p⟩⟩;rw[⇑L,bM,p.1,I0];omega
 .rintro i G m Hd hi ⟨_,hd,_⟩;exact aV.of hd
 .rintro i x G m Hd hi ⟨⟨x0,rfl⟩,aa,kd,⟨B,c',t,ab,L,p⟩⟩;let(y,hy,ry):=r2.get' hi;rw[EF]at hy;let(kq,W,rfl):=IF.mp hy;let Z:i<⇑g.ks:=(eF.mp W).1;let ac:g.ks[i]=kq:=(eF.mp W).2;let gD:kq∈g.ks:=by rw[<-ac];exact Qz Z
  let(tq,dq,zq):=J kq gD;let av:=ry.kt kd;let a3:kq.depth<n:=()
  let a1:=t.ff;let a2:=t.gm O N X;ext v' H4 u c4 f4 ai r4 tr;ext
  .exact f4.gm S R aa
  refine#[kd.trans f4.kt,#[B++[u],c4,t.trans f4,ai,?_,?_]]
  .rw[i4];exact(L.kt f4.kt).append (.one r4)
  .rw[we Z,ac];refine p.snoc tr λy ag=>?_
   let hm:y∈g.ks:=by
    rcases zv.mp ag with z|z
    .exact Qy z
    .rw[vv]at z;rw[z];exact gD
   let(a,b,_):=J y hm;exact#[a,()]
 .rintro G m Hd ⟨_,aa,kd,⟨B,c',t,ab,L,p⟩⟩ p9 hp9;rw[l2,Ql]at p;let s9:=ae hp9 (.Y m);let h9:upd Hd p9 (.Y m) p9=U (.Y m):=aj;let r:=s9 _ _ ab;let ad:=L.Z s9;generalize upd Hd p9 (.Y m)=H9 at s9 h9 r ad|-;let f9:=t.Z s9
  cases g with
  |mk h ks =>
  let(a,b,cc,dd):=tb.inv;let aw:=rv.kt f9.kt;let lk:⇑B=⇑ks:=p.1;let ay:⇑ks<=900:=by let:⇑ks<(Tm.mk h ks).size:=hk;omega
  ext v' HA sA rA;refine k _ _ (.mk h B) c' (f9.Z sA) (sA _ _ r) rA #[λh0=>?_,λh0=>?_]
  .have(x,y):=p.2.1 ();exact#[x,by rw[y];rfl]
  .rcases p.2.2 ()with⟨x,y⟩|⟨x,y,z⟩
   .exact .inl #[x,by rw[y];rfl]
   .refine .inr #[x,?_,?_,?_]
    .exact .mk (by rw[lk];calc a) b (cc.up (QT _)) λk C=>(y k C).1
    .cases ks with
     |nil =>
      cases B with
      |nil=>calc AR
      |cons _ _=>cases lk
     |cons k0 kr =>
      calc Qq (Tm.yP (n:=(Tm.mk h (k0::kr)).depth-1+1) λk C=>(y k C).2) ?_;rw[Tm.pB];omega
    .rw[Tm.eG,Tm.eG];let z':Tm.sizes B<=2*Tm.sizes ks+3:=z;omega
meta def sV(K:cB):Sp:=λe H Q _=>∃(f:AB) (wd:AA),e=[.ref f,.str wd]/\cH H f/\Wo wd/\∀(v:V) (d:Hp) (k:Kk),Ext f H d->Rp K d (jN k) v->zT k->Q v d
meta def BJ(K:cB):Sp:=λj H Q _=>∃(f:AB) (v:V) (wd:AA) (k:AA×MC (AA×MC Kk)),j=[.ref f,v,.str wd]/\cH H f/\Rp K H (fP k) v/\CQ k/\Wo wd/\∀(e:V) (d:Hp) (g:AA×MC (AA×MC Kk)),Ext f H d->Rp K d (fP g) e->CQ g->Q e d
def bS.Ln (r:bS K H xs us)(d:Rp K H x u)(i:Nat):bS K H (xs.take i++[x]++xs.drop (i+1)) (us.take i++[u]++us.drop (i+1)):=((r.take i).snoc d).append (r.drop (i+1))
def fb :Nm ZR (af gX):=∅
def jR :Lm ZR (af gX):=∅
def iM :aY ZR ZU (af gX):=by ac_rfl
def Fj (F:i9 K "_law_other_kind" "_law_other_kind" gX f fd)(TK:Ya "_law_take" 1 YO cg gT tfd)(z_range:mg "range"=gV):Yf gy 2 f fd ZU (sV K):=by
 exists F.ok iM
 .have(_,_,rfl,_):=h;rfl
 let(v,wd,rfl,hf,al,k):=h;refine#[_,(Z5 (Z4 iM.nd jR 2 (Zi (aZ[4]! (Z1 (Ze (Z1 aC (Za (va fb 1)))) (Z1 (Ze (Z1 aC (Z1 (Zi (aZ[4]! (Z1 au (Z1 au (cU au (Za au))))) (Z0 TK (cU (va fb 0) (Za au)))) ak))) (Za aC)))) (Z0 TK (cU (va fb 0) (Za au))))) (Z5 (Zl QU (Zr (Z1 (Z0 TK (cU (va fb 0) (Za au))) ak)) (ga iM.nd jR 3) (Zd (Z4 iM.nd jR 2 (Ze (Z1 aC (Za (va fb 2))))))) (Zd (eX (va fb 2))))),?_]
 right
 right
 ext;calc nw λp1 H1 I B av=>?_;let r1:Rp K H1 (jN (.kd wd)) (.ref p1):=Rp.nw (K:=K) (xs:=[.s "kind",.s wd]) B I (.cons .s (.one .s));ext;calc nw λl2 H2 W h2 an=>?_;let n2:=bj (hf.Z I) an;let ag:=r1.Z W;let ap:=hf.Z (I.trans W);let S:Ext v H H2:=(Ext.refl hf).Z (I.trans W);ext r3 H3 ab aa O;let h3:aV K H3 l2 [.int 2,.int 7,.int 90,.int 50]:=aV.of (O.1 _ _ n2 h2);let(z,hz,r):=mE (xs:=[V.int 2,.int 7,.int 90,.int 50]) (k:=r3) ab aa
 obtain⟨n,rfl⟩:∃n:Int,z=.int n:=by
  simp only[P1,Qo,or_false]at r;rcases r with rfl|rfl|rfl|rfl
  .exact#[_,rfl]
  .exact#[_,rfl]
  .exact#[_,rfl]
  .exact#[_,rfl]
 let l:=S.trans O;let af:=ag.kt (O.kt ap);ext;calc nw λp4 H4 G y as=>?_;let r4:Rp K H4 (jN (.op n)) (.ref p4):=Rp.nw (K:=K) (xs:=[.s "open",.i n]) y G (.cons .s (.one .i));let ad:=af.Z G;ext;calc nw λl5 H5 gD h5 am=>?_;let g:Ext v H H5:=(l.Z G).Z gD;let n5:l5≠v:=bj (l.Z G).2 am;let ac:=ad.Z gD;let Z:=r4.Z gD;let u:=g.2;ext J H6 ar aq C;let h6:aV K H6 l5 [.ref p1,.ref p4,.str "num"]:=aV.of (C.1 _ _ n5 h5);let e:=g.trans C;let ao:=e.2
 obtain⟨D,q,a6,Y,ah,ai⟩:∃D q,fM [V.ref p1,V.ref p4,V.str "num"] J=U D/\Rp K H6 (jN q) D/\zT q/\q.dep=0:=by
  rcases(show J=0\/J=1\/J=2 by omega)with rfl|rfl|rfl
  .exact#[_,.kd wd,aG (j:=0) rfl,ac.kt (C.kt u),#[λx t=>Kk.kd.inj t▸al,Qc _],rfl]
  .exact#[_,.op n,aG (j:=1) rfl,Z.kt (C.kt u),#[(λx t=>nomatch t),Qc _],rfl]
  .exact#[_,.num,aG (j:=2) rfl,.s,#[(λx t=>nomatch t),Qc _],rfl]
 ext m H7 m0 m1 x7;let R:=e.trans x7;let X:=Y.kt (x7.kt ao);ext;refine iw (n:=m.toNat) (λi M L=>∃o d o3,M=[U (.ref v),U (.str wd),U o,o3]/\(Ext v H L/\Rp K L (jN d) o/\(∀x,d.core=.kd x->Wo x)/\d.dep=i)) #[D,q,_,rfl,R,X,ah.1,ai] ?_ ?_
 .rintro i M L hi ⟨o,d,_,rfl,N,r8,T,d8⟩;ext p hp;let s9:=ae hp (.J [.str "row",o]);exact#[_,.row d,_,rfl,N.Z s9,Rp.new (K:=K) hp (.cons .s (.one r8)),T,congrArg (·+1) d8]
 .rintro M L ⟨o,d,_,rfl,N,r8,T,d8⟩;ext;calc k _ _ d N r8 #[T,()]
def aD :Nm YX (af cu):=∅
def bO :Lm YX (af cu):=∅
def bF :aY YX Y9 (af cu):=by ac_rfl
def Lp (hr:dZ 2 (A.deeper (Qj "_law_other_kind_row" (af cu) s⁻¹ f cdv))){D:L2.Ends}{H:Hp}{fe:AB}{at_:Nat}{o1 o2 o7 o8:AF V}{nm t':AA}{ta ia:AB}{ts:MC (AA×MC Kk)}{ks:MC Kk}(hf:cH H fe)(rt:Rp K H (.t (ts.map j4)) (.ref ta))(ri:Rp K H (.t (ks.map jN)) (.ref ia))(ha:at_<⇑ts)(h3:⇑ts<=3)(hi:∀t∈ts,⇑t.2<=2)(hk:⇑ks<=2)(wnm:Wo nm)(wt:Wo t')(wks:∀c∈ks,zT c)(wts:∀t∈ts,Wo t.1/\∀c∈t.2,zT c)(k:∀(L:V) (J:Hp) (R:AA×MC (AA×MC Kk)),Ext fe H J->Rp K J (fP R) L->CQ R->D.rt L J):
  jA (Zk gy YX "_law_other_kind_row" (af cu) H1).oS ((bE cu).drop 6) D [U (.ref fe),o1,o2,U (.str nm),U (.ref ta),U (.int at_),U (.str t'),U (.ref ia),o7,o8] H:=by
 refine eY ((Zd (Zo (Ze (Z1 (va aD 3) (Z1 (Zj di (Zj di (Zq er (va aD 4) bW (bL (va aD 5))) (Ze (Z1 (Ze (Z1 (va aD 6) (Za (va aD 7)))) ak))) (Zq er (va aD 4) (bL[3]! (bX dU (va aD 5) au)) bW)) ak)))))) ?_
 right
 right
 let(_,d,e,u,g):=rt.aT
 cases e
 let I:=⇑g;rw[bM]at I;ext p2 H2 q S;rw[dm]at S;let C:=ri.Z q;ext;calc nw λr H3 z p Y=>?_;let r3:Rp K H3 (j4 (t',ks)) (.ref r):=Rp.nw (K:=K) (xs:=[.s t',.t (ks.map jN)]) p z (.cons .s (.one C));ext;calc nw λW H4 y o X=>?_;let h4:b9 K H4 W [.ref r]:=b9.of o;let G:=r3.Z y;let ab:=(S.Z z).Z y;let l4:⇑(d.take at_)+[V.ref r].length<=my:=small (by rw[I0];show _+1<=_;omega);ext p5 H5 O h5;let l:=(z.trans y).trans O;let M:=(u.Z q).Z l;let ec:gx d (U ((at_:Int)+1)) gV=d.drop (at_+1):=by rw[show(at_:Int)+1=((at_+1:Nat):Int) by omega,iA]
 ext p6 H6 v h6;rw[ec]at h6;let aa:=h5.Z v;let l6:⇑(d.take at_++[V.ref r])+⇑(d.drop (at_+1))<=my:=small (by rw[mu,I0,QF];show _+1+_<=_;omega);ext Q H7 N Z;let j:=(l.trans v).trans N
 let gD:Rp K H7 (.t ((ts.take at_++[(t',ks)]++ts.drop (at_+1)).map j4)) (.ref Q):=by
  calc Rp.t Z ?_;let:=bS.Ln ((g.Z q).Z j) (G.Z ((O.trans v).trans N)) at_;rw[i4,i4,RK,Tt];exact this
 ext p8 m;let T:=ae m (.J [.str nm,.ref Q]);let B:=(q.trans j).trans T;refine k _ _ (nm,ts.take at_++[(t',ks)]++ts.drop (at_+1)) ((Ext.refl hf).Z B) (Rp.new (K:=K) (xs:=[.s nm,.t ((ts.take at_++[(t',ks)]++ts.drop (at_+1)).map j4)]) m (.cons .s (.one gD))) #[?_,?_,?_,wnm,?_]
 .show 1<=⇑(ts.take at_++[(t',ks)]++ts.drop (at_+1));rw[mu,mu];show 1<=_+1+_;omega
 .show(ts.take at_++[(t',ks)]++ts.drop (at_+1)).length<=3;rw[mu,mu,I0,QF];show _+1+_<=3;omega
 .intro t ht;rcases zv.mp ht with ht|ht
  .rcases zv.mp ht with ht|ht
   .exact hi t (Qy ht)
   .rw[vv.mp ht];exact hk
  .exact hi t (Q7 ht)
 .intro t ht;rcases zv.mp ht with ht|ht
  .rcases zv.mp ht with ht|ht
   .exact wts t (Qy ht)
   .rw[vv.mp ht];exact#[wt,wks]
  .exact wts t (Q7 ht)
def Fo (F:i9 K "_law_other_kind_row" "_law_other_kind_row" cu f fd)(TK:Ya "_law_take" 1 YO cg gT tfd)(Z:Ya "_law_other_kind" 2 ZU (sV K) gO ofd)(o:mg "len"=gV):Yf gy 3 f fd Y9 (BJ K):=by
 exists F.ok bF
 .have(_,_,_,_,rfl,_):=h;rfl
 let(fe,v,wd,kd,rfl,u,r,(am,R,C,al,d),T,k):=h;refine#[_,(Z5 (Zn (va aD 1) (Zc (Zf (ga bF.nd bO 3) (Zt (ga bF.nd bO 4))))) (Z5 (Z4 bF.nd bO 5 (Z0 TK (Z1 (va aD 0) (Z1 (Z2 aN o Qh (Za (va aD 4))) ak)))) (Z5 (Zn (fQ aJ (va aD 4) (va aD 5) (λ_ _=>rfl)) (Zc (Zf (ga bF.nd bO 6) (Zt (ga bF.nd bO 7))))) (Z5 (Z4 bF.nd bO 8 (Z0 TK (cU (va aD 0) (Za au)))) (Z5 (Zb (Zp bV (va aD 8) au) (Zd (Zo (Ze (Z1 (va aD 2) (Za (va aD 4))))))) (Z5 (lN[8]! (Zp bV (va aD 8) au) (Zd (sa bF.nd bO 6 (va aD 2))) (Zd (lN[8]! (Zh lQ (Z2 aN o Qh (Za (va aD 7))) au) (Zd (Z4 bF.nd bO 7 (Zj di (va aD 7) (Ze (Z1 (Z0 Z (Z1 (va aD 0) (Za (va aD 2)))) ak))))) (Z5 (Z4 bF.nd bO 9 (Z0 TK (cU (va aD 0) (Za au)))) (Zd (Z4 bF.nd bO 7 (Zj di (Zj di (Zq er (va aD 7) bW (bL (va aD 9))) (Ze (Z1 (Z0 Z (Z1 (va aD 0) (Za (va aD 2)))) ak))) (Zq er (va aD 7) (bL[3]! (bX dU (va aD 9) au)) bW)))))))) cZ)))))),?_]
 right
 right
 let(ka,w1,w2,rfl,a7,g1,g2):=(show Rp K H (.t [.s kd.1,.t (kd.2.map j4)]) v from r).t2;obtain rfl:=g1.aP;let(ta,us,rfl,ac,M):=id g2.aT;let ah:=⇑M;rw[bM]at ah;let l0:(0:Int)<(⇑us:Int):=()
 let l1:(⇑us:Int)<1073741824:=()
 calc ql ?_;intro N1 N2 N3 N4 N5 N6 c1 c2 c3 c4 c5 c6;ext r2 H2 a5 a4 I;obtain⟨l,be,rfl⟩:∃q:Nat,q<⇑us/\r2=q:=#[r2.toNat,(),()];let k2:=I.kt u;let as:=ac.kt k2;let p:l<⇑kd.2:=()
 let(tv,an,O):=M.get (i:=l) (x:=j4 kd.2[l]) (by rw[EF,pC p];rfl);let e:kd.2[l]∈kd.2:=Qz p;generalize kd.2[l]=tg at O e;let av:fM us (l:Int)=U tv:=aG an;let(ga,u1,u2,rfl,ar,q1,q2):=(show Rp K H (.t [.s tg.1,.t (tg.2.map jN)]) tv from O).t2;obtain rfl:=q1.aP;let(ia,j,rfl,B,D):=id q2.aT;let ai:=⇑D;rw[bM]at ai;let ad:=C tg e;let a0:=ar.kt k2;let bc:=I.2;let a3:=g2.kt k2
 let fin:∀{H':Hp}{t':AA}{ia:AB}{ks:MC Kk}{o8 o9:AF V},Ext fe H H'->Rp K H' (.t (ks.map jN)) (.ref ia)->⇑ks<=2->Wo t'->(∀c∈ks,zT c)->N6 [U (.ref fe),U (.ref ka),U (.str wd),U (.str kd.1),U (.ref ta),U (.int l),U (.str t'),U (.ref ia),o8,o9] H':=λ{H' t' ia ks o8 o9} x' ri hk wt wks=>by
  calc Cut.go c6 ?_;exact Lp hr x'.2 (g2.kt (x'.kt u)) ri p R C hk al wt wks d λv' H2 k' I r2 b2=>k v' H2 k' (x'.trans I) r2 b2
 clear c6;ext fm H3 bi bh x3;let g:=I.trans x3;let bb:=x3.2;let i3:=q2.kt (g.kt u);let az:=B.kt (g.kt u);ext;refine b8 (λc=>?_) (λc=>?_)
 .ext;intro p4 gD;let s4:=ae gD (.J [.str wd,.ref ta]);exact k _ _ (wd,kd.2) (g.Z s4) (Rp.new (K:=K) (xs:=[.s wd,.t (kd.2.map j4)]) gD (.cons .s (.one (g2.kt (g.kt u))))) #[am,R,C,T,d]
 ext;refine b8 (λc=>?_) (λc=>?_)
 .ext;exact fin g i3 ad T (d tg e).2
 ext;refine b8 (λc=>?_) (λc=>?_)
 .have c':(⇑j:Int)<2:=of_decide_eq_true c;ext v4 H4 k4 x4 r4 w4;let m:=g.trans x4;ext;calc nw λp5 H5 G Y ba=>?_;let h5:b9 K H5 p5 [v4]:=b9.of Y;let ax:=(B.kt (m.kt u)).Z G;let S:=(D.kt (m.kt u)).Z G;let ag:=r4.Z G;let y:=m.Z G;let l5:⇑j+[v4].length<=my:=small (by show _+1<=_;omega);ext p6 H6 s6 h6;calc fin (ks:=tg.2++[k4]) (y.Z s6) ?_ (by rw[mu];show _+1<=2;omega) (d tg e).1 (λc W=>(zv.mp W).elim ((d tg e).2 c) (λz=>by rw[vv.mp z];calc w4));rw[i4];exact Rp.t h6 ((S.Z s6).snoc (ag.Z s6))
 .ext;intro r4 H4 a2 a1 x4;obtain⟨sp,a8,rfl⟩:∃q:Nat,q<2/\r4=q:=#[r4.toNat,(),()];let m:=g.trans x4;let ay:=B.kt (m.kt u);ext p5 H5 G h5;rw[dm]at h5;let y:=m.Z G;let ao:=y.2;ext v6 H6 k6 x6 r6 w6;let ab:=y.trans x6;let ap:=h5.kt (x6.kt ao);ext;calc nw λp7 H7 s7 X a9=>?_;let h7:b9 K H7 p7 [v6]:=b9.of X;let bg:=ap.Z s7;let af:=r6.Z s7;let aa:=ab.Z s7;let l7:⇑(j.take sp)+[v6].length<=my:=small (by rw[I0];show _+1<=_;omega);ext p8 H8 s8 h8;let L:=aa.Z s8;let aw:=B.kt (L.kt u);let ec:gx j (U ((sp:Int)+1)) gV=j.drop (sp+1):=by rw[show(sp:Int)+1=((sp+1:Nat):Int) by omega,iA]
  ext p9 H9 s9 h9;rw[ec]at h9;let bf:=h8.Z s9;let l9:⇑(j.take sp++[v6])+⇑(j.drop (sp+1))<=my:=small (by rw[mu,I0,QF];show _+1+_<=_;omega);ext a6 bj N aq;let J:=(L.Z s9).Z N;calc fin (ks:=tg.2.take sp++[k6]++tg.2.drop (sp+1)) J ?_ (by rw[mu,mu,I0,QF];show _+1+_<=2;omega) (d tg e).1 (λc W=>(zv.mp W).elim (λW=>(zv.mp W).elim (λh=>(d tg e).2 c (Qy h)) (λz=>by rw[vv.mp z];calc w6)) (λh=>(d tg e).2 c (Q7 h)));rw[i4,i4,RK,Tt];calc Rp.t aq (bS.Ln (D.kt (J.kt u)) (af.Z ((s8.trans s9).trans N)) sp)
meta def BK(K:cB):Sp:=λl H Q _=>∃(f:AB) (v:V) (wd:AA) (d:Df),l=[.ref f,v,.str wd]/\cH H f/\Rp K H (iC d) v/\⇑d.2.1<=3/\Wo wd/\EU d/\∀(j:V) (g:Hp) (e:Df),Ext f H g->Rp K g (iC e) j->e.2.2=d.2.2->⇑e.2.1<=3->EU e->Q j g
meta def D9(Q:VK)(wd:AA)(e:AB)(d:V)(H:Hp):Prop:=∀p,H p=gV->Q (.ref p) (upd H p (.J [.str wd,.ref e,d]))
def aR :Nm YW (af dY):=∅
def cX :Lm YW (af dY):=∅
def cK :aY YW Y9 (af dY):=by ac_rfl
def IB (TK:Ya "_law_take" 1 YO cg gT tfd)(aw:Ya "_law_other_kind" 2 ZU (sV K) gO ofd)(u:mg "len"=gV)(v:mg "int"=gV)(hr:dZ 2 (A.deeper (Qj "_law_other_head" (af dY) s⁻¹ f cdv))){D:L2.Ends}{H:Hp}{fe pa:AB}{fm:Int}{o1 o7 o8 o9 o10:AF V}{wd:AA}{tv:V}{d:Df}(hf:cH H fe)(rp:Rp K H (.t (d.2.1.map uR)) (.ref pa))(rt:Rp K H (enc d.2.2) tv)(l1:0<⇑d.2.1)(l3:⇑d.2.1<=3)(hwd:Wo wd)(dw:EU d)(k:∀(v':V) (H':Hp) (d':Df),Ext fe H H'->Rp K H' (iC d') v'->d'.2.2=d.2.2->⇑d'.2.1<=3->EU d'->D.rt v' H'):
  jA (Zk gy YW "_law_other_head" (af dY) H1).oS ((bE dY).drop 3) D [U (.ref fe),o1,U (.str wd),U (.str d.1),U (.ref pa),U tv,U (.int fm),o7,o8,o9,o10] H:=by
 refine eY ((Z5 (Z4 cK.nd cX 7 (Z0 TK (Z1 (va aR 0) (Z1 (Z2 aN u Qh (Za (va aR 4))) ak)))) (Z5 (Zn (fQ aJ (va aR 4) (va aR 7) (λ_ _=>rfl)) (Zc (Zf (ga cK.nd cX 8) (Zt (ga cK.nd cX 9))))) (Z5 (Z4 cK.nd cX 10 (Zi (aZ[4]! (Z1 (Ze (Z1 (va aR 2) (Za (va aR 9)))) (Z1 (Ze (Z1 (va aR 8) (Z1 (Z0 aw (Z1 (va aR 0) (Za (va aR 2)))) ak))) ak))) (Z6 iy v Rc (Z1 (jC pS (va aR 6) au (mh _)) ak)))) (Zd (Zo (Ze (Z1 (va aR 3) (Z1 (Zj di (Zj di (Zq er (va aR 4) bW (bL (va aR 7))) (Ze (Za (va aR 10)))) (Zq er (va aR 4) (bL[3]! (bX dU (va aR 7) au)) bW)) (Za (va aR 5))))))))))) ?_
 right
 right
 let(_,l,e,Q,C):=id rp.aT
 cases e
 let an:=⇑C;rw[bM]at an;let l0:(0:Int)<(⇑l:Int):=()
 let lb:(⇑l:Int)<1073741824:=()
 ext r2 H2 a3 a2 X;obtain⟨g,bc,rfl⟩:∃q:Nat,q<⇑l/\r2=q:=#[r2.toNat,(),()];let k2:=X.kt hf;let az:=Q.kt k2;let p:g<⇑d.2.1:=()
 let(xv,ao,N):=C.get (i:=g) (x:=uR d.2.1[g]) (by rw[EF,pC p];rfl);let B:=dw.2 d.2.1[g] (Qz p);generalize d.2.1[g]=pp at N B;let av:fM l (g:Int)=U xv:=aG ao;let(ga,u1,u2,rfl,as,q1,q2):=(show Rp K H (.t [.s pp.1,jN pp.2]) xv from N).t2;obtain rfl:=q1.aP;let a1:=as.kt k2;let am:=q2.kt k2;let bb:=X.2;ext;calc nw λp3 H3 s3 gD a9=>?_;let r3:Rp K H3 (uR (wd,pp.2)) (.ref p3):=Rp.nw (K:=K) (xs:=[.s wd,jN pp.2]) gD s3 (.cons .s (.one am));let J:=X.Z s3;let ap:=J.2;ext v4 H4 k4 x4 r4 w4;let ai:=r3.kt (x4.kt ap);let Y:=J.trans x4;ext;calc nw λp5 H5 s5 T a8=>?_;let r5:Rp K H5 (uR (pp.1,k4)) (.ref p5):=Rp.nw (K:=K) (xs:=[.s pp.1,jN k4]) T s5 (.cons .s (.one r4));let ah:=ai.Z s5;ext;calc nw λl6 H6 s6 W ba=>?_;let h6:aV K H6 l6 [.ref p3,.ref p5]:=aV.of W;let ad:=r5.Z s6;let ag:=ah.Z s6;let I:=(Y.Z s5).Z s6
 obtain⟨G,r,bf,ac,Z⟩:∃G r,fM [V.ref p3,V.ref p5] (if decide (fm>1)=AD then 1 else 0)=U (.ref G)/\Rp K H6 (uR r) (.ref G)/\Wo r.1/\zT r.2:=by
  by_cases c:fm>1
  .rw[if_pos (decide_eq_true c)];exact#[_,_,aG (j:=1) rfl,ad,B.1,w4]
  .rw[if_neg (by rw[decide_eq_false c];calc Qf)];exact#[_,_,aG (j:=0) rfl,ag,hwd,B.2]
 ext;calc .inr #[_,rfl,?_];let O:=Q.kt (I.kt hf);ext p7 H7 s7 h7;rw[dm]at h7;ext;calc nw λp8 H8 s8 S a7=>?_;let h8:b9 K H8 p8 [.ref G]:=b9.of S;let be:=h7.Z s8;let l8:⇑(l.take g)+[V.ref G].length<=my:=small (by rw[I0];show _+1<=_;omega);ext p9 H9 s9 h9;let L:=(s7.trans s8).trans s9;let ay:=O.Z L;let ec:gx l (U ((g:Int)+1)) gV=l.drop (g+1):=by rw[show(g:Int)+1=((g+1:Nat):Int) by omega,iA]
 ext a5 bg M ar;rw[ec]at ar;let a0:=h9.Z M;let a6:⇑(l.take g++[V.ref G])+⇑(l.drop (g+1))<=my:=small (by rw[mu,I0,QF];show _+1+_<=_;omega);ext R ax ab aq;let m:=(L.trans M).trans ab;let y:=I.Z m
 let al:Rp K ax (.t ((d.2.1.take g++[r]++d.2.1.drop (g+1)).map uR)) (.ref R):=by
  calc Rp.t aq ?_;rw[i4,i4,RK,Tt];exact bS.Ln (C.kt (y.kt hf)) (ac.Z m) g
 ext a4 o;let aa:=ae o (.J [.str d.1,.ref R,tv]);calc k _ _ (d.1,d.2.1.take g++[r]++d.2.1.drop (g+1),d.2.2) (y.Z aa) (Rp.new (K:=K) (xs:=[.s d.1,.t ((d.2.1.take g++[r]++d.2.1.drop (g+1)).map uR),enc d.2.2]) o (.cons .s (.cons al (.one (rt.kt (y.kt hf)))))) rfl ?_ #[dw.1,λq hq=>(zv.mp hq).elim (λhq=>(zv.mp hq).elim (λh=>dw.2 q (Qy h)) (λz=>by rw[vv.mp z];calc Z)) (λh=>dw.2 q (Q7 h))];show(d.2.1.take g++[r]++d.2.1.drop (g+1)).length<=3;rw[mu,mu,I0,QF];show _+1+_<=3;omega
def Fp (F:i9 K "_law_other_head" "_law_other_head" dY f N)(T:Ya "_law_take" 1 YO cg gT tfd)(I:Ya "_law_other_kind" 2 ZU (sV K) gO ofd)(e:mg "len"=gV)(g:mg "int"=gV):Yf gy 3 f N Y9 (BK K):=by
 exists F.ok cK
 .have(_,_,_,_,rfl,_):=h;rfl
 let(fe,v,wd,d,rfl,hf,r,l3,m,O,k):=h;refine#[_,(Z5 (Zn (va aR 1) (@jd _ _ _ _ _ (3) K rfl rfl (Zf (ga cK.nd cX 3) (Zf (ga cK.nd cX 4) (Zt (ga cK.nd cX 5)))) (by rfl) (by rfl))) (Z5 (Z4 cK.nd cX 6 (Z0 T (cU (va aR 0) (Za au)))) (Z5 (Zb (PW.pt (rO[7]! (Zp bV (va aR 6) au) (qN[4]! (Zh bV (Z2 aN e Qh (Za (va aR 4))) au)))) (Zd (Zo (Ze (Z1 (va aR 2) (Z1 (va aR 4) (Za (va aR 5)))))))) cZ))),?_]
 right
 right
 let(da,w1,w2,q,rfl,ac,g1,G,M):=(show Rp K H (.t [.s d.1,.t (d.2.1.map uR),enc d.2.2]) v from r).t3;obtain rfl:=g1.aP;let(C,u,rfl,y,B):=id G.aT;let D:=⇑B;rw[bM]at D;calc qj ?_;intro N1 N2 N3 c1 c2 R;ext fm gD ab aa o;let l:=o.kt hf;let J:=y.kt l
 let j:D9 Q wd C q gD:=λp L=>by
  let s4:=ae L (.J [.str wd,.ref C,q]);exact k _ _ (wd,d.2) (o.Z s4) (Rp.new (K:=K) (xs:=[.s wd,.t (d.2.1.map uR),enc d.2.2]) L (.cons .s (.cons (G.kt l) (.one (M.kt l))))) rfl l3 #[m,O.2]
 let rest:0<⇑d.2.1->N3 [U (.ref fe),U (.ref da),U (.str wd),U (.str d.1),U (.ref C),U q,U (.int fm),gV,gV,gV,gV] gD:=λl1=>Cut.go R (IB T I e g hr o.2 (G.kt l) (M.kt l) l1 l3 m O λZ H' d' W r' e' l' X=>k Z H' d' (o.trans W) r' e' l' X);clear R;ext;refine b8 (λc=>?_) (λc=>?_)
 .ext;exact j
 ext
 by_cases S:⇑u=0
 .rw[show decide (V.int (⇑u:Int)=V.int 0)=AD by rw[S];rfl];ext;exact j
 .rw[show decide (V.int (⇑u:Int)=V.int 0)=AE from decide_eq_false λz=>S (by let:=V.int.inj z;omega)];ext;calc rest ()
theorem bS.Lq :∀{xs:MC T}{us:MC V}(_:bS K H xs us) (_:Rp K H x u) (i:Nat),bS K H (xs.set i x) (us.set i u)
 | [],us,r,_,_=>by rw[r.gz];calc .nil
 |y::r,us,h,ru,i=>by
  let(v,d,rfl,g,h):=h.inv
  cases i with
  |zero=>calc .cons ru h
  |succ i=>calc .cons g (bS.Lq h ru i)
def aH :Nm YU (af fR):=∅
def fz :Lm YU (af fR):=∅
def dJ :aY YU ZL (af fR):=by ac_rfl
structure Pq(q:Nat) (kl:Kl) (dl:MC Df):Prop where
 b:Lg 40 (6+q) kl dl
 t:∀d∈dl,Tb q d.2.2
def Lr (d:mg "tuple"=gV){j:Nat}(hr:dZ j (A.deeper (Qj "_law_changed" (af fR) s⁻¹ f cdv))){D:L2.Ends}{H:Hp}{lk ld:AB}{o0 o1 o2 o5 o6 o7 o8 o9 o10 o11 o12:AF V}{kl:Kl}{dl:MC Df}{kvs dvs:MC V}(hk:H lk=U (.Y kvs))(hd:H ld=U (.Y dvs))(rk:bS K H (kl.map fP) kvs)(rd0:bS K H (dl.map iC) dvs)(k:∀(v:V) (u:Hp),aS H u->Rp K u (.t [.t (kl.map fP),.t (dl.map iC)]) v->D.rt v u):
  jA (Zk gy YU "_law_changed" (af fR) C).oS ((bE fR).drop 7) D [o0,o1,o2,U (.ref lk),U (.ref ld),o5,o6,o7,o8,o9,o10,o11,o12] H:=by
 refine eY ((Zd (Zo (Ze (Z1 (Z6 bh d Qg (Za (va aH 3))) (Z1 (Z6 bh d Qg (Za (va aH 4))) ak)))))) ?_
 right
 right
 ext;calc .inl #[aV.of hk,λz o=>?_];let q:=ae o (.J kvs);let r2:=Rp.new (K:=K) o rk;let p:=q _ _ hd;let e:=rd0.Z q;generalize upd H z (.J kvs)=H2 at q r2 p e|-;ext;calc .inl #[aV.of p,λy m=>?_];let r:=ae m (.J dvs);let r3:=Rp.new (K:=K) m e;let g:=r2.Z r;generalize upd H2 y (.J dvs)=H3 at r r3 g|-;ext G l;let B:=ae l (.J [.ref z,.ref y]);calc k _ _ ((q.trans r).trans B) (Rp.new (K:=K) (xs:=[.t (kl.map fP),.t (dl.map iC)]) l (.cons g (.one r3)))
meta def rL(K:cB):Sp:=λr H Q _=>∃(f j:AB) (v:V) (o:Kl) (p:MC Df) (g:List AA) (q:Nat),r=[.ref f,v,.ref j]/\cH H f/\Rp K H (.t [.t (o.map fP),.t (p.map iC)]) v/\Pq q o p/\q<=2/\H j=U (.Y (g.map V.str))/\j≠f/\1<=⇑g/\⇑g<=100/\(∀x∈g,Wo x) /\
 ∀(m:V) (l:Hp) (d:Kl) (e:MC Df),Ext f H l->Rp K l (.t [.t (d.map fP),.t (e.map iC)]) m->Pq (q+1) d e->Q m l
def AS (hn:9<n)(h1:3<=j)(hm:jm<=j)(F:i9 K "_law_changed" "_law_changed" fR f fd)(TK:Ya "_law_take" 1 YO cg gT tfd)(cv:Ya "_law_rebuilt" j YY (BI K n) gB bfd)(MA:Ya "_law_many" jm Zz (xZ K n) gM mfd)(cw:Ya "_law_other_kind_row" 3 Y9 (BJ K) gR rfd)(cx:Ya "_law_other_head" 3 Y9 (BK K) gH hfd)(D:mg "len"=gV)(S:mg "list"=gV)(Y:mg "tuple"=gV):Yf gy (j+1) f fd ZL (rL K):=by
 exists F.ok dJ
 .have(_,_,_,_,_,_,_,rfl,_):=h;rfl
 let(X,lw,v,kl,dl,ws,q,rfl,T,r,pq,hq,cj,a1,w1,cz,bv,k):=h;let I:=pq.b;refine#[_,(Z5 (@zW _ _ (3) (4) _ _ _ _ _ _ _ _ _ _ _ rfl dJ.nd rfl rfl ∅ rfl rfl (Z1 (Z6 jW S Sy (Z1 (Z7 aJ (va aH 1)) ak)) (Z1 (Z6 jW S Sy (Z1 (Z7 aJ (va aH 1)) ak)) ak)) (by rfl) (by rfl)) (Z5 (Z4 dJ.nd fz 5 (Zi (va aH 2) (Z0 TK (Z1 (va aH 0) (Z1 (Z2 aN D Qh (Za (va aH 2))) ak))))) (Z5 (Z4 dJ.nd fz 6 (Z0 TK (cU (va aH 0) (Za au)))) (Z5 (Z4 dJ.nd fz 7 (Z0 TK (Z1 (va aH 0) (Z1 (Z2 aN D Qh (Za (va aH 4))) ak)))) (Z5 (Zn (fQ br (va aH 4) (va aH 7) (λ_ _=>rfl)) (@jd _ _ _ _ _ (3) K rfl rfl (Zf (ga dJ.nd fz 8) (Zf (ga dJ.nd fz 9) (Zt (ga dJ.nd fz 10)))) (by rfl) (by rfl))) (Z5 (Z4 dJ.nd fz 11 (Z0 cv (Z1 (va aH 0) (Z1 (va aH 10) (Z1 (aZ[4]! (Z1 (Z0 TK (Z1 (va aH 0) (Z1 (Z0 MA (Za (va aH 10))) ak))) ak)) (Za (va aH 2))))))) (Z5 (lN[8]! (PW.pt (iY[7]! (Zp lQ (va aH 6) au) (iu[4]! (Zh pS (Z2 aN D Qh (Za (va aH 3))) au)))) (Z5 (Z4 dJ.nd fz 12 (Z0 TK (Z1 (va aH 0) (Z1 (Z2 aN D Qh (Za (va aH 3))) ak)))) (Zd (Zn (Z0 cw (Z1 (va aH 0) (Z1 (fQ br (va aH 3) (va aH 12) (λ_ _=>rfl)) (Za (va aH 5))))) (oY (va aH 3) (va aH 12) set_list)))) (Zd (lN[8]! (Zp lQ (va aH 6) au) (Zd (Zn (Z0 cx (Z1 (va aH 0) (Z1 (fQ br (va aH 4) (va aH 7) (λ_ _=>rfl)) (Za (va aH 5))))) (oY (va aH 4) (va aH 7) set_list))) (Zd (Zb (Zh lQ (Z0 MA (Za (va aH 11))) au) (Zd (Zn (Ze (Z1 (va aH 8) (Z1 (va aH 9) (Za (va aH 11))))) (oY (va aH 4) (va aH 7) set_list)))))))) cZ))))))),?_]
 right
 right
 let(pa,u1,u2,rfl,b5,g1,g2):=r.t2;let(ka,g,rfl,ce,gD):=g1.aT;let(da,m,rfl,cu,ac):=g2.aT;let lk:=⇑gD;rw[bM]at lk;let ld:=⇑ac;rw[bM]at ld;calc ql ?_;intro N1 N2 N3 N4 N5 N6 c1 c2 c3 c4 c5 c6
 let n1:∀{i:Nat},i<⇑g->wK ⇑g (i:Int)=U i:=λ{i} h=>by
  unfold wK;simp;omega
 let ep:mW K AD H ka g:=ce;ext;calc nw λy H2 s2 bn ao=>?_;let c0:=b5.Z s2;let dg:=cu.Z s2;let M:=bj T ao;ext;calc nw λp H3 s3 bm Z=>?_;let bl:=s3 _ _ bn;let N:=bj (T.Z s2) Z;let a6:y≠p:=ay bn Z;let az:=s2.trans s3;let en:=T.Z az;let an:=az _ _ cj;let c9:(0:Int)<(⇑(ws.map V.str):Int):=by rw[bM];omega
 let c8:(⇑(ws.map V.str):Int)<1073741824:=by rw[bM];omega
 ext r4 H4 b1 b0 x4;let df:=x4.1 _ _ a1 an;let(v4,ef,ci):=mE (xs:=ws.map V.str) b1 b0;let(wd,ch,rfl):=Qa.mp ci;let dc:=bv wd ch;let em:=x4.2;ext fm H5 eu et x5;let aq:=x4.trans x5;let es:=aq.1 _ _ N bm;let er:=aq.1 _ _ M bl;let el:=x5.2;let d1:=I.d1;let d3:=I.d3;let ed:(0:Int)<(⇑m:Int):=()
 let ec:(⇑m:Int)<1073741824:=()
 ext r6 H6 d6 d5 x6;obtain⟨l,eo,rfl⟩:∃q:Nat,q<⇑m/\r6=q:=#[r6.toNat,(),()];let ad:=aq.trans x6;let bk:=ad.1 _ _ N bm;let cs:=ad.1 _ _ M bl;let aa:=x6.2;let aw:Ext X H H6:=((Ext.refl T).Z az).trans ad;let a7:=aw.kt T;let db:=gD.kt a7;let bo:=ac.kt a7;let a9:H y=gV:=ao;let ba:H p=gV:=s2.free Z;let k3:=I.k3;let ap:l<⇑dl:=()
 let ix:wK ⇑m (l:Int)=U l:=by
  unfold wK;simp;omega
 let(dv,cm,a0):=bo.get (i:=l) (x:=iC dl[l]) (by rw[EF,pC ap];rfl);let ab:dl[l]∈dl:=Qz ap;generalize dl[l]=d0 at a0 ab;let(bw,bt,bs,bd,bp):=I.dd d0 ab;let ey:=I.dw d0 ab;let ag:=pq.t d0 ab;let av:fM m (l:Int)=U dv:=aG cm;let(qa,dq,ax,a4,rfl,d8,q1,q2,q3):=(show Rp K H6 (.t [.s d0.1,.t (d0.2.1.map uR),enc d0.2.2]) dv from a0).t3;obtain rfl:=q1.aP;let b6:aV K H6 p m:=aV.of bk;let a8:=ad.1 _ _ a1 an;let dm:=ag.wf;let cy:d0.2.2.size<=900:=()
 let dn:d0.2.2.depth<n:=()
 ext H7 s7;let dx:=Tm.size_pos d0.2.2;let ds:(0:Int)<(d0.2.2.size:Int):=()
 let dr:(d0.2.2.size:Int)<1073741824:=()
 let ek:=aa.Z s7;ext r8 H8 bz d4 x8;ext lc W;let s9:=ae W (.Y [.int r8]);let cr:upd H8 lc (.Y [.int r8]) lc=U (.Y [.int r8]):=aj;let L:Ext X H6 H8:=((Ext.refl aa).Z s7).trans x8;let cb:=bj x8.2 W;let bi:=L.1 _ _ N bk;let bh:=L.1 _ _ M cs;let bg:=L.1 _ _ a1 a8;let d9:lw≠lc:=ay bg W;let cd:p≠lc:=ay bi W;let cc:y≠lc:=ay bh W;let bf:=s9 _ _ bi;let be:=s9 _ _ bh;let cq:=s9 _ _ bg;let as:Ext X H (upd H8 lc (.Y [.int r8])):=(aw.trans L).Z s9
 let bb:H lc=gV:=by
  cases hc:H lc with
  |none=>rfl
  |some o=>let:=(aw.trans L).1 lc o cb hc;rw[W]at this;cases this
 let b3:=(q3.kt (L.kt aa)).Z s9;let a5:=(q2.kt (L.kt aa)).Z s9;generalize upd H8 lc (.Y [.int r8])=H9 at s9 cr bf be cq as b3 a5|-;let ej:=as.2;let dk:d0.2.2.size<=80:=()
 let q4:q<=4:=()
 ext vA HA G cA fA eq rA tr
 let af:Ext X H HA:=by
  calc#[λb o nb hb=>?_,fA.ff];let h7:=as.1 b o nb hb;exact fA.gm (ay hb bb) nb h7
 let al:=fA.gm cd N bf;let a2:=fA.gm cc M be
 let ca:Tb (q+1) G/\G.depth<=d0.2.2.depth+1/\G.size<=2*d0.2.2.size+3:=by
  rcases tr.2 bz with⟨_,e⟩|⟨_,o⟩
  .rw[e];exact#[ag.up (QT _),(),()]
  .exact#[o.b,o.d,o.z]
 let(ah,ev,di):=ca;let dp:=ah.wf;let dj:G.size<=900:=()
 let ew:G.depth<n:=()
 let ei:=af.2;calc Cut.go c6 ?_;clear c6;calc jY ?_;intro N7 c7
 let fin:∀{J:Hp}{kvs' dvs':MC V}{kl':Kl}{dl':MC Df}{o12:AF V},Ext X H J->J y=U (.Y kvs')->J p=U (.Y dvs')->bS K J (kl'.map fP) kvs'->bS K J (dl'.map iC) dvs'->Pq (q+1) kl' dl'->N7 [U (.ref X),U (.ref pa),U (.ref lw),U (.ref y),U (.ref p),U (.str wd),U (.int fm),U (.int l),U (.str d0.1),U ax,U a4,U vA,o12] J:=λ{J kvs' dvs' kl' dl' o12} x' h1 h2 r1 r2 b=>by
  calc Cut.go c7 ?_;exact Lr Y hr h1 h2 r1 r2 λv' H2 s2 r2=>k v' H2 kl' dl' (x'.Z s2) r2 b
 clear c7;let B:∀d∈dl,(Wn d.2.2/\Ta d.2.2/\d.2.2.size<=40/\d.2.2.depth<=6+(q+1)/\⇑d.2.1<=3)/\EU d/\Tb (q+1) d.2.2:=λd hd=>#[#[((pq.t d hd).up (QT _)).wn (),(I.dd d hd).2.1,(I.dd d hd).2.2.1,by let:=(I.dd d hd).2.2.2.1;omega,(I.dd d hd).2.2.2.2],I.dw d hd,(pq.t d hd).up (QT _)]
 let Cz:∀{J:Hp}{v':V}{d':Df}{o12:AF V},Ext X H J->J y=U (.Y g)->J p=U (.Y m)->Rp K J (iC d') v'->(Wn d'.2.2/\Ta d'.2.2/\d'.2.2.size<=40/\d'.2.2.depth<=6+(q+1)/\⇑d'.2.1<=3)->EU d'->Tb (q+1) d'.2.2->N7 [U (.ref X),U (.ref pa),U (.ref lw),U (.ref y),U (.ref p),U (.str wd),U (.int fm),U (.int l),U (.str d0.1),U ax,U a4,U vA,o12] (upd J p (.Y (m.set l v'))):=λ{J v' d' o12} x' h1 h2 r' b bw' bt'=>by
  let k7:Kt J (upd J p (.Y (m.set l v'))):=Kt.Y h2 _;let x7:Ext X H (upd J p (.Y (m.set l v'))):=((Ext.uc T x':dH [] X H J).DZ ba N h2).ex;refine fin (kvs':=g) (dvs':=m.set l v') (kl':=kl) (dl':=dl.set l d') x7 (by rw[aB a6];calc h1) aj ((gD.kt (x'.kt T)).kt k7) ?_ #[#[k3,I.kt,by rw[Vn];calc d1,by rw[Vn];calc d3,λd hd=>?_,λd hd=>?_],λd hd=>?_]
  .rw[List.map_set];exact bS.Lq ((ac.kt (x'.kt T)).kt k7) (r'.kt k7) l
  all_goals rcases V1 hd with h|h
  .exact(B d h).1
  .rw[h];exact b
  .exact I.dw d h
  .rw[h];exact bw'
  .exact(B d h).2.2
  .rw[h];exact bt'
 refine Jr (fm<2/\0<⇑g) (λC ct cf=>?_) (λc=>?_) (λc=>?_)
 .ext;refine b8 (λc=>?_) (λc=>?_)
  .ext
   by_cases z0:0<⇑g
   .rw[show decide ((⇑g:Int)>0)=AD from decide_eq_true ()];exact ct #[of_decide_eq_true c,z0]
   .rw[show decide ((⇑g:Int)>0)=AE from decide_eq_false ()];exact cf (λw=>z0 w.2)
  .exact cf (λw=>c (decide_eq_true w.1))
 .have eb:(0:Int)<(⇑g:Int):=()
  let ea:(⇑g:Int)<1073741824:=()
  ext rB HB d2 dz xB;obtain⟨sp,eg,rfl⟩:∃q:Nat,q<⇑g/\rB=q:=#[rB.toNat,(),()];let u:=af.trans xB;let O:=xB.1 _ _ M a2;let R:=xB.1 _ _ N al;let am:sp<⇑kl:=()
  let(kv,ck,bx):=(gD.kt (u.kt T)).get (i:=sp) (x:=fP kl[sp]) (by rw[EF,pC am];rfl);let cl:kl[sp]∈kl:=Qz am;let kb:CQ kl[sp]:=I.kt _ cl;generalize kl[sp]=k0 at bx kb;let ez:fM g (sp:Int)=U kv:=aG ck
  let ee:wK ⇑g (sp:Int)=U sp:=by
   unfold wK;simp;omega
  let eh:=u.2;let dt:aV K HB y g:=aV.of O;ext vC HC kC xC rC bC;let ar:=u.trans xC;let bc:=xC.1 _ _ M O;let cp:=xC.1 _ _ N R;let k9:Kt HC (upd HC y (.Y (g.set sp vC))):=Kt.Y bc _;let xD:Ext X H (upd HC y (.Y (g.set sp vC))):=((Ext.uc T ar:dH [] X H HC).DZ a9 M bc).ex;ext;refine fin (kvs':=g.set sp vC) (dvs':=m) (kl':=kl.set sp kC) (dl':=dl) xD aj (by rw[aB a6.symm];calc cp) ?_ ((ac.kt (ar.kt T)).kt k9) #[#[by rw[Vn];calc k3,λq hq=>?_,d1,d3,λd hd=>(B d hd).1,I.dw],λd hd=>(B d hd).2.2]
  .rw[List.map_set];exact bS.Lq ((gD.kt (ar.kt T)).kt k9) (rC.kt k9) sp
  .rcases V1 hq with h|h
   .exact I.kt q h
   .rw[h];exact bC
 .have du:aV K HA p m:=aV.of al;let dy:Rp K HA (iC d0) (.ref qa):=a0.kt ((L.kt aa).trans ((Kt.Z s9).trans fA.kt));ext;refine b8 (λc5=>?_) (λc5=>?_)
  .ext;intro vB HB dB xB rB eB lB wB;let u:=af.trans xB;let O:=xB.1 _ _ M a2;let R:=xB.1 _ _ N al;let fd:=Cz (o12:=gV) u O R rB (by rw[eB];calc#[(ag.up (QT _)).wn (),bt,(),(),lB]) wB (by rw[eB];calc ag.up (QT _));ext;exact fd
  .ext;intro HB sB;let u:=af.Z sB;let R:=sB _ _ al;let O:=sB _ _ a2;let bB:aV K HB p m:=aV.of R;ext;refine b8 (λd=>?_) (λd=>?_)
   rotate_left
   .have e:=fin (o12:=gV) u O R (gD.kt (u.kt T)) (ac.kt (u.kt T)) #[#[k3,I.kt,d1,d3,λd hd=>(B d hd).1,I.dw],λd hd=>(B d hd).2.2];ext;exact e
   let bq:G.size<=40:=by
    let:=of_decide_eq_true d;omega
   let b4:Rp K HB (.t (d0.2.1.map uR)) ax:=a5.kt (fA.kt.trans (Kt.Z sB));ext;calc nw λb7 HE ai a3 de=>?_;let b2:Rp K HE (iC (d0.1,d0.2.1,G)) (.ref b7):=Rp.nw (K:=K) (xs:=[.s d0.1,.t (d0.2.1.map uR),enc G]) a3 ai (.cons .s (.cons b4 (.one (rA.Z sB))));let bu:=u.Z ai;let co:=ai _ _ R;let cn:=ai _ _ O;let fd:=Cz (o12:=gV) bu cn co b2 #[ah.wn (),ah.ta (),bq,by show G.depth<=_;omega,bp] (I.dw d0 ab) ah;ext;calc fd
def Ls (h:y∈tl kl):∃k∈kl,∃t∈k.2,y.2.2=t.2:=by
 unfold tl at h;let(k,e,h):=RB.mp h;let(t,d,rfl):=Qa.mp h;calc#[k,e,t,d,rfl]
def Lu (kt:∀k∈kl,CQ k){arms:MC (AA×List AA)}(h:gE kl arms=gV):⇑arms<=3/\∀a∈arms,⇑a.2<=2:=by
 cases arms with
 |nil=>cases h
 |cons a r =>
  unfold gE at h;dsimp only at h
  split at h
  .cases h
  split at h
  .next g =>
   refine#[?_,λb l=>?_]
   .have e:=(Ue.mp g).length_eq;rw[bM]at e;rw[e]
    cases e2:((iX kl a.1).bind λy=>u7 kl y.2.1)with
    |none=>calc Qc _
    |some k =>
     show(k.2.map (·.1)).length<=3;rw[bM];let(y,_,o):=Ux.mp e2;exact(kt k (Rk o)).2.1
   .have e:=VU.mp h b l;unfold j5 at e
    split at e
    .cases e
    .next y ey =>
     split at e
     .next m =>
      rw[m];let(k,j,t,d,p):=Ls (Rk ey);rw[p];exact(kt k j).2.2.1 t d
     .cases e
  .cases h
def MZ (kt:∀k∈kl,CQ k){ds:MC (AA×Nat)}{j:Tm}:Ta j->Wf j->∀{gs d:MC Int}{ns:List AA},sD kl ds gs ns j=.ok d->Tb 0 j:=by
 refine Tm.induct (P:=λj=>Ta j->Wf j->∀{gs d:MC Int}{ns:List AA},sD kl ds gs ns j=.ok d->Tb 0 j) (λh ks y t wf gs d ns e=>?_) j
 cases t with
 |mk _ w wk =>
 cases wf with
 |mk ar wfk =>
 rw[rH]at e
 cases q:fU kl ds gs ns h ⇑ks with
 |error g=>rw[q]at e;cases e
 |ok g1 =>
  rw[q]at e
  let p:∀(l:MC Tm),(∀k∈l,k∈ks)->∀(bs:MC (List AA)) (gs d:MC Int),⇑bs=⇑l->m6 kl ds gs ns bs l=.ok d->∀k∈l,Tb 0 k:=by
   intro l
   induction l with
   |nil=>intro _ _ _ _ _ _ _ z;cases z
   |cons k r ihl =>
    intro o bs gs d v e
    cases bs with
    |nil=>cases v
    |cons b bs =>
     rw[iV]at e
     cases q2:sD kl ds gs (ns++b) k with
     |error g=>rw[q2]at e;cases e
     |ok g' =>
      rw[q2]at e;intro x hx;rcases P1.mp hx with rfl|hx
      .exact y x (o x (.head _)) (wk x (o x (.head _))) (wfk x (o x (.head _))) q2
      .exact ihl (λx hx=>o x (.tail _ hx)) bs g' d (Nat.succ.inj v) e x hx
  refine .mk ar w (λm B=>?_) (p ks (λ_ h=>h) _ g1 d ?_ e)
  .subst B
   let u:(match gE kl m with
    |some f=>Except.error f
    |none=>Except.ok gs)=.ok g1:=q
   cases qa:gE kl m with
   |some f=>rw[qa]at u;cases u
   |none=>exact Lu kt qa
  .cases h<;>simp_all[bnd,dc]
def IC (kt:∀k∈kl,CQ k):∀{dl:MC Df}{ds:MC (AA×Nat)}{gs os:MC Int},(∀d∈dl,Wn d.2.2/\Ta d.2.2)->jx kl ds gs os dl=gV->∀d∈dl,Tb 0 d.2.2:=by
 intro dl
 induction dl with
 |nil=>intro _ _ _ _ _ _ h;cases h
 |cons d r ih =>
  intro ds gs os w h;rw[ow]at h
  by_cases c:d.1∈ds.map (·.1)
  .rw[if_pos c]at h;cases h
  .rw[if_neg c]at h
   cases e:cE (kl.map (·.1)) [] os d.2.1 with
   |error g=>rw[e]at h;cases h
   |ok os' =>
    rw[e]at h;unfold qB at h;dsimp only at h
    cases e2:sD kl ds gs (d.2.1.map (·.1)) d.2.2 with
    |error g=>rw[e2]at h;cases h
    |ok gs' =>
     rw[e2]at h;intro x hx;rcases P1.mp hx with rfl|hx
     .exact MZ kt (w x (.head _)).2 (w x (.head _)).1.wf e2
     .exact ih (λy j=>w y (.tail _ j)) h x hx
def ID (b:Lg 40 6 kl dl)(h:cR kl dl=gV):Pq 0 kl dl:=by
 calc#[b,?_];unfold cR at h
 cases e:cY [] [] kl with
 |some g=>rw[e]at h;cases h
 |none =>
  rw[e]at h;calc IC b.kt (λd hd=>#[(b.dd d hd).1,(b.dd d hd).2.1]) h
structure Mp where
 k:AA->AA
 t:AA->AA
 d:AA->AA
 n:AA->AA
meta def Inj(m:AA->AA):Prop:=∃g:AA->AA,∀x,Wds.ok x->g (m x)=x
structure Mp.Inj(m:Mp):Prop where
 k:G16.Inj m.k
 t:G16.Inj m.t
 d:G16.Inj m.d
 n:G16.Inj m.n
def Inj.eq (i:Inj m){x y:AA}(j:Wds.ok x)(d:Wds.ok y):m x=m y↔x=y:=by
 let(g,h):=i;calc#[λe=>by rw[<-h x j,e,h y d],λe=>by rw[e]]
def Inj.mem (i:Inj m){x:AA}{l:List AA}(g:Wds.ok x)(j:∀y∈l,Wds.ok y):m x∈l.map m↔x∈l:=by
 rw[Qa];calc#[λ⟨y,d,e⟩=>by rw[<-(i.eq (j y d) g).mp e];calc d,λh=>#[x,h,rfl]]
def Inj.perm (i:Inj m){a b:List AA}(o:∀y∈a,Wds.ok y)(j:∀y∈b,Wds.ok y):(a.map m).isPerm (b.map m)=a.isPerm b:=by
 let(g,h):=i
 let d:∀{l:List AA},(∀y∈l,Wds.ok y)->(l.map m).map g=l:=λ{l} hl=>by
  rw[Qm]
  conv=>rhs;rw[<-List.map_id l]
  exact XA λx e=>h x (hl x e)
 rw[Tp,Ue,Ue];calc#[λp=>by let:=p.map g;rwa [d o,d j]at this,λp=>p.map m]
theorem Inj.dup (i:Inj m):∀{l a:List AA},(∀y∈a,Wds.ok y)->(∀y∈l,Wds.ok y)->cy (a.map m) (l.map m)=(cy a l).map m
 | [],_,_,_=>rfl
 |x::r,a,ha,hl=>by
  let e:=hl x (.head _);show(if m x∈a.map m then U (m x)else cy (a.map m++[m x]) (r.map m))=Option.map m (if x∈a then U x else cy (a++[x]) r)
  by_cases c:x∈a
  .rw[if_pos c,if_pos ((i.mem e ha).mpr c)];rfl
  .rw[if_neg c,if_neg (λz=>c ((i.mem e ha).mp z)),<-i.dup (λy d=>(zv.mp d).elim (ha y) (λz=>by rw[vv.mp z];calc e)) (λy d=>hl y (.tail _ d)),i4];rfl
meta def Kk.mp(m:AA->AA):Kk->Kk
 |.num=>.num
 |.kd x=>.kd (m x)
 |.op n=>.op n
 |.row k=>.row (k.mp m)
theorem yc (m:AA->AA):∀k:Kk,(k.mp m).core=k.core.mp m
 |.num=>rfl
 |.kd _=>rfl
 |.op _=>rfl
 |.row k=>yc m k
meta def Fq(m:Mp):Hd->Hd
 |.name x=>.name (m.n x)
 |.tag t=>.tag (m.t t)
 |.call f=>.call (m.d f)
 |.mat arms=>.mat (arms.map λa=>(m.t a.1,a.2.map m.n))
 |.lt x=>.lt (m.n x)
 |.fold x y=>.fold (m.n x) (m.n y)
 |h=>h
mutual
noncomputable def m9(m:Mp):Tm->Tm
 |.mk h ks=>.mk (Fq m h) (IE m ks)
noncomputable def IE(m:Mp):MC Tm->MC Tm
 | []=>[]
 |k::r=>m9 m k::IE m r
end
theorem zM (m:Mp):∀ks:MC Tm,IE m ks=ks.map (m9 m)
 | []=>rfl
 |k::r=>by unfold IE;rw[zM m r];rfl
def kU (m:Mp)(h:Hd)(ks:MC Tm):m9 m (.mk h ks)=.mk (Fq m h) (ks.map (m9 m)):=by unfold m9;rw[zM]
meta def AU(m:Mp)(t:AA×MC Kk):AA×MC Kk:=(m.t t.1,t.2.map (Kk.mp m.k))
meta def jS(m:Mp)(k:AA×MC (AA×MC Kk)):AA×MC (AA×MC Kk):=(m.k k.1,k.2.map (AU m))
meta def Ft(m:Mp)(p:AA×Kk):AA×Kk:=(m.n p.1,p.2.mp m.k)
meta def zN(m:Mp)(d:Df):Df:=(m.d d.1,d.2.1.map (Ft m),m9 m d.2.2)
meta def Rn(m:Mp)(x y:AA):Prop:=(Wds.ok x/\(y=m.k x\/y=m.t x\/y=m.d x\/y=m.n x))\/(x=y/\(x="?"\/x="match"))
meta def Rf(m:Mp)(f g:Flt):Prop:=f.1=g.1/\Rn m f.2 g.2
inductive Ro(m:Mp):AF Flt->AF Flt->Prop
 |none:Ro m gV gV
 |some {f g:Flt}:Rf m f g->Ro m (U f) (U g)
inductive Re(m:Mp):Except Flt (MC Int)->Except Flt (MC Int)->Prop
 |ok (l:MC Int):Re m (.ok l) (.ok l)
 |err {f g:Flt}:Rf m f g->Re m (.error f) (.error g)
meta def Dk(k:AA×MC (AA×MC Kk)):Prop:=Wo k.1/\∀t∈k.2,Wo t.1/\∀c∈t.2,zT c
def Wo.ok {x:AA}(w:Wo x):Wds.ok x:=w.2.2
section
variable {m:Mp}(I:m.Inj)
include I
def IG (g:∀x∈ah,Wds.ok x){k:Kk}(w:zT k):(hU ah k=gV/\hU (ah.map m.k) (k.mp m.k)=gV)\/∃x y,hU ah k=U x/\hU (ah.map m.k) (k.mp m.k)=U y/\Rn m x y:=by
 unfold hU;rw[yc]
 cases e:k.core with
 |num=>calc .inl #[rfl,rfl]
 |row _=>calc .inl #[rfl,rfl]
 |op n=>calc .inr #[_,_,rfl,rfl,.inr #[rfl,.inl rfl]]
 |kd x =>
  let d:=(w.1 x e).ok;show(((if x∈ah then gV else U x)=gV/\(if m.k x∈ah.map m.k then gV else U (m.k x))=gV)\/∃a b,(if x∈ah then gV else U x)=U a/\(if m.k x∈ah.map m.k then gV else U (m.k x))=U b/\Rn m a b)
  by_cases c:x∈ah
  .rw[if_pos c,if_pos ((I.k.mem d g).mpr c)];exact .inl #[rfl,rfl]
  .rw[if_neg c,if_neg (λz=>c ((I.k.mem d g).mp z))];calc .inr #[_,_,rfl,rfl,.inl #[d,.inl rfl]]
theorem zO (d:∀x∈ah,Wds.ok x):∀{ks:MC Kk},(∀c∈ks,zT c)->(eR (hU ah) ks=gV/\eR (hU (ah.map m.k)) (ks.map (Kk.mp m.k))=gV)\/∃x y,eR (hU ah) ks=U x/\eR (hU (ah.map m.k)) (ks.map (Kk.mp m.k))=U y/\Rn m x y
 | [],_=>.inl #[rfl,rfl]
 |k::r,w=>by
  show((match hU ah k with|some n=>U n|none=>eR (hU ah) r)=gV/\(match hU (ah.map m.k) (k.mp m.k)with|some n=>U n|none=>eR (hU (ah.map m.k)) (r.map (Kk.mp m.k)))=gV)\/∃x y,(match hU ah k with|some n=>U n|none=>eR (hU ah) r)=U x/\(match hU (ah.map m.k) (k.mp m.k)with|some n=>U n|none=>eR (hU (ah.map m.k)) (r.map (Kk.mp m.k)))=U y/\Rn m x y
  rcases IG I d (w k (.head _))with⟨e1,e2⟩|⟨x,y,e1,e2,e⟩
  .rw[e1,e2];exact zO d (λc g=>w c (.tail _ g))
  .rw[e1,e2];calc .inr #[_,_,rfl,rfl,e]
theorem BL (j:∀x∈ah,Wds.ok x):∀{g:MC (AA×MC Kk)}{ta:List AA},(∀x∈ta,Wds.ok x)->(∀t∈g,Wo t.1/\∀c∈t.2,zT c)->Ro m (ie ah ta g) (ie (ah.map m.k) (ta.map m.t) (g.map (AU m)))
 | [],_,_,_=>.none
 |t::r,ta,wt,w=>by
  let o:=(w t (.head _)).1.ok;let d:∀x∈ta++[t.1],Wds.ok x:=λx l=>(zv.mp l).elim (wt x) (λz=>by rw[vv.mp z];calc o);let u:ta.map m.t++[m.t t.1]=(ta++[t.1]).map m.t:=by rw[i4];rfl
  show Ro m (match cy [] (ta++[t.1])with
   |some x=>U (.tw,x)
   |none=>match eR (hU ah) t.2 with
    |some n=>U (.nn,n)
    |none=>ie ah (ta++[t.1]) r) (match cy [] (ta.map m.t++[m.t t.1])with
   |some x=>U (.tw,x)
   |none=>match eR (hU (ah.map m.k)) (t.2.map (Kk.mp m.k))with
    |some n=>U (.nn,n)
    |none=>ie (ah.map m.k) (ta.map m.t++[m.t t.1]) (r.map (AU m)))
  rw[u,show cy [] ((ta++[t.1]).map m.t)=(cy [] (ta++[t.1])).map m.t from I.t.dup (a:=[]) ⋯ d]
  cases e:cy [] (ta++[t.1])with
  |some x=>calc .some #[rfl,.inl #[d x (sS e),.inr (.inl rfl)]]
  |none =>
   rcases zO I j (w t (.head _)).2 with⟨e1,e2⟩|⟨x,y,e1,e2,q⟩
   .rw[e1,e2];exact BL j d (λc p=>w c (.tail _ p))
   .rw[e1,e2];calc .some #[rfl,q]
theorem zP :∀{kl:Kl}{ah ta:List AA},(∀x∈ah,Wds.ok x)->(∀x∈ta,Wds.ok x)->(∀k∈kl,Dk k)->Ro m (cY ah ta kl) (cY (ah.map m.k) (ta.map m.t) (kl.map (jS m)))
 | [],_,_,_,_,_=>.none
 |k::r,ah,ta,wa,wt,w=>by
  let p:=(w k (.head _)).1.ok;let d:∀x∈ah++[k.1],Wds.ok x:=λx l=>(zv.mp l).elim (wa x) (λz=>by rw[vv.mp z];calc p);let j:∀x∈ta++k.2.map (·.1),Wds.ok x:=λx l=>(zv.mp l).elim (wt x) (λz=>by let(t,o,rfl):=Qa.mp z;calc((w k (.head _)).2 t o).1.ok);let y:ah.map m.k++[m.k k.1]=(ah++[k.1]).map m.k:=by rw[i4];rfl
  let v:ta.map m.t++(k.2.map (AU m)).map (·.1)=(ta++k.2.map (·.1)).map m.t:=by rw[i4,Qm,Qm];rfl
  show Ro m (match cy [] (ah++[k.1])with
   |some x=>U (.tw,x)
   |none=>match ie ah ta k.2 with
    |some f=>U f
    |none=>cY (ah++[k.1]) (ta++k.2.map (·.1)) r) (match cy [] (ah.map m.k++[m.k k.1])with
   |some x=>U (.tw,x)
   |none=>match ie (ah.map m.k) (ta.map m.t) (k.2.map (AU m))with
    |some f=>U f
    |none=>cY (ah.map m.k++[m.k k.1]) (ta.map m.t++(k.2.map (AU m)).map (·.1)) (r.map (jS m)))
  rw[y,v,show cy [] ((ah++[k.1]).map m.k)=(cy [] (ah++[k.1])).map m.k from I.k.dup (a:=[]) ⋯ d]
  cases e:cy [] (ah++[k.1])with
  |some x=>calc .some #[rfl,.inl #[d x (sS e),.inl rfl]]
  |none =>
   let q:=BL I wa wt (w k (.head _)).2
   cases e1:ie ah ta k.2 with
   |some f =>
    rw[e1]at q
    cases e2:ie (ah.map m.k) (ta.map m.t) (k.2.map (AU m))with
    |some g=>rw[e2]at q;calc q
    |none=>rw[e2]at q;cases q
   |none =>
    rw[e1]at q
    cases e2:ie (ah.map m.k) (ta.map m.t) (k.2.map (AU m))with
    |some g=>rw[e2]at q;cases q
    |none=>calc zP d j (λc u=>w c (.tail _ u))
def Fv (g:∀x∈kn,Wds.ok x){os:MC Int}{k:Kk}(w:zT k):Re m (iT kn os k) (iT (kn.map m.k) os (k.mp m.k)):=by
 unfold iT;rw[yc]
 cases e:k.core with
 |num=>calc .ok _
 |row _=>calc .ok _
 |op n =>
  show Re m (if n∈os then _ else _) (if n∈os then _ else _)
  by_cases c:n∈os
  .rw[if_pos c];exact .err #[rfl,.inr #[rfl,.inl rfl]]
  .rw[if_neg c];calc .ok _
 |kd x =>
  let d:=(w.1 x e).ok;show Re m (if x∈kn then _ else _) (if m.k x∈kn.map m.k then _ else _)
  by_cases c:x∈kn
  .rw[if_pos c,if_pos ((I.k.mem d g).mpr c)];exact .ok _
  .rw[if_neg c,if_neg (λz=>c ((I.k.mem d g).mp z))];calc .err #[rfl,.inl #[d,.inl rfl]]
theorem wA (j:∀x∈kn,Wds.ok x):∀{ps:MC (AA×Kk)}{ah:List AA}{os:MC Int},(∀x∈ah,Wds.ok x)->(∀p∈ps,Wo p.1/\zT p.2)->Re m (cE kn ah os ps) (cE (kn.map m.k) (ah.map m.n) os (ps.map (Ft m)))
 | [],_,_,_,_=>.ok _
 |p::r,ah,os,wa,w=>by
  let d:=(w p (.head _)).1.ok;let g:∀x∈ah++[p.1],Wds.ok x:=λx o=>(zv.mp o).elim (wa x) (λz=>by rw[vv.mp z];calc d);let u:ah.map m.n++[m.n p.1]=(ah++[p.1]).map m.n:=by rw[i4];rfl
  show Re m (if p.1∈ah then .error (.tw,p.1)else match iT kn os p.2 with
   |.error f=>.error f
   |.ok os'=>cE kn (ah++[p.1]) os' r) (if m.n p.1∈ah.map m.n then .error (.tw,m.n p.1)else match iT (kn.map m.k) os (p.2.mp m.k)with
   |.error f=>.error f
   |.ok os'=>cE (kn.map m.k) (ah.map m.n++[m.n p.1]) os' (r.map (Ft m)))
  by_cases c:p.1∈ah
  .rw[if_pos c,if_pos ((I.n.mem d wa).mpr c)];exact .err #[rfl,.inl #[d,.inr (.inr (.inr rfl))]]
  rw[if_neg c,if_neg (λz=>c ((I.n.mem d wa).mp z)),u];let q:=Fv I j (os:=os) (w p (.head _)).2;generalize iT kn os p.2=a at q|-;generalize iT (kn.map m.k) os (p.2.mp m.k)=b at q|-
  cases q with
  |err e=>calc .err e
  |ok l=>calc wA j g (λc t=>w c (.tail _ t))
end
section
variable {m:Mp}(I:m.Inj)
include I
theorem sW (i:Inj f){key:d->AA}{key':j->AA}{g:d->j}(e:∀a,key' (g a)=f (key a)){x:AA}(o:Wds.ok x):∀{l:List d},(∀a∈l,Wds.ok (key a))->(l.map g).find? (λb=>decide (key' b=f x))=(l.find? λa=>decide (key a=x)).map g
 | [],_=>rfl
 |a::r,h=>by
  let q:=h a (.head _);rw[Qd]
  by_cases c:key a=x
  .rw[Sw (by rw[e,c];calc decide_eq_true rfl),Sw (by simpa using c)];rfl
  .rw[Sx (by rw[e];simpa using λz=>c ((i.eq q o).mp z)),Sx (by simpa using c)];calc sW i e o (λb p=>h b (.tail _ p))
def M0 (kl:Kl):tl (kl.map (jS m))=(tl kl).map λy=>(m.t y.1,m.k y.2.1,y.2.2.map (Kk.mp m.k)):=by
 unfold tl;rw[Yu,List.flatMap_map]
 congr 1
 funext k
 show(k.2.map (AU m)).map _=_;rw[Qm,Qm];rfl
def yd (w:∀k∈kl,Dk k){t:AA}(ht:Wds.ok t):iX (kl.map (jS m)) (m.t t)=(iX kl t).map λy=>(m.t y.1,m.k y.2.1,y.2.2.map (Kk.mp m.k)):=by
 unfold iX;rw[M0 I];calc sW I I.t (key:=λy:AA×AA×MC Kk=>y.1) (key':=λy:AA×AA×MC Kk=>y.1) (λ_=>rfl) ht λy d=>?_;unfold tl at d;let(k,g,d):=RB.mp d;let(u,e,rfl):=Qa.mp d;calc((w k g).2 u e).1.ok
def Lv (w:∀k∈kl,Dk k){t:AA}{y:AA×AA×MC Kk}(h:iX kl t=U y):Wds.ok y.2.1:=by
 unfold iX at h;let d:=Rk h;unfold tl at d;let(k,e,d):=RB.mp d;let(u,g,rfl):=Qa.mp d;calc(w k e).1.ok
def Lx (w:∀k∈kl,Dk k){n:AA}(hn:Wds.ok n):u7 (kl.map (jS m)) (m.k n)=(u7 kl n).map (jS m):=sW I I.k (key:=λk:AA×MC (AA×MC Kk)=>k.1) (key':=λk:AA×MC (AA×MC Kk)=>k.1) (λ_=>rfl) hn λk d=>(w k d).1.ok
meta def ye(m:Mp)(a:AA×List AA):AA×List AA:=(m.t a.1,a.2.map m.n)
def Ly (w:∀k∈kl,Dk k){a:AA×List AA}(d:Wo a.1/\∀x∈a.2,Wo x):Ro m (j5 kl a) (j5 (kl.map (jS m)) (ye m a)):=by
 show Ro m (match iX kl a.1 with
 |none=>U (.nn,a.1)
 |some y=>if ⇑a.2=⇑y.2.2 then(cy [] a.2).map λx=>(.tw,x)else U (.wr,a.1)) (match iX (kl.map (jS m)) (m.t a.1)with
 |none=>U (.nn,m.t a.1)
 |some y=>if(a.2.map m.n).length=⇑y.2.2 then(cy [] (a.2.map m.n)).map λx=>(.tw,x)else U (.wr,m.t a.1))
 rw[yd I w d.1.ok]
 cases iX kl a.1 with
 |none=>calc .some #[rfl,.inl #[d.1.ok,.inr (.inl rfl)]]
 |some y =>
  show Ro m (if ⇑a.2=⇑y.2.2 then _ else _) (if(a.2.map m.n).length=⇑(y.2.2.map (Kk.mp m.k)) then _ else _);rw[bM,bM]
  by_cases c:⇑a.2=⇑y.2.2
  .rw[if_pos c,if_pos c,show cy [] (a.2.map m.n)=(cy [] a.2).map m.n from I.n.dup (a:=[]) ⋯ (λx g=>(d.2 x g).ok)]
   cases e:cy [] a.2 with
   |none=>calc .none
   |some x=>exact .some #[rfl,.inl #[(d.2 x (sS e)).ok,.inr (.inr (.inr rfl))]]
  .rw[if_neg c,if_neg c];calc .some #[rfl,.inl #[d.1.ok,.inr (.inl rfl)]]
theorem BN (w:∀k∈kl,Dk k):∀{arms:MC (AA×List AA)},(∀a∈arms,Wo a.1/\∀x∈a.2,Wo x)->Ro m (arms.findSome? (j5 kl)) ((arms.map (ye m)).findSome? (j5 (kl.map (jS m))))
 | [],_=>.none
 |a::r,wa=>by
  rw[Qd,Vw,Vw];let q:=Ly I w (wa a (.head _));generalize j5 kl a=x at q|-;generalize j5 (kl.map (jS m)) (ye m a)=y at q|-
  cases q with
  |none=>calc BN w (λb d=>wa b (.tail _ d))
  |some e=>calc .some e
def II (w:∀k∈kl,Dk k){arms:MC (AA×List AA)}(d:∀a∈arms,Wo a.1/\∀x∈a.2,Wo x):Ro m (gE kl arms) (gE (kl.map (jS m)) (arms.map (ye m))):=by
 cases arms with
 |nil=>calc .some #[rfl,.inr #[rfl,.inr rfl]]
 |cons a r =>
  let hd:((a::r).map (ye m)).find? (λb=>decide ((iX (kl.map (jS m)) b.1).isSome=AE))=((a::r).find? λb=>decide ((iX kl b.1).isSome=AE)).map (ye m):=by
   generalize(a::r)=l at d
   induction l with
   |nil=>rfl
   |cons b s ih =>
    let e:(iX (kl.map (jS m)) (ye m b).1).isSome=(iX kl b.1).isSome:=by
     show(iX (kl.map (jS m)) (m.t b.1)).isSome=_;rw[yd I w (d b (.head _)).1.ok,V8]
    rw[Qd]
    by_cases c:(iX kl b.1).isSome=AE
    .rw[Sw (by rw[e];calc decide_eq_true c),Sw (by simpa using c)];rfl
    .rw[Sx (by rw[e];simpa using c),Sx (by simpa using c)];exact ih (λb o=>d b (.tail _ o))
  let q:(((a::r).map (ye m)).map (·.1)).isPerm ((((iX (kl.map (jS m)) (ye m a).1).bind λy=>u7 (kl.map (jS m)) y.2.1).map λk=>k.2.map (·.1)).getD [])=((a::r).map (·.1)).isPerm ((((iX kl a.1).bind λy=>u7 kl y.2.1).map λk=>k.2.map (·.1)).getD []):=by
   rw[show((a::r).map (ye m)).map (·.1)=((a::r).map (·.1)).map m.t by rw[Qm,Qm];rfl]
   let j:∀x∈(a::r).map (·.1),Wds.ok x:=λx g=>by
    let(b,o,rfl):=Qa.mp g;exact(d b o).1.ok
   show Wb _ ((((iX (kl.map (jS m)) (m.t a.1)).bind _).map _).getD [])=_;rw[yd I w (d a (.head _)).1.ok]
   cases e:iX kl a.1 with
   |none=>calc I.t.perm (b:=[]) j ⋯
   |some y =>
    show Wb _ (((u7 (kl.map (jS m)) (m.k y.2.1)).map _).getD [])=Wb _ (((u7 kl y.2.1).map _).getD []);rw[Lx I w (Lv I w e)]
    cases e2:u7 kl y.2.1 with
    |none=>calc I.t.perm (b:=[]) j ⋯
    |some k =>
     show Wb _ ((k.2.map (AU m)).map (·.1))=Wb _ (k.2.map (·.1));rw[show(k.2.map (AU m)).map (·.1)=(k.2.map (·.1)).map m.t by rw[Qm,Qm];rfl];calc I.t.perm j λx g=>?_;let(t,p,rfl):=Qa.mp g;exact((w k (Rk e2)).2 t p).1.ok
  let rest:=BN I w d
  show Ro m (match(a::r).find? (λb=>decide ((iX kl b.1).isSome=AE))with
   |some b=>U (.nn,b.1)
   |none=>if((a::r).map (·.1)).isPerm ((((iX kl a.1).bind λy=>u7 kl y.2.1).map λk=>k.2.map (·.1)).getD [])=AD then(a::r).findSome? (j5 kl)else U (.wr,"match")) (match((a::r).map (ye m)).find? (λb=>decide ((iX (kl.map (jS m)) b.1).isSome=AE))with
   |some b=>U (.nn,b.1)
   |none=>if(((a::r).map (ye m)).map (·.1)).isPerm ((((iX (kl.map (jS m)) (ye m a).1).bind λy=>u7 (kl.map (jS m)) y.2.1).map λk=>k.2.map (·.1)).getD [])=AD then((a::r).map (ye m)).findSome? (j5 (kl.map (jS m)))else U (.wr,"match"))
  rw[hd,q]
  cases e:(a::r).find? λb=>decide ((iX kl b.1).isSome=AE)with
  |some b=>calc .some #[rfl,.inl #[(d b (Rk e)).1.ok,.inr (.inl rfl)]]
  |none =>
   show Ro m (if _ then _ else _) (if _ then _ else _)
   by_cases c:((a::r).map (·.1)).isPerm ((((iX kl a.1).bind λy=>u7 kl y.2.1).map λk=>k.2.map (·.1)).getD [])=AD
   .rw[if_pos c,if_pos c];exact rest
   .rw[if_neg c,if_neg c];calc .some #[rfl,.inr #[rfl,.inr rfl]]
end
section
variable {m:Mp}(I:m.Inj)
include I
def IJ (w:∀k∈kl,Dk k){ds:MC (AA×Nat)}(wd:∀d∈ds,Wds.ok d.1){gs:MC Int}{ns:List AA}(wn:∀x∈ns,Wds.ok x){h:Hd}{n:Nat}(l:HW h):Re m (fU kl ds gs ns h n) (fU (kl.map (jS m)) (ds.map λd=>(m.d d.1,d.2)) gs (ns.map m.n) (Fq m h) n):=by
 cases h with
 |name x =>
  let j:Wds.ok x:=Wo.ok l;show Re m (if x∈ns then .ok gs else .error (.nn,x)) (if m.n x∈ns.map m.n then .ok gs else .error (.nn,m.n x))
  by_cases c:x∈ns
  .rw[if_pos c,if_pos ((I.n.mem j wn).mpr c)];exact .ok _
  .rw[if_neg c,if_neg (λz=>c ((I.n.mem j wn).mp z))];calc .err #[rfl,.inl #[j,.inr (.inr (.inr rfl))]]
 |tag t =>
  let o:Wds.ok t:=Wo.ok l;show Re m (match iX kl t with
  |none=>.error (.nn,t)
  |some y=>if n=⇑y.2.2 then .ok gs else .error (.wr,t)) (match iX (kl.map (jS m)) (m.t t)with
  |none=>.error (.nn,m.t t)
  |some y=>if n=⇑y.2.2 then .ok gs else .error (.wr,m.t t))
  rw[yd I w o]
  cases iX kl t with
  |none=>calc .err #[rfl,.inl #[o,.inr (.inl rfl)]]
  |some y =>
   show Re m (if n=⇑y.2.2 then _ else _) (if n=⇑(y.2.2.map (Kk.mp m.k)) then _ else _);rw[bM]
   by_cases c:n=⇑y.2.2
   .rw[if_pos c,if_pos c];exact .ok _
   .rw[if_neg c,if_neg c];calc .err #[rfl,.inl #[o,.inr (.inl rfl)]]
 |call f =>
  let p:Wds.ok f:=Wo.ok l;show Re m (match ds.find? (λd=>decide (d.1=f))with
  |none=>.error (.nn,f)
  |some d=>if n=d.2 then .ok gs else .error (.wr,f)) (match(ds.map λd=>(m.d d.1,d.2)).find? (λd=>decide (d.1=m.d f))with
  |none=>.error (.nn,m.d f)
  |some d=>if n=d.2 then .ok gs else .error (.wr,m.d f))
  rw[sW I I.d (key:=λd:AA×Nat=>d.1) (key':=λd:AA×Nat=>d.1) (g:=λd=>(m.d d.1,d.2)) (λ_=>rfl) p wd]
  cases ds.find? (λd=>decide (d.1=f))with
  |none=>calc .err #[rfl,.inl #[p,.inr (.inr (.inl rfl))]]
  |some y =>
   show Re m (if n=y.2 then _ else _) (if n=y.2 then _ else _)
   by_cases c:n=y.2
   .rw[if_pos c,if_pos c];exact .ok _
   .rw[if_neg c,if_neg c];calc .err #[rfl,.inl #[p,.inr (.inr (.inl rfl))]]
 |mat arms =>
  show Re m (match gE kl arms with
  |some f=>.error f
  |none=>.ok gs) (match gE (kl.map (jS m)) (arms.map (ye m))with
  |some f=>.error f
  |none=>.ok gs)
  let q:=II I w (show ∀a∈arms,Wo a.1/\∀x∈a.2,Wo x from l);generalize gE kl arms=a at q|-;generalize gE (kl.map (jS m)) (arms.map (ye m))=b at q|-
  cases q with
  |none=>calc .ok _
  |some e=>calc .err e
 |fold x y =>
  let j:Wds.ok x:=Wo.ok l.1;let r:Wds.ok y:=Wo.ok l.2;show Re m (if x=y then .error (.tw,x)else .ok gs) (if m.n x=m.n y then .error (.tw,m.n x)else .ok gs)
  by_cases c:x=y
  .rw[if_pos c,if_pos ((I.n.eq j r).mpr c)];exact .err #[rfl,.inl #[j,.inr (.inr (.inr rfl))]]
  .rw[if_neg c,if_neg (λz=>c ((I.n.eq j r).mp z))];calc .ok _
 |gap k =>
  show Re m (if k∈gs then .error (.tw,"?")else .ok (gs++[k])) (if k∈gs then .error (.tw,"?")else .ok (gs++[k]))
  by_cases c:k∈gs
  .rw[if_pos c];exact .err #[rfl,.inr #[rfl,.inl rfl]]
  .rw[if_neg c];calc .ok _
 |num _=>calc .ok _
 |op _=>calc .ok _
 |row=>calc .ok _
 |more=>calc .ok _
 |first=>calc .ok _
 |others=>calc .ok _
 |long=>calc .ok _
 |ife=>calc .ok _
 |lt _=>exact .ok _
omit I in
def Fw (m:Mp)(h:Hd)(n:Nat):bnd (Fq m h) n=(bnd h n).map (Xr m.n):=by
 cases h with
 |mat arms =>
  show []::(arms.map (ye m)).map (·.2)=[]::(arms.map (·.2)).map (Xr m.n);rw[Qm,Qm];rfl
 |lt x=>rfl
 |fold x y=>rfl
 |_=>exact(show P7 n ([]:List AA)=(P7 n []).map (Xr m.n) by rw[X5];rfl)
omit I in
def Lz (e:HW h):∀b∈bnd h n,∀x∈b,Wds.ok x:=by
 intro b hb x d
 cases h with
 |mat arms =>
  rcases P1.mp (show b∈[]::arms.map (·.2)from hb)with rfl|hb
  .cases d
  .have(a,g,rfl):=Qa.mp hb;calc((e a g).2 x d).ok
 |lt y =>
  let hb:b∈[[],[y]]:=hb;simp only[P1,Qo,or_false]at hb;rcases hb with rfl|rfl
  .cases d
  .rw[vv.mp d];calc Wo.ok e
 |fold y z =>
  let hb:b∈[[],[],[y,z]]:=hb;simp only[P1,Qo,or_false]at hb;rcases hb with rfl|rfl|rfl
  .cases d
  .cases d
  .simp only[P1,Qo,or_false]at d;rcases d with rfl|rfl
   .exact e.1.ok
   .exact e.2.ok
 |_=>rw[(Up.mp hb).2]at d;cases d
def M1 (w:∀k∈kl,Dk k){ds:MC (AA×Nat)}(wd:∀d∈ds,Wds.ok d.1){j:Tm}:Ta j->∀{gs:MC Int}{ns:List AA},(∀x∈ns,Wds.ok x)->Re m (sD kl ds gs ns j) (sD (kl.map (jS m)) (ds.map λd=>(m.d d.1,d.2)) gs (ns.map m.n) (m9 m j)):=by
 refine Tm.induct (P:=λj=>Ta j->∀{gs:MC Int}{ns:List AA},(∀x∈ns,Wds.ok x)->Re m (sD kl ds gs ns j) (sD (kl.map (jS m)) (ds.map λd=>(m.d d.1,d.2)) gs (ns.map m.n) (m9 m j))) (λh ks z t gs ns wn=>?_) j
 cases t with
 |mk _ wh wk =>
 let o:∀(l:MC Tm),(∀k∈l,k∈ks)->∀(bs:MC (List AA)),(∀b∈bs,∀x∈b,Wds.ok x)->∀(gs:MC Int),Re m (m6 kl ds gs ns bs l) (m6 (kl.map (jS m)) (ds.map λd=>(m.d d.1,d.2)) gs (ns.map m.n) (bs.map (Xr m.n)) (l.map (m9 m))):=by
  intro l
  induction l with
  |nil=>intro _ bs _ gs;rw[kQ,RL,kQ];calc .ok _
  |cons k r ihl =>
   intro u bs v gs
   cases bs with
   |nil =>
    unfold m6;calc .ok _
   |cons b bs =>
    rw[Qd,Qd,iV,iV];let q:=z k (u k (.head _)) (wk k (u k (.head _))) (gs:=gs) (ns:=ns++b) (λx p=>(zv.mp p).elim (wn x) (v b (.head _) x));rw[i4]at q;generalize sD kl ds gs (ns++b) k=x at q|-;generalize sD (kl.map (jS m)) (ds.map λd=>(m.d d.1,d.2)) gs (ns.map m.n++b.map m.n) (m9 m k)=y at q|-
    cases q with
    |err e=>calc .err e
    |ok g=>exact ihl (λx p=>u x (.tail _ p)) bs (λc B=>v c (.tail _ B)) g
 rw[kU,rH,rH,bM,Fw];let q:=IJ I w wd (gs:=gs) wn (n:=⇑ks) wh;generalize fU kl ds gs ns h ⇑ks=x at q|-;generalize fU (kl.map (jS m)) (ds.map λd=>(m.d d.1,d.2)) gs (ns.map m.n) (Fq m h) ⇑ks=y at q|-
 cases q with
 |err e=>calc .err e
 |ok g=>calc o ks (λ_ h=>h) _ (Lz wh) g
def IK (w:∀k∈kl,Dk k):∀{dl:MC Df}{ds:MC (AA×Nat)}{gs os:MC Int},(∀d∈ds,Wds.ok d.1)->(∀d∈dl,EU d/\Ta d.2.2)->Ro m (jx kl ds gs os dl) (jx (kl.map (jS m)) (ds.map λd=>(m.d d.1,d.2)) gs os (dl.map (zN m))):=by
 intro dl
 induction dl with
 |nil=>intro _ _ _ _ _;calc .none
 |cons d r ih =>
  intro ds gs os wd u;let((B,v),C):=u d (.head _);let hd:Wds.ok d.1:=B.ok;let j:∀x∈ds.map (·.1),Wds.ok x:=λx l=>by let(e,o,rfl):=Qa.mp l;exact wd e o
  rw[Qd,ow,ow,show(ds.map λd=>(m.d d.1,d.2)).map (·.1)=(ds.map (·.1)).map m.d by rw[Qm,Qm];rfl,show(zN m d).1=m.d d.1 from rfl]
  by_cases c:d.1∈ds.map (·.1)
  .rw[if_pos c,if_pos ((I.d.mem hd j).mpr c)];exact .some #[rfl,.inl #[hd,.inr (.inr (.inl rfl))]]
  rw[if_neg c,if_neg (λz=>c ((I.d.mem hd j).mp z)),show(kl.map (jS m)).map (·.1)=(kl.map (·.1)).map m.k by rw[Qm,Qm];rfl];let q:=wA I (kn:=kl.map (·.1)) (λx l=>by let(k,D,rfl):=Qa.mp l;calc(w k D).1.ok) (ah:=[]) (os:=os) ⋯ v
  show Ro m (qB kl ds gs d r (cE (kl.map (·.1)) [] os d.2.1)) (qB (kl.map (jS m)) (ds.map λd=>(m.d d.1,d.2)) gs (zN m d) (r.map (zN m)) (cE ((kl.map (·.1)).map m.k) (([]:List AA).map m.n) os (d.2.1.map (Ft m))));generalize cE (kl.map (·.1)) [] os d.2.1=x at q|-;generalize cE ((kl.map (·.1)).map m.k) (([]:List AA).map m.n) os (d.2.1.map (Ft m))=y at q|-
  cases q with
  |err e=>calc .some e
  |ok os' =>
   unfold qB
   show Ro m (match sD kl ds gs (d.2.1.map (·.1)) d.2.2 with
    |.error f=>U f
    |.ok gs'=>jx kl (ds++[(d.1,⇑d.2.1)]) gs' os' r) (match sD (kl.map (jS m)) (ds.map λd=>(m.d d.1,d.2)) gs ((d.2.1.map (Ft m)).map (·.1)) (m9 m d.2.2)with
    |.error f=>U f
    |.ok gs'=>jx (kl.map (jS m)) ((ds.map λd=>(m.d d.1,d.2))++[(m.d d.1,⇑(d.2.1.map (Ft m)))]) gs' os' (r.map (zN m)))
   rw[show(d.2.1.map (Ft m)).map (·.1)=(d.2.1.map (·.1)).map m.n by rw[Qm,Qm];rfl,bM];let q:=M1 I w wd C (gs:=gs) (ns:=d.2.1.map (·.1)) (λx l=>by let(p,t,rfl):=Qa.mp l;calc(v p t).1.ok);generalize sD kl ds gs (d.2.1.map (·.1)) d.2.2=x at q|-;generalize sD (kl.map (jS m)) (ds.map λd=>(m.d d.1,d.2)) gs ((d.2.1.map (·.1)).map m.n) (m9 m d.2.2)=y at q|-
   cases q with
   |err e=>calc .some e
   |ok g =>
    let z:=ih (ds:=ds++[(d.1,⇑d.2.1)]) (gs:=g) (os:=os') (λe o=>(zv.mp o).elim (wd e) (λz=>by rw[vv.mp z];calc hd)) (λe o=>u e (.tail _ o));rw[i4]at z;calc z
def IL (w:∀k∈kl,Dk k){dl:MC Df}(g:∀d∈dl,EU d/\Ta d.2.2):Ro m (cR kl dl) (cR (kl.map (jS m)) (dl.map (zN m))):=by
 unfold cR;let q:=zP I (ah:=[]) (ta:=[]) ⋯ ⋯ w
 rw[RL,RL]at q;generalize cY [] [] kl=x at q|-;generalize cY [] [] (kl.map (jS m))=y at q|-
 cases q with
 |some e=>calc .some e
 |none=>calc IK I w (ds:=[]) ⋯ g
end
end G16
namespace G16
open PySem L2
meta def uK[Wds](H:Hp)(a:AB)(f:AA->AA):Prop:=∃d,H a=U (.dK d)/\∀x,Wds.ok x->eM d (Sum.inr x)=U (.str (f x))
structure zQ[Wds] (H:Hp) (lm:AB) (m:Mp):Prop where
 x:∃a b c d,H lm=U (.Y [.ref a,.ref b,.ref c,.ref d])/\uK H a m.k/\uK H b m.t/\uK H c m.d/\uK H d m.n
def uK.Z [Wds](h:uK H a f)(s:aS H g):uK g a f:=by
 let(d,e,q):=h;calc#[d,s _ _ e,q]
def zQ.Z [Wds](h:zQ H g m)(s:aS H j):zQ j g m:=by
 let(a,b,c,d,e,q,p,o,l):=h.x;calc#[a,b,c,d,s _ _ e,q.Z s,p.Z s,o.Z s,l.Z s]
def uK.get [Wds](h:uK H a f){x:AA}(g:Wds.ok x):fX H a (.str x) (U (.str (f x))):=by
 let(d,e,q):=h;rw[<-q x g];calc fX.k (k:=Sum.inr x) e
meta def qE[Wds](K:cB)(n:Nat):Sp:=λj H Q _=>∃(v:V) (g:AB) (k:Kk) (m:Mp),j=[v,.ref g]/\Rp K H (jN k) v/\k.dep<n/\(∀x,k.core=.kd x->Wds.ok x)/\zQ H g m/\∀e d,aS H d->Rp K d (jN (k.mp m.k)) e->Q e d
def eJ :Nm Zv (af jJ):=∅
def yf :aY Zv Zv (af jJ):=by ac_rfl
def CW [Wds](Z:1<=j)(F:i9 K "_law_kind_of" "_law_kind_of" jJ f D)(z:Ya "_law_kind_of" j Zv (qE K n) gK kfd)(g:mg "tuple"=gV)(e:mg "isinstance"=gV):Yf gy (j+1) f D Zv (qE K (n+1)):=by
 exists F.ok yf
 .have(_,_,_,_,rfl,_):=h;rfl
 let(v,X,k0,m,rfl,o,hd,C,N,k):=h;refine#[_,(Z5 (Zb (PW.pt (iY[7]! (qM[3]! (Z2 (vV K rfl) e QD (Z1 (va eJ 0) (Za (lX (v:=.ty "tuple") (by left) g ∅ rfl)))) (by intro _;rfl)) (iu[4]! (Zh bV (Z7 aJ (va eJ 0)) aC)))) (Zd (Zo (Ze (Z1 aC (Z1 (Z0 z (Z1 (Z7 aJ (va eJ 0)) (Za (va eJ 1)))) ak)))))) (Z5 (Zb (PW.pt (iY[7]! (qM[3]! (Z2 (vV K rfl) e QD (Z1 (va eJ 0) (Za (lX (v:=.ty "tuple") (by left) g ∅ rfl)))) (by intro _;rfl)) (iu[4]! (Zh bV (Z7 aJ (va eJ 0)) aC)))) (Zd (Zo (Ze (Z1 aC (Z1 (Zs (Z7 br (va eJ 1)) (Z7 aJ (va eJ 0))) ak)))))) (Zd (eX (va eJ 0))))),?_]
 right
 right
 let(a,b,c,d,Y,J,W,V,gD):=N.x
 cases k0 with
 |num =>
  obtain rfl:=(show Rp K H (.s "num") v from o).aP;let fin:=k _ H (aS.refl _) o;ext;calc .inr (.inl #[_,rfl,?_]);ext;calc .inr (.inl #[_,rfl,?_]);ext;calc fin
 |kd x =>
  let(B,L,q,rfl,l,u,y):=(show Rp K H (.t [.s "kind",.s x]) v from o).t2;obtain rfl:=u.aP;obtain rfl:=y.aP;let dg:=J.get (C x rfl);ext;calc .inl #[_,_,rfl,l,?_];ext;calc .inl #[_,_,rfl,l,?_];ext p r;calc k _ _ (ae r _) (Rp.new (K:=K) (xs:=[.s "kind",.s (m.k x)]) r (.cons .s (.one .s)))
 |op n =>
  let fin:=k _ H (aS.refl _) o;let(B,L,q,rfl,l,u,y):=(show Rp K H (.t [.s "open",.i n]) v from o).t2;obtain rfl:=u.aP;ext;calc .inl #[_,_,rfl,l,?_];ext;calc .inl #[_,_,rfl,l,?_];ext;calc fin
 |row q =>
  let(B,T,S,rfl,l,u,y):=(show Rp K H (.t [.s "row",jN q]) v from o).t2;obtain rfl:=u.aP;let O:q.dep<n:=Sz hd;let M:∀x,q.core=.kd x->Wds.ok x:=C;ext;calc .inl #[_,_,rfl,l,?_];ext R H3 I r3;ext p r;calc k _ _ (I.trans (ae r _)) (Rp.new (K:=K) (xs:=[.s "row",jN (q.mp m.k)]) r (.cons .s (.one r3)))
def IP (hd:Hd):(∃x,hd=.name x)\/(∃t,hd=.tag t)\/(∃f,hd=.call f)\/(∃arms,hd=.mat arms)\/(∃x,hd=.lt x)\/(∃x y,hd=.fold x y) \/
  ((∀m,Fq m hd=hd)/\∀e,∃d rest,mY hd e=.t (.s d::rest)/\d≠"name"/\d≠"tag"/\d≠"call"/\d≠"match"/\d≠"let"/\d≠"fold"):=by
 cases hd with
 |name x=>calc .inl #[x,rfl]
 |tag t=>calc .inr (.inl #[t,rfl])
 |call f=>calc .inr (.inr (.inl #[f,rfl]))
 |mat a=>calc .inr (.inr (.inr (.inl #[a,rfl])))
 |lt x=>calc .inr (.inr (.inr (.inr (.inl #[x,rfl]))))
 |fold x y=>calc .inr (.inr (.inr (.inr (.inr (.inl #[x,y,rfl])))))
 |_=>calc .inr (.inr (.inr (.inr (.inr (.inr #[λ_=>rfl,λ_=>#[_,_,rfl,∅,∅,∅,∅,∅,∅]])))))
meta def qF[Wds](K:cB)(n:Nat):Sp:=λl H Q _=>∃(v:V) (j:AB) (d:Tm) (m:Mp) (q:Nat),l=[v,.ref j]/\Rp K H (enc d) v/\Tb q d/\q<=3/\d.size<=80/\d.depth<n/\zQ H j m/\∀g e,aS H e->Rp K e (enc (m9 m d)) g->Q g e
structure PK(K:cB) (H:Hp) (ts:MC T) (H':Hp) (us:MC V):Prop where
 s:aS H H'
 r:bS K H' ts us
structure PL(K:cB) (H:Hp) (l1 l2:AB) (ur:MC V) (ts:MC T) (i:Nat) (H2:Hp):Prop where
 s:aS H H2
 z:H2 l2=U (.Y ur)
 w:∃vs,H2 l1=U (.Y vs)/\bS K H2 ts vs/\⇑vs=i
def aL :Nm Y0 (af fS):=∅
def j6 :Lm Y0 (af fS):=∅
def ju :aY Y0 ZV (af fS):=by ac_rfl
def CY [Wds](hj:1<=j)(F:i9 K "_law_term_of" "_law_term_of" fS f fd)(WI:Ya "_law_within" 1 Zz (kR K) gW wfd)(b3:Ya "_law_back" 1 ZD (uJ K) gB bfd)(b2:Ya "_law_term_of" j ZV (qF K n) gT tfd)(o:mg "tuple"=gV)(ah:mg "zip"=gV)(ai:mg "int"=gV):Yf gy (j+1) f fd ZV (qF K (n+1)):=by
 exists F.ok ju
 .have(_,_,_,_,_,rfl,_):=h;rfl
 let(v,lm,Y,m,q,rfl,hv,tb,hq,hz,hd,hm,k):=h;refine#[_,(Z5 (nF[15]! (af fS) Y0 ["_law_inner"] [1] rfl rfl rfl ∅ (jU[4]! (Z0 WI (Za (va aL 0)))) (λ_ _ _ _=>(X1 Γo 0)) (λ_ _ _ _=>fj) (λ_ _ _ _=>(Z0 b2 (Z1 (Xt Γo 0) (Za (Xt Γo 1))))) (ga ju.nd j6 2) (by kernel_rfl) (by intro _;rfl)) (Z5 (Zb (Zh bV (Z7 aJ (va aL 0)) aC) (Zd (Zo (Ze (Z1 aC (Z1 (Zs (Z7 br (va aL 1)) (Z7 aJ (va aL 0))) ak)))))) (Z5 (Zb (PW.pt (rO[7]! (Zh bV (Z7 aJ (va aL 0)) aC) (qN[4]! (Zh bV (Z7 aJ (va aL 0)) aC)))) (Zd (Zo (Ze (Z1 (Z7 aJ (va aL 0)) (Z1 (Zs (Zi (va aL 1) (Zi (aZ[4]! (cU au (Za au))) (Z6 iy ai Rc (Z1 (jC[8]! bV (Z7 aJ (va aL 0)) aC (mh _)) ak)))) (Z7 aJ (va aL 0))) (Z1 (Z6 bh o Qg (Za (va aL 2))) ak))))))) (Z5 (Zb (Zh bV (Z7 aJ (va aL 0)) aC) (Z5 (sa ju.nd j6 3 (aZ ak)) (Z5 (Zl QU (D8 K rfl (by left) ah (Z1 (Z7 aJ (va aL 0)) (Z1 (iE jV (va aL 2) (bL au) bW) ak))) (Zc (Zf (ga ju.nd j6 4) (Zt (ga ju.nd j6 5)))) (Zd (Zm (Z8 (va aL 3) (Z1 (Ze (Z1 (Zs (Z7 br (va aL 1)) (Z7 aJ (va aL 4))) (Z1 (Z6 bh o Qg (Z1 (Zg (af fS) Y0 ["_law_x"] [1] (dj[4]! (Z7 aJ (va aL 4))) (λ_ _ _ _=>(X1 Γs 0)) (λ_ _ _ _=>(Zs (Z7 (qg K rfl) (Xt Γs 1)) (Xt Γs 0)))) ak)) (Za (va aL 5))))) ak))))) (Zd (Zo (Ze (Z1 aC (Z1 (Z7 br (va aL 2)) (Z1 (Z6 bh o Qg (Za (va aL 3))) ak))))))))) (Z5 (Zb (Zh bV (Z7 aJ (va aL 0)) aC) (Zd (Zo (Ze (Z1 aC (Z1 (Zs (Z7 br (va aL 1)) (Z7 aJ (va aL 0))) (Z1 (Z7 br (va aL 2)) (Z1 (Z7 br (va aL 2)) ak)))))))) (Z5 (Zb (Zh bV (Z7 aJ (va aL 0)) aC) (Zd (Zo (Ze (Z1 aC (Z1 (Z7 br (va aL 2)) (Z1 (Zs (Z7 br (va aL 1)) (Z7 aJ (va aL 0))) (Z1 (Zs (Z7 br (va aL 1)) (Z7 aJ (va aL 0))) (Z1 (Z7 br (va aL 2)) (Z1 (Z7 br (va aL 2)) ak)))))))))) (Zd (Zo (Z0 b3 (Z1 (va aL 0) (Za (va aL 2)))))))))))),?_]
 right
 right
 calc ql ?_;intro N1 N2 N3 N4 N5 N6 c1 c2 c3 c4 c5 c6;let wf:=tb.wf;let ch:Y.size<=900:=()
 ext p2 S av s2 ck h2 r2;let l2:=⇑r2;rw[bM]at l2;let hk:=wg Y;let bv:=hm.Z s2
 let bm:∀k∈Y.ks,Tb q k/\k.depth<n/\k.size<=80:=λx hx=>by
  cases Y with
  |mk h ks =>
   let(_,_,_,tk):=tb.inv;exact#[tk x hx,by let:x.depth<(Tm.mk h ks).depth:=Tm.jy hx;omega,by let:x.size<=Tm.sizes ks:=ki hx;rw[Tm.eG]at hz;omega]
 ext;refine j8 (K:=K) (a:=p2) (xs:=av) (λi M L Hd=>(∃x,M=[x,U (.ref lm)])/\Hd p2=U (.Y av)/\PK K S ((Y.ks.take i).map λk=>enc (m9 m k)) Hd L) #[#[_,rfl],h2,#[aS.refl _,.nil]] ?_ (QB (bg ())) ?_ ?_ ?_
 .rintro i M L Hd hi ⟨_,_,t⟩;rw[⇑t.r,bM,I0];omega
 .rintro i M L Hd hi ⟨_,hd,_⟩;exact aV.of hd
 .rintro i x M L Hd hi ⟨⟨x0,rfl⟩,bc,t⟩;let(y,hy,ry):=r2.get' hi;rw[EF]at hy;let(kq,a9,rfl):=IF.mp hy;let am:i<⇑Y.ks:=(eF.mp a9).1;let bi:Y.ks[i]=kq:=(eF.mp a9).2;let bt:kq∈Y.ks:=by rw[<-bi];exact Qz am
  let(tq,dq,zq):=bm kq bt;let cc:=ry.Z t.s;let cl:=bv.Z t.s;ext v' H4 s4 r4;ext
  .exact s4 _ _ bc
  calc#[t.s.trans s4,?_];rw[we am,bi,i4];exact(t.r.Z s4).snoc r4
 .rintro M L Hd ⟨_,bc,t⟩ p9 hp9;let s9:=ae hp9 (.Y L);let h9:upd Hd p9 (.Y L) p9=U (.Y L):=aj;let rj:=t.r.Z s9;rw[l2,Ql]at rj;let aw:=t.s.trans s9;generalize upd Hd p9 (.Y L)=H9 at s9 h9 rj aw|-;let B:=s2.trans aw;let bu:=hm.Z B;let C:=hv.Z B;let bp:=⇑rj;rw[bM]at bp;let cp:aV K H9 p9 L:=aV.of h9;let zu:⇑L<my:=bg ()
  cases Y with
  |mk h0 ks =>
  let(ar,hw,aq,dd):=tb.inv;rw[bG]at C;let(a,b,c,d,hl,m1,m2,m3,m4):=bu.x;let co:aV K H9 lm [.ref a,.ref b,.ref c,.ref d]:=aV.of hl;calc c1.go ?_;clear c1;rcases IP h0 with⟨x,rfl⟩|⟨t1,rfl⟩|⟨f1,rfl⟩|⟨arms,rfl⟩|⟨x,rfl⟩|⟨x,y,rfl⟩|⟨hh,he⟩
  .obtain rfl:ks=[]:=by simpa[dc]using ar
   let(ka,v1,v2,rfl,gD,e1,e2):=(show Rp K H9 (.t [.s "name",.s x]) v from C).t2;obtain rfl:=e1.aP;obtain rfl:=e2.aP;let dg:=m4.get (Wo.ok hw);ext p D;exact k _ _ (B.trans (ae D _)) (by rw[kU,bG];calc Rp.new (K:=K) (xs:=[.s "name",.s (m.n x)]) D (.cons .s (.one .s)))
  .have(ka,v1,v2,v3,rfl,gD,e1,e2,e3):=(show Rp K H9 (.t [.s "tag",.s t1,.t (ks.map enc)]) v from C).t3;obtain rfl:=e1.aP;obtain rfl:=e2.aP;ext;calc nw λl1 G g O al=>?_;let b1:aV K G l1 [.int 1,.int 2]:=aV.of O;let ac:=gD.Z g;let ap:aV K G lm [.ref a,.ref b,.ref c,.ref d]:=aV.of (g _ _ hl);let dg:=(m2.Z g).get (Wo.ok hw);let R:=g _ _ h9;ext;calc .inr #[_,rfl,?_];ext;calc .inl #[aV.of R,λp3 J=>?_];let I:=ae J (.J L);let r3:=Rp.new (K:=K) J (rj.Z g);generalize upd G p3 (.J L)=ab at I r3|-;ext p D;exact k _ _ (B.trans ((g.trans I).trans (ae D _))) (by rw[kU,bG,Qm];calc Rp.new (K:=K) (xs:=[.s "tag",.s (m.t t1),.t (ks.map λk=>enc (m9 m k))]) D (.cons .s (.cons .s (.one r3))))
  .have(ka,v1,v2,v3,rfl,gD,e1,e2,e3):=(show Rp K H9 (.t [.s "call",.s f1,.t (ks.map enc)]) v from C).t3;obtain rfl:=e1.aP;obtain rfl:=e2.aP;ext;calc nw λl1 G g O al=>?_;let b1:aV K G l1 [.int 1,.int 2]:=aV.of O;let ac:=gD.Z g;let ap:aV K G lm [.ref a,.ref b,.ref c,.ref d]:=aV.of (g _ _ hl);let dg:=(m3.Z g).get (Wo.ok hw);let R:=g _ _ h9;ext;calc .inr #[_,rfl,?_];ext;calc .inl #[aV.of R,λp3 J=>?_];let I:=ae J (.J L);let r3:=Rp.new (K:=K) J (rj.Z g);generalize upd G p3 (.J L)=ab at I r3|-;ext p D;exact k _ _ (B.trans ((g.trans I).trans (ae D _))) (by rw[kU,bG,Qm];calc Rp.new (K:=K) (xs:=[.s "call",.s (m.d f1),.t (ks.map λk=>enc (m9 m k))]) D (.cons .s (.cons .s (.one r3))))
  .obtain⟨k0,W,rfl⟩:∃k0 W,ks=k0::W:=by
    cases ks with
    |nil=>simp[dc]at ar
    |cons y r=>exact#[_,_,rfl]
   let aa:⇑arms=⇑W:=by let:=ar;simp[dc]at this;omega
   let(ka,v1,v2,v3,rfl,gD,e1,e2,e3):=(show Rp K H9 (.t [.s "match",enc k0,.t (QE jF arms (W.map enc))]) v from C).t3;obtain rfl:=e1.aP;let(b',bj,rfl,an,a8):=e3.aT;let(u0,X,rfl,f0,fr):=rj.inv;let a4:=⇑a8;rw[Rq,bM,aa,S3]at a4;let a3:=⇑fr;rw[bM]at a3;let a0:fM (u0::X) 0=U u0:=aG (j:=0) rfl;ext;calc nw λl1 G g O al=>?_;let ac:=gD.Z g;let b0:=an.Z g;let ca:aV K G p9 (u0::X):=aV.of (g _ _ h9);ext;calc nw λl2 ab I ao bw=>?_;rw[show gx (u0::X) (U 1) gV=X from iA (u0::X) 1]at ao;let bo:l1≠l2:=ay O bw;let be:H9 l1=gV:=al;let ad:=g.trans I;let bz:mW K AD ab b' bj:=an.Z ad;let bf:=I _ _ O;let cs:mW K AE ab l2 X:=aV.of ao;ext;refine GW (K:=K) (xs:=bj) (ys:=X) (λi M S=>(∃o4 o5,M=[U (.ref ka),U (.ref lm),U (.ref p9),U (.ref l1),o4,o5])/\PL K H9 l1 l2 X (QE jF ((arms.take i).map (ye m)) ((W.take i).map λk=>enc (m9 m k))) i S) #[#[_,_,rfl],#[ad,ao,[],bf,.nil,rfl]] ?_ ?_ ?_ ?_
   .exact λi M S _ ⟨_,t⟩=>an.Z t.s
   .exact λi M S _ ⟨_,t⟩=>aV.of t.z
   .rintro i xv yv M S p hx hy ⟨⟨_,_,rfl⟩,tl⟩ D;let(ws,q1,rr,lw):=tl.w;let(ta,bs,ra):=a8.get' hx;let(x,kk,a6,rfl):=Fg bs;let(tk,bq,rk):=fr.get' hy;let(kq,bb,rfl):=IF.mp (by rw[<-bq,EF]:(W[i]?).map (λk=>enc (m9 m k))=U tk);let(xa,x1,x2,x3,rfl,bk,w1,w2,w3):=(show Rp K H9 (.t [.s x.1,.t (x.2.map .s),kk]) xv from ra).t3;obtain rfl:=w1.aP;let(na,ce,rfl,bn,nr):=w2.aT;let a5:x∈arms:=P6 a6;let a7:=(show ∀a∈arms,Wo a.1/\∀x∈a.2,Wo x from hw) x a5;let ci:=(aq arms rfl).2 x a5;let s3:=ae D (.J [V.ref xa,yv]);let h3:b9 K (upd S p (.J [V.ref xa,yv])) p [V.ref xa,yv]:=b9.of aj;let a1:=s3 _ _ q1;let z3:=s3 _ _ tl.z;let ax:=rr.Z s3;let u:=tl.s.trans s3;generalize upd S p (.J [V.ref xa,yv])=H3 at s3 h3 a1 z3 ax u|-;let b4:=bk.Z u;let a2:=bn.Z u;let b7:aV K H3 lm [.ref a,.ref b,.ref c,.ref d]:=aV.of (u _ _ hl);let dg:=(m2.Z u).get (Wo.ok a7.1);ext;refine j9 (K:=K) (e:=T.s) (φ:=λy=>[.s (m.n y)]) (λM=>∃z,M=[z,U (.ref lm)]) a2 (nr.Z u) () (λ_=>u4 _) #[_,rfl] ?_ ?_
    .rintro y hym z _ H6 N s6 ⟨_,rfl⟩ rx kN;obtain rfl:=(show Rp K H6 (.s y) z from rx).aP;let b6:aV K H6 lm [.ref a,.ref b,.ref c,.ref d]:=aV.of ((u.trans s6) _ _ hl);let cn:=(m4.Z (u.trans s6)).get (Wo.ok (a7.2 y hym));ext;exact kN _ _ _ #[#[_,rfl],aS.refl _,.one .s]
    intro l4 H4 as s4 cm h4 r4;rw[nH]at r4;ext;calc .inl #[aV.of h4,λp5 ba=>?_];let s5:=ae ba (.J as);let r5:=Rp.new (K:=K) ba r4;generalize upd H4 p5 (.J as)=H5 at s5 r5|-;ext;calc nw λp6 H6 s6 h6 cj=>?_;let Z:=s4.trans (s5.trans s6);let az:=Z _ _ a1;let cr:aV K H6 l1 ws:=aV.of az;let am:i<⇑W:=(eF.mp bb).1;let bx:⇑(k0::W)<=(Tm.mk (L2.Hd.mat arms) (k0::W)).size:=QB hk;let cf:⇑ws<my:=bg (by rw[Qn]at bx;omega);ext;let kt:Kt H6 (upd H6 l1 (.Y (ws++[V.ref p6]))):=Kt.Y az _;let sT:aS H9 (upd H6 l1 (.Y (ws++[V.ref p6]))):=aS.w5 (u.trans Z) be _;calc#[sT,by rw[aB (RP bo)];calc Z _ _ z3,ws++[V.ref p6],aj,?_,by rw[mu,lw];rfl];rw[oA a6,oA bb,i4,i4,VX,VX,zL (by rw[bM,bM,I0,I0,aa])];calc((ax.Z Z).kt kt).snoc (Rp.kt kt ?_);exact Rp.nw (K:=K) (xs:=[.s (m.t x.1),.t ((x.2.map m.n).map .s),enc (m9 m kq)]) h6 s6 (.cons .s (.cons (by rw[Qm];calc r5) (.one ((rk.Z u).Z (s4.trans s5)))))
   .rintro M S ⟨⟨_,_,rfl⟩,tl⟩;let(ws,q1,rr,lw):=tl.w;rw[a4,a3,S3,<-aa,Ql,aa,Ql]at rr;let cb:=gD.Z tl.s;let cq:aV K S p9 (u0::X):=aV.of (tl.s _ _ h9);ext;calc .inl #[aV.of q1,λp3 J=>?_];let s3:=ae J (.J ws);let r3:=Rp.new (K:=K) J rr;generalize upd S p3 (.J ws)=H3 at s3 r3|-;ext p D;let fin:=Rp.new (K:=K) (xs:=[.s "match",enc (m9 m k0),.t (QE jF (arms.map (ye m)) (W.map λk=>enc (m9 m k)))]) D (.cons .s (.cons (f0.Z (tl.s.trans s3)) (.one r3)));calc k _ _ (B.trans ((tl.s.trans s3).trans (ae D _))) ?_;rw[kU,bG,Qm];exact fin
  .obtain⟨k0,k1,rfl⟩:∃k0 k1,ks=[k0,k1]:=by
    rcases ks with _|⟨a,_|⟨b,_|⟨c,r⟩⟩⟩<;>first|exact#[_,_,rfl]|simp[dc]at ar
   let(ka,v1,v2,v3,v4,rfl,gD,e1,e2,e3,e4):=(show Rp K H9 (.t [.s "let",.s x,enc k0,enc k1]) v from C).t4;obtain rfl:=e1.aP;obtain rfl:=e2.aP;let dg:=m4.get (Wo.ok hw);let(u1,_,rfl,f1,fr):=rj.inv;let(u2,_,rfl,f2,fr):=fr.inv;obtain rfl:=fr.gz;ext p D;exact k _ _ (B.trans (ae D _)) (by rw[kU,bG];calc Rp.new (K:=K) (xs:=[.s "let",.s (m.n x),enc (m9 m k0),enc (m9 m k1)]) D (.cons .s (.cons .s (.cons f1 (.one f2)))))
  .obtain⟨k0,k1,k2,rfl⟩:∃k0 k1 k2,ks=[k0,k1,k2]:=by
    rcases ks with _|⟨a,_|⟨b,_|⟨c,_|⟨d,r⟩⟩⟩⟩<;>first|exact#[_,_,_,rfl]|simp[dc]at ar
   let(ka,bl,rfl,gD,l):=(show Rp K H9 (.t [.s "fold",enc k0,.s x,.s y,enc k1,enc k2]) v from C).aT;let(y0,_,rfl,g0,l):=l.inv;let(y1,_,rfl,g1,l):=l.inv;let(y2,_,rfl,g2,l):=l.inv;let(y3,_,rfl,g3,l):=l.inv;let(y4,_,rfl,g4,l):=l.inv;let(y5,_,rfl,g5,l):=l.inv;obtain rfl:=l.gz;obtain rfl:=g0.aP;obtain rfl:=g2.aP;obtain rfl:=g3.aP;let dx:=m4.get (Wo.ok hw.1);let dy:=m4.get (Wo.ok hw.2);let(u1,_,rfl,f1,fr):=rj.inv;let(u2,_,rfl,f2,fr):=fr.inv;let(u3,_,rfl,f3,fr):=fr.inv;obtain rfl:=fr.gz;ext p D;exact k _ _ (B.trans (ae D _)) (by rw[kU,bG];calc Rp.new (K:=K) (xs:=[.s "fold",enc (m9 m k0),.s (m.n x),.s (m.n y),enc (m9 m k1),enc (m9 m k2)]) D (.cons .s (.cons f1 (.cons .s (.cons .s (.cons f2 (.one f3)))))))
  .have(fm,rest,he,n1,n2,n3,n4,n5,n6):=he (ks.map enc);let ag:=C;rw[he]at ag;let(ka,bl,rfl,gD,l):=ag.aT;let(y0,wr,rfl,g0,l):=l.inv;obtain rfl:=g0.aP;let ct:fM (V.str fm::wr) 0=U (.str fm):=aG (j:=0) rfl;let ne:∀{z:AA},fm≠z->¬decide (V.str fm=V.str z)=AD:=λ{z} h e=>h (V.str.inj (of_decide_eq_true e));ext;calc b8 (λe=>absurd e (ne n1)) (λ_=>?_);calc c2.go ?_;ext;rw[decide_eq_false (show ¬V.str fm=V.str "tag" from λz=>n2 (V.str.inj z))];ext;calc b8 (λe=>absurd e (ne n3)) (λ_=>?_);calc c3.go ?_;ext;calc b8 (λe=>absurd e (ne n4)) (λ_=>?_);calc c4.go ?_;ext;calc b8 (λe=>absurd e (ne n5)) (λ_=>?_);calc c5.go ?_;ext;calc b8 (λe=>absurd e (ne n6)) (λ_=>?_);calc c6.go ?_;let b5:Rp K H9 (enc (.mk h0 ks)) (.ref ka):=by rw[bG];exact C
   let cd:bS K H9 ((ks.map (m9 m)).map enc) L:=by rw[Qm];exact rj
   let lj:⇑(ks.map (m9 m))=⇑ks:=bM _;let cg:⇑ks<=900:=by let:⇑ks<(Tm.mk h0 ks).size:=hk;omega
   ext v' HA sA rA;ext;calc k _ _ (B.trans sA) (by rw[kU,hh];calc rA)
end G16
namespace L2
open PySem PySem.Spec PyProof.Rows
def uL (K:cB)(d:X.K=K):iQ X (.type "tuple") (λxs H Q=>∃p ys,xs=[.ref p]/\((aV K H p ys/\∀l,H l=gV->Q (.ref l) (upd H l (.J ys)))\/(b9 K H p ys/\Q (.ref p) H))):=by
 subst d;calc bh
end L2
namespace G16
open PySem L2
meta def oB[Wds](K:cB):Sp:=λo H Q _=>∃(v:V) (l:AB) (d:Kl) (e:MC Df) (m:Mp) (q:Nat),o=[v,.ref l]/\Rp K H (.t [.t (d.map fP),.t (e.map iC)]) v/\Pq q d e/\q<=3/\zQ H l m /\
 ∀j g,aS H g->Rp K g (.t [.t ((d.map (jS m)).map fP),.t ((e.map (zN m)).map iC)]) j->Q j g
structure OH(K:cB) (H:Hp) (l:AB) (ts:MC T) (i:Nat) (H2:Hp):Prop where
 s:aS H H2
 w:∃vs,H2 l=U (.Y vs)/\bS K H2 ts vs/\⇑vs=i
def bP :Nm YT (af fY):=∅
def dQ :Lm YT (af fY):=∅
def cS :aY YT ZY (af fY):=by ac_rfl
def AV [Wds](co:jk<=j)(cn:jt<=j)(h2:2<nk)(h9:9<nt)(F:i9 K "_law_named_so" "_law_named_so" fY f fd)(ba:Ya "_law_kind_of" jk Zv (qE K nk) gK kfd)(bz:Ya "_law_term_of" jt ZV (qF K nt) gT tfd)(g:mg "tuple"=gV):Yf gy (j+1) f fd ZY (oB K):=by
 exists F.ok cS
 .have(_,_,_,_,_,_,rfl,_):=h;rfl
 let(v,gD,kl,dl,m,q,rfl,r,pq,hq,hm,k):=h;refine#[_,(Z5 (sa cS.nd dQ 2 (aZ ak)) (Z5 (Zl QU (dj[4]! (Z7 aJ (va bP 0))) (Zc (Zf (ga cS.nd dQ 3) (Zt (ga cS.nd dQ 4)))) (Z5 (nF[15]! (af fY) YT ZZ [1] rfl rfl rfl ∅ (dj (va bP 4)) (λ_ _ _ _=>(Zc (Zf (X1 ZH 0) (Zt (X1 ZH 1))))) (λ_ _ _ _=>fj) (λ_ _ _ _=>(Ze (Z1 (Zs (Z7 (qg K rfl) (Xt ZH 2)) (Xt ZH 0)) (Z1 (Z6 (uL K rfl) g Qg (Z1 (kH[12]! ZH ["_law_kind"] [2] rfl rfl rfl (by kernel_rfl) (wY K rfl (Xt ZH 1)) (λ_ _ _ _=>(X1 Zv 0)) (λ_ _ _ _=>fj) (λ_ _ _ _=>(Z0 ba (Z1 (Xt Zv 0) (Za (Xt Zv 1))))) (by intro _;rfl)) ak)) ak)))) (ga cS.nd dQ 5) (by kernel_rfl) (by intro _;rfl)) (Zd (Zm (Z8 (va bP 2) (Z1 (Ze (Z1 (Zs (Z7 br (va bP 1)) (va bP 3)) (Z1 (Z6 bh g Qg (Za (va bP 5))) ak))) ak)))))) (Z5 (sa cS.nd dQ 6 (aZ ak)) (Z5 (Zl QU (dj[4]! (Z7 aJ (va bP 0))) (@jd _ _ _ _ _ (3) K rfl rfl (Zf (ga cS.nd dQ 7) (Zf (ga cS.nd dQ 8) (Zt (ga cS.nd dQ 9)))) (by rfl) (by rfl)) (Z5 (Z4 cS.nd dQ 10 (Z6 bh g Qg (Z1 (Zg (af fY) YT Γd [1] (dj (va bP 8)) (λ_ _ _ _=>(Zc (Zf (X1 ZK 0) (Zt (X1 ZK 1))))) (λ_ _ _ _=>(Ze (Z1 (Zs (Z7 (qg K rfl) (Xt ZK 2)) (Xt ZK 0)) (Z1 (Z0 ba (Z1 (Xt ZK 1) (Za (Xt ZK 2)))) ak))))) ak))) (Zd (Zm (Z8 (va bP 6) (Z1 (Ze (Z1 (Zs (Z7 br (va bP 1)) (va bP 7)) (Z1 (va bP 10) (Z1 (Z0 bz (Z1 (va bP 9) (Za (va bP 1)))) ak)))) ak)))))) (Zd (Zo (Ze (Z1 (Z6 bh g Qg (Za (va bP 2))) (Z1 (Z6 bh g Qg (Za (va bP 6))) ak))))))))),?_]
 right
 right
 let(pa,u1,u2,rfl,a4,g1,g2):=r.t2;let(ka,bk,rfl,a5,a6):=g1.aT;let(da,bv,rfl,bx,a9):=g2.aT;let lk:=⇑a6;rw[bM]at lk;let ld:=⇑a9;rw[bM]at ld;let pb:=pq.b;let(a,b,c,d,hl,m1,m2,m3,m4):=hm.x;calc qk ?_;intro N1 N2 N3 N4 c1 c2 c3 c4;ext;calc nw λl1 H1 s1 h1 bo=>?_;let b1:=a4.Z s1;let b2:=a5.Z s1;ext;let bq:∀{i:Nat}{k0:AA×MC (AA×MC Kk)},kl[i]?=U k0->((kl.map (jS m)).map fP)[i]?=U (fP (jS m k0)):=λ{i k0} h=>by rw[EF,EF,h];rfl
 let bu:∀{i:Nat}{D:Df},dl[i]?=U D->((dl.map (zN m)).map iC)[i]?=U (iC (zN m D)):=λ{i D} h=>by rw[EF,EF,h];rfl
 let k3:=pb.k3;let d3:=pb.d3;refine iJ (K:=K) (xs:=bk) (λi C H2=>(∃y0 y1 y2 y3 y4 y5 y6 y7,C=[U (.ref pa),U (.ref gD),U (.ref l1),y0,y1,y2,y3,y4,y5,y6,y7])/\OH K H l1 (((kl.map (jS m)).map fP).take i) i H2) #[#[_,_,_,_,_,_,_,_,rfl],#[s1,[],h1,.nil,rfl]] ?_ ?_ ?_
 .exact λi C H2 _ ⟨_,t⟩=>a5.Z t.s
 .rintro i xv C H2 hxv ⟨⟨_,_,_,_,_,_,_,_,rfl⟩,tl⟩;let(tt,M,rx):=a6.get' hxv;rw[EF]at M;let(k0,ai,rfl):=IF.mp M;let(xa,x1,x2,rfl,Z,w1,w2):=(show Rp K H (.t [.s k0.1,.t (k0.2.map j4)]) xv from rx).t2;obtain rfl:=w1.aP;let(ta,be,rfl,aa,ab):=w2.aT;let(ws,q1,rr,lw):=tl.w;let bl:CQ k0:=pb.kt _ (P6 ai);let(ci,ch,bn,bm,a7):=id bl;let ao:=Z.Z tl.s;let as:=aa.Z tl.s;ext;refine j9 (K:=K) (e:=j4) (φ:=λu=>[j4 (AU m u)]) (λC=>∃a b,C=[a,b,U (.ref gD)]) as (ab.Z tl.s) () (λ_=>u4 _) #[_,_,rfl] ?_ ?_
  .rintro u hu z _ H3 N X ⟨_,_,rfl⟩ rx3 kN;let(ua,y1,y2,rfl,bc,e1,e2):=(show Rp K H3 (.t [.s u.1,.t (u.2.map jN)]) z from rx3).t2;obtain rfl:=e1.aP;let(na,cb,rfl,bi,bj):=e2.aT;let ad:=tl.s.trans X;let cs:aV K H3 gD [.ref a,.ref b,.ref c,.ref d]:=aV.of (ad _ _ hl);let dg:=(m2.Z ad).get (Wo.ok (a7 u hu).1);let u2:=bn u hu;ext;refine j9 (K:=K) (e:=jN) (φ:=λc=>[jN (c.mp m.k)]) (λC=>∃a,C=[a,U (.ref gD)]) bi bj () (λ_=>u4 _) #[_,rfl] ?_ ?_
   .rintro c hc z _ R N4 S ⟨_,rfl⟩ rx4 kN4;let cm:=hm.Z (ad.trans S);let wk:=(a7 u hu).2 c hc;let cd:c.dep<nk:=by let:=wk.2;omega
    let cw:∀x,c.core=.kd x->Wds.ok x:=λx e=>(wk.1 x e).ok;ext v5 W o G;exact kN4 _ _ _ #[#[_,rfl],o,.one G]
   intro l4 R J S a8 h4 r4;rw[nH]at r4;ext;calc .inl #[aV.of h4,λp5 B=>?_];let o:=ae B (.J J);let G:=Rp.new (K:=K) B r4;generalize upd R p5 (.J J)=W at o G|-;ext p6 l;calc kN _ _ _ #[#[_,_,rfl],(S.trans o).trans (ae l _),.one ?_];exact Rp.new (K:=K) (xs:=[.s (m.t u.1),.t ((u.2.map (Kk.mp m.k)).map jN)]) l (.cons .s (.one (by rw[Qm];calc G)))
  intro l4 R J S a8 h4 r4;rw[nH]at r4;let cr:aV K R gD [.ref a,.ref b,.ref c,.ref d]:=aV.of ((tl.s.trans S) _ _ hl);let an:=ao.Z S;let dg:=(m1.Z (tl.s.trans S)).get (Wo.ok bm);let a2:=S _ _ q1;ext;calc .inl #[aV.of h4,λp5 B=>?_];let o:=ae B (.J J);let G:=Rp.new (K:=K) B r4;generalize upd R p5 (.J J)=W at o G|-;ext;calc nw λp6 H6 I h6 l=>?_;let y:=S.trans (o.trans I);let a1:=y _ _ q1;let cu:aV K H6 l1 ws:=aV.of a1;let ce:⇑ws<my:=bg (by let:=(eF.mp ai).1;omega);ext;let kt:Kt H6 (upd H6 l1 (.Y (ws++[V.ref p6]))):=Kt.Y a1 _;calc#[aS.w5 (tl.s.trans y) bo _,ws++[V.ref p6],aj,?_,by rw[mu,lw];rfl];rw[oA (bq ai)];calc((rr.Z y).kt kt).snoc (Rp.kt kt ?_);exact Rp.nw (K:=K) (xs:=[.s (m.k k0.1),.t ((k0.2.map (AU m)).map j4)]) h6 I (.cons .s (.one (by rw[Qm];calc G)))
 rintro C H2 ⟨⟨_,_,_,_,_,_,_,_,rfl⟩,tl⟩;let(ws,q1,rr,lw):=tl.w;rw[lk,QO (by rw[bM,bM];calc u4 _)]at rr;let a3:=a4.Z tl.s;let Y:=bx.Z tl.s;ext;calc nw λl2 H3 X h3 ah=>?_;let b0:=a3.Z X;let b3:=Y.Z X;let ca:=X _ _ q1;let b8:=rr.Z X;let b7:=tl.s.trans X;let cg:H l2=gV:=tl.s.free ah;let cc:l1≠l2:=ay q1 ah;ext;refine iJ (K:=K) (xs:=bv) (λi C R=>(∃y0 y1 y2 y4 y5 y6 y7,C=[U (.ref pa),U (.ref gD),U (.ref l1),y0,y1,y2,U (.ref l2),y4,y5,y6,y7])/\OH K H2 l2 (((dl.map (zN m)).map iC).take i) i R) #[#[_,_,_,_,_,_,_,rfl],#[X,[],h3,.nil,rfl]] ?_ ?_ ?_
 .exact λi C R _ ⟨_,t⟩=>Y.Z t.s
 .rintro i xv C R hxv ⟨⟨_,_,_,_,_,_,_,rfl⟩,t2⟩;let(tt,M,rx):=a9.get' hxv;rw[EF]at M;let(D,am,rfl):=IF.mp M;let(xa,x1,x2,x3,rfl,Z,w1,w2,w3):=(show Rp K H (.t [.s D.1,.t (D.2.1.map uR),enc D.2.2]) xv from rx).t3;obtain rfl:=w1.aP;let(ta,be,rfl,aa,ab):=w2.aT;let(us,q2,r2,lu):=t2.w;let al:=P6 am;let(bw,bt,bs,bd,bp):=pb.dd D al;let(bb,aq):=pb.dw D al;let b6:=pq.t D al;let L:=tl.s.trans t2.s;let an:=Z.Z L;let ar:=aa.Z L;ext;refine j9 (K:=K) (e:=uR) (φ:=λp=>[uR (Ft m p)]) (λC=>∃a b,C=[a,b,U (.ref gD)]) ar (ab.Z L) () (λ_=>u4 _) #[_,_,rfl] ?_ ?_
  .rintro p0 hp0 z _ W N o ⟨_,_,rfl⟩ rx5 kN;let(ua,y1,y2,rfl,bc,e1,e2):=(show Rp K W (.t [.s p0.1,jN p0.2]) z from rx5).t2;obtain rfl:=e1.aP;let ag:=L.trans o;let cq:aV K W gD [.ref a,.ref b,.ref c,.ref d]:=aV.of (ag _ _ hl);let dg:=(m4.Z ag).get (Wo.ok (aq p0 hp0).1);let cl:=hm.Z ag;let wk:=(aq p0 hp0).2;let cd:p0.2.dep<nk:=by let:=wk.2;omega
   let cw:∀x,p0.2.core=.kd x->Wds.ok x:=λx e=>(wk.1 x e).ok;ext v6 H6 I r6;ext p7 O;calc kN _ _ _ #[#[_,_,rfl],I.trans (ae O _),.one ?_];exact Rp.new (K:=K) (xs:=[.s (m.n p0.1),jN (p0.2.mp m.k)]) O (.cons .s (.one r6))
  intro l4 W ap o a8 h5 G;rw[nH]at G;ext;calc .inl #[aV.of h5,λp6 l=>?_];let I:=ae l (.J ap);let r6:=Rp.new (K:=K) l G;let az:=I _ _ (o _ _ q2);let y:=o.trans I;generalize upd W p6 (.J ap)=H6 at I r6 az y|-;let T:=L.trans y;let cp:aV K H6 gD [.ref a,.ref b,.ref c,.ref d]:=aV.of (T _ _ hl);let dg:=(m3.Z T).get (Wo.ok bb);let ck:=hm.Z T;let b5:=w3.Z T;let b4:D.2.2.size<=80:=()
  let dn:D.2.2.depth<nt:=()
  ext v7 H7 s7 r7;ext;calc nw λp8 H8 s8 h8 cj=>?_;let ac:=s7.trans s8;let ax:=ac _ _ az;let ct:aV K H8 l2 us:=aV.of ax;let cf:⇑us<my:=bg (by let:=(eF.mp am).1;omega);ext;let kt:Kt H8 (upd H8 l2 (.Y (us++[V.ref p8]))):=Kt.Y ax _;calc#[aS.w5 (t2.s.trans (y.trans ac)) ah _,us++[V.ref p8],aj,?_,by rw[mu,lu];rfl];rw[oA (bu am)];calc((r2.Z (y.trans ac)).kt kt).snoc (Rp.kt kt ?_);exact Rp.nw (K:=K) (xs:=[.s (m.d D.1),.t ((D.2.1.map (Ft m)).map uR),enc (m9 m D.2.2)]) h8 s8 (.cons .s (.cons (by rw[Qm];calc r6.Z s7) (.one r7)))
 rintro C R ⟨⟨_,_,_,_,_,_,_,rfl⟩,t2⟩;let(us,q2,r2,lu):=t2.w;rw[ld,QO (by rw[bM,bM];calc u4 _)]at r2;let a2:=t2.s _ _ q1;let bf:=rr.Z t2.s;ext;calc .inl #[aV.of a2,λp5 B=>?_];let o:=ae B (.J ws);let G:=Rp.new (K:=K) B bf;let a0:=o _ _ q2;let aw:=r2.Z o;generalize upd R p5 (.J ws)=W at o G a0 aw|-;ext;calc .inl #[aV.of a0,λp6 l=>?_];let I:=ae l (.J us);let r6:=Rp.new (K:=K) l aw;let av:=G.Z I;generalize upd W p6 (.J us)=H6 at I r6 av|-;ext p7 O;calc k _ _ ((tl.s.trans t2.s).trans ((o.trans I).trans (ae O _))) (Rp.new (K:=K) (xs:=[.t ((kl.map (jS m)).map fP),.t ((dl.map (zN m)).map iC)]) O (.cons av (.one r6)))
meta abbrev qK:Wds:=⟨λ_=>True⟩
def Wo.tr [Wds]{x:AA}(w:Wo x):@Wo qK x:=#[w.1,w.2.1,True.intro]
def HW.tr [Wds]{h:Hd}(w:HW h):@HW qK h:=by
 cases h with
 |name x=>calc Wo.tr w
 |tag x=>calc Wo.tr w
 |call x=>calc Wo.tr w
 |lt x=>calc Wo.tr w
 |fold x y=>calc#[Wo.tr w.1,Wo.tr w.2]
 |mat arms=>calc λa d=>#[Wo.tr (w a d).1,λx e=>Wo.tr ((w a d).2 x e)]
 |_=>calc True.intro
def Ta.tr [Wds]{d:Tm}:Ta d->@Ta qK d:=by
 refine Tm.induct (P:=λt=>Ta t->@Ta qK t) (λh ks g t=>?_) d
 cases t with
 |mk a b c=>calc @Ta.mk qK _ _ a b.tr λk e=>g k e (c k e)
structure Mp.Lw[Wds] (m:Mp):Prop where
 k:∀x,Wds.ok x->@Wo qK (m.k x)
 t:∀x,Wds.ok x->@Wo qK (m.t x)
 d:∀x,Wds.ok x->@Wo qK (m.d x)
 n:∀x,Wds.ok x->@Wo qK (m.n x)
def HW.mp [Wds](l:m.Lw){h:Hd}(w:HW h):@HW qK (Fq m h):=by
 cases h with
 |name x=>calc l.n x (Wo.ok w)
 |tag x=>calc l.t x (Wo.ok w)
 |call x=>calc l.d x (Wo.ok w)
 |lt x=>calc l.n x (Wo.ok w)
 |fold x y=>calc#[l.n x (Wo.ok w.1),l.n y (Wo.ok w.2)]
 |mat arms =>
  intro a o;let(b,e,rfl):=Qa.mp (show a∈arms.map (λa=>(m.t a.1,a.2.map m.n))from o);calc#[l.t _ (Wo.ok (w b e).1),λx j=>by let(y,g,rfl):=Qa.mp j;calc l.n y (Wo.ok ((w b e).2 y g))]
 |_=>calc True.intro
def M3 (m:Mp)(h:Hd)(n:Nat):dc (Fq m h) n=dc h n:=by
 cases h with
 |mat arms=>show(n == ⇑(arms.map _)+1)=(n == ⇑arms+1);rw[bM]
 |_=>rfl
def LA (a:uA h):uA (Fq m h):=by
 cases h with
 |mat arms =>
  intro j e
  cases e
  let(x,y):=a arms rfl;calc#[by rw[bM];calc x,λz d=>?_];let(b,g,rfl):=Qa.mp d;show(b.2.map m.n).length<=20;rw[bM];calc y b g
 |_=>calc λj e=>nomatch e
def Ta.mp [Wds](l:m.Lw){d:Tm}:Ta d->@Ta qK (m9 m d):=by
 refine Tm.induct (P:=λt=>Ta t->@Ta qK (m9 m t)) (λh ks g t=>?_) d
 cases t with
 |mk a b c =>
  rw[kU];calc @Ta.mk qK _ _ (LA a) (b.mp l) λk o=>?_;let(j,e,rfl):=Qa.mp o;calc g j e (c j e)
def Wn.mp [Wds]:Wn d->Wn (m9 m d):=by
 refine Tm.induct (P:=λt=>Wn t->Wn (m9 m t)) (λh ks o t=>?_) d
 cases t with
 |mk a b c =>
  rw[kU];refine .mk (by rw[M3,bM];calc a) (λx g=>?_) λk p=>?_
  .rw[Fw]at g;let(y,e,rfl):=Qa.mp g;rw[bM]at e|-;exact b y e
  .have(j,l,rfl):=Qa.mp p;calc o j l (c j l)
def IQ [Wds](d:Tm):(m9 m d).size=d.size:=by
 calc Tm.induct (P:=λt=>(m9 m t).size=t.size) (λh ks e=>?_) d;rw[kU,Tm.eG,Tm.eG]
 congr 1
 induction ks with
 |nil=>rfl
 |cons k r ihr=>rw[Qd,Tm.bT,Tm.bT,e k (.head _),ihr λj g=>e j (.tail _ g)]
meta def OI(kl:Kl)(dl:MC Df):Prop:=FO kl/\⇑dl<=8/\∀d∈dl,@Of qK d
def Pq.lk [Wds](p:Pq q kl dl):OI kl dl :=
 #[#[by let:=p.b.k3;omega,λk j=>#[by let:=(p.b.kt k j).2.1;omega,λt l=>by let:=(p.b.kt k j).2.2.1 t l;omega]],by let:=p.b.d3;omega,λd hd=>by
  let(a,b,c,e,g):=p.b.dd d hd;calc#[a,b.tr,(),()]]
def Pq.Oj [Wds](p:Pq q kl dl)(l:m.Lw):OI (kl.map (jS m)) (dl.map (zN m)):=by
 refine#[#[by rw[bM];let:=p.b.k3;omega,λk y=>?_],by rw[bM];let:=p.b.d3;omega,λd hd=>?_]
 .have(k0,o,rfl):=Qa.mp y;let(a,b,c,_):=p.b.kt k0 o;calc#[by show(k0.2.map (AU m)).length<=10;rw[bM];omega,λt v=>?_];let(u,j,rfl):=Qa.mp (show t∈k0.2.map (AU m)from v);show(u.2.map (Kk.mp m.k)).length<=10;rw[bM];let:=c u j;omega
 .have(r,o,rfl):=Qa.mp hd;let(a,b,c,e,g):=p.b.dd r o;calc#[a.mp,b.mp l,by show(m9 m r.2.2).size<=80;rw[IQ];omega,by show(r.2.1.map (Ft m)).length<=10;rw[bM];omega]
def Pq.names [Wds](p:Pq q kl dl):(∀k∈kl,Dk k)/\∀d∈dl,EU d/\Ta d.2.2 :=
 #[λk e=>#[(p.b.kt k e).2.2.2.1,(p.b.kt k e).2.2.2.2],λd hd=>#[p.b.dw d hd,(p.b.dd d hd).2.1]]
theorem rM :∀{more kvs:MC (Key×V)},(∀p∈more,p.1≠x)->eM (ja kvs more) x=eM kvs x
 | [],_,_=>rfl
 |p::r,kvs,h=>by
  show eM (ja (putK kvs p.1 p.2) r) x=_;rw[rM (λq d=>h q (.tail _ d)),yK,if_neg (λe=>h p (.head _) e.symm)]
theorem wC :∀{more kvs:MC (Key×V)},(∃p∈more,p.1=x)->∃(i:Nat) (v:V),more[i]?=U (x,v)/\eM (ja kvs more) x=U v
 | [],_,h=>by let(_,h,_):=h;cases h
 |p::r,kvs,h=>by
  show ∃(i:Nat) (v:V),(p::r)[i]?=U (x,v)/\eM (ja (putK kvs p.1 p.2) r) x=U v
  by_cases c:∃q∈r,q.1=x
  .have(i,v,j,g):=wC (kvs:=putK kvs p.1 p.2) c;exact#[i+1,v,j,g]
  .have d:p.1=x:=by
    let(q,hq,e):=h;rcases P1.mp hq with rfl|hq
    .exact e
    .exact absurd #[q,hq,e] c
   calc#[0,p.2,by rw[<-d];rfl,?_];rw[rM (λq hq e=>c #[q,hq,e]),yK,if_pos d.symm]
meta def yg(d us:List AA):MC (Key×V):=ja [] ((d.zip (us.map V.str)).map λx=>((Sum.inr x.1:Key),x.2))
open Classical in
meta def jv (d us:List AA) (x:AA):AA:=match eM (yg d us) (Sum.inr x)with
 |some (.str y)=>y
 |_=>x
def M4 (B:⇑us=⇑d)(m:x∈d):∃(i:Nat) (y:AA),d[i]?=U x/\us[i]?=U y/\eM (yg d us) (Sum.inr x)=U (.str y):=by
 let(j,e):=QL m;let o:=(eF.mp e).1
 let(i,v,g,p):=wC (x:=(Sum.inr x:Key)) (kvs:=[]) (more:=(d.zip (us.map V.str)).map λx=>((Sum.inr x.1:Key),x.2)) (by
  calc#[_,QI (P6 (i:=j) (a:=(x,V.str us[j])) ?_),rfl];rw[V2];calc#[e,by rw[EF,pC];rfl])
 rw[EF]at g;let((a,b),z,u):=IF.mp g;let(t,l):=V2.mp z;rw[EF]at l;let(y,r,q):=IF.mp l
 cases u
 subst q;calc#[i,y,t,r,p]
def JB (g:x∉d):eM (yg d us) (Sum.inr x)=gV:=by
 unfold yg;rw[rM λp l e=>?_]
 .rfl
 .have(q,j,rfl):=Qa.mp l;let e:(Sum.inr q.1:Key)=Sum.inr x:=e;calc g (by rw[<-SX e];calc(R0 j).1)
def uM (l:⇑us=⇑d)(j:x∈d):eM (yg d us) (Sum.inr x)=U (.str (jv d us x))/\∃i:Nat,d[i]?=U x/\us[i]?=U (jv d us x):=by
 let(i,y,o,m,g):=M4 l j;let e:jv d us x=y:=by unfold jv;rw[g]
 rw[e];calc#[g,i,o,m]
def Fx (e:x∉d):jv d us x=x:=by unfold jv;rw[JB e]
theorem lJ :∀{l:List AA}(_:l.Nodup) {i j:Nat}(hi:i<⇑l) (d:j<⇑l),l[i]=l[j]->i=j
 | [],_,_,_,hi,_,_=>absurd hi (Nat.not_lt_zero _)
 |x::r,h,i,j,hi,d,e=>by
  let(g,m):=RZ.mp h
  cases i with
  |zero =>
   cases j with
   |zero=>rfl
   |succ j =>
    let e:x=r[j]'(Sz d):=e;calc absurd (by rw[e];calc Qz _) g
  |succ i =>
   cases j with
   |zero =>
    let e:r[i]'(Sz hi)=x:=e;calc absurd (by rw[<-e];calc Qz _) g
   |succ j=>exact congrArg (·+1) (lJ m (Sz hi) (Sz d) e)
open Classical in
def sX [Wds](m:⇑us=⇑d)(v:us.Nodup)(l:∀x,Wds.ok x->x∈d):Inj (jv d us):=by
 let inj:∀x y,Wds.ok x->Wds.ok y->jv d us x=jv d us y->x=y:=λx y g u e=>by
  let(_,i,C,B):=uM m (l x g);let(_,j,r,q):=uM m (l y u);rw[<-e]at q;let p:=(eF.mp B);let o:=(eF.mp q);let t:i=j:=lJ v p.1 o.1 (p.2.trans o.2.symm);subst t;rw[C]at r;exact Qw r
 calc#[λy=>if h:∃x,Wds.ok x/\jv d us x=y then h.choose else y,λx g=>?_];let h:∃z,Wds.ok z/\jv d us z=jv d us x:=#[x,g,rfl];show(if h:∃z,Wds.ok z/\jv d us z=jv d us x then h.choose else _)=x;rw[dif_pos h];calc inj _ _ h.choose_spec.1 g h.choose_spec.2
local instance:Wds:=⟨λ_=>True⟩
meta def BO(K:cB)(m o cW:AB):Sp:=λl H Q E=>∃(v:V) (g:Kl) (e:MC Df),l=[v]/\Rp K H (.t [.t (g.map fP),.t (e.map iC)]) v/\FO g/\⇑e<=8/\(∀d∈e,Of d) /\
 (∀f,cR g e=U f->TF m o cW E H f)/\(cR g e=gV->∀j,aS H j->Q (.bl AD) j)
structure OJ(C:AB) (H:Hp) (o:AB) (a:qw) (kl:Kl) (dl:MC Df) (i:Nat) (ds:MC (AA×Nat)) (gs os:MC Int) (H2:Hp):Prop where
 k:ig C H o a kl ds gs os H2
 e:cR kl dl=jx kl ds gs os (dl.drop i)
 d:cy [] (ds.map (·.1))=gV
 ld:⇑ds<=i
 lg:⇑gs<=80*i
 lo:⇑os<=10*i
structure PM(C:AB) (H:Hp) (o:AB) (a:qw) (kl:Kl) (ds:MC (AA×Nat)) (gs gs' os:MC Int) (pl:MC (List AA×Tm)) (j:Nat) (H1 H2:Hp):Prop where
 k:ig C H o a kl ds gs' os H2
 t:kO a H1 H2
 e:iU kl ds gs pl=iU kl ds gs' (pl.drop j)
 l:⇑gs'<=⇑gs+j
def bQ :Nm ZG (af jg):=∅
def eL :Lm ZG (af jg):=∅
def dR :aY ZG Γr (af jg):=by ac_rfl
def CZ (F:i9 K "look_names" "look_names" jg f fd)(N:LM K C)(MK:Mk K C gI)(al:MP P w K mg base C "__init__" 2 ZS (Bm K C) gI ifd)(B:mg "Known"=U (.ref C))(LO:Y1 "look_once" 3 Γv (rg K cT) gO ofd)(LKS:Y1 "look_kinds" 4 ["kinds"] (Bh K cT cN cW) gK kfd)(LPS:Y1 "look_params" 4 ["params","known"] (zx K C cT cN cW) gP pfd)(PLC:Ya "places" 2 ["params","term"] (zD K) gL lfd)(LTM:Y1 "look_term" 5 Γq (Bq K C cT cN cW) gTm tfd)(z_list:mg "list"=gV)(z_len:mg "len"=gV):Yf (zc P w) 6 f fd Γr (BO K cT cN cW):=by
 exists F.G4 dR
 .have(_,_,_,rfl,_):=h;rfl
 let(v,q,M,rfl,r,hB,bu,hD,hE,k):=h;refine#[_,(Z5 (Zn (va bQ 0) (Zc (Zf (ga dR.nd eL 1) (Zt (ga dR.nd eL 2))))) (Z5 (Zm (eV[16]! LKS.ok (hr.mono ()) (by left) LKS.at' LKS.kp LKS.bd .nil jK (Za (va bQ 1)) ∅ (by rfl) (by rfl))) (Z5 (Z4 dR.nd eL 3 (Gg[17]! MK al.ok (hr.mono ()) (by left) B al.bd .nil lS (bR (va bQ 0) ak) ∅ (by rfl) (by rfl))) (Z5 (Zl (jh rfl rfl rfl) (dj (va bQ 2)) (@jd _ _ _ _ _ (3) K rfl rfl (Zf (ga dR.nd eL 4) (Zf (ga dR.nd eL 5) (Zt (ga dR.nd eL 6)))) (by rfl) (by rfl)) (Z5 (Zm (eV[16]! LO.ok (hr.mono ()) (by left) LO.at' LO.kp LO.bd .nil jK (Z1 (Zj jQ (Z6 (AI rfl) z_list Sy (Z1 (kB (va bQ 3) rfl) ak)) (aZ[4]! (Za (va bQ 4)))) ak) ∅ (by rfl) (by rfl))) (Z5 (Zm (eV[16]! LPS.ok (hr.mono ()) (by left) LPS.at' LPS.kp LPS.bd .nil jK (Z1 (va bQ 5) (Za (va bQ 3))) ∅ (by rfl) (by rfl))) (Z5 (Zl (jh rfl rfl rfl) (jU[4]! (Z0 PLC (Z1 (va bQ 5) (Za (va bQ 6))))) (Zc (Zf (ga dR.nd eL 7) (Zt (ga dR.nd eL 8)))) (Zd (Zm (eV[16]! LTM.ok (hr.mono ()) (by left) LTM.at' LTM.kp LTM.bd .nil jK (Z1 (va bQ 8) (Z1 (va bQ 7) (Za (va bQ 3)))) ∅ (by rfl) (by rfl))))) (Zd (Bb[9]! (gQ hr) (kB (va bQ 3) rfl) (va bQ 4) (Z2 aN z_len Qh (Za (va bQ 5))) (by rfl))))))) (d7 (eX tG)))))),?_]
 right
 try dsimp only[qp,qq]
 let hc:=N.c;let n4:=N.mdef;let r0:=id r;let(pa,u1,u2,rfl,bi,g1,g2):=r.t2;let(da,ag,rfl,ah,ai):=g2.aT;let av:=⇑ai;rw[bM]at av;let kE:∀f,cY [] [] q=U f->TF cT cN cW E H f:=λf hf=>hE f (by unfold cR;rw[hf]);ext ad H1 s1;let e0:cR q M=jx q [] [] [] M:=by unfold cR;rw[ad]
 let(as,ar):=zo ad;let r1:=r0.Z s1;ext o dx ho a0 ax;let s2:aS H1 (upd (upd H1 dx (.own o)) o (.ins C dx [])):=(ae a0 _).trans (ae (by rw[aB ax.symm];calc ho) _);calc#[H,o,dx,_,q,_,rfl,s1.trans s2,s1.free ho,aj,r1.Z s2,hB,ar,as,λH3 a k3=>#[rfl,?_]];let be:=ah.Z k3.sm;let g4:=zk a;ext;refine iJ (K:=K) (xs:=ag) (λi I H4=>(∃y4 y5 y6 y7 y8,I=[U (.ref pa),U u1,U (.ref da),U (.ref o),y4,y5,y6,y7,y8])/\∃m O os,OJ C H o a q M i m O os H4) #[#[_,_,_,_,_,rfl],[],[],[],k3,e0,rfl,u4 _,Qc _,Qc _] ?_ ?_ ?_
 .rintro i I H4 hi ⟨_,m,O,os,u⟩;exact ah.Z u.k.sm
 .rintro i xv I H4 hxv ⟨⟨_,_,_,_,_,rfl⟩,m,O,os,u⟩;let(t,ht,rx):=ai.get' hxv;rw[EF]at ht;let(d,Z,rfl):=IF.mp ht;let b7:=(eF.mp Z).1;let(bw,bt,bs,bp):=hD d (P6 Z);let G:=u.e;rw[wm Z]at G;let d4:=zl (x:=d.1) u.d;let(qa,v1,v2,v3,rfl,aq,q1,q2,q3):=(show Rp K H (.t [.s d.1,.t (d.2.1.map uR),enc d.2.2]) xv from rx).t3;obtain rfl:=q1.aP;let a8:=aq.Z u.k.sm;let bb:=u.k.ins;let bc:=u.k.dd;let a9:=u.ld;ext;calc nw λl5 H5 s5 h5 b5=>?_;generalize hnm:m.map (·.1)=nm at G d4;let a2:(Xr (λe=>kV e.1) (Xr (λ(d:AA×Nat)=>((Sum.inr d.1:Key),V.int (d.2:Int))) m))=nm.map V.str:=by rw[<-hnm,Qm,Qm];rfl
  rw[a2]at h5;let bo:⇑nm<=8:=by rw[<-hnm,bM];omega
  ext;calc nw λp6 H6 s6 h6 b0=>?_;let b8:=s6 _ _ h5;let lc:⇑(nm.map V.str)+⇑([.str d.1]:MC V)<=my:=small (by rw[bM];show _+1<=_;omega);ext;calc nw λp7 H7 s7 R bz=>?_;let ea:nm.map V.str++[.str d.1]=(nm++[d.1]).map V.str:=by simp
  rw[ea]at R;let h7:mW K AE H7 p7 ((nm++[d.1]).map V.str):=aV.of R;let ap:=(s5.trans s6).trans s7;let k7:=u.k.ext ap;let l7:⇑(nm++[d.1])<=500:=by rw[mu];show _+1<=_;omega
  let oE:∀x,cy [] (nm++[d.1])=U x->Told E H7 cT "name" (.str x):=λx gD=>by
   rw[d4]at gD
   by_cases c:d.1∈nm
   .rw[if_pos c]at gD G
    cases gD
    exact(hE _ G).Z k7.sm
   .rw[if_neg c]at gD;cases gD
  ext X H8 s8;let c:d.1∉nm:=λc=>by rw[d4,if_pos c]at X;cases X
  rw[if_neg c]at G;let k8:=k7.ext s8;let r8:=q2.Z k8.sm;let bl:⇑d.2.1<=20:=()
  let bn:⇑os+⇑d.2.1<=90:=by let:=u.lo;omega
  let pE:∀f,cE (q.map (·.1)) [] os d.2.1=.error f->TF cT cN cW E H f:=λf hf=>hE f (by rw[G,hf]);ext J aw H9 k9 t9 bm;rw[aw]at G
  let D:cR q M=match iU q m O (vZ (gr [] (d.2.1.map (·.1))) d.2.2)with
   |.error f=>U f
   |.ok g=>jx q (m++[(d.1,⇑d.2.1)]) g J (M.drop (i+1)):=G
  let r9:Rp K H9 (K0 (d.2.1.map λp=>(p.1,jN p.2))) v2:=by
   let:=q2.Z k9.sm;unfold K0;rw[Qm];exact this
  let q9:=q3.Z k9.sm;let ca:d.2.2.size<=160:=()
  let bk:⇑(d.2.1.map λp=>(p.1,jN p.2))<=50:=by rw[bM];omega
  ext lp Ha ws sa Y ha ra;let a3:(d.2.1.map λp=>(p.1,jN p.2)).map (·.1)=d.2.1.map (·.1):=by rw[Qm];rfl
  rw[a3]at ra;generalize hpl:vZ (gr [] (d.2.1.map (·.1))) d.2.2=pl at ra D;let bj:⇑pl=d.2.2.size:=by rw[<-hpl];exact HN _ _ bw
  let ac:∀p∈pl,Og p:=by
   rw[<-hpl];calc HM bw bt bs _ ?_;let:=nU (d.2.1.map (·.1)) [];rw[bM]at this
   let:⇑(gr [] (d.2.1.map (·.1)))<=10:=by
    let z:⇑([]:List AA)=0:=rfl;omega
   omega
  let T:=⇑ra;rw[bM]at T;let ka:=k9.ext sa;let S:lp≠a.lG/\lp≠a.lO/\lp≠a.dD:=#[(ay k9.gg Y).symm,(ay k9.oo Y).symm,(ay k9.dd Y).symm];let bx:aV K Ha lp ws:=aV.of ha;ext;refine tJ (K:=K) (xs:=ws) (λj I Hb=>(∃y7 y8,I=[U (.ref pa),U u1,U (.ref da),U (.ref o),U (.str d.1),U v2,U v3,y7,y8])/\∃g,PM C H o a q m O g J pl j Ha Hb) #[#[_,_,rfl],O,ka,kO.refl _ _,rfl,u4 _] ?_ ?_ ?_
  .rintro j I Hb hj ⟨_,g,y⟩;exact aV.of (y.t _ _ S.2.2 S.1 S.2.1 ha)
  .rintro j yv I Hb hyv ⟨⟨_,_,rfl⟩,g,y⟩;let(t,ht,ry):=ra.get' hyv;rw[EF]at ht;let(p,W,rfl):=IF.mp ht;let b6:=(eF.mp W).1;let(ns,tm):=p;let(hd,ks):=tm;let(b1,b2,b3,b4):=ac _ (P6 W);let ce:dc hd ⇑ks=AD:=b1;let cd:uA hd:=b2;let cb:⇑ns+5*(Tm.mk hd ks).size<=900:=b4;let cc:(Tm.mk hd ks).size<=80:=b3;let lk:⇑ks<=900:=by let:⇑ks<_:=wg (.mk hd ks);omega
   let ln:⇑ns<=900:=()
   let eb:=y.e;rw[CL W]at eb
   let L:iU q m O pl=match fU q m g ns hd ⇑ks with
    |.error f=>.error f
    |.ok g=>iU q m g (pl.drop (j+1)):=eb
   let kb:=ka.Nu y.t;let(ya,y1,y2,rfl,am,z1,z2):=(show Rp K Ha (.t [.t (ns.map .s),enc (.mk hd ks)]) yv from ry).t2;let a6:=am.kt kb;let bh:=z1.kt kb;let bf:=z2.kt kb;let bv:=y.k;let bq:⇑g<=900:=by let h1:=y.l;let h2:=u.lg;omega
   let tE:∀f,fU q m g ns hd ⇑ks=.error f->TF cT cN cW E H f:=λf hf=>by
    rw[hf]at L;rw[L]at D;exact hE f D
   ext a1 af Hc kc tc;rw[af]at L;exact#[#[_,_,rfl],a1,kc,y.t.trans tc,L,by let h1:=EH af;let h2:=y.l;omega]
  .rintro I Hb ⟨⟨_,_,rfl⟩,g,y⟩;let eb:=y.e;rw[T,RO]at eb;rw[eb]at D;let a4:cR q M=jx q (m++[(d.1,⇑d.2.1)]) g J (M.drop (i+1)):=D;let(va,aa,rfl,an,ao):=q2.aT;let ab:=⇑ao;rw[bM]at ab;let a7:=an.Z y.k.sm;let ba:=y.k.ins;let a5:=y.k.dd
   let nw:∀kv∈m.map (λ(d:AA×Nat)=>((Sum.inr d.1:Key),V.int (d.2:Int))),kv.1≠Sum.inr d.1:=λkv az z=>by
    let(x,gD,rfl):=Qa.mp az;let z':x.1=d.1:=SX z;exact c (by rw[<-z',<-hnm];calc QI gD)
   let dp:wO Hb a.dD (.str d.1) (.int ⇑aa) (upd Hb a.dD (.dK ((m++[(d.1,⇑d.2.1)]).map λd=>(Sum.inr d.1,.int d.2)))):=by
    let:=wO.k (k:=Sum.inr d.1) (v:=.int ⇑aa) a5 (bg (by rw[bM];omega));rw[qv nw]at this;rw[i4];rw[ab]at this|-;exact this
   let fin:OJ C H o a q M (i+1) (m++[(d.1,⇑d.2.1)]) g J (upd Hb a.dD (.dK ((m++[(d.1,⇑d.2.1)]).map λd=>(Sum.inr d.1,.int d.2)))):=by
    refine#[y.k.Cz _,a4,?_,?_,?_,?_]
    .rw[i4,hnm];exact X
    .rw[mu];show _+1<=_;omega
    .have h1:=y.l;let h2:=u.lg;rw[T]at h1;omega
    .have h2:=u.lo;omega
   ext;exact fin
 .rintro I H4 ⟨_,m,O,os,u⟩;let G:=u.e;rw[show ⇑ag=⇑M by omega,RO]at G;let fin:=k G H4 u.k.sm;ext;calc fin
end G16
namespace L2
open PySem PySem.Spec PyProof.Rows
def C0 {St:Nat->Heap->Prop}(W:Walks prog w A.in1 I fp wr n P St)(val:Nat->Int)(p:∀i v,P i v->∃b:Bool,v=.bool b/\val i=if b then 1 else 0)(hn:n<=1000)(S:AB)(y:S∉fp):
  ∀(k i:Nat) (s:fy) (B:Tok) (c:Nat),n-i=k->i<=n->(0<=Ur val i/\Ur val i<=i)->St i s.heap->s.heap.get? S=U {cls:=.type "list",dict:=gV,data:=.seq #[.int (Ur val i) B] c,slots:=#[]} ->
  (∀h' l t',(∀b o,b∉wr->b≠S->s.heap.get? b=U o->h'.get? b=U o)->R (.ok (.ret (.int (Ur val n) t'))) {s with heap:=h',toks:=l}) ->
  RS (P9 prog w) A (.builtin "sum.loop" #[[.ref I,.ref S,S5 0,S5 0],[]]) R s:=by
 let J:S∉wr:=λh=>y (W.sub _ h);intro k
 induction k with
 |zero =>
  intro i s B c T gD Q j C L;let H:i=n:=()
  subst H;calc Vs F.entry_sum_loop ?_;rw[TU Va _];show PY _ A.in1 (Yr (.ref S)>>=_) _ _ s;calc bN (Rh C rfl ?_);show PY _ A.in1 (tryCatch (SR (.ref I)) _>>=_) _ _ s;calc bN (Xs (W.done s _ _ j λh' l d=>?_));calc rz (L h' l B λb o g _ e=>d b o g e)
 |succ k ih =>
  intro i s B c T gD Q j C L;let r:i<n:=()
  calc Vs F.entry_sum_loop ?_;rw[TU Va _];show PY _ A.in1 (Yr (.ref S)>>=_) _ _ s;calc bN (Rh C rfl ?_);show PY _ A.in1 (tryCatch (SR (.ref I)) _>>=_) _ _ s;calc bN (Xs (W.item i s _ _ r j λv h' l Y q d=>?_));let(b,rfl,O):=p i v Y;let z:=d S _ J C;let N:0<=val i/\val i<=1:=by rw[O];cases b<;>decide
  let G:0<=Ur val (i+1)/\Ur val (i+1)<=((i+1:Nat):Int):=by
   show 0<=Ur val i+val i/\Ur val i+val i<=_;omega
  show PY _ A.in1 (if(_:Bool)=AD then(mkInt (Ur val i+(if b then(1:Int)else 0))>>=_)else _) _ _ _;rw[<-O]
  split
  .refine bN (wpAny_mkInt ?_);show PY _ A.in1 (updateSeq S (λ_=>#[.int (Ur val i+val i) l])>>=_) _ _ _;calc bN ?_;refine wpAny_updateSeq z rfl (rz #[Ws Va _,ih (i+1) _ l _ () r G (W.frame _ _ _ q λb X o e=>?_) (RH _ z rfl) λM m D t=>?_])
   .exact(Rl _ _ (λh:S=b=>y (by rw[h];calc X))).trans e
   .exact L M m D λb o g u e=>t b o g u ((Rl _ _ (RP u)).trans (d b o g e))
  .rename_i V
   calc absurd ?_ V;show((decide (-(2 ^ 63)<=val i)&&decide (val i<2 ^ 63))&&(decide (-(2 ^ 63)<=Ur val i+val i)&&decide (Ur val i+val i<2 ^ 63)))=AD;simp only[QJ,decide_eq_true_eq];omega
def C1 (h:PY (P9 prog w) A.in1 (Xf x) (λit d=>∃I l wr n P St val,it=.ref I/\Walks prog w A.in1 I l wr n P St/\St 0 d.heap/\(∀b∈l,b<d⁻¹) /\
   (∀i v,P i v->∃b:Bool,v=.bool b/\val i=if b then 1 else 0)/\n<=1000 /\
   ∀h' m t',(∀b o,b∉wr->d.heap.get? b=U o->h'.get? b=U o)->Q (.int (Ur val n) t') {d with heap:=h',toks:=m}) E s):
  PY (P9 prog w) A (call (.builtin "sum") [x]) Q E s:=by
 calc call_function_tree F.kind_sum F.plain_sum F.entry_sum (F.args_sum1 _) ?_;unfold RQ.«sum»;simp only[Qn,Tq];rw[if_neg ∅];calc bN (wpAny_of_eq (show RQ.Builtins.bindParams "sum" ["start"] 0 {}=pure [gV]from rfl) ?_);calc bN (Qu h (λit d g=>?_) λ_ _ e=>e);let(I,l,wr,n,P,St,val,rfl,W,p,q,j,u,B):=g;calc bN (wpAny_mkInt ?_);calc bN (rz ?_);simp only[Sl,SK];calc bN (bN (bN (R6 (T:="int") (b:=AE) (Uj _ _ _) F.sub_int_str ?_)));simp only[Ra,if_false];calc rz (bN (bN (R6 (T:="int") (b:=AE) (Uj _ _ _) F.sub_int_bytes ?_)));simp only[Ra,if_false];calc rz (bN (bN (R6 (T:="int") (b:=AE) (Uj _ _ _) F.sub_int_bytearray ?_)));simp only[Ra,if_false];calc rz (rz ?_);calc bN (QW ?_);let t:d⁻¹∉l:=λy=>Q8 _ (q _ y)
 refine rz #[Ws Va _,C0 W val j u d⁻¹ t n 0 _ d.toks 0 rfl (Qc _) #[Int.le_refl _,Int.le_refl _]
  (W.frame _ _ _ p λb _ o e=>u5 _ e) (P5 _ rfl) λh' m t' z=>?_]
 calc B h' m t' λb o r e=>z b o r (Qs (P0 e)) (u5 _ e)
meta def LS(b:Bool):Int:=if b then 1 else 0
theorem qG (bs:MC Bool):∀k,Ur (λi=>LS ((bs[i]?).getD AE)) k=((bs.take k).map LS).sum
 |0=>by simp[Ur]
 |k+1=>by
  rw[Ur,qG bs k]
  by_cases h:k<⇑bs
  .rw[we h,i4,List.sum_append,pC h];simp
  .rw[QO (),QO (),UY ()];simp[LS]
def C2 (D:X.calm=AD):iQ X (.builtin "sum") (λxs H Q=>∃(p:AB) (bs:MC Bool),xs=[.ref p]/\aV X.K H p (bs.map V.bl)/\⇑bs<=1000/\Q (.int (bs.map LS).sum) H):=by
 intro m s J H xs L Q I r h;let(p,bs,rfl,z,B,q):=h;let(u,rfl,t):=vals1 r
 cases t
 let(d,o,y,O):=I.list z;let l:=yS o;let j:=y.isList;let g:p<s⁻¹:=by let(_,e,_):=j;exact P0 e
 refine C1 (V4 j ?_)
 refine#[s⁻¹,[s⁻¹,p],[s⁻¹],d.toArray.size,_,_,λi=>LS ((bs[i]?).getD AE),rfl,Walks.list (A:=X.A.in1) (I.ok.hd D) _ p (Qs g) d.toArray,
  #[#[_,P5 _ rfl,rfl,rfl],j.push _],λb hb'=>?_,λi v G=>?_,?_,λR M N C=>?_]
 .show b<(s.heap.push _).objs.size;rw[Q6];rcases P1.mp hb' with rfl|hb'
  .exact S8 _
  .rcases P1.mp hb' with rfl|hb'
   .exact V9 g
   .cases hb'
 .have(b,e,rfl):=l.get i v (by simpa using G);exact#[b,rfl,by dsimp only;rw[e];rfl]
 .rw[P4,⇑l];exact B
 .rw[qG,P4,⇑l,Ql];calc#[.int _,H,I.kept (LSm.kept_iter C),#[_,rfl],q]
meta def IS:V->MC V->Hp->VK->Prop:=λx d H Q=>∃(l:AB) (bs:MC Bool) (c:Bool) (k:Nat),x=.ref l/\d=[.bl c]/\H l=U (.Y (bs.map V.bl))/\bs[k]?=U c/\(∀m,m<k->bs[m]?≠U c)/\Q (.int k) H
meta def eqB(c:Bool):eT->Bool
 |.bool x=>decide (x=c)
 |_=>AE
def C4 :Ni X "list.index" IS:=by
 intro t s gD H x V v W Q I C D h;let(l,bs,c,k,rfl,rfl,R,B,g,q):=h
 cases C
 let(u,rfl,G):=D.one
 cases G
 let(z,J,n,r,Y,e):=I.yG R;let S:=yT r;subst S;let O:k<⇑bs:=(eF.mp B).1;let p:k<(bs.map Value.bool).toArray.size:=by rw[P4,bM];exact O
 let L:⇑bs<=my:=by rw[bM]at z;exact z
 let d:(k:Int)<2 ^ 63-1:=by
  rw[TL]at L;omega
 refine Ti F.slot_list_index #[_,e,rfl] F.entry_list_index (F.args_list_index_2 _ _)
  (SeqAt.list_indexAt l (bs.map Value.bool).toArray n gV #[] (.bool c) (eqB c) k p d ?_ (λm N j=>?_)) #[e,λw M=>?_,?_]
 .rw[Xu,WD,(eF.mp B).2];simp[eqB]
 .have o:m<⇑bs:=by rwa [P4,bM]at N
  rw[Xu,WD];exact decide_eq_false λz=>g m j (by rw[pC o,z])
 .have(b,Z,rfl):=Qa.mp (List.mem_toArray.mp M);let:=DB (A:=X.A.in1) (s:=s) (y:=.bl b) (x:=.bl c) rfl rfl rfl rfl;let T:DA (.bl b) (.bl c)=eqB c (.bool b):=by cases b<;>cases c<;>rfl
  rw[T]at this;exact this
 .exact#[.int k,H,I.tok _,#[_,rfl],q]
def Fy :nY X (RX .Is) (λx y H Q=>∃a b,x=.bl a/\y=.bl b/\Q (.bl (a == b)) H):=by
 intro d s j H x y v u Q I g e h;let(a,b,rfl,rfl,q):=h
 cases g
 cases e
 calc is_bool (cI I q rfl)
meta def wD(H:Hp):AF (AA×AA)->V->Prop
 |none,v=>v=.bl AD
 |some w,v=>∃p,v=.ref p/\H p=U (.Y [.str w.1,.str w.2])
meta def twOk:AF (AA×AA)->Prop
 |none=>True
 |some w=>(∀c∈w.1.cps.toList,c<1000)/\(∀c∈w.2.cps.toList,c<1000)/\⇑w.1<=100/\⇑w.2<=100
@[irreducible] noncomputable def M5:AF (AA×AA)->AA
 |none=>"True"
 |some w=>(PyData.list (T.GD [.s w.1,.s w.2])).shown
def C5 (m:∀c∈a.cps.toList,c<1000)(l:∀c∈b.cps.toList,c<1000)(l1:⇑a<=100)(l2:⇑b<=100):Jm (.list (T.GD [.s a,.s b])):=by
 let e:T.GD [.s a,.s b]=[.str a,.str b]:=by simp[T.GD,T.py]
 rw[e]
 let d:∀{x:AA},(∀c∈x.cps.toList,c<1000)->(x.cps.toList.all λc=>decide (c<16 ^ 8))=AD:=λ{x} h=>by
  rw[QY];intro c j;exact decide_eq_true (Nat.lt_trans (h c j) ∅)
 let g:(PyData.list [.str a,.str b]).leavesShort 13=AD:=by
  show((a.cps.toList.all λc=>decide (c<16 ^ 8))&&((b.cps.toList.all λc=>decide (c<16 ^ 8))&&AD))=AD;rw[d m,d l];rfl
 calc#[rfl,rfl,(by show max 0 (max 0 0)+1<=100;decide),PyData.shown_fits (B:=13) ∅ ∅ g ?_];show ⇑a+1+(⇑b+1+0)<=2 ^ 20;omega
def uN (v:X.A.guards=U [])(m:X.A.units+150<US):iQ X (.builtin "repr") (λxs H Q=>∃x o,xs=[x]/\wD H o x/\twOk o/\Q (.str (M5 o)) H):=by
 intro d s g H xs j Q I r h;let(x,o,rfl,e,ok,q):=h
 cases o with
 |none =>
  obtain rfl:x=.bl AD:=e;unfold M5 at q;let(u,rfl,l):=vals1 r
  cases l
  calc PySem.P.repr_of_bool #[.str _,H,I.tok _,#[_,rfl],q]
 |some w =>
  let(p,rfl,t):=e;let(z,y,l1,l2):=ok;unfold M5 at q;calc As v m d s g H _ j Q I r #[p,[.s w.1,.s w.2],_,rfl,aV.of t,.cons .s (.one .s),C5 z y l1 l2,q]
end L2
namespace G16
open PySem L2 PyProof.Rows PySem.W
local instance:Wds:=⟨λ_=>True⟩
meta def ET(l m cW:AB)(kl:Kl)(dl:MC Df)(H:Hp):XK:=λd j g=>∃f e,cR kl dl=U f/\d=.ref (oQ l m cW f.1)/\j=U e/\aS H g/\g e=U (.xd [("name",.str f.2)])
noncomputable instance:DecidableEq Er:=λa b=>match a,b with
 |.tw,.tw=>isTrue rfl
 |.nn,.nn=>isTrue rfl
 |.wr,.wr=>isTrue rfl
 |.tw,.nn=>isFalse nofun
 |.tw,.wr=>isFalse nofun
 |.nn,.tw=>isFalse nofun
 |.nn,.wr=>isFalse nofun
 |.wr,.tw=>isFalse nofun
 |.wr,.nn=>isFalse nofun
theorem _root_.L2.lI.Z (e:lI H x C fs)(s:aS H d):lI d x C fs:=by
 rcases e with⟨e,h⟩|⟨dx,h1,h2⟩
 .exact .inl #[e,s _ _ h]
 .exact .inr #[dx,s _ _ h1,s _ _ h2]
meta def Ol:Er->Nat
 |.tw=>0
 |.nn=>1
 |.wr=>2
structure OL(K:cB) (cT cN cW G:AB) (jT:List AB):Prop where
 sub:∀e,xE K (oQ cT cN cW e) G
 g:∀e,Cp K (oQ cT cN cW e)
 one:∀e d,Vq K (.ref (oQ cT cN cW e)) (.ref (oQ cT cN cW d))=U (decide (e=d))
 any:∀e,YK K (.ref (oQ cT cN cW e)) (jT.map Value.ref)=U AE
 val:∀e,Vq K (.ref (oQ cT cN cW e)) (.type "ValueError")=U AD
 r:∀e,KG K (oQ cT cN cW e) "name"
meta def twF(o:AF Flt):AF (AA×AA):=o.map λf=>(CB f.1,f.2)
meta def yh(K:cB):Sp:=λm H Q _=>∃(v:V) (g:Kl) (e:MC Df),m=[v]/\Rp K H (.t [.t (g.map fP),.t (e.map iC)]) v/\FO g/\⇑e<=8/\(∀d∈e,Of d) /\
 ∀l j,aS H j->wD j (twF (cR g e)) l->Q l j
def eu :Nm ZE (af nJ):=∅
def ku :Lm ZE (af nJ):=∅
def iW :aY ZE Γm (af nJ):=by ac_rfl
def IT {K:cB}(F:i9 K "_law_told" "_law_told" nJ f fd)(l:Y1 "look_names" 6 Γr (BO K cT cN cW) gL lfd)(C:OL K cT cN cW G [o0,o1,o2,o3,o4,o5])(m_GapError:mg "GapError"=U (.ref G))(m_Twice:mg "Twice"=U (.ref cT))(m_NoName:mg "NoName"=U (.ref cN))(m_WrongCount:mg "WrongCount"=U (.ref cW))(m_BadText:mg "BadText"=U (.ref o0))(m_Clash:mg "Clash"=U (.ref o1))(m_NoGap:mg "NoGap"=U (.ref o2))(m_NoRow:mg "NoRow"=U (.ref o3))(m_TooLong:mg "TooLong"=U (.ref o4))(m_TooMany:mg "TooMany"=U (.ref o5))(z_isinstance:mg "isinstance"=gV)(z_ValueError:mg "ValueError"=gV)(z_sum:mg "sum"=gV)(z_int:mg "int"=gV):Yf gy 7 f fd Γm (yh K):=by
 exists F.Pu iW
 .have(_,_,_,rfl,_):=h;rfl
 let(v,y,R,rfl,r,hB,ld,hD,kq):=h;let kf:∀f,cR y R=U f->∀S d,aS H d->Hu d (U f) S->Q S d:=λf I S d t ft=>kq S d t (by rw[I];calc ft);let ko:cR y R=gV->∀d,aS H d->Q (.bl AD) d:=λZ d t=>kq _ d t (by rw[Z];calc rfl)
 refine#[_,(qZ (PS.top (sa iW.nd ku 1 zU))
  (qZ (PS.top (sa iW.nd ku 2 zU))
  (qZ (KL (E':=(ET cT cN cW y R H)) (i:=3) rfl rfl rfl (Zd (Z4 iW.nd ku 2 (eV[16]! l.ok (hr.mono ()) (by left) l.at' l.kp l.bd .nil jK (Za (va eu 0)) ∅ (by rfl) (by rfl)))) (by left) m_GapError iW.nd rfl (by kernel_rfl) (λ_=>(Zd (sa iW.nd ku 1 (va eu 3)))))
  (rN.top (Z5 (Zb (Zp JW (va eu 1) zU) (Zd (Zo (Zi (aZ[4]! (Z1 (Ze (Z1 aC (Za (va eu 2)))) (Za tG))) (Z6 iy z_int Rc (Z1 (jC Fy (va eu 2) tG (mh _)) ak)))))) (Z5 (Z4 iW.nd ku 4 (aZ[4]! (Z1 (Z2 nQ z_isinstance QD (Z1 (va eu 1) (Za (iI (v:=.ref cT) (by left) m_Twice rfl)))) (Z1 (Z2 nQ z_isinstance QD (Z1 (va eu 1) (Za (iI (v:=.ref cN) (by left) m_NoName rfl)))) (Z1 (Z2 nQ z_isinstance QD (Z1 (va eu 1) (Za (iI (v:=.ref cW) (by left) m_WrongCount rfl)))) ak))))) (Z5 (Z4 iW.nd ku 5 (Z2 xG z_isinstance QD (Z1 (va eu 1) (Z1 (Ze (Z1 (iI (v:=.ref o0) (by left) m_BadText rfl) (Z1 (iI (v:=.ref o1) (by left) m_Clash rfl) (Z1 (iI (v:=.ref o2) (by left) m_NoGap rfl) (Z1 (iI (v:=.ref o3) (by left) m_NoRow rfl) (Z1 (iI (v:=.ref o4) (by left) m_TooLong rfl) (Za (iI (v:=.ref o5) (by left) m_TooMany rfl)))))))) ak)))) (Z5 (Zb (PW.pt (rO[7]! (qM (va eu 5)) (rO[7]! (Dn[4]! (qM[3]! (Z2 xF z_isinstance QD (Z1 (va eu 1) (Za (lX (v:=.ty "ValueError") (by left) z_ValueError ∅ rfl)))) (by intro _;rfl))) (qN[4]! (Zh vh (Z2 (C2 rfl) z_sum Xc (Za (va eu 4))) au))))) (d7 (eX aC))) (Zd (Zo (aZ[4]! (Z1 (Zi (aZ[4]! (Z1 aC (cU aC (Za aC)))) (yF Tc PySem.F.slot_list_index PySem.F.type_list_index C4 (va eu 4) (Za tG))) (Za (Eh (va eu 1))))))))))))))),?_]
 right
 right
 let eE:∀f,cR y R=U f->TF cT cN cW (ET cT cN cW y R H) H f:=λf I o d t h0 h'=>#[f,o,I,rfl,rfl,t,h'];ext
 .ext;intro Z H1 X;let fin:=ko Z;ext;calc nw λp1 H2 q ab ag=>?_;ext;calc nw λp2 H3 p O af=>?_;let h3:aV K H3 p2 [.ref p1,.bl AD]:=aV.of O;let L:=fin _ ((X.trans q).trans p);let a1:fM [V.ref p1,V.bl AD] 1=U (V.bl AD):=aG (j:=1) rfl;ext;calc .inr #[_,rfl,?_];ext;exact L
 rintro cls od H1 ⟨f,o,I,rfl,rfl,X,hx⟩;calc#[_,rfl,C.sub f.1,λx z=>?_];let nx:o≠x:=ay hx z;let q:=ae z (.ext (u6 x (oQ cT cN cW f.1) (U o)));let e2:lI (upd H1 x (.ext (u6 x (oQ cT cN cW f.1) (U o)))) x (oQ cT cN cW f.1) [("name",.str f.2)]:=.inr #[o,aj,q _ _ hx];generalize upd H1 x (.ext (u6 x (oQ cT cN cW f.1) (U o)))=H2 at q e2|-;let g:=C.g f.1;let k1:Vq K (.ref (oQ cT cN cW f.1)) (.ref cT)=_:=C.one f.1 .tw;let k2:Vq K (.ref (oQ cT cN cW f.1)) (.ref cN)=_:=C.one f.1 .nn;let k3:Vq K (.ref (oQ cT cN cW f.1)) (.ref cW)=_:=C.one f.1 .wr;let k4:=C.any f.1;let k5:=C.val f.1;let k6:=C.r f.1;ext
 first|(intro u B)|(dsimp only[Oo,iZ,behind,Ends.wn];ext u B)
 let p:=ae B (.Y [.bl (decide (f.1=.tw)),.bl (decide (f.1=.nn)),.bl (decide (f.1=.wr))]);let h3:upd H2 u (.Y [.bl (decide (f.1=.tw)),.bl (decide (f.1=.nn)),.bl (decide (f.1=.wr))]) u=U (.Y ([decide (f.1=.tw),decide (f.1=.nn),decide (f.1=.wr)].map V.bl)):=aj;let e3:=e2.Z p;generalize upd H2 u (.Y [.bl (decide (f.1=.tw)),.bl (decide (f.1=.nn)),.bl (decide (f.1=.wr))])=H3 at p h3 e3|-;ext;calc nw λp4 H4 gD N ad=>?_;let h4:b9 K H4 p4 ([o0,o1,o2,o3,o4,o5].map V.ref):=b9.of N;let e4:=e3.Z gD;let J:=gD _ _ h3;let aa:aV K H4 u ([decide (f.1=.tw),decide (f.1=.nn),decide (f.1=.wr)].map V.bl):=aV.of J;let W:=(X.trans q).trans (p.trans gD);let l3:[decide (f.1=.tw),decide (f.1=.nn),decide (f.1=.wr)].length<=1000:=by show 3<=1000;decide
 let sm:([decide (f.1=.tw),decide (f.1=.nn),decide (f.1=.wr)].map LS).sum=1:=by
  let(e,n):=f
  cases e<;>rfl
 let hk:[decide (f.1=.tw),decide (f.1=.nn),decide (f.1=.wr)][Ol f.1]?=U AD:=by
  let(e,n):=f
  cases e<;>rfl
 let ah:∀m,m<Ol f.1->[decide (f.1=.tw),decide (f.1=.nn),decide (f.1=.wr)][m]?≠U AD:=by
  let(e,n):=f
  cases e with
  |tw=>intro m D;calc absurd D (Nat.not_lt_zero _)
  |nn =>
   intro m D;obtain rfl:m=0:=Nat.lt_one_iff.mp D;calc nofun
  |wr =>
   intro m D
   match m,D with
   |0,_=>calc nofun
   |1,_=>exact nofun
 let ha:fM [V.str "twice",V.str "noname",V.str "wrong"] (Ol f.1)=U (.str (CB f.1)):=by
  let(e,n):=f
  cases e
  .exact aG (j:=0) rfl
  .exact aG (j:=1) rfl
  .exact aG (j:=2) rfl
 let fin:=kf f I;ext;rw[sm];ext;calc nw λp5 H5 T M ac=>?_;let h5:aV K H5 p5 [.str "twice",.str "noname",.str "wrong"]:=aV.of M;let ai:=T _ _ J;let e5:=e4.Z T;ext p6 Y;let s6:=ae Y (.Y [.str (CB f.1),.str f.2]);calc fin _ _ ((W.trans T).trans s6) #[p6,rfl,aj]
end G16
namespace L2
open PySem PySem.Spec PyProof.Rows
def oG (K:cB)(v:X.K=K):iQ X (.builtin "isinstance") (λxs H Q=>∃x,xs=[x,.ty "list"]/\((∃p ys,x=.ref p/\aV K H p ys/\Q (.bl AD) H)\/∃b,x=.bl b/\Q (.bl AE) H)):=by
 subst v;intro e s y H xs B Q I r h;let(x,rfl,h):=h;let(u,g,rfl,d,r2):=vals2 r;obtain rfl:g=Value.type "list":=r2;rcases h with⟨p,ys,rfl,hq,q⟩|⟨z,rfl,q⟩
 .obtain rfl:u=Value.ref p:=d;let(l,C,j,D):=I.list hq;let(o,m,t,hd):=j.isList;exact IsiPair.list_list m t #[.bl AD,H,I,rfl,q]
 .obtain rfl:u=Value.bool z:=d;calc IsiPair.bool_list #[.bl AE,H,I.tok _,rfl,q]
end L2
namespace G16
open PySem L2
@[irreducible] def AW (K:cB):Sp:=λvs H Q _=>∃(v:V) (d:AB) (o:AF (AA×AA)) (kvs:MC (Key×V)) (g:AA->AA),vs=[v,.ref d]/\wD H o v/\H d=U (.dK kvs)/\(∀x,o=U x->(eM kvs (Sum.inr x.2)).getD (.str x.2)=.str (g x.2)) /\
 ∀v' H',aS H H'->wD H' (o.map λx=>(x.1,g x.2)) v'->Q v' H'
def oK :Nm ZA (af xg):=∅
def IU :aY ZA ZA (af xg):=by ac_rfl
def M6 (F:i9 K "_law_so" "_law_so" xg f r)(j:mg "isinstance"=gV)(l:mg "list"=gV):Yf gy 1 f r ZA (AW K):=by
 exists F.ok IU
 .unfold AW at h;let(_,_,_,_,_,rfl,_):=h;rfl
 unfold AW at h;let(v,d,o,m,g,rfl,t,hd,D,k):=h;refine#[_,(Z5 (Zb (qM[3]! (Z2 (oG K rfl) j QD (Z1 (va oK 0) (Za (lX (v:=.ty "list") (by left) l ∅ rfl)))) (by intro _;rfl)) (Zd (Zo (aZ[4]! (Z1 (Z7 br (va oK 0)) (Z1 (DH[9]! (gQ hr) (va oK 1) (Z7 br (va oK 0)) (Z7 br (va oK 0)) #[rfl,rfl,rfl,rfl]) ak)))))) (Zd (eX (va oK 0)))),?_]
 right
 right
 cases o with
 |none =>
  obtain rfl:v=.bl AD:=t;let fin:=k (.bl AD) H (aS.refl _) rfl;ext;calc .inr #[_,rfl,?_];ext;calc fin
 |some x =>
  let(p,rfl,C):=t;let y:aV K H p [.str x.1,.str x.2]:=aV.of C;let G:fX H d (.str x.2) (eM m (Sum.inr x.2)):=fX.k (k:=Sum.inr x.2) hd;let e:=D x rfl;let B:NQ H d:=.inl #[m,.inl hd];ext;calc .inl #[_,_,rfl,y,?_];ext;rw[e];intro z q;calc k _ _ (ae q _) #[z,rfl,aj]
structure BP[Wds] (ws:List AA):Prop where
 ok:∀x,Wds.ok x->x∈ws
 wo:∀x∈ws,@Wo qK x
 nm:("match":AA)∉ws
 nq:("?":AA)∉ws
 l:⇑ws=26
structure oM(us:List AA):Prop where
 l:⇑us=26
 n:us.Nodup
 w:∀y∈us,@Wo qK y
meta def yr (d l j g e:List AA):Mp:=#[jv d l,jv d j,jv d g,jv d e]
def yi [Wds](W:BP d)(gD:oM us){x:AA}(e:Wds.ok x):@Wo qK (jv d us x):=by
 let(_,i,_,h):=uM (by rw[gD.l,W.l]) (W.ok x e);calc gD.w _ (P6 h)
def IV [Wds](W:BP d)(r:oM m)(q:oM j)(p:oM g)(o:oM e):(yr d m j g e).Inj :=
 #[sX (by rw[r.l,W.l]) r.n W.ok,sX (by rw[q.l,W.l]) q.n W.ok,sX (by rw[p.l,W.l]) p.n W.ok,sX (by rw[o.l,W.l]) o.n W.ok]
def AX [Wds](W:BP d)(q:oM l)(p:oM j)(o:oM g)(m:oM e):(yr d l j g e).Lw :=
 #[λ_ h=>yi W q h,λ_ h=>yi W p h,λ_ h=>yi W o h,λ_ h=>yi W m h]
def JC {x:Str}(h:x="?"\/x="match"):@Wo qK x:=by
 rcases h with rfl|rfl
 .exact Oi
 .exact Fd
def M7 [Wds](W:BP e)(v:oM p)(u:oM m)(r:oM j)(q:oM g){x y:AA}(h:Rn (yr e p m j g) x y):@Wo qK x/\@Wo qK y:=by
 rcases h with⟨o,h⟩|⟨rfl,h⟩
 .refine#[W.wo x (W.ok x o),?_];let l:=AX W v u r q;rcases h with rfl|rfl|rfl|rfl
  .exact l.k x o
  .exact l.t x o
  .exact l.d x o
  .exact l.n x o
 .exact#[JC h,JC h]
def M8 (e:Er):@Wo qK (CB e):=by
 cases e with
 |tw=>calc#[∅,uI _ ∅,True.intro]
 |nn=>calc⟨∅,uI _ ∅,True.intro⟩
 |wr=>calc⟨∅,uI _ ∅,True.intro⟩
def tw_two (w:@Wo qK f.2):twOk (twF (U f)):=by
 let d:=M8 f.1;calc#[d.2.1,w.2.1,Qq d.1 ∅,Qq w.1 ∅]
def two_mp [Wds](W:BP d)(v:oM m)(u:oM l)(t:oM j)(o:oM e){q:Nat}{kl:Kl}{dl:MC Df}(p:Pq q kl dl):
  (cR kl dl=gV/\cR (kl.map (jS (yr d m l j e))) (dl.map (zN (yr d m l j e)))=gV) \/
  ∃f g,cR kl dl=U f/\cR (kl.map (jS (yr d m l j e))) (dl.map (zN (yr d m l j e)))=U g/\f.1=g.1/\Rn (yr d m l j e) f.2 g.2/\twOk (twF (U f))/\twOk (twF (U g)):=by
 let(a,b):=p.names;let h:=IL (IV W v u t o) a b;generalize cR kl dl=x at h|-;generalize cR (kl.map (jS (yr d m l j e))) (dl.map (zN (yr d m l j e)))=y at h|-
 cases h with
 |none=>calc .inl #[rfl,rfl]
 |@some f g r =>
  let(B,z):=M7 W v u t o r.2;calc .inr #[f,g,rfl,rfl,r.1,r.2,tw_two B,tw_two z]
def IW [Wds](W:BP d){x y:AA}(h:Rn (yr d u u u u) x y):y=jv d u x:=by
 rcases h with⟨o,h⟩|⟨rfl,h⟩
 .rcases h with rfl|rfl|rfl|rfl<;>rfl
 .rw[Fx];rcases h with rfl|rfl
  .exact W.nq
  .exact W.nm
def LB [Wds](W:BP d)(gD:oM e){x y:AA}(h:Rn (yr d e p m j) x y):(eM (yg d e) (Sum.inr x)).getD (.str x)=.str (jv d e x):=by
 rcases h with⟨o,h⟩|⟨rfl,h⟩
 .rw[(uM (by rw[gD.l,W.l]) (W.ok x o)).1];rfl
 .have g:x∉d:=by
   rcases h with rfl|rfl
   .exact W.nq
   .exact W.nm
  rw[JB g,Fx g];rfl
def uK.jT [Wds](W:BP e)(gD:oM us){H:Hp}{d:AB}(h:H d=U (.dK (yg e us))):uK H d (jv e us):=#[_,h,λx g=>(uM (by rw[gD.l,W.l]) (W.ok x g)).1]
structure yj(H:Hp) (lm d0 d1 d2 d3:AB) (ws u0 u1 u2 u3:List AA):Prop where
 l:H lm=U (.Y [.ref d0,.ref d1,.ref d2,.ref d3])
 h0:H d0=U (.dK (yg ws u0))
 h1:H d1=U (.dK (yg ws u1))
 h2:H d2=U (.dK (yg ws u2))
 h3:H d3=U (.dK (yg ws u3))
def yj.Z (h:yj H o t r q p d m j g e)(s:aS H u):yj u o t r q p d m j g e:=#[s _ _ h.l,s _ _ h.h0,s _ _ h.h1,s _ _ h.h2,s _ _ h.h3]
def yj.mp [Wds](h:yj H o t r q p d m j g e)(W:BP d)(z:oM m)(y:oM j)(v:oM g)(u:oM e):zQ H o (yr d m j g e) :=
 #[t,r,q,p,h.l,.jT W z h.h0,.jT W y h.h1,.jT W v h.h2,.jT W u h.h3]
def two_same [Wds](W:BP d)(gD:oM u){q:Nat}{kl:Kl}{dl:MC Df}(p:Pq q kl dl):
  twOk (twF (cR kl dl))/\twOk (twF (cR (kl.map (jS (yr d u u u u))) (dl.map (zN (yr d u u u u))))) /\
  twF (cR (kl.map (jS (yr d u u u u))) (dl.map (zN (yr d u u u u))))=(twF (cR kl dl)).map (λx=>(x.1,jv d u x.2)) /\
  ∀x,twF (cR kl dl)=U x->(eM (yg d u) (Sum.inr x.2)).getD (.str x.2)=.str (jv d u x.2):=by
 rcases two_mp W gD gD gD gD p with⟨e1,e2⟩|⟨f,g,e1,e2,e3,e4,o1,o2⟩
 .rw[e1,e2];exact#[True.intro,True.intro,rfl,⋯]
 .rw[e1,e2];refine⟨o1,o2,?_,λx e=>?_⟩
  .show U (CB g.1,g.2)=U (CB f.1,jv d u f.2);rw[e3,IW W e4]
  .obtain rfl:=Qw e;calc LB W gD e4
end G16
namespace L2
open PySem PySem.Spec PyProof.Rows
def AY :VH (.type "zip") (Qv "keys")=pure gV:=by rw[typeLookup_type,builtinLookup_eq_fast];kernel_rfl
def yk :entryFor table "zip.__getattribute__"=U RQ.«object.__getattribute__» :=
 entryFor_alias (id':="object.__getattribute__") (by kernel_rfl) ∅ ∅ (by kernel_rfl)
def uO (a:AB)(fs:Array eT)(p:Array (AF eT))(name:AA)(u:Tok)(l:VH (.type "zip") name=pure gV)(e:(["__module__","__name__","__qualname__","__doc__","__annotations__"]:List AA).contains name=AE)(hsz:⇑name+100<=my):
  YJ (RQ.«object.__getattribute__» #[[.ref a,.str name u],[]]) (λA R s=>s.heap.get? a=U {cls:=.type "zip",dict:=gV,data:=.fields fs,slots:=p}/\raisesAttr (.ref a) name A R s) :=
 YJ.of_wp λm w A R s j=>by
  let(t,g,d,o,q):=s;let(r,j):=j;let v:(#[t,g,d,o,q]:fy).TypeIs (.ref a) "zip":=#[_,r,rfl];unfold RQ.«object.__getattribute__»
  repeat (any_goals (first|assumption|wp_step))
  simp only[e,Ra,if_false]
  repeat (any_goals (first|assumption|wp_step))
  calc wpAny_raiseAttrError j.1 j.2 (attrMsg_fits ∅ hsz)
def Fz (p:A.handled=gV)(m:s.heap.get? a=U {cls:=.type "zip",dict:=gV,data:=.fields fs,slots:=l})(hE:∀h' d e,s.heap.NewAttrErr h' e (.ref a) (Qv "keys")->E (.ref e) {s with heap:=h',toks:=d}):PY (P9 prog w) A (call (.builtin "zip.__getattribute__") ([.ref a]++[.str (Qv "keys") u])) Q E s:=by
 let t:s.TypeIs (.ref a) "zip":=#[_,m,rfl];calc U8 (Vi Sb.plain yk (Sb.check _ _ _ _ _ _ [] _ t (PySem.F.args_zip_getattribute_2 _ _) ?_));refine Qu (uO a fs l (Qv "keys") u AY ∅ ∅ prog w A (λr j=>∃h' d e,r=.error (.ref e)/\s.heap.NewAttrErr h' e (.ref a) (Qv "keys")/\j={s with heap:=h',toks:=d}) s #[m,p,λh' d e g=>#[h',d,e,rfl,g,rfl]]) (λfin j z=>?_) (λe j z=>?_)
 .rcases fin with f|c
  .have(_,_,_,h,_):=z;cases h
  .exact#[z.1,Th z.2 λr o q=>by let(h',d,e,rfl,g,rfl):=q;calc hE h' d e g]
 .have(h',d,e,h,g,rfl):=z
  cases h
  calc hE h' d e g
def zR (p:A.handled=gV)(l:s.heap.get? a=U {cls:=.type "zip",dict:=gV,data:=.fields fs,slots:=m})(hQ:∀h' g,(∀b o,s.heap.get? b=U o->h'.get? b=U o)->Q gV {s with heap:=h',toks:=g}):PY (P9 prog w) A (getAttr? (.ref a) (Qv "keys")) Q E s:=by
 unfold getAttr?;calc bN (WZ ?_);let r:Vd {s with toks:=s.toks+1} (.ref a) "zip":=#[_,l,rfl];unfold getAttrBy?;calc bN (SA ?_);unfold getAttrBy;calc QG (bN (SY r ?_));rw[show VH (.type "zip") (Qv "__getattribute__")=pure (U (.builtin "zip.__getattribute__"))from Sb.lookup];calc bN (rz ?_);dsimp only;rw[if_neg ∅];unfold getAttrByItsOwn hookBefore;rw[if_neg ∅];calc bN (rz ?_);calc bN (SA (QG ?_));unfold callGetattribute;rw[if_neg ∅];unfold boundAndCalled;rw[Sb.bind];calc bN (rz ?_);calc Fz (s:={s with toks:=s.toks+1}) p l λh' g e j=>?_;let(t,u,q):=j.there;let d:Vd {s with heap:=h',toks:=g} (.ref e) "AttributeError":=#[_,q,rfl];show PY _ _ (getattributeRaised _ _ _ _ gV AE AE) _ _ _;unfold getattributeRaised;calc bN (R6 d rV ?_);rw[if_pos rfl];unfold hookBehind;rw[if_neg ∅,PySem.F.plainAttrs_zip.noGetattr];calc bN (rz ?_);unfold hookOrError;dsimp only;unfold attributeErrorLeaves;dsimp only;rw[if_pos (show(!AE)=AD from rfl)];calc bN (wpAny_throw ?_);calc bN (R6 d rV ?_);rw[if_pos rfl];calc rz (hQ h' g j.keeps)
def FA {TI TO lo:Nat}(D:UL z TI TO l j l1 l2)(L:z<lo/\l<lo/\j<lo)(d:Ov s.heap z TI TO l j l1 l2 lo xs ys i)(r:lo<=s⁻¹)(C:xs[i]?=U x)(B:ys[i]?=U y)(hQ:∀h',(∃(T:Nat) (g:Bool) (m:Obj),wR h' z TI TO T g/\h'.get? T=U m/\lo<=T)->h'.IsListIter l l1 (i+1)->h'.IsListIter j l2 (i+1)->R5 h' s⁻¹ x y ->
   (∀c o,c≠z->c≠TO->c≠l->c≠j->s.heap.get? c=U o->h'.get? c=U o)->Q (U (.ref s⁻¹)) {s with heap:=h'}):
  PY (P9 prog w) A (SR (.ref z)) Q E s:=by
 let(R,O,N):=L;let up:∀{a b:Nat},b<lo->lo<=a->a≠b:=λH G=>Tf (P8 H G);rcases d.st with⟨e0,hz,a,b,hTO⟩|⟨T,g,m,hz,hT,hTlo⟩
 .refine wpAny_pyNext_zip_item D hz d.ti hTO d.it1 d.it2 d.ls1 d.ls2 C B λh' v gD u t q S p=>?_;exact hQ h' #[s⁻¹,AE,_,v,q,r] u t q p
 .refine uV D hz hT d.ti d.it1 d.it2 d.ls1 d.ls2 C B λh' v u t q p=>?_;calc hQ h' #[T,AD,m,v,p T m (up R hTlo) (up O hTlo) (up N hTlo) hT,hTlo] u t q λc o M _ J I e=>p c o M J I e
def IX {prog:L0}{A:Qk}{R:Uh->fy->Prop}{s:fy}{v:Type}[DecidableEq v]{knd:KeyKind prog w v}{d z TI TO t r l1 l2 lo n:Nat}{xs ys:Array eT}{rs:MC (v×eT)}{h₁:Heap}(hh:A.handled=gV)(D:UL z TI TO t r l1 l2)(hd:d≠z/\d≠TI/\d≠TO/\d≠t/\d≠r/\d≠l1/\d≠l2)(hL:z<lo/\TO<lo/\t<lo/\r<lo/\d<lo)(hnx:n<=xs.size)(hny:n<=ys.size)(hend:xs[n]?=gV\/ys[n]?=gV)(hn:n<=my)(hrl:⇑rs=n)(hpr:∀(i:Nat) (Z:v×eT),rs[i]?=U Z->∃key,xs[i]?=U key/\ys[i]?=U Z.2/\knd.is Z.1 key=AD)(hR:∀h' m,h'.DictOf knd d (XX [] rs)->(∀b o,b≠d->b≠z->b≠TO->b≠t->b≠r->h₁.get? b=U o->h'.get? b=U o)->R (.ok (.ret .none)) {s with heap:=h',toks:=m}):
  ∀(k i:Nat) (h:Heap) (m:Nat),n-i=k->i<=n->Ov h z TI TO t r l1 l2 lo xs ys i->(∀b o,b≠d->b≠z->b≠TO->b≠t->b≠r->h₁.get? b=U o->h.get? b=U o)->lo<=h.objs.size->h.DictOf knd d (XX [] (rs.take i)) ->
   RS (P9 prog w) A (.builtin "dict.update.loop" #[[.ref d,.ref z,S5 i,.none],[]]) R {s with heap:=h,toks:=m}:=by
 let(X,s2,s3,W,V,s6,s7):=hd;let(L1,L2,L3,L4,L5):=hL;let up:∀{a b:Nat},b<lo->lo<=a->a≠b:=λh1 J=>Tf (P8 h1 J);intro k
 induction k with
 |zero =>
  intro i h m hk hi g j u p;let ac:i=n:=()
  subst ac;calc Vs vN ?_;rw[TU nZ _];show PY _ A.in1 (SR (.ref z)>>=_) _ _ _;rw[<-hrl,Ql]at p
  let fin:∀h':Heap,(∀c o,c≠z->c≠TO->c≠t->c≠r->h.get? c=U o->h'.get? c=U o)->R (.ok (.ret .none)) {s with heap:=h',toks:=m}:=λh' l =>
   hR h' m (p.at λo e=>l d o X s3 W V e) (λb o gD O N M L e=>l b o O N M L (j b o gD O N M L e))
  rcases g.st with⟨e0,hz,a,b,hTO⟩|⟨T,q,oT,hz,Q,hTlo⟩
  .exact bN (wpAny_pyNext_zip_end (s:={s with heap:=h,toks:=m}) (A:=A.in1) hh D hz g.ti hTO g.it1 g.it2 g.ls1 g.ls2 hend λh' l=>bN (rz (rz (fin h' l))))
  .cases y:xs[i]? with
   |none=>calc bN (wU (s:={s with heap:=h,toks:=m}) (A:=A.in1) hh D hz Q g.ti g.it1 g.ls1 y λh' l=>bN (rz (rz (fin h' λc o c1 _ c3 c4 e=>l c o c1 c3 c4 e))))
   |some x =>
    let hy:ys[i]?=gV:=hend.resolve_left (by rw[y];intro z;cases z);calc bN (uW (s:={s with heap:=h,toks:=m}) (A:=A.in1) hh D hz Q g.ti g.it1 g.it2 g.ls1 g.ls2 y hy λh' l=>bN (rz (rz (fin h' λc o c1 _ c3 c4 e=>l c o c1 c3 c4 e))))
 |succ k ih =>
  intro i h m hk hi g j u p;let B:i<n:=()
  let G:i<⇑rs:=()
  let(key,y,hy,C):=hpr i rs[i] (pC G);calc Vs vN ?_;rw[TU nZ _];show PY _ A.in1 (SR (.ref z)>>=_) _ _ _;calc bN (FA (s:={s with heap:=h,toks:=m}) (A:=A.in1) D #[L1,L3,L4] g u y hy λJ hb j1 j2 hp l=>?_);let Y:h.objs.size≠d:=up L5 u;let H:J.DictOf knd d (XX [] (rs.take i)):=p.at λo e=>l d o X s3 W V e;let Q:Vd {s with heap:=J,toks:=m} (.ref h.objs.size) "tuple":=#[_,hp,rfl];dsimp only;calc bN (QG (bN (Xs ?_)));unfold RQ.Dict.pairItems;calc bN (SY Q ?_);rw[if_pos (show(Value.type "tuple" == Value.type "list"||Value.type "tuple" == Value.type "tuple")=AD by decide)]
  calc bN (Rh hp rfl (rz ?_));show PY _ _ (Vy [key,rs[i].2] (dictSet d key rs[i].2)) _ _ _;calc QG (Vv C H (λS I aa=>?_) (by let:=merged_length_le ([]:MC (v×eT)) (rs.take i);rw[I0]at this;simp at this;omega));refine rz #[Ws nZ _,?_]
  let e1:YH (XX [] (rs.take i)) rs[i].1 rs[i].2=XX [] (rs.take (i+1)):=by
   rw[merged_take_succ [] rs i _ (pC G)]
  rw[e1]at I;let jT:∀b o,b≠d->J.get? b=U o->S.get? b=U o:=λb o nb e=>aa.extBut b o nb e;let ab:R5 S h.objs.size key rs[i].2:=jT _ _ Y hp;refine ih (i+1) S _ () B #[?_,?_,?_,?_,?_,?_] ?_ ?_ I
  .exact jT _ _ (RP s2) (l TI _ D.TIz D.TITO D.TIi1 D.TIi2 g.ti)
  .exact j1.at λo e=>jT _ o (RP W) e
  .exact j2.at λo e=>jT _ o (RP V) e
  .exact g.ls1.at λo e=>jT _ o (RP s6) (l _ o D.l1z D.l1TO D.l1i1 D.l1i2 e)
  .exact g.ls2.at λo e=>jT _ o (RP s7) (l _ o D.l2z D.l2TO D.l2i1 D.l2i2 e)
  .have(T,q,oT,e1,e2,e3):=hb;exact .inr #[T,q,oT,jT _ _ (RP X) e1,jT _ _ (up L5 e3) e2,e3]
  .exact λb o gD O N M L e=>jT b o gD (l b o O N M L (j b o gD O N M L e))
  .have:h.objs.size<S.objs.size:=P0 ab;omega
def vc [DecidableEq r]{knd:KeyKind prog w r}{l1 l2 n:Nat}{xs ys:Array eT}{rs:MC (r×eT)}{Q:eT->fy->Prop}(X:A.handled=gV)(p:s.heap.IsList l1 xs)(m:s.heap.IsList l2 ys)(M:n<=xs.size)(L:n<=ys.size)(u:xs[n]?=gV\/ys[n]?=gV)(hn:n<=my)(hrl:⇑rs=n)(hpr:∀(i:Nat) (I:r×eT),rs[i]?=U I->∃key,xs[i]?=U key/\ys[i]?=U I.2/\knd.is I.1 key=AD)(hQ:∀h' C,h'.DictOf knd (s⁻¹+5) (XX [] rs)->(∀b o,s.heap.get? b=U o->h'.get? b=U o)->Q (.ref (s⁻¹+5)) {s with heap:=h',toks:=C}):
  PY (P9 prog w) A (call (.type "zip") [.ref l1,.ref l2]) (λv Y=>PY (P9 prog w) A (call (.type "dict") [v]) Q E Y) E s:=by
 let aa:l1<s⁻¹:=by let(_,e,_):=p;exact P0 e
 let Z:l2<s⁻¹:=by let(_,e,_):=m;exact P0 e
 refine call_zip_2 p m λg V gD T h1 h2 J O=>?_
 let D:UL (s⁻¹+4) (s⁻¹+2) (s⁻¹+3) s⁻¹ (s⁻¹+1) l1 l2:=by
  refine#[?_,?_,?_,?_,?_,?_,?_,?_,?_,?_,?_,?_,?_,?_,?_,?_,?_,?_]<;>(show @Ne Nat _ _;omega)
 let G:(g.push {cls:=.type "dict",data:=.dict #[]}).get? g.objs.size=U {cls:=.type "dict",data:=.dict #[]}:=P5 _ rfl;let jT:∀b o,g.get? b=U o->(g.push {cls:=.type "dict",data:=.dict #[]}).get? b=U o:=λb o e=>u5 _ e
 refine callType_codes (Q₁:=λt j=>t=.ref g.objs.size/\j={s with heap:=g.push {cls:=.type "dict",data:=.dict #[]}}) PySem.F.kt_called_dict (PySem.F.kt_typeCall_dict_1 _) PySem.F.entry_dict_init
  (kt_code_dict_new _ #[rfl,rfl]) λt j h₁=>?_
 let(rfl,rfl):=h₁;calc#[#[_,G,rfl],PySem.F.args_dict_init_2 _ _,?_];let B:Heap.DictOf knd (g.push {cls:=.type "dict",data:=.dict #[]}) g.objs.size (XX ([]:MC (r×eT)) (rs.take 0)):=W5 g;generalize g.push {cls:=.type "dict",data:=.dict #[]}=g1 at G jT B|-;let S:Vd {s with heap:=g1} (.ref g.objs.size) "dict":=#[_,G,rfl];let l:=jT _ _ V;let R:Vd {s with heap:=g1} (.ref (s⁻¹+4)) "zip":=#[_,l,rfl];unfold RQ.«dict.__init__» RQ.Dict.selfAndRest RQ.Dict.notOrdered;calc bN (bN ?_);rw[if_pos ∅];dsimp only[List.headD];calc bN (SY S ?_);rw[if_neg ∅];calc rz ?_;calc bN (show PY _ _ (RQ.Dict.addrOf (.ref g.objs.size)) _ _ _ from rz (rz ?_));show PY _ _ (WL "dict.__init__" g.objs.size (.ref (s⁻¹+4)) [] .none) _ _ _;unfold WL;calc bN (SY R ?_);dsimp only;rw[if_pos ∅];calc bN (zR (s:={s with heap:=g1}) X l λq C d=>?_);dsimp only;rw[if_pos (show(gV:AF eT).isNone=AD from rfl)];calc bN (U7 (bN ?_));calc WJ (s:={s with heap:=q,toks:=C}) (d _ _ l) ?_;let all:∀b o,g.get? b=U o->q.get? b=U o:=λb o e=>d _ _ (jT b o e);let eg:g.objs.size=s⁻¹+5:=J
 let N:s⁻¹+6<=q.objs.size:=by
  let h5:(g.objs.size:Nat)<q.objs.size:=P0 (d _ _ G);omega
 refine rz #[Ws nZ _,?_]
 refine IX (n:=n) (s:=s) (lo:=s⁻¹+6) (h₁:=q) (A:=A.in1) X D (by refine#[?_,?_,?_,?_,?_,?_,?_]<;>(show @Ne Nat _ _;omega)) () M L u hn hrl hpr (λh' H y W=>?_) n 0 q C () (Qc _)
  #[all _ _ gD,h1.at λo e=>all _ o e,h2.at λo e=>all _ o e,p.at λo e=>all _ o (O _ o e),m.at λo e=>all _ o (O _ o e),.inl #[rfl,all _ _ V,_,_,all _ _ T]] (λ_ _ _ _ _ _ _ e=>e) N (B.at λo e=>d _ o e)
 calc#[rfl,?_];rw[eg]at y W|-;calc hQ h' H y λb o e=>?_;let z:∀k,b≠s⁻¹+k:=λk=>Qs (P8 (P0 e) (RA _ k));calc W b o (z 5) (z 4) (z 3) (z 0) (z 1) (all b o (O b o e))
meta def PN(K:cB)(t:TA):TE:=λl H Q=>t l H λm e=>∃p q j g,m=[.ref p,.ref q]/\aV K e p ((j:List AA).map V.str)/\aV K e q g/\⇑g=⇑j /\
 ∀d,e d=gV->Q (.ref d) (upd e d (.dK (ja [] ((j.zip g).map λx=>((Sum.inr x.1:Key),x.2)))))
theorem JD :∀{j:List AA}{ys:MC V}{g e:List eT},Vals (j.map V.str) g->Vals ys e->⇑ys=⇑j ->
  ∃rs:MC (Key×eT),KV ((j.zip ys).map λx=>((Sum.inr x.1:Key),x.2)) rs/\⇑rs=⇑j/\∀(i:Nat) (d:Key×eT),rs[i]?=U d->∃key,g[i]?=U key/\e[i]?=U d.2/\(aW P w).is d.1 key=AD
 | [],[],_,_,_,_,_=>#[[],.nil,rfl,λi d h=>by simp at h]
 |x::j,y::ys,g,e,h1,h2,hl=>by
  cases h1 with
  |cons a r1 =>
   cases h2 with
   |cons b r2 =>
    let(rs,o,m,l):=JD (P:=P) (w:=w) r1 r2 (by simpa using hl);refine#[(Sum.inr x,_)::rs,.cons #[rfl,b] o,by simp[m],λi d h=>?_]
    cases i with
    |zero =>
     obtain rfl:=Qw (show U _=U d from h);calc#[_,rfl,rfl,qc (k:=Sum.inr x) a]
    |succ i=>calc l i d h
def AZ (hc:X.calm=AD)(y:Gl X "dict")(o:X.mg "dict"=gV)(r:Gl X "zip")(m:X.mg "zip"=gV)(ha:PA X [a,b] t)(he:QS [a,b] X.env=(AE,eval a X.env)::QS [b] X.env:=by rfl)(hpl:(UC p2 (QS [b] X.env)).any (·.1)=AE:=by rfl)(he2:QS [.Call (.Name "zip" p1) [a,b] [] p2] X.env=[(AE,eval (.Call (.Name "zip" p1) [a,b] [] p2) X.env)]:=by rfl):
  PE X (.Call (.Name "dict" p3) [.Call (.Name "zip" p1) [a,b] [] p2] [] p4) (PN X.K t):=by
 intro d s C H Q I h;calc Rx (ni I y o boot_dict ?_ ∅ ∅);calc Ru ?_ he2 rfl;rw[he2];calc Ui ?_;calc Rx (ni I r m boot_zip ?_ ∅ ∅);calc Ru ?_ he hpl;calc cQ (ha p2 d s C H _ I h) λus N ⟨vs,H1,e,l,q1⟩=>?_;let(p,q,j,D,rfl,hx,hy,L,hq):=q1;let(u,w',rfl,l,r2):=vals2 l
 cases l
 cases r2
 let(Y,G,R,J):=e.list hx;let(W,g,O,Z):=e.list hy;let e1:=⇑G;let e2:=⇑g;rw[bM]at e1 J;let(rs,V,gD,T):=JD (P:=X.prog) (w:=X.w) G g L;let hb:=e.big;calc cQ (vc (knd:=aW X.prog X.w) (n:=⇑j) (rs:=rs) (Q:=EP X d C Q) (E:=X.xe) (e.ok.hd hc) R.isList O.isList (by simp only[P4];omega) (by simp only[P4];omega) (.inl (by simp;omega)) () gD (λi S h=>by simpa using T i S h) λh' M B hk=>?_) λv s2 h2=>V5 (by simpa using h2);refine#[.ref (N⁻¹+5),_,e.laid (t':=M) hk (RA _ 5) (An (kvs:=ja [] ((j.zip D).map λx=>((Sum.inr x.1:Key),x.2))) ?_ (beq_eq_false_iff_ne.mpr (λz=>?_)) (KV.merge V .nil) B),rfl,hq _ (e.hok.fresh (RA _ 5))]
 .have:=lF ((j.zip D).map λx=>((Sum.inr x.1:Key),x.2)) [];rw[bM,List.length_zip,L,S3]at this;exact Qq this (by simpa using J)
 .exact absurd hb (by rw[<-z];calc XY.mpr (RA _ 5))
end L2
namespace G16
open PySem L2
meta def JE[Wds](K:cB)(H:Hp)(v:V):Prop:=∃(d:Kl) (e:MC Df) (q:Nat),Rp K H (.t [.t (d.map fP),.t (e.map iC)]) v/\Pq q d e/\q<=3
def JE.Z [Wds](g:JE K H v)(s:aS H d):JE K d v:=by
 let(e,j,q,a,b,c):=g;calc#[e,j,q,a.Z s,b,c]
def twoSame (h:wD H o v)(s:aS H d):wD d o v:=by
 cases o with
 |none=>calc h
 |some w =>
  let(p,e,q):=h;calc#[p,e,s _ _ q]
def cG :Nm YR (af lz):=∅
def iD :Lm YR (af lz):=∅
def ir :aY YR ["_law_script"] (af lz):=by ac_rfl
def C6 [Wds](a5:jn<=j)(h7:7<=j){f:AB}{cdv:eT}{A:Qk}{outer:MC RJ}{s:fy}{H1:Hp}{E:XK}(I:Ya "_law_told" 7 Γm (yh K) gL lfd)(Z:Ya "_law_named_so" jn ZY (nW λ_=>oB K) gN nfd)(SO:Ya "_law_so" 1 ZA (AW K) gS sfd)(g:mg "repr"=gV)(d:mg "isinstance"=gV)(e:mg "list"=gV)(hr:dZ j (A.deeper (Qj "law" (af lz) s⁻¹ f cdv))){D:L2.Ends}{H:Hp}{pv:V}{lm lq d0 d1 d2 d3:AB}{ws u0 u1 u2 u3:List AA}{vs:MC V}{kl0:Kl}{dl0:MC Df}{o0 o2 o3 o4 o6 o7 o9 o10 o11 o12 o13:AF V}(W:BP ws)(U0:oM u0)(U1:oM u1)(U2:oM u2)(U3:oM u3)(ms:yj H lm d0 d1 d2 d3 ws u0 u1 u2 u3)(hq:H lq=U (.Y vs))(lv:⇑vs=4)(gs:∀v∈vs,JE K H v)(rp:Rp K H (.t [.t (kl0.map fP),.t (dl0.map iC)]) pv)(pq:Pq 0 kl0 dl0)(e0:cR kl0 dl0=gV)(k:∀H',D.rt (.bl AD) H'):
  jA (Zk gy YR "law" (af lz) H1).oS ((bE lz).drop 8) D [o0,U pv,o2,o3,o4,U (.ref lm),o6,o7,U (.ref lq),o9,o10,o11,o12,o13] H:=by
 refine eY ((Z5 (Zl QU (jU[4]! (Zj jQ (va cG 8) (iE jV (va cG 8) bW (bL au)))) (ga ir.nd iD 11) (Z5 (Z4 ir.nd iD 12 (Z0 I (Za (va cG 11)))) (Z5 (Zb (Zh vh (Z2 (uN hr.gd hr.Kw) g W3 (Z1 (Z0 I (Z1 (Z0 Z (Z1 (va cG 11) (Z1 (Zj Am (aZ[4]! (Z1 (Z7 br (va cG 5)) ak)) au) ak))) ak)) ak)) (Z2 (uN hr.gd hr.Kw) g W3 (Z1 (Z0 SO (Z1 (va cG 12) (Z1 (Z7 br (va cG 5)) ak))) ak))) (d7 (eX tG))) (Z5 (Z4 ir.nd iD 13 (Z0 I (Z1 (Z0 Z (Z1 (va cG 11) (Za (va cG 5)))) ak))) (Zd (Zb (PW.pt (rO[7]! (Zh vh (Z2 (oG K rfl) d QD (Z1 (va cG 13) (Za (lX (v:=.ty "list") (by left) e ∅ rfl)))) (Z2 (oG K rfl) d QD (Z1 (va cG 12) (Za (lX (v:=.ty "list") (by left) e ∅ rfl))))) (qN[4]! (PW.pt (iY[7]! (qM[3]! (Z2 (oG K rfl) d QD (Z1 (va cG 12) (Za (lX (v:=.ty "list") (by left) e ∅ rfl)))) (by intro _;rfl)) (iu[4]! (Zh vh (Z7 br (va cG 13)) (Z7 br (va cG 12))))))))) (d7 (eX tG)))))))) (Zd (Zo (jC[8]! Fy (Z0 I (Za (va cG 1))) tG (mh _)))))) ?_
 right
 right
 let bq:aV K H lq vs:=aV.of hq;ext;calc nw λl1 H2 s2 h2 a4=>?_;let bc:=s2 _ _ hq
 let c1:∀v∈gx vs gV (U 1),v∈vs:=λv hv=>by
  rw[show(U (1:Int))=U ((1:Nat):Int)from rfl,dm]at hv;exact Qy hv
 let c2:⇑(gx vs gV (U 1))<=4:=by
  rw[show(U (1:Int))=U ((1:Nat):Int)from rfl,dm,I0];omega
 generalize gx vs gV (U 1)=v1 at h2 c1 c2;let lc:⇑vs+⇑v1<=my:=small ();ext l2 an;let s3:=ae an (.Y (vs++v1));let h3:upd H2 l2 (.Y (vs++v1)) l2=U (.Y (vs++v1)):=aj;generalize upd H2 l2 (.Y (vs++v1))=H3 at s3 h3|-;let gD:=s2.trans s3;let aq:aV K H3 l2 (vs++v1):=aV.of h3;ext;refine tJ (K:=K) (a:=l2) (xs:=vs++v1) (λi σ H4=>(∃ac ab aa,σ=[o0,U pv,o2,o3,o4,U (.ref lm),o6,o7,U (.ref lq),o9,o10,ac,ab,aa])/\aS H3 H4) #[#[_,_,_,rfl],aS.refl _] ?_ ?_ ?_
 .exact λi σ H4 _ ⟨_,Q⟩=>Q.seq aq
 .rintro i v σ H4 hv ⟨⟨_,_,_,rfl⟩,Q⟩;let am:v∈vs:=(zv.mp (P6 hv)).elim id (c1 v);let T:=gD.trans Q;let(kl,dl,q,r,u,q3):=(gs v am).Z T;let(hB,d8,hD):=u.lk;let al:=ms.Z T;ext v5 H5 s5 t5;let G:=al.Z s5;let r5:=r.Z s5;let bf:aV K H5 lm [.ref d0,.ref d1,.ref d2,.ref d3]:=aV.of G.l;ext;calc nw λl6 H6 s6 h6 a3=>?_;let bg:aV K H6 l6 [.ref d0]:=aV.of h6;ext;calc nw λl7 H7 s7 h7 a2=>?_;let ap:H7 l7=U (.Y [.ref d0,.ref d0,.ref d0,.ref d0]):=h7;let N:=s6.trans s7;let C:=G.Z N;let mm:zQ H7 l7 (yr ws u0 u0 u0 u0):=#[d0,d0,d0,d0,ap,.jT W U0 C.h0,.jT W U0 C.h0,.jT W U0 C.h0,.jT W U0 C.h0];let r7:=r5.Z N;let(a9,bb,a7):=u.Oj (AX W U0 U0 U0 U0);let(a8,ba,a6):=u.Oj (AX W U0 U1 U2 U3);let(a1,ai,L,gm):=two_same W U0 u;ext v8 H8 s8 r8;ext v9 H9 s9 t9;let M:=N.trans (s8.trans s9);let R:=twoSame t5 M;let Y:=G.Z M;let be:aV K H9 lm [.ref d0,.ref d1,.ref d2,.ref d3]:=aV.of Y.l;let ao:=Y.h0;ext;unfold AW;calc#[v5,d0,_,yg ws u0,jv ws u0,rfl,R,ao,gm,λaw bi S ax=>?_];rw[L]at ai;ext;rw[L,show(!decide (V.str (M5 ((twF (cR kl dl)).map λx=>(x.1,jv ws u0 x.2)))=V.str (M5 ((twF (cR kl dl)).map λx=>(x.1,jv ws u0 x.2)))))=AE by rw[decide_eq_true rfl];rfl];let o:=M.trans S;let as:=(G.Z o).mp W U0 U1 U2 U3;let a0:=r5.Z o;ext av bh ah az;ext ad z ag B;let p:=ah.trans ag;let m:=twoSame (twoSame R S) p;let J:aS H3 z:=Q.trans (s5.trans (o.trans p));rcases two_mp W U0 U1 U2 U3 u with⟨e1,e2⟩|⟨f1,g1,e1,e2,e3,_,_,_⟩
  .rw[e1]at m;rw[e2]at B;obtain rfl:v5=.bl AD:=m;obtain rfl:ad=.bl AD:=B;ext;calc .inr #[_,rfl,?_];ext;calc .inr #[_,rfl,?_];ext;calc .inr #[_,rfl,?_];ext;exact J
  .rw[e1]at m;rw[e2]at B;let(p5,rfl,O):=m;let(X,rfl,y):=B;let O:z p5=U (.Y [.str (CB f1.1),.str f1.2]):=O;let y:z X=U (.Y [.str (CB f1.1),.str g1.2]):=by rw[e3];exact y
   let b5:aV K z p5 [.str (CB f1.1),.str f1.2]:=aV.of O;let ar:aV K z X [.str (CB f1.1),.str g1.2]:=aV.of y;ext;calc .inl #[_,_,rfl,ar,?_];ext;calc .inl #[_,_,rfl,b5,?_];ext;calc .inl #[_,_,rfl,b5,?_];ext;rw[show(!decide (V.str (CB f1.1)=V.str (CB f1.1)))=AE by rw[decide_eq_true rfl];rfl];ext;exact J
 .rintro σ H4 ⟨⟨_,_,_,rfl⟩,Q⟩;let(hB,d8,hD):=pq.lk;let ay:=rp.Z (gD.trans Q);ext v5 H5 s5 t5;rw[e0]at t5;obtain rfl:v5=.bl AD:=t5;ext;calc k _
def JE.kt [Wds](g:JE K H v)(s:Kt H d):JE K d v:=by
 let(e,j,q,a,b,c):=g;calc#[e,j,q,a.kt s,b,c]
structure PR[Wds] (K:cB) (fe lq:AB) (H:Hp) (i:Nat) (H2:Hp):Prop where
 f:dH [lq] fe H H2
 x:∃vs,H2 lq=U (.Y vs)/\⇑vs=i+1/\∀v∈vs,JE K H2 v
def C7 [Wds](aa:jn<=j)(ap:jc<=j)(h7:7<=j){f:AB}{cdv:eT}{A:Qk}{outer:MC RJ}{s:fy}{H1:Hp}{E:XK}(TK:Ya "_law_take" 1 YO cg gT tfd)(ag:Ya "_law_changed" jc ZL (nW λ_=>rL K) gC cfd)(ad:Ya "_law_told" 7 Γm (yh K) gL lfd)(ae:Ya "_law_named_so" jn ZY (nW λ_=>oB K) gN nfd)(SO:Ya "_law_so" 1 ZA (AW K) gS sfd)(m:mg "repr"=gV)(z_range:mg "range"=gV)(d:mg "isinstance"=gV)(p:mg "list"=gV)(hr:dZ j (A.deeper (Qj "law" (af lz) s⁻¹ f cdv))){D:L2.Ends}{H:Hp}{pv:V}{lw fe lm lq d0 d1 d2 d3:AB}{ws u0 u1 u2 u3:List AA}{kl0:Kl}{dl0:MC Df}{o0 o4 o6 o7 o9 o10 o11 o12 o13:AF V}(W:BP ws)(U0:oM u0)(U1:oM u1)(U2:oM u2)(U3:oM u3)(ms:yj H lm d0 d1 d2 d3 ws u0 u1 u2 u3)(ww:∀x∈ws,Wo x)(hw:H lw=U (.Y (ws.map V.str)))(hf:cH H fe)(nw1:lw≠fe)(nm1:lm≠fe)(nq1:lq≠fe)(nw2:lw≠lq)(nm2:lm≠lq)(hq:H lq=U (.Y [pv]))(rp:Rp K H (.t [.t (kl0.map fP),.t (dl0.map iC)]) pv)(pq:Pq 0 kl0 dl0)(e0:cR kl0 dl0=gV)(k:∀H',D.rt (.bl AD) H'):
  jA (Zk gy YR "law" (af lz) H1).oS ((bE lz).drop 7) D [o0,U pv,U (.ref lw),U (.ref fe),o4,U (.ref lm),o6,o7,U (.ref lq),o9,o10,o11,o12,o13] H:=by
 refine eY ((Z5 (Zl QU (qP (by left) z_range (Za au)) (ga ir.nd iD 7) (Z5 (sa ir.nd iD 9 (va cG 1)) (Z5 (Zl QU (Zr (Z1 (Zj dU au (Z0 TK (cU (va cG 3) (Za au)))) ak)) (ga ir.nd iD 10) (Zd (Z4 ir.nd iD 9 (Z0 ag (Z1 (va cG 3) (Z1 (va cG 9) (Za (va cG 2)))))))) (Zd (Zm (Z8 (va cG 8) (Za (va cG 9)))))))) cZ)) ?_
 right
 right
 let am:⇑(ws.map V.str)=26:=by rw[bM,W.l]
 ext;refine iw (n:=3) (λi r O=>(∃y7 y9 y,r=[o0,U pv,U (.ref lw),U (.ref fe),o4,U (.ref lm),o6,y7,U (.ref lq),y9,y,o11,o12,o13])/\PR K fe lq H i O) #[#[_,_,_,rfl],#[dH.refl hf,[pv],hq,rfl,λv Z=>by rw[vv.mp Z];calc#[kl0,dl0,0,rp,pq,∅]]] ?_ ?_
 .rintro i r O hi ⟨⟨_,_,_,rfl⟩,I⟩;let f2:=I.f;let ab:=f2.ff;ext m3 H3 al ai Q;let f3:=f2.ext Q;let R:=rp.kt f3.kt;ext;refine iw (n:=(1+m3).toNat) (λc r B=>∃y G M N,r=[o0,U pv,U (.ref lw),U (.ref fe),o4,U (.ref lm),o6,U (.int (0+(i:Int))),U (.ref lq),U G,y,o11,o12,o13]/\Ext fe H3 B/\Rp K B (.t [.t (M.map fP),.t (N.map iC)]) G/\Pq c M N) #[_,pv,kl0,dl0,rfl,Ext.refl Q.2,R,pq] ?_ ?_
  .rintro c r B hc ⟨_,G,M,N,rfl,C,r4,p4⟩;let f4:=f3.ext C;let ar:=C.2;let ao:=f4.gm nw2 nw1 hw;let c2:c<=2:=()
   let w1:1<=⇑ws:=by rw[W.l];decide
   let ah:⇑ws<=100:=by rw[W.l];decide
   ext v5 H5 Y ac x5 r5 p5;exact#[_,v5,Y,ac,rfl,C.trans x5,r5,p5]
  .rintro r B ⟨_,G,M,N,rfl,C,r4,p4⟩;let(L,T,X,gs):=I.x;let f4:=f3.ext C;let J:=Q.trans C;let S:=J.1 _ _ nq1 T;let b4:aV K B lq L:=aV.of S;let an:⇑L<my:=bg ();ext;let kt:Kt B (upd B lq (.Y (L++[G]))):=Kt.Y S _;calc#[f4.upd (.head _) nq1 S,L++[G],aj,by rw[mu,X];rfl,λv Z=>?_];rcases zv.mp Z with h|h
   .exact((gs v h).kt (J.kt ab)).kt kt
   .rw[vv.mp h];exact#[M,N,_,r4.kt kt,p4,()]
 .rintro r O ⟨⟨_,_,_,rfl⟩,I⟩;let(L,T,X,gs):=I.x
  let q:∀{b:AB}{u:MC (Key×V)},H b=U (.dK u)->b≠lq/\b≠fe:=λe=>#[jw e hq nofun,λz=>by
   let(_,_,h):=hf;rw[z,h]at e;cases e]
  let g:∀{b:AB}{o:HO},b≠lq->b≠fe->H b=U o->O b=U o:=λa b e=>I.f.gm a b e;let gD:yj O lm d0 d1 d2 d3 ws u0 u1 u2 u3:=#[g nm2 nm1 ms.l,g (q ms.h0).1 (q ms.h0).2 ms.h0,g (q ms.h1).1 (q ms.h1).2 ms.h1,g (q ms.h2).1 (q ms.h2).2 ms.h2,g (q ms.h3).1 (q ms.h3).2 ms.h3];ext;calc C6 aa h7 ad ae SO m d p hr W U0 U1 U2 U3 gD T X gs (rp.kt I.f.kt) pq e0 k
meta def BQ(K:cB):Sp:=λe H Q _=>∃(a:AB) (d:MC Int),e=[.ref a]/\aV K H a (d.map V.int)/\⇑d<=63/\∀g,Q (.bl AD) g
meta def zy:List AA:=["zzzzzz","yy"]
def M9 :∀x∈zy,@Wo qK x/\x≠("match":AA)/\x≠("?":AA):=by
 intro x d;let z:x∈[("zzzzzz":AA),"yy"]:=d;simp only[P1,Qo,or_false]at z;rcases z with rfl|rfl
 .exact#[#[∅,uI _ ∅,True.intro],∅,∅]
 .exact⟨⟨∅,uI _ ∅,True.intro⟩,∅,∅⟩
def Na (g:⇑xs=24)(e:∀x∈xs,@Wo (qC xs) x):@BP (qC xs) (xs++zy)/\∀x∈xs++zy,@Wo (qC xs) x:=by
 let all:∀x∈xs++zy,@Wo qK x/\x≠("match":AA)/\x≠("?":AA):=λx d=>(zv.mp d).elim (λh=>#[#[(e x h).1,(e x h).2.1,True.intro],(e x h).2.2.2]) (M9 x);refine#[@BP.mk (qC xs) _ (λx h=>h.1) (λx d=>(all x d).1) (λh=>(all _ h).2.1 rfl) (λh=>(all _ h).2.2 rfl) (by rw[mu,g];rfl),λx d=>#[(all x d).1.1,(all x d).1.2.1,d,(all x d).2]]
def Nb (l:⇑ps=26)(u:Un ps)(w:∀x∈ps,⇑x<=20/\Lo x/\x≠"match"/\x≠"?")(t:Nat)(ht:t<26):oM (ps.drop t++ps.take t):=by
 refine#[by rw[mu,QF,I0];omega,?_,λy d=>?_]
 .have p:(ps.drop t++ps.take t).Perm ps:=by
   let:=List.perm_append_comm (l₁:=ps.drop t) (l₂:=ps.take t)
   rwa [R1]at this
  exact p.nodup_iff.mpr (@nX qK _ u)
 .have d:y∈ps:=(zv.mp d).elim Q7 Qy;calc#[(w y d).1,(w y d).2.1,True.intro]
def zS (s:aS H g)(x:Ext r g d)(h:H r=gV):aS H d:=λb o e=>x.1 b o (ay e h) (s b o e)
structure PU(ws:List AA) (fe lm:AB) (H:Hp) (i:Nat) (H2:Hp):Prop where
 f:dH [lm] fe H H2
 x:∃ds:MC (AB×List AA),H2 lm=U (.Y (ds.map λx=>V.ref x.1))/\⇑ds=i/\∀x∈ds,H2 x.1=U (.dK (yg ws x.2))/\oM x.2
def LC (b4:jp<=j)(ba:jn<=j)(bb:jc<=j)(bc:7<=j)(F:i9 K "law" "law" lz f fd)(FD:Ya "_law_feed" 1 Γp (DT K) gF ffd)(TK:Ya "_law_take" 1 YO cg gT tfd)(NM:Ya "_law_names" 2 YO xR gM mfd)(bl:Ya "_law_named_program" jp Γk (BF K) gP pfd)(bi:Ya "_law_told" 7 Γm (yh K) gL lfd)(bn:Ya "_law_changed" jc ZL (nW λ_=>rL K) gC cfd)(bk:Ya "_law_named_so" jn ZY (nW λ_=>oB K) gN nfd)(SO:Ya "_law_so" 1 ZA (AW K) gS sfd)(z_range:mg "range"=gV)(z_repr:mg "repr"=gV)(z_isinstance:mg "isinstance"=gV)(z_list:mg "list"=gV)(z_dict:mg "dict"=gV)(z_zip:mg "zip"=gV):Yf gy (j+1) f fd ["_law_script"] (BQ K):=by
 exists F.ok ir
 .have(a,ns,rfl,_):=h;rfl
 let(a,ns,rfl,hS,bx,k):=h;refine#[_,(Z5 (Zn (Z0 bl (Z1 (Z0 FD (cU (va cG 0) (Za au))) (Za au))) (Zc (Zf (ga ir.nd iD 1) (Zt (ga ir.nd iD 2))))) (Z5 (Z4 ir.nd iD 2 (Zj jQ (va cG 2) (aZ[4]! (cU aC (Za aC))))) (Z5 (Z4 ir.nd iD 3 (Z0 FD (cU (va cG 0) (Za au)))) (Z5 (Z4 ir.nd iD 4 (Z0 NM (cU (va cG 3) (Za au)))) (Z5 (sa ir.nd iD 5 (aZ ak)) (Z5 (Zl QU (qP (by left) z_range (Za au)) (ga ir.nd iD 6) (Z5 (Z4 ir.nd iD 7 (Z0 TK (cU (va cG 3) (Za au)))) (Zd (Zm (Z8 (va cG 5) (Z1 (AZ rfl (by left) z_dict (by left) z_zip (Z1 (va cG 2) (Z1 (Zj jQ (Zq jV (va cG 4) (bL (va cG 7)) bW) (Zq jV (va cG 4) bW (bL (va cG 7)))) ak))) ak)))))) (Z5 (Z4 ir.nd iD 8 (aZ[4]! (Za (va cG 1)))) cZ))))))),?_]
 right
 right
 ext b8 H1 s1 ag b5;ext p lw pv H2 kl dl O x2 bz h2 lx wx sq r b e;let a1:=zS s1 x2 ag;ext;calc nw λl3 H3 s3 h3 b3=>?_;let b7:=s3 _ _ h2;let lc:⇑(O.map V.str)+([.str "zzzzzz",.str "yy"]:MC V).length<=my:=small (by rw[bM];show ⇑O+2<=_;omega);ext;calc nw λl4 H4 s4 h4 b2=>?_;let ea:O.map V.str++[.str "zzzzzz",.str "yy"]=(O++zy).map V.str:=by rw[i4];rfl
 rw[ea]at h4;let gD:=s3.trans s4;let(W,ww):=Na lx wx
 letI:=qC O
 let a2:Pq 0 kl dl:=ID b e;let r4:=r.Z gD;let b6:=(a1.trans gD).seq hS;generalize O++zy=ws at h4 W ww;ext N H5 s5 ah bf;let o:l4≠N:=ay h4 ah;ext lp H6 g x6 a8 af a5 aw ax;let ac:lp≠N:=bj bf a8;let an:=x6.1 _ _ o (s5 _ _ h4);let a0:aS H4 H6:=zS s5 x6 ah;ext;calc nw λq H7 s7 h7 J=>?_;let G:q≠N:=bj x6.2 J;let ab:l4≠q:=ay an J;let a3:lp≠q:=ay af J;let be:=x6.2.Z s7;let am:=s7 _ _ an;let a7:=s7 _ _ af;let a6:⇑g=26:=a5;let a4:⇑ws=26:=W.l;ext;refine iw (n:=4) (λi σ H8=>(∃y6 y7 y8 y9 av as ar aq,σ=[U (.ref a),U pv,U (.ref l4),U (.ref N),U (.ref lp),U (.ref q),y6,y7,y8,y9,av,as,ar,aq])/\PU ws N q H7 i H8) #[#[_,_,_,_,_,_,_,_,rfl],#[dH.refl be,[],h7,rfl,⋯]] ?_ ?_
 .rintro i σ H8 hi ⟨⟨_,_,_,_,_,_,_,_,rfl⟩,C⟩;let(R,q8,ld,S):=C.x;let v:=C.f.ff;ext t9 H9 bv bu x9;obtain⟨t,ht,rfl⟩:∃t:Nat,t<26/\t9=t:=#[t9.toNat,(),()];let f9:=C.f.ext x9;let ad:=f9.gm a3 ac a7;let ai:=f9.gm ab o am;let q9:=x9.1 _ _ G q8;let cb:aV K H9 lp (g.map V.str):=aV.of ad;let ca:aV K H9 l4 (ws.map V.str):=aV.of ai;let UU:=Nb a6 ax aw t ht;ext;calc nw λl5 bm aa ao b1=>?_;rw[iA,<-Tt]at ao;let bt:aV K bm lp (g.map V.str):=aV.of (aa _ _ ad);ext;calc nw λl6 ap Z bh b0=>?_;rw[dm,<-RK]at bh;let bq:=Z _ _ ao;let bo:⇑((g.drop t).map V.str)+⇑((g.take t).map V.str)<=my:=small (by rw[bM,bM,QF,I0];omega);ext l7 a9;let Y:=ae a9 (.Y ((g.drop t).map V.str++(g.take t).map V.str));let M:upd ap l7 (.Y ((g.drop t).map V.str++(g.take t).map V.str)) l7=U (.Y ((g.drop t++g.take t).map V.str)):=by rw[aj,i4]
  generalize upd ap l7 (.Y ((g.drop t).map V.str++(g.take t).map V.str))=H12 at Y M|-;generalize g.drop t++g.take t=us at UU M;let y:=aa.trans (Z.trans Y);let cd:aV K H12 l7 (us.map V.str):=aV.of M;let bs:aV K H12 l4 (ws.map V.str):=aV.of (y _ _ ai);let bp:⇑(us.map V.str)=⇑ws:=by rw[bM,UU.l,a4]
  ext d hd;let X:=ae hd (.dK (yg ws us));let L:upd H12 d (.dK (yg ws us)) d=U (.dK (yg ws us)):=aj;rw[show ja [] ((ws.zip (us.map V.str)).map λx=>((Sum.inr x.1:Key),x.2))=yg ws us from rfl];generalize upd H12 d (.dK (yg ws us))=H13 at X L|-;let m:=y.trans X;let D:=m _ _ q9;let cc:aV K H13 q (R.map λx=>V.ref x.1):=aV.of D;let bw:⇑(R.map λx=>V.ref x.1)<my:=bg (by rw[bM];omega);ext;let az:dH [q] N H7 H13:=f9.Z m;calc#[az.upd (.head _) G D,R++[(d,us)],by rw[aj,i4];rfl,by rw[mu,ld];rfl,λx hx=>?_];let nd:∀{b:AB}{u:MC (Key×V)},H13 b=U (.dK u)->b≠q:=λe=>jw e D nofun
  rcases zv.mp hx with h|h
  .have(e1,e2):=S x h
   let nf:x.1≠N:=λz=>by
    let(_,_,e):=v;rw[z,e]at e1;cases e1
   let e3:=m _ _ (x9.1 _ _ nf e1);exact#[by rw[aB (nd e3)];calc e3,e2]
  .rw[vv.mp h];exact#[by rw[aB (nd L)];calc L,UU]
 .rintro σ H8 ⟨⟨_,_,_,_,_,_,_,_,rfl⟩,C⟩;let(R,q8,ld,S):=C.x
  obtain⟨T,y1,y2,y3,rfl⟩:∃T x1 x2 x3,R=[T,x1,x2,x3]:=by
   rcases R with _|⟨a,_|⟨b,_|⟨c,_|⟨d,_|⟨e,r⟩⟩⟩⟩⟩<;>first|exact#[_,_,_,_,rfl]|simp at ld
  let(e0,U0):=S T (by simp);let(e1,U1):=S y1 (by simp);let(e2,U2):=S y2 (by simp);let(e3,U3):=S y3 (by simp);let v:=C.f.ff;let al:=C.f.gm ab o am;let r8:=((r4.Z a0).Z s7).kt C.f.kt;ext;calc nw λlq H9 B h9 I=>?_;let ms:yj H9 q T.1 y1.1 y2.1 y3.1 ws T.2 y1.2 y2.2 y3.2:=#[B _ _ q8,B _ _ e0,B _ _ e1,B _ _ e2,B _ _ e3];ext;calc C7 ba bb bc TK bn bi bk SO z_repr z_range z_isinstance z_list hr W U0 U1 U2 U3 ms ww (B _ _ al) (v.Z B) o G (bj v I) (ay al I) (ay q8 I) h9 (r8.Z B) a2 e k
end G16
namespace L2
open PySem PySem.Spec PyProof.Rows
open PySem.W PySem.Calls
structure Nc(K:Frag) (C:AB):Prop where
 cls:∀h,K.In h->∃nm q N bs bm hdct sn sub ab col dd k0 k1 k2 k3 k5 mN,h.get? C=U (Td nm q C N bs bm hdct sn sub ab col dd k0 k1 k2 k3 k5 "ValueError.__new__") /\
  h.Ns N mN/\mN "__init__"=gV/\YC h iG bm
 kp:R3 K (.ref C)=AD
meta def uP(d:MC SV):Bool:=d.all λe=>match e.key with|.str _ _=>AD|_=>AE
def FE {K:Frag}(X:K.In h)(e:K.lookup N=U #[c,l,.dict d n,g])(hs:uP d.toList=AD):
  h.Ns N (Yl d):=by
 calc#[_,d,n,X _ _ e,rfl,λa j=>?_,λ_=>rfl];let z:=QY.mp hs a (Vf.mpr j)
 split at z
 .rename_i y t q;exact#[y,t,q]
 .cases z
end L2
namespace L2
open PySem PySem.W
meta def IY(K:Frag)(C:AB):Bool:=(Q3 K (.ref C) "__getattribute__" == U (U (.builtin "BaseException.__getattribute__")))&&(Q3 K (.ref C) "__getattr__" == U gV)&&(mroIn K C (.type "BaseException") == U AD)
def FF (h:IY K C=AD):Ay K C:=by
 unfold IY at h;simp only[QJ,beq_iff_eq]at h;calc#[h.1.1,h.1.2,h.2]
meta def IZ(K:Frag)(C b:AB):Bool :=
 IY K C&&Tg K C&&(Q3 K (.ref C) "__class__" == U (U (.builtin "object.__class__"))) &&
 (specialIn K (.builtin "object.__class__") "__get__" == U (U (.builtin "getset_descriptor.__get__")))&&(takesIn K (.builtin "object.__class__") == U AD)&&(mroIn K C (.type "object") == U AD) &&
 (Vq K (.ref C) (.ref b) == U AD)&&(Vq K (.ref C) (.type "ValueError") == U AD)&&R3 K (.ref C)
meta def yl(K:Frag)(C:AB)(n:AA):Bool :=
 sL K C&&(Q3 K (.ref C) "__setattr__" == U (U (.builtin "object.__setattr__")))&&(UQ K C n == U gV) &&
 IY K C&&Tg K C&&(Q3 K (.ref C) n).any (noGet K)
def lW (h:yl K C n=AD):xu K C n/\KG K C n:=by
 unfold yl at h;simp only[QJ,beq_iff_eq]at h;let(((((o,m),l),j),g),d):=h;refine#[#[o,m,l],#[FF j,g,?_]]
 cases e:Q3 K (.ref C) n with
 |none=>rw[e]at d;cases d
 |some a=>rw[e]at d;calc#[a,rfl,d]
def A0 (h:IZ K C b=AD):Cp K C/\Vq K (.ref C) (.ref b)=U AD/\Vq K (.ref C) (.type "ValueError")=U AD/\R3 K (.ref C)=AD:=by
 unfold IZ at h;simp only[QJ,beq_iff_eq]at h;let((((((((q,p),o),m),l),j),g),e),d):=h;calc#[#[FF q,p,o,m,l,j],g,e,d]
structure ClsAt(K:Frag) (C b:AB) (i:AF eT):Prop where
 ex:∃nm q N bs hdct sn sub ab col dd k0 k1 k2 k3 k5,K.lookup C=U (Td nm q C N bs (.ref b::iG) hdct sn sub ab col dd k0 k1 k2 k3 k5 "ValueError.__new__") /\
  ∃c d es n sl,K.lookup N=U #[c,d,.dict es n,sl]/\uP es.toList=AD/\Yl es "__init__"=i
structure mS(K:Frag) (b:AB):Prop where
 ex:∃nm q N bs hdct sn sub ab col dd k0 k1 k2 k3 k5,K.lookup b=U (Td nm q b N bs iG hdct sn sub ab col dd k0 k1 k2 k3 k5 "ValueError.__new__") /\
  ∃c d es n sl,K.lookup N=U #[c,d,.dict es n,sl]/\uP es.toList=AD/\Yl es "__init__"=gV
def mS.tail (B:mS K b)(X:K.In h):YC h iG (.ref b::iG):=by
 let(r,q,N,bs,d,p,sub,H,o,C,k0,y,v,u,t,e,G,D,z,n,g,m,j,l):=B.ex;calc .own (X _ _ e) (FE X m j) l .base
def FG :iG.contains (.type "BaseException")=AD:=∅
def mS.c (B:mS K b):Az K b:=by
 calc⟨λh X=>?_⟩;let(l,q,N,bs,d,j,sub,u,g,t,k0,r,p,o,m,e,_):=B.ex;calc#[l,q,N,bs,_,d,j,sub,u,g,t,k0,r,p,o,m,_,X _ _ e,FG]
def ClsAt.c (Z:ClsAt K C b i):Az K C:=by
 calc⟨λh X=>?_⟩;let(l,q,N,bs,d,j,sub,u,g,t,k0,r,p,o,m,e,_):=Z.ex;calc#[l,q,N,bs,_,d,j,sub,u,g,t,k0,r,p,o,m,_,X _ _ e,by rw[SM,FG,Vz]]
def ClsAt.sub (Z:ClsAt K C b i)(B:mS K b):xE K C b:=by
 calc#[λh X=>?_,B.c];let(l,q,N,bs,d,j,sub,u,g,t,k0,r,p,o,m,e,_):=Z.ex;calc#[l,q,N,bs,_,d,j,sub,u,g,t,k0,r,p,o,m,_,X _ _ e,by rw[SM,SM,beq_self_eq_true (Value.ref b),Bool.true_or,Vz]]
def ClsAt.k (Z:ClsAt K C b (U (.ref f)))(B:mS K b){x q:AA}{st:Stmt}(F:∃od g,K.lookup f=U #[.type "function",od,.func z,g])(kp:R3 K (.ref C)=AD):GZ K C f:=by
 calc#[λh X=>?_,kp];let(o,q,N,bs,j,m,sub,I,l,H,k0,u,t,r,p,e,c,d,L,n,J,G,v,y):=Z.ex;let(od,g,D):=F;calc#[o,q,N,bs,_,j,m,sub,I,l,H,k0,u,t,r,p,_,_,X _ _ e,FE X G v,y,B.tail X,X _ _ D,rfl]
def ClsAt.k0 (Z:ClsAt K C b gV)(B:mS K b)(kp:R3 K (.ref C)=AD):Nc K C:=by
 calc#[λh X=>?_,kp];let(m,q,N,bs,g,l,sub,D,j,z,k0,t,r,p,o,e,c,d,H,n,G,y,u,v):=Z.ex;calc#[m,q,N,bs,_,g,l,sub,D,j,z,k0,t,r,p,o,_,X _ _ e,FE X y u,v,B.tail X]
meta def FH(K:Frag)(d os:List AB)(b:AB):Bool :=
 (Si 3).all λk=>IZ K (d.getD k 0) b&&((Si 3).all λj=>Vq K (.ref (d.getD k 0)) (.ref (d.getD j 0)) == U (k == j))&&(YK K (.ref (d.getD k 0)) (os.map Value.ref) == U AE)&&yl K (d.getD k 0) "name"
end L2
namespace G16
open PySem L2
meta def C8(H:Hp)(k:AA×MC (AA×MC Kk))(e:Key×V):Prop:=∃l,e=(Sum.inr k.1,V.ref l)/\H l=U (.Y (k.2.map λt=>.str t.1))
structure PV(H:Hp) (kl:Kl) (H2:Hp) (kvs:MC (Key×V)):Prop where
 s:aS H H2
 p:Paired (C8 H2) kl kvs
structure LD(H:Hp) (o dK dT dM:AB) (kl:Kl) (kvs:MC (Key×V)) (Hx:Hp):Prop where
 so:So o H Hx
 hK:Hx dK=U (.dK kvs)
 hT:Hx dT=U (.dK ((tl kl).map λx=>(Sum.inr x.1,.str x.2.1)))
 hM:Hx dM=U (.dK ((tl kl).map λx=>(Sum.inr x.1,.int ⇑x.2.2)))
 pk:Paired (C8 Hx) kl kvs
def LD.Z (h:LD H o dK dT dM kl kvs Hx)(s:aS Hx Hy):LD H o dK dT dM kl kvs Hy :=
 #[h.so.Z s,s _ _ h.hK,s _ _ h.hT,s _ _ h.hM,Paired.imp' (λx e ⟨l,g,d⟩=>#[l,g,s _ _ d]) h.pk]
def LD.fld (h:LD H o dK dT dM kl kvs Hx)(j:Hx o=U (.ins C dx fs))(x:HO):LD H o dK dT dM kl kvs (upd Hx o x) :=
 let d:∀{b:AB}{u:HO},Hx b=U u->u≠.ins C dx fs->b≠o:=λ{b u} e n z=>n (by rw[z,j]at e;calc(Qw e).symm)
 #[h.so.upd x,by rw[aB (d h.hK nofun)];calc h.hK,by rw[aB (d h.hT nofun)];calc h.hT,by rw[aB (d h.hM nofun)];exact h.hM,
  Paired.imp' (λy e ⟨l,m,g⟩=>#[l,m,by rw[aB (d g nofun)];calc g]) h.pk]
def PX :∀{kl:Kl}{kvs:MC (Key×V)},Paired (C8 m) kl kvs->Paired (λ(k:AA×MC (AA×MC Kk)) (e:Key×V)=>∃l,e=(Sum.inr k.1,V.ref l)/\l≠a.lG) kl kvs->Paired (λ(k:AA×MC (AA×MC Kk)) (e:Key×V)=>∃l,e=(Sum.inr k.1,V.ref l)/\l≠a.lO) kl kvs->Paired (Nt a m) kl kvs:=by
 intro kl kvs p q r
 induction p with
 |nil=>calc .nil
 |cons h t ih =>
  let(l,C,B):=h
  cases q with
  |cons h' t' =>
  cases r with
  |cons h'' t'' =>
  let(z,j,y):=h';let(g,d,v):=h'';subst C;let u:l=z:=V.ref.inj (Xo j).2;let o:l=g:=V.ref.inj (Xo d).2;subst u o;calc .cons #[l,rfl,B,y,v] (ih t' t'')
structure OM(H:Hp) (d:AB) (ob:Obj) (tv:MC (Key×V)) (kvs ks:MC (Key×V)) (H2:Hp):Prop where
 s:aS H H2
 d:H2 d=U (.nT ob (.dK tv))
 e:kvs=ks
def dS :Nm ZS (af fZ):=∅
def vd :aY ZS ZS (af fZ):=by ac_rfl
def FI (F:i9 K "__init__" "Known.__init__" fZ f fd)(N:LM K C)(bj:Ya "tags_of" 1 Γr (zj K) gT tfd)(an:mg "len"=gV):Yf gy 2 f fd ZS (Bm K C):=by
 exists F.ok vd
 .have(_,_,_,_,_,_,rfl,_):=h;rfl
 let(H0,o,B,v,m,dt,rfl,hs,h0,ho,r,hB,bt,bv,k):=h;refine#[_,(Z5 (qR[8]! (va dS 0) (qW[13]! (af fZ) ZS Γl [] rfl rfl rfl ∅ (dj[4]! (Z7 aJ (va dS 1))) (λ_ _ _ _=>(Zc (Zf (X1 Γl 0) (Zt (X1 Γl 1))))) (λ_ _ _ _=>fj) (λ_ _ _ _=>(Xt Γl 0)) (λ_ _ _ _=>(kH[12]! Γl ["tag","inner"] [] rfl rfl rfl (by kernel_rfl) (wY K rfl (Xt Γl 1)) (λ_ _ _ _=>(Zc (Zf (X1 ["tag","inner"] 0) (Zt (X1 ["tag","inner"] 1))))) (λ_ _ _ _=>fj) (λ_ _ _ _=>(Xt ["tag","inner"] 0)) (by intro _;rfl))) (by intro _;rfl)) rfl) (Z5 (qR[8]! (va dS 0) (qW[13]! (af fZ) ZS Zx [] rfl rfl rfl ∅ (zh (Z0 bj (Za (va dS 1))) (by kernel_rfl) (by kernel_rfl)) (λ_ _ _ _=>(Zc (Zf (X1 Zx 0) (Zf (Zc (Zf (X1 Zx 1) (Zt (X1 Zx 2)))) wH)))) (λ_ _ _ _=>fj) (λ_ _ _ _=>(Xt Zx 0)) (λ_ _ _ _=>(Xt Zx 1)) (by intro _;rfl)) rfl) (Z5 (qR[8]! (va dS 0) (qW[13]! (af fZ) ZS Zx [] rfl rfl rfl ∅ (zh (Z0 bj (Za (va dS 1))) (by kernel_rfl) (by kernel_rfl)) (λ_ _ _ _=>(Zc (Zf (X1 Zx 0) (Zf (Zc (Zf (X1 Zx 1) (Zt (X1 Zx 2)))) wH)))) (λ_ _ _ _=>fj) (λ_ _ _ _=>(Xt Zx 0)) (λ_ _ _ _=>(Z2 (oX K rfl) an Qh (Za (Xt Zx 2)))) (by intro _;rfl)) rfl) (Z5 (qR (va dS 0) (DG[2]!) rfl) (Z5 (qR (va dS 0) (aZ ak) rfl) (Zd (qR (va dS 0) (aZ ak) rfl))))))),?_]
 right
 right
 let hc:=N.c;let n1:=N.kinds;let n2:=N.ktag;let n3:=N.mtag;let n4:=N.mdef;let n5:=N.gaps;let n6:=N.opens;let a8:=id r;let(pa,u1,u2,rfl,b6,g1,g2):=r.t2;let(a,us,rfl,sq,rs):=g1.aT;let bm:=⇑rs;rw[bM]at bm;let bo:=sN hB;rw[<-uo,bM]at bo;ext;refine Cf (K:=K) (xs:=us) (λi I g H2=>(∃y1 y2,I=[y1,y2])/\PV H (m.take i) H2 g) #[#[_,_,rfl],aS.refl _,.nil] ?_ (small (by let:=hB.1;omega)) ?_ ?_ ?_
 .rintro i I g H2 hi ⟨_,T⟩;let:=T.p.length;rw[I0]at this;omega
 .rintro i I g H2 hi ⟨_,T⟩;exact sq.Z T.s
 .rintro i xv I g H2 hxv ⟨⟨_,_,rfl⟩,T⟩;let(t,ht,rx):=rs.get' hxv;rw[EF]at ht;let(kd,aq,rfl):=IF.mp ht;let ag:=(eF.mp aq).1;let bi:m.take (i+1)=m.take i++[kd]:=by rw[we ag,(eF.mp aq).2]
  let(ka,k1,k2,rfl,bp,q1,q2):=(show Rp K H (.t [.s kd.1,.t (kd.2.map j4)]) xv from rx).t2;obtain rfl:=q1.aP;let b2:=bp.Z T.s;let(b5,as,rfl,bk,aw):=q2.aT;let bn:=⇑aw;rw[bM]at bn;let av:=bk.Z T.s;let cb:=(hB.2 kd (P6 aq)).1
  let nw:∀L∈g,L.1≠Sum.inr kd.1:=λL ad z=>by
   let(n,bu):=QL ad;let(x,hx,l,e,_):=Paired.getL T.p bu;rw[e]at z;let z':x.1=kd.1:=SX z;let hn:=bv.sublist (TX (·.1) (Tw (i+1) m));rw[bi,i4]at hn;exact(RU.mp hn).2.2 x.1 (QI (P6 hx)) kd.1 (by simp) z'
  ext;refine je (K:=K) (xs:=as) (λj I vs Y=>(∃y1 y2,I=[y1,y2])/\Y=H2/\vs=(kd.2.take j).map λt=>V.str t.1) #[#[_,_,rfl],rfl,rfl] ?_ (small ()) ?_ ?_ ?_
  .rintro j I vs Y hj ⟨_,_,rfl⟩;rw[bM,I0];omega
  .rintro j I vs Y hj ⟨_,rfl,_⟩;exact av
  .rintro j yv I vs Y hyv ⟨⟨_,_,rfl⟩,rfl,rfl⟩;let(t,ht,ry):=aw.get' hyv;rw[EF]at ht;let(tg,a7,rfl):=IF.mp ht;let bw:=(eF.mp a7).1;let b1:kd.2.take (j+1)=kd.2.take j++[tg]:=by rw[we bw,(eF.mp a7).2]
   let(ga,w1,w2,rfl,b0,p1,p2):=(show Rp K H (.t [.s tg.1,.t (tg.2.map jN)]) yv from ry).t2;obtain rfl:=p1.aP;let b4:=b0.Z T.s;ext;rw[b1,i4];rfl
  .rintro I vs Y ⟨_,rfl,rfl⟩ l hl;rw[show ⇑as=⇑kd.2 by omega,Ql];let s4:=ae hl (.Y (kd.2.map λt=>V.str t.1));let h4:upd Y l (.Y (kd.2.map λt=>V.str t.1)) l=U (.Y (kd.2.map λt=>V.str t.1)):=aj;generalize upd Y l (.Y (kd.2.map λt=>V.str t.1))=H4 at s4 h4|-;calc#[Sum.inr kd.1,rfl,#[_,_,rfl],?_];rw[qv nw,bi];exact#[T.s.trans s4,Paired.Jt (Paired.imp' (λx e ⟨l,R,J⟩=>#[l,R,s4 _ _ J]) T.p) #[l,rfl,h4]]
 .rintro I g H2 ⟨_,T⟩ dK hdK;rw[show ⇑us=⇑m by omega,Ql]at T;let s3:=ae hdK (.dK g);let h3:upd H2 dK (.dK g) dK=U (.dK g):=aj;let p3:Paired (C8 (upd H2 dK (.dK g))) m g:=Paired.imp' (λx e ⟨l,R,J⟩=>#[l,R,s3 _ _ J]) T.p;generalize upd H2 dK (.dK g)=Y at s3 h3 p3|-;let az:=T.s.trans s3;let o3:=az _ _ ho;let ao:So o H (upd Y o (.ins C B (aX "kinds" (.ref dK) []))):=((So.refl o H).Z az).upd _;let r4:=a8.kt (ao.kt ho);let a1:o≠dK:=jw o3 h3 nofun
  let o4:upd Y o (.ins C B (aX "kinds" (.ref dK) [])) o=U (.ins C B (aX "kinds" (.ref dK) [])):=aj;let h4:upd Y o (.ins C B (aX "kinds" (.ref dK) [])) dK=U (.dK g):=by rw[aB a1.symm];exact h3
  let p4:Paired (C8 (upd Y o (.ins C B (aX "kinds" (.ref dK) [])))) m g:=Paired.imp' (λx e ⟨l,R,J⟩=>#[l,R,by rw[aB (jw J o3 nofun)];calc J]) p3
  ext;generalize upd Y o (.ins C B (aX "kinds" (.ref dK) []))=H4 at ao r4 o4 h4 p4|-;intro d1 H5 Z s5 bz h5 p5;calc#[d1,Z,rfl,h5,λob=>?_];let k5:Kt H5 (upd H5 d1 (.nT ob (.dK Z))):=Kt.upd h5 ⋯ (λ_ _ z=>nomatch z) _
  let s6:aS H4 (upd H5 d1 (.nT ob (.dK Z))):=s5.w5 bz _;let h6:upd H5 d1 (.nT ob (.dK Z)) d1=U (.nT ob (.dK Z)):=aj;let p6:Paired (Hs K (upd H5 d1 (.nT ob (.dK Z)))) (tl m) Z:=Paired.imp' (λx e ⟨q,iv,R,J,e3⟩=>#[q,iv,R,by rw[aB (jw J h5 nofun)];calc J,e3.kt k5]) p5
  generalize upd H5 d1 (.nT ob (.dK Z))=H6 at s6 h6 p6|-;let b8:=⇑p6;let a2:((tl m).map (·.1)).Nodup:=by rw[uo];exact bt
  refine sr (xs:=Z) (λi I L H7=>(∃y1 y2 y3,I=[y1,y2,y3])/\OM H6 d1 ob Z L (((tl m).take i).map λx=>(Sum.inr x.1,.str x.2.1)) H7) #[#[_,_,_,rfl],aS.refl _,h6,rfl] ?_ (small ()) ?_ ?_ ?_
  .rintro i I L H7 hi ⟨_,G⟩;rw[G.e,bM,I0];omega
  .rintro i I L H7 hi ⟨_,G⟩;exact G.d
  .rintro i x I L H7 p7 hx ⟨⟨_,_,_,rfl⟩,G⟩ hp7;let(y,hy,q,iv,rfl,hq,a0):=Paired.getL p6 hx;let ag:=(eF.mp hy).1;let ah:(tl m).take (i+1)=(tl m).take i++[y]:=by rw[we ag,(eF.mp hy).2]
   let O:=ae hp7 (.J [kV (Sum.inr y.1),.ref q]);let h8:upd H7 p7 (.J [kV (Sum.inr y.1),.ref q]) p7=U (.J [.str y.1,.ref q]):=aj;generalize upd H7 p7 (.J [kV (Sum.inr y.1),.ref q])=H8 at O h8|-;let q8:=O _ _ (G.s _ _ hq)
   let nw:∀L∈((tl m).take i).map (λx=>((Sum.inr x.1:Key),V.str x.2.1)),L.1≠Sum.inr y.1:=λL ad z=>by
    let(x,hx,rfl):=Qa.mp ad;let z':x.1=y.1:=SX z;let hn:=a2.sublist (TX (·.1) (Tw (i+1) (tl m)));rw[ah,i4]at hn;exact(RU.mp hn).2.2 x.1 (QI hx) y.1 (by simp) z'
   ext
   .exact(Eq.refl (kV (Sum.inr y.1)))
   calc#[#[_,_,_,rfl],G.s.trans O,O _ _ G.d,?_];rw[G.e,qv nw,ah,i4];rfl
  .rintro I L H7 ⟨_,G⟩ dT hdT;let e7:=G.e;rw[show ⇑Z=⇑(tl m) by omega,Ql]at e7;subst e7;let O:=ae hdT (.dK ((tl m).map λx=>(Sum.inr x.1,.str x.2.1)));let t8:upd H7 dT (.dK ((tl m).map λx=>(Sum.inr x.1,.str x.2.1))) dT=U (.dK ((tl m).map λx=>(Sum.inr x.1,.str x.2.1))):=aj;generalize upd H7 dT (.dK ((tl m).map λx=>(Sum.inr x.1,.str x.2.1)))=H8 at O t8|-;let ap:=s6.trans (G.s.trans O);let o8:=ap _ _ o4;let aa:So o H4 (upd H8 o (.ins C B (aX "kind_of_tag" (.ref dT) (aX "kinds" (.ref dK) [])))):=((So.refl o H4).Z ap).upd _;let r9:=r4.kt (aa.kt o4);let oT:o≠dT:=jw o8 t8 nofun
   let o9:upd H8 o (.ins C B (aX "kind_of_tag" (.ref dT) (aX "kinds" (.ref dK) []))) o=U (.ins C B (aX "kind_of_tag" (.ref dT) (aX "kinds" (.ref dK) []))):=aj;let t9:upd H8 o (.ins C B (aX "kind_of_tag" (.ref dT) (aX "kinds" (.ref dK) []))) dT=U (.dK ((tl m).map λx=>(Sum.inr x.1,.str x.2.1))):=by rw[aB oT.symm];exact t8
   let l2:(aX "kinds" (.ref dK) []).length<1000:=by show 1<1000;omega
   ext;generalize upd H8 o (.ins C B (aX "kind_of_tag" (.ref dT) (aX "kinds" (.ref dK) [])))=H9 at aa r9 o9 t9|-;clear r4 a8 rs g1 g2;let h9:=aa _ _ a1.symm h4;let q9:Paired (C8 H9) m g:=Paired.imp' (λx e ⟨l,R,J⟩=>#[l,R,aa _ _ (jw J o4 nofun) J]) p4
   let ax:=ao.trans aa;intro d2 Ha tw sa bx ha bl;calc#[d2,tw,rfl,ha,λS=>?_];let ka:Kt Ha (upd Ha d2 (.nT S (.dK tw))):=Kt.upd ha ⋯ (λ_ _ z=>nomatch z) _
   let sb:aS H9 (upd Ha d2 (.nT S (.dK tw))):=sa.w5 bx _;let hb:upd Ha d2 (.nT S (.dK tw)) d2=U (.nT S (.dK tw)):=aj;let pb:Paired (Hs K (upd Ha d2 (.nT S (.dK tw)))) (tl m) tw:=Paired.imp' (λx e ⟨q,iv,R,J,e3⟩=>#[q,iv,R,by rw[aB (jw J ha nofun)];calc J,e3.kt ka]) bl
   generalize upd Ha d2 (.nT S (.dK tw))=Hb at sb hb pb|-;let b7:=⇑pb;refine sr (xs:=tw) (λi I L Hc=>(∃y1 y2 y3,I=[y1,y2,y3])/\OM Hb d2 S tw L (((tl m).take i).map λx=>(Sum.inr x.1,.int ⇑x.2.2)) Hc) #[#[_,_,_,rfl],aS.refl _,hb,rfl] ?_ (small ()) ?_ ?_ ?_
   .rintro i I L Hc hi ⟨_,G⟩;rw[G.e,bM,I0];omega
   .rintro i I L Hc hi ⟨_,G⟩;exact G.d
   .rintro i x I L Hc p7 hx ⟨⟨_,_,_,rfl⟩,G⟩ hp7;let(y,hy,q,iv,rfl,hq,a0):=Paired.getL pb hx;let ag:=(eF.mp hy).1;let ah:(tl m).take (i+1)=(tl m).take i++[y]:=by rw[we ag,(eF.mp hy).2]
    let O:=ae hp7 (.J [kV (Sum.inr y.1),.ref q]);let h8:upd Hc p7 (.J [kV (Sum.inr y.1),.ref q]) p7=U (.J [.str y.1,.ref q]):=aj;generalize upd Hc p7 (.J [kV (Sum.inr y.1),.ref q])=Hd at O h8|-;let q8:=O _ _ (G.s _ _ hq);let(ia,ca,rfl,bq,bs):=a0.aT;let b3:=(bq.Z G.s).Z O;let a3:=⇑bs;rw[bM]at a3
    let nw:∀L∈((tl m).take i).map (λx=>((Sum.inr x.1:Key),V.int ⇑x.2.2)),L.1≠Sum.inr y.1:=λL ad z=>by
     let(x,hx,rfl):=Qa.mp ad;let z':x.1=y.1:=SX z;let hn:=a2.sublist (TX (·.1) (Tw (i+1) (tl m)));rw[ah,i4]at hn;exact(RU.mp hn).2.2 x.1 (QI hx) y.1 (by simp) z'
    ext
    .exact(Eq.refl (kV (Sum.inr y.1)))
    calc#[#[_,_,_,rfl],G.s.trans O,O _ _ G.d,?_];rw[G.e,qv nw,ah,i4,a3];rfl
   .rintro I L Hc ⟨_,G⟩ dM Fq;let e7:=G.e;rw[show ⇑tw=⇑(tl m) by omega,Ql]at e7;subst e7;let O:=ae Fq (.dK ((tl m).map λx=>(Sum.inr x.1,.int ⇑x.2.2)));let m8:upd Hc dM (.dK ((tl m).map λx=>(Sum.inr x.1,.int ⇑x.2.2))) dM=U (.dK ((tl m).map λx=>(Sum.inr x.1,.int ⇑x.2.2))):=aj;generalize upd Hc dM (.dK ((tl m).map λx=>(Sum.inr x.1,.int ⇑x.2.2)))=Hd at O m8|-;let gD:=sb.trans (G.s.trans O);let od:=gD _ _ o9;let kp:LD H o dK dT dM m g Hd:=#[ax.Z gD,gD _ _ h9,gD _ _ t9,m8,Paired.imp' (λx e ⟨l,R,J⟩=>#[l,R,gD _ _ J]) q9];clear gD sb G O ap q9 t9 h9;let l3:(aX "kind_of_tag" (.ref dT) (aX "kinds" (.ref dK) [])).length<1000:=by show 2<1000;omega
    let W:=kp.fld od (.ins C B (aX "many_of_tag" (.ref dM) (aX "kind_of_tag" (.ref dT) (aX "kinds" (.ref dK) []))));let oe:upd Hd o (.ins C B (aX "many_of_tag" (.ref dM) (aX "kind_of_tag" (.ref dT) (aX "kinds" (.ref dK) [])))) o=U (.ins C B (aX "many_of_tag" (.ref dM) (aX "kind_of_tag" (.ref dT) (aX "kinds" (.ref dK) [])))):=aj;ext;generalize upd Hd o (.ins C B (aX "many_of_tag" (.ref dM) (aX "kind_of_tag" (.ref dT) (aX "kinds" (.ref dK) []))))=He at W oe|-;intro D X;let l4:(aX "many_of_tag" (.ref dM) (aX "kind_of_tag" (.ref dT) (aX "kinds" (.ref dK) []))).length<1000:=by show 3<1000;omega
    let nD:D≠o:=(ay oe X).symm;let fD:H D=gV:=W.so.free nD X;let kD:dK≠D:=ay W.hK X;let tD:dT≠D:=ay W.hT X;let mD:dM≠D:=ay W.hM X;let sf:=ae X (.dK []);let bh:upd He D (.dK []) D=U (.dK []):=aj;let oF:=sf _ _ oe;let a6:=W.Z sf;generalize upd He D (.dK [])=Hf at sf bh oF a6|-;let al:=a6.fld oF (.ins C B (aX "many_of_def" (.ref D) (aX "many_of_tag" (.ref dM) (aX "kind_of_tag" (.ref dT) (aX "kinds" (.ref dK) [])))));let og:upd Hf o (.ins C B (aX "many_of_def" (.ref D) (aX "many_of_tag" (.ref dM) (aX "kind_of_tag" (.ref dT) (aX "kinds" (.ref dK) []))))) o=U (.ins C B (aX "many_of_def" (.ref D) (aX "many_of_tag" (.ref dM) (aX "kind_of_tag" (.ref dT) (aX "kinds" (.ref dK) []))))):=aj;let bg:upd Hf o (.ins C B (aX "many_of_def" (.ref D) (aX "many_of_tag" (.ref dM) (aX "kind_of_tag" (.ref dT) (aX "kinds" (.ref dK) []))))) D=U (.dK []):=by rw[aB nD];exact bh
    ext;generalize upd Hf o (.ins C B (aX "many_of_def" (.ref D) (aX "many_of_tag" (.ref dM) (aX "kind_of_tag" (.ref dT) (aX "kinds" (.ref dK) [])))))=Hg at al og bg|-;intro M am;let l5:(aX "many_of_def" (.ref D) (aX "many_of_tag" (.ref dM) (aX "kind_of_tag" (.ref dT) (aX "kinds" (.ref dK) [])))).length<1000:=by show 4<1000;omega
    let nG:M≠o:=(ay og am).symm;let fG:H M=gV:=al.so.free nG am;let pG:Paired (λ(k:AA×MC (AA×MC Kk)) (e:Key×V)=>∃l,e=(Sum.inr k.1,V.ref l)/\l≠M) m g:=Paired.imp' (λx e ⟨l,R,J⟩=>#[l,R,ay J am]) al.pk;let sh:=ae am (.Y []);let be:upd Hg M (.Y []) M=U (.Y []):=aj;let oH:=sh _ _ og;let bf:=sh _ _ bg;let a5:=al.Z sh;generalize upd Hg M (.Y [])=Hh at sh be oH bf a5|-;let ai:=a5.fld oH (.ins C B (aX "gaps" (.ref M) (aX "many_of_def" (.ref D) (aX "many_of_tag" (.ref dM) (aX "kind_of_tag" (.ref dT) (aX "kinds" (.ref dK) []))))));let oi:upd Hh o (.ins C B (aX "gaps" (.ref M) (aX "many_of_def" (.ref D) (aX "many_of_tag" (.ref dM) (aX "kind_of_tag" (.ref dT) (aX "kinds" (.ref dK) [])))))) o=U (.ins C B (aX "gaps" (.ref M) (aX "many_of_def" (.ref D) (aX "many_of_tag" (.ref dM) (aX "kind_of_tag" (.ref dT) (aX "kinds" (.ref dK) [])))))):=aj;let bc:upd Hh o (.ins C B (aX "gaps" (.ref M) (aX "many_of_def" (.ref D) (aX "many_of_tag" (.ref dM) (aX "kind_of_tag" (.ref dT) (aX "kinds" (.ref dK) [])))))) D=U (.dK []):=by rw[aB nD];exact bf
    let ar:upd Hh o (.ins C B (aX "gaps" (.ref M) (aX "many_of_def" (.ref D) (aX "many_of_tag" (.ref dM) (aX "kind_of_tag" (.ref dT) (aX "kinds" (.ref dK) [])))))) M=U (.Y []):=by rw[aB nG];exact be
    ext;generalize upd Hh o (.ins C B (aX "gaps" (.ref M) (aX "many_of_def" (.ref D) (aX "many_of_tag" (.ref dM) (aX "kind_of_tag" (.ref dT) (aX "kinds" (.ref dK) []))))))=Hi at ai oi bc ar|-;intro lO ac;let l6:(aX "gaps" (.ref M) (aX "many_of_def" (.ref D) (aX "many_of_tag" (.ref dM) (aX "kind_of_tag" (.ref dT) (aX "kinds" (.ref dK) []))))).length<1000:=by show 5<1000;omega
    let nO:lO≠o:=(ay oi ac).symm;let fO:H lO=gV:=ai.so.free nO ac;let gO:M≠lO:=ay ar ac;let pO:Paired (λ(k:AA×MC (AA×MC Kk)) (e:Key×V)=>∃l,e=(Sum.inr k.1,V.ref l)/\l≠lO) m g:=Paired.imp' (λx e ⟨l,R,J⟩=>#[l,R,ay J ac]) ai.pk;let sj:=ae ac (.Y []);let a9:upd Hi lO (.Y []) lO=U (.Y []):=aj;let oJ:=sj _ _ oi;let bb:=sj _ _ bc;let ba:=sj _ _ ar;let a4:=ai.Z sj;generalize upd Hi lO (.Y [])=Hj at sj a9 oJ bb ba a4|-;let ab:=a4.fld oJ (.ins C B (aX "opens" (.ref lO) (aX "gaps" (.ref M) (aX "many_of_def" (.ref D) (aX "many_of_tag" (.ref dM) (aX "kind_of_tag" (.ref dT) (aX "kinds" (.ref dK) [])))))));ext;let free:∀{b:AB},H b=gV->H0 b=gV:=λ{b} e=>hs.free e;refine k _ #[B,dK,dT,dM,D,M,lO,g] #[λb u e=>?_,free fD,free fG,free fO,gO,kD,tD,mD,?_,ab.hK,?_,ab.hT,ab.hM,?_,?_,?_]
    .exact ab.so b u (ay e h0) (hs _ _ e)
    .rw[aj];exact congrArg (λz=>U (HO.ins C B z)) (Eu #[B,dK,dT,dM,D,M,lO,g])
    .exact PX ab.pk pG pO
    .rw[aB nD];exact bb
    .rw[aB nG];exact ba
    .rw[aB nO];exact a9
open PySem.W
theorem LF {d:Type}{P:List d->Prop}(h:∀a,P [a]):∀us:List d,⇑us=1->P us
 | [a],_=>h a
theorem A1 {d:Type}{P:List d->Prop}(h:∀a b,P [a,b]):∀us:List d,⇑us=2->P us
 | [a,b],_=>h a b
theorem LG {d:Type}{P:List d->Prop}(h:∀a b c,P [a,b,c]):∀us:List d,⇑us=3->P us
 | [a,b,c],_=>h a b c
theorem LH {e:Type}{P:List e->Prop}(h:∀a b c d,P [a,b,c,d]):∀us:List e,⇑us=4->P us
 | [a,b,c,d],_=>h a b c d
theorem LI {g:Type}{P:List g->Prop}(h:∀a b c d e,P [a,b,c,d,e]):∀us:List g,⇑us=5->P us
 | [a,b,c,d,e],_=>h a b c d e
meta abbrev sY:Stmt:=Nr GP 0
def FJ :aY ZO ZO (af sY):=by ac_rfl
meta abbrev qH:Stmt:=Nr D5 0
def C9 :aY ZO ZO (af qH):=by ac_rfl
meta abbrev j7:Stmt:=Nr w9 0
def ve :aY ZO ZO (af j7):=by ac_rfl
def FL (F:i9 K "__init__" "Twice.__init__" sY f d)(o:xu K C "name"):Yf gy 1 f d ZO (zf C "name"):=by
 exists F.ok FJ
 .have(x,y,rfl,_):=h;rfl
 let(x,y,rfl,g,go):=h;calc#[_,d7 (Ax (pv 0) (pv 1)),_,rfl,_,rfl,x,C,rfl,g,o,λm l j=>go m l j]
def Dc (F:i9 K "__init__" "NoName.__init__" qH f d)(o:xu K C "name"):Yf gy 1 f d ZO (zf C "name"):=by
 exists F.ok C9
 .have(x,y,rfl,_):=h;rfl
 let(x,y,rfl,g,go):=h;calc#[_,d7 (Ax (pv 0) (pv 1)),_,rfl,_,rfl,x,C,rfl,g,o,λm l j=>go m l j]
def vf (F:i9 K "__init__" "WrongCount.__init__" j7 f d)(o:xu K C "name"):Yf gy 1 f d ZO (zf C "name"):=by
 exists F.ok ve
 .have(x,y,rfl,_):=h;rfl
 let(x,y,rfl,g,go):=h;calc#[_,d7 (Ax (pv 0) (pv 1)),_,rfl,_,rfl,x,C,rfl,g,o,λm l j=>go m l j]
def Dd [Wds](F:i9 K "_law_named" "_law_named" aU gN nfd)(m:mg "_law_named"=U (.ref gN))(o:Binds K nfd YQ [])(q:i9 K "_law_named_match" "_law_named_match" cz gM mfd)(mM:mg "_law_named_match"=U (.ref gM))(r:Binds K mfd Y4 [])(p:Ya "_law_take" 1 YO cg gT tfd)(l:Ya "_law_named_leaf" 2 ZN (xU K) gL lfd)(e:mg "len"=gV)(g:mg "int"=gV)(z_range:mg "range"=gV)(d:mg "tuple"=gV):∀n,Yf gy (2*n+1) gN nfd YQ (fK K n):=by
 intro n
 induction n with
 |zero =>
  calc qh λt H Q E h=>?_;let(_,_,_,_,_,_,_,_,_,_,_,_,_,_,_,_,_,_,v,u,_):=h;omega
 |succ n ih =>
  rw[show 2*(n+1)+1=2*n+1+2 by omega];calc E4 (j:=2*n+1) () F p #[ih,m,F.kp,o] #[CS () q p #[ih,m,F.kp,o] e z_range d,mM,q.kp,r] l e g
def De {os:List AB}(h:(YK K (.ref C) (os.map Value.ref) == U r)=AD):YK K (.ref C) (os.map Value.ref)=U r:=Sd h
def LJ {os:List AB}(B:mS K b)(q1:ClsAt K m b (U (.ref I)))(y:ClsAt K l b (U (.ref H)))(v:ClsAt K g b (U (.ref G)))(h:FH K [m,l,g] os b=AD):OL K m l g b os/\(xu K m "name"/\xu K l "name"/\xu K g "name")/\(R3 K (.ref m)=AD/\R3 K (.ref l)=AD/\R3 K (.ref g)=AD):=by
 let all:∀k,k<3->IZ K ([m,l,g].getD k 0) b=AD/\(∀j,j<3->Vq K (.ref ([m,l,g].getD k 0)) (.ref ([m,l,g].getD j 0))=U (k == j))/\YK K (.ref ([m,l,g].getD k 0)) (os.map Value.ref)=U AE/\yl K ([m,l,g].getD k 0) "name"=AD:=λk C=>by
  let z:=QY.mp h k (SG.mpr C);simp only[QJ]at z;exact#[z.1.1.1,λj D=>Sd (QY.mp z.1.1.2 j (SG.mpr D)),De z.1.2,z.2]
 let q:=all 0 ∅;let p:=all 1 ∅;let o:=all 2 ∅;let u:=A0 q.1;let t:=A0 p.1;let r:=A0 o.1;refine#[#[λe=>?_,λe=>?_,λe d=>?_,λe=>?_,λe=>?_,λe=>?_],#[(lW q.2.2.2).1,(lW p.2.2.2).1,(lW o.2.2.2).1],u.2.2.2,t.2.2.2,r.2.2.2]
 .cases e with
  |tw=>calc q1.sub B
  |nn=>calc y.sub B
  |wr=>exact v.sub B
 .cases e with
  |tw=>calc u.1
  |nn=>calc t.1
  |wr=>exact r.1
 .cases e with
  |tw =>
   cases d with
   |tw=>calc q.2.1 0 ∅
   |nn=>calc q.2.1 1 ∅
   |wr=>calc q.2.1 2 ∅
  |nn =>
   cases d with
   |tw=>calc p.2.1 0 ∅
   |nn=>calc p.2.1 1 ∅
   |wr=>calc p.2.1 2 ∅
  |wr =>
   cases d with
   |tw=>calc o.2.1 0 ∅
   |nn=>calc o.2.1 1 ∅
   |wr=>exact o.2.1 2 ∅
 .cases e with
  |tw=>calc q.2.2.1
  |nn=>calc p.2.2.1
  |wr=>exact o.2.2.1
 .cases e with
  |tw=>calc u.2.2.1
  |nn=>calc t.2.2.1
  |wr=>exact r.2.2.1
 .cases e with
  |tw=>calc(lW q.2.2.2).2
  |nn=>calc(lW p.2.2.2).2
  |wr=>calc(lW o.2.2.2).2
def FN [Wds](F:i9 K "_law_many" "_law_many" lU gM mfd)(m:mg "_law_many"=U (.ref gM))(b:Binds K mfd Zz [])(e:Ya "_law_within" 1 Zz (kR K) gW wfd)(d:mg "sum"=gV):∀n,Yf gy (n+1) gM mfd Zz (xZ K n):=by
 intro n
 induction n with
 |zero =>
  calc qh λg H Q E h=>?_;let(_,_,_,_,_,_,h,_):=h;omega
 |succ n ih=>calc IA (j:=n+1) () F e #[ih,m,F.kp,b] d
def I9 [Wds](F:i9 K "_law_rebuilt" "_law_rebuilt" iS gR rfd)(m:mg "_law_rebuilt"=U (.ref gR))(b:Binds K rfd YY [])(g:Ya "_law_within" 1 Zz (kR K) gW wfd)(d:Ya "_law_other" 3 ZQ (xY K) gO ofd)(e:Ya "_law_back" 1 ZD (uJ K) gB bfd):∀n,Yf gy (n+3) gR rfd YY (BI K n):=by
 intro n
 induction n with
 |zero =>
  calc qh λl H Q E h=>?_;let(_,_,_,_,_,_,_,_,_,_,_,_,_,_,h,_):=h;omega
 |succ n ih=>calc Ll (j:=n+3) () F g d e #[ih,m,F.kp,b]
def Ja [Wds](F:i9 K "_law_kind_of" "_law_kind_of" jJ gK kfd)(m:mg "_law_kind_of"=U (.ref gK))(b:Binds K kfd Zv [])(e:mg "tuple"=gV)(d:mg "isinstance"=gV):∀n,Yf gy (n+1) gK kfd Zv (qE K n):=by
 intro n
 induction n with
 |zero =>
  calc qh λg H Q E h=>?_;let(_,_,_,_,_,_,h,_):=h;omega
 |succ n ih=>calc CW (j:=n+1) () F #[ih,m,F.kp,b] e d
def Jb [Wds](F:i9 K "_law_term_of" "_law_term_of" fS gT tfd)(m:mg "_law_term_of"=U (.ref gT))(b:Binds K tfd ZV [])(o:Ya "_law_within" 1 Zz (kR K) gW wfd)(l:Ya "_law_back" 1 ZD (uJ K) gB bfd)(d:mg "tuple"=gV)(e:mg "zip"=gV)(g:mg "int"=gV):∀n,Yf gy (n+1) gT tfd ZV (qF K n):=by
 intro n
 induction n with
 |zero =>
  calc qh λp H Q E h=>?_;let(_,_,_,_,_,_,_,_,_,_,h,_):=h;omega
 |succ n ih=>calc CY (j:=n+1) () F o l #[ih,m,F.kp,b] d e g
def dh.LK {sp:Wds->Sp}(h:∀W:Wds,Ya x k ps (sp W) g l):Ya x k ps (nW sp) g l :=
 #[#[λj H Q E z=>by let(W,z):=z;exact(h W).ok.len j H Q E z,λA outer s H e m j Q E a b c d z=>by let(W,z):=z;calc(h W).ok.run A outer s H e m j Q E a b c d z],(h qK).at',(h qK).kp,(h qK).bd]
structure FnAt(K:Frag) (x qual:AA) (st:Stmt) (f:AB) (fd:PZ):Prop where
 ex:∃(od:AF AB) (kV doc pm:eT) (an:AF AB) (cdv ct:eT) (osl:Array (AF eT)),
  fd=fnOf x qual (mz st) (bE st) (af st) .none kV doc pm an cdv ct/\K.lookup f=U #[.type "function",od,.func fd,osl]/\Wh K cdv qual=AD
 kp:R3 K (.ref f)=AD
def FnAt.f {f:AB}(F:FnAt K x d st f m):i9 K x d st f m:=by
 let(p,kV,j,o,r,cdv,q,g,e,l,c):=F.ex;calc#[#[_,p,kV,j,o,r,cdv,q,g,e,l,c],F.kp]
def bz {kV:eT}(l:K.lookup f=U #[.type "function",od,.func (fnOf x d (mz st) (bE st) (af st) .none kV e j m cdv ct),g])(c:Wh K cdv d=AD)(k:R3 K (.ref f)=AD):FnAt K x d st f (fnOf x d (mz st) (bE st) (af st) .none kV e j m cdv ct):=#[#[od,kV,e,j,m,cdv,ct,g,rfl,l,c],k]
def FnAt.l {f:AB}(F:FnAt K x g st f j):∃od d,K.lookup f=U #[.type "function",od,.func j,d]:=by
 let(od,kV,m,o,q,cdv,p,d,e,l,c):=F.ex;calc#[od,d,l]
meta def uQ(K:Frag)(a:AB)(ns:MC Nat):Bool:=match K.lookup a with
 |some ⟨.type "tuple",gV,.seq its _,_⟩=>⇑its.toList == ⇑ns&&(its.toList.zip ns).all (λp=>match p.1 with|.int i _=>i == (p.2:Int)|_=>AE)
 |_=>AE
def mT (h:uQ K a ns=AD)(hn:⇑ns<=10):∀H,b9 K H a (ns.map λ(j:Nat)=>V.int (j:Int)):=by
 intro H;unfold uQ at h
 split at h
 .rename_i d n C e
  rw[QJ]at h;let(g,p):=h
  replace g:=Sd g
  let u:d.size<=my:=by
   let z:⇑d.toList=d.size:=by simp
   exact small ()
  calc .inr #[_,d,n,e,rfl,rfl,u,?_,rfl];clear u e;generalize d.toList=l at g p;clear hn
  induction l generalizing ns with
  |nil=>cases ns with
   |nil=>calc .nil
   |cons _ _=>simp at g
  |cons v r ih =>
   cases ns with
   |nil=>simp at g
   |cons m q =>
    rw[To,Wk,QJ]at p;let(o,y):=p;refine .cons ?_ (ih (by simpa using g) y)
    split at o
    .rename_i i t B
     let:i=(m:Int):=Sd o;subst this;exact#[t,B]
    .cases o
 .cases h
structure kW(K:Frag) (x:AA) (st:Stmt) (f:AB) (fd:PZ):Prop where
 a:nsIn K Qp x=U (U (.ref f))
 F:FnAt K x x st f fd
structure RG(P:L0) (w:Qe) (K:Frag) (mg:AA->AF eT) (base h:Heap):Prop where
 X:K.In h
 G:h.Ns Qp mg
abbrev Om(x:AA)(st:Stmt)(ps:List AA):Prop:=∀(kV e g:eT) (l:AF AB) (cdv j:eT) (d:List eT),⇑d=⇑ps->bindArgs (fnOf x x (mz st) (bE st) (af st) .none kV e g l cdv j) #[d,[]]=pure (ps.zip d)
def kW.f (F:kW K x st g fd):i9 K x x st g fd:=F.F.f
def kW.b (F:kW K x st g fd)(h:Om x st ps:=by intro _ _ _ _ _ _;first|calc LF λ_=>rfl|calc A1 λ_ _=>rfl|calc LG λ_ _ _=>rfl|calc LH λ_ _ _ _=>rfl|calc LI λ_ _ _ _ _=>rfl):Binds K fd ps []:=F.F.f.binds h
def kW.has {sp:Sp}(F:kW K x st g fd)(R:RG P w K mg base h)(k:Nat)(o:Yf gy k g fd ps sp)(b:Om x st ps:=by intro _ _ _ _ _ _;first|calc LF λ_=>rfl|calc A1 λ_ _=>rfl|calc LG λ_ _ _=>rfl|calc LH λ_ _ _ _=>rfl|calc LI λ_ _ _ _ _=>rfl):Ya x k ps sp g fd:=#[o,Tz R.X R.G F.a,F.F.kp,F.b b]
def kW.ym {sp:Sp}(F:kW K x st g fd)(R:RG P w K mg base h)(k:Nat)(o:Yf (zc P w) k g fd ps sp)(b:Om x st ps:=by intro _ _ _ _ _ _;first|calc LF λ_=>rfl|calc A1 λ_ _=>rfl|calc LG λ_ _ _=>rfl|calc LH λ_ _ _ _=>rfl|calc LI λ_ _ _ _ _=>rfl):Y1 x k ps sp g fd:=#[o,Tz R.X R.G F.a,F.F.kp,F.b b]
def all_mk {l:Vu}{bj bh bg bf ay:AB}{cg b8 b7 bz bx bu:PZ}(X:K.In h)(G:h.Ns Qp mg)(ao:mg "law"=U (.ref fa))(F1:kW K "innermost" jG g1 e1)(F2:kW K "right_in" jz g2 e2)(F3:kW K "bound" n9 g3 e3)(F4:kW K "places" kJ g4 e4)(F5:kW K "tags_of" kg g5 e5)(F6:kW K "look_once" jH g6 e6)(F7:kW K "look_tag" kK g7 e7)(F8:kW K "look_kinds" jf g8 e8)(F9:kW K "look_params" iF g9 e9)(F10:kW K "look_gap" mF bl cn)(F11:kW K "look_count" jZ bk cm)(F12:kW K "look_arms" iR bj cl)(F13:kW K "look_term" jI bi cj)(F14:kW K "look_names" jg bh ci)(F15:kW K "_law_feed" ud bg ch)(F16:kW K "_law_take" ue bf cg)(F17:kW K "_law_names" dz be cf)(F18:kW K "_law_named_kind" dX bc ce)(F19:kW K "_law_heads" kh bb cd)(F20:kW K "_law_named_leaf" ck ba cb)(F21:kW K "_law_named_match" cz a9 ca)(F22:kW K "_law_named" aU a8 b8)(F23:kW K "_law_named_program" aQ a7 b7)(F24:kW K "_law_within" kL a6 b6)(F25:kW K "_law_told" nJ a5 b5)(F26:kW K "_law_other_kind" gX a4 b4)(F27:kW K "_law_other_kind_row" cu a3 b3)(F28:kW K "_law_other_head" dY a2 b2)(F29:kW K "_law_other_arms" gY a1 b1)(F30:kW K "_law_other" lT a0 b0)(F31:kW K "_law_back" nK az bz)(F32:kW K "_law_rebuilt" iS ay bx)(F33:kW K "_law_many" lU ax bw)(F34:kW K "_law_changed" fR aw bv)(F35:kW K "_law_kind_of" jJ av bu)(F36:kW K "_law_term_of" fS as bt)(F37:kW K "_law_named_so" fY ar bs)(F38:kW K "_law_so" xg aq bq)(F39:kW K "law" lz ap bp)(ab:nsIn K Qp "GapError"=U (U (.ref b)))(ac1:nsIn K Qp "Twice"=U (U (.ref Y)))(ac2:nsIn K Qp "NoName"=U (U (.ref gD)))(ac3:nsIn K Qp "WrongCount"=U (U (.ref S)))(ao0:nsIn K Qp "BadText"=U (U (.ref o0)))(ao1:nsIn K Qp "Clash"=U (U (.ref o1)))(ao2:nsIn K Qp "NoGap"=U (U (.ref o2)))(ao3:nsIn K Qp "NoRow"=U (U (.ref o3)))(ao4:nsIn K Qp "TooLong"=U (U (.ref o4)))(ao5:nsIn K Qp "TooMany"=U (U (.ref o5)))(j1:Q3 K (.ref Y) "__init__"=U (U (.ref f1)))(j2:Q3 K (.ref gD) "__init__"=U (U (.ref f2)))(j3:Q3 K (.ref S) "__init__"=U (U (.ref f3)))(B:mS K b)(y1:ClsAt K Y b (U (.ref f1)))(y2:ClsAt K gD b (U (.ref f2)))(y3:ClsAt K S b (U (.ref f3)))(I1:FnAt K "__init__" "Twice.__init__" sY f1 d1)(I2:FnAt K "__init__" "NoName.__init__" qH f2 d2)(I3:FnAt K "__init__" "WrongCount.__init__" j7 f3 d3)(tB:FH K [Y,gD,S] [o0,o1,o2,o3,o4,o5] b=AD)(aK:nsIn K Qp "Known"=U (U (.ref C)))(bK:Q3 K (.ref C) "__init__"=U (U (.ref mI)))(iK:isFn K (.ref mI)=AD)(MK:FnAt K "__init__" "Known.__init__" fZ mI dI)(k1:plainGet K C Qi=AD)(k2:Tg K C=AD)(k3:plainOver K C=AD)(k4:Q3 K (.ref C) "__setattr__"=U (U (.builtin "object.__setattr__")))(k5:makesIn K C=AD)(k6:R3 K (.ref C)=AD)(n1:Q3 K (.ref C) "kinds"=U gV)(n2:Q3 K (.ref C) "kind_of_tag"=U gV)(n3:Q3 K (.ref C) "many_of_tag"=U gV)(n4:Q3 K (.ref C) "many_of_def"=U gV)(n5:Q3 K (.ref C) "gaps"=U gV)(n6:Q3 K (.ref C) "opens"=U gV)(pP:nsIn K Qp "PLACES"=U (U (.ref dP)))(lP:K.lookup dP=U {cls:=.type "dict",dict:=gV,data:=.dict O nP,slots:=#[]})(kP:Jl w O.toList [("num",V.ref t0),("name",V.ref t1),("gap",V.ref t2),("op",V.ref t3),("more",V.ref t4),("first",V.ref t5),("others",V.ref t6),("long",V.ref t7),("if",V.ref t8)])(sP:(dP == RM)=AE)(pM:nsIn K Qp "PLACE_OF_MANY"=U (U (.ref dM)))(lM:K.lookup dM=U {cls:=.type "dict",dict:=gV,data:=.dict Q nM,slots:=#[]})(kM:Jl w Q.toList uB)(sM:(dM == RM)=AE)(q0:uQ K t0 []=AD)(q1:uQ K t1 []=AD)(q2:uQ K t2 []=AD)(q3:uQ K t3 [2,3]=AD)(q4:uQ K t4 [1,2]=AD)(q5:uQ K t5 [1]=AD)(q6:uQ K t6 [1]=AD)(q7:uQ K t7 [1]=AD)(q8:uQ K t8 [1,2,3]=AD)(z0:nsIn K Qp "len"=U gV)(z1:nsIn K Qp "range"=U gV)(z2:nsIn K Qp "int"=U gV)(z3:nsIn K Qp "tuple"=U gV)(z4:nsIn K Qp "list"=U gV)(z5:nsIn K Qp "zip"=U gV)(z6:nsIn K Qp "repr"=U gV)(z7:nsIn K Qp "all"=U gV)(z8:nsIn K Qp "sum"=U gV)(z9:nsIn K Qp "isinstance"=U gV)(z10:nsIn K Qp "enumerate"=U gV)(z11:nsIn K Qp "sorted"=U gV)(z12:nsIn K Qp "ValueError"=U gV)(z13:nsIn K Qp "dict"=U gV):
  ∃fd:PZ,(∀(s:fy) (v:eT),X8 s fd #[[v],[]] [("_law_script",v)])/\∀base:Heap,K.In base->base.Ns Qp mg->cD l.prog w K mg base gy 17 fa fd ["_law_script"] (BQ K):=by
 let e:=ao.symm.trans (Tz X G F39.a)
 cases e
 let D1:=I1.f.binds (ps:=ZO) λ_ _ _ _ _ _=>A1 λ_ _=>rfl;let D2:=I2.f.binds (ps:=ZO) λ_ _ _ _ _ _=>A1 λ_ _=>rfl;let D3:=I3.f.binds (ps:=ZO) λ_ _ _ _ _ _=>A1 λ_ _=>rfl;let DK:=MK.f.binds (ps:=ZS) λ_ _ _ _ _ _=>A1 λ_ _=>rfl;let d:=R8 X G z0;let z_range:=R8 X G z1;let o:=R8 X G z2;let g:=R8 X G z3;let p:=R8 X G z4;let z:=R8 X G z5;let L:=R8 X G z6;let ag:=R8 X G z7;let I:=R8 X G z8;let m:=R8 X G z9;let y:=R8 X G z10;let D:=R8 X G z11;let u:=R8 X G z12;let M:=R8 X G z13
 let TB:MJ K w mg dP dM [("num",V.ref t0),("name",V.ref t1),("gap",V.ref t2),("op",V.ref t3),("more",V.ref t4),("first",V.ref t5),("others",V.ref t6),("long",V.ref t7),("if",V.ref t8)]:={
  mP:=Tz X G pP,mM:=Tz X G pM,kP:=#[O,nP,lP,kP,(show(["num","name","gap","op","more","first","others","long","if"]:List AA).Nodup by decide),sP],kM:=#[Q,nM,lM,kM,∅,sM],
  at_:=λf ps hm=>by
   unfold placesOf at hm;simp only[P1,Qo,or_false,Prod.mk.injEq]at hm;rcases hm with⟨rfl,rfl⟩|⟨rfl,rfl⟩|⟨rfl,rfl⟩|⟨rfl,rfl⟩|⟨rfl,rfl⟩|⟨rfl,rfl⟩|⟨rfl,rfl⟩|⟨rfl,rfl⟩|⟨rfl,rfl⟩
   .exact#[t0,rfl,mT q0 ∅]
   .exact#[t1,rfl,mT q1 ∅]
   .exact#[t2,rfl,mT q2 ∅]
   .exact#[t3,rfl,mT q3 ∅]
   .exact#[t4,rfl,mT q4 ∅]
   .exact#[t5,rfl,mT q5 ∅]
   .exact#[t6,rfl,mT q6 ∅]
   .exact#[t7,rfl,mT q7 ∅]
   .exact#[t8,rfl,mT q8 ∅]}
 let(C3,(bo,bn,bm),am,al,ai):=LJ B y1 y2 y3 tB;let N:LM K C:=#[#[k1,k2,k3,k4],n1,n2,n3,n4,n5,n6];let(od,kV,T,pm,an,cdv,ct,ah,rfl,lk,cc):=F39.F.ex;calc#[fnOf "law" "law" (mz lz) (bE lz) (af lz) .none kV T pm an cdv ct,λs v=>.of_eq rfl,λbase _ _=>?_];let R:RG l.prog w K mg base h:=#[X,G];let J:Dh l.prog w K mg base "Twice" "name" Y f1 d1:=#[y1.k (x:="") (q:="") (st:=sY) B I1.l am,FL I1.f bo,Tz X G ac1,D1,y1.c];let r:Dh l.prog w K mg base "NoName" "name" gD f2 d2:=#[y2.k (x:="") (q:="") (st:=qH) B I2.l al,Dc I2.f bn,Tz X G ac2,D2,y2.c];let t:Dh l.prog w K mg base "WrongCount" "name" S f3 d3:=#[y3.k (x:="") (q:="") (st:=j7) B I3.l ai,vf I3.f bm,Tz X G ac3,D3,y3.c];let IM:=F1.has R 1 (xM F1.f);let RI:=F2.has R 1 (zB F2.f TB);let di:=F3.has R 1 (ED F3.f g);let cs:=F4.has R 2 (CK F4.f di RI);let cq:=F5.has R 1 (AG F5.f);let de:MP l.prog w K mg base C "__init__" 2 _ _ mI dI:=#[FI MK.f N cq d,#[bK,iK,MK.kp],DK,N.c];let LO:=F6.ym R 3 (G9 F6.f J y);let ac:=F10.ym R 3 (KP F10.f J);let c8:=F7.ym R 3 (KR F7.f IM r);let db:=F8.ym R 4 (En (cW:=S) F8.f LO c8);let c9:=F9.ym R 4 (CD (cW:=S) F9.f N LO ac IM r);let ad:=F11.ym R 3 (Ex F11.f r t d);let dc:=F12.ym R 4 (Hz F12.f N LO ad r t D);let c7:=F13.ym R 5 (Ez F13.f N LO ad dc ac r);let da:=F14.ym R 6 (CZ F14.f N #[k5,bK,iK,k6] de (Tz X G aK) LO db c9 cs c7 p d);let FD:=F15.has R 1 (GS F15.f d);let H:=F16.has R 1 (GR F16.f);let NM:=F17.has R 2 (EN F17.f H z_range d o);let aa:=F18.has R 2 (EO F18.f H z_range d);let df:=F19.has R 3 (ER F19.f H aa z_range g);let c6:=λ(W:Wds)=>F20.has R 2 (EY F20.f H d);let c5:=λ(W:Wds)=>F22.has R 15 (Dd F22.f (Tz X G F22.a) F22.b F21.f (Tz X G F21.a) F21.b H (c6 W) d o z_range g 7);let c4:=F23.has R 16 (Fc (n:=7) (j:=15) ∅ ∅ F23.f H NM df aa (dh.LK c5) d z_range g);let WI:=F24.has R 1 (CN F24.f p o);let cp:=F25.has R 7 (IT F25.f da C3 (Tz X G ab) (Tz X G ac1) (Tz X G ac2) (Tz X G ac3) (Tz X G ao0) (Tz X G ao1) (Tz X G ao2) (Tz X G ao3) (Tz X G ao4) (Tz X G ao5) m u I o);let Z:=λ(W:Wds)=>F26.has R 2 (Fj F26.f H z_range);let cx:=λ(W:Wds)=>F27.has R 3 (Fo F27.f H (Z W) d);let cy:=λ(W:Wds)=>F28.has R 3 (Fp F28.f H (Z W) d o);let cw:=λ(W:Wds)=>F29.has R 2 (Fe F29.f H d);let cv:=λ(W:Wds)=>F30.has R 3 (Ff F30.f H (cw W) d o);let ae:=λ(W:Wds)=>F31.has R 1 (Iz F31.f z g d);let cr:=λ(W:Wds)=>F32.has R 13 (I9 F32.f (Tz X G F32.a) F32.b WI (cv W) (ae W) 10);let MA:=λ(W:Wds)=>F33.has R 11 (FN F33.f (Tz X G F33.a) F33.b WI I 10);let dg:=λ(W:Wds)=>F34.has R 14 (AS (n:=10) (j:=13) (jm:=11) ∅ ∅ ∅ F34.f H (cr W) (MA W) (cx W) (cy W) d p g);let dd:=λ(W:Wds)=>F35.has R 4 (Ja F35.f (Tz X G F35.a) F35.b g m 3);let co:=λ(W:Wds)=>F36.has R 11 (Jb F36.f (Tz X G F36.a) F36.b WI (ae W) g z o 10);let c0:=λ(W:Wds)=>F37.has R 12 (AV (nk:=3) (nt:=10) (jk:=4) (jt:=11) (j:=11) ∅ ∅ ∅ ∅ F37.f (dd W) (co W) g);let SO:=F38.has R 1 (M6 F38.f m p);calc LC (jp:=16) (jn:=12) (jc:=14) (j:=16) ∅ ∅ ∅ ∅ #[#[_,od,kV,T,pm,an,cdv,ct,ah,rfl,lk,cc],F39.F.kp] FD H NM c4 cp (dh.LK dg) (dh.LK c0) SO z_range L m p M z
def walk {l:Vu}{K:Params->cB}(hn:l.most=U 63)(g:d.params.defaults=[])(hY:∀(w:Qe) (h:Heap),o w h->(K w.params).In h)(F:∀(w:Qe) (mg:AA->AF eT) (m:AB) (h:Heap),(K w.params).In h->h.Ns Qp mg->mg d.name=U (.ref m) ->
   ∃j:PZ,(∀(s:fy) (u:eT),X8 s j #[[u],[]] [("_law_script",u)])/\∀base:Heap,(K w.params).In base->base.Ns Qp mg->cD l.prog w (K w.params) mg base gy 17 m j ["_law_script"] (BQ (K w.params))):
  YL q e v o l.row.toRowW d [] (λf vs=>YG f vs) :=
 L2.Gp (n:=63) (k:=17) (x:="_law_script") (CX:=λ_=>gy) (sp:=λw=>BQ (K w.params)) hn ∅ g #[rfl,∅,∅,rfl] hY F (λ_ _ a p r _ t=>#[a,p,rfl,t,r,λ_=>rfl]) λ_ _ _ _ _ z=>z
end G16
namespace PySem.W.Fast
local macro_rules|`(command|universe $i*)=>return Lean.mkNullNode ((<-i.mapM fun i=>`(command|theorem $i:ident:True:=⟨⟩)).map (·.raw))
universe tw10318825145200989238 tw11581912228604388637 tw1277227119951301052 tw4196801791342932722 tw5823159423674455864 tw2231960269625110377 tw15218112843962937531 tw6729237663307359141 tw5602221783958602956 tw7098796603791855755 tw4353653914385448815 tw13816462368864098574 tw4110936974422046623 tw9045968051578037633 tw18386370165497530519 tw5621347066673974373 tw10773648420036635989 tw16167350814391588026 tw14548883631738957289 tw1756947800050043875 tw12894495631557505999 tw16671619142496890918 tw17816274903547484224 tw3697687783995746218 tw6304879787441327892 tw14209721506006087999 tw406880547182722577 tw4263584119309667320 tw479442176986519286 tw1712160680404140189 tw10316342876244558874 tw11249678103628654117 tw3783773589814743587 tw2053570433781227578 tw10510067111493100861 tw9363387774040980424 tw5086849674225913021 tw10932302596339441707 tw4567456782812838688 tw3353777524321019709 tw6372285349241059614 tw10706677103955533515 tw10795945882756113072 tw16144491294673368877 tw3862341583524747760 tw1228990155879085981 tw12453578450303802414 tw8074574273862860552 tw8746485699610165943 tw15810873171070871047 tw348758577125240316 tw9116041401352252823 tw3353686755858170284 tw16593141205268504411 tw5715838664889173633 tw10846499023794662912 tw17163655978592203804 tw15399115381331769091 tw7637545634141402171 tw16626103122798379133 tw13209585959740231590 tw16386177878011698332 tw15173069114769408598 tw3252904786977282460 tw16067202636926105862 tw5607458933958093612 tw17008233655425203480 tw2914134547842208834 tw5112261125922246168 tw15089511426498172823 tw12316548222318546367 tw8027179738661158298 tw7513849979514959151 tw5539984453808970200 tw498829190164149531 tw7823329495553279237 tw14000426254362854753 tw16386879539369416925 tw16574250894018748525 tw1951374796893917969 tw7303707282470975101 tw16531992252033130848 tw10165326895252407467 tw13533419090090084582 tw17976515901568746526 tw7001845874611372444 tw1664501524459301893 tw12567593011621031871 tw14013721815972297256 tw10438995135025966150 tw3884981848913654717 tw5640637893865969508 tw16192505519010916833 tw17591167075368454504 tw7760503811223437532 tw12220679156993154307 tw9853049096150413422 tw17579256418229482161 tw14273009430205435606 tw15215743937333240694 tw10622147163198502113 tw15474570188157219172 tw14920868971336074886 tw2593193684393125526 tw10316473132113880072 tw6751279877605073384 tw1884942122733286386 tw3800280836710476088 tw17400160340563123777 tw9150456582042861961 tw7776410811550913897 tw9277368381855619053 tw3570893172478681115 tw2841870357804120330 tw1128122244695218204 tw10899996153455111289 tw13294602987055415137 tw1675898190437975716 tw8834892294378119113 tw4379690860861173742 tw13711894917422672385 tw8619678943431320891 tw5538080879305001565 tw14831574629848298425 tw140291157135419215 tw17102677335203312114 tw16008909029477836889 tw4895169018489332360 tw14104140852223141901 tw17542271417949996374 tw7488458975146881541 tw3835908366460677625 tw10618593855549068969 tw13678353521620265915 tw16420080447933919865 tw6845990947398743618 tw17546955819453657557 tw21923416971220953 tw5519189860035493453 tw5426430991369116028 tw3448585419324767193 tw10693675306461010942 tw4273145350307154813 tw3435882429468465347 tw11248035804052918793 tw4270694666078089587 tw14919279566825843340 tw11319072384715342344 tw1482150739526116617 tw16857098762304246559 tw16045575019167405315 tw457972091584058569 tw7598167778101274759 tw7313577395667018324 tw9248692564611018912 tw4493151970962351408 tw15324841599451749492 tw3152086629098448014 tw8258909489783934021 tw5207462513377725809 tw4052482425202384775 tw18379628610683275507 tw17852201050655590093 tw7794415863585732960 tw3396728155522177931 tw3361697272441271766 tw10159313292596940407 tw1548210607191288029 tw10714571319793171041 tw79192420978209450 tw448522534499089197 tw9157238778912813945 tw6874610877269538205 tw15141073640102835256 tw10148364507328527611 tw5739549041479681302 tw5326394192062475110 tw3944019551295951601 tw2565929939873992217 tw17771764939461550459 tw3769720013749625120 tw15750723437371274795 tw9175969094545590324 tw522787182354136530 tw16056682852981586983 tw4142963115079524275 tw330207742315405690 tw11275251051400520144 tw13668947971339070303 tw8594407415108771931 tw4718541006749885638 tw7610153102465795288 tw3925556427798579016 tw8407478811098476506 tw5755648681809886114 tw4585616313738701930 tw12135004515729901421 tw15611587959121645077 tw12778686423676984145 tw17123360301386975644 tw13527319734551700346 tw5206971381975677261 tw5935177507038345436 tw14642944574371509715 tw14696277042937365405 tw7512493948374465009 tw6080617609435017888 tw7552082885839756824 tw15881622402114793416 tw3544779106025626392 tw10114824338976261386 tw11525488735893678549 tw15815525407191995409 tw8782546194065251643 tw10281320677725785733 tw15340573544135534358 tw15745437178525728792 tw15504468186558296978 tw8520771372086679318 tw15093302442808412757 tw10560344542854287217 tw15676835524270897286 tw14185485258297184961 tw6883194172261043255 tw2820272513846114948 tw8929627682841782265 tw680443246361428434 tw10419015051206933030 tw1072030559455583624 tw12842962974344222080 tw17834761318505716179 tw1691984745731302792 tw9253203900442325527 tw9155245513643075590 tw11237086017494626403 tw8841998454208443059 tw6435021339987364271 tw4648207794865236490 tw1942786373170690637 tw16897476266867347817 tw7903076201939194336 tw17595929472447552432 tw10653126937232360925 tw16817651618190057274 tw15730793487340046143 tw5025313503828411855 tw16176701735448350856 tw1464900837197689698 tw16738073405830327045 tw1623428977049479001 tw15508040593327911709 tw8945911534861302720 tw11225578674497019409 tw6146110963621436067 tw2513711523715954374 tw2113817382943517133 tw12553676742189244246 tw9271444696782738802 tw202499489647114045 tw15908608214464424385 tw10607982119332362839 tw1804292287219200673 tw3007521380504744762 tw8766048970699058858 tw3619211011720729088 tw16758234425665571713 tw14104486703226376288 tw13592202832693442373 tw12354549506946226938 tw10601657176730909174 tw16302181207529377511 tw5053426052116438229 tw6737806636464349952 tw5313501473390862380 tw13709206398463529801
end PySem.W.Fast
open PyProof.Rows
set_option maxRecDepth 100000 in
set_option maxHeartbeats 0 in
theorem PySem.Challenge.cw_gapwork_k16_whole_named_otherwise_holds : PySem.Challenge.rw_gapwork_k16_whole_named_otherwise.Holds := by
  w_on; o_law; k_head; (case hw => w_witness2)
  k_fill
  refine G16.walk (l := PySem.Challenge.rw_gapwork_k16_whole_named_otherwise) rfl rfl (λw h Y => PySem.W.kIn_of Y) ?F
  case F =>
    intro w mg fa h KX G hmg
    apply G16.all_mk KX G hmg
    case F1|F2|F3|F4|F5|F6|F7|F8|F9|F10|F11|F12|F13|F14|F15|F16|F17|F18|F19|F20|F21|F22|F23|F24|F25|F26|F27|F28|F29|F30|F31|F32|F33|F34|F35|F36|F37|F38|F39=>exact #[by k_is, G16.bz (by k_is) (by k_is) (by k_is)]
    case ab|ac1|ac2|ac3|ao0|ao1|ao2|ao3|ao4|ao5|j1|j2|j3|aK|bK|k1|k2|k3|k4|k5|k6|n1|n2|n3|n4|n5|n6|pP|lP|pM|lM|z0|z1|z2|z3|z4|z5|z6|z7|z8|z9|z10|z11|z12|z13=>k_is
    case B|y1|y2|y3=>exact ⟨#[_, _, _, _, _, _, _, _, _, _, _, _, _, _, _, by k_is, _, _, _, _, _, by k_is, by kernel_rfl, by kernel_rfl]⟩
    case tB|sP|sM|q0|q1|q2|q3|q4|q5|q6|q7|q8=>kernel_rfl
    case kP=>exact #[_, _, _, rfl, #[_, rfl], rfl, rfl, #[_, _, _, rfl, #[_, rfl], rfl, rfl, #[_, _, _, rfl, #[_, rfl], rfl, rfl, #[_, _, _, rfl, #[_, rfl], rfl, rfl, #[_, _, _, rfl, #[_, rfl], rfl, rfl, #[_, _, _, rfl, #[_, rfl], rfl, rfl, #[_, _, _, rfl, #[_, rfl], rfl, rfl, #[_, _, _, rfl, #[_, rfl], rfl, rfl, #[_, _, _, rfl, #[_, rfl], rfl, rfl, rfl]]]]]]]]]
    case kM=>exact #[_, _, _, rfl, #[_, rfl], rfl, #[_, rfl], #[_, _, _, rfl, #[_, rfl], rfl, #[_, rfl], #[_, _, _, rfl, #[_, rfl], rfl, #[_, rfl], rfl]]]
    case I1|I2|I3=>exact G16.bz (by k_is) (by k_is) (by k_is)
    case iK=>k_is
    case MK=>exact G16.bz (by k_is) (by k_is) (by k_is)
#print axioms PySem.Challenge.cw_gapwork_k16_whole_named_otherwise_holds

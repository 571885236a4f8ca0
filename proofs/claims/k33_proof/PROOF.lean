import PyProof.Rows.All
import Wide.All
import OpenK.AllK
import Wide.FinOn
import PyProof.EqAt
import PyProof.EqKinds
import PyProof.NeKinds
import PyProof.TupleCall
import PyProof.StrLawsRepr
import KE.KIsAll
import KE.KItem
import KE.KDictOf
import KE.KBytesAny
import KE.KDictList
import Lean
import PySem.Challenge.RW_gapwork_k33_programs_filled
local macro_rules|`(tactic|omega)=>`(tactic|first|lia|omega +splitDisjunctions)
set_option Elab.async false
set_option linter.all false
set_option maxRecDepth 100000
open Array renaming length_toList→NH,getElem?_toList→Od,getElem?_eq_getElem→OC,toList_append→P5,forIn_toList→Qs,append_assoc→So,toList_inj→S1
open Bool renaming false_ne_true→Lg,false_eq_true→Mi,and_eq_true→Mj,eq_iff_iff→OI,or_eq_true→PV,or_false→QX
open False renaming elim→Mt
open Int renaming toNat_natCast→Mv,emod_lt_of_pos→Qq,ediv_le_self→Rt,zero_add→RI,emod_nonneg→RM,ediv_nonneg→RN
open LawfulBEq renaming eq_of_beq→NJ
open List renaming length_map→bC,getElem?_eq_some_iff→ko,length_append→lu,getElem?_eq_getElem→m3,map_append→nq,mem_singleton→nt,mem_cons→ri,size_toArray→rj,getElem?_map→rz,mem_of_getElem?→we,mem_append_right→FT,length_take→Lb,take_succ_eq_append_getElem→Lc,map_cons→Lh,mem_append→Li,not_mem_nil→Lp,length_cons→Lu,take_length→Lv,mem_of_mem_take→Ly,replicate→LB,mem_map_of_mem→LC,mem_append_left→LD,lookup_cons→LG,append_nil→LH,getElem?_append_right→LJ,zipWith→LK,append_assoc→LM,flatMap_cons→LN,take_of_length_le→LO,getElem?_append_left→LR,range→LU,mem_map→L8,flatMap_append→Ma,mem_cons_of_mem→Mc,nodup_append→Me,filterMap_cons→Mg,length_eq_zero_iff→Mh,length_filterMap_le→Mk,length_reverse→Ml,eraseIdx_eq_take_drop_succ→Mn,nodup_cons→Mp,mem_cons_self→MD,all_eq_true→MG,getElem?_of_mem→MI,length_zipWith→MM,cons_append→MU,map_take→M0,find?_cons→M7,replicate_succ→M9,map→Nb,map_nil→Nc,map_map→Nd,length_drop→Nk,mem_flatMap→Nl,getD_eq_getElem?_getD→Np,zip_cons_cons→Nq,getElem?_eq_none→Nr,filterMap_append→Nt,forIn_cons→Ny,forIn_nil→NK,filterMap→NL,length→NP,zipWith_cons_cons→NT,map_singleton→NV,of_mem_zip→NY,length_replicate→Oc,eq_nil_or_concat→Of,reverse_cons→Oi,mem_range→Oj,dropLast_concat→Oq,mem_of_mem_drop→Ou,getElem_mem→Ox,getElem?_eq_none_iff→Oz,reverse_append→OE,getElem?_replicate→OQ,flatten_cons→O1,take_zero→O3,eraseIdxIfInBounds_toArray→O5,length_singleton→O6,take_append_drop→O8,length_filter_le→O9,map_reverse→Pg,take→Ph,nil_sublist→Pj,all_cons→Pn,any_cons→Po,map_drop→Pq,getElem?_set_ne→Pu,lookup→Pw,mem_iff_getElem→PD,take_append_of_le_length→PF,mem_filter→PK,nil_append→PR,length_zip→P1,mem_filterMap→Qh,nodup_nil→Qv,getElem?_take→Qw,length_eraseIdx_of_lt→Qx,mem_of_find?_eq_some→QC,any_eq_false→QO,getElem?_take_of_lt→QW,mem_of_mem_eraseIdx→Q3,mem_reverse→Rf,flatMap_nil→Ri,getElem?_cons_zero→Ru,getElem?_set_self→Rx,reverse_singleton→RG,drop_of_length_le→RH,find?_cons_of_pos→RJ,find?_cons_of_neg→RK,getElem?_zipWith→RQ,concat_eq_append→RS,singleton_append→RT,reverse_reverse→R1,sum_cons→Sk,Pairwise→Sl,filterMap_map→Sv,pairwise_cons→Sy,take_sublist→SG,length_range→SR,getElem_inj→SV,zipIdx_cons→S2,any_eq_true→S5,foldl→Tg
open List.Sublist renaming refl→O4
open Nat renaming le_refl→lj,le_trans→I0,zero_le→Ld,lt_of_lt_of_le→Lf,ne_of_lt→Ls,lt_irrefl→LY,le_of_lt→Mb,le_of_ble_eq_true→Mx,le_add_right→MH,min_eq_left→Nz,ne_of_gt→NB,pow_le_pow_right→ND,lt_succ_self→Pe,not_lt→Pf,min_le_left→PZ,mul_le_mul_left→P6,lt_trans→P8,min_self→P9,lt_of_le_of_lt→Qo,le_succ→QL,lt_succ_of_lt→QM,succ_le_succ→Q9,le_mul_of_pos_right→Rc,min_eq_right→Rg,succ_mul→RB,lt_of_succ_lt_succ→RL,mul_le_mul_right→R7,add_le_add_left→Sa,sub_self→SJ,le_total→SK,le_of_eq→SM,lt_succ_of_le→SQ
open Nat.succ renaming inj→Tn
open Ne renaming symm→MQ
open Option renaming map_eq_some_iff→FA,map_some→OJ,isSome_iff_exists→QV,getD_none→Q8,bind_some→Rr,isSome_map→SI
open Option.some renaming inj→LQ,injEq→O2
open PyProof.Rows renaming boot_tuple→Le,callWith_type1→LV,slot_tuple_getitem→Mf,boot_int→MT,boot_list→Nu,boot_dict→NW,boot_repr→NX,boot_max→Pa,assignInOrder_cons→Qf,AllBare→QE,envOfC→Ry,subscriptTail_builtinR→RA,subscriptTail→Si,Subscript_→Sw,IntsAre→Td
open PyProof.Rows.IsTup renaming new→SW
open PySem renaming wpAny_bind→bB,Value→j3,Shared→mu,wpAny_pure→my,sizeLine→nk,mainGlobals→ur,FuncData→zo,Program→FG,wpAny→La,World→Lk,model→Lr,Around→Lz,starEach→LA,wpAny_holding→LI,wpAny_field→LL,wpAny_callSpecial?_slot→LP,mem_of_lookup→LS,sliceBounds→LZ,wpAny_Call_Name_kw→L0,wpAny_seqItems→L6,wpAny_call_entry→Mr,wpAny_newObj_type→Mu,sysModules→MC,wpAny_mono→ME,wpAny_typeOf→MJ,compareOp→ML,rawInt→MN,builtinLookup_eq_fast→MS,wpAny_setField_rec→MV,IsPair→MW,wpAny_isInstance→MY,Scope→M4,strKind→Nh,wpAny_attempt→Nj,binaryOp→Nn,wpAny_passesOwn→Nx,typeLookup→NS,wpAny_specialOf→NZ,typeLookup_type→Oa,wpAny_updateSeq→Ob,Builtin→Og,foldedSetIterable→Oh,wpAny_rule→Ol,NameKind→Om,valueAt→Ow,cLine→OA,pyNext→OD,plainId_quiet→OH,backTo→OL,assignEach→OM,tupleKind_room_in1→ON,getattributeRaised→OO,DictEntry→OS,bootBuiltins→OV,codeAny→OX,codeAny_mono→OY,wpAny_execs_cons→Pc,wpAny_standAt→Pk,strLen_append→Pp,wpAny_newFunctionEnv→Px,ZipApart→Py,wpAny_updateSeq_pair→Pz,wpAny_letGo→PB,wpAny_execs_nil→PL,letOwnedTupleGo→PM,IsPart→PN,codeAny_builtin→PY,wpAny_loadPart'→P0,getItem→P7,seqIndex?→Qd,wpAny_pyIter_tuple→Qg,call_meets→Qn,sliceRange→Qp,holding→QF,wpAny_truthy_bool→QG,wpAny_pyIter_list→QH,sizeLine_eq→QI,wpAny_sequenceKey→QJ,slot_list_getitem→QK,behindInMarks→QU,wpAny_getItem_list_slice→QY,wpAny_comprehension_free→QZ,wpAny_onRaise→Q0,tupleKind→Q4,swapsWith→Q5,Arguments→Q6,noFill_tuple_add→Q7,wpAny_list_append_plain→Rb,field→Rj,IsZip→Rk,updateSeq→Rl,wpAny_pyIter_zip→Rq,builtinsNs→Rw,codeAny_compStart_list→RD,PyData→RE,codeAny_call_function→RP,assign→RW,subscripted→RY,boot_len→R0,callType_codes→R3,isSubtype_stop→R5,wpAny_listPart→R6,callerA→R8,assignInOrder→Se,seq_tuple_add→Sf,evalPart_none→Sg,attributeBase→Sj,Result→Ss,wpAny_call→Su,merged→Sx,setItem→SD,BindsTo→SE,concat_meets→SH,slicePick→SY,atKey→S7,Keyword→Tc,bindL→Te,bindC→Tf,call→Th
open PySem.Around renaming under_plainId→Ot,frames_deeper→RX
open PySem.Builtin.Dict renaming updateFrom→Rh
open PySem.Builtin.List renaming listExtendWith→Mm,listSameRef→MB,listItems→Ng,listTooLong→NG,listLengthHint→Qa,listSubscript?→Qc,listAllItems→QB,listUpdate→Ro
open PySem.Builtin.Slice renaming slicePlaces→Nv,sliceAdjust→OB,sliceApplied→Qj
open PySem.Builtin.SmallTypes renaming nextOf→Lq,ownedTupleIsFree→Lx,ownedTupleHandOut→OF
open PySem.Builtin.Tuple renaming tupleExact→NF,tupleItemsOf→Qk
open PySem.Calls renaming spliced_cons→NR,spliced_nil→OW,callWith_builtin→O0,Name_function_global→Qe,evalArgs_plain→RZ
open PySem.F renaming slot_list_append→Ll,type_list_append→Ln,slot_zip_next→L7,slot_list_extend→Mz,type_list_extend→MA,slot_tuple_iterator_next→MK,slot_tuple_getattribute→MP,plain_extend_loop→MR,slot_list_getattribute→MZ,plainAttrs_list→M5,args_zip_next_1→M6,slot_list_pop→Na,entry_zip_next→Nf,type_list_pop→Oe,args_tuple_add_2→OG,args_tuple_iterator_next_1→OP,entry_tuple_add→OR,entry_tuple_iterator_next→OU,slot_tuple_add→OZ,slot_dict_get→O7,slot_dict_getitem→Qz,entry_extend_loop→QA,args_list_init_2→Q2,args_dict_get_3→Ra,typeCall_list_1→Rm,entry_list_init→Rn,entry_dict_get→RC,called_list→Sd
open PySem.Heap renaming get?_push_of_some→mC,lt_size→vy,get?_push_size→K9,get?_update_other→Ms,get?_update_self→Mw,size_push→My,SameBut→NQ,ExtBut→R4
open PySem.Heap.DictOf renaming new→S9
open PySem.Heap.IsSliceOf renaming new→Ql
open PySem.Heap.SameBut renaming update→Sb
open PySem.IsL renaming isList→S3
open PySem.Obj renaming mapSeq→LX,data_mapFields→Sz
open PySem.PassesOwn renaming never→PX
open PySem.PyData renaming leavesShortAll→Pb,showableAll→Qy,hasDictAll→QS,weightAll→Rv,depthAll→RO,shown_fits→SS
open PySem.SeqAt renaming EqAt→MF,RcNeAt→Oo
open PySem.SeqAt.EqAt renaming int_str→Sm,str_int→Sn
open PySem.Shared renaming TypeIs→Ni,heap→S8
open PySem.Str renaming ofString→Lj,empty→Lw,length→Qm
open PySem.Txt renaming slice→MX,mul→QN,slice_le→SA
open PySem.Value renaming isStrOf→QT
open PySem.W renaming Frag→bA,mg_of→Mq,keepIn→MO,CodeHd→M3,mg_none_of→M8,envX→NC,fnOf→Ov,fnX→OT,codeIn→Pd,hideAll→PJ,OpenLaw→P4,callWith_K→Qi,tabObj→Qu,methodObj→QD,cellsFrom_some→Rz,hideAll_size→RU,hideAll_none→RV,hideAll_get→R9,of_hideAll→Sq,FnAt→SO,plainGet→SX,tabIn→S4,fnMade→Ti,WalkO→Tj
open PySem.W.KFB renaming if_not→Qt
open Sum.inl renaming inj→S6
namespace L2
open PySem PySem.Spec PyProof.Rows
noncomputable abbrev Key:=Sum Int Str
noncomputable def sV:Key->j3->Bool
 |.inl k,v=>Value.isInt k v
 |.inr x,v=>QT x v
noncomputable def IV(w:Lk):Key->Int
 |.inl k=>hashInt k
 |.inr x=>hashStr w x
theorem dz:∀{k:Key}{v:j3},sV k v=true->(∃i t,k=Sum.inl i/\v=Value.int i t)\/(∃x t,k=Sum.inr x/\v=Value.str x t)
 |.inl i,v,h=>by
  obtain⟨t,e⟩:=j3.isInt_shape (k:=i) (v:=v) h;exact .inl ⟨i,t,rfl,e⟩
 |.inr x,v,h=>by
  obtain⟨t,e⟩:=j3.isStrOf_shape (x:=x) (v:=v) h;exact .inr ⟨x,t,rfl,e⟩
theorem zT(i:Int)(t:Tok):sV (.inl i) (.int i t)=true:=by simp[sV,Value.isInt]
theorem zU(x:Str)(t:Tok):sV (.inr x) (.str x t)=true:=by simp[sV,QT]
theorem EW(a b:Int):decide ((Sum.inl a:Key)=Sum.inl b)=(a == b):=by
 by_cases e:a=b
 ·subst e;simp
 ·have h:¬(Sum.inl a:Key)=Sum.inl b:=fun q=>e (S6 q);rw[decide_eq_false h];exact(beq_eq_false_iff_ne.mpr e).symm
theorem EX(a b:Str):decide ((Sum.inr a:Key)=Sum.inr b)=decide (a=b):=by
 by_cases e:a=b
 ·subst e;simp
 ·have h:¬(Sum.inr a:Key)=Sum.inr b:=fun q=>e (Sum.inr.inj q);rw[decide_eq_false h,decide_eq_false e]
theorem EY(a:Int)(b:Str):decide ((Sum.inl a:Key)=Sum.inr b)=false:=decide_eq_false (fun q=>nomatch q)
theorem EZ(a:Str)(b:Int):decide ((Sum.inr a:Key)=Sum.inl b)=false:=decide_eq_false (fun q=>nomatch q)
noncomputable def cN(prog:FG)(w:Lk):PySem.KeyKind prog w Key where
 is:=sV
 hash:=IV w
 inj:=fun v a b m g=>by
  rcases dz m with⟨i,t,rfl,rfl⟩|⟨x,t,rfl,rfl⟩
  ·rcases dz g with⟨j,u,rfl,e⟩|⟨y,u,rfl,e⟩
   ·injection e with e1 _;rw[e1]
   ·exact nomatch e
  ·rcases dz g with⟨j,u,rfl,e⟩|⟨y,u,rfl,e⟩
   ·exact nomatch e
   ·injection e with e1 _;rw[e1]
 byValue:=fun k v h=>by
  rcases dz h with⟨i,t,rfl,rfl⟩|⟨x,t,rfl,rfl⟩<;>rfl
 pyHash:=fun d h=>by
  rcases dz d with⟨i,t,rfl,rfl⟩|⟨x,t,rfl,rfl⟩
  ·exact wpAny_pyHash_int h
  ·exact wpAny_pyHash_str h
 eqBool:=fun l d h=>by
  rcases dz l with⟨i,t,rfl,rfl⟩|⟨x,t,rfl,rfl⟩
  ·rcases dz d with⟨j,u,rfl,rfl⟩|⟨y,u,rfl,rfl⟩
   ·rw[EW]at h;exact wpAny_eqBool_int h
   ·rw[EY]at h;exact Sm i t y u _ _ _ _ h
  ·rcases dz d with⟨j,u,rfl,rfl⟩|⟨y,u,rfl,rfl⟩
   ·rw[EZ]at h;exact Sn x t j u _ _ _ _ h
   ·rw[EX]at h;exact wpAny_eqBool_str h
 «strs»:=fun k x t v h=>by
  rcases dz h with⟨i,u,rfl,e⟩|⟨y,u,rfl,e⟩
  ·exact nomatch e
  ·injection e with e1 _;subst e1
   cases v<;>rfl
theorem vA(prog:FG)(w:Lk)(i:Int)(t:Tok):(cN prog w).is (.inl i) (.int i t)=true:=zT i t
theorem vB(prog:FG)(w:Lk)(x:Str)(t:Tok):(cN prog w).is (.inr x) (.str x t)=true:=zU x t
inductive V where
 |iP|bl (b:Bool)|int (i:Int)|str (x:Str)|byt (b:Array UInt8)|flt (b:UInt64)|ref (a:Addr)|ty (n:String)
 deriving DecidableEq
noncomputable def RelV:V->j3->Prop
 |.iP,u=>u=Value.none
 |.bl b,u=>u=Value.bool b
 |.int i,u=>∃t,u=Value.int i t
 |.str x,u=>∃t,u=Value.str x t
 |.byt b,u=>∃t,u=j3.bytes b t
 |.flt b,u=>∃t,u=j3.float b t
 |.ref a,u=>u=Value.ref a
 |.ty n,u=>u=Value.type n
noncomputable abbrev Vals:List V->List j3->Prop:=Paired RelV
theorem Vals.length{xs:List V}{us:List j3}(r:Vals xs us):xs.length=us.length:=Paired.length r
theorem Vals.get:∀{xs:List V}{us:List j3}{i:Nat}{x:V},Vals xs us->xs[i]?=some x->∃u,us[i]?=some u/\RelV x u
 |_,_,_,_,.nil,e=>by simp at e
 |_,_,0,_,.cons r _,e=>by simp at e;subst e;exact⟨_,rfl,r⟩
 |_,_,i+1,x,.cons _ t,e=>by
  obtain⟨u,g,d⟩:=Vals.get (i:=i) (x:=x) t (by simpa using e);exact⟨u,by simpa using g,d⟩
theorem Vals.set{x:V}{u:j3}(r:RelV x u):∀{xs:List V}{us:List j3}(i:Nat),Vals xs us->Vals (xs.set i x) (us.set i u)
 |_,_,_,.nil=>.nil
 |_,_,0,.cons _ t=>.cons r t
 |_,_,i+1,.cons q t=>.cons q (Vals.set r i t)
theorem Vals.append:∀{xs ys:List V}{us d:List j3},Vals xs us->Vals ys d->Vals (xs++ys) (us++d)
 |_,_,_,_,.nil,s=>s
 |_,_,_,_,.cons r t,s=>.cons r (Vals.append t s)
theorem Vals.take:∀{xs:List V}{us:List j3}(n:Nat),Vals xs us->Vals (xs.take n) (us.take n)
 |_,_,0,_=>.nil
 |_,_,_+1,.nil=>.nil
 |_,_,n+1,.cons r t=>.cons r (Vals.take n t)
theorem Vals.drop:∀{xs:List V}{us:List j3}(n:Nat),Vals xs us->Vals (xs.drop n) (us.drop n)
 |_,_,0,r=>r
 |_,_,_+1,.nil=>.nil
 |_,_,n+1,.cons _ t=>Vals.drop n t
theorem Vals.none_of:∀{xs:List V}{us:List j3}{i:Nat},Vals xs us->xs[i]?=none->us[i]?=none:=fun{xs us i} r e=>by
 have g:=r.length;have d:xs.length<=i:=Oz.mp e;exact Oz.mpr (by omega)
noncomputable def lV:Option V->Option j3->Prop
 |some v,some u=>RelV v u
 |none,none=>True
 |_,_=>False
noncomputable def KV{d:Type}:List (d×V)->List (d×j3)->Prop:=Paired fun(p:d×V) (q:d×j3)=>p.1=q.1/\RelV p.2 q.2
noncomputable def kV:Key->V
 |.inl i=>.int i
 |.inr x=>.str x
inductive HO where
 /-- a list -/
 |lst (xs:List V)
 /-- a tuple (never changes) -/
 |tup (xs:List V)
 /-- a dict whose keys are ints and texts;one whose keys are tuples of ints and texts (the empty one is both) -/
 |dK (kvs:List (Key×V))|dT (kvs:List (List Key×V))
 /-- a set of ints: its members,its size -/
 |set (S:Int->Bool) (n:Nat)
 /-- an instance of the class at C,its dict at dx,its attributes -/
 |ins (C dx:Addr) (fs:List (Str×V))
 /-- the dict of the instance at x -/
 |own (x:Addr)
 /-- the dict of an exception -/
 |xd (fs:List (Str×V))
 /-- a bound method,f of x -/
 |met (f x:Addr)
 /-- a range object lo,lo+1,.. below hi -/
 |rng (lo hi:Int)
 /-- a thing that is known to the object (the script;a dict while a loop walks it): read,never written while it is so -/
 |frz (o:Obj) (u:HO)
 /-- a code object's table -/
 |tbl (ps:Array j3)
 /-- any other thing,by what is true of its one object (a def of one's own: SetO a S n:=HO.ext fun h=>..) -/
 |ext (φ:Heap->Prop)
noncomputable abbrev Hp:=Addr->Option HO
noncomputable def upd(H:Hp)(a:Addr)(o:HO):Hp:=fun b=>if b=a then some o else H b
theorem af{H:Hp}{a:Addr}{o:HO}:upd H a o a=some o:=by unfold upd;rw[if_pos rfl]
theorem av{H:Hp}{a b:Addr}{o:HO}(h:b≠a):upd H a o b=H b:=by unfold upd;rw[if_neg h]
theorem cD{H:Hp}{a b:Addr}{o u:HO}(h:H a=some o)(h':H b=some u)(d:o≠u):a≠b:=by
 intro e;subst e;rw[h]at h';exact d (LQ h')
theorem aq{H:Hp}{a b:Addr}{o:HO}(h:H a=some o)(h':H b=none):a≠b:=by
 intro e;subst e;rw[h]at h';cases h'
section
variable (P:FG) (w:Lk)
noncomputable def JT(h:Heap)(a:Addr):Prop:=∃o,h.get? a=some o/\o.dict=none
noncomputable def ef(H:Hp)(h:Heap)(a:Addr):HO->Prop
 |.lst e=>e.length<=nk/\∃(d:List j3) (n:Nat),Vals e d/\h.get? a=some {cls:=.type "list",data:=.seq d.toArray n}
 |.tup e=>e.length<=nk/\∃d:List j3,Vals e d/\IsTup h a d.toArray/\JT h a
 |.dK kvs=>kvs.length<=nk/\(a == MC)=false/\∃j,KV kvs j/\h.DictOf (cN P w) a j
 |.dT kvs=>kvs.length<=nk/\(a == MC)=false/\∃e:List (List Key×Addr×j3),
   Paired (fun(p:List Key×V) (q:List Key×Addr×j3)=>p.1=q.1/\H q.2.1=some (.tup (p.1.map kV))/\RelV p.2 q.2.2) kvs e /\
   ∃o r y,h.get? a=some o/\o.ExactDict/\o.data=.dict r y/\r.toList=e.map (entryOfKey (Q4 (cN P w)))/\(e.map (·.1)).Nodup
 |.set S n=>h.SetOf (intKind P w) a S n
 |.ins C dx fs=>H dx=some (.own a)/\fs.length<=1000/\dx≠a/\h.get? a=some (PySem.W.instObj C dx) /\
   ∃g,h.Ns1 dx g/\(∀f,lV (fs.lookup f) (g f))/\PySem.Within g (fs.map (·.1))
 |.own _=>∃o,h.get? a=some o
 |.xd fs=>∃g,h.Ns1 a g/\∀f,lV (fs.lookup f) (g f)
 |.rng lo hi=>∃t u v,h.get? a=some {cls:=.type "range",data:=.fields #[.int lo t,.int hi u,.int 1 v]}
 |.frz o u=>h.get? a=some o/\ef H h a u
 |.tbl ps=>h.get? a=some {cls:=.none,data:=.fields ps}
 |.met f x=>h.get? a=some (QD (.ref f) (.ref x))
 |.ext φ=>φ h/\(∃o,h.get? a=some o)/\∀m l:Heap,φ m->(∀o,m.get? a=some o->l.get? a=some o)->φ l
noncomputable def m9(H:Hp)(h:Heap):Prop:=∀a o,H a=some o->ef P w H h a o
end
section
variable {P:FG}{w:Lk}{H H':Hp}{h h':Heap}{a:Addr}{o:HO}
theorem ef.lt(x:ef P w H h a o):a<h.objs.size:=by
 cases o with
 |lst xs=>obtain⟨_,_,_,_,e⟩:=x;exact vy e
 |tup xs=>obtain⟨_,_,_,p,_⟩:=x;exact p.lt
 |dK kvs=>obtain⟨_,_,_,_,o,_,_,e,_⟩:=x;exact vy e
 |dT kvs=>obtain⟨_,_,_,_,o,_,_,e,_⟩:=x;exact vy e
 |set S n=>obtain⟨o,_,_,_,e,_⟩:=x;exact vy e
 |ins C dx fs=>obtain⟨_,_,_,e,_⟩:=x;exact vy e
 |own y=>obtain⟨_,e⟩:=x;exact vy e
 |xd fs=>obtain⟨_,⟨_,_,_,e,_⟩,_⟩:=x;exact vy e
 |rng lo hi=>obtain⟨_,_,_,e⟩:=x;exact vy e
 |frz ob u=>obtain⟨e,_⟩:=x;exact vy e
 |tbl ps=>exact vy (show h.get? a=some _ from x)
 |met f y=>exact vy (show h.get? a=some _ from x)
 |ext φ=>obtain⟨_,⟨_,e⟩,_⟩:=x;exact vy e
theorem Paired.E1{g e:Type}{F G:g->e->Prop}:∀{l₁:List g}{d:List e},Paired F l₁ d->(∀a b,F a b->G a b)->Paired G l₁ d
 |_,_,.nil,_=>.nil
 |_,_,.cons r t,f=>.cons (f _ _ r) (Paired.E1 t f)
theorem ef.stay(x:ef P w H h a o)(k:∀b u,(b=a\/H b=some (.own a))->h.get? b=some u->h'.get? b=some u)
  (ho:∀b,H b=some (.own a)->H' b=some (.own a)) (ht:∀b xs,H b=some (.tup xs)->H' b=some (.tup xs)):ef P w H' h' a o:=by
 induction o with
 |lst xs=>obtain⟨z,m,n,r,e⟩:=x;exact⟨z,m,n,r,k _ _ (.inl rfl) e⟩
 |tup xs=>obtain⟨z,m,r,⟨g,e,c⟩,I,D,J⟩:=x;exact⟨z,m,r,⟨g,k _ _ (.inl rfl) e,c⟩,I,k _ _ (.inl rfl) D,J⟩
 |dK kvs=>obtain⟨z,y,G,r,g,j,l,e,c⟩:=x;exact⟨z,y,G,r,g,j,l,k _ _ (.inl rfl) e,c⟩
 |dT kvs =>
  obtain⟨z,y,xs,r,g,j,l,e,c⟩:=x;exact⟨z,y,xs,Paired.E1 r fun p q z=>⟨z.1,ht _ _ z.2.1,z.2.2⟩,g,j,l,k _ _ (.inl rfl) e,c⟩
 |set S n=>obtain⟨g,j,l,t,e,c⟩:=x;exact⟨g,j,l,t,k _ _ (.inl rfl) e,c⟩
 |ins C dx fs =>
  obtain⟨d,z,ne,e,B,⟨A,j,l,D,c⟩,r⟩:=x;exact⟨ho _ d,z,ne,k _ _ (.inl rfl) e,B,⟨A,j,l,k _ _ (.inr d) D,c⟩,r⟩
 |own y=>obtain⟨g,e⟩:=x;exact⟨g,k _ _ (.inl rfl) e⟩
 |xd fs=>obtain⟨B,⟨A,j,l,e,c⟩,r⟩:=x;exact⟨B,⟨A,j,l,k _ _ (.inl rfl) e,c⟩,r⟩
 |rng lo hi=>obtain⟨t,u,v,e⟩:=x;exact⟨t,u,v,k _ _ (.inl rfl) e⟩
 |frz g u ih=>obtain⟨e,q⟩:=x;exact⟨k _ _ (.inl rfl) e,ih q⟩
 |tbl ps =>
  have e:h.get? a=some {cls:=.none,data:=.fields ps}:=x;show h'.get? a=some {cls:=.none,data:=.fields ps};exact k a _ (.inl rfl) e
 |met f y =>
  have e:h.get? a=some (QD (.ref f) (.ref y)):=x;show h'.get? a=some (QD (.ref f) (.ref y));exact k a _ (.inl rfl) e
 |ext φ=>obtain⟨p,⟨o,e⟩,E⟩:=x;exact⟨E _ _ p fun o q=>k _ _ (.inl rfl) q,⟨o,k _ _ (.inl rfl) e⟩,E⟩
theorem m9.lt(x:m9 P w H h)(e:H a=some o):a<h.objs.size:=(x a o e).lt
theorem m9.fresh(x:m9 P w H h)(e:h.objs.size<=a):H a=none:=by
 cases q:H a with
 |none=>rfl
 |some u=>exact absurd (Lf (x.lt q) e) (LY _)
theorem m9.kept(x:m9 P w H h)(k:∀b u,h.get? b=some u->h'.get? b=some u):m9 P w H h':=fun a o e =>
 (x a o e).stay (fun b u _ q=>k b u q) (fun _ q=>q) fun _ _ q=>q
theorem m9.laid(x:m9 P w H h)(k:∀b u,h.get? b=some u->h'.get? b=some u)(j:h.objs.size<=a)(new:ef P w (upd H a o) h' a o):m9 P w (upd H a o) h':=fun b u e=>by
 have d:=x.fresh j
 by_cases g:b=a
 ·subst g;rw[af]at e;cases e;exact new
 ·rw[av g]at e;exact(x b u e).stay (fun c v _ q=>k c v q) (fun c q=>by rw[av (aq q d)];exact q) fun c l q=>by rw[av (aq q d)];exact q
end
noncomputable def Rd(H:Hp)(a:Addr)(u:HO):Prop:=H a=some u\/∃o,H a=some (.frz o u)
theorem Rd.ok{P:FG}{w:Lk}{H:Hp}{h:Heap}{a:Addr}{u:HO}(r:Rd H a u)(x:m9 P w H h):ef P w H h a u:=by
 rcases r with r|⟨o,r⟩
 ·exact x a u r
 ·obtain⟨_,q⟩:=x a _ r;exact q
noncomputable def GV:Option HO->Prop
 |some (.lst _)=>True
 |some (.dK _)=>True
 |some (.dT _)=>True
 |some (.set _ _)=>True
 |some (.ins _ _ _)=>True
 |some (.ext _)=>True
 |_=>False
section
variable {P:FG}{w:Lk}{H:Hp}{h h':Heap}{x e:Addr}{o':HO}
theorem m9.write(ok:m9 P w H h)(m:GV (H x))(A:e=x\/H e=some (.own x))(k:∀b u,b≠e->h.get? b=some u->h'.get? b=some u)(p:∃u,h'.get? e=some u)
  (new:ef P w (upd H x o') h' x o'):m9 P w (upd H x o') h':=fun b u q=>by
 have g:∀c y,H c=some (.own y)->c≠x:=fun c y r z=>by subst z;rw[r]at m;exact m
 have j:∀c l,H c=some (.tup l)->c≠x:=fun c l r z=>by subst z;rw[r]at m;exact m
 by_cases o:b=x
 ·subst o;rw[af]at q;cases q;exact new
 ·rw[av o]at q
  by_cases d:b=e
  ·have t:H b=some (.own x):=by
    rcases A with z|z
    ·exact absurd (d.trans z) o
    ·rw[d];exact z
   rw[q]at t;cases t;obtain⟨v,B⟩:=p;exact⟨v,by rw[d];exact B⟩
  ·refine(ok b u q).stay (fun c v hc r=>k c v ?_ r) (fun c r=>by rw[av (g c b r)];exact r) fun c l r=>by rw[av (j c l r)];exact r
   rcases hc with rfl|hc
   ·exact d
   ·rintro rfl;rcases A with z|z
    ·exact g c b hc z
    ·rw[hc]at z;cases z;exact o rfl
end
structure Un(fs ex:List Addr) (H H':Hp) (h h':Heap):Prop where
 keep:∀b o,h.get? b=some o->H b=none->b∉fs->b∉ex->h'.get? b=some o
 slot:∀b o,h.get? b=some o->H b=none->b∈fs->b∉ex->∃sl,h'.get? b=some {o with slots:=sl}
 free:∀b o,h.get? b=some o->H b=none->b∉ex->H' b=none
 there:∀b o,h.get? b=some o->b∉ex->∃o',h'.get? b=some o'
 tups:∀b xs,H b=some (.tup xs)->H' b=some (.tup xs)
 frzs:∀b o u,H b=some (.frz o u)->H' b=some (.frz o u)
 tbls:∀b ps,H b=some (.tbl ps)->∃more,H' b=some (.tbl (ps++more))
section
variable {fs fs' ex ex':List Addr}{H H1 H2:Hp}{h h1 h2 h':Heap}{a x e:Addr}{o:HO}
theorem Un.any(u:Un fs ex H H1 h h1){b:Addr}{d:Obj}(q:h.get? b=some d)(n:H b=none)(g:b∉ex):∃l,h1.get? b=some {d with slots:=l}:=by
 by_cases j:b∈fs
 ·exact u.slot b d q n j g
 ·exact⟨d.slots,u.keep b d q n j g⟩
theorem Un.trans(a:Un fs ex H H1 h h1)(b:Un fs ex H1 H2 h1 h2):Un fs ex H H2 h h2 where
 keep:=fun c d q n m g=>b.keep c d (a.keep c d q n m g) (a.free c d q n g) m g
 slot:=fun c d q n m g=>by
  obtain⟨y,j⟩:=a.slot c d q n m g;obtain⟨p,t⟩:=b.slot c _ j (a.free c d q n g) m g;exact⟨p,t⟩
 free:=fun c d q n g=>by
  obtain⟨r,j⟩:=a.there c d q g;exact b.free c r j (a.free c d q n g) g
 there:=fun c d q g=>by
  obtain⟨r,j⟩:=a.there c d q g;exact b.there c r j g
 tups:=fun c l q=>b.tups c l (a.tups c l q)
 frzs:=fun c d l q=>b.frzs c d l (a.frzs c d l q)
 tbls:=fun c u q=>by
  obtain⟨w,j⟩:=a.tbls c u q;obtain⟨v,t⟩:=b.tbls c _ j;exact⟨w++v,by rw[t,So]⟩
theorem Un.kept(k:∀b u,h.get? b=some u->h'.get? b=some u):Un fs ex H H h h' :=
 ⟨fun b d q _ _ _=>k b d q,fun b d q _ _ _=>⟨d.slots,k b d q⟩,fun _ _ _ n _=>n,fun b d q _=>⟨d,k b d q⟩,fun _ _ q=>q,fun _ _ _ q=>q,fun _ g q=>⟨#[],by rw[q];simp⟩⟩
theorem Un.refl:Un fs ex H H h h:=Un.kept fun _ _ q=>q
theorem Un.laid(k:∀b u,h.get? b=some u->h'.get? b=some u)(g:h.objs.size<=a)(hn:H a=none):Un fs ex H (upd H a o) h h' where
 keep:=fun b u q _ _ _=>k b u q
 slot:=fun b u q _ _ _=>⟨u.slots,k b u q⟩
 free:=fun b u q n _=>by rw[av (Ls (Lf (vy q) g))];exact n
 there:=fun b u q _=>⟨u,k b u q⟩
 tups:=fun b d q=>by rw[av (aq q hn)];exact q
 frzs:=fun b u d q=>by rw[av (aq q hn)];exact q
 tbls:=fun b j q=>⟨#[],by rw[av (aq q hn),q];simp⟩
theorem Un.write(g:GV (H x))(w:e=x\/H e=some (.own x))(k:∀b u,b≠e->h.get? b=some u->h'.get? b=some u)(l:∃u,h'.get? e=some u):Un fs ex H (upd H x o) h h':=by
 have m:∀b,H b=none->b≠x:=fun b n z=>by subst z;rw[n]at g;exact g
 have p:∀b,H b=none->b≠e:=fun b n z=>by
  subst z;rcases w with r|r
  ·exact m b n r
  ·rw[n]at r;cases r
 have j:∀b u,H b=some u->¬GV (some u)->b≠x:=fun b u q v z=>by subst z;rw[q]at g;exact v g
 refine⟨fun b u q n _ _=>k b u (p b n) q,fun b u q n _ _=>⟨u.slots,k b u (p b n) q⟩,fun b u q n _=>by rw[av (m b n)];exact n,fun b u q _=>?_,
  fun b t q=>by rw[av (j b _ q fun z=>z)];exact q,fun b u t q=>by rw[av (j b _ q fun z=>z)];exact q,fun b y q=>⟨#[],by rw[av (j b _ q fun z=>z),q];simp⟩⟩
 by_cases d:b=e
 ·subst d;exact l
 ·exact⟨u,k b u d q⟩
end
noncomputable def Iw(h:Heap)(H:Hp):List Addr:=(LU h.objs.size).filter fun a=>(H a).isSome
noncomputable def nW(h:Heap)(H:Hp):Heap:=PJ h (Iw h H)
theorem sW(h:Heap)(H:Hp):(nW h H).objs.size=h.objs.size:=RU _ _
theorem vC{h:Heap}{H:Hp}{b:Addr}{o:Obj}(e:h.get? b=some o)(n:H b=none):(nW h H).get? b=some o :=
 R9 _ e fun d=>by
  have q:(H b).isSome=true:=(PK.mp d).2;rw[n]at q;simp at q
theorem yJ{h:Heap}{H:Hp}{b:Addr}{o:Obj}(e:(nW h H).get? b=some o):h.get? b=some o/\H b=none:=by
 have d:h.get? b=some o:=Sq (Iw h H) e;refine⟨d,?_⟩
 cases q:H b with
 |none=>rfl
 |some x =>
  have g:b∈Iw h H:=PK.mpr ⟨Oj.mpr (vy d),by simp[q]⟩;have z:(nW h H).get? b=none:=RV (Iw h H) g;rw[z]at e;cases e
structure Mod(K:bA) (mg:Str->Option j3) (base:Heap):Prop where
 kin:K.In base
 glob:base.Ns ur mg
 blt:∃mb,base.Ns Rw mb/\∀x:Str,x≠"__name__"->mb x=OV x
 nolimit:base.NoLimit
structure Cx where
 prog:FG
 w:Lk
 K:bA
 mg:Str->Option j3
 base:Heap
 A:Lz
 N:List Str
 s₀:mu
 H₀:Hp
 env:Env
 outer:List Env
 stack:List Env
 ex:List Addr
 fn:Str->Bool
 calm:Bool
 pn:List (Addr×Obj)
 xe:j3->mu->Prop
noncomputable def frs(l:List Env):List Addr:=l.filterMap (·.frame)
noncomputable abbrev Cx.fs(X:Cx):List Addr:=frs X.outer
noncomputable def GW(d:M4)(x:Str):Prop:=d.names.lookup x=some .local\/d.names.lookup x=some .cell\/d.names.lookup x=some .free
noncomputable def Loc(d:M4)(x:Str):Prop:=d.names.lookup x=some .local\/d.names.lookup x=some .cell
noncomputable def Look(env:Env)(h:Heap)(m:Str->Option j3)(x:Str)(u:j3):Prop :=
 (env.kindOf x=some .local/\m x=some u)\/((env.kindOf x=some .cell\/env.kindOf x=some .free)/\∃c,env.cells.lookup x=some c/\h.IsCell c (some u))
structure Cx.Ok(X:Cx):Prop where
 mod:Mod X.K X.mg X.base
 kind:X.env.scope.kind=.function
 glob:X.env.globals=ur
 blt:X.env.builtins=Rw
 above:X.s₀.heap.objs.size<=X.env.locals
 inj:∀x y c,X.env.cells.lookup x=some c->X.env.cells.lookup y=some c->x=y
 has:∀x,(X.env.kindOf x=some .cell\/X.env.kindOf x=some .free)->∃c,X.env.cells.lookup x=some c
 cab:∀x c,X.fn x=true->X.env.cells.lookup x=some c->X.s₀.heap.objs.size<=c
 hd:X.calm=true->X.A.handled=none
 frames:X.A.frames=some X.stack
 stk:X.stack=X.outer\/(X.stack=X.env::X.outer/\X.env.frame=some X.env.locals)
 exf:∀b∈X.ex,b≠X.env.locals/\∀x c,X.env.cells.lookup x=some c->c≠b
 bs:∀b o,X.base.get? b=some o->X.s₀.heap.get? b=some o/\X.H₀ b=none
 bsz:X.base.objs.size<=X.s₀.heap.objs.size
 noex:∀b o,X.base.get? b=some o->b∉X.ex
 exfs:∀b∈X.ex,b∉X.fs
 pH:X.s₀.heap.FunFrames X.base X.outer
 frf:∀b∈X.fs,X.H₀ b=none
structure Inv(X:Cx) (pins:List (Addr×Obj)) (σ:List (Option V)) (H:Hp) (s:mu):Prop where
 ok:X.Ok
 os:s.os=X.s₀.os
 bare:QE s.gens
 base:Un X.fs X.ex X.H₀ H X.s₀.heap s.heap
 loc:∃m,s.heap.Ns X.env.locals m/\∀(i:Nat) (x:Str) (v:V),X.N[i]?=some x->σ[i]?=some (some v)->GW X.env.scope x->∃u,RelV v u/\Look X.env s.heap m x u
 cell:∀x c,X.env.cells.lookup x=some c->∃v,s.heap.IsCell c v
 free:H X.env.locals=none
 freeC:∀x c,X.env.cells.lookup x=some c->H c=none
 pin:∀p∈X.pn++pins,s.heap.get? p.1=some p.2/\H p.1=none/\p.1≠X.env.locals/\p.1∉X.fs/\∀v,p.2.data≠.cell v
 hok:m9 X.prog X.w H s.heap
 len:σ.length=X.N.length
section
variable {X:Cx}{pins:List (Addr×Obj)}{σ:List (Option V)}{H H':Hp}{s:mu}{h':Heap}
theorem Cx.Ok.IW(ok:X.Ok){b:Addr}{o:Obj}(e:X.base.get? b=some o):b∉X.fs:=fun d=>by
 have:=(ok.pH.mem d).1;rw[e]at this;cases this
theorem Inv.bs(I:Inv X pins σ H s):∀b o,X.base.get? b=some o->s.heap.get? b=some o/\H b=none:=fun b o e =>
 ⟨I.base.keep b o (I.ok.bs b o e).1 (I.ok.bs b o e).2 (I.ok.IW e) (I.ok.noex b o e),I.base.free b o (I.ok.bs b o e).1 (I.ok.bs b o e).2 (I.ok.noex b o e)⟩
theorem Inv.bk(I:Inv X pins σ H s):∀b o,X.base.get? b=some o->s.heap.get? b=some o:=fun b o e=>(I.bs b o e).1
theorem Inv.mod(I:Inv X pins σ H s):Mod X.K X.mg X.base:=I.ok.mod
theorem Inv.A5(I:Inv X pins σ H s):X.K.In s.heap:=I.ok.mod.kin.keeps I.bk
theorem Inv.fr(I:Inv X pins σ H s):∃m,Fr X.base X.env.locals s.heap m :=
 let⟨m,hn,_⟩:=I.loc
 ⟨m,hn,I.bk,I0 I.ok.bsz I.ok.above⟩
theorem Inv.lt(I:Inv X pins σ H s):X.env.locals<s.heap.objs.size:=let⟨_,hn,_⟩:=I.loc;hn.lt
theorem Inv.sz(I:Inv X pins σ H s):X.s₀.heap.objs.size<=s.heap.objs.size:=I0 I.ok.above (Mb I.lt)
theorem Inv.A7(I:Inv X pins σ H s){a:Addr}(h:s.heap.objs.size<=a):a∉X.fs:=fun e=>by
 obtain⟨_,o,d,_⟩:=I.ok.pH.mem e;exact absurd (Lf (vy d) (I0 I.sz h)) (LY _)
theorem Inv.Ex(I:Inv X pins σ H s):∀x c,X.env.cells.lookup x=some c->c≠X.env.locals:=fun x c e z=>by
 obtain⟨v,o,j,hd⟩:=I.cell x c e;obtain⟨m,⟨l,p,q,d,g,_⟩,_⟩:=I.loc;rw[z,d]at j;cases j;rw[g]at hd;cases hd
theorem Inv.pH(I:Inv X pins σ H s):s.heap.FunFrames X.base X.outer:=by
 have all:∀(l:List Env),(∀b∈frs l,b∈X.fs)->X.s₀.heap.FunFrames X.base l->s.heap.FunFrames X.base l:=by
  intro l
  induction l with
  |nil=>intro _ _;trivial
  |cons env r ih =>
   intro m t;obtain⟨u,⟨L,o,d,q,p,hd⟩,hr⟩:=t;have j:L∈X.fs:=m L (by unfold frs;rw[Mg,d];exact MD);obtain⟨v,e⟩:=I.base.slot L o p (I.ok.frf L j) j fun z=>I.ok.exfs L z j;exact⟨u,⟨L,_,d,q,e,hd⟩,ih (fun b g=>m b (by unfold frs;rw[Mg,d];exact Mc _ g)) hr⟩
 exact all X.outer (fun _ g=>g) I.ok.pH
theorem Inv.stack(I:Inv X pins σ H s):s.heap.FunFrames X.base X.stack:=by
 rcases I.ok.stk with e|⟨e,hf⟩
 ·rw[e];exact I.pH
 ·rw[e];obtain⟨m,d,_⟩:=I.loc;refine .cons (by rw[I.ok.kind];decide) hf d ?_ I.pH;exact Heap.get?_none_of_le (I0 I.ok.bsz I.ok.above)
theorem Inv.nF(I:Inv X pins σ H s):∀b∈frs X.stack,b∈X.env.locals::X.fs:=fun b d=>by
 rcases I.ok.stk with e|⟨e,hf⟩
 ·rw[e]at d;exact Mc _ d
 ·rw[e]at d;unfold frs at d;rw[Mg,hf]at d;exact d
theorem Inv.uh(I:Inv X pins σ H s):∀b∈frs X.stack,H b=none:=fun b hb=>by
 rcases ri.mp (I.nF b hb)with e|hb
 ·rw[e];exact I.free
 ·obtain⟨_,o,d,_⟩:=I.ok.pH.mem hb;exact I.base.free b o d (I.ok.frf b hb) fun z=>I.ok.exfs b z hb
theorem Inv.step{g':Array GenState}{t':Nat}{d':Drawn}{ch:List Addr}(I:Inv X pins σ H s)
  (hch:∀b∈ch,(b∈X.ex\/X.s₀.heap.objs.size<=b)/\b≠X.env.locals/\(∀x c,X.env.cells.lookup x=some c->c≠b)/\∀p∈X.pn++pins,p.1≠b)
  (keep:∀b o,b≠X.env.locals->b∉X.fs->b∉ch->s.heap.get? b=some o->H b=none->h'.get? b=some o)
  (slot:∀b o,b≠X.env.locals->b∈X.fs->b∉ch->s.heap.get? b=some o->H b=none->∃L,h'.get? b=some {o with slots:=L}) (free:∀b o,b∉ch->s.heap.get? b=some o->H b=none->H' b=none)
  (there:∀b o,b∉ch->s.heap.get? b=some o->∃D,h'.get? b=some D)
  (tups:∀b xs,H b=some (.tup xs)->H' b=some (.tup xs)) (frzs:∀b o u,H b=some (.frz o u)->H' b=some (.frz o u)) (tbls:∀b ps,H b=some (.tbl ps)->∃more,H' b=some (.tbl (ps++more)))
  (ns:∀m,s.heap.Ns X.env.locals m->h'.Ns X.env.locals m) (hok:m9 X.prog X.w H' h') (hg:QE g') :
  Inv X pins σ H' {s with heap:=h',gens:=g',drawn:=d',toks:=t'}:=by
 have E:∀b o,X.s₀.heap.get? b=some o->b≠X.env.locals:=fun b o e=>Ls (Lf (vy e) I.ok.above)
 have y:∀b o,X.s₀.heap.get? b=some o->b∉X.ex->b∉ch:=fun b o e g B=>by
  rcases(hch b B).1 with z|z
  ·exact g z
  ·exact absurd (Lf (vy e) z) (LY _)
 have t:∀x c,X.env.cells.lookup x=some c->∀v,s.heap.IsCell c v->h'.IsCell c v:=fun x c e v ⟨o,C,hd⟩=>by
  have j:c∉ch:=fun z=>(hch c z).2.2.1 x c e rfl
  by_cases O:c∈X.fs
  ·obtain⟨L,q⟩:=slot c o (I.Ex x c e) O j C (I.freeC x c e);exact⟨_,q,hd⟩
  ·exact⟨o,keep c o (I.Ex x c e) O j C (I.freeC x c e),hd⟩
 refine⟨I.ok,I.os,hg,⟨fun b o e n B g=>?_,fun b o e n B g=>?_,fun b o e n g=>?_,fun b o e g=>?_,fun b xs e=>tups b xs (I.base.tups b xs e),fun b o xs e=>frzs b o xs (I.base.frzs b o xs e),fun b ps e=>?_⟩,?_,fun x c e=>?_,?_,fun x c e=>?_,fun p N=>?_,hok,I.len⟩
 ·exact keep b o (E b o e) B (y b o e g) (I.base.keep b o e n B g) (I.base.free b o e n g)
 ·obtain⟨L,A⟩:=I.base.slot b o e n B g;obtain⟨J,G⟩:=slot b _ (E b o e) B (y b o e g) A (I.base.free b o e n g);exact⟨J,G⟩
 ·obtain⟨D,A⟩:=I.base.there b o e g;exact free b D (y b o e g) A (I.base.free b o e n g)
 ·obtain⟨D,A⟩:=I.base.there b o e g;exact there b D (y b o e g) A
 ·obtain⟨Q,A⟩:=I.base.tbls b ps e;obtain⟨P,G⟩:=tbls b _ A;exact⟨Q++P,by rw[G,So]⟩
 ·obtain⟨m,R,S⟩:=I.loc;refine⟨m,ns m R,fun i x v A G T=>?_⟩;obtain⟨u,r,l⟩:=S i x v A G T;refine⟨u,r,?_⟩;rcases l with l|⟨k,c,e,z⟩
  ·exact .inl l
  ·exact .inr ⟨k,c,e,t x c e _ z⟩
 ·obtain⟨v,z⟩:=I.cell x c e;exact⟨v,t x c e v z⟩
 ·obtain⟨m,⟨o,_,_,C,_⟩,_⟩:=I.loc;exact free _ o (fun z=>(hch _ z).2.1 rfl) C I.free
 ·obtain⟨v,o,C,hd⟩:=I.cell x c e;exact free c o (fun z=>(hch c z).2.2.1 x c e rfl) C (I.freeC x c e)
 ·obtain⟨e,n,ne,M,d⟩:=I.pin p N;have j:p.1∉ch:=fun z=>(hch p.1 z).2.2.2 p N rfl;exact⟨keep p.1 p.2 ne M j e n,free p.1 p.2 j e n,ne,M,d⟩
theorem Inv.un{t':Nat}(I:Inv X pins σ H s)(u:Un X.fs [] H H' s.heap h')(g:m9 X.prog X.w H' h'):Inv X pins σ H' {s with heap:=h',toks:=t'}:=by
 obtain⟨m,⟨o,D,E,q,r⟩,_⟩:=id I.loc;obtain⟨A,y⟩:=u.any q I.free (by simp)
 exact I.step (g':=s.gens) (d':=s.drawn) (ch:=[]) (fun _ z=>nomatch z) (fun b o _ j _ e n=>u.keep b o e n j (by simp)) (fun b o _ j _ e n=>u.slot b o e n j (by simp)) (fun b o _ e n=>u.free b o e n (by simp)) (fun b o _ e=>u.there b o e (by simp)) u.tups u.frzs u.tbls (fun C v=>by
  obtain⟨B,l,p,d,t⟩:=v;rw[q]at d;cases d;exact⟨_,l,p,y,t⟩) g I.bare
theorem Inv.call{g':Array GenState}{t':Nat}{d':Drawn}{ch:List Addr}(I:Inv X pins σ H s)(u:Un (frs X.stack) ch H H' s.heap h')(j:m9 X.prog X.w H' h')(B:QE g')
  (hch:∀b∈ch,(b∈X.ex\/X.s₀.heap.objs.size<=b)/\b≠X.env.locals/\(∀x c,X.env.cells.lookup x=some c->c≠b)/\∀p∈X.pn++pins,p.1≠b) :
  Inv X pins σ H' {s with heap:=h',gens:=g',drawn:=d',toks:=t'}:=by
 obtain⟨m,⟨o,J,L,v,r⟩,_⟩:=id I.loc;obtain⟨D,l⟩:=u.any v I.free fun z=>(hch _ z).2.1 rfl
 exact I.step (ch:=ch) hch (fun b o l C d e n=>u.keep b o e n (fun z=>(ri.mp (I.nF b z)).elim l C) d) (fun b o _ _ d e n=>u.any e n d) (fun b o d e n=>u.free b o e n d) (fun b o d e=>u.there b o e d) u.tups u.frzs u.tbls (fun G A=>by
  obtain⟨E,q,t,g,y⟩:=A;rw[v]at g;cases g;exact⟨_,q,t,l,y⟩) j B
theorem Inv.turned{t':Nat}{it:Addr}(I:Inv X pins σ H s)(k:∀b o,b≠it->s.heap.get? b=some o->h'.get? b=some o)(hn:H it=none)(j:it≠X.env.locals)
  (h1:it∈X.ex\/X.s₀.heap.objs.size<=it) (h2:∀x c,X.env.cells.lookup x=some c->c≠it) (h3:∀p∈X.pn++pins,p.1≠it):Inv X pins σ H {s with heap:=h',toks:=t'}:=by
 have g:∀b u,H b=some u->b≠it:=fun b u e z=>by rw[z,hn]at e;cases e
 refine I.step (g':=s.gens) (d':=s.drawn) (ch:=[it]) (fun b w=>?_) (fun b o _ _ d e _=>k b o (fun z=>d (by simp[z])) e) (fun b o _ _ d e _=>⟨o.slots,k b o (fun z=>d (by simp[z])) e⟩) (fun _ _ _ _ n=>n)
  (fun b o d e=>⟨o,k b o (fun z=>d (by simp[z])) e⟩) (fun _ _ e=>e) (fun _ _ _ e=>e) (fun b B e=>⟨#[],by rw[e];simp⟩) (fun m t=>?_) (fun b u e=>?_) I.bare
 ·have e:b=it:=by simpa using w
  subst e;exact⟨h1,j,h2,h3⟩
 ·obtain⟨o,y,A,l,r⟩:=t;exact⟨o,y,A,k _ o (MQ j) l,r⟩
 ·refine(I.hok b u e).stay (fun c v d q=>k c v ?_ q) (fun _ q=>q) fun _ _ q=>q;rcases d with z|z
  ·rw[z];exact g b u e
  ·exact g c _ z
theorem Inv.tok(I:Inv X pins σ H s)(t:Nat):Inv X pins σ H {s with toks:=t}:=I.un (h':=s.heap) (t':=t) Un.refl I.hok
theorem Inv.kept{t':Nat}(I:Inv X pins σ H s)(k:∀b u,s.heap.get? b=some u->h'.get? b=some u):Inv X pins σ H {s with heap:=h',toks:=t'}:=I.un (Un.kept k) (I.hok.kept k)
theorem Inv.laid{a:Addr}{o:HO}{t':Nat}(I:Inv X pins σ H s)(k:∀b u,s.heap.get? b=some u->h'.get? b=some u)(d:s.heap.objs.size<=a)(new:ef X.prog X.w (upd H a o) h' a o) :
  Inv X pins σ (upd H a o) {s with heap:=h',toks:=t'}:=I.un (Un.laid k d (I.hok.fresh d)) (I.hok.laid k d new)
theorem Inv.write{x e:Addr}{o:HO}{t':Nat}(I:Inv X pins σ H s)(g:GV (H x))(j:e=x\/H e=some (.own x))(k:∀b u,b≠e->s.heap.get? b=some u->h'.get? b=some u)(d:∃u,h'.get? e=some u)
  (new:ef X.prog X.w (upd H x o) h' x o):Inv X pins σ (upd H x o) {s with heap:=h',toks:=t'}:=I.un (Un.write g j k d) (I.hok.write g j k d new)
theorem Inv.fL{d:List (Addr×Obj)}(I:Inv X pins σ H s)(h:∀p∈d,s.heap.get? p.1=some p.2/\H p.1=none/\p.1≠X.env.locals/\p.1∉X.fs/\∀v,p.2.data≠.cell v):Inv X d σ H s :=
 ⟨I.ok,I.os,I.bare,I.base,I.loc,I.cell,I.free,I.freeC,fun p e=>(Li.mp e).elim (fun z=>I.pin p (LD _ z)) (h p),I.hok,I.len⟩
theorem vD{N:List Str}(d:N.Nodup){i j:Nat}{x:Str}(a:N[i]?=some x)(b:N[j]?=some x):i=j:=by
 obtain⟨m,g⟩:=ko.mp a;obtain⟨l,e⟩:=ko.mp b;exact(SV d).mp (g.trans e.symm)
theorem zV{M:Model}{A:Lz}{E:j3->mu->Prop}{i:Nat}{x:Str}{v:V}{u:j3}{Q:Unit->mu->Prop}(I:Inv X pins σ H s)(hN:X.N.Nodup)(hi:X.N[i]?=some x)(B:Loc X.env.scope x)(r:RelV v u)
  (h:∀s',Inv X pins (σ.set i (some v)) H s'->(∃a,NQ a s.heap s'.heap/\(a=X.env.locals\/X.env.cells.lookup x=some a))->Q () s') (hf:X.fn x=true\/X.env.scope.names.lookup x=some .local:=by first|exact .inl rfl|exact .inr rfl|assumption):La M A (storeName X.env x u) Q E s:=by
 obtain⟨m,hn,hl⟩:=id I.loc;have S:(X.env.scope.kind == .class||(X.env.scope.kind == .module&&X.env.locals != X.env.globals))=false:=by rw[I.ok.kind];rfl
 have G:i<σ.length:=by rw[I.len];exact(ko.mp hi).1
 have Ex:=I.Ex
 have l:∀{a:Addr}{h':Heap},(∃o,s.heap.get? a=some o/\H a=none)->NQ a s.heap h'->m9 X.prog X.w H h':=fun{a h'} ha g b ob e=>by
  obtain⟨_,_,C⟩:=ha;refine(I.hok b ob e).stay (fun c W hc q=>(g.2 c ?_).trans q) (fun _ q=>q) fun _ _ q=>q;rintro rfl;rcases hc with rfl|hc
  ·rw[C]at e;cases e
  ·rw[C]at hc;cases hc
 rcases B with hk|hk
 ·refine wpAny_storeName_local hk hn (fun h' ab g=>?_) S;obtain⟨oL,_,_,aa,_⟩:=id hn;refine h _ ⟨I.ok,I.os,I.bare,⟨fun b o e n O B=>?_,fun b o e n O B=>?_,I.base.free,fun b o e B=>?_,I.base.tups,I.base.frzs,I.base.tbls⟩,⟨_,ab,fun j y Z t D e3=>?_⟩,fun y c e=>?_,I.free,I.freeC,fun p hp=>?_,l ⟨oL,aa,I.free⟩ g,by simpa using I.len⟩ ⟨_,g,.inl rfl⟩
  ·exact(g.2 b (Ls (Lf (vy e) I.ok.above))).trans (I.base.keep b o e n O B)
  ·obtain⟨sl,t⟩:=I.base.slot b o e n O B;exact⟨sl,(g.2 b (Ls (Lf (vy e) I.ok.above))).trans t⟩
  ·obtain⟨o',t⟩:=I.base.there b o e B;exact⟨o',(g.2 b (Ls (Lf (vy e) I.ok.above))).trans t⟩
  ·by_cases J:j=i
   ·subst J;rw[hi]at t;cases t;rw[Rx G]at D
    cases D
    exact⟨u,r,.inl ⟨hk,by simp⟩⟩
   ·rw[Pu (MQ J)]at D;obtain⟨u',r',q⟩:=hl j y Z t D e3;refine⟨u',r',?_⟩;rcases q with⟨k,e⟩|⟨k,c,e,z⟩
    ·refine .inl ⟨k,?_⟩;have:y≠x:=fun e=>J (vD hN t (e▸hi));simp[this,e]
    ·exact .inr ⟨k,c,e,z.sameBut g (Ex y c e)⟩
  ·obtain⟨W,z⟩:=I.cell y c e;exact⟨W,z.sameBut g (Ex y c e)⟩
  ·obtain⟨e,n,ne,nf,d⟩:=I.pin p hp;exact⟨(g.2 p.1 ne).trans e,n,ne,nf,d⟩
 ·have L:X.fn x=true:=by
   rcases hf with z|z
   ·exact z
   ·rw[z]at hk;cases hk
  obtain⟨c,hc⟩:=I.ok.has x (.inl hk);obtain⟨W,z⟩:=I.cell x c hc;refine wpAny_storeName_cell I.ok.kind hk hc z (fun h' U g=>?_);obtain⟨oc,R,P⟩:=id z;refine h {s with heap:=h'} ⟨I.ok,I.os,I.bare,⟨fun b o e n O B=>?_,fun b o e n O B=>?_,I.base.free,fun b o e B=>?_,I.base.tups,I.base.frzs,I.base.tbls⟩,⟨m,hn.sameBut g (MQ (Ex x c hc)),fun j y Z t D e3=>?_⟩,fun y Y e=>?_,I.free,I.freeC,fun p hp=>?_,l ⟨oc,R,I.freeC x c hc⟩ g,by simpa using I.len⟩ ⟨c,g,.inr hc⟩
  ·exact(g.2 b (Ls (Lf (vy e) (I.ok.cab x c L hc)))).trans (I.base.keep b o e n O B)
  ·obtain⟨sl,t⟩:=I.base.slot b o e n O B;exact⟨sl,(g.2 b (Ls (Lf (vy e) (I.ok.cab x c L hc)))).trans t⟩
  ·obtain⟨o',t⟩:=I.base.there b o e B;exact⟨o',(g.2 b (Ls (Lf (vy e) (I.ok.cab x c L hc)))).trans t⟩
  ·by_cases J:j=i
   ·subst J;rw[hi]at t;cases t;rw[Rx G]at D
    cases D
    exact⟨u,r,.inr ⟨.inl hk,c,hc,U⟩⟩
   ·rw[Pu (MQ J)]at D;obtain⟨u',r',q⟩:=hl j y Z t D e3;refine⟨u',r',?_⟩;rcases q with q|⟨k,Y,e,z'⟩
    ·exact .inl q
    ·refine .inr ⟨k,Y,e,z'.sameBut g ?_⟩;rintro rfl;exact J (vD hN t (I.ok.inj _ _ _ e hc▸hi))
  ·by_cases T:Y=c
   ·subst T;exact⟨_,U⟩
   ·obtain⟨w2,z2⟩:=I.cell y Y e;exact⟨w2,z2.sameBut g T⟩
  ·obtain⟨e,n,ne,nf,d⟩:=I.pin p hp;refine⟨(g.2 p.1 ?_).trans e,n,ne,nf,d⟩;intro q;rw[q,R]at e;have q':oc=p.2:=LQ e;exact d W (by rw[←q'];exact P)
theorem kc{M:Model}{A:Lz}{E:j3->mu->Prop}{i:Nat}{x:Str}{v:V}{u:j3}{Q:Unit->mu->Prop}(I:Inv X pins σ H s)(e:X.N.Nodup)(hi:X.N[i]?=some x)(d:Loc X.env.scope x)(r:RelV v u)
  (h:∀s',Inv X pins (σ.set i (some v)) H s'->Q () s') (hf:X.fn x=true\/X.env.scope.names.lookup x=some .local:=by first|exact .inl rfl|exact .inr rfl|assumption):La M A (storeName X.env x u) Q E s :=
 zV I e hi d r (fun s' g _=>h s' g) hf
theorem Inv.GX{s':mu}{ch:List Addr}(I:Inv X pins σ H s)(j:s'.os=s.os)(u:Un (frs X.stack) ch H H' s.heap s'.heap)(d:m9 X.prog X.w H' s'.heap)(l:QE s'.gens)
  (hch:∀b∈ch,(b∈X.ex\/X.s₀.heap.objs.size<=b)/\b≠X.env.locals/\(∀x c,X.env.cells.lookup x=some c->c≠b)/\∀p∈X.pn++pins,p.1≠b):Inv X pins σ H' s':=by
 obtain⟨h',g',d',t',g⟩:=s';have e:g=s.os:=j;subst e;exact I.call (g':=g') (t':=t') (d':=d') u d l hch
end
noncomputable abbrev XK:=j3->Option Addr->Hp->Prop
noncomputable abbrev St:=List (Option V)
noncomputable abbrev VK:=V->Hp->Prop
noncomputable abbrev TE:=St->Hp->VK->Prop
noncomputable abbrev TT:=St->Hp->(Bool->Hp->Prop)->Prop
noncomputable abbrev TA:=St->Hp->(List V->Hp->Prop)->Prop
structure Ends where
 nx:St->Hp->Prop
 rt:VK
 bk:St->Hp->Prop:=fun _ _=>False
 ct:St->Hp->Prop:=fun _ _=>False
noncomputable abbrev TS:=Ends->St->Hp->Prop
noncomputable def EP(X:Cx)(d:List (Addr×Obj))(g:St)(Q:VK)(u:j3)(s':mu):Prop:=∃v e,Inv X d g e s'/\RelV v u/\Q v e
noncomputable def TP(X:Cx)(d:List (Addr×Obj))(g:St)(Q:Bool->Hp->Prop)(b:Bool)(s':mu):Prop:=∃e,Inv X d g e s'/\Q b e
noncomputable def AP(X:Cx)(d:List (Addr×Obj))(j:St)(Q:List V->Hp->Prop)(us:List j3)(s':mu):Prop:=∃e g,Inv X d j g s'/\Vals e us/\Q e g
noncomputable def SP(X:Cx)(e:List (Addr×Obj))(D:Ends)(f:Flow)(s':mu):Prop :=
 match f with
 |.next=>∃d g,Inv X e d g s'/\D.nx d g
 |.brk=>∃d g,Inv X e d g s'/\D.bk d g
 |.cont=>∃d g,Inv X e d g s'/\D.ct d g
 |.ret u=>∃v d g,Inv X e d g s'/\RelV v u/\D.rt v g
noncomputable def PE(X:Cx)(e:Expr)(t:TE):Prop :=
 ∀(d:List (Addr×Obj)) (s:mu) (g:St) (H:Hp) (Q:VK),Inv X d g H s->t g H Q->La (Lr X.prog X.w) X.A (eval e X.env) (EP X d g Q) X.xe s
noncomputable def PT(X:Cx)(e:Expr)(t:TT):Prop :=
 ∀(d:List (Addr×Obj)) (s:mu) (g:St) (H:Hp) (Q:Bool->Hp->Prop),Inv X d g H s->t g H Q->La (Lr X.prog X.w) X.A (isTrue e X.env (eval e X.env)) (TP X d g Q) X.xe s
noncomputable def PW(X:Cx)(e:Expr)(t:TT):Prop :=
 ∀(g:Sem j3) (d:List (Addr×Obj)) (s:mu) (j:St) (H:Hp) (Q:Bool->Hp->Prop),Inv X d j H s->t j H Q->La (Lr X.prog X.w) X.A (isTrue e X.env g) (TP X d j Q) X.xe s
theorem PW.pt{X:Cx}{e:Expr}{t:TT}(h:PW X e t):PT X e t:=h _
noncomputable def PA(X:Cx)(j:List Expr)(t:TA):Prop :=
 ∀(g:Pos) (d:List (Addr×Obj)) (s:mu) (e:St) (H:Hp) (Q:List V->Hp->Prop),Inv X d e H s->t e H Q->La (Lr X.prog X.w) X.A (spliced (OL g (LA j X.env))) (AP X d e Q) X.xe s
noncomputable def PS(X:Cx)(st:Stmt)(t:TS):Prop :=
 ∀(d:List (Addr×Obj)) (s:mu) (e:St) (H:Hp) (D:Ends),Inv X d e H s->t D e H->La (Lr X.prog X.w) X.A (exec st X.env) (SP X d D) X.xe s
noncomputable def vE(X:Cx)(st:List Stmt)(t:TS):Prop :=
 ∀(d:List (Addr×Obj)) (s:mu) (e:St) (H:Hp) (D:Ends),Inv X d e H s->t D e H->La (Lr X.prog X.w) X.A (execs st X.env) (SP X d D) X.xe s
theorem cO{d:Type}{t:Sem d}{Q e:d->mu->Prop}{M:Model}{A:Lz}{E:j3->mu->Prop}{s:mu}(h:La M A t Q E s)(g:∀a s,Q a s->e a s):La M A t e E s:=ME h g fun _ _ x=>x
section
variable {X:Cx}
noncomputable def nX(i:Nat):TE:=fun d H Q=>∃v,d[i]?=some (some v)/\Q v H
noncomputable abbrev tC(v:V):TE:=fun _ H Q=>Q v H
theorem A8{i:Nat}{x:Str}{j:Pos}(y:X.N[i]?=some x)(q:GW X.env.scope x)(hd:(x == ("__debug__":Str))=false:=by decide)(o:(x == ("__classdict__":Str))=false:=by decide):PE X (.Name x j) (nX i):=by
 intro g s p H Q I h;obtain⟨v,e,h⟩:=h;obtain⟨m,t,w⟩:=I.loc;obtain⟨u,r,l⟩:=w i x v y e q;have d:EP X g p Q u s:=⟨v,H,I,r,h⟩;rcases l with⟨hk,hm⟩|⟨hk,c,hc,hcell⟩
 ·exact wpAny_Name (wpAny_loadName_local I.ok.kind hk t hm d) hd
 ·rcases hk with hk|hk
  ·exact wpAny_Name (wpAny_loadName_cell I.ok.kind hk hc hcell d) hd
  ·exact wpAny_Name (wpAny_loadName_free I.ok.kind hk hc hcell d o) hd
theorem ao{i j pos}:PE X (.Constant (.int i) j pos) (tC (.int i)):=fun _ _ _ H _ I h=>wpAny_Constant_int ⟨.int i,H,I.tok _,⟨_,rfl⟩,h⟩
theorem yK{b j pos}:PE X (.Constant (.bool b) j pos) (tC (.bl b)):=fun _ _ _ H _ I h=>Constant_bool ⟨.bl b,H,I,rfl,h⟩
theorem az{x j pos}:PE X (.Constant (.str x) j pos) (tC (.str x)):=fun _ _ _ H _ I h=>Calls.Constant_str ⟨.str x,H,I.tok _,⟨_,rfl⟩,h⟩
noncomputable def Gl(X:Cx)(x:Str):Prop:=X.env.kindOf x=some .globalImplicit
theorem um{E:j3->mu->Prop}{d:List (Addr×Obj)}{s:mu}{g:St}{H:Hp}{x:Str}{u:j3}{e:Pos}{Q:j3->mu->Prop}(I:Inv X d g H s)(j:Gl X x)(hm:X.mg x=some u)(h:Q u s)
  (hd:(x == ("__debug__":Str))=false:=by decide):La (Lr X.prog X.w) X.A (eval (.Name x e) X.env) Q E s :=
 Qe I.ok.kind j (Calls.loadGlobal_global (by rw[I.ok.glob];exact I.mod.glob.keeps I.bk) hm h) hd
theorem jY{E:j3->mu->Prop}{d:List (Addr×Obj)}{s:mu}{g:St}{H:Hp}{x:Str}{u:j3}{e:Pos}{Q:j3->mu->Prop}(I:Inv X d g H s)(l:Gl X x)(hm:X.mg x=none)(j:OV x=some u)(h:Q u s)
  (hn:x≠"__name__":=by decide) (hd:(x == ("__debug__":Str))=false:=by decide):La (Lr X.prog X.w) X.A (eval (.Name x e) X.env) Q E s:=by
 obtain⟨p,o,m⟩:=I.mod.blt;exact Qe I.ok.kind l (Calls.loadGlobal_builtin (by rw[I.ok.glob];exact I.mod.glob.keeps I.bk) hm (by rw[I.ok.blt];exact o.keeps I.bk) ((m x hn).trans j) h) hd
theorem iQ{x:Str}{v:V}{u:j3}{d:Pos}(e:Gl X x)(hm:X.mg x=some u)(r:RelV v u)(hd:(x == ("__debug__":Str))=false:=by decide):PE X (.Name x d) (tC v) :=
 fun _ _ _ H _ I h=>um I e hm ⟨v,H,I,r,h⟩ hd
theorem Dj{x:Str}{v:V}{u:j3}{d:Pos}(g:Gl X x)(hm:X.mg x=none)(e:OV x=some u)(r:RelV v u)(hn:x≠"__name__":=by decide)(hd:(x == ("__debug__":Str))=false:=by decide):PE X (.Name x d) (tC v) :=
 fun _ _ _ H _ I h=>jY I g hm e ⟨v,H,I,r,h⟩ hn hd
variable {a b:Expr}{ta tb:TE}{pos:Pos}
noncomputable def tB(t:TE):TT:=fun d H Q=>t d H fun x e=>∃c,x=.bl c/\Q c e
theorem E2{e:Expr}{t:TE}(h:PE X e t)(p:∀g,isTrue e X.env g=(do let v ←g;standAt e.pos;QF [v] (truthy v)):=by intro _;rfl):PT X e (tB t):=by
 intro j s l H Q I o;refine isTrue_plain (cO (h j s l H _ I o) fun v w ⟨x,u,r,m,q1⟩=>?_) (p _);obtain⟨d,rfl,q⟩:=q1
 cases m
 exact QG ⟨u,r,q⟩
variable {tA tB':TT}{rest:List Expr}
noncomputable abbrev JU(u:TT)(e:St)(Q:Bool->Hp->Prop):Bool->Hp->Prop:=fun c d=>if c=true then u e d Q else Q false d
noncomputable abbrev JV(u:TT)(e:St)(Q:Bool->Hp->Prop):Bool->Hp->Prop:=fun c d=>if c=true then Q true d else u e d Q
noncomputable abbrev IX(t u:TT):TT:=fun d H Q=>t d H (JU u d Q)
noncomputable abbrev JW(t u:TT):TT:=fun d H Q=>t d H (JV u d Q)
noncomputable def IY(t:TT):TT:=fun d H Q=>t d H fun c e=>Q (!c) e
theorem gm(j:PT X a tA):PW X (.BoolOp .And [a] pos) tA:=by
 intro l d s g H Q I h;refine isTrue_and (cO (j d s g H Q I h) fun c m e=>?_)
 cases c with
 |true=>exact isTrue_and_nil e
 |false=>exact e
theorem qM(j:PT X a tA):PW X (.BoolOp .Or [a] pos) tA:=by
 intro l d s g H Q I h;refine isTrue_or (cO (j d s g H Q I h) fun c m e=>?_)
 cases c with
 |false=>exact isTrue_or_nil e
 |true=>exact e
theorem gY(p:PT X a tA)(o:PW X (.BoolOp .And (b::rest) pos) tB'):PW X (.BoolOp .And (a::b::rest) pos) (IX tA tB'):=by
 intro l d s e H Q I h;refine isTrue_and (cO (p d s e H _ I h) fun c m ⟨j,g,q1⟩=>?_)
 cases c with
 |true=>exact o l d m e j Q g q1
 |false=>exact⟨j,g,q1⟩
theorem sX(p:PT X a tA)(o:PW X (.BoolOp .Or (b::rest) pos) tB'):PW X (.BoolOp .Or (a::b::rest) pos) (JW tA tB'):=by
 intro l d s e H Q I h;refine isTrue_or (cO (p d s e H _ I h) fun c m ⟨j,g,q1⟩=>?_)
 cases c with
 |true=>exact⟨j,g,q1⟩
 |false=>exact o l d m e j Q g q1
theorem E3(g:PT X a tA):PT X (.UnaryOp .Not a pos) (IY tA):=by
 intro d s e H Q I h;exact isTrue_not (g d s e H (fun c j=>Q (!c) j) I h)
noncomputable def JX(t:TT)(ta tb:TE):TE:=fun d H Q=>t d H fun c e=>if c=true then ta d e Q else tb d e Q
theorem qN{c:Expr}(o:PT X c tA)(q:PE X a ta)(p:PE X b tb):PE X (.IfExp c a b pos) (JX tA ta tb):=by
 intro e s g H Q I h;refine wpAny_IfExp (cO (o e s g H _ I h) fun d j ⟨m,l,q1⟩=>?_)
 cases d with
 |true=>exact q e j g m Q l q1
 |false=>exact p e j g m Q l q1
end
noncomputable def bz(K:bA)(H:Hp)(a:Addr)(xs:List V):Prop :=
 Rd H a (.lst xs) \/
  ∃(o:Obj) (d:Array j3) (n:Nat),K.lookup a=some o/\o.cls=.type "list"/\o.dict=none/\o.data=.seq d n/\d.size<=nk/\Vals xs d.toList
noncomputable def bN(K:bA)(H:Hp)(a:Addr)(xs:List V):Prop :=
 Rd H a (.tup xs) \/
  ∃(o:Obj) (d:Array j3) (n:Nat),K.lookup a=some o/\o.cls=.type "tuple"/\o.data=.seq d n/\d.size<=nk/\Vals xs d.toList/\o.dict=none
noncomputable def IZ:j3->Option V
 |.none=>some .iP
 |.bool b=>some (.bl b)
 |.int i _=>some (.int i)
 |.str x _=>some (.str x)
 |.bytes b _=>some (.byt b)
 |.float b _=>some (.flt b)
 |.ref a=>some (.ref a)
 |.type n=>some (.ty n)
 |_=>none
theorem RelV.abs{x:V}{u:j3}(r:RelV x u):IZ u=some x:=by
 cases x with
 |iP=>cases r;rfl
 |bl _=>cases r;rfl
 |int _=>obtain⟨t,rfl⟩:=r;rfl
 |str _=>obtain⟨t,rfl⟩:=r;rfl
 |byt _=>obtain⟨t,rfl⟩:=r;rfl
 |flt _=>obtain⟨t,rfl⟩:=r;rfl
 |ref _=>cases r;rfl
 |ty _=>cases r;rfl
theorem RelV.inj{x y:V}{u:j3}(r:RelV x u)(q:RelV y u):x=y:=LQ (r.abs.symm.trans q.abs)
theorem Vals.inj:∀{xs ys:List V}{us:List j3},Vals xs us->Vals ys us->xs=ys
 |_,_,_,.nil,.nil=>rfl
 |_,_,_,.cons r t,.cons r' t'=>by rw[r.inj r',Vals.inj t t']
section
variable {X:Cx}{pins:List (Addr×Obj)}{σ:St}{H:Hp}{s:mu}{a:Addr}{xs ys:List V}
theorem bz.of{K:bA}(h:H a=some (.lst xs)):bz K H a xs:=.inl (.inl h)
theorem bN.of{K:bA}(h:H a=some (.tup xs)):bN K H a xs:=.inl (.inl h)
theorem Inv.list(I:Inv X pins σ H s)(h:bz X.K H a xs):∃d:List j3,Vals xs d/\PlainL s.heap a d.toArray/\xs.length<=nk:=by
 rcases h with h|⟨o,d,n,hk,hc,hd,hs,hz,r⟩
 ·obtain⟨z,d,n,r,e⟩:=h.ok I.hok;exact⟨d,r,⟨_,n,e,rfl,rfl,rfl⟩,z⟩
 ·refine⟨d.toList,r,⟨o,n,I.A5 a o hk,hc,hd,by simpa using hs⟩,?_⟩;have e:=r.length;simp only[NH]at e;omega
theorem Inv.tuple(I:Inv X pins σ H s)(h:bN X.K H a xs):∃d:List j3,Vals xs d/\IsTup s.heap a d.toArray/\xs.length<=nk:=by
 rcases h with h|⟨o,d,n,hk,hc,hs,hz,r,_⟩
 ·obtain⟨z,d,r,p,_⟩:=h.ok I.hok;exact⟨d,r,p,z⟩
 ·refine⟨d.toList,r,⟨o,I.A5 a o hk,hc,n,by simpa using hs⟩,?_⟩;have e:=r.length;simp only[NH]at e;omega
theorem Inv.vF(I:Inv X pins σ H s)(h:bz X.K H a xs)(h':bz X.K H a ys):xs=ys:=by
 obtain⟨j,r,⟨o,n,e,_,_,d⟩,_⟩:=I.list h;obtain⟨g,p,⟨q,t,l,_,_,m⟩,_⟩:=I.list h';rw[e]at l;cases l;rw[d]at m;injection m with d1 _;have:j=g:=by simpa using congrArg Array.toList d1
 subst this;exact r.inj p
theorem Inv.pI(I:Inv X pins σ H s)(h:bN X.K H a xs)(h':bN X.K H a ys):xs=ys:=by
 obtain⟨j,r,⟨o,e,_,n,d⟩,_⟩:=I.tuple h;obtain⟨g,p,⟨q,l,_,t,m⟩,_⟩:=I.tuple h';rw[e]at l;cases l;rw[d]at m;injection m with d1 _;have:j=g:=by simpa using congrArg Array.toList d1
 subst this;exact r.inj p
end
noncomputable abbrev Cx.sD(X:Cx)(E:j3->mu->Prop):Cx:={X with xe:=E}
noncomputable abbrev Cx.A9(X:Cx):Cx:=X.sD fun _ _=>False
theorem Cx.Ok.sD{X:Cx}(ok:X.Ok)(E:j3->mu->Prop):(X.sD E).Ok :=
 ⟨ok.mod,ok.kind,ok.glob,ok.blt,ok.above,ok.inj,ok.has,ok.cab,ok.hd,ok.frames,ok.stk,ok.exf,ok.bs,ok.bsz,ok.noex,ok.exfs,ok.pH,ok.frf⟩
theorem Cx.Ok.lW{X:Cx}{E:j3->mu->Prop}(ok:(X.sD E).Ok):X.Ok :=
 ⟨ok.mod,ok.kind,ok.glob,ok.blt,ok.above,ok.inj,ok.has,ok.cab,ok.hd,ok.frames,ok.stk,ok.exf,ok.bs,ok.bsz,ok.noex,ok.exfs,ok.pH,ok.frf⟩
section
variable {X:Cx}{pins:List (Addr×Obj)}{σ:St}{H:Hp}{s:mu}{E:j3->mu->Prop}
theorem Inv.sD(I:Inv X pins σ H s)(E:j3->mu->Prop):Inv (X.sD E) pins σ H s:=⟨I.ok.sD E,I.os,I.bare,I.base,I.loc,I.cell,I.free,I.freeC,I.pin,I.hok,I.len⟩
theorem Inv.lW(I:Inv (X.sD E) pins σ H s):Inv X pins σ H s:=⟨I.ok.lW,I.os,I.bare,I.base,I.loc,I.cell,I.free,I.freeC,I.pin,I.hok,I.len⟩
theorem SP.lW{D:Ends}{f:Flow}{s':mu}(h:SP (X.sD E) pins D f s'):SP X pins D f s':=by
 cases f with
 |next=>obtain⟨d,e,I,q⟩:=h;exact⟨d,e,I.lW,q⟩
 |brk=>obtain⟨d,e,I,q⟩:=h;exact⟨d,e,I.lW,q⟩
 |cont=>obtain⟨d,e,I,q⟩:=h;exact⟨d,e,I.lW,q⟩
 |ret u=>obtain⟨v,d,e,I,r,q⟩:=h;exact⟨v,d,e,I.lW,r,q⟩
theorem vE.A9{st:List Stmt}{t:TS}(h:vE X.A9 st t):vE X st t:=fun pins s σ H D I d =>
 ME (h pins s σ H D (I.sD _) d) (fun _ _ q=>q.lW) fun _ _ z=>Mt z
end
section
variable {X:Cx}{st:Stmt}{rest:List Stmt}{t u:TS}{e:Expr}{te:TE}{pos:Pos}
noncomputable def Ey:TS:=fun D d H=>D.nx d H
noncomputable abbrev Ends.wn(D:Ends)(N:St->Hp->Prop):Ends:={D with nx:=N}
noncomputable def aJ(t u:TS):TS:=fun D d H=>t (D.wn (u D)) d H
theorem iR:vE X [] Ey:=fun _ _ d H _ I h=>PL ⟨d,H,I,h⟩
theorem bV(o:PS X st t)(m:vE X rest u):vE X (st::rest) (aJ t u):=by
 intro d s j H D I h;refine Pc (cO (o d s j H {D with nx:=u D} I h) fun f l q=>?_)
 cases f with
 |next =>
  obtain⟨g,r,p,q⟩:=q;exact m d l g r D p q
 |ret v=>exact q
 |brk=>exact q
 |cont=>exact q
theorem cg(j:PS X st t):vE X [st] t:=by
 intro d s g H D I h;refine Pc (cO (j d s g H D I h) fun f l q=>?_)
 cases f with
 |next=>exact PL q
 |ret v=>exact q
 |brk=>exact q
 |cont=>exact q
theorem Inv.quiet{d:List (Addr×Obj)}{g:St}{H:Hp}{s:mu}(I:Inv X d g H s):interactive X.env=false:=by simp[interactive,I.ok.kind]
noncomputable abbrev JY(d:St)(N:St->Hp->Prop):VK:=fun _ g=>N d g
noncomputable abbrev GY(te:TE):TS:=fun D d H=>te d H (JY d D.nx)
theorem cu(j:PE X e te)(hs:Q5 e none pos.line X.env=pure false:=by rfl):PS X (.Expr e pos) (GY te):=by
 intro d s g H D I h;exact wpAny_Expr_any (cO (j d s g H _ I h) fun v o ⟨x,m,l,p,q1⟩=>⟨g,m,l,q1⟩) I.quiet hs
noncomputable abbrev GZ(te:TE):TS:=fun D d H=>te d H D.rt
theorem cB(l:PE X e te):PS X (.Return (some e) pos) (GZ te):=by
 intro d s g H D I h;exact wpAny_Return_some (cO (l d s g H _ I h) fun v p ⟨x,o,m,j,q1⟩=>⟨x,g,o,m,j,q1⟩)
noncomputable abbrev JZ(t u:TS)(D:Ends)(d:St):Bool->Hp->Prop:=fun b g=>if b=true then t D d g else u D d g
noncomputable abbrev E4(c:TT)(t u:TS):TS:=fun D d H=>c d H (JZ t u D d)
theorem lX{c:Expr}{a b:List Stmt}{l:TT}(q:PT X c l)(v:vE X a t)(r:vE X b u):PS X (.If c a b pos) (E4 l t u):=by
 intro g s j H D I h;refine wpAny_If (cO (q g s j H _ I h) fun d m ⟨p,o,q1⟩=>?_)
 cases d with
 |true=>exact v g m j p D o q1
 |false=>exact r g m j p D o q1
noncomputable def E5:TS:=fun _ _ _=>False
theorem qO:PS X st E5:=fun _ _ _ _ _ _ h=>h.elim
end
noncomputable abbrev TG:=V->St->Hp->(St->Hp->Prop)->Prop
noncomputable abbrev Dk:=List V->St->Hp->(St->Hp->Prop)->Prop
noncomputable def PG(X:Cx)(d:Expr)(t:TG):Prop :=
 ∀(e:List (Addr×Obj)) (s:mu) (j:St) (H:Hp) (v:V) (u:j3) (Q:St->Hp->Prop),Inv X e j H s->RelV v u->t v j H Q ->
  La (Lr X.prog X.w) X.A (RW d X.env u) (fun _ m=>∃g l,Inv X e g l m/\Q g l) X.xe s
noncomputable def G0(X:Cx)(ts:List Expr)(t:Dk):Prop :=
 ∀(d:List (Addr×Obj)) (s:mu) (g:St) (H:Hp) (j:List V) (l:List j3) (Q:St->Hp->Prop),Inv X d g H s->Vals j l->t j g H Q ->
  La (Lr X.prog X.w) X.A (Se ((OM ts X.env).map (·.2)) l) (fun _ o=>∃e m,Inv X d e m o/\Q e m) X.xe s
noncomputable abbrev E6:=V->V->V->Hp->(Hp->Prop)->Prop
noncomputable def G1(X:Cx)(t:E6):Prop :=
 ∀(d:List (Addr×Obj)) (s:mu) (e:St) (H:Hp) (o i v:V) (g j u:j3) (Q:Hp->Prop),Inv X d e H s->RelV o g->RelV i j->RelV v u->t o i v H Q ->
  La (Lr X.prog X.w) X.A (SD g j u) (fun _ m=>∃l,Inv X d e l m/\Q l) X.xe s
noncomputable abbrev Iz:=V->V->Hp->VK->Prop
noncomputable def JH(X:Cx)(op:Operator)(t:Iz):Prop :=
 ∀(d:List (Addr×Obj)) (s:mu) (e:St) (H:Hp) (x y:V) (v u:j3) (Q:VK),Inv X d e H s->RelV x v->RelV y u->t x y H Q ->
  La (Lr X.prog X.w) X.A (inplaceOp op v u) (EP X d e Q) X.xe s
section
variable {X:Cx}{pos:Pos}
noncomputable abbrev iD(i:Nat):TG:=fun v d H Q=>Q (d.set i (some v)) H
theorem iw{i:Nat}{x:Str}(j:X.N.Nodup)(hi:X.N[i]?=some x)(e:Loc X.env.scope x)(g:X.fn x=true\/X.env.scope.names.lookup x=some .local:=by first|exact .inl rfl|exact .inr rfl|assumption):PG X (.Name x pos) (iD i):=by
 intro d s m H v u Q I r h;exact wpAny_assign_Name (kc I j hi e r (fun o l=>⟨_,H,l,h⟩) g)
noncomputable def Dl:Dk:=fun e d H Q=>e=[]/\Q d H
noncomputable abbrev J0(u:Dk)(r:List V)(Q:St->Hp->Prop):St->Hp->Prop:=fun d e=>u r d e Q
noncomputable def qc(t:TG)(u:Dk):Dk:=fun e d H Q=>∃v r,e=v::r/\t v d H (J0 u r Q)
theorem aZ:G0 X [] Dl:=by
 intro d s g H j l Q I r h;obtain⟨e,h⟩:=h;subst e
 cases r
 exact assignInOrder_nil ⟨g,H,I,h⟩
theorem aG{e:Expr}{g:List Expr}{t:TG}{u:Dk}(p:PG X e t)(o:G0 X g u)
  (hs:(OM (e::g) X.env).map (·.2)=RW e X.env::(OM g X.env).map (·.2):=by rfl):G0 X (e::g) (qc t u):=by
 intro d s l H z B Q I r h;obtain⟨v,A,q,h⟩:=h;subst q
 cases r with
 |cons r rr =>
  rw[hs];refine Qf (cO (p d s l H _ _ _ I r h) fun _ m ⟨j,y,w,q1⟩=>?_);exact o d m j y _ _ Q w rr q1
noncomputable def Ba(K:bA)(n:Nat)(t:Dk):TG:=fun v e H Q=>∃a d,v=.ref a/\bN K H a d/\d.length=n/\t d e H Q
theorem E7{g:List Expr}{k:Nat}{t:Dk}{n:Nat}(B:X.calm=true)(h:G0 X g t)
  (hn:(OM g X.env).length=n:=by rfl) (hst:(OM g X.env).findIdx? (·.1)=none:=by rfl):PG X (.Tuple g k pos) (Ba X.K n t):=by
 intro d s l H v u Q I r j;obtain⟨a,p,D,z,A,j⟩:=j;subst D
 cases r
 obtain⟨q,m,y,G⟩:=I.tuple z;refine assign_Tuple_tuple (I.ok.hd B) y (by simp[hn,←A,m.length]) hst fun C w=>?_;have E:Inv X d l H {s with heap:=C}:=I.kept (t':=s.toks) fun b o e=>w b o (Ls (vy e)) e;exact h d _ l H p _ Q E (by simpa using m) j
noncomputable def I8(e g:TE)(t:E6):TG:=fun v d H Q=>e d H fun o m=>g d m fun i l=>t o i v l fun j=>Q d j
theorem uo{o i:Expr}{l m:TE}{t:E6}(B:PE X o l)(hi:PE X i m)(hs:G1 X t)
  (ha:∀v,RW (.Subscript o i pos) X.env v=(do
   let e ←QF [v] (eval o X.env)
   let g ←QF [v,e] (eval i X.env)
   standAt pos
   QF [v,e,g] (SD e g v)
   release [v,e,g] []):=by intro _;rfl):PG X (.Subscript o i pos) (I8 l m t):=by
 intro d s j H v u Q I r h;rw[ha];refine bB (LI (cO (B d s j H _ I h) fun e q ⟨x,L,E,w,q1⟩=>?_));refine bB (LI (cO (hi d q j L _ E q1) fun g p ⟨y,J,D,r2,A⟩=>?_));refine bB (Pk (bB (LI (cO (hs d p j J x y v e g u _ D w r2 r A) fun _ M ⟨G,C,z⟩=>?_))));exact wpAny_release ⟨j,G,C,z⟩
noncomputable abbrev Ka(g:TG)(d:St)(N:St->Hp->Prop):VK:=fun x e=>g x d e N
noncomputable abbrev vG(e:TE)(g:TG):TS:=fun D d H=>e d H (Ka g d D.nx)
theorem xE{j e:Expr}{m:TE}{g:TG}(u:PE X e m)(t:PG X j g)(hs:swapsWithSole [j] e pos.line X.env=pure false:=by rfl)(r:swappedStores [j] e X.env=pure none:=by rfl)
  (h1:(OM [j] X.env).map (·.2)=[RW j X.env]:=by rfl):PS X (.Assign [j] e pos) (vG m g):=by
 intro d s l H D I h;refine wpAny_Assign_stores (cO (u d s l H _ I h) fun v o ⟨x,y,w,p,q1⟩=>?_) hs r;rw[h1];exact cO (t d o l y x v _ w p q1) fun _ z q=>q
theorem iK{i:Nat}{x:Str}{e:Expr}{j:TE}{d:Pos}(r:X.N.Nodup)(hi:X.N[i]?=some x)(o:Loc X.env.scope x)(q:PE X e j)(hs:Q5 e (some (.Name x d)) pos.line X.env=pure false:=by rfl)(p:X.fn x=true\/X.env.scope.names.lookup x=some .local:=by first|exact .inl rfl|exact .inr rfl|assumption) :
  PS X (.Assign [.Name x d] e pos) (vG j (iD i)):=by
 intro g s l H D I h;refine wpAny_Assign_Name (cO (q g s l H _ I h) fun v A ⟨y,w,u,m,q1⟩=>?_) hs;exact kc u r hi o m (fun z t=>⟨_,w,t,q1⟩) p
noncomputable def I9(i j:Nat)(g:TA):TS:=fun D d H=>g d H fun e l=>∃v w,e=[v,w]/\D.nx ((d.set i (some v)).set j (some w)) l
theorem E8{i j:Nat}{x y:Str}{a b:Expr}{C:TA}{t py pt:Pos}{kt k2 pt2}(Q:X.calm=true)(E:X.N.Nodup)(hi:X.N[i]?=some x)(P:X.N[j]?=some y)(z:i≠j)
  (hx:X.env.scope.names.lookup x=some .local) (hy:X.env.scope.names.lookup y=some .local) (ha:PA X [a,b] C)
  (hw:swappedStores [.Tuple [.Name x t,.Name y py] kt pt] (.Tuple [a,b] k2 pt2) X.env=pure (some [x,y]))
  (hs:swapsWithSole [.Tuple [.Name x t,.Name y py] kt pt] (.Tuple [a,b] k2 pt2) pos.line X.env=pure false:=by rfl) :
  PS X (.Assign [.Tuple [.Name x t,.Name y py] kt pt] (.Tuple [a,b] k2 pt2) pos) (I9 i j C):=by
 intro d s B H D I h;rw[exec_Assign_arm];refine bB (Pk ?_);rw[hs];refine bB (my ?_);rw[if_neg (by decide)];refine bB (Tuple_ (cO (ha _ d s B H _ I h) fun L m ⟨W,J,V,O,q1⟩=>?_));obtain⟨v,w,R,q1⟩:=q1;subst R
 obtain⟨l,g,rfl,M,r⟩:∃l g,L=[l,g]/\RelV v l/\RelV w g:=by
  cases O with
  |cons p q =>
   cases q with
   |cons p' q' =>
    cases q'
    exact⟨_,_,rfl,p,p'⟩
 refine Mu ?_ (by show 2<=nk;decide);have U:Inv X d B J {m with heap:=m.heap.push {cls:=.type "tuple",data:=.seq [l,g].toArray}}:=V.kept (t':=m.toks) fun b o e=>mC _ e;rw[hw];refine bB (my ?_);show La (Lr X.prog X.w) X.A (do rule "assign.swapped-stores";let items ←unpackItems (.ref m.heap.objs.size) 2 none;Se [fun v=>bindName X.env y v,fun v=>bindName X.env x v] items.reverse;pure Flow.next) _ _ _;refine bB (Ol (bB (unpackItems_tuple (items:=#[l,g]) (I.ok.hd Q) (SW m.heap _) fun h' u=>?_)));have T:=U.kept (h':=h') (t':=m.toks) fun b o e=>u b o (Ls (vy e)) e;show La _ _ (Se [fun v=>bindName X.env y v,fun v=>bindName X.env x v] [g,l]>>=fun _=>pure Flow.next) _ _ _;refine bB (Qf (wpAny_bindName (kc T E P (.inl hy) r (fun Z S=>?_) (.inr hy))));refine Qf (wpAny_bindName (kc S E hi (.inl hx) M (fun Y G=>assignInOrder_nil (my ?_)) (.inr hx)));rw[List.set_comm _ _ (MQ z)]at G;exact⟨_,J,G,q1⟩
noncomputable def Ja(i:Nat)(g:TE)(e:Iz):TS:=fun D d H=>∃x,d[i]?=some (some x)/\g d H fun y l=>e x y l fun z j=>D.nx (d.set i (some z)) j
theorem E9{i:Nat}{x:Str}{e:Expr}{C:TE}{op:Operator}{B:Iz}{o:Pos}(R:X.N.Nodup)(hi:X.N[i]?=some x)(q:Loc X.env.scope x)(Q:PE X e C)(L:JH X op B)(P:X.fn x=true\/X.env.scope.names.lookup x=some .local:=by first|exact .inl rfl|exact .inr rfl|assumption) :
  PS X (.AugAssign (.Name x o) op e pos) (Ja i C B):=by
 intro d s t H D I h;obtain⟨v,S,h⟩:=h;obtain⟨m,M,O⟩:=I.loc;have p:GW X.env.scope x:=by rcases q with k|k;exact .inl k;exact .inr (.inl k)
 obtain⟨u,r,l⟩:=O i x v hi S p;refine wpAny_AugAssign_Name ?_
 have go:La (Lr X.prog X.w) X.A (eval e X.env) (fun w j=>La (Lr X.prog X.w) X.A (inplaceOp op u w) (fun r g=>La (Lr X.prog X.w) X.A (storeName X.env x r) (fun _=>SP X d D .next) X.xe g) X.xe j) X.xe s:=by
  refine cO (Q d s t H _ I h) fun w E ⟨y,Y,V,G,q1⟩=>?_;refine cO (L d E t Y v y u w _ V r G q1) fun z s2 ⟨Z,W,U,r2,J⟩=>?_;exact kc U R hi q r2 (fun s3 T=>⟨_,W,T,J⟩) P
 rcases l with⟨hk,hm⟩|⟨hk,c,hc,hcell⟩
 ·exact wpAny_loadName_local I.ok.kind hk M hm go
 ·rcases hk with hk|hk
  ·exact wpAny_loadName_cell I.ok.kind hk hc hcell go
  ·rcases q with k|k
   ·have:X.env.scope.names.lookup x=some .free:=hk;rw[k]at this;cases this
   ·have:X.env.scope.names.lookup x=some .free:=hk;rw[k]at this;cases this
noncomputable def Kc(f:Int->Int->Int):Iz:=fun x y H Q=>∃i j,x=.int i/\y=.int j/\Q (.int (f i j)) H
theorem Fb:JH X .Add (Kc fun i j=>i+j):=by
 intro d s m H x y v u Q I e r2 h;obtain⟨i,j,l,g,q⟩:=h;subst l;subst g;obtain⟨t,rfl⟩:=e;obtain⟨o,rfl⟩:=r2;exact iadd_int ⟨.int _,H,I.tok _,⟨_,rfl⟩,q⟩
end
section
variable {X:Cx}{pos:Pos}
noncomputable def Fc(c:TT)(o:TS):TS:=fun D d H=>∃W:Nat->St->Hp->Prop,(∃m,W m d H)/\∀m d H,W m d H ->
 c d H fun b j=>if b=true then ∃N:St->Hp->Prop,(∀e l,N e l->∃g,g < m/\W g e l)/\o {D with nx:=N,ct:=N,bk:=D.nx} d j else D.nx d j
theorem nY{c:Expr}{j:List Stmt}{B:TT}{C:TS}(E:PassesOwn (Lr X.prog X.w) X.A X.env X.xe)(V:PT X c B)(Y:vE X j C):PS X (.While c j [] pos) (Fc B C):=by
 intro e s P H D I h;obtain⟨W,⟨U,R⟩,m⟩:=h;refine wpAny_While (codeAny_whileLoop (fun n T=>∃l O,Inv X e l O T/\W n l O) ?_ U ⟨P,H,I,R⟩);rintro n s1 ⟨g,M,Z,Q⟩;refine Nx E (cO (V e s1 g M _ Z (m n g M Q)) fun b S ⟨L,J,q⟩=>?_)
 cases b with
 |true =>
  obtain⟨N,G,q⟩:=q;rw[if_pos rfl];refine Nx E (cO (Y e S g L _ J q) fun f s3 p=>?_)
  cases f with
  |next =>
   obtain⟨d,o,z,t⟩:=p;obtain⟨u,y,r⟩:=G d o t;exact⟨u,y,d,o,z,r⟩
  |cont =>
   obtain⟨d,o,z,t⟩:=p;obtain⟨u,y,r⟩:=G d o t;exact⟨u,y,d,o,z,r⟩
  |brk=>exact p
  |ret v=>exact p
 |false =>
  rw[if_neg Lg];exact PL ⟨g,L,J,q⟩
end
structure It where
 go:Nat->Hp->Prop
 yld:Nat->Hp->V->Hp->Prop
 stop:Nat->Hp->Prop
noncomputable def qv(X:Cx)(d:List (Addr×Obj))(H:Hp)(b:Addr):Prop :=
 H b=none/\b≠X.env.locals/\b∉X.fs/\(b∈X.ex\/X.s₀.heap.objs.size<=b)/\(∀x c,X.env.cells.lookup x=some c->c≠b)/\∀p∈X.pn++d,p.1≠b
theorem Inv.Bb{X:Cx}{d:List (Addr×Obj)}{l:St}{H j:Hp}{s:mu}{b:Addr}(I:Inv X d l H s)(g:s.heap.objs.size<=b)(hn:j b=none):qv X d j b:=by
 refine⟨hn,NB (Lf I.lt g),I.A7 g,.inr (I0 I.sz g),fun x c e z=>?_,fun p m z=>?_⟩
 ·obtain⟨v,q⟩:=I.cell x c e;exact absurd (Lf q.lt (by rw[z];exact g)) (LY _)
 ·exact absurd (Lf (vy (I.pin p m).1) (by rw[z];exact g)) (LY _)
structure Turn(P:FG) (w:Lk) (K:bA) (tg:Expr) (J:It) (fp:List Addr) (it:Addr) (tn:Nat->Heap->Prop):Prop where
 mem:it∈fp
 obj:∀i h,tn i h->∀b∈fp,∃o,h.get? b=some o/\∀v,o.data≠.cell v
 keep:∀i h h',tn i h->(∀b∈fp,∀o,h.get? b=some o->h'.get? b=some o)->tn i h'
 item:∀(X:Cx),X.prog=P->X.w=w->X.K=K->X.calm=true->∀(i:Nat) (pins:List (Addr×Obj)) (s:mu) (σ:St) (H:Hp) (E:j3->mu->Prop),Inv X pins σ H s->(∀b∈fp,qv X pins H b)->tn i s.heap->J.go i H ->
  La (Lr P w) X.A (OD (.ref it)) (fun r s1=>∃u,r=some u /\
   La (Lr P w) X.A (PM tg (.ref it) u) (fun _ s2=>∃x H',Inv X pins σ H' s2/\RelV x u/\J.yld i H x H'/\tn (i+1) s2.heap/\∀b∈fp,H' b=none) E s1) E s
 done:∀(X:Cx),X.prog=P->X.w=w->X.K=K->X.calm=true->∀(i:Nat) (pins:List (Addr×Obj)) (s:mu) (σ:St) (H:Hp) (E:j3->mu->Prop),Inv X pins σ H s->(∀b∈fp,qv X pins H b)->tn i s.heap->J.stop i H ->
  La (Lr P w) X.A (OD (.ref it)) (fun r s1=>r=none/\Inv X pins σ H s1) E s
 self:∀(A:Lz) (i:Nat) (s:mu) (Q:j3->mu->Prop) (E:j3->mu->Prop),tn i s.heap->Q (.ref it) s->La (Lr P w) A (pyIter (.ref it)) Q E s
noncomputable abbrev TI:=St->Hp->(It->Hp->Prop)->Prop
noncomputable def JI(X:Cx)(d:List (Addr×Obj))(p:St)(q:Expr)(R:It->Hp->Prop)(e:j3)(l:mu):Prop :=
 ∃(m:Addr) (o:List Addr) (j:Nat->Heap->Prop) (J:It) (g:Hp),e=.ref m/\Inv X d p g l/\Turn X.prog X.w X.K q J o m j/\j 0 l.heap/\(∀b∈o,qv X d g b)/\R J g
noncomputable def PI(X:Cx)(l e:Expr)(j:TI):Prop :=
 ∀(d:List (Addr×Obj)) (s:mu) (g:St) (H:Hp) (R:It->Hp->Prop),Inv X d g H s->j g H R ->
  La (Lr X.prog X.w) X.A (eval e X.env) (fun v m=>La (Lr X.prog X.w) X.A (pyIter v) (JI X d g l R) X.xe m) X.xe s
theorem Bc {M : Model} {A : Lz} {E : j3 → mu → Prop} {s : mu} {e : Expr} {it : Addr} {u : j3} {o : Obj} {n : String} {d : Array j3} {Q : Unit → mu → Prop} (g : s.heap.get? it = some o) (j : o.cls = .type n) (hd : o.data = .fields d)
    (hn : ["enumerate", "zip", "dict_itemiterator", "dict_reverseitemiterator", "odict_iterator", "itertools.zip_longest", "itertools.pairwise"].contains n = false) (hQ : Q () s) : La M A (PM e (.ref it) u) Q E s := by
  unfold PM
  cases e <;> first
    | exact my hQ
    | (cases u <;> first
        | exact my hQ
        | (refine bB (wpAny_load g ?_)
           rw [j, hd];show La M A (if (["enumerate", "zip", "dict_itemiterator", "dict_reverseitemiterator", "odict_iterator", "itertools.zip_longest", "itertools.pairwise"].contains n && d[0]? == some (MN _)) = true then _ else _) Q E s;rw [if_neg (by intro h; rw [hn, Bool.false_and] at h; cases h)];exact my hQ))
noncomputable def Dm(K:bA)(a:Addr):It :=
 ⟨fun i H=>∃d x,bz K H a d/\d[i]?=some x,fun i H x e=>e=H/\∀d,bz K H a d->d[i]?=some x,fun i H=>∃d,bz K H a d/\d.length<=i⟩
noncomputable def Bd(K:bA)(a:Addr):It :=
 ⟨fun i H=>∃d x,bN K H a d/\d[i]?=some x,fun i H x e=>e=H/\∀d,bN K H a d->d[i]?=some x,fun i H=>∃d,bN K H a d/\d.length<=i⟩
noncomputable def Fd(lo:Int)(n:Nat):It:=⟨fun i _=>i<n,fun i H x d=>d=H/\x=.int (lo+i),fun i _=>n<=i⟩
theorem zW{P:FG}{w:Lk}{K:bA}{U:Expr}(a it:Addr):Turn P w K U (Dm K a) [it] it (fun i h=>h.IsListIter it a i) where
 mem:=by simp
 obj:=fun i h g b l=>by
  have e:b=it:=by simpa using l
  subst e;obtain⟨o,e,c,d⟩:=g;exact⟨o,e,fun v z=>by rw[d]at z;cases z⟩
 keep:=fun i h t g k=>g.at fun o e=>k it (by simp) o e
 item:=by
  intro X G C J S i j s R H E I r g D;subst G C J;obtain⟨T,x,q,B⟩:=D;obtain⟨A,y,p,Z⟩:=I.list q;obtain⟨u,hu,Y⟩:=y.get B;obtain⟨Q,O,f2,N,M,L⟩:=r it (by simp);refine wpAny_pyNext_list_item g p.isList (x:=u) (by simpa using hu) fun t m V=>?_;have I1:Inv X j R H {s with heap:=t}:=I.turned (t':=s.toks) (fun b o l e=>(V.2 b l).trans e) Q O N M L;obtain⟨o,e,c,d⟩:=id m;exact⟨u,rfl,Bc (s:={s with heap:=t}) e c d (by decide) ⟨x,H,I1,Y,⟨rfl,fun ys hy=>by rw[I.vF hy q];exact B⟩,m,fun b l=>(r b l).1⟩⟩
 done:=by
  intro X G C J S i j s R H E I r g D;subst G C J;obtain⟨T,q,B⟩:=D;obtain⟨A,y,p,Z⟩:=I.list q;obtain⟨Q,O,f2,N,M,L⟩:=r it (by simp);have hl:=y.length;exact wpAny_pyNext_list_end (I.ok.hd S) g p.isList (by simp;omega) fun t eb=>⟨rfl,I.turned (t':=s.toks) (fun b o l e=>eb b o l e) Q O N M L⟩
 self:=fun _ _ _ _ _ g h=>wpAny_pyIter_listiter g h
theorem xF{P:FG}{w:Lk}{K:bA}{U:Expr}(a it:Addr):Turn P w K U (Bd K a) [it] it (fun i h=>h.IsTupleIter it a i) where
 mem:=by simp
 obj:=fun i h g b m=>by
  have e:b=it:=by simpa using m
  subst e;obtain⟨o,e,c,d⟩:=g;exact⟨o,e,fun v z=>by rw[d]at z;cases z⟩
 keep:=fun i h y g k=>g.at fun o e=>k it (by simp) o e
 item:=by
  intro X G C J S i j s R H E I t g D;subst G C J;obtain⟨T,x,r,B⟩:=D;obtain⟨l,A,p,Z⟩:=I.tuple r;obtain⟨u,hu,Y⟩:=A.get B;obtain⟨Q,O,f2,N,M,L⟩:=t it (by simp);refine wpAny_pyNext_tuple_item g (show s.heap.IsTuple a l.toArray from p) (x:=u) (by simpa using hu) fun y q V=>?_;have I1:Inv X j R H {s with heap:=y}:=I.turned (t':=s.toks) (fun b o m e=>(V.2 b m).trans e) Q O N M L;obtain⟨o,e,c,d⟩:=id q;exact⟨u,rfl,Bc (s:={s with heap:=y}) e c d (by decide) ⟨x,H,I1,Y,⟨rfl,fun ys hy=>by rw[I.pI hy r];exact B⟩,q,fun b m=>(t b m).1⟩⟩
 done:=by
  intro X G C J S i j s R H E I t g D;subst G C J;obtain⟨T,r,B⟩:=D;obtain⟨l,A,p,Z⟩:=I.tuple r;obtain⟨Q,O,f2,N,M,L⟩:=t it (by simp);have hl:=A.length;exact wpAny_pyNext_tuple_end (I.ok.hd S) g (show s.heap.IsTuple a l.toArray from p) (by simp;omega) fun y eb=>⟨rfl,I.turned (t':=s.toks) (fun b o m e=>eb b o m e) Q O N M L⟩
 self:=fun _ _ _ _ _ g h=>wpAny_pyIter_tupleiter g h
theorem xG{P:FG}{w:Lk}{K:bA}{O:Expr}(it:Addr)(lo:Int)(n:Nat):Turn P w K O (Fd lo n) [it] it (fun i h=>IsRangeIter h it (lo+(i:Nat)*1) ((n:Int) - (i:Nat)) 1) where
 mem:=by simp
 obj:=fun i h d b j=>by
  have e:b=it:=by simpa using j
  subst e
  exact⟨_,d,fun v z=>by
   have N:Data.fields _=Data.cell v:=z
   cases N⟩
 keep:=fun i h p d k=>k it (by simp) _ d
 item:=by
  intro X y q A u i g s L H E I m d r;subst y q A;obtain⟨J,G,S,D,C,B⟩:=m it (by simp);have W:=Walks.range (prog:=X.prog) (w:=X.w) (I.ok.hd u) it lo 1 n;refine W.item i s _ _ r d fun v p M R l Q=>?_;obtain⟨t,rfl⟩:=R;have U:Inv X g L H {s with heap:=p,toks:=M}:=I.turned (fun b o j e=>Q b o (by simpa using j) e) J G D C B;refine⟨_,rfl,Bc (s:={s with heap:=p,toks:=M}) (n:="range_iterator") l rfl rfl (by decide) ⟨.int (lo+i),H,U,⟨t,?_⟩,⟨rfl,rfl⟩,l,fun b j=>(m b j).1⟩⟩;rw[Int.mul_one]
 done:=by
  intro X y q A u i g s L H E I m d r;subst y q A;obtain⟨J,G,S,D,C,B⟩:=m it (by simp);exact wpAny_pyNext_range_end (I.ok.hd u) d (by have:n<=i:=r;omega) fun p T=>⟨rfl,I.turned (t':=s.toks) (fun b o j e=>T b o j e) J G D C B⟩
 self:=fun _ _ _ _ _ d h=>wpAny_pyIter_rangeiter d h
section
variable {X:Cx}{tg:Expr}
noncomputable def G3(K:bA)(j:TE):TI:=fun e H R=>j e H fun x d=>∃a,x=.ref a/\(∃g,bz K d a g)/\R (Dm K a) d
noncomputable def Jb(K:bA)(j:TE):TI:=fun e H R=>j e H fun x d=>∃a,x=.ref a/\(∃g,bN K d a g)/\R (Bd K a) d
theorem cX{l:Expr}{m:TE}(y:PE X l m):PI X tg l (G3 X.K m):=by
 intro d s r H R I h;refine cO (y d s r H _ I h) fun v g ⟨x,A,j,t,q1⟩=>?_;obtain⟨a,e,⟨B,w⟩,q⟩:=q1;subst e
 cases t
 obtain⟨u,C,p,D⟩:=j.list w;refine QH p.isList ?_;refine⟨g.heap.objs.size,[g.heap.objs.size],_,_,A,rfl,j.kept (t':=g.toks) fun b o e=>mC _ e,zW a _,⟨_,K9 _ rfl,rfl,rfl⟩,fun b z=>?_,q⟩;have e:b=g.heap.objs.size:=by simpa using z
 subst e;exact j.Bb (lj _) (j.hok.fresh (lj _))
theorem dh{l:Expr}{r:TE}(y:PE X l r):PI X tg l (Jb X.K r):=by
 intro g s t H R I h;refine cO (y g s t H _ I h) fun v d ⟨x,A,j,u,q1⟩=>?_;obtain⟨a,e,⟨B,w⟩,q⟩:=q1;subst e
 cases u
 obtain⟨m,C,p,D⟩:=j.tuple w;refine Qg (show d.heap.IsTuple a m.toArray from p) ?_;refine⟨d.heap.objs.size,[d.heap.objs.size],_,_,A,rfl,j.kept (t':=d.toks) fun b o e=>mC _ e,xF a _,⟨_,K9 _ rfl,rfl,rfl⟩,fun b z=>?_,q⟩;have e:b=d.heap.objs.size:=by simpa using z
 subst e;exact j.Bb (lj _) (j.hok.fresh (lj _))
theorem Be{d:List (Addr×Obj)}{g:St}{H:Hp}{s:mu}{R:It->Hp->Prop}{E:j3->mu->Prop}{lo hi:Int}{t u v:Tok}{tk:Nat}(I:Inv X d g H s)(y:-(2 ^ 62)<=lo)(r:lo<2 ^ 62)(p:-(2 ^ 62)<=hi)(m:hi<2 ^ 62)
  (q:R (Fd lo (hi-lo).toNat) H):La (Lr X.prog X.w) X.A (pyIter (.ref s.heap.objs.size)) (JI X d g tg R) E {s with heap:=s.heap.push {cls:=.type "range",data:=.fields #[.int lo t,.int hi u,.int 1 v]},toks:=tk}:=by
 refine wpAny_pyIter_range (IsRange.new ..) (small_one y r p m) ?_;have j:Inv X d g H {s with heap:=s.heap.push {cls:=.type "range",data:=.fields #[.int lo t,.int hi u,.int 1 v]},toks:=tk}:=I.kept fun b o e=>mC _ e
 refine⟨(s.heap.push {cls:=.type "range",data:=.fields #[.int lo t,.int hi u,.int 1 v]}).objs.size,[(s.heap.push {cls:=.type "range",data:=.fields #[.int lo t,.int hi u,.int 1 v]}).objs.size],_,_,H,rfl,
  j.kept (t':=tk) fun b o e=>mC _ e,xG _ lo (hi-lo).toNat,?_,fun b l=>?_,q⟩
 ·have B:lo+((0:Nat):Int)*1=lo:=by simp
  have z:(((hi-lo).toNat:Nat):Int) - ((0:Nat):Int)=Og.Range.rangeSize lo hi 1:=by rw[rangeSize_one];split<;>omega
  show IsRangeIter _ _ (lo+((0:Nat):Int)*1) ((((hi-lo).toNat:Nat):Int) - ((0:Nat):Int)) 1;rw[B,z];exact K9 _ rfl
 ·have e:b=(s.heap.push {cls:=.type "range",data:=.fields #[.int lo t,.int hi u,.int 1 v]}).objs.size:=by simpa using l
  subst e;exact j.Bb (lj _) (j.hok.fresh (lj _))
noncomputable def G4(g:TA):TI:=fun d H R=>g d H fun e l=>∃j:Int,e=[.int j]/\-(2 ^ 62)<=j/\j<2 ^ 62/\R (Fd 0 j.toNat) l
theorem sY{a:Expr}{l:TA}{p d:Pos}(v:Gl X "range")(hm:X.mg "range"=none)(w:PA X [a] l)(hs:LA [a] X.env=[(false,eval a X.env)]:=by rfl):PI X tg (.Call (.Name "range" p) [a] [] d) (G4 l):=by
 intro g s m H R I h;refine Call_ (jY I v hm boot_range (LV (cO (w d g s m H _ I h) fun A B ⟨z,C,y,o,q1⟩=>?_) hs rfl));obtain⟨j,e,q1,u,q⟩:=q1;subst e
 cases o with
 |cons r rr =>
  cases rr
  obtain⟨t,rfl⟩:=r;exact call_range_1 (Be y (by omega) (by omega) q1 u (by simpa using q))
noncomputable def Jc(p:TI)(g:TG)(q:TS):TS:=fun D d H=>p d H fun J t=>∃W:Nat->Nat->St->Hp->Prop,(∃m,W 0 m d t)/\∀i m d H,W i m d H ->
 (J.stop i H/\D.nx d H)\/(J.go i H/\∃N:St->Hp->Prop,(∀e j,N e j->∃o,o < m/\W (i+1) o e j)/\∀x j,J.yld i H x j->g x d j fun l r=>q {D with nx:=N,ct:=N,bk:=D.nx} l r)
noncomputable def pJ(d:List Addr)(h:Heap):List (Addr×Obj):=d.filterMap fun b=>(h.get? b).map fun o=>(b,o)
theorem gZ{d:List Addr}{h:Heap}{b:Addr}{o:Obj}(g:b∈d)(e:h.get? b=some o):(b,o)∈pJ d h:=Qh.mpr ⟨b,g,by rw[e];rfl⟩
theorem zX{d:List Addr}{h:Heap}{p:Addr×Obj}(g:p∈pJ d h):p.1∈d/\h.get? p.1=some p.2:=by
 obtain⟨b,j,e⟩:=Qh.mp g
 cases q:h.get? b with
 |none=>rw[q]at e;cases e
 |some o =>
  rw[q]at e;have l:(b,o)=p:=LQ e;subst l;exact⟨j,q⟩
theorem Inv.pinned{g:List (Addr×Obj)}{l:St}{H:Hp}{s:mu}{j:List Addr}(I:Inv X g l H s)(u:∀b∈j,qv X g H b)(t:∀b∈j,∃o,s.heap.get? b=some o/\∀v,o.data≠.cell v):Inv X (g++pJ j s.heap) l H s :=
 I.fL fun p r=>(Li.mp r).elim (fun z=>I.pin p (FT _ z)) fun z=>by
  obtain⟨m,e⟩:=zX z;obtain⟨A,y,w,_⟩:=u p.1 m;obtain⟨o,q,d⟩:=t p.1 m;rw[e]at q;cases q;exact⟨e,A,y,w,d⟩
theorem Inv.qP{d g:List (Addr×Obj)}{e:St}{H:Hp}{s:mu}(I:Inv X (d++g) e H s):Inv X d e H s:=I.fL fun p j=>I.pin p (FT _ (LD _ j))
theorem Fe{y:Expr}{L:List Stmt}{wi:TI}{g:TG}{tb:TS}{aa:Pos}(R:PassesOwn (Lr X.prog X.w) X.A X.env X.xe)(hc:X.calm=true)(hi:PI X tg y wi)(hg:PG X tg g)(z:vE X L tb)
  (hs:∀x,Oh y X.env x=pure x:=by intro _;rfl):PS X (.For tg y L [] aa) (Jc wi g tb):=by
 intro l s σ H D I h;refine wpAny_For (cO (hi l s σ H _ I h) fun v s1 h1=>cO h1 fun ad s2 h2=>?_) hs;obtain⟨it,U,tn,J,H2,e,I2,T,Z,f2,W,⟨m0,w0⟩,O⟩:=h2;subst e
 -- what stays true of the iterator's objects through the loop
 have t:∀{E:Hp},(∀b∈U,E b=none)->∀b∈U,qv X l E b:=fun hn b z=>⟨hn b z,(f2 b z).2⟩;refine codeAny_forLoop_any (fun n s'=>∃i q E,Inv X l q E s'/\tn i s'.heap/\(∀b∈U,E b=none)/\W i n q E) ?_ m0 ⟨0,σ,H2,I2,Z,fun b z=>(f2 b z).1,w0⟩;rintro n s3 ⟨i,p,V,I3,P,S,w3⟩;rcases O i n p V w3 with⟨stop,qn⟩|⟨go,N,hN,step⟩
 ·refine Nx R (cO (T.done X rfl rfl rfl hc i l s3 p V X.xe I3 (t S) P stop) fun r s4 ⟨hr,I4⟩=>?_);subst hr;exact PL ⟨p,V,I4,qn⟩
 ·refine Nx R (cO (T.item X rfl rfl rfl hc i l s3 p V X.xe I3 (t S) P go) fun r s4 ⟨u,hr,h4⟩=>?_);subst hr;refine Nx R (cO h4 fun _ s5 ⟨x,H5,I5,r5,y5,M,ab⟩=>?_);have ac:=I5.pinned (t ab) (T.obj _ _ M);refine Nx R (cO (hg _ s5 p H5 x u _ ac r5 (step x H5 y5)) fun _ s6 ⟨Y,H6,I6,q6⟩=>?_);refine Nx R (cO (z _ s6 Y H6 _ I6 q6) fun f s7 G=>?_)
  have again:∀{j:St}{C:Hp},Inv X (l++pJ U s5.heap) j C s7->N j C->∃m,m<n/\∃i q E,Inv X l q E s7/\tn i s7.heap/\(∀b∈U,E b=none)/\W i m q E:=fun{j C} B Q=>by
   obtain⟨m',hm,w7⟩:=hN j C Q;refine⟨m',hm,i+1,j,C,B.qP,T.keep _ _ _ M fun b z o e=>(B.pin (b,o) (FT _ (FT _ (gZ z e)))).1,fun b z=>?_,w7⟩;obtain⟨o,e,d⟩:=T.obj _ _ M b z;exact(B.pin (b,o) (FT _ (FT _ (gZ z e)))).2.1
  cases f with
  |next=>obtain⟨j,C,B,Q⟩:=G;exact again B Q
  |cont=>obtain⟨j,C,B,Q⟩:=G;exact again B Q
  |brk=>obtain⟨j,C,B,G⟩:=G;exact⟨j,C,B.qP,G⟩
  |ret v=>obtain⟨x7,j,C,B,r7,G⟩:=G;exact⟨x7,j,C,B.qP,r7,G⟩
end
theorem nZ{K:bA}{a:Addr}{xs:List V}{g:TG}{v:TS}{D:Ends}{d:St}{H:Hp}(j:Nat->St->Hp->Prop)(C:j 0 d H)(A:∀i d H,i<=xs.length->j i d H->bz K H a xs)
  (hs:∀i x d H,xs[i]?=some x->j i d H->g x d H fun l u=>v {D with nx:=j (i+1),ct:=j (i+1),bk:=D.nx} l u) (hd:∀d H,j xs.length d H->D.nx d H) :
  ∃W:Nat->Nat->St->Hp->Prop,(∃m,W 0 m d H)/\∀i m d H,W i m d H ->
   ((Dm K a).stop i H/\D.nx d H)\/((Dm K a).go i H/\∃N:St->Hp->Prop,(∀o r,N o r->∃w,w < m/\W (i+1) w o r)/\∀x r,(Dm K a).yld i H x r->g x d r fun l u=>v {D with nx:=N,ct:=N,bk:=D.nx} l u):=by
 refine⟨fun i m d H=>m=xs.length-i/\i<=xs.length/\j i d H,⟨xs.length,by simp,Ld _,C⟩,?_⟩;rintro i m d H ⟨rfl,B,p⟩;have q:=A i d H B p
 by_cases t:i<xs.length
 ·refine .inr ⟨⟨xs,xs[i],q,by simp[t]⟩,j (i+1),fun o r z=>⟨xs.length - (i+1),by omega,rfl,t,z⟩,fun x r y=>?_⟩;obtain⟨e,y⟩:=y;subst e;exact hs i x d _ (y xs q) p
 ·have e:i=xs.length:=by omega
  subst e;exact .inl ⟨⟨xs,q,lj _⟩,hd d H p⟩
theorem mV{K:bA}{a:Addr}{xs:List V}{g:TG}{v:TS}{D:Ends}{d:St}{H:Hp}(j:Nat->St->Hp->Prop)(C:j 0 d H)(A:∀i d H,i<=xs.length->j i d H->bN K H a xs)
  (hs:∀i x d H,xs[i]?=some x->j i d H->g x d H fun l u=>v {D with nx:=j (i+1),ct:=j (i+1),bk:=D.nx} l u) (hd:∀d H,j xs.length d H->D.nx d H) :
  ∃W:Nat->Nat->St->Hp->Prop,(∃m,W 0 m d H)/\∀i m d H,W i m d H ->
   ((Bd K a).stop i H/\D.nx d H)\/((Bd K a).go i H/\∃N:St->Hp->Prop,(∀o r,N o r->∃w,w < m/\W (i+1) w o r)/\∀x r,(Bd K a).yld i H x r->g x d r fun l u=>v {D with nx:=N,ct:=N,bk:=D.nx} l u):=by
 refine⟨fun i m d H=>m=xs.length-i/\i<=xs.length/\j i d H,⟨xs.length,by simp,Ld _,C⟩,?_⟩;rintro i m d H ⟨rfl,B,p⟩;have q:=A i d H B p
 by_cases t:i<xs.length
 ·refine .inr ⟨⟨xs,xs[i],q,by simp[t]⟩,j (i+1),fun o r z=>⟨xs.length - (i+1),by omega,rfl,t,z⟩,fun x r y=>?_⟩;obtain⟨e,y⟩:=y;subst e;exact hs i x d _ (y xs q) p
 ·have e:i=xs.length:=by omega
  subst e;exact .inl ⟨⟨xs,q,lj _⟩,hd d H p⟩
theorem fU{lo:Int}{n:Nat}{g:TG}{u:TS}{D:Ends}{d:St}{H:Hp}(q:Nat->St->Hp->Prop)(z:q 0 d H)
  (hs:∀i d H,i<n->q i d H->g (.int (lo+i)) d H fun j t=>u {D with nx:=q (i+1),ct:=q (i+1),bk:=D.nx} j t) (hd:∀d H,q n d H->D.nx d H) :
  ∃W:Nat->Nat->St->Hp->Prop,(∃m,W 0 m d H)/\∀i m d H,W i m d H ->
   ((Fd lo n).stop i H/\D.nx d H)\/((Fd lo n).go i H/\∃N:St->Hp->Prop,(∀l r,N l r->∃v,v < m/\W (i+1) v l r)/\∀x r,(Fd lo n).yld i H x r->g x d r fun j t=>u {D with nx:=N,ct:=N,bk:=D.nx} j t):=by
 refine⟨fun i m d H=>m=n-i/\i<=n/\q i d H,⟨n,by simp,Ld _,z⟩,?_⟩;rintro i m d H ⟨rfl,A,p⟩
 by_cases o:i<n
 ·refine .inr ⟨o,q (i+1),fun l r w=>⟨n - (i+1),by omega,rfl,o,w⟩,fun x r y=>?_⟩;obtain⟨e,y⟩:=y;subst e y;exact hs i d _ o p
 ·have e:i=n:=by omega
  subst e;exact .inl ⟨lj _,hd d H p⟩
noncomputable abbrev R2:=V->V->Hp->VK->Prop
noncomputable def mW(X:Cx)(f:j3->j3->Sem j3)(r:R2):Prop :=
 ∀(d:List (Addr×Obj)) (s:mu) (e:St) (H:Hp) (x y:V) (v u:j3) (Q:VK),Inv X d e H s->RelV x v->RelV y u->r x y H Q ->
  La (Lr X.prog X.w) X.A (f v u) (EP X d e Q) X.xe s
noncomputable def Jd(X:Cx)(f:j3->Sem j3)(r:V->Hp->VK->Prop):Prop :=
 ∀(d:List (Addr×Obj)) (s:mu) (e:St) (H:Hp) (x:V) (v:j3) (Q:VK),Inv X d e H s->RelV x v->r x H Q ->
  La (Lr X.prog X.w) X.A (f v) (EP X d e Q) X.xe s
noncomputable def iN(X:Cx)(f:j3)(r:List V->Hp->VK->Prop):Prop :=
 ∀(d:List (Addr×Obj)) (s:mu) (e:St) (H:Hp) (g:List V) (j:List j3) (Q:VK),Inv X d e H s->Vals g j->r g H Q ->
  La (Lr X.prog X.w) X.A (call f j) (EP X d e Q) X.xe s
noncomputable def Je(X:Cx)(r:V->Hp->(Bool->Hp->Prop)->Prop):Prop :=
 ∀(d:List (Addr×Obj)) (s:mu) (e:St) (H:Hp) (x:V) (v:j3) (Q:Bool->Hp->Prop),Inv X d e H s->RelV x v->r x H Q ->
  La (Lr X.prog X.w) X.A (truthy v) (TP X d e Q) X.xe s
noncomputable abbrev Kd(r:R2)(x:V)(Q:VK):VK:=fun y d=>r x y d Q
noncomputable abbrev Ke(r:R2)(e:TE)(d:St)(Q:VK):VK:=fun x g=>e d g (Kd r x Q)
noncomputable abbrev Dn(r:R2)(g e:TE):TE:=fun d H Q=>g d H (Ke r e d Q)
noncomputable abbrev Kf(r:V->Hp->VK->Prop)(Q:VK):VK:=fun x d=>r x d Q
noncomputable abbrev Kg(r:V->Hp->VK->Prop)(e:TE):TE:=fun d H Q=>e d H (Kf r Q)
noncomputable def rI(C:Int->Int->Prop)(g:Int->Int->V):R2:=fun x y H Q=>∃i j,x=.int i/\y=.int j/\C i j/\Q (g i j) H
noncomputable def Ff(g:Int->Int->V):R2:=fun x y H Q=>∃i j,x=.int i/\y=.int j/\Q (g i j) H
noncomputable def rU(g:Int->V):V->Hp->VK->Prop:=fun x H Q=>∃i,x=.int i/\Q (g i) H
section
variable {X:Cx}{a b c:Expr}{ta tb tc:TE}{pos:Pos}
theorem Fg(z:PE X a ta)(t:PE X b tb){d:List (Addr×Obj)}{s:mu}{e:St}{H:Hp}{R:V->V->Hp->Prop}(I:Inv X d e H s)
  (h:ta e H fun x o=>tb e o fun y g=>R x y g) {Q:j3->mu->Prop}{f:j3->j3->Sem j3}
  (hf:∀v u m x y g,Inv X d e g m->RelV x v->RelV y u->R x y g->La (Lr X.prog X.w) X.A (f v u) Q X.xe m) :
  La (Lr X.prog X.w) X.A (eval a X.env) (fun v l=>La (Lr X.prog X.w) X.A (eval b X.env) (fun u j=>La (Lr X.prog X.w) X.A (f v u) Q X.xe j) X.xe l) X.xe s:=by
 refine cO (z d s e H _ I h) fun v p ⟨x,o,C,q,q1⟩=>?_;refine cO (t d p e o _ C q1) fun u m ⟨y,g,B,r2,r⟩=>?_;exact hf v u m x y g B q r2 r
theorem aX{op:Operator}{r:R2}(m:mW X (Nn op) r)(p:PE X a ta)(o:PE X b tb):PE X (.BinOp a op b pos) (Dn r ta tb):=by
 intro d s e H Q I h;exact wpAny_BinOp (Fg p o I h fun v u g x y w t l j q=>m d g e w x y v u Q t l j q)
theorem nj{op:UnaryOp}{r:V->Hp->VK->Prop}(l:Jd X (unaryOp op) r)(m:PE X a ta):PE X (.UnaryOp op a pos) (Kg r ta):=by
 intro d s e H Q I h;exact UnaryOp_ (cO (m d s e H _ I h) fun v g ⟨x,p,o,j,q1⟩=>l d g e p x v Q o j q1)
theorem IA{f:j3->j3->Sem j3}{C:Int->Int->Prop}{g:Int->Int->Int}
  (rule:∀(i j:Int) (t u:Tok) (s:mu) (Q:j3->mu->Prop) (E:j3->mu->Prop),C i j->Q (.int (g i j) s.toks) {s with toks:=s.toks+1}->La (Lr X.prog X.w) X.A (f (.int i t) (.int j u)) Q E s) :
  mW X f (rI C fun i j=>.int (g i j)):=by
 intro d s p H x y v u Q I m l h;obtain⟨i,j,rfl,rfl,o,q⟩:=h;obtain⟨t,rfl⟩:=m;obtain⟨e,rfl⟩:=l;exact rule i j t e s _ _ o ⟨.int (g i j),H,I.tok _,⟨_,rfl⟩,q⟩
theorem G5{f:j3->j3->Sem j3}{g:Int->Int->Int}
  (rule:∀(i j:Int) (t u:Tok) (s:mu) (Q:j3->mu->Prop) (E:j3->mu->Prop),Q (.int (g i j) s.toks) {s with toks:=s.toks+1}->La (Lr X.prog X.w) X.A (f (.int i t) (.int j u)) Q E s) :
  mW X f (Ff fun i j=>.int (g i j)):=by
 intro d s o H x y v u Q I m l h;obtain⟨i,j,rfl,rfl,q⟩:=h;obtain⟨t,rfl⟩:=m;obtain⟨e,rfl⟩:=l;exact rule i j t e s _ _ ⟨.int (g i j),H,I.tok _,⟨_,rfl⟩,q⟩
theorem Fi{f:j3->j3->Sem j3}{g:Int->Int->Bool}
  (rule:∀(i j:Int) (t u:Tok) (s:mu) (Q:j3->mu->Prop) (E:j3->mu->Prop),Q (.bool (g i j)) s->La (Lr X.prog X.w) X.A (f (.int i t) (.int j u)) Q E s) :
  mW X f (Ff fun i j=>.bl (g i j)):=by
 intro d s o H x y v u Q I m l h;obtain⟨i,j,rfl,rfl,q⟩:=h;obtain⟨t,rfl⟩:=m;obtain⟨e,rfl⟩:=l;exact rule i j t e s _ _ ⟨.bl (g i j),H,I,rfl,q⟩
noncomputable def G6(i j:Int):Prop:=0<j/\j<1073741824
noncomputable def G7(i j:Int):Prop:=0<=j/\j<=1000000/\i.natAbs<2 ^ 64
noncomputable def Dq(i j:Int):Prop:=(-(2 ^ 64)<i/\i<2 ^ 64)\/(-(2 ^ 64)<j/\j<2 ^ 64)
theorem Dq.ok{i j:Int}(h:Dq i j):IntMulOk i j:=by
 rcases h with⟨h1,h2⟩|⟨h1,h2⟩
 ·exact .of_left (intBits_le_64 h1 h2)
 ·exact .of_right (intBits_le_64 h1 h2)
theorem cR:mW X (Nn .Add) (Ff fun i j=>.int (i+j)):=G5 fun _ _ _ _ _ _ _ q=>add_int q
theorem bL:mW X (Nn .Sub) (Ff fun i j=>.int (i-j)):=G5 fun _ _ _ _ _ _ _ q=>sub_int q
theorem jf:mW X (Nn .Mult) (rI Dq fun i j=>.int (i*j)):=IA fun _ _ _ _ _ _ _ d q=>mul_int q d.ok
theorem jK:mW X (Nn .FloorDiv) (rI G6 fun i j=>.int (i / j)):=IA fun i j _ _ _ _ _ d q=>by
 have g:(0:Int)<j:=d.1;have e:j<1073741824:=d.2;exact floordiv_int (by omega) (by rw[Int.fdiv_eq_ediv_of_nonneg i (by omega)];exact q) (.inl (PyProof.noPylong_small (by omega)))
theorem hU:mW X (Nn .Mod) (rI (fun _ j=>0<j) fun i j=>.int (i % j)):=IA fun i j _ _ _ _ _ d q=>by
 have e:(0:Int)<j:=d;exact mod_int' (by omega) (by rw[Int.fmod_eq_emod_of_nonneg i (by omega)];exact q)
theorem Fj:mW X (Nn .Pow) (rI G7 fun i j=>.int (i ^ j.toNat)):=IA fun _ _ _ _ _ _ _ d q=>pow_int_small d.1 d.2.1 d.2.2 q
theorem Kh{f:j3->Sem j3}{g:Int->Int}
  (rule:∀(i:Int) (t:Tok) (s:mu) (Q:j3->mu->Prop) (E:j3->mu->Prop),Q (.int (g i) s.toks) {s with toks:=s.toks+1}->La (Lr X.prog X.w) X.A (f (.int i t)) Q E s) :
  Jd X f (rU fun i=>.int (g i)):=by
 intro d s j H x v Q I e h;obtain⟨i,rfl,q⟩:=h;obtain⟨t,rfl⟩:=e;exact rule i t s _ _ ⟨.int (g i),H,I.tok _,⟨_,rfl⟩,q⟩
theorem jZ:Jd X (unaryOp .USub) (rU fun i=>.int (-i)):=Kh fun _ _ _ _ _ q=>neg_int q
end
noncomputable def G8:V->V->Bool
 |.iP,.iP=>true|.iP,.int _=>true|.int _,.iP=>true|.iP,.bl _=>true|.bl _,.iP=>true|.iP,.str _=>true|.str _,.iP=>true
 |.int _,.int _=>true|.bl _,.bl _=>true|.str _,.str _=>true|.byt _,.byt _=>true
 |.int _,.str _=>true|.str _,.int _=>true|.bl _,.str _=>true|.str _,.bl _=>true
 |_,_=>false
noncomputable def JJ:R2:=fun x y H Q=>G8 x y=true/\Q (.bl (decide (x=y))) H
noncomputable def Km:R2:=fun x y H Q=>G8 x y=true/\Q (.bl (!decide (x=y))) H
theorem yL{i j:Int}:decide (V.int i=V.int j)=(i == j):=by
 rw[OI];simp
theorem Bf{i j:Bool}:decide (V.bl i=V.bl j)=(i == j):=by
 rw[OI];simp
theorem yM{i j:Str}:decide (V.str i=V.str j)=(i == j):=by
 rw[OI];simp
theorem yN{i j:Array UInt8}:decide (V.byt i=V.byt j)=(i.toList == j.toList):=by
 rw[OI]
 cases i
 cases j
 simp
section
variable {X:Cx}{a b c:Expr}{ta tb tc:TE}{pos:Pos}
theorem cC{d:List (Addr×Obj)}{g:St}{H:Hp}{s:mu}{Q:VK}{k j:Bool}(I:Inv X d g H s)(q:Q (.bl k) H)(e:k=j):EP X d g Q (.bool j) s:=by
 subst e;exact⟨.bl k,H,I,rfl,q⟩
theorem bJ:mW X (ML .Eq) JJ:=by
 intro m s o H x y v u Q I l d h;obtain⟨g,q⟩:=h
 cases x with
 |iP =>
  cases l
  cases y with
  |iP=>cases d;exact PySem.EqNone.eq_none_none (cC I q (by simp))
  |bl j=>cases d;exact PySem.EqNone.eq_none_bool (cC I q (by simp))
  |int j=>obtain⟨e,rfl⟩:=d;exact PySem.EqNone.eq_none_int (cC I q (by simp))
  |str j=>obtain⟨e,rfl⟩:=d;exact PySem.EqNone.eq_none_str (cC I q (by simp))
  |_=>exact absurd (show false=true from g) Lg
 |bl i =>
  cases l
  cases y with
  |iP=>cases d;exact PySem.EqNone.eq_bool_none (cC I q (by simp))
  |bl j=>cases d;exact eq_bool (cC I q Bf)
  |str j=>obtain⟨e,rfl⟩:=d;exact PySem.EqMixed.eq_bool_str (cC I q (by simp))
  |_=>exact absurd (show false=true from g) Lg
 |int i =>
  obtain⟨t,rfl⟩:=l
  cases y with
  |iP=>cases d;exact PySem.EqNone.eq_int_none (cC I q (by simp))
  |int j=>obtain⟨e,rfl⟩:=d;exact eq_int (cC I q yL)
  |str j=>obtain⟨e,rfl⟩:=d;exact PySem.EqMixed.eq_int_str (cC I q (by simp))
  |_=>exact absurd (show false=true from g) Lg
 |str i =>
  obtain⟨t,rfl⟩:=l
  cases y with
  |iP=>cases d;exact PySem.EqNone.eq_str_none (cC I q (by simp))
  |bl j=>cases d;exact PySem.EqMixed.eq_str_bool (cC I q (by simp))
  |int j=>obtain⟨e,rfl⟩:=d;exact PySem.EqMixed.eq_str_int (cC I q (by simp))
  |str j=>obtain⟨e,rfl⟩:=d;exact eq_str (cC I q yM)
  |_=>exact absurd (show false=true from g) Lg
 |byt i =>
  obtain⟨t,rfl⟩:=l
  cases y with
  |byt j=>obtain⟨e,rfl⟩:=d;exact PySem.W.eq_bytes (cC I q yN)
  |_=>exact absurd (show false=true from g) Lg
 |_=>cases y<;>exact absurd (show false=true from g) Lg
theorem Ez:mW X (ML .NotEq) Km:=by
 intro m s o H x y v u Q I l d h;obtain⟨g,q⟩:=h
 cases x with
 |iP =>
  cases l
  cases y with
  |iP=>cases d;exact PySem.EqNone.ne_none_none (cC I q (by simp))
  |bl j=>cases d;exact PySem.EqNone.ne_none_bool (cC I q (by simp))
  |int j=>obtain⟨e,rfl⟩:=d;exact PySem.EqNone.ne_none_int (cC I q (by simp))
  |str j=>obtain⟨e,rfl⟩:=d;exact PySem.EqNone.ne_none_str (cC I q (by simp))
  |_=>exact absurd (show false=true from g) Lg
 |bl i =>
  cases l
  cases y with
  |iP=>cases d;exact PySem.EqNone.ne_bool_none (cC I q (by simp))
  |bl j=>cases d;exact ne_bool (cC I q (congrArg not Bf))
  |str j=>obtain⟨e,rfl⟩:=d;exact PySem.EqMixed.ne_bool_str (cC I q (by simp))
  |_=>exact absurd (show false=true from g) Lg
 |int i =>
  obtain⟨t,rfl⟩:=l
  cases y with
  |iP=>cases d;exact PySem.EqNone.ne_int_none (cC I q (by simp))
  |int j=>obtain⟨e,rfl⟩:=d;exact ne_int (cC I q (congrArg not yL))
  |str j=>obtain⟨e,rfl⟩:=d;exact PySem.EqMixed.ne_int_str (cC I q (by simp))
  |_=>exact absurd (show false=true from g) Lg
 |str i =>
  obtain⟨t,rfl⟩:=l
  cases y with
  |iP=>cases d;exact PySem.EqNone.ne_str_none (cC I q (by simp))
  |bl j=>cases d;exact PySem.EqMixed.ne_str_bool (cC I q (by simp))
  |int j=>obtain⟨e,rfl⟩:=d;exact PySem.EqMixed.ne_str_int (cC I q (by simp))
  |str j=>obtain⟨e,rfl⟩:=d;exact ne_str (cC I q (congrArg not yM))
  |_=>exact absurd (show false=true from g) Lg
 |byt i =>
  obtain⟨t,rfl⟩:=l
  cases y with
  |byt j=>obtain⟨e,rfl⟩:=d;exact PySem.W.ne_bytes (cC I q (congrArg not yN))
  |_=>exact absurd (show false=true from g) Lg
 |_=>cases y<;>exact absurd (show false=true from g) Lg
theorem lY:mW X (ML .Lt) (Ff fun i j=>.bl (decide (i<j))):=Fi fun _ _ _ _ _ _ _ q=>lt_int q
theorem nu:mW X (ML .Gt) (Ff fun i j=>.bl (decide (j<i))):=Fi fun _ _ _ _ _ _ _ q=>gt_int q
theorem G9:mW X (ML .GtE) (Ff fun i j=>.bl (decide (j<=i))):=Fi fun _ _ _ _ _ _ _ q=>ge_int q
theorem nG(b:Expr){op:CmpOp}(h:op≠.In:=by decide)(d:op≠.NotIn:=by decide):QU op b=false:=by
 have g:(op == CmpOp.In)=false:=by cases op<;>first|rfl|exact absurd rfl h
 have e:(op == CmpOp.NotIn)=false:=by cases op<;>first|rfl|exact absurd rfl d
 cases b<;>simp[QU,g,e]
theorem kW{op:CmpOp}{r:R2}(m:mW X (ML op) r)(p:PE X a ta)(o:PE X b tb)(hm:QU op b=false):PE X (.Compare a [op] [b] pos) (Dn r ta tb):=by
 intro d s e H Q I h;exact wpAny_Compare1 (Fg p o I h fun v u g x y w t l j q=>m d g e w x y v u Q t l j q) hm
noncomputable def Kn(Q:Bool->Hp->Prop):VK:=fun x d=>∃k,x=.bl k/\Q k d
noncomputable abbrev EA(t:TE):TT:=fun d H Q=>t d H (Kn Q)
theorem eX{op:CmpOp}{r:R2}(q:mW X (ML op) r)(w:PE X a ta)(t:PE X b tb)(hm:QU op b=false):PT X (.Compare a [op] [b] pos) (EA (Dn r ta tb)):=by
 intro d s g H Q I h
 refine wpAny_isTrue_Compare1 (cO (w d s g H _ I h) fun v l ⟨x,G,C,m,q1⟩=>cO (t d l g G _ C q1) fun u j ⟨y,E,B,r2,p⟩ =>
  cO (q d j g E x y v u _ B m r2 p) fun c J ⟨z,D,A,r3,k,e,o⟩=>?_) hm
 subst e
 cases r3
 exact QG ⟨D,A,o⟩
noncomputable def Fl(K:bA)(x:V)(H:Hp)(k:Bool):Prop :=
 match x with
 |.iP=>k=false
 |.bl b=>k=b
 |.int i=>k=(i != 0)
 |.str y=>y.length<=nk/\k=((y.length:Int) != 0)
 |.byt y=>y.size<=nk/\k=((y.size:Int) != 0)
 |.ref p=>(∃d,bz K H p d/\k=!d.isEmpty)\/(∃d,bN K H p d/\k=!d.isEmpty)\/∃e,H p=some (.dK e)/\k=!e.isEmpty
 |_=>False
theorem xH{d:Type}{kvs:List (d×V)}{e:List (d×j3)}(r:KV kvs e):(!e.isEmpty)=!kvs.isEmpty:=by
 cases r<;>rfl
theorem qQ{xs:List V}{d:List j3}(r:Vals xs d):(!d.toArray.isEmpty)=!xs.isEmpty:=by
 cases r<;>simp
theorem nH:(nk:Nat)<2 ^ 63:=by rw[QI];decide
theorem Fo:Je X (fun x H Q=>∃k,Fl X.K x H k/\Q k H):=by
 intro B s G H x v Q I o h;obtain⟨k,e,q⟩:=h;have L:=nH;have J:nk=16777216:=QI
 cases x with
 |iP =>
  cases o
  have d:k=false:=e;subst d;exact truthy_none ⟨H,I,q⟩
 |bl b =>
  cases o
  have d:k=b:=e;subst d;exact QG ⟨H,I,q⟩
 |int i =>
  obtain⟨t,rfl⟩:=o;have d:k=(i != 0):=e;subst d;exact PySem.P.truthy_int ⟨H,I,q⟩
 |str y =>
  obtain⟨t,rfl⟩:=o;obtain⟨D,d⟩:y.length<=nk/\k=((y.length:Int) != 0):=e;subst d;exact PySem.P.truthy_str (by omega) ⟨H,I.tok _,q⟩
 |byt y =>
  obtain⟨t,rfl⟩:=o;obtain⟨D,d⟩:y.size<=nk/\k=((y.size:Int) != 0):=e;subst d;exact PySem.W.truthy_bytes (by omega) ⟨H,I.tok _,q⟩
 |ref p =>
  cases o
  have d:(∃l,bz X.K H p l/\k=!l.isEmpty)\/(∃l,bN X.K H p l/\k=!l.isEmpty)\/∃g,H p=some (.dK g)/\k=!g.isEmpty:=e;rcases d with⟨l,hx,d⟩|⟨l,hx,d⟩|⟨g,hx,d⟩
  ·subst d;obtain⟨A,r,z,C⟩:=I.list hx;have j:=r.length;exact wpAny_truthy_list z.isList (by simp only[rj];omega) ⟨H,I.tok _,by rw[qQ r];exact q⟩
  ·subst d;obtain⟨A,r,z,C⟩:=I.tuple hx;have j:=r.length;exact truthy_tuple z (by simp only[rj];omega) ⟨H,I.tok _,by rw[qQ r];exact q⟩
  ·subst d;obtain⟨C,E,u,r,m⟩:g.length<=nk/\(p == MC)=false/\∃u,KV g u/\s.heap.DictOf (cN X.prog X.w) p u:=I.hok p _ hx;have j:g.length=u.length:=Paired.length r;exact wpAny_truthy_dict E m (by omega) ⟨H,I.tok _,by rw[xH r];exact q⟩
 |_=>exact(show False from e).elim
theorem oh(p:PE X a ta)(o:∀d,isTrue a X.env d=(do let v ←d;standAt a.pos;QF [v] (truthy v))) :
  PT X a (fun g H Q=>ta g H fun x j=>∃k,Fl X.K x j k/\Q k j):=by
 intro e s g H Q I h;exact isTrue_plain (cO (p e s g H _ I h) fun v l ⟨x,r,q,m,q1⟩=>Fo e l g r x v Q q m q1) (o _)
theorem kX:mW X (Nn .Add) (fun x y H Q=>∃i j,x=.str i/\y=.str j/\i.length+j.length<=nk/\Q (.str (i++j)) H):=by
 intro d s o H x y v u Q I l g h;obtain⟨i,j,rfl,rfl,m,q⟩:=h;obtain⟨t,rfl⟩:=l;obtain⟨e,rfl⟩:=g;exact add_str (fun e p=>⟨.str (i++j),H,I.tok _,⟨_,rfl⟩,q⟩) m
theorem vals1{x:V}{us:List j3}(r:Vals [x] us):∃u,us=[u]/\RelV x u:=by
 cases r with
 |cons r1 r2=>cases r2;exact⟨_,rfl,r1⟩
theorem vals2{x y:V}{us:List j3}(r:Vals [x,y] us):∃u d,us=[u,d]/\RelV x u/\RelV y d:=by
 cases r with
 |cons r1 r2 =>
  cases r2 with
  |cons r3 r4=>cases r4;exact⟨_,_,rfl,r1,r3⟩
theorem pK(g:X.calm=true):iN X (.builtin "max") (fun xs H Q=>∃i j,xs=[.int i,.int j]/\Q (.int (if j>i then j else i)) H):=by
 intro e s l H xs o Q I r h;obtain⟨i,j,rfl,q⟩:=h;obtain⟨u,m,rfl,⟨t,rfl⟩,⟨v,rfl⟩⟩:=vals2 r;refine max_two_ints (I.ok.hd g) fun w p k=>⟨_,H,I.kept k,?_,q⟩
 by_cases d:j>i
 ·rw[if_pos d,if_pos d];exact⟨_,rfl⟩
 ·rw[if_neg d,if_neg d];exact⟨_,rfl⟩
theorem zY(g:X.calm=true):iN X (.builtin "min") (fun xs H Q=>∃i j,xs=[.int i,.int j]/\Q (.int (if j<i then j else i)) H):=by
 intro e s l H xs o Q I r h;obtain⟨i,j,rfl,q⟩:=h;obtain⟨u,m,rfl,⟨t,rfl⟩,⟨v,rfl⟩⟩:=vals2 r;refine min_two_ints (I.ok.hd g) fun w p k=>⟨_,H,I.kept k,?_,q⟩
 by_cases d:j<i
 ·rw[if_pos d,if_pos d];exact⟨_,rfl⟩
 ·rw[if_neg d,if_neg d];exact⟨_,rfl⟩
theorem iY:iN X (.type "int") (fun xs H Q=>(∃i,xs=[.int i]/\Q (.int i) H)\/∃k,xs=[.bl k]/\Q (.int (if k then 1 else 0)) H):=by
 intro d s g H xs j Q I r h;rcases h with⟨i,rfl,q⟩|⟨k,rfl,q⟩
 ·obtain⟨u,rfl,t,rfl⟩:=vals1 r;exact call_int_int ⟨.int i,H,I,⟨_,rfl⟩,q⟩
 ·obtain⟨u,rfl,e⟩:=vals1 r
  cases e
  exact call_int_bool ⟨.int (if k then 1 else 0),H,I.tok _,⟨_,rfl⟩,q⟩
end
section
variable {prog:FG}{w:Lk}{A:Lz}{E:j3->mu->Prop}{s:mu}{K:bA}{x dx C f:Addr}{mA:Str->Option j3}{name:Str}{v:j3}
end
noncomputable def Dr(f:Str)(v:V):List (Str×V)->List (Str×V)
 | []=>[(f,v)]
 |(g,x)::r=>if g=f then(g,v)::r else(g,x)::Dr f v r
theorem lV.some_of{v:V}{o:Option j3}(r:lV (some v) o):∃u,o=some u/\RelV v u:=by
 cases o with
 |none=>exact(show False from r).elim
 |some u=>exact⟨u,rfl,r⟩
section
variable {P:FG}{w:Lk}{H H':Hp}{h h':Heap}{a C dx:Addr}{fs fs':List (Str×V)}
end
structure JK(K:bA) (C:Addr):Prop where
 pg:SX K C Lw=true
 hd:PySem.W.hasDictIn K C=true
 po:PySem.W.plainOver K C=true
 sa:PySem.W.findIn K (.ref C) "__setattr__"=some (some (.builtin "object.__setattr__"))
theorem JK.get{K:bA}{C:Addr}(c:JK K C)(f:Str):SX K C f=true:=c.pg
section
variable {X:Cx}{pins:List (Addr×Obj)}{σ:St}{H:Hp}{s:mu}{a C dx:Addr}{fs:List (Str×V)}{f:Str}{v:V}{A:Lz}{E:j3->mu->Prop}
end
section
variable {X:Cx}{o e value:Expr}{f:Str}{pos pos' tpos:Pos}{ta tv:TE}
end
section
variable {X:Cx}{pins:List (Addr×Obj)}{σ:St}{H:Hp}{s:mu}{A:Lz}{E:j3->mu->Prop}{Q:j3->mu->Prop}{c:j3}{b:Bool}
end
structure ic(k:Nat) (A:Lz):Prop where
 hd:A.handled=none
 dp:A.depth+2*k+5<recursionLimit
 un:A.units+16*k+200<OA
 gd:A.guards=some []
theorem ic.mono{j k:Nat}{A:Lz}(r:ic k A)(h:j<=k):ic j A:=⟨r.hd,by have:=r.dp;omega,by have:=r.un;omega,r.gd⟩
theorem ic.deeper{k:Nat}{A:Lz}(r:ic (k+1) A)(env:Env):ic k (A.deeper env) :=
 ⟨r.hd,by have:=r.dp;show A.depth+1+2*k+5<_;omega,by have:=r.un;show A.units+3+16*k+200<_;omega,r.gd⟩
theorem ic.depth{k:Nat}{A:Lz}(r:ic k A):A.depth<recursionLimit:=by have:=r.dp;omega
theorem ic.units{k:Nat}{A:Lz}(r:ic k A):A.units+64<OA:=by have:=r.un;omega
noncomputable abbrev zZ:TA:=fun _ H Q=>Q [] H
noncomputable abbrev Ko(x:V)(Q:List V->Hp->Prop):List V->Hp->Prop:=fun d e=>Q (x::d) e
noncomputable abbrev Kp(tr:TA)(d:St)(Q:List V->Hp->Prop):VK:=fun x e=>tr d e (Ko x Q)
noncomputable abbrev qd(e:TE)(tr:TA):TA:=fun d H Q=>e d H (Kp tr d Q)
section
variable {X:Cx}{e:Expr}{es:List Expr}{te:TE}{t:TA}{pos:Pos}
theorem ak:PA X [] zZ:=fun _ _ _ _ H Q I h=>OW ⟨[],H,I,.nil,h⟩
theorem aE(p:PE X e te)(hr:PA X es t)(hs:LA (e::es) X.env=(false,eval e X.env)::LA es X.env:=by rfl):PA X (e::es) (qd te t):=by
 intro pos d s g H Q I h;rw[hs];show La _ _ (spliced ((false,eval e X.env)::OL pos (LA es X.env))) _ _ s;refine NR (cO (p d s g H _ I h) fun u l ⟨x,w,r,m,q1⟩=>?_);exact cO (hr pos d l g w _ r q1) fun y z ⟨j,v,q,r2,o⟩=>⟨x::j,v,q,.cons m r2,o⟩
noncomputable def Kq(Q:VK):List V->Hp->Prop:=fun d g=>d.length<=nk/\∀p,g p=none->Q (.ref p) (upd g p (.tup d))
noncomputable def Kr(Q:VK):List V->Hp->Prop:=fun d g=>d.length<=nk/\∀p,g p=none->Q (.ref p) (upd g p (.lst d))
noncomputable abbrev Aa(t:TA):TE:=fun d H Q=>t d H (Kq Q)
noncomputable abbrev Fp(t:TA):TE:=fun d H Q=>t d H (Kr Q)
theorem dm{x1}(h:PA X es t):PE X (.Tuple es x1 pos) (Aa t):=by
 intro d s m H Q I v;refine wpAny_Tuple_spliced (cO (h pos d s m H _ I v) fun p g ⟨o,l,j,r,z,q⟩=>⟨by rw[←r.length];exact z,?_⟩);have w:l g.heap.objs.size=none:=j.hok.fresh (lj _);refine⟨.ref g.heap.objs.size,upd l g.heap.objs.size (.tup o),j.laid (t':=g.toks) (fun b u e=>mC _ e) (lj _) ?_,rfl,q _ w⟩;exact⟨z,p,r,⟨_,K9 _ rfl,rfl,_,rfl⟩,_,K9 _ rfl,rfl⟩
theorem bg(h:PA X es t):PE X (.List es pos) (Fp t):=by
 intro d s m H Q I v;refine wpAny_List_spliced (cO (h pos d s m H _ I v) fun p g ⟨o,l,j,r,z,q⟩=>⟨by rw[←r.length];exact z,?_⟩);have w:l g.heap.objs.size=none:=j.hok.fresh (lj _);refine⟨.ref g.heap.objs.size,upd l g.heap.objs.size (.lst o),j.laid (t':=g.toks) (fun b u e=>mC _ e) (lj _) ?_,rfl,q _ w⟩;exact⟨z,p,0,r,K9 _ rfl⟩
end
noncomputable abbrev Sp:=List V->Hp->VK->XK->Prop
noncomputable abbrev xD:=List Env->Hp->mu->XK->j3->mu->Prop
structure Ab(P:FG) (w:Lk) (K:bA) (mg:Str->Option j3) (base:Heap) (A:Lz) (outer:List Env) (s:mu) (H:Hp):Prop where
 frames:A.frames=some outer
 mod:Mod K mg base
 bs:∀b o,base.get? b=some o->s.heap.get? b=some o/\H b=none
 bsz:base.objs.size<=s.heap.objs.size
 pH:s.heap.FunFrames base outer
 frf:∀b∈frs outer,H b=none
 hok:m9 P w H s.heap
 bare:QE s.gens
noncomputable def CE(d:List Env)(P:FG)(w:Lk)(H:Hp)(s:mu)(Q:VK)(u:j3)(s':mu):Prop :=
 ∃v e,s'.os=s.os/\QE s'.gens/\Un (frs d) [] H e s.heap s'.heap/\m9 P w e s'.heap/\RelV v u/\Q v e
noncomputable def CR(g:xD)(d:List Env)(P:FG)(w:Lk)(H:Hp)(s:mu)(Q:VK)(E:XK)(r:Ss)(s':mu):Prop :=
 match r with
 |.ok (.ret u)=>CE d P w H s Q u s'
 |.ok _=>False
 |.error e=>g d H s E e s'
structure bK(P:FG) (w:Lk) (K:bA) (mg:Str->Option j3) (base:Heap) (CX:xD) (k:Nat) (f:Addr) (fd:zo) (ps:List Str) (sp:Sp):Prop where
 len:∀vs H Q E,sp vs H Q E->vs.length=ps.length
 run:∀(A:Lz) (outer:List Env) (s:mu) (H:Hp) (args:Args) (us:List j3) (vs:List V) (Q:VK) (E:XK),ic k A->Ab P w K mg base A outer s H->SE s fd args (ps.zip us)->Vals vs us->sp vs H Q E ->
  OX (Lr P w) A (.call (.ref f) args) (CR CX outer P w H s Q E) s
theorem bK.mono{P:FG}{w:Lk}{K:bA}{mg:Str->Option j3}{d:Heap}{m:xD}{j k:Nat}{f:Addr}{l:zo}{ps:List Str}{sp:Sp}(F:bK P w K mg d m j f l ps sp)(h:j<=k) :
  bK P w K mg d m k f l ps sp:=⟨F.len,fun A e s H g p o Q E hr=>F.run A e s H g p o Q E (hr.mono h)⟩
section
variable {X:Cx}{pins:List (Addr×Obj)}{σ:St}{H:Hp}{s s':mu}
theorem Inv.Jf(I:Inv X pins σ H s):Ab X.prog X.w X.K X.mg X.base X.A X.stack s H :=
 ⟨I.ok.frames,I.ok.mod,I.bs,I0 I.ok.bsz I.sz,I.stack,I.uh,I.hok,I.bare⟩
theorem Inv.after{Q:VK}{u:j3}(I:Inv X pins σ H s)(h:CE X.stack X.prog X.w H s Q u s'):EP X pins σ Q u s':=by
 obtain⟨v,p,m,e,un,l,r,q⟩:=h;obtain⟨o,g,d,t,j⟩:=s';obtain rfl:j=s.os:=m;exact⟨v,p,I.call (h':=o) (g':=g) (d':=d) (t':=t) (ch:=[]) un l e (fun b z=>absurd z (by simp)),r,q⟩
end
noncomputable abbrev Ks(sp:Sp)(dvs:List V)(E:XK)(Q:VK):List V->Hp->Prop:=fun d e=>sp (d++dvs) e Q E
noncomputable abbrev Hg(sp:Sp)(dvs:List V)(E:XK)(t:TA):TE:=fun d H Q=>t d H (Ks sp dvs E Q)
noncomputable def Binds(K:bA)(e:zo)(ps:List Str)(ds:List j3):Prop :=
 ∀(s:mu) (d:List j3),K.In s.heap->(d++ds).length=ps.length->SE s e ⟨d,[]⟩ (ps.zip (d++ds))
theorem Binds.all{K:bA}{e:zo}{ps:List Str}(h:∀us:List j3,us.length=ps.length->bindArgs e ⟨us,[]⟩=pure (ps.zip us)):Binds K e ps []:=fun s us _ d=>by
 rw[LH]at d⊢;exact .of_eq (h us d)
noncomputable def Passes(l:xD)(X:Cx)(E:XK):Prop:=∀(d:List (Addr×Obj)) (j:St) (H:Hp) (s:mu) (e:j3) (g:mu),Inv X d j H s->l X.stack H s E e g->X.xe e g
section
variable {X:Cx}{CX:xD}{k:Nat}{f C:Addr}{fd:zo}{ps:List Str}{sp:Sp}{dvs:List V}{ds:List j3}{E:XK}{x m:Str}{p pos apos:Pos}{e o:Expr}{es:List Expr}{ta:TE}{t:TA}
theorem xJ{d:List (Addr×Obj)}{l:St}{H:Hp}{s:mu}{Q:VK}{us:List j3}{j:List V}(F:bK X.prog X.w X.K X.mg X.base CX k f fd ps sp)(hr:ic k X.A)(z:Binds X.K fd ps ds)(hd:Vals dvs ds)(v:Passes CX X E)
  (I:Inv X d l H s) (r:Vals j us) (h:sp (j++dvs) H Q E):La (Lr X.prog X.w) X.A (call (.ref f) us) (EP X d l Q) X.xe s:=by
 have r2:Vals (j++dvs) (us++ds):=r.append hd;have y:(us++ds).length=ps.length:=by rw[←r2.length];exact F.len _ _ _ _ h
 refine Su (OY (F.run X.A X.stack s H ⟨us,[]⟩ (us++ds) (j++dvs) Q E hr I.Jf (z s us I.A5 y) r2 h) fun r q g=>?_)
 cases r with
 |error e=>exact v d l H s e q I g
 |ok fl =>
  cases fl with
  |ret u=>exact I.after g
  |next=>exact Mt g
  |brk=>exact Mt g
  |cont=>exact Mt g
theorem jL(F:bK X.prog X.w X.K X.mg X.base CX k f fd ps sp)(hr:ic k X.A)(v:Gl X x)(hm:X.mg x=some (.ref f))(u:MO X.K (.ref f)=true)(y:Binds X.K fd ps ds)(hd:Vals dvs ds)(l:Passes CX X E)
  (ha:PA X (e::es) t) (hdb:(x == ("__debug__":Str))=false:=by decide) (he:LA (e::es) X.env=(false,eval e X.env)::LA es X.env:=by rfl) (hpl:(OL pos (LA es X.env)).any (·.1)=false:=by rfl) :
  PE X (.Call (.Name x p) (e::es) [] pos) (Hg sp dvs E t):=by
 intro d s j H Q I h;refine L0 (um I v hm ?_ hdb);refine Qi (h₀:=X.base) I.ok.mod.kin u (cO (ha pos d s j H _ I h) fun B D ⟨z,G,g,r,q⟩=>⟨g.A5,?_⟩) he hpl;exact xJ F hr y hd l g r q
end
section
variable {X:Cx}{CX:xD}{k:Nat}{f C:Addr}{fd:zo}{ps ks:List Str}{sp:Sp}{E:XK}{x m:Str}{p pos apos kpos:Pos}{e o:Expr}{es:List Expr}{kws:List Tc}{te ta:TE}{t tk:TA}{nm:Option Str}
variable {g:List j3->List j3->List j3}{gV:List V->List V->List V}
end
structure aI(N P:List Str) (sc:M4):Prop where
 kind:sc.kind=.function
 co:sc.isCoroutine=false
 gen:sc.isGenerator=false
 nd:N.Nodup
 pre:N.take P.length=P
 par:∀x∈P,sc.names.lookup x=some .local\/sc.names.lookup x=some .cell
 nofree:∀y∈sc.names,y.2≠.free
theorem sZ{d:Str->Option Om}{x:Str}:∀{binds:List (Str×j3)}{m:Str->Option j3},(∀v,(x,v)∉binds)->Te d binds m x=m x
 | [],_,_=>rfl
 |(n,v)::r,m,h=>by
  unfold Te;rw[sZ fun w e=>h w (Mc _ e)]
  split
  ·have:x≠n:=by rintro rfl;exact h v MD
   simp[this]
  ·rfl
theorem tq{d:Str->Option Om}{x:Str}:∀{binds:List (Str×j3)}{m:Str->Option j3},(∀v,(x,v)∉binds)->Tf d binds m x=m x
 | [],_,_=>rfl
 |(n,v)::r,m,h=>by
  unfold Tf;rw[tq fun w e=>h w (Mc _ e)]
  split
  ·rfl
  ·have:x≠n:=by rintro rfl;exact h v MD
   simp[this]
theorem tu{d:Str->Option Om}{x:Str}{v:j3}:∀{P:List Str}{e:List j3}{i:Nat}{m:Str->Option j3},P.Nodup->P[i]?=some x->e[i]?=some v->d x=some .local ->
  Te d (P.zip e) m x=some v
 | [],_,_,_,_,h,_,_=>by simp at h
 |_::_,[],_,_,_,_,h,_=>by simp at h
 |p::P,w::e,0,m,nd,h1,h2,hk=>by
  simp at h1 h2;subst h1;subst h2;show Te d ((p,w)::P.zip e) m p=_;unfold Te;rw[sZ fun v g=>(Mp.mp nd).1 (NY g).1,if_pos hk];simp
 |p::P,w::e,i+1,m,nd,h1,h2,hk=>by
  show Te d ((p,w)::P.zip e) m x=_;unfold Te;exact tu (i:=i) (Mp.mp nd).2 (by simpa using h1) (by simpa using h2) hk
theorem tw{d:Str->Option Om}{x:Str}{v:j3}:∀{P:List Str}{e:List j3}{i:Nat}{m:Str->Option j3},P.Nodup->P[i]?=some x->e[i]?=some v->d x≠some .local ->
  Tf d (P.zip e) m x=some v
 | [],_,_,_,_,h,_,_=>by simp at h
 |_::_,[],_,_,_,_,h,_=>by simp at h
 |p::P,w::e,0,m,nd,h1,h2,hk=>by
  simp at h1 h2;subst h1;subst h2;show Tf d ((p,w)::P.zip e) m p=_;unfold Tf;rw[tq fun v g=>(Mp.mp nd).1 (NY g).1,if_neg hk];simp
 |p::P,w::e,i+1,m,nd,h1,h2,hk=>by
  show Tf d ((p,w)::P.zip e) m x=_;unfold Tf;exact tw (i:=i) (Mp.mp nd).2 (by simpa using h1) (by simpa using h2) hk
noncomputable def start(N:List Str)(d:List V):St:=d.map some++LB (N.length-d.length) none
noncomputable def uq(m:xD)(P:FG)(w:Lk)(K:bA)(mg:Str->Option j3)(base:Heap)(N:List Str)(g:Str)(d:M4)(f:Addr)(l:j3)(A:Lz)(outer:List Env)(s:mu)(H:Hp)(E:XK):Cx where
 prog:=P
 w:=w
 K:=K
 mg:=mg
 base:=base
 A:=A.deeper (Ry g d s.heap.objs.size f l)
 N:=N
 s₀:=s
 H₀:=H
 env:=Ry g d s.heap.objs.size f l
 outer:=outer
 stack:=Ry g d s.heap.objs.size f l::outer
 ex:=[]
 calm:=true
 fn:=fun _=>true
 pn:=[]
 xe:=fun e o=>La (Lr P w) (A.deeper (Ry g d s.heap.objs.size f l)) (leaving (Ry g d s.heap.objs.size f l) e) (fun _ j=>m outer H s E e j) (fun p j=>m outer H s E p j) o
theorem vH{d:M4}{n:Nat}{x:Str}(h:d.names.lookup x=some .cell):∃c,(cellsFrom n d.names []).lookup x=some c:=by
 have q:=Rz d.names n [] (.inl h);exact QV.mp q
theorem Ac{O:xD}{P:FG}{w:Lk}{K:bA}{mg:Str->Option j3}{m:Heap}{N ps:List Str}{j:Str}{d:M4}{f:Addr}{I:j3}{A:Lz}{g:List Env}{s J:mu}{H:Hp}{E:XK}{us:List j3}{o:List V}
  (S:aI N ps d) (hd:A.handled=none) (e0:Ab P w K mg m A g s H) (hl:o.length=ps.length) (r:Vals o us)
  (x:InCallC s s.heap.objs.size (Te (Ry j d s.heap.objs.size f I).kindOf (ps.zip us) fun _=>none) (cellsFrom (s.heap.objs.size+1) d.names []) (Tf (Ry j d s.heap.objs.size f I).kindOf (ps.zip us) fun _=>none) J) :
  Inv (uq O P w K mg m N j d f I A g s H E) [] (start N o) H J:=by
 have R:ps.length<=N.length:=by have:=congrArg NP S.pre;rw[Lb]at this;omega
 obtain⟨G,U,rfl,M⟩:=x.done;have t:∀b:Addr,b∉(uq O P w K mg m N j d f I A g s H E).ex:=fun b z=>absurd (show b∈([]:List Addr)from z) (by simp)
 refine⟨⟨e0.mod,S.kind,rfl,rfl,lj _,fun y z c G l=>?_,fun y hy=>?_,fun y c _ h=>?_,fun _=>hd,RX e0.frames,.inr ⟨rfl,rfl⟩,fun b z=>absurd z (t b),e0.bs,e0.bsz,fun b _ _=>t b,fun b z=>absurd z (t b),e0.pH,e0.frf⟩,
  rfl,e0.bare,Un.kept M,⟨_,x.toInCall.ns,fun i y v G l X=>?_⟩,fun y c h=>⟨_,x.cell y c h⟩,e0.hok.fresh (lj _),fun y c h=>?_,fun p C=>absurd (show p∈([]:List (Addr×Obj))from C) (by simp),e0.hok.kept M,?_⟩
 ·exact name_of_addr x.apart (LS G) (LS l)
 ·have hy:d.names.lookup y=some .cell\/d.names.lookup y=some .free:=hy;rcases hy with hy|hy
  ·exact vH hy
  ·exact absurd rfl (S.nofree _ (LS hy))
 ·exact Mb (x.above y c (LS h))
 ·have D:i<o.length:=by
   unfold start at l
   by_cases D:i<o.length
   ·exact D
   ·rw[LJ (by simpa using D)]at l;rw[OQ]at l
    split at l<;>cases l
  have T:o[i]?=some v:=by
   unfold start at l;rw[LR (by simpa using D),rz]at l
   cases e:o[i]? with
   |none=>rw[e]at l;cases l
   |some a=>rw[e]at l;cases l;rfl
  obtain⟨u,L,Q⟩:=r.get T
  have C:ps[i]?=some y:=by
   rw[←S.pre,QW (by omega)];exact G
  have B:ps.Nodup:=by rw[←S.pre];exact S.nd.sublist (SG _ _)
  refine⟨u,Q,?_⟩;rcases S.par y (we C)with k|k
  ·exact .inl ⟨k,tu B C L k⟩
  ·obtain⟨c,e⟩:=vH (n:=s.heap.objs.size+1) k;refine .inr ⟨.inl k,c,e,?_⟩;have q:=x.cell y c e;rw[tw B C L (by show d.names.lookup y≠_;rw[k];decide)]at q;exact q
 ·exact e0.hok.fresh (Mb (x.above y c (LS h)))
 ·unfold start;show _=N.length;rw[lu,bC,Oc];omega
theorem EB{U:xD}{P:FG}{w:Lk}{K:bA}{mg:Str->Option j3}{p:Heap}{k:Nat}{f:Addr}{name j:Str}{m:Q6}{z:List Stmt}{d:M4}{dV kV T pm l ct oc:j3}{an od:Option Addr}
  {osl:Array (Option j3)}{N ps:List Str}{sp:Sp}(lk:K.lookup f=some ⟨oc,od,.func (Ov name j m z d dV kV T pm an l ct),osl⟩) (hcd:Pd K l j=true) (S:aI N ps d)
  (len:∀C H Q E,sp C H Q E->C.length=ps.length)
  (hbody:∀(A:Lz) (g:List Env) (s:mu) (H:Hp) (C:List V) (Q:VK) (E:XK),ic k (A.deeper (Ry j d s.heap.objs.size f l))->sp C H Q E ->
   ∃t,vE (uq U P w K mg p N j d f l A g s H E) z t/\t {nx:=fun _ D=>Q .iP D,rt:=Q} (start N C) H) :
  bK P w K mg p U (k+1) f (Ov name j m z d dV kV T pm an l ct) ps sp:=by
 refine⟨len,fun A g s H aa us C Q E hr R hb r M=>?_⟩;have hl:=len _ _ _ _ M;have KX:K.In s.heap:=R.mod.kin.keeps fun b o e=>(R.bs b o e).1;have Z:s.heap.NoLimit:=R.mod.nolimit.keeps fun b o e=>(R.bs b o e).1
 have G:∀y∈ps.zip us,d.names.lookup y.1=some .local\/(d.names.lookup y.1=some .cell/\((cellsFrom (s.heap.objs.size+1) d.names []).lookup y.1).isSome=true):=fun⟨n,v⟩ hy=>by
  rcases S.par n (NY hy).1 with q|q
  ·exact .inl q
  ·exact .inr ⟨q,Rz _ _ _ (.inl q)⟩
 refine RP hr.depth (KX _ _ lk) rfl S.co S.gen rfl (PySem.W.codeRec_of KX hcd) (hb _ _ _ _ ?_);refine wpAny_newFunctionEnv_cells S.kind G fun ab he s1 x=>?_;subst he;refine⟨Z.keeps x.toInCall.keep,codeAny_func ?_⟩;obtain⟨t,ht,hq⟩:=hbody A g s H C Q E (hr.deeper _) M;have I:Inv (uq U P w K mg p N j d f l A g s H E) [] (start N C) H s1:=Ac S hr.hd R hl r x;refine ME (ht [] s1 (start N C) H _ I hq) (fun fl X L=>?_) fun e X L=>L
 have O:∀{B:St}{D:Hp}{v:V}{u:j3},Inv (uq U P w K mg p N j d f l A g s H E) [] B D X->RelV v u->Q v D->CE g P w H s Q u X :=
  fun{B D v u} J Y q=>⟨v,D,J.os,J.bare,J.base,J.hok,Y,q⟩
 cases fl with
 |ret u =>
  obtain⟨v,B,D,J,Y,q⟩:=L;exact O J Y q
 |next =>
  obtain⟨B,D,J,q⟩:=L;exact O (v:=V.iP) (u:=Value.none) J rfl q
 |brk =>
  obtain⟨_,_,_,q⟩:=L;exact Mt q
 |cont =>
  obtain⟨_,_,_,q⟩:=L;exact Mt q
section
variable {X:Cx}{x:Str}{p pos:Pos}{e:Expr}{es:List Expr}{t:TA}{id T:String}{r:List V->Hp->VK->Prop}
noncomputable abbrev Ku(r:List V->Hp->VK->Prop)(Q:VK):List V->Hp->Prop:=fun d g=>r d g Q
noncomputable abbrev JL(r:List V->Hp->VK->Prop)(t:TA):TE:=fun d H Q=>t d H (Ku r Q)
theorem dS(w:iN X (.builtin id) r)(v:Gl X x)(hm:X.mg x=none)(u:OV x=some (.builtin id))(y:PA X (e::es) t)(hn:x≠"__name__":=by decide)(g:(x == ("__debug__":Str))=false:=by decide)
  (he:LA (e::es) X.env=(false,eval e X.env)::LA es X.env:=by rfl) (hpl:(OL pos (LA es X.env)).any (·.1)=false:=by rfl):PE X (.Call (.Name x p) (e::es) [] pos) (JL r t):=by
 intro d s j H Q I h;refine L0 (jY I v hm u ?_ hn g);exact PyProof.Rows.callWith_builtin1 (cO (y pos d s j H _ I h) fun m o ⟨l,A,z,q,q1⟩=>w d o j A l m Q z q q1) he hpl
theorem Ad(w:iN X (.type T) r)(v:Gl X x)(hm:X.mg x=none)(u:OV x=some (.type T))(y:PA X (e::es) t)(hn:x≠"__name__":=by decide)(g:(x == ("__debug__":Str))=false:=by decide)
  (he:LA (e::es) X.env=(false,eval e X.env)::LA es X.env:=by rfl) (hpl:(OL pos (LA es X.env)).any (·.1)=false:=by rfl):PE X (.Call (.Name x p) (e::es) [] pos) (JL r t):=by
 intro d s j H Q I h;refine L0 (jY I v hm u ?_ hn g);exact LV (cO (y pos d s j H _ I h) fun m o ⟨l,A,z,q,q1⟩=>w d o j A l m Q z q q1) he hpl
end
end L2
namespace HT
open PySem PyProof.Rows
section
open PySem.SeqAt
open PySem.AutoSeq1 (wpAny_loadPart')
open PySem.MeetsSeq PySem.MeetsSeq2 PySem.MeetsSeq3
end
section
variable {prog:FG}{w:Lk}{A:Lz}{E:j3->mu->Prop}{s:mu}
theorem Ds{t b:Addr}{j d:List j3}{Q:j3->mu->Prop}(ht:IsTup s.heap t j.toArray)(G:IsTup s.heap b d.toArray)(z:j≠[])
  (h1:d=[]->Q (.ref t) s) (h2:d≠[]->Q (.ref s.heap.objs.size) {s with heap:=s.heap.push {cls:=.type "tuple",data:=.seq (j++d).toArray}})
  (hsz:j.length+d.length<=nk):La (Lr prog w) A (Nn .Add (.ref t) (.ref b)) Q E s:=by
 obtain⟨⟨cls,C,data,v⟩,r,B,n,hd⟩:=id ht;obtain⟨⟨D,p,u,l⟩,g,o,y,m⟩:=id G;simp only at B hd o m;subst B hd o m;have e:j.toArray++d.toArray=(j++d).toArray:=by simp
 by_cases q:d=[]
 ·exact SH ⟨_,r,rfl⟩ ⟨_,g,rfl⟩ Q7 Sf OZ OR (OG _ _)
   (tuple_addW1 t b j.toArray d.toArray n y C p v l (by simpa using z) (by simp[q])) ⟨r,g,h1 q⟩
 ·refine SH ⟨_,r,rfl⟩ ⟨_,g,rfl⟩ Q7 Sf OZ OR (OG _ _)
   (tuple_addW2 t b j.toArray d.toArray n y C p v l (by simpa using z) (by simpa using q) (by rw[rj,rj];exact hsz)) ⟨r,g,?_⟩
  rw[e];exact h2 q
noncomputable def gj(n d:Nat):Option Int->Nat
 |none=>d
 |some v=>if v<0 then(v+(n:Int)).toNat else min v.toNat n
theorem vI(n d:Nat):gj n d none=d:=rfl
theorem oi(n d k:Nat):gj n d (some (k:Int))=min k n:=by
 show(if(k:Int)<0 then((k:Int)+(n:Int)).toNat else min (k:Int).toNat n)=min k n;rw[if_neg (by omega),Mv]
theorem Fq(n d:Nat)(hd:d<=n)(o:Option Int):gj n d o<=n:=by
 cases o with
 |none=>exact hd
 |some v =>
  show(if v<0 then(v+(n:Int)).toNat else min v.toNat n)<=n
  by_cases e:v<0
  ·rw[if_pos e];omega
  ·rw[if_neg e];exact Nat.min_le_right _ _
theorem yO(v:Int)(n d:Nat):(if v<0 then max (v+(n:Int)) 0 else min v (n:Int))=((gj n d (some v):Nat):Int):=by
 show(if v<0 then max (v+(n:Int)) 0 else min v (n:Int))=(((if v<0 then(v+(n:Int)).toNat else min v.toNat n):Nat):Int)
 by_cases e:v<0
 ·simp only[if_pos e];omega
 ·simp only[if_neg e];omega
theorem xK(lo hi:Option Int)(n:Nat):OB lo hi 1 (n:Int)=(((gj n 0 lo:Nat):Int),((gj n n hi:Nat):Int)):=by
 have d:¬((1:Int)<0):=by omega
 unfold OB;simp only[d,if_false];refine Prod.ext ?_ ?_
 ·cases lo with
  |none=>rfl
  |some v=>exact yO v n 0
 ·cases hi with
  |none=>rfl
  |some v=>exact yO v n n
theorem xM(i j:Nat):Nv (i:Int) (j:Int) 1=j-i:=by
 unfold Nv;have d:(1:Int)>0:=by omega
 simp only[d,if_true,Int.ediv_one]
 split<;>omega
theorem qR{v:j3}{o:Option Int}{Q:Option Int->mu->Prop}(p:PN v o)(h:Q o s):La (Lr prog w) A (Og.Slice.slicePartIndex v) Q E s:=by
 cases p with
 |none=>exact slicePart_none h
 |int i t=>exact slicePart_int h
theorem kh{l:Addr}{j g:j3}{lo hi:Option Int}{n:Nat}{Q:Int×Int×Nat->mu->Prop}(hs:s.heap.IsSliceOf l j g .none)(o:PN j lo)(m:PN g hi)
  (h:Q (((gj n 0 lo:Nat):Int),1,gj n n hi-gj n 0 lo) s):La (Lr prog w) A (Qj (.ref l) (pure (n:Int))) Q E s:=by
 obtain⟨q,d,p,e⟩:=id hs;unfold Qj Og.Slice.sliceFields;refine bB (bB (LL d e (x:=j) rfl (bB (LL d e (x:=g) rfl (bB (LL d e (x:=.none) rfl (my ?_)))))));refine bB (slicePart_none ?_);show La _ _ (if((1:Int) == 0)=true then _ else _) _ _ s;rw[if_neg (by decide)];refine bB (qR o (bB (qR m (bB (my ?_)))));show La _ _ (match OB lo hi 1 (n:Int)with|(lo,hi)=>pure (lo,(1:Int),Nv lo hi 1)) _ _ s
 rw[xK lo hi n];show La _ _ (pure (((gj n 0 lo:Nat):Int),(1:Int),Nv ((gj n 0 lo:Nat):Int) ((gj n n hi:Nat):Int) 1)) _ _ s;rw[xM];exact my h
theorem Bg(xs:Array j3)(i k:Nat):((LU k).filterMap fun(m:Nat)=>xs[((i:Int)+(m:Int)*1).toNat]?).toArray=((xs.toList.drop i).take k).toArray:=by
 have e:(fun(m:Nat)=>xs[((i:Int)+(m:Int)*1).toNat]?)=fun m=>xs[i+m]?:=by
  funext m
  have:((i:Int)+(m:Int)*1).toNat=i+m:=by omega
  rw[this]
 rw[e];have:=pick_run xs i k;rw[Sv]at this;have d:((fun x=>xs[x]?) ∘ fun x=>i+x)=fun m=>xs[i+m]?:=rfl;rw[d]at this;rw[this]
theorem oj{t e:Addr}{items:Array j3}{r p:j3}{lo hi:Option Int}{Q:j3->mu->Prop}(ht:IsTup s.heap t items)(hs:s.heap.IsSliceOf e r p .none)(v:PN r lo)(u:PN p hi)
  (hw:¬(gj items.size 0 lo=0/\gj items.size items.size hi=items.size))
  (h:Q (.ref s.heap.objs.size) {s with heap:=s.heap.push {cls:=.type "tuple",data:=.seq ((items.toList.drop (gj items.size 0 lo)).take (gj items.size items.size hi-gj items.size 0 lo)).toArray}})
  (hsz:items.size<=nk):La (Lr prog w) A (P7 (.ref t) (.ref e)) Q E s:=by
 have d:sizeOk (.seq ((items.toList.drop (gj items.size 0 lo)).take (gj items.size items.size hi-gj items.size 0 lo)).toArray):=by
  show((items.toList.drop (gj items.size 0 lo)).take (gj items.size items.size hi-gj items.size 0 lo)).toArray.size<=nk;rw[rj,Lb,Nk,NH];omega
 have C:gj items.size items.size hi<=items.size:=Fq _ _ (lj _) hi;obtain⟨y,g,l,z⟩:=id hs;have o:s.TypeIs (.ref e) "slice":=⟨y,g,l⟩;unfold P7
 try with_reducible refine LI ?_
 first|refine bB (my ?_)|skip
 refine bB (QJ ht.typeIs (by decide) ?_)
 refine bB (LP (name:=Lj "__getitem__") ht.typeIs Mf
  (Mr Mf ht.typeIs entry_tuple_getitem ?_ (args_tuple_getitem _ _)))
 show La _ _ (Qk (.ref t)>>=_) _ _ s;refine bB (tupleItemsOf_ ht ?_);refine bB (MJ o ?_);rw[if_pos (by decide)];refine bB (kh hs v u ?_)
 have j:¬((((gj items.size 0 lo:Nat):Int) == 0&&(1:Int) == 1&&(gj items.size items.size hi-gj items.size 0 lo) == items.size)=true):=by
  intro q;rw[Mj,Mj]at q;have q1:((gj items.size 0 lo:Nat):Int)=0:=NJ q.1.1;have B:gj items.size items.size hi-gj items.size 0 lo=items.size:=NJ q.2;exact hw ⟨by omega,by omega⟩
 show La _ _ (if(((gj items.size 0 lo:Nat):Int) == 0&&(1:Int) == 1&&(gj items.size items.size hi-gj items.size 0 lo) == items.size)=true then _ else _) _ _ s;rw[if_neg j,Bg]
 first
  |exact bB (m:=NF _) (Mu (my ⟨_,rfl,my h⟩) d)
  |exact bB (m:=NF _) (Mu (bB (my (my ⟨_,rfl,my h⟩))) d)
  |exact bB (bB (m:=NF _) (Mu (my (my ⟨_,rfl,my h⟩)) d))
  |exact bB (bB (m:=NF _) (Mu (my ⟨_,rfl,my h⟩) d))
end
end HT
namespace L2
open PySem PySem.Spec PyProof.Rows
noncomputable abbrev TO:=St->Hp->(Option Int->Hp->Prop)->Prop
noncomputable def PO(X:Cx)(e:Option Expr)(t:TO):Prop :=
 ∀(d:List (Addr×Obj)) (s:mu) (g:St) (H:Hp) (Q:Option Int->Hp->Prop),Inv X d g H s->t g H Q ->
  La (Lr X.prog X.w) X.A (evalPart e X.env) (fun u l=>∃o j,Inv X d g j l/\PN u o/\Q o j) X.xe s
noncomputable abbrev Dt:TO:=fun _ H Q=>Q none H
noncomputable def Kv(Q:Option Int->Hp->Prop):VK:=fun x d=>∃i,x=.int i/\Q (some i) d
noncomputable abbrev Hh(t:TE):TO:=fun d H Q=>t d H (Kv Q)
section
variable {X:Cx}{e:Expr}{te:TE}{lo hi:Option Expr}{tl th:TO}{pos p2:Pos}
theorem dQ:PO X none Dt:=by
 intro d s g H Q I h;rw[Sg];exact my ⟨none,H,I,.none,h⟩
theorem cy(h:PE X e te):PO X (some e) (Hh te):=by
 intro d s g H Q I l;rw[evalPart_some];refine cO (h d s g H _ I l) fun u p ⟨x,o,m,j,q1⟩=>?_;obtain⟨i,rfl,q⟩:=q1;obtain⟨t,rfl⟩:=j;exact⟨some i,o,m,.int i t,q⟩
noncomputable def Ft(X:Cx)(r:V->Option Int->Option Int->Hp->VK->Prop):Prop :=
 ∀(d:List (Addr×Obj)) (s:mu) (g:St) (H:Hp) (x:V) (v l j:j3) (lo hi:Option Int) (m:Addr) (Q:VK),Inv X d g H s->RelV x v->s.heap.IsSliceOf m l j .none->PN l lo->PN j hi->r x lo hi H Q ->
  ∃T id,NS (.type T) "__getitem__"=pure (some (.builtin id))/\s.TypeIs v T/\La (Lr X.prog X.w) X.A (P7 v (.ref m)) (EP X d g Q) X.xe s
noncomputable abbrev Kw(r:V->Option Int->Option Int->Hp->VK->Prop)(x:V)(l:Option Int)(Q:VK):Option Int->Hp->Prop:=fun u d=>r x l u d Q
noncomputable abbrev Kx(r:V->Option Int->Option Int->Hp->VK->Prop)(th:TO)(d:St)(x:V)(Q:VK):Option Int->Hp->Prop:=fun l g=>th d g (Kw r x l Q)
noncomputable abbrev Ky(r:V->Option Int->Option Int->Hp->VK->Prop)(tl th:TO)(d:St)(Q:VK):VK:=fun x g=>tl d g (Kx r th d x Q)
noncomputable abbrev Kz(r:V->Option Int->Option Int->Hp->VK->Prop)(te:TE)(tl th:TO):TE:=fun d H Q=>te d H (Ky r tl th d Q)
theorem cK{r:V->Option Int->Option Int->Hp->VK->Prop}(hr:Ft X r)(N:PE X e te)(L:PO X lo tl)(G:PO X hi th):PE X (.Subscript e (.Slice lo hi none p2) pos) (Kz r te tl th):=by
 intro d s j H Q I h;refine Sw (cO (N d s j H _ I h) fun v y ⟨x,Y,U,z,q1⟩=>?_);refine wpAny_Slice (cO (L d y j Y _ U q1) fun o t ⟨l,W,S,E,C⟩=>cO (G d t j W _ S C) fun m g ⟨u,p,R,D,B⟩=>?_);rw[Sg];refine my ?_;have P:Inv X d j p {g with heap:=g.heap.push {cls:=.type "slice",data:=.fields #[o,m,.none]}}:=R.kept (t':=g.toks) fun b Z q=>mC _ q;obtain⟨T,id,O,J,M⟩:=hr d {g with heap:=g.heap.push {cls:=.type "slice",data:=.fields #[o,m,.none]}} j p x v o m l u g.heap.objs.size Q P z (Ql ..) E D B;show La (Lr X.prog X.w) X.A (Si e (.Slice lo hi none p2) v (.ref g.heap.objs.size)) (EP X d j Q) X.xe {g with heap:=g.heap.push {cls:=.type "slice",data:=.fields #[o,m,.none]}};exact tail_any (ops:=[.ref g.heap.objs.size,v]) J O M (by with_unfolding_all rfl)
noncomputable def gq(xs:List V)(lo hi:Option Int):List V:=(xs.drop (HT.gj xs.length 0 lo)).take (HT.gj xs.length xs.length hi-HT.gj xs.length 0 lo)
theorem qe(xs:List V)(lo hi:Option Int):(gq xs lo hi).length<=xs.length:=by
 unfold gq;rw[Lb,Nk];omega
noncomputable def Jg(K:bA):V->Option Int->Option Int->Hp->VK->Prop:=fun x lo hi H Q=>∃a d,x=.ref a/\bN K H a d /\
 ¬(HT.gj d.length 0 lo=0/\HT.gj d.length d.length hi=d.length)/\∀p,H p=none->Q (.ref p) (upd H p (.tup (gq d lo hi)))
theorem Bh:Ft X (Jg X.K):=by
 intro l s B H x v D C lo hi E Q I t A w u h;obtain⟨a,g,rfl,y,z,q⟩:=h
 cases t
 obtain⟨j,r,p,m⟩:=I.tuple y;have d:j.toArray.size=g.length:=by rw[rj];exact r.length.symm
 refine⟨"tuple",_,Mf.lookup,p.typeIs,?_⟩;refine HT.oj p A w u (by rw[d];exact z) ?_ (by rw[d];exact m);rw[d];refine⟨.ref s.heap.objs.size,_,I.laid (t':=s.toks) (o:=.tup (gq g lo hi)) (fun b G q=>mC _ q) (lj _) ?_,rfl,q _ (I.hok.fresh (lj _))⟩;exact⟨I0 (qe g lo hi) m,_,(r.drop (HT.gj g.length 0 lo)).take (HT.gj g.length g.length hi-HT.gj g.length 0 lo),SW _ _,_,K9 _ rfl,rfl⟩
noncomputable def Hj(K:bA):R2:=fun x y H Q=>∃a b g d,x=.ref a/\y=.ref b/\bN K H a g/\bN K H b d/\g≠[]/\g.length+d.length<=nk /\
 (d=[]->Q (.ref a) H)/\(d≠[]->∀p,H p=none->Q (.ref p) (upd H p (.tup (g++d))))
theorem Vals.uu{xs:List V}{us:List j3}(r:Vals xs us):us=[]↔xs=[]:=by
 cases r with
 |nil=>simp
 |cons _ _=>simp
theorem Du:mW X (Nn .Add) (Hj X.K):=by
 intro g s J H x y v u Q I t r h;obtain⟨a,b,p,m,rfl,rfl,G,E,D,l,q1,A⟩:=h
 cases t
 cases r
 obtain⟨C,d,B,_⟩:=I.tuple G;obtain⟨j,r2,p2,_⟩:=I.tuple E;refine HT.Ds B p2 (fun z=>D (d.uu.mp z)) (fun z=>⟨.ref a,H,I,rfl,q1 (r2.uu.mp z)⟩) (fun z=>?_) (by rw[←d.length,←r2.length];exact l);refine⟨.ref s.heap.objs.size,_,I.laid (t':=s.toks) (o:=.tup (p++m)) (fun b L q=>mC _ q) (lj _) ?_,rfl,A (fun w=>z (r2.uu.mpr w)) _ (I.hok.fresh (lj _))⟩;exact⟨by rw[lu];exact l,_,d.append r2,SW _ _,_,K9 _ rfl,rfl⟩
end
noncomputable def yP(n:Nat)(i:Int):Option Nat:=if 0<=i then(if i<n then some i.toNat else none)else if -(n:Int)<=i then some (i+n).toNat else none
noncomputable def jM{d:Type}(xs:List d)(i:Int):Option d:=(yP xs.length i).bind fun j=>xs[j]?
theorem yQ{n:Nat}{i:Int}{j:Nat}(h:yP n i=some j):Qd i n=some j/\j<n/\-(n:Int)<=i/\i<n:=by
 unfold yP at h
 by_cases g:0<=i
 ·rw[if_pos g]at h
  by_cases d:i<n
  ·rw[if_pos d]at h;have e:i.toNat=j:=LQ h;exact⟨by rw[seqIndex_of g d,e],by omega,by omega,d⟩
  ·rw[if_neg d]at h;cases h
 ·rw[if_neg g]at h
  by_cases d:-(n:Int)<=i
  ·rw[if_pos d]at h;have e:(i+n).toNat=j:=LQ h;exact⟨by rw[seqIndex_neg (by omega) d,e],by omega,d,by omega⟩
  ·rw[if_neg d]at h;cases h
theorem uv{d:Type}{xs:List d}{i:Int}{v:d}(h:jM xs i=some v):∃j,Qd i xs.length=some j/\xs[j]?=some v/\j<xs.length/\-(xs.length:Int)<=i/\i<xs.length:=by
 unfold jM at h
 cases e:yP xs.length i with
 |none=>rw[e]at h;cases h
 |some j =>
  rw[e]at h;obtain⟨o,m,l,g⟩:=yQ e;exact⟨j,o,h,m,l,g⟩
theorem bD{d:Type}{xs:List d}{j:Nat}{v:d}(h:xs[j]?=some v):jM xs (j:Int)=some v:=by
 have g:j<xs.length:=(ko.mp h).1
 have e:yP xs.length (j:Int)=some j:=by
  unfold yP;rw[if_pos (by omega),if_pos (by omega)];simp
 unfold jM;rw[e];exact h
noncomputable def Dv(b:Expr):Prop:=∀o i,RY b false o i=operate [o,i] (P7 o i)
noncomputable def A6(X:Cx)(r:R2):Prop :=
 ∀(e slice:Expr) (d:List (Addr×Obj)) (s:mu) (g:St) (H:Hp) (x y:V) (v u:j3) (Q:VK),Inv X d g H s->RelV x v->RelV y u->r x y H Q ->
  RY slice false v u=operate [v,u] (P7 v u)->La (Lr X.prog X.w) X.A (Si e slice v u) (EP X d g Q) X.xe s
noncomputable def IB(X:Cx)(id:String)(r:V->List V->Hp->VK->Prop):Prop :=
 ∀(d:List (Addr×Obj)) (s:mu) (e:St) (H:Hp) (x:V) (g:List V) (v:j3) (j:List j3) (Q:VK),Inv X d e H s->RelV x v->Vals g j->r x g H Q ->
  La (Lr X.prog X.w) X.A (call (.builtin id) (v::j)) (EP X d e Q) X.xe s
section
variable {X:Cx}{a b:Expr}{ta tb:TE}{pos:Pos}
theorem A6.or{r m:R2}(h:A6 X r)(h':A6 X m):A6 X (fun x y H Q=>r x y H Q\/m x y H Q):=by
 intro d slice e s g H x y v u Q I l j q o;rcases q with q|q
 ·exact h d slice e s g H x y v u Q I l j q o
 ·exact h' d slice e s g H x y v u Q I l j q o
theorem iO{r:R2}(hr:A6 X r)(o:PE X a ta)(m:PE X b tb)(hs:Dv b):PE X (.Subscript a b pos) (Dn r ta tb):=by
 intro d s e H Q I h;exact Sw (Fg o m I h fun v u g x y t p l j q=>hr a b d g e t x y v u Q p l j q (hs _ _))
noncomputable def Fv(K:bA):R2:=fun x y H Q=>∃p d i v,x=.ref p/\y=.int i/\bz K H p d/\jM d i=some v/\Q v H
noncomputable def Ae(K:bA):R2:=fun x y H Q=>∃p d i v,x=.ref p/\y=.int i/\bN K H p d/\jM d i=some v/\Q v H
noncomputable def Hl:R2:=fun x y H Q=>∃z i c,x=.str z/\y=.int i/\z.length<=nk/\jM z.cps.toList i=some c/\Q (.str ⟨#[c]⟩) H
theorem aW:A6 X (Fv X.K):=by
 intro l slice d s C H x y v u Q I M L h D;obtain⟨p,U,i,z,rfl,rfl,N,P,q⟩:=h
 cases M
 obtain⟨t,rfl⟩:=L;obtain⟨A,r,o,V⟩:=I.list N;obtain⟨j,g,T,Y,S,R⟩:=uv P;obtain⟨w,G,m⟩:=r.get T;have O:=r.length;have W:=nH;have e:EP X d C Q w s:=⟨z,H,I,m,q⟩
 by_cases E:0<=i
 ·have B:i.toNat=j:=by
   rw[seqIndex_of E R]at g;exact LQ g
  exact item_listR o.isList E (by omega) (by rw[B];simpa using G) e D
 ·have B:(i+(A.toArray.size:Int)).toNat=j:=by
   rw[seqIndex_neg (by omega) S]at g;rw[rj,←O];exact LQ g
  exact RA (x:=w) o.isList.typeIs QK.lookup
   (wpAny_getItem_list_neg (Q:=fun r J=>r=w/\EP X d C Q r J) o.isList (by omega) (by rw[rj]<;>omega) (by omega) (by rw[B];simpa using G) ⟨rfl,e⟩) D
theorem aQ:A6 X (Ae X.K):=by
 intro e slice d s m H x y v u Q I C B h E;obtain⟨p,P,i,z,rfl,rfl,G,L,q⟩:=h
 cases C
 obtain⟨t,rfl⟩:=B;obtain⟨D,r,o,R⟩:=I.tuple G;obtain⟨j,N,M,V,U,T⟩:=uv L;obtain⟨w,O,g⟩:=r.get M;have J:=r.length;have S:=nH;have l:EP X d m Q w s:=⟨z,H,I,g,q⟩
 exact RA (x:=w) o.typeIs slot_tuple_getitem.lookup
  (getItem_tuple (j:=j) (Q:=fun r A=>r=w/\EP X d m Q r A) o (by omega) (by omega) (by rw[rj,←J];exact N) (by simpa using O) ⟨rfl,l⟩) E
theorem uw:A6 X Hl:=by
 intro d slice e s E H x y v u Q I m l h o;obtain⟨z,i,c,rfl,rfl,J,r,q⟩:=h;obtain⟨t,rfl⟩:=m;obtain⟨G,rfl⟩:=l;obtain⟨j,g,B,M,A,w⟩:=uv r;have p:z.cps.toList.length=z.length:=by simp[Qm]
 rw[p]at g A w;have L:=nH
 exact tail_any (typeIs_str s z t) slot_str_getitem.lookup (getItem_str (c:=c) (by
  have D:decide (i < -(2 ^ 63:Int))=false:=decide_eq_false (by omega);have C:decide (i ≥ 2 ^ 63)=false:=decide_eq_false (by omega);rw[D,C,QX]) (by rw[g];simpa using B) ⟨.str ⟨#[c]⟩,H,I.tok _,⟨_,rfl⟩,q⟩) o
noncomputable def Ho(K:bA):R2:=fun x y H Q=>Fv K x y H Q\/Ae K x y H Q\/Hl x y H Q
theorem jm:A6 X (Ho X.K):=aW.or (aQ.or uw)
theorem xN(d:List j3)(n j:Nat)(u:j3):LX (·.setIfInBounds j u) {cls:=.type "list",data:=.seq d.toArray n}={cls:=.type "list",data:=.seq (d.set j u).toArray n}:=by
 simp[LX]
theorem Inv.lst{g:List (Addr×Obj)}{j:St}{H:Hp}{s:mu}{p:Addr}{xs:List V}(I:Inv X g j H s)(h:H p=some (.lst xs)) :
  ∃(d:List j3) (n:Nat),Vals xs d/\s.heap.get? p=some {cls:=.type "list",data:=.seq d.toArray n}/\xs.length<=nk:=by
 obtain⟨z,d,n,r,e⟩:=I.hok p _ h;exact⟨d,n,r,e,z⟩
theorem Inv.Fw{d:List (Addr×Obj)}{l:St}{H:Hp}{s:mu}{p:Addr}{xs ys:List V}{g its':List j3}{n j:Nat}{f:Obj->Obj}(I:Inv X d l H s)(h:H p=some (.lst xs))
  (ho:s.heap.get? p=some {cls:=.type "list",data:=.seq g.toArray n}) (hf:f {cls:=.type "list",data:=.seq g.toArray n}={cls:=.type "list",data:=.seq its'.toArray j}) (r:Vals ys its') (hz:ys.length<=nk) (t:Nat) :
  Inv X d l (upd H p (.lst ys)) {s with heap:=s.heap.update p f,toks:=t}:=by
 have e:(s.heap.update p f).get? p=some {cls:=.type "list",data:=.seq its'.toArray j}:=by
  rw[Mw f ho (by rw[hf]<;>rfl),hf]
 refine I.write (x:=p) (e:=p) (by rw[h];trivial) (.inl rfl) (fun b u m q=>(Ms _ _ (MQ m)).trans q) ⟨_,e⟩ ?_;exact⟨hz,its',j,r,e⟩
noncomputable def Hq:V->V->V->Hp->(Hp->Prop)->Prop:=fun o i v H Q=>∃p d k j,o=.ref p/\i=.int k/\H p=some (.lst d)/\yP d.length k=some j/\Q (upd H p (.lst (d.set j v)))
theorem set_list:G1 X Hq:=by
 intro d s D H o i v O P u Q I J L G h;obtain⟨p,E,k,j,rfl,rfl,y,N,q⟩:=h
 cases J
 obtain⟨t,rfl⟩:=L;obtain⟨e,n,r,l,M⟩:=I.lst y;obtain⟨g,S,A,z⟩:=yQ N;have m:=r.length;have R:=nH
 have C:Inv X d D (upd H p (.lst (E.set j v))) {s with heap:=s.heap.update p (LX (·.setIfInBounds j u))} :=
  I.Fw y l (xN e n j u) (r.set G j) (by rw[List.length_set];exact M) s.toks
 by_cases B:0<=k
 ·have w:k.toNat=j:=by
   rw[seqIndex_of B z]at g;exact LQ g
  exact PySem.W.ki_setAt l B (by omega) (by rw[rj,←m];exact z) (by rw[w];exact⟨_,C,q⟩)
 ·have w:(k+(e.toArray.size:Int)).toNat=j:=by
   rw[seqIndex_neg (by omega) A]at g;rw[rj,←m];exact LQ g
  exact PySem.W.ki_setBack l (by omega) (by rw[rj,←m];exact A) (by omega) (by rw[w];exact⟨_,C,q⟩)
theorem uz(lo hi:Option Int)(n:Nat):(LZ lo hi none n).1=((HT.gj n 0 lo:Nat):Int)/\(LZ lo hi none n).2.1=((HT.gj n n hi:Nat):Int)/\(LZ lo hi none n).2.2=1:=by
 refine⟨?_,?_,rfl⟩
 ·cases lo with
  |none=>simp[LZ,HT.gj]
  |some i =>
   simp only[LZ,HT.gj,Q8,show(1:Int)>0 by decide,if_true]
   by_cases h:i<0
   ·simp only[h,if_true]<;>omega
   ·simp only[h,if_false]<;>omega
 ·cases hi with
  |none=>simp[LZ,HT.gj]
  |some i =>
   simp only[LZ,HT.gj,Q8,show(1:Int)>0 by decide,if_true]
   by_cases h:i<0
   ·simp only[h,if_true]<;>omega
   ·simp only[h,if_false]<;>omega
theorem sE(d:List j3)(lo hi:Option Int):SY d.toArray lo hi none=((d.drop (HT.gj d.length 0 lo)).take (HT.gj d.length d.length hi-HT.gj d.length 0 lo)).toArray:=by
 obtain⟨j,g,e⟩:=uz lo hi d.toArray.size;unfold SY;rw[j,g,e];simp only[sliceRange_one,pick_run,rj]<;>rfl
noncomputable def Hr(K:bA):V->Option Int->Option Int->Hp->VK->Prop:=fun x e g H Q=>∃a d,x=.ref a/\bz K H a d/\∀p,H p=none->Q (.ref p) (upd H p (.lst (gq d e g)))
theorem gu:Ft X (Hr X.K):=by
 intro l s B H x v D C g j E Q I p A u t h;obtain⟨a,d,rfl,z,q⟩:=h
 cases p
 obtain⟨w,r,m,y⟩:=I.list z;have e:=r.length;refine⟨"list",_,QK.lookup,m.isList.typeIs,?_⟩;refine QY m.isList A u t .none (by simp) ?_ (by rw[rj]<;>omega)
 rw[sE,←e];refine⟨.ref s.heap.objs.size,_,I.laid (t':=s.toks) (o:=.lst (gq d g j)) (fun b G q=>mC _ q) (lj _) ?_,rfl,q _ (I.hok.fresh (lj _))⟩;exact⟨I0 (qe d g j) y,_,0,(r.drop (HT.gj d.length 0 g)).take (HT.gj d.length d.length j-HT.gj d.length 0 g),K9 _ rfl⟩
noncomputable def lJ:V->Bool
 |.iP=>true
 |.bl _=>true
 |.int _=>true
 |.str _=>true
 |_=>false
noncomputable def EC:V->V->Bool
 |.iP,.iP=>true
 |.bl a,.bl b=>a == b
 |.bl a,.int b=>(if a then 1 else 0) == b
 |.int a,.bl b=>a == (if b then 1 else 0)
 |.int a,.int b=>a == b
 |.str a,.str b=>a == b
 |_,_=>false
theorem Fx{A:Lz}{s:mu}{y x:V}{u v:j3}(g:RelV y u)(d:RelV x v)(l:lJ y=true)(j:lJ x=true):MF A s u v (EC y x):=by
 cases y with
 |iP =>
  cases g
  cases x with
  |iP=>cases d;exact MF.same _
  |bl b=>cases d;exact MF.none_bool b
  |int b=>obtain⟨t,rfl⟩:=d;exact MF.none_int b t
  |str b=>obtain⟨t,rfl⟩:=d;exact MF.none_str b t
  |_=>exact absurd (show false=true from j) Lg
 |bl a =>
  cases g
  cases x with
  |iP=>cases d;exact MF.bool_none a
  |bl b=>cases d;exact MF.bool_bool a b
  |int b=>obtain⟨t,rfl⟩:=d;exact MF.bool_int a b t
  |str b=>obtain⟨t,rfl⟩:=d;exact MF.bool_str a b t
  |_=>exact absurd (show false=true from j) Lg
 |int a =>
  obtain⟨e,rfl⟩:=g
  cases x with
  |iP=>cases d;exact MF.int_none a e
  |bl b=>cases d;exact MF.int_bool a e b
  |int b=>obtain⟨t,rfl⟩:=d;exact MF.int_int a e b t
  |str b=>obtain⟨t,rfl⟩:=d;exact Sm a e b t
  |_=>exact absurd (show false=true from j) Lg
 |str a =>
  obtain⟨e,rfl⟩:=g
  cases x with
  |iP=>cases d;exact MF.str_none a e
  |bl b=>cases d;exact MF.str_bool a e b
  |int b=>obtain⟨t,rfl⟩:=d;exact Sn a e b t
  |str b=>obtain⟨t,rfl⟩:=d;exact MF.str_str a e b t
  |_=>exact absurd (show false=true from j) Lg
 |_=>exact absurd (show false=true from l) Lg
noncomputable def xO(x:V)(u:j3):Bool:=match u with
 |.none=>EC .iP x
 |.bool b=>EC (.bl b) x
 |.int i _=>EC (.int i) x
 |.str z _=>EC (.str z) x
 |_=>false
theorem Bj{x y:V}{u:j3}(r:RelV y u)(f:lJ y=true):xO x u=EC y x:=by
 cases y with
 |iP=>cases r;rfl
 |bl b=>cases r;rfl
 |int i=>obtain⟨t,rfl⟩:=r;rfl
 |str z=>obtain⟨t,rfl⟩:=r;rfl
 |_=>exact absurd (show false=true from f) Lg
theorem om{x:V}:∀{xs:List V}{us:List j3},Vals xs us->xs.all lJ=true->us.any (xO x)=xs.any fun y=>EC y x
 |_,_,.nil,_=>rfl
 |y::xs,u::us,.cons r t,f=>by
  rw[Pn,Mj]at f;rw[Po,Po,Bj r f.1,om t f.2]
theorem lZ{A:Lz}{s:mu}{x:V}{v:j3}(d:RelV x v)(e:lJ x=true):∀{xs:List V}{us:List j3},Vals xs us->xs.all lJ=true->∀u∈us,MF A s u v (xO x u)
 |_,_,.nil,_=>fun u hu=>by cases hu
 |y::xs,u::us,.cons r t,f=>fun g hu=>by
  rw[Pn,Mj]at f;rcases ri.mp hu with rfl|hu
  ·rw[Bj r f.1];exact Fx r d f.1 e
  ·exact lZ d e t f.2 g hu
noncomputable def vJ(x:V)(xs:List V):Bool:=xs.any fun y=>EC y x
noncomputable def IC(K:bA)(e:Bool):R2:=fun x y H Q=>∃p d,y=.ref p/\(bz K H p d\/bN K H p d)/\lJ x=true/\d.all lJ=true/\Q (.bl (if e then !vJ x d else vJ x d)) H
theorem iZ:mW X (ML .In) (IC X.K false):=by
 intro l s z H x y v u Q I j o h;obtain⟨p,A,rfl,hq,m,fs,q⟩:=h
 cases o
 rcases hq with hq|hq
 ·obtain⟨d,r,e,t⟩:=I.list hq;refine SeqAt.in_listAt (xO x) e.isList (fun w g=>lZ j m r fs w (by simpa using g)) ⟨.bl _,H,I,rfl,?_⟩;rw[show d.toArray.any (xO x)=d.any (xO x) by simp,om r fs];exact q
 ·obtain⟨d,r,e,t⟩:=I.tuple hq;refine SeqAt.in_tupleAt (xO x) e (fun w g=>lZ j m r fs w (by simpa using g)) ⟨.bl _,H,I,rfl,?_⟩;rw[show d.toArray.any (xO x)=d.any (xO x) by simp,om r fs];exact q
theorem ow:mW X (ML .NotIn) (IC X.K true):=by
 intro l s z H x y v u Q I j o h;obtain⟨p,A,rfl,hq,m,fs,q⟩:=h
 cases o
 rcases hq with hq|hq
 ·obtain⟨d,r,e,t⟩:=I.list hq;refine SeqAt.notIn_listAt (xO x) e.isList (fun w g=>lZ j m r fs w (by simpa using g)) ⟨.bl _,H,I,rfl,?_⟩;rw[show d.toArray.any (xO x)=d.any (xO x) by simp,om r fs];exact q
 ·obtain⟨d,r,e,t⟩:=I.tuple hq;refine SeqAt.notIn_tupleAt (xO x) e (fun w g=>lZ j m r fs w (by simpa using g)) ⟨.bl _,H,I,rfl,?_⟩;rw[show d.toArray.any (xO x)=d.any (xO x) by simp,om r fs];exact q
theorem aB:iN X (.builtin "len") (fun xs H Q=>∃p ys,xs=[.ref p]/\(bz X.K H p ys\/bN X.K H p ys)/\Q (.int ys.length) H):=by
 intro l s t H xs v Q I r h;obtain⟨p,ys,rfl,hq,q⟩:=h;obtain⟨u,rfl,m⟩:=vals1 r
 cases m
 have w:=nH;rcases hq with hq|hq
 ·obtain⟨j,e,g,o⟩:=I.list hq;have d:=e.length;exact Calls.call_len_list g.isList (by simp only[rj]<;>omega) ⟨.int ys.length,H,I.tok _,⟨s.toks+1,by rw[rj,d]⟩,q⟩
 ·obtain⟨j,e,g,o⟩:=I.tuple hq;have d:=e.length;exact len_tuple g (by simp only[rj]<;>omega) ⟨.int ys.length,H,I.tok _,⟨s.toks+1,by rw[rj,d]⟩,q⟩
theorem oz:iN X (.builtin "len") (fun xs H Q=>∃z,xs=[.str z]/\z.length<=nk/\Q (.int z.length) H):=by
 intro d s e H xs g Q I r h;obtain⟨z,rfl,j,q⟩:=h;obtain⟨u,rfl,t,rfl⟩:=vals1 r;have l:=nH;exact len_str (by omega) ⟨.int z.length,H,I.tok _,⟨_,rfl⟩,q⟩
theorem iS:iN X (.type "list") (fun xs H Q=>∃p ys,xs=[.ref p]/\(bz X.K H p ys\/bN X.K H p ys)/\∀l,H l=none->Q (.ref l) (upd H l (.lst ys))):=by
 intro t s E H xs J Q I r h;obtain⟨p,ys,rfl,hq,q⟩:=h;obtain⟨u,rfl,G⟩:=vals1 r
 cases G
 have z:∀(d:List j3),Vals ys d->ys.length<=nk->∀(g:Heap) (m:Nat),(∀b D,s.heap.get? b=some D->g.get? b=some D) ->
   g.get? s.heap.objs.size=some {cls:=.type "list",dict:=none,data:=.seq d.toArray m,slots:=#[]}->EP X t E Q (.ref s.heap.objs.size) {s with heap:=g}:=fun d j v g m kp e =>
  ⟨.ref s.heap.objs.size,_,I.laid (t':=s.toks) kp (lj _) (show ef X.prog X.w _ g _ (.lst ys)from⟨v,d,m,j,e⟩),rfl,q _ (I.hok.fresh (lj _))⟩
 rcases hq with hq|hq
 ·obtain⟨d,j,A,v⟩:=I.list hq;have y:=j.length;obtain⟨o,B,C,n,hd⟩:=A.isList;exact call_list_seq p (.inl rfl) B C hd (fun g m kp e=>z d j v g m kp e) (by simp only[rj]<;>omega)
 ·obtain⟨d,j,A,v⟩:=I.tuple hq;have y:=j.length;obtain⟨o,B,C,n,hd⟩:=A;exact call_list_seq p (.inr rfl) B C hd (fun g m kp e=>z d j v g m kp e) (by simp only[rj]<;>omega)
theorem aH:iN X (.type "tuple") (fun xs H Q=>∃p ys,xs=[.ref p]/\((bz X.K H p ys/\∀l,H l=none->Q (.ref l) (upd H l (.tup ys)))\/(bN X.K H p ys/\Q (.ref p) H))):=by
 intro d s v H xs D Q I r h;obtain⟨p,ys,rfl,h⟩:=h;obtain⟨u,rfl,B⟩:=vals1 r
 cases B
 rcases h with⟨hq,q⟩|⟨hq,q⟩
 ·obtain⟨g,m,t,y⟩:=I.list hq;have z:=m.length;refine call_tuple_list t.isList (fun j kp=>?_) (by simp only[rj]<;>omega)
  have A:Inv X d v H {s with heap:=j}:=I.kept (t':=s.toks) kp
  have C:Inv X d v (upd H j.objs.size (.tup ys)) {s with heap:=j.push {cls:=.type "tuple",data:=.seq g.toArray}} :=
   A.laid (t':=s.toks) (fun b o e=>mC _ e) (lj _) (show ef X.prog X.w _ _ _ (.tup ys)from⟨y,g,m,SW _ _,_,K9 _ rfl,rfl⟩)
  exact⟨.ref j.objs.size,_,C,rfl,q _ (A.hok.fresh (lj _))⟩
 ·obtain⟨g,m,t,y⟩:=I.tuple hq;exact call_tuple_same t ⟨.ref p,H,I,rfl,q⟩
noncomputable def ID(K:bA)(T:String)(x:V)(H:Hp):Prop:=match x with
 |.str _=>T="str"
 |.int _=>T="int"
 |.ref p=>(T="list"/\∃e,bz K H p e)\/(T="tuple"/\∃o,K.lookup p=some o/\o.cls=.type "tuple"/\o.dict=none) \/
   (T="dict"/\((∃d,H p=some (.dK d))\/∃d,H p=some (.dT d)))\/(T="set"/\∃S n,H p=some (.set S n))
 |_=>False
theorem Bk{d:List (Addr×Obj)}{m:St}{H:Hp}{s:mu}{T:String}{x:V}{v:j3}(I:Inv X d m H s)(r:RelV x v)(ty:ID X.K T x H) :
  s.TypeIs v T/\∀a,v=.ref a->∃l,s.heap.get? a=some l/\l.dict=none:=by
 cases x with
 |str z =>
  obtain⟨t,rfl⟩:=r
  cases(show T="str" from ty)
  exact⟨typeIs_str s z t,fun _ e=>nomatch e⟩
 |int i =>
  obtain⟨t,rfl⟩:=r
  cases(show T="int" from ty)
  exact⟨typeIs_int s i t,fun _ e=>nomatch e⟩
 |ref p =>
  cases r
  rcases ty with⟨rfl,xs,hq⟩|⟨rfl,o,hk,hc,hd⟩|⟨rfl,hk⟩|⟨rfl,S,n,hk⟩
  ·obtain⟨q,_,j,_⟩:=I.list hq;refine⟨j.isList.typeIs,fun a e=>?_⟩
   cases e
   obtain⟨o,n,e,c,hd,_⟩:=j;exact⟨o,e,hd⟩
  ·refine⟨⟨o,I.A5 p o hk,hc⟩,fun a e=>?_⟩
   cases e
   exact⟨o,I.A5 _ o hk,hd⟩
  ·have z:∃o,s.heap.get? p=some o/\o.ExactDict:=by
    rcases hk with⟨kvs,hk⟩|⟨kvs,hk⟩
    ·obtain⟨_,_,_,_,o,_,_,e,ex,_⟩:=I.hok p _ hk;exact⟨o,e,ex⟩
    ·obtain⟨_,_,_,_,o,_,_,e,ex,_⟩:=I.hok p _ hk;exact⟨o,e,ex⟩
   obtain⟨o,e,ex⟩:=z;refine⟨⟨o,e,ex.1⟩,fun a g=>?_⟩
   cases g
   exact⟨o,e,ex.2.1⟩
  ·obtain⟨o,_,_,_,e,ex,_⟩:=I.hok p _ hk;refine⟨⟨o,e,ex.1⟩,fun a g=>?_⟩
   cases g
   exact⟨o,e,ex.2.1⟩
 |_=>exact Mt ty
noncomputable abbrev KA(r:V->List V->Hp->VK->Prop)(x:V)(Q:VK):List V->Hp->Prop:=fun d e=>r x d e Q
noncomputable def KC(K:bA)(T:String)(r:V->List V->Hp->VK->Prop)(t:TA)(e:St)(Q:VK):VK:=fun x d=>ID K T x d/\t e d (KA r x Q)
noncomputable def Jh(K:bA)(T:String)(r:V->List V->Hp->VK->Prop)(g:TE):TE:=fun e H Q=>g e H fun x d=>ID K T x d/\r x [] d Q
noncomputable abbrev KG(K:bA)(T:String)(r:V->List V->Hp->VK->Prop)(e:TE)(t:TA):TE:=fun d H Q=>e d H (KC K T r t d Q)
variable {o e:Expr}{es:List Expr}{to:TE}{t:TA}{name:Str}{apos cpos:Pos}{T id:String}{r:V->List V->Hp->VK->Prop}
theorem Bl(u:PlainAttrs T)(g:Slot T name id)(j:typeOf (.builtin id)=pure (.type "method_descriptor"))(hm:IB X id r)(w:PE X o to)
  (hbase:Sj o name X.env (eval o X.env)=eval o X.env:=by rfl) (hline:(apos.endLine == cpos.line)=true:=by rfl):PE X (.Call (.Attribute o name apos) [] [] cpos) (Jh X.K T r to):=by
 intro d s l H Q I h;refine wpAny_Call_method0_late hbase hline (cO (w d s l H _ I h) fun v q ⟨x,A,p,m,ty,q1⟩=>?_);obtain⟨z,y⟩:=Bk p m ty;exact⟨T,id,u,g,j,z,y,O0 rfl (PySem.evalArgs_none (hm d q l A x [] v [] Q p m .nil q1))⟩
theorem yR(C:PlainAttrs T)(g:Slot T name id)(l:typeOf (.builtin id)=pure (.type "method_descriptor"))(hm:IB X id r)(D:PE X o to)(E:PA X (e::es) t)
  (hbase:Sj o name X.env (eval o X.env)=eval o X.env:=by rfl)
  (hfew:((OL cpos (LA (e::es) X.env)).all (fun x=>!x.1)&&(backToKw cpos (keywordEach [] X.env)).all (fun x=>x.1.isSome)
   && decide ((e::es).length+([]:List Tc).length+(if([]:List Tc).isEmpty then 0 else 1)<30))=true:=by rfl)
  (hline:(apos.endLine == cpos.line)=true:=by rfl) (hs:LA (e::es) X.env=(false,eval e X.env)::LA es X.env:=by rfl) (hplain:(OL cpos (LA es X.env)).any (·.1)=false:=by rfl) :
  PE X (.Call (.Attribute o name apos) (e::es) [] cpos) (KG X.K T r to t):=by
 intro d s j H Q I h;refine wpAny_Call_method_late hbase hfew hline rfl (cO (D d s j H _ I h) fun v A ⟨x,N,u,p,ty,q1⟩=>?_);obtain⟨J,G⟩:=Bk u p ty;refine⟨T,id,C,g,l,J,G,?_⟩;have q:=E cpos d A j N _ u q1;rw[hs]at q⊢;refine O0 (by show(false||(OL cpos (LA es X.env)).any (·.1))=false;rw[hplain]<;>rfl) (RZ ?_)
 exact cO q fun y z ⟨w,M,L,r2,B⟩=>hm d z j M x w v y Q L p r2 B
/- xs.append(e),list.index on a module's tuple .. are IB facts of 06m -/
end
noncomputable def IE(X:Cx)(id:String)(r:V->List V->Hp->VK->Prop):Prop :=
 ∀(d:List (Addr×Obj)) (s:mu) (e:St) (H:Hp) (x:V) (g:List V) (v:j3) (j:List j3) (Q:VK),Inv X d e H s->RelV x v->Vals g j->r x g H Q ->
  La (Lr X.prog X.w) X.A (call (.builtin id) (v::j)) (EP X d e Q) X.xe s
theorem Vals.one:∀{x:V}{us:List j3},Vals [x] us->∃u,us=[u]/\RelV x u
 |_,_,.cons r .nil=>⟨_,rfl,r⟩
theorem Vals.zero:∀{us:List j3},Vals [] us->us=[]
 |_,.nil=>rfl
theorem Vals.dropLast{xs:List V}{us:List j3}(h:Vals xs us):Vals xs.dropLast us.dropLast:=by
 induction h with
 |nil=>exact .nil
 |cons r t ih =>
  cases t with
  |nil=>exact .nil
  |cons q t'=>exact .cons r ih
theorem Vals.eraseIdx:∀{xs:List V}{us:List j3}(i:Nat),Vals xs us->Vals (xs.eraseIdx i) (us.eraseIdx i)
 |_,_,_,.nil=>.nil
 |_,_,0,.cons _ t=>t
 |_,_,i+1,.cons r t=>.cons r (Vals.eraseIdx i t)
theorem Vals.reverse{xs:List V}{us:List j3}(h:Vals xs us):Vals xs.reverse us.reverse:=by
 induction h with
 |nil=>exact .nil
 |cons r t ih=>rw[Oi,Oi];exact Vals.append ih (.cons r .nil)
theorem Vals.rep{xs:List V}{us:List j3}(h:Vals xs us):∀k:Nat,Vals (LB k xs).flatten (LB k us).flatten
 |0=>.nil
 |k+1=>by
  rw[M9,M9,O1,O1];exact Vals.append h (Vals.rep h k)
theorem xP{d:Type}(l:List d):l.eraseIdx (l.length-1)=l.dropLast:=by
 induction l with
 |nil=>rfl
 |cons a r ih =>
  cases r with
  |nil=>rfl
  |cons b r =>
   have e:(a::b::r).length-1=((b::r).length-1)+1:=by
    have j:(a::b::r).length=r.length+2:=rfl;have g:(b::r).length=r.length+1:=rfl;omega
   rw[e,List.eraseIdx_cons_succ,ih]
   all_goals rfl
theorem tD{d:Type}:∀(l:List d) (i:Nat),(l.eraseIdx i).length<=l.length
 | [],_=>lj _
 |_::_,0=>QL _
 |_::r,i+1=>Q9 (tD r i)
theorem foldl_rep(d:List j3):∀(k:Nat) (acc:List j3),
  Tg (fun g x2=>g++x2) acc.toArray (LB k d.toArray)=(acc++(LB k d).flatten).toArray
 |0,acc=>by simp
 |k+1,acc=>by
  have e:acc.toArray++d.toArray=(acc++d).toArray:=by simp
  have j:(acc++d)++(LB k d).flatten=acc++(LB (k+1) d).flatten:=by
   rw[M9,O1,LM]
  rw[←j,←foldl_rep d k (acc++d),←e,M9,List.foldl_cons]
section
variable {X:Cx}{pins:List (Addr×Obj)}{σ:St}{H:Hp}{s:mu}{l b:Addr}{xs ys zs:List V}
theorem Inv.Bm{d its':List j3}{n:Nat}{f:Array j3->Array j3}{t':Nat}(I:Inv X pins σ H s)(m:H l=some (.lst xs))
  (e:s.heap.get? l=some {cls:=.type "list",data:=.seq d.toArray n}) (hf:f d.toArray=its'.toArray) (hv:Vals ys its') (hz:ys.length<=nk) :
  Inv X pins σ (upd H l (.lst ys)) {s with heap:=s.heap.update l (LX f),toks:=t'}:=by
 have q:=PySem.IsL.update e f;rw[hf]at q;refine I.write (x:=l) (e:=l) (by rw[m];exact trivial) (.inl rfl) (fun o u j g=>(Ms s.heap (LX f) (MQ j)).trans g) ⟨_,q⟩ ?_;exact⟨hz,its',_,hv,q⟩
theorem Inv.Hs{d:List j3}{t':Nat}(I:Inv X pins σ H s)(e:Vals ys d)(hz:ys.length<=nk) :
  Inv X pins σ (upd H s.heap.objs.size (.lst ys)) {s with heap:=s.heap.push {cls:=.type "list",data:=.seq d.toArray},toks:=t'} :=
 I.laid (fun _ _ q=>mC _ q) (lj _) ⟨hz,d,0,e,K9 _ rfl⟩
theorem Inv.fresh(I:Inv X pins σ H s):H s.heap.objs.size=none:=I.hok.fresh (lj _)
theorem Inv.sF(I:Inv X pins σ H s)(g:H l=some (.lst xs)):xs.length<=nk/\∃(d:List j3) (n:Nat),Vals xs d/\xs.length=d.length/\s.heap.get? l=some {cls:=.type "list",data:=.seq d.toArray n}:=by
 obtain⟨z,d,n,r,e⟩:=I.hok l _ g;exact⟨z,d,n,r,r.length,e⟩
theorem oA{n:Nat}(h:n<=nk):NG n=false:=by
 unfold NG;exact decide_eq_false (by omega)
end
section
variable {X:Cx}
noncomputable def Dw:V->List V->Hp->VK->Prop:=fun x e H Q=>∃l d y,x=.ref l/\e=[y]/\H l=some (.lst d)/\d.length<nk/\Q .iP (upd H l (.lst (d++[y])))
theorem cz:IE X "list.append" Dw:=by
 intro g s t H x A v B Q I m o h;obtain⟨l,w,y,rfl,rfl,j,C,q⟩:=h
 cases m
 obtain⟨u,rfl,p⟩:=o.one;obtain⟨z,d,n,r,D,e⟩:=I.sF j;refine Qn F.slot_list_append ⟨_,e,rfl⟩ F.entry_list_append (F.args_list_append_2 _ _) (PySem.list_append l d.toArray n u (by rw[rj];omega)) ⟨e,?_⟩;refine⟨.iP,_,I.Bm (its':=d++[u]) j e (by simp) (r.append (.cons p .nil)) ?_,rfl,q⟩;rw[lu,O6];omega
noncomputable def Dy:V->List V->Hp->VK->Prop:=fun x g H Q=>∃l b e d,x=.ref l/\g=[.ref b]/\H l=some (.lst e)/\H b=some (.lst d)/\e.length+d.length<=nk/\Q .iP (upd H l (.lst (e++d)))
theorem i8:IE X "list.extend" Dy:=by
 intro o s E H x M v N Q I t w h;obtain⟨l,b,L,G,rfl,rfl,p,C,O,q⟩:=h
 cases t
 obtain⟨u,rfl,y⟩:=w.one
 cases y
 obtain⟨z,g,n,r,P,e⟩:=I.sF p;obtain⟨J,d,A,r2,B,D⟩:=I.sF C;have m:g.toArray.size+d.toArray.size<=nk:=by rw[rj,rj];omega
 have j:¬(!g.toArray.isEmpty&&NG (g.toArray.size+d.toArray.size))=true:=by
  rw[oA m,Bool.and_false];exact Lg
 refine Qn F.slot_list_extend ⟨_,e,rfl⟩ F.entry_list_extend (F.args_list_extend_2 _ _)
  (AutoSeq1.list_extend_list_list_0 l g.toArray n b d.toArray A j (by rw[rj];omega) (by omega)) ⟨e,D,?_⟩
 refine⟨.iP,_,I.Bm (its':=g++d) p e (by simp) (r.append r2) ?_,rfl,q⟩;rw[lu];omega
noncomputable def Ji:V->List V->Hp->VK->Prop:=fun x e H Q=>∃l d y,x=.ref l/\e=[]/\H l=some (.lst d)/\d[d.length-1]?=some y/\Q y (upd H l (.lst d.dropLast))
theorem Bo:IE X "list.pop" Ji:=by
 intro m s D H x G v J Q I p t h;obtain⟨l,E,y,rfl,rfl,o,A,q⟩:=h
 cases p
 have j:=t.zero;subst j;obtain⟨z,d,n,r,C,e⟩:=I.sF o;obtain⟨u,B,w⟩:=r.get A
 have g:d.toArray[d.toArray.size-1]?=some u:=by
  show d.toArray[d.length-1]?=some u;rw[←Od,←C];exact B
 refine Qn Na ⟨_,e,rfl⟩ F.entry_list_pop (F.args_list_pop_1 _) (MeetsSeq.list_pop_last l d.toArray n u g (by rw[rj];omega)) ⟨e,?_⟩;refine⟨y,_,I.Bm (its':=d.dropLast) o e ?_ r.dropLast ?_,w,q⟩
 ·show d.toArray.eraseIdxIfInBounds (d.toArray.size-1)=d.dropLast.toArray;rw[rj,O5,xP]
 ·rw[List.length_dropLast];omega
noncomputable def Fy:V->List V->Hp->VK->Prop:=fun x e H Q=>∃l d i k y,x=.ref l/\e=[.int i]/\H l=some (.lst d)/\-(2 ^ 63)<=i/\i<2 ^ 63/\Qd i d.length=some k/\d[k]?=some y/\Q y (upd H l (.lst (d.eraseIdx k)))
theorem vK:IE X "list.pop" Fy:=by
 intro j s M H x N v O Q I p A h;obtain⟨l,o,i,k,y,rfl,rfl,m,L,J,G,C,q⟩:=h
 cases p
 obtain⟨u,rfl,B⟩:=A.one;obtain⟨t,rfl⟩:=B;obtain⟨z,d,n,r,E,e⟩:=I.sF m;obtain⟨w,D,g⟩:=r.get C
 refine Qn Na ⟨_,e,rfl⟩ F.entry_list_pop (F.args_list_pop_2 _ _)
  (MeetsSeq.list_pop_at l d.toArray n i t k w (fitsIndex_both L J) (by rw[rj,←E];exact G) (by rw[←Od];exact D) (by rw[rj];omega)) ⟨e,?_⟩
 refine⟨y,_,I.Bm (its':=d.eraseIdx k) m e ?_ (r.eraseIdx k) ?_,g,q⟩
 ·show d.toArray.eraseIdxIfInBounds k=(d.eraseIdx k).toArray;rw[O5]
 ·have:=tD o k;omega
noncomputable def Ht:R2:=fun x y H Q=>∃l b e d,x=.ref l/\y=.ref b/\H l=some (.lst e)/\H b=some (.lst d)/\e.length+d.length<=nk/\∀p,H p=none->Q (.ref p) (upd H p (.lst (e++d)))
theorem qS:mW X (Nn .Add) Ht:=by
 intro j s C H x y v u Q I o m h;obtain⟨l,b,G,D,rfl,rfl,t,w,L,q⟩:=h
 cases o
 cases m
 obtain⟨z,g,n,r,M,e⟩:=I.sF t;obtain⟨E,d,J,r2,p,B⟩:=I.sF w;refine PySem.P.add_list e B ?_ (by rw[rj,rj];omega);have A:g.toArray++d.toArray=(g++d).toArray:=by simp
 rw[A];exact⟨.ref _,_,I.Hs (t':=s.toks) (r.append r2) (by rw[lu];omega),rfl,q _ I.fresh⟩
noncomputable def Jj:R2:=fun x y H Q=>∃l k d,x=.ref l/\y=.int k/\H l=some (.lst d)/\-(2 ^ 63)<=k/\k<2 ^ 63/\d.length*k.toNat<=nk /\
 ∀p,H p=none->Q (.ref p) (upd H p (.lst (LB k.toNat d).flatten))
theorem len_rep{d:Type}(xs:List d)(k:Nat):(LB k xs).flatten.length=k*xs.length:=by
 induction k with
 |zero=>simp
 |succ k ih=>rw[M9,O1,lu,ih,RB,Nat.add_comm]
theorem Fz:mW X (Nn .Mult) Jj:=by
 intro C s R H x y v u Q I J G h;obtain⟨l,k,S,rfl,rfl,M,O,N,D,q⟩:=h
 cases J
 obtain⟨t,rfl⟩:=G;obtain⟨z,d,n,r,L,e⟩:=I.sF M;have o:d.toArray.size*k.toNat<=nk:=by rw[rj,←L];exact D
 have w:¬d.toArray.size*k.toNat>(2 ^ 63-1) / 8:=by
  have:(nk:Nat)<=(2 ^ 63-1) / 8:=by decide
  omega
 have p:¬(!Og.List.listFitsIndex k)=true:=by
  rw[fitsIndex_both O N];exact Lg
 have g:¬NG (d.toArray.size*k.toNat)=true:=by
  rw[oA o];exact Lg
 have j:Tg (fun B A=>B++A) #[] (LB (if d.toArray.isEmpty=true then 0 else k.toNat) d.toArray)=(LB k.toNat d).flatten.toArray:=by
  have P:∀m:Nat,Tg (fun B A=>B++A) #[] (LB m d.toArray)=(LB m d).flatten.toArray:=fun m=>by
   have:=foldl_rep d m [];rw[PR]at this;exact this
  rw[P]
  cases d with
  |nil=>simp
  |cons a r'=>rw[if_neg (by simp)]
 refine wpAny_binaryOp_repeat_ref (T:="list") (U:="int") (by decide) ⟨_,e,rfl⟩ (fun E=>typeIs_int E k t) noFill_list_mul F.fills_int_mul F.slot_int_rmul repeat_list F.slot_int_index.lookup
  (Qn F.slot_int_rmul (typeIs_int s k t) F.entry_int_rmul (F.args_int_rmul_2 _ _) (int___rmul___int_list k t l d.toArray n)
   ⟨e,rfl,⟨_,e,rfl⟩,Qn F.slot_list_mul ⟨_,e,rfl⟩ F.entry_list_mul (F.args_list_mul_2 _ _) (AutoListH.list___mul___list_int_3 l d.toArray n k t p w g) ⟨e,?_⟩⟩)
 rw[j];exact⟨.ref _,_,I.Hs (t':=s.toks) (r.rep k.toNat) (by rw[len_rep,Nat.mul_comm];exact D),rfl,q _ I.fresh⟩
end
section
variable {prog:FG}{w:Lk}{A:Lz}{E:j3->mu->Prop}{s:mu}
theorem Af (d e : List j3) (a c : Nat) : d.toArray.extract 0 a ++ e.toArray ++ d.toArray.extract c d.toArray.size = (d.take a ++ e ++ d.drop c).toArray := by
  apply S1.mp
  first
    | (simp
       exact LO (by simp))
    | simp [LO]
    | simp
end
section
variable {X:Cx}
end
end L2
namespace Att
open PySem PySem.W PySem.Calls PyProof.Rows
theorem qw{P:Params}{h:Heap}:∀(ns:List Int) (d:List j3),WellAll P h d (ns.map WData.int)->Td d ns:=by
 intro ns
 induction ns with
 |nil =>
  intro d w;rw[Nc]at w
  cases w
  exact .nil
 |cons n ns ih =>
  intro d w;rw[Lh]at w
  cases w with
  |cons a b =>
   cases a
   exact .cons _ _ (ih _ b)
theorem Ag{l:P4}{n:Nat}(hn:l.most=some n){P:Params}{h:Heap}{args:List WData}{e:List j3}
  (hpre:l.row.toRowW.claim.pre args=true) (hwl:WellAll P h e args) :
  ∃a p ns,e=[Value.ref a]/\args=[WData.list (ns.map WData.int)]/\h.get? a=some {cls:=.type "list",data:=.seq p.toArray}/\Td p ns/\ns.length<=n:=by
 have o:WShape.hasAll [] args [.list .int]=true:=(pre_splitW hpre).1;have t:l.pre.holds [] {args:=args}=true:=(pre_splitW hpre).2;obtain⟨d,r,rfl,y,w⟩:=hasAllW_cons o;obtain rfl:=hasAllW_nil w;obtain⟨z,rfl,v⟩:=hasW_list y;obtain⟨ns,rfl⟩:=items_int v
 have g:ns.length<=n:=by
  unfold P4.pre at t
  have m:(WTm.not (.lt (.lit (.int (n:Int))) (.len (.arg 0)))).holds [] {args:=[.list (ns.map .int)]}=true:=by
   have m:=(holds_andW t).1;rw[hn]at m;exact m
  have j:=condW_of m (w_not (w_lt w_lit (w_len_list (w_arg rfl))));rw[bC]at j;refine Nat.le_of_not_lt fun q=>?_;have u:(n:Int)<((ns.length:Nat):Int):=by omega
  first
   |(rw[decide_eq_true u]at j;exact absurd j (by decide))
   |(simp at j;omega)
 cases hwl with
 |cons w1 w2 =>
  cases w2
  cases w1 with
  |list ho hall=>exact⟨_,_,ns,rfl,rfl,ho,qw ns _ hall,g⟩
theorem Ah(l:P4)(args:List WData):l.row.toRowW.claim.post args (.bool true) args=true :=
 postW_of (r:=l.row.toRowW) (X:=(true == true))
  (show WShape.has [] (.bool true) .bool=true by first|rfl|decide|simp[WShape.has,WShape.arms,WShape.armsAll])
  (show(WTm.eq .res (.lit (.bool true))).value [] {args:=args,res:=some (.bool true),after:=args}=some (.bool (true == true))from w_eq_bool (w_res rfl) w_lit) rfl
theorem vL{l:P4}{n:Nat}{q:FG}{j:List Str}{O:(Str->Option j3)->Heap->Prop}{N:Lk->Heap->Prop}{d:DefRec}
  (hn:l.most=some n) (hdf:d.params.defaults=[])
  (call:∀(w:Lk) (g e:mu) (mg C:Str->Option j3) (z:Addr) (o:Obj) (B A p:j3) (a:Addr) (t:List j3) (ns:List Int),
   Ground q j [] O w g mg C e.heap->N w e.heap ->
   e.heap.get? z=some o->o.data=.func (docDef d.name d.params d.body d.scope B A p)->e.heap.CodeRec A d.name->mg d.name=some (.ref z) ->
   e.heap.get? a=some {cls:=.type "list",data:=.seq t.toArray}->Td t ns->ns.length<=n->e.gens=#[] ->
   OX (Lr l.prog w) R8 (.call (.ref z) ⟨[.ref a],[]⟩) (fun r s'=>r=.ok (.ret (.bool true))/\OldK e.heap s'.heap/\s'.os=e.os/\QE s'.gens) e) :
  WalkO q j O N l.row.toRowW d [] (fun f t=>Th f t):=by
 intro w g e mg C G Y z o B A p Z kV R hd H L E U M I as u J P D T;obtain rfl:Z=.none:=Dflts.none L hdf;obtain rfl:kV=.none:=Dflts.noKw L;obtain⟨a,t,ns,rfl,rfl,v,m,y⟩:=Ag hn u D;refine enter_call (OY (call w g e mg C z o B A p a t ns G Y R (fd_plain hd) H E v m y U) fun r s' Q=>?_);obtain⟨rfl,X,W,V⟩:=Q;exact⟨.inl ⟨.bool true,.bool true,[],rfl,fun _=>rfl,.bool true,Ah l _,fun _=>⟨List.Pairwise.nil,fun _ S=>(nomatch S)⟩⟩,X,W,V⟩
section
variable {prog:FG}{w:Lk}{A:Lz}{E:j3->mu->Prop}{s:mu}{K:Frag}
end
end Att
namespace L2
open PySem PySem.Spec PyProof.Rows
theorem tE:∀{d:List j3}{ns:List Int},Td d ns->Vals (ns.map V.int) d
 |_,_,.nil=>.nil
 |_,_,.cons n t h=>.cons ⟨t,rfl⟩ (tE h)
noncomputable def eY(s:Stmt):Q6:=match s with
 |.FunctionDef _ a _ _ _ _ _ _ _ _=>a
 |_=>{posonlyargs:=[],args:=[],vararg:=none,kwonlyargs:=[],kw_defaults:=[],kwarg:=none,defaults:=[]}
noncomputable def bS(s:Stmt):List Stmt:=match s with
 |.FunctionDef _ _ b _ _ _ _ _ _ _=>b
 |_=>[]
noncomputable def aj(s:Stmt):M4:=match s with
 |.FunctionDef _ _ _ _ _ _ sc _ _ _=>sc
 |_=>{kind:=.function,names:=[],isGenerator:=false,isCoroutine:=false}
noncomputable abbrev eL:xD:=fun _ _ _ _ _ _=>False
noncomputable abbrev E0:XK:=fun _ _ _=>False
theorem nv{X:Cx}:Passes eL X E0:=fun _ _ _ _ _ _ _ h=>h.elim
structure gX(K:bA) (x qual:Str) (st:Stmt) (f:Addr) (fd:zo):Prop where
 ex:∃(oc:j3) (od:Option Addr) (kV doc pm:j3) (an:Option Addr) (cdv ct:j3) (osl:Array (Option j3)),
  fd=Ov x qual (eY st) (bS st) (aj st) .none kV doc pm an cdv ct/\K.lookup f=some ⟨oc,od,.func fd,osl⟩/\Pd K cdv qual=true
 kp:MO K (.ref f)=true
section
variable {P:FG}{w:Lk}{K:bA}{mg:Str->Option j3}{base:Heap}
theorem gX.ok{x e:Str}{st:Stmt}{f:Addr}{o:zo}{N ps:List Str}{k:Nat}{sp:Sp}(F:gX K x e st f o)(S:aI N ps (aj st))(len:∀j H Q E,sp j H Q E->j.length=ps.length)
  (hbody:∀(g:j3) (A:Lz) (d:List Env) (s:mu) (H:Hp) (j:List V) (Q:VK) (E:XK),ic k (A.deeper (Ry e (aj st) s.heap.objs.size f g))->sp j H Q E ->
   ∃t,vE (uq eL P w K mg base N e (aj st) f g A d s H E).A9 (bS st) t/\t {nx:=fun _ v=>Q .iP v,rt:=Q} (start N j) H):bK P w K mg base eL (k+1) f o ps sp:=by
 obtain⟨B,z,kV,u,y,D,g,C,p,rfl,r,m⟩:=F.ex;refine EB r m S len fun A d s H j Q E hr l=>?_;obtain⟨t,h,q⟩:=hbody g A d s H j Q E hr l;exact⟨t,h.A9,q⟩
theorem gX.binds{x d:Str}{st:Stmt}{f:Addr}{m:zo}{ps:List Str}(F:gX K x d st f m)
  (h:∀(kV e j:j3) (l:Option Addr) (g ct:j3) (us:List j3),us.length=ps.length->bindArgs (Ov x d (eY st) (bS st) (aj st) .none kV e j l g ct) ⟨us,[]⟩=pure (ps.zip us)):Binds K m ps []:=by
 obtain⟨r,q,kV,e,j,l,g,ct,o,rfl,t,p⟩:=F.ex;exact .all (h kV e j l g ct)
end
theorem jo{A:Lz}{k:Nat}(hr:ic k A):A.units+1<OA:=Qo (Sa (by decide:1<=64) _) hr.units
theorem bj{n:Nat}(h:n<=1000):n<nk:=Qo h (by decide)
section
variable {X:Cx}
theorem pv(i:Nat){x:Str}{d:Pos}(g:X.N[i]?=some x:=by rfl)(e:GW X.env.scope x:=by first|exact Or.inl rfl|exact Or.inr (Or.inl rfl)|exact Or.inr (Or.inr rfl))(hd:(x == ("__debug__":Str))=false:=by decide)
  (hcd:(x == ("__classdict__":Str))=false:=by decide):PE X (.Name x d) (nX i):=A8 g e hd hcd
end
theorem cH{c A B:Prop}[Decidable c](e:c->A)(d:¬c->B):if c then A else B:=by
 by_cases h:c
 ·rw[if_pos h];exact e h
 ·rw[if_neg h];exact d h
noncomputable def aF(H d:Hp):Prop:=∀b o,H b=some o->d b=some o
theorem aF.refl(H:Hp):aF H H:=fun _ _ h=>h
theorem aF.trans{H e d:Hp}(a:aF H e)(b:aF e d):aF H d:=fun c o h=>b c o (a c o h)
theorem aF.free{H d:Hp}(e:aF H d){l:Addr}(h:d l=Option.none):H l=Option.none:=by
 cases q:H l with
 |none=>rfl
 |some o =>
  rw[e l o q]at h
  cases h
theorem aF.seq{K:bA}{H d:Hp}{a:Addr}{xs:List V}(e:aF H d)(h:bz K H a xs):bz K d a xs:=by
 rcases h with(h|⟨o,h⟩)|h
 ·exact .inl (.inl (e _ _ h))
 ·exact .inl (.inr ⟨o,e _ _ h⟩)
 ·exact .inr h
section
variable {κ:Type} [DecidableEq κ]
noncomputable def dU(kvs:List (κ×V))(k:κ):Option V:=(kvs.find? fun d=>decide (d.1=k)).map (·.2)
noncomputable def putK(kvs:List (κ×V))(k:κ)(v:V):List (κ×V) :=
 if(kvs.any fun d=>decide (d.1=k))=true then kvs.map (fun d=>if d.1=k then(d.1,v)else d)else kvs++[(k,v)]
theorem qT{p:κ×V}{r:List (κ×V)}{k:κ}(e:p.1=k):dU (p::r) k=some p.2:=by simp[dU,M7,e]
theorem qU{p:κ×V}{r:List (κ×V)}{k:κ}(e:¬p.1=k):dU (p::r) k=dU r k:=by simp[dU,M7,e]
theorem vM(k:κ):∀kvs:List (κ×V),(kvs.any fun kv=>decide (kv.1=k))=(dU kvs k).isSome
 | []=>rfl
 |p::r=>by
  rw[Po]
  by_cases e:p.1=k
  ·simp only[qT e,decide_eq_true e,Bool.true_or,Option.isSome_some]
  ·rw[qU e,decide_eq_false e,Bool.false_or];exact vM k r
theorem mh(kvs:List (κ×V))(k:κ)(v:V):(putK kvs k v).length<=kvs.length+1:=by
 unfold putK
 split
 ·rw[bC];omega
 ·rw[lu,Lu,List.length_nil];omega
theorem lV.pL{o:Option V}{u:Option j3}(r:lV o u):o.isSome=u.isSome:=by
 cases o with
 |none=>cases u with
  |none=>rfl
  |some _=>exact(show False from r).elim
 |some _=>cases u with
  |none=>exact(show False from r).elim
  |some _=>rfl
theorem lV.getD{o:Option V}{u:Option j3}{d:V}{d':j3}(r:lV o u)(e:RelV d d'):RelV (o.getD d) (u.getD d'):=by
 cases o with
 |none=>cases u with
  |none=>exact e
  |some _=>exact(show False from r).elim
 |some _=>cases u with
  |none=>exact(show False from r).elim
  |some _=>exact r
theorem KV.val{kvs:List (κ×V)}{g:List (κ×j3)}(r:KV kvs g)(k:κ):lV (dU kvs k) (Ow g k):=by
 unfold KV at r
 induction r with
 |nil=>exact True.intro
 |@cons p q ps qs h t ih =>
  obtain⟨j,l⟩:=h
  by_cases e:p.1=k
  ·have d:q.1=k:=j.symm.trans e;have b:Ow (q::qs) k=some q.2:=by simp[Ow,M7,d]
   rw[qT e,b];exact l
  ·have d:¬q.1=k:=fun z=>e (j.trans z);have b:Ow (q::qs) k=Ow qs k:=by simp[Ow,M7,d]
   rw[qU e,b];exact ih
theorem KV.any{kvs:List (κ×V)}{d:List (κ×j3)}(r:KV kvs d)(k:κ):(kvs.any fun kv=>decide (kv.1=k))=d.any fun kv=>decide (kv.1=k):=by
 unfold KV at r
 induction r with
 |nil=>rfl
 |cons h t ih=>rw[Po,Po,ih,h.1]
theorem KV.repl{kvs:List (κ×V)}{g:List (κ×j3)}(r:KV kvs g)(k:κ){y:V}{u:j3}(j:RelV y u) :
  KV (kvs.map fun kv=>if kv.1=k then(kv.1,y)else kv) (g.map fun kv=>if kv.1=k then(kv.1,u)else kv):=by
 unfold KV at r⊢
 induction r with
 |nil=>exact .nil
 |@cons p q ps qs h t ih =>
  rw[Lh,Lh];refine .cons ?_ ih;obtain⟨d,l⟩:=h
  by_cases e:p.1=k
  ·rw[if_pos e,if_pos (d.symm.trans e)];exact⟨d,j⟩
  ·rw[if_neg e,if_neg (fun z=>e (d.trans z))];exact⟨d,l⟩
theorem KV.put{kvs:List (κ×V)}{d:List (κ×j3)}(r:KV kvs d)(k:κ){y:V}{u:j3}(g:RelV y u):KV (putK kvs k y) (stored d k u):=by
 unfold putK stored;rw[r.any k]
 by_cases e:(d.any fun j=>decide (j.1=k))=true
 ·rw[if_pos e,if_pos e];exact r.repl k g
 ·rw[if_neg e,if_neg e];exact Paired.snoc r ⟨rfl,g⟩
theorem KV.length{kvs:List (κ×V)}{d:List (κ×j3)}(r:KV kvs d):kvs.length=d.length:=Paired.length r
end
theorem qV{P:FG}{w:Lk}{k:Key}{u:j3}(r:RelV (kV k) u):(cN P w).is k u=true:=by
 cases k with
 |inl i=>obtain⟨t,e⟩:=(show ∃t,u=Value.int i t from r);subst e;exact vA P w i t
 |inr x=>obtain⟨t,e⟩:=(show ∃t,u=Value.str x t from r);subst e;exact vB P w x t
theorem tF{P:FG}{w:Lk}:∀{ks:List Key}{us:List j3},Vals (ks.map kV) us->ItemsAre (cN P w) ks us
 | [],_,r=>by rw[Nc]at r;cases r;exact .nil
 |k::ks,_,r=>by
  rw[Lh]at r
  cases r with
  |cons h t=>exact .cons (qV h) (tF t)
noncomputable abbrev KT(H:Hp):List (List Key×V)->List (List Key×Addr×j3)->Prop:=Paired fun p q=>p.1=q.1/\H q.2.1=some (.tup (p.1.map kV))/\RelV p.2 q.2.2
theorem KT.val{H:Hp}{kvs:List (List Key×V)}{xs:List (List Key×Addr×j3)}(r:KT H kvs xs)(k:List Key):lV (dU kvs k) ((S7 xs k).map (·.2)):=by
 induction r with
 |nil=>exact True.intro
 |@cons p q ps qs h t ih =>
  obtain⟨g,_,j⟩:=h
  by_cases e:p.1=k
  ·have d:q.1=k:=g.symm.trans e;have b:S7 (q::qs) k=some q.2:=by simp[S7,M7,d]
   rw[qT e,b];exact j
  ·have d:¬q.1=k:=fun z=>e (g.trans z);have b:S7 (q::qs) k=S7 qs k:=by simp[S7,M7,d]
   rw[qU e,b];exact ih
theorem KT.repl{H:Hp}{kvs:List (List Key×V)}{xs:List (List Key×Addr×j3)}(r:KT H kvs xs)(k:List Key){y:V}{u:j3}(j:RelV y u) :
  KT H (kvs.map fun kv=>if kv.1=k then(kv.1,y)else kv) (xs.map (putAt k u)):=by
 induction r with
 |nil=>exact .nil
 |@cons p q ps qs h t ih =>
  rw[Lh,Lh];refine .cons ?_ ih;obtain⟨d,g,l⟩:=h;unfold putAt
  by_cases e:p.1=k
  ·rw[if_pos e,if_pos (d.symm.trans e)];exact⟨d,g,j⟩
  ·rw[if_neg e,if_neg (fun z=>e (d.trans z))];exact⟨d,g,l⟩
theorem KT.put{H:Hp}{kvs:List (List Key×V)}{xs:List (List Key×Addr×j3)}(r:KT H kvs xs)(k:List Key){b:Addr}{y:V}{u:j3}(j:H b=some (.tup (k.map kV)))(d:RelV y u) :
  KT H (putK kvs k y) (storedH xs k b u):=by
 have e:(kvs.any fun g=>decide (g.1=k))=(S7 xs k).isSome:=by
  rw[vM,(r.val k).pL,SI]
 unfold putK storedH;rw[e]
 by_cases q:(S7 xs k).isSome=true
 ·rw[if_pos q,if_pos q];exact r.repl k d
 ·rw[if_neg q,if_neg q];exact Paired.snoc r ⟨rfl,j,d⟩
theorem KT.keeps{H d:Hp}{kvs:List (List Key×V)}{xs:List (List Key×Addr×j3)}(r:KT H kvs xs)(ht:∀b ys,H b=some (.tup ys)->d b=some (.tup ys)):KT d kvs xs :=
 Paired.E1 r fun _ _ z=>⟨z.1,ht _ _ z.2.1,z.2.2⟩
section
variable {P:FG}{w:Lk}{H:Hp}{h:Heap}{a:Addr}
theorem ED{u:HO}(ok:m9 P w H h)(e:Rd H a u):ef P w H h a u:=e.ok ok
theorem tG{kvs:List (Key×V)}(ok:m9 P w H h)(e:Rd H a (.dK kvs)):kvs.length<=nk/\(a == MC)=false/\∃d,KV kvs d/\h.DictOf (cN P w) a d :=
 show ef P w H h a (.dK kvs)from ED ok e
theorem EE{kvs:List (Key×V)}(ok:m9 P w H h)(e:H a=some (.dK kvs)):kvs.length<=nk/\(a == MC)=false/\∃d,KV kvs d/\h.DictOf (cN P w) a d:=tG ok (.inl e)
theorem qW{ks:List Key}(ok:m9 P w H h)(e:H a=some (.tup (ks.map kV))):(Q4 (cN P w)).is h ks a:=by
 obtain⟨_,d,r,⟨o,l,j,n,g⟩,_⟩:=(show ef P w H h a (.tup (ks.map kV))from ok a _ e);exact⟨o,d.toArray,n,l,j,g,by simpa using tF r⟩
theorem tH{kvs:List (List Key×V)}(ok:m9 P w H h)(e:Rd H a (.dT kvs)):kvs.length<=nk/\(a == MC)=false /\
  ∃xs,KT H kvs xs/\h.DictOfH (Q4 (cN P w)) a xs:=by
 obtain⟨z,y,xs,r,o,A,B,v,u,j,g,d⟩:=(show ef P w H h a (.dT kvs)from ED ok e);refine⟨z,y,xs,r,o,A,B,v,u,j,g,fun x hx=>?_,d⟩
 have all:∀{l:List (List Key×V)}{m:List (List Key×Addr×j3)},KT H l m->∀x∈m,(Q4 (cN P w)).is h x.1 x.2.1:=by
  intro l m q
  induction q with
  |nil=>intro x hx;exact nomatch hx
  |@cons p q ps qs hq t ih =>
   intro x hx;rcases ri.mp hx with e|hx
   ·subst e;exact qW ok (by rw[←hq.1];exact hq.2.1)
   ·exact ih x hx
 exact all r x hx
theorem Hu{kvs:List (List Key×V)}(ok:m9 P w H h)(e:H a=some (.dT kvs)):kvs.length<=nk/\(a == MC)=false /\
  ∃xs,KT H kvs xs/\h.DictOfH (Q4 (cN P w)) a xs:=tH ok (.inl e)
end
noncomputable def j4(H:Hp)(a:Addr)(y:V)(r:Option V):Prop :=
 (∃d k,Rd H a (.dK d)/\y=kV k/\r=dU d k)\/∃d k b,Rd H a (.dT d)/\y=.ref b/\H b=some (.tup (k.map kV))/\r=dU d k
noncomputable def kY(H:Hp)(a:Addr)(y v:V)(e:Hp):Prop :=
 (∃d k,H a=some (.dK d)/\y=kV k/\d.length<nk/\e=upd H a (.dK (putK d k v))) \/
 ∃d k b,H a=some (.dT d)/\y=.ref b/\H b=some (.tup (k.map kV))/\d.length<nk/\e=upd H a (.dT (putK d k v))
theorem j4.k{H:Hp}{a:Addr}{kvs:List (Key×V)}{k:Key}(e:H a=some (.dK kvs)):j4 H a (kV k) (dU kvs k):=.inl ⟨kvs,k,.inl e,rfl,rfl⟩
theorem j4.t{H:Hp}{a b:Addr}{kvs:List (List Key×V)}{k:List Key}(e:H a=some (.dT kvs))(d:H b=some (.tup (k.map kV))):j4 H a (.ref b) (dU kvs k):=.inr ⟨kvs,k,b,.inl e,rfl,d,rfl⟩
theorem kY.k{H:Hp}{a:Addr}{kvs:List (Key×V)}{k:Key}{v:V}(e:H a=some (.dK kvs))(d:kvs.length<nk):kY H a (kV k) v (upd H a (.dK (putK kvs k v))):=.inl ⟨kvs,k,e,rfl,d,rfl⟩
theorem kY.t{H:Hp}{a b:Addr}{kvs:List (List Key×V)}{k:List Key}{v:V}(e:H a=some (.dT kvs))(g:H b=some (.tup (k.map kV)))(d:kvs.length<nk) :
  kY H a (.ref b) v (upd H a (.dT (putK kvs k v))):=.inr ⟨kvs,k,b,e,rfl,g,d,rfl⟩
section
variable {X:Cx}{pins:List (Addr×Obj)}{σ:St}{H:Hp}{s:mu}{a:Addr}{y v:V}{u r:j3}{o:Option V}{A:Lz}{E:j3->mu->Prop}
theorem Inv.big(I:Inv X pins σ H s):MC<s.heap.objs.size:=by
 have h:ur<s.heap.objs.size:=(I.mod.glob.keeps I.bk).lt;exact P8 (by decide) h
theorem Ai{Q:j3->mu->Prop}(J:A.units+1<OA)(I:Inv X pins σ H s)(g:j4 H a y (some v))(C:RelV y u)(h:∀m s',Inv X pins σ H s'->RelV v m->Q m s') :
  La (Lr X.prog X.w) A (P7 (.ref a) u) Q E s:=by
 rcases g with⟨kvs,k,e,ey,l⟩|⟨kvs,k,b,e,ey,eb,l⟩
 ·subst ey;obtain⟨z,hd,G,j,B⟩:=tG I.hok e;obtain⟨m,q,d⟩:=lV.some_of (v:=v) (o:=Ow G k) (by rw[l];exact j.val k);exact wpAny_getItem_of (qV C) B.mapOf q (h m _ (I.tok _) d)
 ·subst ey
  cases(show u=Value.ref b from C)
  obtain⟨z,hd,D,j,B⟩:=tH I.hok e;obtain⟨m,q,d⟩:=lV.some_of (v:=v) (o:=(S7 D k).map (·.2)) (by rw[l];exact j.val k);obtain⟨p,L,t⟩:=FA.mp q;refine wpAny_getItem_heap (ON J) (qW I.hok eb) B L ?_;rw[t];exact h m _ (I.tok _) d
theorem Jk{Q:j3->mu->Prop}(p:A.units+1<OA)(I:Inv X pins σ H s)(g:j4 H a y o)(m:RelV y u)(h:∀s',Inv X pins σ H s'->Q (.bool o.isSome) s') :
  La (Lr X.prog X.w) A (ML .In u (.ref a)) Q E s:=by
 rcases g with⟨kvs,k,e,ey,l⟩|⟨kvs,k,b,e,ey,eb,l⟩
 ·subst ey;obtain⟨z,hd,B,d,j⟩:=tG I.hok e;refine wpAny_in_of (qV m) hd j.mapOf ?_;rw[←(d.val k).pL,←l];exact h _ (I.tok _)
 ·subst ey
  cases(show u=Value.ref b from m)
  obtain⟨z,hd,t,d,j⟩:=tH I.hok e;refine wpAny_in_heap (ON p) (qW I.hok eb) hd j ?_;have q:=(d.val k).pL;rw[SI]at q;rw[←q,←l];exact h _ (I.tok _)
theorem uA{h':Heap}{t':Nat}{d:HO}(I:Inv X pins σ H s)(g:GV (H a))(hs:NQ a s.heap h')(j:∃q,h'.get? a=some q)(new:ef X.prog X.w (upd H a d) h' a d) :
  Inv X pins σ (upd H a d) {s with heap:=h',toks:=t'} :=
 I.write (x:=a) (e:=a) g (.inl rfl) (fun b q l z=>(hs.2 b l).trans z) j new
theorem xQ{P:FG}{w:Lk}{g:Hp}{h':Heap}{kvs:List (Key×V)}{d:List (Key×j3)}(z:kvs.length<=nk)(hd:(a == MC)=false)(e:KV kvs d)(dd:h'.DictOf (cN P w) a d) :
  ef P w g h' a (.dK kvs):=⟨z,hd,d,e,dd⟩
theorem Aj{M:Hp}{Q:Unit->mu->Prop}(P:A.units+1<OA)(I:Inv X pins σ H s)(g:kY H a y v M)(D:RelV y u)(G:RelV v r)(h:∀s',Inv X pins σ M s'->Q () s') :
  La (Lr X.prog X.w) A (SD (.ref a) u r) Q E s:=by
 rcases g with⟨kvs,k,e,ey,l,eH⟩|⟨kvs,k,b,e,ey,eb,l,eH⟩
 ·subst ey eH;obtain⟨z,hd,O,d,C⟩:=EE I.hok e;have p:O.length<=nk:=by rw[←d.length];exact z
  have B:(putK kvs k v).length<=nk:=by have:=mh kvs k v;omega
  refine wpAny_setItem_pairs (hsz:=p) (qV D) C fun J j t=>h _ ?_;have R:∃q,J.get? a=some q:=let⟨q,_,_,m,_⟩:=j;⟨q,m⟩;exact uA I (by rw[e];exact True.intro) t R (xQ B hd (d.put k G) j)
 ·subst ey eH
  cases(show u=Value.ref b from D)
  obtain⟨z,hd,N,d,C⟩:=Hu I.hok e;have p:N.length<=nk:=by rw[←Paired.length d];exact z
  have B:(putK kvs k v).length<=nk:=by have:=mh kvs k v;omega
  refine wpAny_setItem_heap (hsz:=p) (ON P) (qW I.hok eb) C fun J j t=>h _ ?_;obtain⟨q,W,Y,m,V,U,T,_,S⟩:=j;refine uA I (by rw[e];exact True.intro) t ⟨q,m⟩ ⟨B,hd,_,(d.put k eb G).keeps fun c Z L=>?_,q,W,Y,m,V,U,T,S⟩;rw[av (cD L e (fun z=>nomatch z))]
  exact L
end
section
variable {X:Cx}{pins:List (Addr×Obj)}{σ:St}{H:Hp}{s:mu}{a:Addr}{kvs:List (Key×V)}{k:Key}{u:j3}{A:Lz}{E:j3->mu->Prop}
end
noncomputable def FE(i:Expr):Prop:=∀d e,RY i false d e=operate [d,e] (P7 d e)
theorem yS{prog:FG}{w:Lk}{A:Lz}{E:j3->mu->Prop}{s:mu}{env:Env}{d slice:Expr}{t:Pos}{T id:String}{Q:j3->mu->Prop}
  (hl:NS (.type T) "__getitem__"=pure (some (.builtin id))) (hs:FE slice)
  (h:La (Lr prog w) A (eval d env) (fun o l=>La (Lr prog w) A (eval slice env) (fun i e=>e.TypeIs o T/\La (Lr prog w) A (P7 o i) Q E e) E l) E s) :
  La (Lr prog w) A (eval (.Subscript d slice t) env) Q E s:=by
 refine Sw (ME h (fun o l q=>ME q (fun i e g=>?_) fun _ _ x=>x) fun _ _ x=>x);obtain⟨u,g⟩:=g;unfold Si;refine bB ?_;rw[getitemInPython_of_ne u.not_modules];refine bB (NZ u hl ?_)
 have m:La (Lr prog w) A (RY slice false o i) (fun r j=>La (Lr prog w) A (letTemporaryGo d o r>>=fun _=>pure r) Q E j) E e:=by
  rw[hs o i];exact wpAny_operating (ME g (fun r j p=>bB (wpAny_letTemporaryGo (my p))) fun _ _ x=>x)
 first
  |exact my (bB m)
  |exact bB (my (bB m))
  |exact bB m
theorem vN{X:Cx}{d:List (Addr×Obj)}{l:St}{H:Hp}{s:mu}{a:Addr}{y:V}{o:Option V}(I:Inv X d l H s)(g:j4 H a y o):s.TypeIs (.ref a) "dict":=by
 rcases g with⟨kvs,k,e,_,_⟩|⟨kvs,k,b,e,_,_,_⟩
 ·obtain⟨_,_,p,_,j⟩:=tG I.hok e;exact j.typeIs
 ·obtain⟨_,_,m,_,j⟩:=tH I.hok e;exact j.typeIs
noncomputable def KH(x:V)(Q:VK):VK:=fun y d=>∃a v,x=.ref a/\j4 d a y (some v)/\Q v d
noncomputable abbrev KL(ty:TE)(d:St)(Q:VK):VK:=fun x e=>ty d e (KH x Q)
noncomputable abbrev Hv(e ty:TE):TE:=fun d H Q=>e d H (KL ty d Q)
noncomputable def Hw(j ty g:TE):TS:=fun D d H=>g d H fun v o=>j d o fun x m=>ty d m fun y l=>∃a e,x=.ref a/\kY l a y v e/\D.nx d e
section
variable {X:Cx}{o i e value:Expr}{pos pos' tpos:Pos}{td ty tv:TE}
theorem uB(w:X.A.units+1<OA)(z:PE X o td)(hi:PE X i ty)(hs:FE i):PE X (.Subscript o i pos) (Hv td ty):=by
 intro d s l H Q I h;refine yS Qz.lookup hs (cO (z d s l H _ I h) fun u p ⟨x,E,C,r,q1⟩=>cO (hi d p l E _ C q1) fun M L ⟨y,D,m,q,a,v,ex,g,t⟩=>?_);subst ex;obtain rfl:u=Value.ref a:=r;exact⟨vN m g,Ai w m g q fun G J B j=>⟨v,D,B,j,t⟩⟩
theorem jN(C:X.A.units+1<OA)(E:PE X o td)(hi:PE X i ty)(B:PE X value tv)(hs:Q5 value (some (.Subscript o i pos')) pos.line X.env=pure false) :
  PS X (.Assign [.Subscript o i pos'] value pos) (Hw td ty tv):=by
 intro d s j H D I h;refine wpAny_Assign_Subscript (cO (B d s j H _ I h) fun r m ⟨v,P,M,t,q1⟩=>cO (E d m j P _ M q1) fun u l ⟨x,O,L,q,z⟩=>cO (hi d l j O _ L z) fun S R ⟨y,T,J,p,a,N,ex,g,w⟩=>?_) hs;subst ex;obtain rfl:u=Value.ref a:=q;exact Aj C J g p t fun Q G=>⟨j,N,G,w⟩
end
theorem vO{P:FG}{w:Lk}{H:Hp}(h:Heap)(d:MC<h.objs.size):ef P w H (h.push {cls:=.type "dict",data:=.dict #[]}) h.objs.size (.dK []) :=
 ⟨Ld _,beq_eq_false_iff_ne.mpr (MQ (Ls d)),[],.nil,S9 h⟩
noncomputable def FF:TE:=fun _ H Q=>∀p,H p=none->Q (.ref p) (upd H p (.dK []))
section
variable {X:Cx}{pos:Pos}
theorem Bp:PE X (.Dict [] [] pos) FF:=fun d s e H Q I h =>
 wpAny_Dict_empty ⟨.ref s.heap.objs.size,_,I.laid (a:=s.heap.objs.size) (o:=.dK []) (t':=s.toks) (fun _ _ q=>mC _ q) (lj _) (vO s.heap I.big),rfl,h _ (I.hok.fresh (lj _))⟩
end
noncomputable def xR:List (TE×TE)->St->Hp->(List (V×V)->Hp->Prop)->Prop
 | [],_,H,Q=>Q [] H
 |(tk,tv)::r,σ,H,Q=>tk σ H fun x j=>tv σ j fun y g=>xR r σ g fun d e=>Q ((x,y)::d) e
noncomputable abbrev VV:List (V×V)->List (j3×j3)->Prop:=Paired fun p q=>RelV p.1 q.1/\RelV p.2 q.2
noncomputable def IF(X:Cx)(l:Pos)(keys:List (Option Expr))(d:List Expr)(j:List (TE×TE)):Prop :=
 ∀(e:List (Addr×Obj)) (s:mu) (g:St) (H:Hp) (Q:List (V×V)->Hp->Prop),Inv X e g H s->xR j g H Q ->
  La (Lr X.prog X.w) X.A (evalPairs (pairTrees keys d X.env l)) (fun p q=>∃m o,Inv X e g o q/\VV m p/\Q m o) X.xe s
theorem Dz{X:Cx}{d:Pos}:IF X d [] [] []:=fun e s g H Q I h=>pairTrees_nil_walk ⟨[],H,I,.nil,h⟩
theorem ki{X:Cx}{g:Pos}{k v:Expr}{ks:List (Option Expr)}{m:List Expr}{tk o:TE}{e:List (TE×TE)}(C:PE X k tk)(B:PE X v o)(hr:IF X g ks m e) :
  IF X g (some k::ks) (v::m) ((tk,o)::e):=fun d s j H Q I h =>
 pairTrees_cons_walk (cO (C d s j H _ I h) fun u q ⟨x,M,G,t,q1⟩=>cO (B d q j M _ G q1) fun O p ⟨y,L,E,r,z⟩ =>
  cO (hr d p j L _ E z) fun N P ⟨A,J,D,l,w⟩=>⟨(x,y)::A,J,D,.cons ⟨t,r⟩ l,w⟩)
noncomputable def dH(kvs more:List (Key×V)):List (Key×V):=more.foldl (fun d e=>putK d e.1 e.2) kvs
theorem KV.merge:∀{more:List (Key×V)}{rs:List (Key×j3)}{kvs:List (Key×V)}{d:List (Key×j3)},KV more rs->KV kvs d->KV (dH kvs more) (Sx d rs):=by
 intro more rs kvs d r;unfold KV at r
 induction r generalizing kvs d with
 |nil=>intro q;exact q
 |@cons p q ps qs h t ih =>
  intro g
  have e:KV (putK kvs p.1 p.2) (stored d q.1 q.2):=by
   have:=g.put p.1 h.2;rw[←h.1];exact this
  exact ih e
theorem j5:∀(more kvs:List (Key×V)),(dH kvs more).length<=kvs.length+more.length
 | [],kvs=>by show kvs.length<=kvs.length+0;omega
 |p::r,kvs=>by
  have e:=j5 r (putK kvs p.1 p.2);have d:=mh kvs p.1 p.2;show(dH (putK kvs p.1 p.2) r).length<=_;rw[Lu];omega
theorem qX{P:FG}{w:Lk}:∀{kvs:List (Key×V)}{d:List (j3×j3)},VV (kvs.map fun kv=>(kV kv.1,kv.2)) d->∃rs,Carries (cN P w) d rs/\KV kvs rs
 | [],_,r=>by rw[Nc]at r;cases r;exact⟨[],True.intro,.nil⟩
 |p::kvs,_,r=>by
  rw[Lh]at r
  cases r with
  |@cons a b as bs h t =>
   obtain⟨rs,c,q⟩:=qX (P:=P) (w:=w) t;obtain⟨g,e⟩:=b;exact⟨(p.1,e)::rs,⟨qV h.1,rfl,c⟩,.cons ⟨rfl,h.2⟩ q⟩
noncomputable def EF(e:List (TE×TE)):TE:=fun l H Q=>∀p,H p=none->xR e l (upd H p (.dK [])) fun m j=>j p=some (.dK [])/\∃d:List (Key×V),m=d.map (fun g=>(kV g.1,g.2))/\d.length<=15/\Q (.ref p) (upd j p (.dK (dH [] d)))
theorem DA{X:Cx}{j:Pos}{keys:List (Option Expr)}{d:List Expr}{g:List (TE×TE)}(h:IF X j keys d g)(p:keys.all (·.isSome)=true)(L:keys.length=d.length)(O:keys≠[])
  (h15:keys.length<=15):PE X (.Dict keys d j) (EF g):=by
 intro l s v H Q I q;have J:=I.hok.fresh (lj s.heap.objs.size);have T:=I.laid (a:=s.heap.objs.size) (o:=.dK []) (h':=s.heap.push {cls:=.type "dict",data:=.dict #[]}) (t':=s.toks) (fun _ _ q=>mC _ q) (lj _) (vO s.heap I.big);refine wpAny_Dict_walk (knd:=cN X.prog X.w) p L O h15 (cO (h l _ v _ _ T (q _ J)) fun U V ⟨W,Z,u,t,e,m,R,Y,D⟩=>?_);subst R;obtain⟨A,c,B⟩:=qX (P:=X.prog) (w:=X.w) t;obtain⟨z,hd,y,C,S⟩:=EE u.hok e
 cases C
 refine⟨A,c,S,fun h' r G=>⟨.ref s.heap.objs.size,_,?_,rfl,D⟩⟩
 have E:(dH [] m).length<=nk:=by
  have N:=j5 m [];rw[List.length_nil]at N;rw[QI];omega
 have M:∃q,h'.get? s.heap.objs.size=some q:=let⟨q,_,_,hq,_⟩:=r;⟨q,hq⟩;exact uA u (by rw[e];exact True.intro) G M (xQ E hd (B.merge .nil) r)
structure M2(X:Cx) (o:Expr) (m:Str) (apos:Pos) (e f:Expr) (cpos:Pos):Prop where
 base:Sj o m X.env (eval o X.env)=eval o X.env
 few:((OL cpos (LA [e,f] X.env)).all (fun x=>!x.1)&&(backToKw cpos (keywordEach [] X.env)).all (fun x=>x.1.isSome)
  && decide (([e,f]:List Expr).length+([]:List Tc).length+(if([]:List Tc).isEmpty then 0 else 1)<30))=true
 line:(apos.endLine == cpos.line)=true
 trees:OL cpos (LA [e,f] X.env)=[(false,eval e X.env),(false,eval f X.env)]
noncomputable def Jl(H:Hp)(a:Addr):Prop:=(∃d,Rd H a (.dK d))\/∃d,Rd H a (.dT d)
theorem FH{X:Cx}{j:List (Addr×Obj)}{p:St}{H:Hp}{s:mu}{a:Addr}(I:Inv X j p H s)(d:Jl H a) :
  s.TypeIs (.ref a) "dict"/\(∀b,Value.ref a=.ref b->∃g,s.heap.get? b=some g/\g.dict=none)/\(a == MC)=false:=by
 rcases d with⟨kvs,e⟩|⟨kvs,e⟩
 ·obtain⟨_,hd,t,_,l⟩:=tG I.hok e;refine⟨l.typeIs,fun b q=>?_,hd⟩
  cases q
  obtain⟨g,_,_,o,m,_⟩:=l;exact⟨g,o,m.2.1⟩
 ·obtain⟨_,hd,r,_,l⟩:=tH I.hok e;refine⟨l.typeIs,fun b q=>?_,hd⟩
  cases q
  obtain⟨g,_,_,o,m,_⟩:=l;exact⟨g,o,m.2.1⟩
section
variable {X:Cx}{pins:List (Addr×Obj)}{σ:St}{H:Hp}{s:mu}{a:Addr}{y d:V}{u r:j3}{o:Option V}{A:Lz}{E:j3->mu->Prop}
theorem FJ{Q:j3->mu->Prop}(B:A.units+1<OA)(I:Inv X pins σ H s)(g:j4 H a y o)(q:RelV y u)(t:RelV d r)(h:∀p s',Inv X pins σ H s'->RelV (o.getD d) p->Q p s') :
  La (Lr X.prog X.w) A (call (.builtin "dict.get") [.ref a,u,r]) Q E s:=by
 rcases g with⟨kvs,k,e,ey,l⟩|⟨kvs,k,b,e,ey,eb,l⟩
 ·subst ey;obtain⟨z,hd,C,j,m⟩:=tG I.hok e;refine call_meetsIn O7 m.typeIs RC (Ra _ _ _) (meets_dict_get_default (cN X.prog X.w) a (qV q) hd r) ⟨_,m.mapOf,h _ _ (I.tok _) ?_⟩;rw[l];exact(j.val k).getD t
 ·subst ey
  cases(show u=Value.ref b from q)
  obtain⟨z,hd,v,j,m⟩:=tH I.hok e;refine call_meetsIn O7 m.typeIs RC (Ra _ _ _) (meetsH_dict_get_default (Q4 (cN X.prog X.w)) a b hd r) ⟨ON B,k,v,qW I.hok eb,m,h _ _ (I.tok _) ?_⟩;rw[l];exact(j.val k).getD t
end
noncomputable def FL(l ty j:TE):TE:=fun d H Q=>l d H fun x g=>∃a,x=.ref a/\Jl g a/\ty d g fun y m=>j d m fun z e=>∃o,j4 e a y o/\Q (o.getD z) e
section
variable {X:Cx}{o e f:Expr}{apos cpos:Pos}{td ty tx:TE}
theorem qY(G:X.A.units+1<OA)(J:PE X o td)(M:PE X e ty)(L:PE X f tx)(m:M2 X o "get" apos e f cpos):PE X (.Call (.Attribute o "get" apos) [e,f] [] cpos) (FL td ty tx):=by
 intro j s l H Q I h;refine wpAny_Call_method m.base m.few m.line PySem.F.plainAttrs_dict O7 PySem.F.type_dict_get (cO (J j s l H _ I h) fun u v ⟨x,T,q,C,a,ex,d,q1⟩=>?_);subst ex;obtain rfl:u=Value.ref a:=C;obtain⟨r,t2,_⟩:=FH q d;refine⟨r,t2,?_⟩;rw[m.trees]
 refine O0 rfl (RZ (NR (cO (M j v l T _ q q1) fun Z t ⟨y,S,P,B,E⟩ =>
  NR (cO (L j t l S _ P E) fun fv W ⟨z,R,O,w,Y,g,D⟩=>OW ?_))))
 exact FJ G O g B w fun U V N p=>⟨_,R,N,p,D⟩
end
section
variable {X:Cx}{pins:List (Addr×Obj)}{σ:St}{H:Hp}{s:mu}{a:Addr}{kvs:List (Key×V)}{A:Lz}{E:j3->mu->Prop}
end
section
variable {X:Cx}{pins:List (Addr×Obj)}{σ:St}{H:Hp}{s:mu}{a:Addr}{y:V}{u:j3}{A:Lz}{E:j3->mu->Prop}
end
end L2
set_option maxHeartbeats 4000000
namespace L2
open PySem
inductive T where
 |s (x:Str)|i (n:Int)|n|t (xs:List T)
theorem T.induct{P:T->Prop}(hs:∀x,P (.s x))(hi:∀n,P (.i n))(hn:P .n)(ht:∀xs,(∀x∈xs,P x)->P (.t xs))(a:T):P a :=
 T.rec (motive_1:=P) (motive_2:=fun xs=>∀x∈xs,P x) hs hi hn ht (fun _ h=>nomatch h) (fun _ _ g e y d=>by
  cases d with
  |head=>exact g
  |tail _ h=>exact e y h) a
mutual
noncomputable def T.dep:T->Nat
 |.t xs=>T.dB xs+1
 |_=>0
noncomputable def T.dB:List T->Nat
 | []=>0
 |x::r=>max x.dep (T.dB r)
end
theorem T.Bq{xs:List T}{x:T}(h:x∈xs):x.dep<=T.dB xs:=by
 induction xs with
 |nil=>cases h
 |cons y r ih =>
  unfold T.dB
  cases h with
  |head=>exact Nat.le_max_left _ _
  |tail _ h=>exact I0 (ih h) (Nat.le_max_right _ _)
mutual
noncomputable def T.eqB:T->T->Bool
 |.s x,.s y=>x == y
 |.i m,.i k=>m == k
 |.n,.n=>true
 |.t xs,.t ys=>T.qx xs ys
 |_,_=>false
noncomputable def T.qx:List T->List T->Bool
 | [],[]=>true
 |x::r,y::q=>x.eqB y&&T.qx r q
 |_,_=>false
end
theorem T.Br{xs:List T}(h:∀x∈xs,∀y,T.eqB x y=true↔x=y):∀ys,T.qx xs ys=true↔xs=ys:=by
 induction xs with
 |nil=>intro ys;cases ys<;>simp[T.qx]
 |cons x r ih =>
  intro ys
  cases ys with
  |nil=>simp[T.qx]
  |cons y q =>
   unfold T.qx;rw[Mj,h x (.head _) y,ih (fun z d=>h z (.tail _ d)) q,List.cons.injEq]
theorem T.eqB_iff(a:T):∀b,T.eqB a b=true↔a=b:=by
 induction a using T.induct with
 |hs x=>intro b;cases b<;>simp[T.eqB]
 |hi x=>intro b;cases b<;>simp[T.eqB]
 |hn=>intro b;cases b<;>simp[T.eqB]
 |ht xs ih =>
  intro b
  cases b with
  |t ys=>unfold T.eqB;rw[T.Br ih ys,T.t.injEq]
  |_=>simp[T.eqB]
theorem T.Bs(a:T):T.eqB a a=true:=(T.eqB_iff a a).mpr rfl
noncomputable instance:DecidableEq T:=fun a b=>if h:T.eqB a b=true then .isTrue ((T.eqB_iff a b).mp h)else .isFalse fun z=>h ((T.eqB_iff a b).mpr z)
theorem T.yT(a b:T):T.eqB a b=decide (a=b):=by rw[OI,decide_eq_true_iff,T.eqB_iff]
theorem T.nI:∀(xs ys:List T),T.qx xs ys=((LU (min xs.length ys.length)).all (fun j=>T.eqB (xs.getD j .n) (ys.getD j .n))&&xs.length == ys.length)
 | [],[]=>rfl
 | [],y::q=>by simp[T.qx]
 |x::r,[]=>by simp[T.qx]
 |x::r,y::q=>by
  unfold T.qx;rw[T.nI r q,Lu,Lu,Nat.succ_min_succ,List.range_succ_eq_map,Pn,List.all_map];have e:(r.length+1 == q.length+1)=(r.length == q.length):=by simp
  rw[e,Bool.and_assoc];rfl
end L2
namespace L2
open PySem
inductive Hd where
 |num (n:Int)|name (x:Str)|gap (n:Int)|op (s:Str)|row|more|first|others|long|tag (t:Str)|call (f:Str)|mat (arms:List (Str×List Str))|ife|lt (x:Str)|fold (x y:Str)
inductive Tm where
 |mk (h:Hd) (ks:List Tm)
noncomputable def Tm.hd:Tm->Hd|.mk h _=>h
noncomputable def Tm.ks:Tm->List Tm|.mk _ ks=>ks
theorem Tm.induct{P:Tm->Prop}(hm:∀h ks,(∀k∈ks,P k)->P (.mk h ks))(a:Tm):P a :=
 Tm.rec (motive_1:=P) (motive_2:=fun d=>∀x∈d,P x) hm (fun _ h=>nomatch h) (fun _ _ j g y e=>by
  cases e with
  |head=>exact j
  |tail _ h=>exact g y h) a
noncomputable def cM:Hd->Nat->Bool
 |.num _,n=>n == 0
 |.name _,n=>n == 0
 |.gap _,n=>n == 0
 |.op _,n=>n == 2
 |.row,_=>true
 |.more,n=>n == 2
 |.first,n=>n == 1
 |.others,n=>n == 1
 |.long,n=>n == 1
 |.tag _,_=>true
 |.call _,_=>true
 |.mat arms,n=>n == arms.length+1
 |.ife,n=>n == 3
 |.lt _,n=>n == 2
 |.fold _ _,n=>n == 3
inductive Wf:Tm->Prop
 |mk {h:Hd}{ks:List Tm}:cM h ks.length=true->(∀k∈ks,Wf k)->Wf (.mk h ks)
noncomputable def bnd:Hd->Nat->List (List Str)
 |.mat arms,_=>[]::arms.map (·.2)
 |.lt x,_=>[[],[x]]
 |.fold x y,_=>[[],[],[x,y]]
 |_,n=>LB n []
noncomputable def gw(a:Str×List Str)(k:T):T:=.t [.s a.1,.t (a.2.map .s),k]
noncomputable def kZ:Hd->List T->T
 |.num n,_=>.t [.s "num",.i n]
 |.name x,_=>.t [.s "name",.s x]
 |.gap n,_=>.t [.s "gap",.i n]
 |.op s,ks=>.t (.s "op"::.s s::ks)
 |.row,ks=>.t [.s "row",.t ks]
 |.more,ks=>.t (.s "more"::ks)
 |.first,ks=>.t (.s "first"::ks)
 |.others,ks=>.t (.s "others"::ks)
 |.long,ks=>.t (.s "long"::ks)
 |.tag t,ks=>.t [.s "tag",.s t,.t ks]
 |.call f,ks=>.t [.s "call",.s f,.t ks]
 |.mat arms,ks=>.t [.s "match",ks.headD .n,.t (LK gw arms ks.tail)]
 |.ife,ks=>.t (.s "if"::ks)
 |.lt x,ks=>.t (.s "let"::.s x::ks)
 |.fold x y,ks=>.t [.s "fold",ks.getD 0 .n,.s x,.s y,ks.getD 1 .n,ks.getD 2 .n]
mutual
noncomputable def enc:Tm->T
 |.mk h ks=>kZ h (DC ks)
noncomputable def DC:List Tm->List T
 | []=>[]
 |k::r=>enc k::DC r
end
theorem vP:∀ks:List Tm,DC ks=ks.map enc
 | []=>rfl
 |k::r=>by unfold DC;rw[vP r];rfl
theorem bw(h:Hd)(ks:List Tm):enc (.mk h ks)=kZ h (ks.map enc):=by unfold enc;rw[vP]
mutual
noncomputable def Tm.size:Tm->Nat
 |.mk _ ks=>Tm.sizes ks+1
noncomputable def Tm.sizes:List Tm->Nat
 | []=>0
 |k::r=>k.size+Tm.sizes r
end
mutual
noncomputable def Tm.depth:Tm->Nat
 |.mk _ []=>0
 |.mk _ (k::r)=>Tm.dI (k::r)+1
noncomputable def Tm.dI:List Tm->Nat
 | []=>0
 |k::r=>max k.depth (Tm.dI r)
end
mutual
noncomputable def Tm.parts:Tm->List Tm
 |.mk h ks=>.mk h ks::Tm.eA ks
noncomputable def Tm.eA:List Tm->List Tm
 | []=>[]
 |k::r=>k.parts++Tm.eA r
end
theorem Tm.fV(k:Tm)(r:List Tm):Tm.eA (k::r)=k.parts++Tm.eA r:=by rw[Tm.eA]
theorem Tm.di(k:Tm)(r:List Tm):Tm.sizes (k::r)=k.size+Tm.sizes r:=by rw[Tm.sizes]
theorem Tm.fN(h:Hd)(ks:List Tm):(Tm.mk h ks).size=Tm.sizes ks+1:=by rw[Tm.size]
theorem Tm.xS(h:Hd)(k:Tm)(r:List Tm):(Tm.mk h (k::r)).depth=Tm.dI (k::r)+1:=by rw[Tm.depth]
theorem Tm.jq(h:Hd)(ks:List Tm):(Tm.mk h ks).parts=.mk h ks::Tm.eA ks:=by unfold Tm.parts;rfl
theorem Tm.ny:∀(a b:List Tm),Tm.eA (a++b)=Tm.eA a++Tm.eA b
 | [],b=>by simp[Tm.eA]
 |k::r,b=>by rw[MU,Tm.fV,Tm.fV,Tm.ny r b,LM]
theorem Tm.eZ:∀(a b:List Tm),Tm.sizes (a++b)=Tm.sizes a+Tm.sizes b
 | [],b=>by simp[Tm.sizes]
 |k::r,b=>by rw[MU,Tm.di,Tm.di,Tm.eZ r b];omega
theorem Tm.j6:∀(a:List Tm),Tm.sizes a.reverse=Tm.sizes a
 | []=>rfl
 |k::r=>by rw[Oi,Tm.eZ,Tm.j6 r];simp only[Tm.sizes];omega
theorem Tm.size_pos(a:Tm):0<a.size:=by cases a;unfold Tm.size;omega
theorem Tm.cY(a:Tm):a.parts.length=a.size:=by
 induction a using Tm.induct with
 |hm h ks ih =>
  rw[Tm.jq,Lu];unfold Tm.size
  congr 1
  induction ks with
  |nil=>rfl
  |cons k r ih2 =>
   unfold Tm.eA Tm.sizes;rw[lu,ih k (.head _),ih2 fun x d=>ih x (.tail _ d)]
theorem Tm.xT{ks:List Tm}{k:Tm}(h:k∈ks):k.depth<=Tm.dI ks:=by
 induction ks with
 |nil=>cases h
 |cons y r ih =>
  unfold Tm.dI
  cases h with
  |head=>exact Nat.le_max_left _ _
  |tail _ h=>exact I0 (ih h) (Nat.le_max_right _ _)
theorem Tm.vQ{h:Hd}{ks:List Tm}{n:Nat}(a:∀k∈ks,k.depth<=n):(Tm.mk h ks).depth<=n+1:=by
 cases ks with
 |nil=>unfold Tm.depth;omega
 |cons y r =>
  unfold Tm.depth;refine Q9 ?_;generalize(y::r)=l at a
  induction l with
  |nil=>exact Ld _
  |cons z q ih=>unfold Tm.dI;exact Nat.max_le.mpr ⟨a z (.head _),ih fun k d=>a k (.tail _ d)⟩
end L2
namespace L2
open PySem PySem.Spec PyProof.Rows
noncomputable def b7(env:Env):List (Str×Om)->List (Str×Addr)->List (Str×Addr)
 | [],cs=>cs
 |(n,k)::r,cs=>b7 env r (if k == .free then(n,(env.cells.lookup n).getD 0)::cs else cs)
theorem j7{d:M4}{env:Env}(h:∀x∈d.names,x.2=.free->∃c,env.cells.lookup x.1=some c):closureFor d env=pure (b7 env d.names []):=by
 have go:∀(l:List (Str×Om)) (j:List (Str×Addr)),(∀x∈l,x.2=.free->∃c,env.cells.lookup x.1=some c) ->
   (forIn l j fun x r=>if(x.2 == NameKind.free)=true then do let a ←cellOf env x.1;pure (ForInStep.yield ((x.1,a)::r))else pure (ForInStep.yield r):Sem (List (Str×Addr)))=pure (b7 env l j):=by
  intro l
  induction l with
  |nil=>intro j _;rfl
  |cons x r ih =>
   intro j o;obtain⟨n,k⟩:=x;rw[Ny]
   by_cases p:k=.free
   ·subst p;obtain⟨c,q⟩:=o (n,.free) MD rfl;have e:cellOf env n=pure c:=by unfold cellOf;rw[show env.cells.lookup n=some c from q]
    simp only[beq_self_eq_true,if_true,e,pure_bind];rw[ih _ fun y m=>o y (Mc _ m)];unfold b7;rw[show env.cells.lookup n=some c from q]
    cases r<;>rfl
   ·have t:(k == NameKind.free)=false:=by simpa using p
    simp only[t,Mi,if_false,pure_bind];rw[ih _ fun y m=>o y (Mc _ m)]
    conv=>rhs;unfold b7
    simp only[t,Mi,if_false]
 simp only[closureFor];have g:=go d.names [] h;simp only[g];rfl
theorem gy{env:Env}:∀(l:List (Str×Om)) (m:List (Str×Addr)),(∀x∈l,x.2=.free->∃c,env.cells.lookup x.1=some c)->(∀y c,m.lookup y=some c->env.cells.lookup y=some c) ->
  ∀y c,(b7 env l m).lookup y=some c->env.cells.lookup y=some c
 | [],_,_,hc=>hc
 |(n,k)::r,m,hl,hc=>by
  refine gy r _ (fun x p=>hl x (Mc _ p)) fun y c e=>?_
  by_cases g:(k == NameKind.free)=true
  ·rw[if_pos g]at e;rw[LG]at e
   by_cases o:y=n
   ·subst o;simp only[beq_self_eq_true]at e;obtain⟨t,j⟩:=hl (y,k) MD (by simpa using g);have d:env.cells.lookup y=some t:=j;rw[d]at e⊢;exact e
   ·have q:(y == n)=false:=beq_eq_false_iff_ne.mpr o;rw[q]at e;exact hc y c e
  ·rw[if_neg g]at e;exact hc y c e
theorem nA{env:Env}:∀(l:List (Str×Om)) (d:List (Str×Addr)) (y:Str),(∃c,d.lookup y=some c)->∃c,(b7 env l d).lookup y=some c
 | [],_,_,h=>h
 |(n,k)::r,d,y,h=>by
  refine nA r _ y ?_
  by_cases e:(k == NameKind.free)=true
  ·rw[if_pos e,LG]
   cases hb:(y == n)with
   |true=>exact⟨_,rfl⟩
   |false=>exact h
  ·rw[if_neg e];exact h
theorem iT{env:Env}:∀(l:List (Str×Om)) (d:List (Str×Addr)) (y:Str),(y,NameKind.free)∈l->∃c,(b7 env l d).lookup y=some c
 | [],_,_,h=>nomatch h
 |(n,k)::r,d,y,h=>by
  rcases ri.mp h with e|h
  ·have j:y=n:=congrArg Prod.fst e;have g:NameKind.free=k:=congrArg Prod.snd e;subst j;subst g;refine nA r _ y ⟨(env.cells.lookup y).getD 0,?_⟩;rw[if_pos (by rfl),LG,beq_self_eq_true]
  ·exact iT r _ y h
theorem j8{env:Env}:∀{names:List (Str×Om)}{x:Str}{e:Om},(names.map fun(n,k)=>if(k == NameKind.free&&env.scope.kind == .function&&env.kindOf n == some .cell)then(n,NameKind.cell)else(n,k)).lookup x=some e ->
  names.lookup x=some e\/(e=.cell/\names.lookup x=some .free)
 | [],_,_,h=>by simp at h
 |(n,k)::r,x,e,h=>by
  have g:=@j8 env r x e;change Pw x ((if(k == NameKind.free&&env.scope.kind == .function&&env.kindOf n == some .cell)=true then(n,NameKind.cell)else(n,k))::_)=_ at h
  cases hx:x == n with
  |true =>
   by_cases d:(k == NameKind.free&&env.scope.kind == .function&&env.kindOf n == some .cell)=true
   ·rw[if_pos d]at h;simp only[LG,hx]at h
    cases h
    have j:k=.free:=by simp at d;exact d.1.1
    subst j;exact .inr ⟨rfl,by simp only[LG,hx]⟩
   ·rw[if_neg d]at h;simp only[LG,hx]at h
    cases h
    exact .inl (by simp only[LG,hx])
  |false =>
   by_cases d:(k == NameKind.free&&env.scope.kind == .function&&env.kindOf n == some .cell)=true
   ·rw[if_pos d]at h;simp only[LG,hx]at h⊢;exact g h
   ·rw[if_neg d]at h;simp only[LG,hx]at h⊢;exact g h
theorem oB{env:Env}:∀{names:List (Str×Om)}{x:Str},names.lookup x=some .free ->
  (names.map fun(n,k)=>if(k == NameKind.free&&env.scope.kind == .function&&env.kindOf n == some .cell)then(n,NameKind.cell)else(n,k)).lookup x=some .cell \/
  (names.map fun(n,k)=>if(k == NameKind.free&&env.scope.kind == .function&&env.kindOf n == some .cell)then(n,NameKind.cell)else(n,k)).lookup x=some .free
 | [],_,h=>by simp at h
 |(n,k)::r,x,h=>by
  have e:=@oB env r x;show Pw x ((if(k == NameKind.free&&env.scope.kind == .function&&env.kindOf n == some .cell)=true then(n,NameKind.cell)else(n,k))::_)=_\/Pw x ((if(k == NameKind.free&&env.scope.kind == .function&&env.kindOf n == some .cell)=true then(n,NameKind.cell)else(n,k))::_)=_
  cases hx:x == n with
  |true =>
   simp only[LG,hx]at h
   cases h
   by_cases d:(NameKind.free == NameKind.free&&env.scope.kind == .function&&env.kindOf n == some .cell)=true
   ·rw[if_pos d];exact .inl (by simp only[LG,hx])
   ·rw[if_neg d];exact .inr (by simp only[LG,hx])
  |false =>
   simp only[LG,hx]at h
   by_cases d:(k == NameKind.free&&env.scope.kind == .function&&env.kindOf n == some .cell)=true
   ·rw[if_pos d];simp only[LG,hx];exact e h
   ·rw[if_neg d];simp only[LG,hx];exact e h
section
variable {prog:FG}{w:Lk}{A:Lz}{R:Ss->mu->Prop}{s:mu}
theorem iE{D d u:Expr}{B:List Expr}{o:M4}{G:Pos}{it acc:j3}{env:Env}{E:j3->mu->Prop}(I:Nat->mu->Prop)
  (turn:∀n s,I n s->La (Lr prog w) A (OD it) (fun r l=>match r with
   |none=>R (.ok .next) l
   |some v=>La (Lr prog w) A (PM d it v) (fun _ j=>La (Lr prog w) A (RW d env v) (fun _ t =>
     La (Lr prog w) A (forIn B true fun c r=>if r=true then do let ok ←isTrue c env (eval c env);pure (ForInStep.yield ok)else pure (ForInStep.yield r)) (fun ok g =>
      if ok=true then La (Lr prog w) A (eval D env) (fun x q =>
       La (Lr prog w) A (call (.builtin "list.append") [acc,x]) (fun _ p=>∃m,m<n/\I m p) E q) E g
      else ∃m,m<n/\I m g) E t) E j) E l) E s)
  (hE:∀e s',E e s'->notedBy (Lr prog w) A env (fun e s'=>R (.error e) s') e s')
  (n:Nat) (h:I n s) :
  OX (Lr prog w) A (.compLoop (.ListComp D [⟨d,u,B,0⟩] o G) 0 it acc env) R s:=by
 refine codeAny_loop rfl I (fun n s M=>?_) n h;show La _ A ((compTurn (.ListComp D [⟨d,u,B,0⟩] o G) 0 it acc env).onRaise (fun x=>do noteFrame x env;theTreesLotGoes x)) _ _ s;refine wpAny_noted ?_;rw[compTurn_list];refine bB (Pk (bB (ME (turn n s M) (fun r l z=>?_) hE)))
 cases r with
 |none=>exact my z
 |some v =>
  refine bB (ME z (fun _ j C=>?_) hE);refine bB (ME C (fun _ t L=>bB (ME L (fun ok g y=>?_) hE)) hE)
  cases ok with
  |false=>exact my ⟨rfl,y⟩
  |true =>
   exact bB (bB (ME y (fun x q J=>bB (ME J (fun _ p H=>my (my ⟨rfl,H⟩)) hE)) hE))
end
noncomputable def bT(X:Cx)(d:M4)(l:List Str)(j:List Addr)(C:Addr)(e:mu)(g:Hp):Cx where
 prog:=X.prog
 w:=X.w
 K:=X.K
 mg:=X.mg
 base:=X.base
 A:=X.A
 N:=l
 s₀:=e
 H₀:=g
 env:=compEnvC d (b7 X.env d.names []) C X.env
 outer:=X.stack
 stack:=X.stack
 ex:=j
 fn:=fun _=>false
 calm:=X.calm
 pn:=[]
 xe:=fun _ _=>False
noncomputable def Ak(X:Cx)(g:List Expr)(t:TT):Prop :=
 ∀(d:List (Addr×Obj)) (s:mu) (e:St) (H:Hp) (Q:Bool->Hp->Prop),Inv X d e H s->t e H Q ->
  La (Lr X.prog X.w) X.A (forIn g true fun c r=>if r=true then do let ok ←isTrue c X.env (eval c X.env);pure (ForInStep.yield ok)else pure (ForInStep.yield r)) (TP X d e Q) X.xe s
noncomputable def tI:TT:=fun _ H Q=>Q true H
theorem dW{X:Cx}:Ak X [] tI:=fun d s e H Q I h=>by
 rw[NK];exact my ⟨H,I,h⟩
theorem gz{X:Cx}{c:Expr}{t:TT}(g:PT X c t):Ak X [c] t:=fun d s e H Q I h=>by
 simp only[Ny,NK,if_true];exact bB (bB (ME (g d s e H Q I h) (fun b l j=>my (my j)) fun _ _ x=>x))
noncomputable def jO(own:Nat)(fr:List Nat)(d:St):St:=LB own none++fr.map fun j=>(d[j]?).join
noncomputable def jP(J:It)(g:TG)(w:TT)(y:TE)(Q:VK)(q:St)(A:Hp):Prop:=∃W:Nat->Nat->St->List V->Hp->Prop,(∃m,W 0 m q [] A)/\∀i m j e H,W i m j e H ->
 (J.stop i H/\e.length<=nk/\∀p,H p=none->Q (.ref p) (upd H p (.lst e))) \/
 (J.go i H/\e.length<nk/\∃N:St->List V->Hp->Prop,(∀d l o,N d l o->∃r,r < m/\W (i+1) r d l o)/\∀x u,J.yld i H x u->g x j u fun d o=>w d o fun ok t =>
  if ok=true then y d t fun v z=>N d (e++[v]) z else N d e t)
noncomputable def yU(own:Nat)(fr:List Nat)(e:TI)(g:TG)(j:TT)(l:TE):TE:=fun d H Q=>e d H fun J m=>jP J g j l Q (jO own fr d) m
section
variable {X:Cx}{pins:List (Addr×Obj)}{σ:St}{H:Hp}{s:mu}
theorem Bt{own:List Str}{fr:List Nat}(r:σ.length=X.N.length){i:Nat}{x:Str}{v:V}(g:(own++fr.map fun j=>X.N.getD j Lw)[i]?=some x)(d:(jO own.length fr σ)[i]?=some (some v)) :
  ∃j∈fr,X.N[j]?=some x/\X.N.getD j Lw=x/\σ[j]?=some (some v):=by
 unfold jO at d
 by_cases m:i<own.length
 ·rw[LR (by simpa using m),OQ,if_pos m]at d
  cases d
 ·rw[LJ (by simpa using m),Oc,rz]at d;rw[LJ (by omega),rz]at g
  cases e:fr[i-own.length]? with
  |none=>rw[e]at d;cases d
  |some j =>
   rw[e]at g d;simp only[OJ,O2]at g d
   have p:σ[j]?=some (some v):=by
    cases q:σ[j]? with
    |none=>rw[q]at d;cases d
    |some o=>rw[q]at d;exact congrArg some d
   have l:j<X.N.length:=by rw[←r];exact(ko.mp p).1
   refine⟨j,we e,?_,g,p⟩;rw[←g,Np,m3 l];rfl
theorem qZ{d:M4}{own:List Str}{fr:List Nat}{G:List Addr}{C:Addr}{h₁:Heap}{tk:Nat}{m:Str->Option j3}(I:Inv X pins σ H s)
  (hkind:d.kind=.function) (hcell:∀x∈d.names,x.2≠.cell) (hfr:∀x∈d.names,x.2=.free->X.env.scope.names.lookup x.1=some .cell\/X.env.scope.names.lookup x.1=some .free)
  (hin:∀j∈fr,d.names.lookup (X.N.getD j Lw)=some .free) (hC:s.heap.objs.size<=C) (hf:∀b∈G,qv X pins H b) (hfo:∀b∈G,b<s.heap.objs.size)
  (old:∀b o,s.heap.get? b=some o->h₁.get? b=some o) (hn:h₁.Ns C m) :
  Inv (bT X d (own++fr.map fun j=>X.N.getD j Lw) G C s H) [] (jO own.length fr σ) H {s with heap:=h₁,toks:=tk}:=by
 have w:∀x∈d.names,x.2=.free->∃c,X.env.cells.lookup x.1=some c:=fun x B e=>I.ok.has x.1 (hfr x B e);have sub:∀y c,(b7 X.env d.names []).lookup y=some c->X.env.cells.lookup y=some c:=gy _ _ w (by intro y c e;simp at e);have g:∀y,d.names.lookup y=some .free->∃c,(b7 X.env d.names []).lookup y=some c:=fun y e=>iT _ _ _ (LS e)
 refine⟨⟨I.ok.mod,?_,I.ok.glob,I.ok.blt,hC,fun x y c Q P=>I.ok.inj x y c (sub x c Q) (sub y c P),fun x B=>?_,(fun x c B=>nomatch B),I.ok.hd,I.ok.frames,.inl rfl,fun b A=>?_,I.bs,I0 I.ok.bsz I.sz,fun b o e A=>?_,fun b A z=>?_,I.stack,I.uh⟩,
  rfl,I.bare,Un.kept old,⟨m,hn,fun i x v Q P h3=>?_⟩,fun x c e=>?_,I.hok.fresh hC,fun x c e=>I.freeC x c (sub x c e),fun p U=>absurd (show p∈([]:List (Addr×Obj))from U) (by simp),I.hok.kept old,?_⟩
 ·exact hkind
 ·have L:(relabel d X.env).names.lookup x=some .cell\/(relabel d X.env).names.lookup x=some .free:=B
  have J:d.names.lookup x=some .free:=by
   rcases L with e|e
   ·rcases j8 e with e|⟨_,e⟩
    ·exact absurd rfl (hcell _ (LS e))
    ·exact e
   ·rcases j8 e with e|⟨z,_⟩
    ·exact e
    ·cases z
  exact g x J
 ·refine⟨Ls (Lf (hfo b A) hC),fun x c e=>(hf b A).2.2.2.2.1 x c (sub x c e)⟩
 ·rcases(hf b A).2.2.2.1 with z|z
  ·exact I.ok.noex b o e z
  ·exact absurd (Lf (vy e) (I0 I.ok.bsz z)) (LY _)
 ·have D:b∈G:=A;have T:b∈frs X.stack:=z;rcases ri.mp (I.nF b T)with e|e
  ·exact(hf b D).2.1 e
  ·exact(hf b D).2.2.1 e
 ·obtain⟨j,W,e1,Z,Y⟩:=Bt (own:=own) I.len Q P;have t:d.names.lookup x=some .free:=by rw[←Z];exact hin j W
  have S:=hfr _ (LS t) rfl;obtain⟨m0,V,O⟩:=I.loc;obtain⟨u,r,l⟩:=O j x v e1 Y (.inr S);refine⟨u,r,?_⟩;rcases l with⟨k,_⟩|⟨_,c,ec,z⟩
  ·have R:X.env.scope.names.lookup x=some .local:=k;rcases S with q|q<;>(rw[show X.env.scope.names.lookup x=_ from q]at R;cases R)
  ·obtain⟨c',E⟩:=g x t;have:=sub x c' E;rw[ec]at this
   cases this
   obtain⟨o,M,hd⟩:=z;exact .inr ⟨oB t,c,E,o,old c o M,hd⟩
 ·obtain⟨v,o,M,hd⟩:=I.cell x c (sub x c e);exact⟨v,o,old c o M,hd⟩
 ·show(jO own.length fr σ).length=(own++fr.map fun j=>X.N.getD j Lw).length;simp[jO]
theorem q9{j:M4}{R:List Str}{A:List Addr}{C D:Addr}{s':mu}{r:Hp}{E:St}{l:List (Addr×Obj)}{t:List V}{ys:Array j3}{h'':Heap}(I:Inv X pins σ H s)(B:∀b∈A,qv X pins H b)
  (I':Inv (bT X j R A C s H) l E r s') (hC:s.heap.objs.size<=C) (hD:s.heap.objs.size<=D) (hDC:D≠C) (hDn:r D=none) (pl:s'.heap.PlainList D ys) (rv:Vals t ys.toList) (hz:t.length<=nk) (hs:NQ C s'.heap h'') :
  Inv X pins σ (upd r D (.lst t)) {s' with heap:=h''}:=by
 have un:Un (frs X.stack) A H r s.heap s'.heap:=I'.base;have y:r C=none:=I'.free;have at':∀b,b≠C->h''.get? b=s'.heap.get? b:=fun b g=>hs.2 b g;have m:∀b o,s.heap.get? b=some o->b≠C:=fun b o e=>Ls (Lf (vy e) hC);have J:∀b o,s.heap.get? b=some o->b≠D:=fun b o e=>Ls (Lf (vy e) hD);have d:∀b u,H b=some u->b≠D:=fun b u e=>Ls (Lf (I.hok.lt e) hD)
 have G:Un (frs X.stack) A H (upd r D (.lst t)) s.heap h'':=by
  refine⟨fun b o e n M p=>?_,fun b o e n M p=>?_,fun b o e n p=>?_,fun b o e p=>?_,fun b N e=>?_,fun b o u e=>?_,fun b O e=>?_⟩
  ·rw[at' b (m b o e)];exact un.keep b o e n M p
  ·rw[at' b (m b o e)];exact un.slot b o e n M p
  ·rw[av (J b o e)];exact un.free b o e n p
  ·rw[at' b (m b o e)];exact un.there b o e p
  ·rw[av (d b _ e)];exact un.tups b N e
  ·rw[av (d b _ e)];exact un.frzs b o u e
  ·rw[av (d b _ e)];exact un.tbls b O e
 have L:m9 X.prog X.w (upd r D (.lst t)) h'':=fun b u e=>by
  by_cases g:b=D
  ·subst g;rw[af]at e
   cases e
   obtain⟨n,P⟩:=pl;refine⟨hz,ys.toList,n,rv,?_⟩;rw[at' b hDC]
   simpa using P
  ·rw[av g]at e;refine(I'.hok b u e).stay (fun c v Q q=>?_) (fun c q=>?_) fun c N q=>?_
   ·rw[at' c ?_];exact q;rintro rfl;rcases Q with z|z
    ·rw[←z,y]at e;cases e
    ·rw[y]at z;cases z
   ·rw[av (fun z=>by rw[z,hDn]at q;cases q)];exact q
   ·rw[av (fun z=>by rw[z,hDn]at q;cases q)];exact q
 exact I.GX (s':={s' with heap:=h''}) (ch:=A) I'.os G L I'.bare fun b g=>⟨(B b g).2.2.2.1,(B b g).2.1,(B b g).2.2.2.2.1,(B b g).2.2.2.2.2⟩
end
section
variable {X:Cx}
theorem DE{an R tg:Expr}{al:List Expr}{l:M4}{as:Pos}{wi:TI}{g:TG}{tt:TT}{te:TE}(own:List Str)(fr:List Nat)(hc:X.calm=true)
  (hkind:l.kind=.function) (hcell:∀x∈l.names,x.2≠.cell) (hnames:∀x∈l.names,x.2=.local->l.names.lookup x.1=some .local)
  (hfr:∀x∈l.names,x.2=.free->X.env.scope.names.lookup x.1=some .cell\/X.env.scope.names.lookup x.1=some .free)
  (hin:∀j∈fr,l.names.lookup (X.N.getD j Lw)=some .free)
  (hi:PI X tg R wi) (hg:∀t C s H,PG (bT X l (own++fr.map fun j=>X.N.getD j Lw) t C s H) tg g)
  (ht:∀t C s H,Ak (bT X l (own++fr.map fun j=>X.N.getD j Lw) t C s H) al tt)
  (he:∀t C s H,PE (bT X l (own++fr.map fun j=>X.N.getD j Lw) t C s H) an te)
  (hs:∀x,Oh R X.env x=pure x:=by intro _;rfl):PE X (.ListComp an [⟨tg,R,al,0⟩] l as) (yU own.length fr wi g tt te):=by
 intro ag s σ H Q I h;rw[eval_ListComp];have ab:∀x∈l.names,x.2=.free->∃c,X.env.cells.lookup x.1=some c:=fun x hx e=>I.ok.has x.1 (hfr x hx e);refine QZ (use:=none) rfl hs (j7 ab) hkind hnames ?_;refine cO (hi ag s σ H _ I h) fun v s1 h1=>cO h1 fun bj m h2=>?_;obtain⟨it,t,tn,J,P,e,I2,T,ar,f2,W,⟨m0,w0⟩,ae⟩:=h2;subst e;have ay:∀b∈t,b<m.heap.objs.size:=fun b L=>by obtain⟨o,e,_⟩:=T.obj 0 _ ar b L;exact vy e
 refine Mu (Px hcell (by intro y hy;simp at hy) (fun M G B=>?_) hkind);dsimp only at G B⊢;generalize hH2:m.heap.push {cls:=.type "list",dict:=none,data:=.seq ([]:List j3).toArray}=G2 at G B⊢;have hC:G2.objs.size=m.heap.objs.size+1:=by rw[←hH2,My]
 have ad:m.heap.objs.size≠G2.objs.size:=by rw[hC];exact Ls (Pe _)
 have ai:m.heap.objs.size<=G2.objs.size:=by rw[hC];exact QL _
 have aw:∀b o,m.heap.get? b=some o->M.get? b=some o:=fun b o e=>B.extBut b o (by rw[hC];exact Ls (QM (vy e))) (mC _ (hH2▸mC _ e));have a0:M.PlainList m.heap.objs.size #[]:=⟨_,B.extBut _ _ ad (mC _ (hH2▸K9 _ rfl))⟩
 have I3:Inv (bT X l (own++fr.map fun j=>X.N.getD j Lw) t G2.objs.size m P) [] (jO own.length fr σ) P {m with heap:=M,toks:=m.toks+([]:List (Str×j3)).length} :=
  qZ I2 hkind hcell hfr hin ai f2 ay aw G
 have Z:tn 0 M:=T.keep 0 _ _ ar fun b _ o e=>aw b o e;have a6:m.heap.objs.size∉t:=fun hm=>LY _ (ay _ hm);have a5:P m.heap.objs.size=none:=I2.hok.fresh (lj _);have sub:∀y c,(b7 X.env l.names []).lookup y=some c->X.env.cells.lookup y=some c:=gy _ _ ab (by intro y c e;simp at e)
 have aq:∀y c,(b7 X.env l.names []).lookup y=some c->c≠m.heap.objs.size:=fun y c e=>by
  obtain⟨_,o,ho,_⟩:=I2.cell y c (sub y c e);exact Ls (vy ho)
 have bh:m.heap.objs.size∉frs X.stack:=fun z=>by
  rcases ri.mp (I2.nF _ z)with e|e
  ·exact absurd I2.lt (by rw[←e];exact LY _)
  ·exact I2.A7 (lj _) e
 -- the iterator's records,in the block's context
 have Y:∀{V:Hp}{pl:List (Addr×Obj)},(∀b∈t,V b=none)->(∀p∈pl,p.1=m.heap.objs.size)->∀b∈t,qv (bT X l (own++fr.map fun j=>X.N.getD j Lw) t G2.objs.size m P) pl V b:=fun{V pl} hn hp b L=>by
  refine⟨hn b L,(I3.ok.exf b L).1,I3.ok.exfs b L,.inl L,(I3.ok.exf b L).2,fun p bc z=>?_⟩;have ax:p∈pl:=by simpa[bT]using bc
  exact a6 (by rw[←hp p ax,z];exact L)
 have au:∀{U:St}{V:Hp}{s':mu}{D:Array j3}{n:Nat},Inv (bT X l (own++fr.map fun j=>X.N.getD j Lw) t G2.objs.size m P) [] U V s'->V m.heap.objs.size=none->s'.heap.get? m.heap.objs.size=some {cls:=.type "list",data:=.seq D n} ->
   Inv (bT X l (own++fr.map fun j=>X.N.getD j Lw) t G2.objs.size m P) [(m.heap.objs.size,{cls:=.type "list",data:=.seq D n})] U V s':=fun{U V s' D n} J hn e=>J.fL fun p hp=>by
  have e':p=(m.heap.objs.size,{cls:=.type "list",data:=.seq D n}):=by simpa using hp
  subst e';exact⟨e,hn,ad,bh,fun v z=>nomatch z⟩
 have ah:OX (Lr X.prog X.w) X.A (.compLoop (.ListComp an [⟨tg,R,al,0⟩] l as) 0 (.ref it) (.ref m.heap.objs.size) (compEnvC l (b7 X.env l.names []) G2.objs.size X.env))
   (compPost (Lr X.prog X.w) X.A X.xe none (EP X ag σ Q) (.ref m.heap.objs.size) G2.objs.size) {m with heap:=M,toks:=m.toks+([]:List (Str×j3)).length}:=by
  refine iE (E:=fun _ _=>False) (fun n s'=>∃i U V vs D,Inv (bT X l (own++fr.map fun j=>X.N.getD j Lw) t G2.objs.size m P) [] U V s'/\tn i s'.heap/\(∀b∈t,V b=none)/\V m.heap.objs.size=none/\s'.heap.PlainList m.heap.objs.size D/\Vals vs D.toList/\W i n U vs V)
   ?_ (fun _ _ z=>z.elim) m0 ⟨0,_,P,[],#[],I3,Z,fun b L=>(f2 b L).1,a5,a0,.nil,w0⟩
  rintro n s3 ⟨i,ac,H3,vs,D,J3,Z,a7,ap,⟨pn,a9⟩,rv,w3⟩;have a8:=au J3 ap a9
  have O:∀p∈[(m.heap.objs.size,({cls:=.type "list",data:=.seq D pn}:Obj))],p.1=m.heap.objs.size:=fun p hp=>by
   have e':p=(m.heap.objs.size,{cls:=.type "list",data:=.seq D pn}):=by simpa using hp
   rw[e']
  rcases ae i n ac vs H3 w3 with⟨stop,hz,q⟩|⟨go,hz,N,hN,step⟩
  ·refine cO (T.done (bT X l (own++fr.map fun j=>X.N.getD j Lw) t G2.objs.size m P) rfl rfl rfl hc i _ s3 ac H3 (fun _ _=>False) a8 (Y a7 O) Z stop) fun r s4 ⟨hr,J4⟩=>?_;subst hr;obtain⟨m4,be,_⟩:=id J4.loc;refine⟨m4,be,fun h' bb=>?_⟩;have e4:s4.heap.get? m.heap.objs.size=some {cls:=.type "list",data:=.seq D pn}:=(J4.pin (m.heap.objs.size,{cls:=.type "list",data:=.seq D pn}) (FT _ (by simp))).1;exact⟨.ref m.heap.objs.size,_,q9 I2 f2 J4 ai (lj _) ad ap ⟨pn,e4⟩ rv hz bb,rfl,q _ ap⟩
  ·refine cO (T.item (bT X l (own++fr.map fun j=>X.N.getD j Lw) t G2.objs.size m P) rfl rfl rfl hc i _ s3 ac H3 (fun _ _=>False) a8 (Y a7 O) Z go) fun r s4 ⟨u,hr,h4⟩=>?_;subst hr;refine cO h4 fun _ s5 ⟨x,H5,J5,r5,y5,aj,bf⟩=>?_;have bg:=J5.pinned (Y bf O) (T.obj _ _ aj);refine cO (hg t _ m P _ s5 ac H5 x u _ bg r5 (step x H5 y5)) fun _ s6 ⟨S,H6,J6,q6⟩=>?_;refine cO (ht t _ m P _ s6 S H6 _ J6 q6) fun ok s7 ⟨H7,J7,q7⟩=>?_
   -- what stood pinned through the ae
   have after:∀{s8:mu}{H8:Hp},Inv (bT X l (own++fr.map fun j=>X.N.getD j Lw) t G2.objs.size m P) ([(m.heap.objs.size,({cls:=.type "list",data:=.seq D pn}:Obj))]++pJ t s5.heap) S H8 s8 ->
     tn (i+1) s8.heap/\(∀b∈t,H8 b=none)/\H8 m.heap.objs.size=none/\s8.heap.get? m.heap.objs.size=some {cls:=.type "list",data:=.seq D pn}:=fun{s8 H8} J8=>by
    refine⟨T.keep _ _ _ aj fun b L o e=>(J8.pin (b,o) (FT _ (FT _ (gZ L e)))).1,fun b L=>?_,?_,?_⟩
    ·obtain⟨o,e,d⟩:=T.obj _ _ aj b L;exact(J8.pin (b,o) (FT _ (FT _ (gZ L e)))).2.1
    ·exact(J8.pin (m.heap.objs.size,{cls:=.type "list",data:=.seq D pn}) (FT _ (LD _ (by simp)))).2.1
    ·exact(J8.pin (m.heap.objs.size,{cls:=.type "list",data:=.seq D pn}) (FT _ (LD _ (by simp)))).1
   cases ok with
   |false =>
    obtain⟨m',hm,w7⟩:=hN _ _ _ q7;obtain⟨a1,a2,a3,a4⟩:=after J7;exact⟨m',hm,i+1,S,H7,vs,D,J7.fL (fun p hp=>absurd hp (by simp)),a1,a2,a3,⟨pn,a4⟩,rv,w7⟩
   |true =>
    refine cO (he t _ m P _ s7 S H7 _ J7 q7) fun y s8 ⟨v8,H8,J8,r8,n8⟩=>?_;obtain⟨m',hm,w8⟩:=hN _ _ _ n8;obtain⟨a1,a2,a3,a4⟩:=after J8;have J9:Inv (bT X l (own++fr.map fun j=>X.N.getD j Lw) t G2.objs.size m P) [] S H8 s8:=J8.fL (fun p hp=>absurd hp (by simp))
    have ba:D.size<=nk:=by
     have e1:vs.length=D.toList.length:=rv.length;have e2:D.toList.length=D.size:=by simp
     omega
    refine Rb (hsz:=ba) ⟨pn,a4⟩ fun bi am aa=>?_
    refine⟨m',hm,i+1,S,H8,vs++[v8],D.push y,J9.turned (t':=s8.toks) (it:=m.heap.objs.size) (fun b o L e=>by rw[aa.2 b L];exact e) a3 ad (.inr (lj _)) aq (fun p hp=>absurd (show p∈([]:List (Addr×Obj))from hp) (by simp)),
     T.keep _ _ _ a1 fun b L o e=>(aa.2 b (fun z=>a6 (z▸L))).trans e,a2,a3,am,?_,w8⟩
    have:Vals (vs++[v8]) (D.toList++[y]):=rv.append (.cons r8 .nil)
    simpa using this
 exact RD ah (T.self X.A 0 _ _ _ Z ah)
end
noncomputable def uC(d e:M4)(g:List Str)(fr:List Nat):Bool :=
 d.kind == .function&&d.names.all (fun x=>x.2 != .cell&&(x.2 != .local||d.names.lookup x.1 == some .local)&&(x.2 != .free||e.names.lookup x.1 == some .cell||e.names.lookup x.1 == some .free)) &&
  fr.all (fun j=>d.names.lookup (g.getD j Lw) == some .free)
theorem fG{X:Cx}{q l t:Expr}{m:List Expr}{d:M4}{u:Pos}{y:TI}{g:TG}{A:TT}{B:TE}(D:M4)(r own:List Str)(fr:List Nat)(J:X.calm=true)(w:X.env.scope=D)(L:X.N=r)
  (ok:uC d D r fr=true) (hi:PI X t l y) (hg:∀p C s H,PG (bT X d (own++fr.map fun j=>r.getD j Lw) p C s H) t g)
  (ht:∀p C s H,Ak (bT X d (own++fr.map fun j=>r.getD j Lw) p C s H) m A)
  (he:∀p C s H,PE (bT X d (own++fr.map fun j=>r.getD j Lw) p C s H) q B)
  (hs:∀x,Oh l X.env x=pure x:=by intro _;rfl):PE X (.ListComp q [⟨t,l,m,0⟩] d u) (yU own.length fr y g A B):=by
 subst w L;unfold uC at ok;simp only[Mj,MG,bne_iff_ne,beq_iff_eq,PV]at ok;obtain⟨⟨G,v⟩,E⟩:=ok;refine DE own fr J G (fun x o=>(v x o).1.1) (fun x o e=>?_) (fun x o e=>?_) (fun j I=>E j I) hi hg ht he hs
 ·rcases(v x o).1.2 with z|z
  ·exact absurd e z
  ·exact z
 ·rcases(v x o).2 with(z|z)|z
  ·exact absurd e z
  ·exact .inl z
  ·exact .inr z
section
variable {g:TG}{tt:TT}{te:TE}{Q:VK}{σ0:St}{H0:Hp}
theorem qB{J:It}(n:Nat)(o:Nat->St->List V->Hp->Prop)(E:o 0 σ0 [] H0)(t:∀i j d H,i<=n->o i j d H->d.length<=i)(hn:n<=nk)(z:∀i j d H,i<n->o i j d H->J.go i H)(w:∀j d H,o n j d H->J.stop n H)
  (hs:∀i j d H x u,i<n->o i j d H->J.yld i H x u->g x j u fun l B=>tt l B fun ok A=>if ok=true then te l A fun v G=>o (i+1) l (d++[v]) G else o (i+1) l d A)
  (hd:∀j d H,o n j d H->∀p,H p=none->Q (.ref p) (upd H p (.lst d))):jP J g tt te Q σ0 H0:=by
 refine⟨fun i m j d H=>m=n-i/\i<=n/\o i j d H,⟨n,by simp,Ld _,E⟩,?_⟩;rintro i m j d H ⟨rfl,D,p⟩;have I:=t i j d H D p
 by_cases r:i<n
 ·exact .inr ⟨z i j d H r p,by omega,o (i+1),fun l C B q=>⟨n - (i+1),by omega,rfl,r,q⟩,fun x u y=>hs i j d H x u r p y⟩
 ·have e:i=n:=by omega
  subst e;exact .inl ⟨w j d H p,by omega,hd j d H p⟩
theorem k7{lo:Int}{n:Nat}(l:Nat->St->List V->Hp->Prop)(r:l 0 σ0 [] H0)(m:∀i j d H,i<=n->l i j d H->d.length<=i)(hn:n<=nk)
  (hs:∀i j d H,i<n->l i j d H->g (.int (lo+i)) j H fun e u=>tt e u fun ok o=>if ok=true then te e o fun v t=>l (i+1) e (d++[v]) t else l (i+1) e d o)
  (hd:∀j d H,l n j d H->∀p,H p=none->Q (.ref p) (upd H p (.lst d))):jP (Fd lo n) g tt te Q σ0 H0 :=
 qB n l r m hn (fun _ _ _ _ h _=>h) (fun _ _ _ _=>lj _) (fun i j d H x w q p y=>by obtain⟨rfl,rfl⟩:=y;exact hs i j d _ q p) hd
theorem fg{K:bA}{a:Addr}{xs:List V}(l:Nat->St->List V->Hp->Prop)(t:l 0 σ0 [] H0)(m:∀i e d H,i<=xs.length->l i e d H->d.length<=i)(hn:xs.length<=nk)(q:∀i e d H,i<=xs.length->l i e d H->bz K H a xs)
  (hs:∀i x e d H,xs[i]?=some x->l i e d H->g x e H fun j w=>tt j w fun ok r=>if ok=true then te j r fun v u=>l (i+1) j (d++[v]) u else l (i+1) j d r)
  (hd:∀e d H,l xs.length e d H->∀p,H p=none->Q (.ref p) (upd H p (.lst d))):jP (Dm K a) g tt te Q σ0 H0:=by
 refine qB xs.length l t m hn (fun i e d H o p=>⟨xs,xs[i],q i e d H (Mb o) p,by simp[o]⟩) (fun e d H p=>⟨xs,q _ e d H (lj _) p,lj _⟩) (fun i e d H x z o p y=>?_) hd;obtain⟨rfl,y⟩:=y;exact hs i x e d _ (y xs (q i e d _ (Mb o) p)) p
end
noncomputable abbrev uD(h:Heap)(z TI TO T:Addr)(d:Bool):Prop :=
 h.get? z=some {cls:=.type "zip",dict:=none,data:=.fields #[MN T,.bool d,.bool false,.ref TI,.ref TO],slots:=#[]}
section
variable {prog:FG}{w:Lk}{A:Lz}{E:j3->mu->Prop}{s:mu}
theorem pN{z TI TO T:Addr}{d:Bool}{j:Obj}{Q:Bool->mu->Prop}(hz:uD s.heap z TI TO T d)(l:s.heap.get? T=some j)
  (hQ:∀h',uD h' z TI TO T true->NQ z s.heap h'->Q false {s with heap:=h'}):La (Lr prog w) A (Lx (.ref z)) Q E s:=by
 unfold Lx;refine bB (LL hz rfl (x:=MN T) rfl ?_);show La _ _ (loadIfAlive ((T:Int).toNat)>>=_) _ _ _;rw[Mv];refine bB (PySem.W.kdx_alive l ?_);simp only[Option.isNone_some,Mi,if_false];refine bB (LL hz rfl (x:=.bool d) rfl ?_)
 cases d with
 |true =>
  rw[if_neg (show ¬((Value.bool true != Value.bool true)=true)from Lg)];exact my (hQ s.heap hz (NQ.refl _ _))
 |false =>
  rw[if_pos (show(Value.bool false != Value.bool true)=true from rfl)];exact bB (MV hz (by simp) fun h' e g=>my (hQ h' e g))
end
theorem xU:NS (.type "zip") "__len__"=pure none:=by rw[Oa,MS];kernel_rfl
theorem vR:NS (.type "zip") "__length_hint__"=pure none:=by rw[Oa,MS];kernel_rfl
structure lK(h:Heap) (lo:Nat) (xs ys:Array j3) (as:List Nat):Prop where
 rise:as.Pairwise (· < ·)
 low:∀a∈as,lo<=a
 pairs:∀(j:Nat) (a:Nat),as[j]?=some a->∃x y,xs[j]?=some x/\ys[j]?=some y/\MW h a x y
theorem lK.lt{h:Heap}{lo:Nat}{xs ys:Array j3}{as:List Nat}(g:lK h lo xs ys as){a:Nat}(l:a∈as):a<h.objs.size:=by
 obtain⟨j,d⟩:=List.mem_iff_getElem?.mp l;obtain⟨_,_,_,_,e⟩:=g.pairs j a d;exact vy e
theorem lK.keep{h h':Heap}{lo:Nat}{xs ys:Array j3}{as:List Nat}(g:lK h lo xs ys as)(k:∀c o,lo<=c->h.get? c=some o->h'.get? c=some o):lK h' lo xs ys as :=
 ⟨g.rise,g.low,fun j a e=>by
  obtain⟨x,y,m,l,d⟩:=g.pairs j a e;exact⟨x,y,m,l,k a _ (g.low a (we e)) d⟩⟩
theorem lK.snoc{h h':Heap}{lo:Nat}{xs ys:Array j3}{as:List Nat}{n:Nat}{x y:j3}(g:lK h lo xs ys as)(k:∀c o,lo<=c->h.get? c=some o->h'.get? c=some o)(hn:lo<=n)(d:h.objs.size<=n)(p:xs[as.length]?=some x)(m:ys[as.length]?=some y)(q:MW h' n x y) :
  lK h' lo xs ys (as++[n]):=by
 have t:=g.keep k;refine⟨List.pairwise_append.mpr ⟨g.rise,List.pairwise_singleton _ _,fun a l b r=>?_⟩,fun a l=>?_,fun j a e=>?_⟩
 ·rw[nt.mp r];exact Lf (g.lt l) d
 ·rcases Li.mp l with h|h
  ·exact g.low a h
  ·rw[nt.mp h];exact hn
 ·rcases Nat.lt_trichotomy j as.length with hj|hj|hj
  ·rw[LR hj]at e;exact t.pairs j a e
  ·subst hj;rw[LJ (lj _),SJ]at e
   cases e
   exact⟨x,y,p,m,q⟩
  ·rw[Nr (by rw[lu,O6];omega)]at e;cases e
section
variable {prog:FG}{w:Lk}{A:Lz}{R:Ss->mu->Prop}{s:mu}
end
section
variable {prog:FG}{w:Lk}{A:Lz}{E:j3->mu->Prop}{s:mu}
end
section
variable {X:Cx}{pins:List (Addr×Obj)}{σ:St}{H H':Hp}{s:mu}{h':Heap}
theorem Inv.grow{t':Nat}(I:Inv X pins σ H s)(k:∀b u,s.heap.get? b=some u->h'.get? b=some u)(g:∀b,b<s.heap.objs.size->H' b=H b)
  (hnew:∀b o,s.heap.objs.size<=b->H' b=some o->ef X.prog X.w H' h' b o):Inv X pins σ H' {s with heap:=h',toks:=t'}:=by
 have d:∀b o,H b=some o->H' b=some o:=fun b o e=>by rw[g b (I.hok.lt e)];exact e
 refine I.un (h':=h') ⟨fun b o e _ _ _=>k b o e,fun b o e _ _ _=>⟨o.slots,k b o e⟩,fun b o e n _=>by rw[g b (vy e)];exact n,fun b o e _=>⟨o,k b o e⟩,fun b l e=>d b _ e,fun b o u e=>d b _ e,fun b m e=>⟨#[],by rw[d b _ e];simp⟩⟩ fun b o e=>?_
 by_cases j:b<s.heap.objs.size
 ·rw[g b j]at e;exact(I.hok b o e).stay (fun c u _ q=>k c u q) (fun c q=>d c _ q) fun c l q=>d c _ q
 ·exact hnew b o (Pf.mp j) e
end
noncomputable def lB:List Nat->List V->List V->Hp->Hp
 |a::as,x::xs,y::ys,H=>upd (lB as xs ys H) a (.tup [x,y])
 |_,_,_,H=>H
theorem vS{H:Hp}{b:Nat}:∀(as:List Nat) (xs ys:List V),b∉as->lB as xs ys H b=H b
 | [],_,_,_=>by unfold lB;rfl
 |a::as,[],_,_=>by unfold lB;rfl
 |a::as,_::_,[],_=>by unfold lB;rfl
 |a::as,x::xs,y::ys,h=>by
  unfold lB;rw[av (fun z=>h (by rw[z];exact MD))];exact vS as xs ys fun z=>h (Mc _ z)
theorem yV{H:Hp}:∀(as:List Nat) (xs ys:List V),as.Pairwise (· < ·)->∀(j:Nat) (u:Nat) (x y:V),as[j]?=some u->xs[j]?=some x->ys[j]?=some y->lB as xs ys H u=some (.tup [x,y])
 | [],_,_,_,j,u,x,y,h,_,_=>by simp at h
 |a::as,[],_,_,j,u,x,y,_,h,_=>by simp at h
 |a::as,_::_,[],_,j,u,x,y,_,_,h=>by simp at h
 |a::as,x0::xs,y0::ys,hp,0,u,x,y,h1,h2,h3=>by
  simp at h1 h2 h3;subst h1 h2 h3;unfold lB;exact af
 |a::as,x0::xs,y0::ys,hp,j+1,u,x,y,h1,h2,h3=>by
  simp at h1 h2 h3;have d:a<u:=(Sy.mp hp).1 u (we h1);unfold lB;rw[av (NB d)];exact yV as xs ys (Sy.mp hp).2 j u x y h1 h2 h3
theorem tJ{H:Hp}{b:Nat}{o:HO}:∀(as:List Nat) (xs ys:List V),lB as xs ys H b=some o->H b=some o\/∃(j:Nat) (x y:V),as[j]?=some b/\xs[j]?=some x/\ys[j]?=some y/\o=.tup [x,y]
 | [],_,_,h=>by unfold lB at h;exact .inl h
 |a::as,[],_,h=>by unfold lB at h;exact .inl h
 |a::as,_::_,[],h=>by unfold lB at h;exact .inl h
 |a::as,x::xs,y::ys,h=>by
  unfold lB at h
  by_cases d:b=a
  ·subst d;rw[af]at h
   cases h
   exact .inr ⟨0,x,y,rfl,rfl,rfl,rfl⟩
  ·rw[av d]at h;rcases tJ as xs ys h with e|⟨j,x',y',e1,e2,e3,e4⟩
   ·exact .inl e
   ·exact .inr ⟨j+1,x',y',by simpa using e1,by simpa using e2,by simpa using e3,e4⟩
section
variable {X:Cx}{a b:Expr}{t:TA}{p1 p2 p3 p4:Pos}
theorem tK:∀(as:List Nat),Vals (as.map V.ref) (as.map Value.ref)
 | []=>.nil
 |_::r=>.cons rfl (tK r)
end
section
variable {X:Cx}{tg:Expr}
end
section
variable {X:Cx}
theorem yW:∀{ys:List Str}{us:List j3},Vals (ys.map V.str) us->StrsAre us ys
 | [],_,.nil=>.nil
 |_::_,_,.cons ⟨t,e⟩ r=>by subst e;exact .cons _ t (yW r)
noncomputable def rJoin(K:bA):V->List V->Hp->VK->Prop:=fun x e H Q=>∃z p d,x=.str z/\e=[.ref p]/\bz K H p (d.map V.str)/\(d.map (·.length)).sum+d.length*z.length<=16777216/\Q (.str (Txt.join z d)) H
theorem DF:IB X "str.join" (rJoin X.K):=by
 intro d s y H x B v C Q I e l h;obtain⟨z,p,A,rfl,rfl,r,w,q⟩:=h;obtain⟨t,rfl⟩:=e;obtain⟨u,rfl,j⟩:=vals1 l
 cases j
 obtain⟨o,g,m,E⟩:=I.list r;exact join_list m.isList (by simpa using yW g) w fun D k=>⟨.str _,H,I.tok _,⟨_,rfl⟩,q⟩
noncomputable def Jm:V->Option Int->Option Int->Hp->VK->Prop:=fun x d e H Q=>∃z,x=.str z/\z.length<=nk/\Q (.str (MX z d e)) H
theorem part_of{v:j3}{o:Option Int}(h:PN v o):∃p:Option (Int×Tok),v=partValue p/\p.map (·.1)=o:=by
 cases h with
 |none=>exact⟨none,rfl,rfl⟩
 |int i t=>exact⟨some (i,t),rfl,rfl⟩
theorem Bu:Ft X Jm:=by
 intro d s A H x v C B G J E Q I j r o m h;obtain⟨z,rfl,p,q⟩:=h;obtain⟨t,rfl⟩:=j;obtain⟨g,rfl,y⟩:=part_of o;obtain⟨e,rfl,w⟩:=part_of m;refine⟨"str",_,PySem.F.slot_str_getitem.lookup,typeIs_str s z t,?_⟩;refine wpAny_getItem_str_slice (l:=g) (u:=e) (st:=none) r rfl ?_;subst y w
 cases g<;>cases e<;>exact post_val_or_str ⟨I0 (Txt.slice_le z _ _) p,fun D k=>⟨.str _,H,I.tok _,⟨_,rfl⟩,q⟩⟩
end
noncomputable def rf(xs:List V)(lo hi st:Option Int):List V:=(Qp (LZ lo hi st xs.length).1 (LZ lo hi st xs.length).2.1 (LZ lo hi st xs.length).2.2).filterMap (xs[·]?)
theorem pO{xs:List V}{us:List j3}(r:Vals xs us):∀d:List Nat,Vals (d.filterMap (xs[·]?)) (d.filterMap (us[·]?))
 | []=>.nil
 |i::d=>by
  rw[Mg,Mg]
  cases e:xs[i]? with
  |none=>rw[r.none_of e];exact pO r d
  |some x =>
   obtain⟨u,j,g⟩:=r.get e;rw[j];exact .cons g (pO r d)
section
variable {X:Cx}{e st:Expr}{lo hi:Option Expr}{te:TE}{tl th tk:TO}{p2 pos:Pos}
noncomputable def Jo(K:bA)(te:TE)(tl th tk:TO):TE:=fun d H Q=>te d H fun x q=>tl d q fun l o=>th d o fun u m=>tk d m fun k j=>∃a g,x=.ref a/\bz K j a g/\k≠some 0/\(rf g l u k).length<=nk /\
 ∀p,j p=none->Q (.ref p) (upd j p (.lst (rf g l u k)))
theorem tL(he:PE X e te)(Y:PO X lo tl)(W:PO X hi th)(Z:PO X (some st) tk):PE X (.Subscript e (.Slice lo hi (some st) p2) pos) (Jo X.K te tl th tk):=by
 intro d s g H Q I h;refine Sw (cO (he d s g H _ I h) fun v G ⟨x,H1,I1,J,q1⟩=>?_);refine wpAny_Slice (cO (Y d G g H1 _ I1 q1) fun B E ⟨l,H2,I2,P,N⟩=>cO (W d E g H2 _ I2 N) fun A D ⟨u,H3,I3,O,M⟩=>cO (Z d D g H3 _ I3 M) fun C j ⟨k,H4,I4,R,L⟩=>?_);obtain⟨a,t,rfl,V,U,w,q⟩:=L
 cases J
 have y:Inv X d g H4 {j with heap:=j.heap.push {cls:=.type "slice",data:=.fields #[B,A,C]}}:=I4.kept (t':=j.toks) fun b S q=>mC _ q;obtain⟨m,r,z,hz⟩:=y.list V;have p:=r.length;refine tail_any (T:="list") (ops:=[.ref a,.ref j.heap.objs.size]) z.isList.typeIs QK.lookup ?_ (by with_unfolding_all rfl);refine QY z.isList (Ql ..) P O R U ?_ (by rw[rj]<;>omega)
 have ep:SY m.toArray l u k=((Qp (LZ l u k t.length).1 (LZ l u k t.length).2.1 (LZ l u k t.length).2.2).filterMap (m[·]?)).toArray:=by
  unfold SY;rw[rj,←p];simp
 rw[ep];refine⟨.ref _,_,y.laid (t':=j.toks) (o:=.lst (rf t l u k)) (fun b S q=>mC _ q) (lj _) ?_,rfl,q _ (y.hok.fresh (lj _))⟩;exact⟨w,_,0,pO r _,K9 _ rfl⟩
end
theorem DG{xs:List V}{lo hi st:Option Int}{d:List Nat}(h:Qp (LZ lo hi st xs.length).1 (LZ lo hi st xs.length).2.1 (LZ lo hi st xs.length).2.2=d):rf xs lo hi st=d.filterMap (xs[·]?):=by
 unfold rf;rw[h]
noncomputable def DH:Expr->Option Str
 |.Constant (.str x) _ _=>some x
 |_=>none
noncomputable def strsOf:List Expr->Option (List Str)
 | []=>some []
 |e::r=>(DH e).bind fun x=>(strsOf r).map (x::·)
noncomputable def Bv(xs:List Str):TA:=fun _ H Q=>Q (xs.map V.str) H
theorem DJ{e:Expr}{x:Str}(h:DH e=some x):∃j p,e=.Constant (.str x) j p:=by
 unfold DH at h
 split at h
 ·cases h;exact⟨_,_,rfl⟩
 ·cases h
theorem yX{X:Cx}{d:List Expr}:∀{xs:List Str},strsOf d=some xs->PA X d (Bv xs):=by
 induction d with
 |nil=>intro xs h;cases h;exact ak
 |cons e r ih =>
  intro xs h;unfold strsOf at h
  cases h1:DH e with
  |none=>rw[h1]at h;cases h
  |some x =>
   cases h2:strsOf r with
   |none=>rw[h1,h2]at h;cases h
   |some ys =>
    rw[h1,h2]at h
    cases h
    obtain⟨j,p,rfl⟩:=DJ h1;exact aE az (ih h2) rfl
end L2
namespace L2
open PySem PySem.Spec PyProof.Rows PySem.SeqAt
section
variable {X:Cx}
end
mutual
noncomputable def Rp(K:bA)(H:Hp):T->V->Prop
 |.s x,v=>v=.str x
 |.i n,v=>v=.int n
 |.n,v=>v=.iP
 |.t xs,v=>∃a d,v=.ref a/\bN K H a d/\bI K H xs d
noncomputable def bI(K:bA)(H:Hp):List T->List V->Prop
 | [],vs=>vs=[]
 |x::r,vs=>∃v q,vs=v::q/\Rp K H x v/\bI K H r q
end
noncomputable def Kt(H e:Hp):Prop:=∀a d,Rd H a (.tup d)->Rd e a (.tup d)
theorem Kt.refl{H:Hp}:Kt H H:=fun _ _ h=>h
theorem Kt.trans{H g e:Hp}(a:Kt H g)(b:Kt g e):Kt H e:=fun c d h=>b c d (a c d h)
theorem Kt.same{H d:Hp}(s:aF H d):Kt H d:=fun a g h=>h.elim (fun e=>.inl (s _ _ e)) fun⟨o,e⟩=>.inr ⟨o,s _ _ e⟩
theorem Kt.new{H:Hp}{p:Addr}(h:H p=none)(o:HO):Kt H (upd H p o):=fun a d r=>r.elim (fun e=>.inl (by rw[av (aq e h)];exact e)) fun⟨u,e⟩=>.inr ⟨u,by rw[av (aq e h)];exact e⟩
theorem Kt.upd{H:Hp}{l:Addr}{u:HO}(h:H l=some u)(g:∀xs,u≠.tup xs)(d:∀o xs,u≠.frz o (.tup xs))(o:HO):Kt H (upd H l o):=fun a xs r=>by
 rcases r with e|⟨p,e⟩
 ·exact .inl (by rw[av (cD e h fun z=>g _ z.symm)];exact e)
 ·exact .inr ⟨p,by rw[av (cD e h fun z=>d _ _ z.symm)];exact e⟩
theorem Kt.lst{H:Hp}{l:Addr}{xs:List V}(h:H l=some (.lst xs))(o:HO):Kt H (L2.upd H l o):=Kt.upd h (fun _ z=>nomatch z) (fun _ _ z=>nomatch z) o
section
variable {K:bA}{H H':Hp}
theorem bN.kt(k:Kt H H'){a:Addr}{xs:List V}(h:bN K H a xs):bN K H' a xs:=h.elim (fun e=>.inl (k _ _ e)) .inr
theorem bI.all(f:∀{x v},Rp K H x v->Rp K H' x v):∀{xs:List T}{d:List V},bI K H xs d->bI K H' xs d
 | [],d,h=>by unfold bI at h⊢;exact h
 |x::r,d,h=>by
  unfold bI at h⊢;obtain⟨v,q,e,j,g⟩:=h;exact⟨v,q,e,f j,bI.all f g⟩
theorem bI.nil:bI K H [] []:=by unfold bI;rfl
theorem bI.cons{x:T}{v:V}{r:List T}{q:List V}(h:Rp K H x v)(t:bI K H r q):bI K H (x::r) (v::q):=by unfold bI;exact⟨v,q,rfl,h,t⟩
theorem bI.inv{x:T}{r:List T}{d:List V}(h:bI K H (x::r) d):∃v q,d=v::q/\Rp K H x v/\bI K H r q:=by unfold bI at h;exact h
theorem bI.fE{d:List V}(h:bI K H [] d):d=[]:=by unfold bI at h;exact h
theorem Rp.s{x:Str}:Rp K H (.s x) (.str x):=by unfold Rp;rfl
theorem Rp.i{n:Int}:Rp K H (.i n) (.int n):=by unfold Rp;rfl
theorem Rp.iP:Rp K H .n .iP:=by unfold Rp;rfl
theorem Rp.t{xs:List T}{d:List V}{a:Addr}(h:bN K H a d)(r:bI K H xs d):Rp K H (.t xs) (.ref a):=by unfold Rp;exact⟨a,d,rfl,h,r⟩
theorem Rp.aR{x:Str}{v:V}(h:Rp K H (.s x) v):v=.str x:=by unfold Rp at h;exact h
theorem Rp.cV{n:Int}{v:V}(h:Rp K H (.i n) v):v=.int n:=by unfold Rp at h;exact h
theorem Rp.aY{xs:List T}{v:V}(h:Rp K H (.t xs) v):∃a d,v=.ref a/\bN K H a d/\bI K H xs d:=by unfold Rp at h;exact h
theorem Rp.kt(k:Kt H H'){x:T}:∀{v:V},Rp K H x v->Rp K H' x v:=by
 induction x using T.induct with
 |hs x=>intro v h;rw[h.aR];exact .s
 |hi x=>intro v h;rw[h.cV];exact .i
 |hn=>intro v h;unfold Rp at h;rw[h];exact .iP
 |ht xs ih =>
  intro v h;obtain⟨a,d,rfl,hs,hr⟩:=h.aY;refine .t (hs.kt k) ?_;clear hs h
  induction xs generalizing d with
  |nil=>rw[hr.fE];exact .nil
  |cons x r ih2 =>
   obtain⟨v,q,rfl,j,g⟩:=hr.inv;exact .cons (ih x (.head _) j) (ih2 (fun y e=>ih y (.tail _ e)) _ g)
theorem bI.kt(k:Kt H H'){xs:List T}{d:List V}(h:bI K H xs d):bI K H' xs d:=bI.all (fun h=>h.kt k) h
theorem bI.length:∀{xs:List T}{d:List V},bI K H xs d->d.length=xs.length
 | [],d,h=>by rw[h.fE];rfl
 |x::r,d,h=>by
  obtain⟨v,q,rfl,_,e⟩:=h.inv;rw[Lu,Lu,bI.length e]
theorem bI.get:∀{xs:List T}{d:List V}{i:Nat}{x:T},bI K H xs d->xs[i]?=some x->∃v,d[i]?=some v/\Rp K H x v
 | [],d,i,x,h,e=>by simp at e
 |x::r,d,0,y,h,e=>by
  obtain⟨v,q,rfl,m,_⟩:=h.inv;simp at e;subst e;exact⟨v,rfl,m⟩
 |x::r,d,i+1,y,h,e=>by
  obtain⟨v,q,rfl,_,l⟩:=h.inv;obtain⟨w,j,g⟩:=bI.get (i:=i) l (by simpa using e);exact⟨w,by simpa using j,g⟩
theorem bI.get':∀{xs:List T}{d:List V}{i:Nat}{v:V},bI K H xs d->d[i]?=some v->∃x,xs[i]?=some x/\Rp K H x v:=fun{xs d i v} h e=>by
 have l:=h.length
 have g:i<xs.length:=by
  rcases Nat.lt_or_ge i d.length with z|z
  ·omega
  ·rw[Oz.mpr z]at e;cases e
 obtain⟨w,j,m⟩:=h.get (m3 g);rw[e]at j;cases j;exact⟨_,m3 g,m⟩
theorem bI.append:∀{xs ys:List T}{e d:List V},bI K H xs e->bI K H ys d->bI K H (xs++ys) (e++d)
 | [],ys,e,d,h,g=>by rw[h.fE];exact g
 |x::r,ys,e,d,h,g=>by
  obtain⟨v,q,rfl,l,j⟩:=h.inv;exact .cons l (bI.append j g)
theorem bI.one{x:T}{v:V}(h:Rp K H x v):bI K H [x] [v]:=.cons h .nil
theorem bI.snoc{xs:List T}{d:List V}{x:T}{v:V}(h:bI K H xs d)(g:Rp K H x v):bI K H (xs++[x]) (d++[v]):=h.append (.one g)
theorem bI.drop:∀{xs:List T}{d:List V}(n:Nat),bI K H xs d->bI K H (xs.drop n) (d.drop n)
 |xs,d,0,h=>h
 | [],d,n+1,h=>by rw[h.fE];exact .nil
 |x::r,d,n+1,h=>by
  obtain⟨v,q,rfl,_,e⟩:=h.inv;exact bI.drop n e
theorem bI.take:∀{xs:List T}{d:List V}(n:Nat),bI K H xs d->bI K H (xs.take n) (d.take n)
 |xs,d,0,h=>.nil
 | [],d,n+1,h=>by rw[h.fE];exact .nil
 |x::r,d,n+1,h=>by
  obtain⟨v,q,rfl,g,e⟩:=h.inv;exact .cons g (bI.take n e)
theorem bI.split:∀{xs ys:List T}{d:List V},bI K H (xs++ys) d->∃e us,d=e++us/\bI K H xs e/\bI K H ys us
 | [],ys,d,h=>⟨[],d,rfl,.nil,h⟩
 |x::r,ys,d,h=>by
  obtain⟨v,q,rfl,m,l⟩:=bI.inv h;obtain⟨e,us,rfl,j,g⟩:=bI.split l;exact⟨v::e,us,rfl,.cons m j,g⟩
theorem bI.reverse:∀{xs:List T}{d:List V},bI K H xs d->bI K H xs.reverse d.reverse
 | [],d,h=>by rw[h.fE];exact .nil
 |x::r,d,h=>by
  obtain⟨v,q,rfl,g,e⟩:=h.inv;rw[Oi,Oi];exact(bI.reverse e).snoc g
theorem bI.strs:∀(xs:List Str),bI K H (xs.map .s) (xs.map .str)
 | []=>.nil
 |_::r=>.cons .s (bI.strs r)
end
section
variable {X:Cx}{pins:List (Addr×Obj)}{σ:St}{H:Hp}{s:mu}
theorem Rp.inj(I:Inv X pins σ H s)(a:T):∀(b:T) {v:V},Rp X.K H a v->Rp X.K H b v->a=b:=by
 induction a using T.induct with
 |hs x =>
  intro b v h g;rw[h.aR]at g
  cases b with
  |s y=>have z:=g.aR;injection z with z;rw[z]
  |i y=>have z:=g.cV;cases z
  |n=>unfold Rp at g;cases g
  |t ys=>obtain⟨_,_,z,_⟩:=g.aY;cases z
 |hi x =>
  intro b v h g;rw[h.cV]at g
  cases b with
  |s y=>have z:=g.aR;cases z
  |i y=>have z:=g.cV;injection z with z;rw[z]
  |n=>unfold Rp at g;cases g
  |t ys=>obtain⟨_,_,z,_⟩:=g.aY;cases z
 |hn =>
  intro b v h g;unfold Rp at h;rw[h]at g
  cases b with
  |s y=>have z:=g.aR;cases z
  |i y=>have z:=g.cV;cases z
  |n=>rfl
  |t ys=>obtain⟨_,_,z,_⟩:=g.aY;cases z
 |ht xs ih =>
  intro b v h g;obtain⟨p,o,rfl,hs,hr⟩:=h.aY
  cases b with
  |t ys =>
   obtain⟨E,C,e,j,d⟩:=g.aY
   cases e
   have e:=I.pI hs j;subst e
   congr 1
   clear hs j h g
   induction xs generalizing ys o with
   |nil =>
    have z:=hr.fE;subst z
    cases ys with
    |nil=>rfl
    |cons y q=>obtain⟨_,_,z,_⟩:=d.inv;cases z
   |cons x r ih2 =>
    obtain⟨v,q,rfl,B,A⟩:=hr.inv
    cases ys with
    |nil=>cases d.fE
    |cons y q' =>
     obtain⟨D,u,e,m,l⟩:=d.inv
     cases e
     rw[ih x (.head _) y B m,ih2 (fun z w=>ih z (.tail _ w)) _ A _ l]
  |_=>unfold Rp at g;cases g
theorem bq{h:Heap}{a:Addr}{d:Array j3}(p:IsTup h a d):h.IsTuple a d:=p
theorem tM{us:List V}{d:List j3}(r:Vals us d){j:Nat}{v:V}(e:us[j]?=some v){h:j<d.toArray.size}:RelV v d.toArray[j]:=by
 obtain⟨u,l,g⟩:=r.get e
 have z:d.toArray[j]=u:=by
  have q:d[j]?=some d.toArray[j]:=by
   rw[m3 (by simpa using h)];simp
  rw[l]at q;exact(LQ q).symm
 rw[z];exact g
noncomputable def yY(s:mu)(K:bA)(H:Hp)(x:T):Prop:=∀(b:T) {u v:V}{e d:j3}(A:Lz),A.units+x.dep<OA->Rp K H x u->Rp K H b v->RelV u e->RelV v d->EqAt A s e d (x.eqB b)
theorem tN{xs ys:List T}{us l:List V}{d its':List j3}{A:Lz}(t:∀x∈xs,yY s X.K H x)(z:A.units+T.dB xs<OA)(hr:bI X.K H xs us)(e:bI X.K H ys l)(r:Vals us d)(o:Vals l its')
  (j:Nat) (h1:j<d.toArray.size) (h2:j<its'.toArray.size):EqAt A s d.toArray[j] its'.toArray[j] (T.eqB (xs.getD j .n) (ys.getD j .n)):=by
 have l1:us.length=d.length:=r.length;have l2:l.length=its'.length:=o.length;have l3:=hr.length;have G:=e.length;have C:j<d.length:=by simpa using h1
 have B:j<its'.length:=by simpa using h2
 have g:j<xs.length:=by omega
 have p:j<ys.length:=by omega
 obtain⟨v,y,q⟩:=hr.get (m3 g);obtain⟨w,u,m⟩:=e.get (m3 p);have E:xs.getD j .n=xs[j]:=by simp[g]
 have D:ys.getD j .n=ys[j]:=by simp[p]
 rw[E,D];exact t _ (Ox g) _ A (Qo (Sa (T.Bq (Ox g)) _) z) q m (tM r y) (tM o u)
theorem tO(I:Inv X pins σ H s){xs ys:List T}{us m:List V}{p q:Addr}{A:Lz}(w:∀x∈xs,yY s X.K H x)(y:A.units+1+T.dB xs<OA)(hs:bN X.K H p us)(hr:bI X.K H xs us)(t:bN X.K H q m)(l:bI X.K H ys m) :
  RcAt A s (.ref p) (.ref q) (T.qx xs ys):=by
 obtain⟨g,r,v,_⟩:=I.tuple hs;obtain⟨d,u,o,_⟩:=I.tuple t;have z:=RcAt.tuples (A:=A) (bq v) (bq o) (by omega) (e:=fun j=>T.eqB (xs.getD j .n) (ys.getD j .n)) (tN (A:=A.in1) w (by show A.units+1+_<_;exact y) hr l r u);have l1:us.length=g.length:=r.length;have l2:m.length=d.length:=u.length;have l3:=hr.length;have D:=l.length;rw[T.nI];have C:g.toArray.size=xs.length:=by simp;omega
 have B:d.toArray.size=ys.length:=by simp;omega
 rw[C,B]at z;exact z
theorem vU(I:Inv X pins σ H s){xs ys:List T}{us m:List V}{p q:Addr}{A:Lz}(w:∀x∈xs,yY s X.K H x)(y:A.units+1+T.dB xs<OA)(hs:bN X.K H p us)(hr:bI X.K H xs us)(t:bN X.K H q m)(l:bI X.K H ys m) :
  Oo A s (.ref p) (.ref q) (!T.qx xs ys):=by
 obtain⟨g,r,v,_⟩:=I.tuple hs;obtain⟨d,u,o,_⟩:=I.tuple t;have z:=Oo.tuples (A:=A) (bq v) (bq o) (by omega) (e:=fun j=>T.eqB (xs.getD j .n) (ys.getD j .n)) (tN (A:=A.in1) w (by show A.units+1+_<_;exact y) hr l r u);have l1:us.length=g.length:=r.length;have l2:m.length=d.length:=u.length;have l3:=hr.length;have D:=l.length;rw[T.nI];have C:g.toArray.size=xs.length:=by simp;omega
 have B:d.toArray.size=ys.length:=by simp;omega
 rw[C,B]at z;exact z
theorem Hy(I:Inv X pins σ H s)(a:T):yY s X.K H a:=by
 induction a using T.induct with
 |hs x =>
  intro b u v C B A r h g j d;rw[h.aR]at j;obtain⟨t,rfl⟩:=j
  cases b with
  |s y=>rw[g.aR]at d;obtain⟨m,rfl⟩:=d;unfold T.eqB;exact EqAt.str_str _ _ _ _
  |i y=>rw[g.cV]at d;obtain⟨m,rfl⟩:=d;unfold T.eqB;exact EqAt.str_int _ _ _ _
  |n=>unfold Rp at g;rw[g]at d;cases d;unfold T.eqB;exact EqAt.str_none _ _
  |t ys =>
   obtain⟨q,w,rfl,hs,hr⟩:=g.aY
   cases d
   obtain⟨o,_,l,_⟩:=I.tuple hs;unfold T.eqB;exact EqAt.str_tuple _ _ (bq l) (by omega)
 |hi x =>
  intro b u v C B A r h g j d;rw[h.cV]at j;obtain⟨t,rfl⟩:=j
  cases b with
  |s y=>rw[g.aR]at d;obtain⟨m,rfl⟩:=d;unfold T.eqB;exact EqAt.int_str _ _ _ _
  |i y=>rw[g.cV]at d;obtain⟨m,rfl⟩:=d;unfold T.eqB;exact EqAt.int_int _ _ _ _
  |n=>unfold Rp at g;rw[g]at d;cases d;unfold T.eqB;exact EqAt.int_none _ _
  |t ys =>
   obtain⟨q,w,rfl,hs,hr⟩:=g.aY
   cases d
   obtain⟨o,_,l,_⟩:=I.tuple hs;unfold T.eqB;exact EqAt.int_tuple _ _ (bq l) (by omega)
 |hn =>
  intro b u v C B A r h g j d;unfold Rp at h;rw[h]at j
  cases j
  cases b with
  |s y=>rw[g.aR]at d;obtain⟨m,rfl⟩:=d;unfold T.eqB;exact EqAt.none_str _ _
  |i y=>rw[g.cV]at d;obtain⟨m,rfl⟩:=d;unfold T.eqB;exact EqAt.none_int _ _
  |n=>unfold Rp at g;rw[g]at d;cases d;unfold T.eqB;exact EqAt.same _
  |t ys =>
   obtain⟨q,w,rfl,hs,hr⟩:=g.aY
   cases d
   obtain⟨o,_,l,_⟩:=I.tuple hs;unfold T.eqB;exact EqAt.none_tuple (bq l) (by omega)
 |ht xs ih =>
  intro b u v C B A r h g j d;obtain⟨p,J,rfl,hs,hr⟩:=h.aY
  cases j
  obtain⟨o,G,l,_⟩:=I.tuple hs
  cases b with
  |s y=>rw[g.aR]at d;obtain⟨m,rfl⟩:=d;unfold T.eqB;exact EqAt.tuple_str _ _ (bq l) (by omega)
  |i y=>rw[g.cV]at d;obtain⟨m,rfl⟩:=d;unfold T.eqB;exact EqAt.tuple_int _ _ (bq l) (by omega)
  |n=>unfold Rp at g;rw[g]at d;cases d;unfold T.eqB;exact EqAt.tuple_none (bq l) (by omega)
  |t ys =>
   obtain⟨q,w,rfl,D,E⟩:=g.aY
   cases d
   by_cases e:p=q
   ·subst e;have z:=Rp.inj I _ _ h g;rw[z,T.Bs];exact EqAt.same _
   ·unfold T.dep at r;unfold T.eqB;exact EqAt.of_refs e (tO I ih (by omega) hs hr D E)
theorem HA(I:Inv X pins σ H s)(a b:T){u v:V}{C B:j3}(A:Lz)(E:A.units+a.dep<OA)(h:Rp X.K H a u)(g:Rp X.K H b v)(m:RelV u C)(d:RelV v B):RcAt A s C B (a.eqB b)/\Oo A s C B (!a.eqB b):=by
 cases a with
 |s x =>
  rw[h.aR]at m;obtain⟨t,rfl⟩:=m
  cases b with
  |s y=>rw[g.aR]at d;obtain⟨l,rfl⟩:=d;unfold T.eqB;exact⟨RcAt.str_str _ _ _ _,Oo.str_str _ _ _ _⟩
  |i y=>rw[g.cV]at d;obtain⟨l,rfl⟩:=d;unfold T.eqB;exact⟨RcAt.str_int _ _ _ _,Oo.str_int _ _ _ _⟩
  |n=>unfold Rp at g;rw[g]at d;cases d;unfold T.eqB;exact⟨RcAt.str_none _ _,Oo.str_none _ _⟩
  |t ys =>
   obtain⟨q,z,rfl,j,hr⟩:=g.aY
   cases d
   obtain⟨o,_,e,_⟩:=I.tuple j;unfold T.eqB;exact⟨RcAt.str_tuple _ _ (bq e) (by omega),Oo.str_tuple _ _ (bq e) (by omega)⟩
 |i x =>
  rw[h.cV]at m;obtain⟨t,rfl⟩:=m
  cases b with
  |s y=>rw[g.aR]at d;obtain⟨l,rfl⟩:=d;unfold T.eqB;exact⟨RcAt.int_str _ _ _ _,Oo.int_str _ _ _ _⟩
  |i y=>rw[g.cV]at d;obtain⟨l,rfl⟩:=d;unfold T.eqB;exact⟨RcAt.int_int _ _ _ _,Oo.int_int _ _ _ _⟩
  |n=>unfold Rp at g;rw[g]at d;cases d;unfold T.eqB;exact⟨RcAt.int_none _ _,Oo.int_none _ _⟩
  |t ys =>
   obtain⟨q,z,rfl,j,hr⟩:=g.aY
   cases d
   obtain⟨o,_,e,_⟩:=I.tuple j;unfold T.eqB;exact⟨RcAt.int_tuple _ _ (bq e) (by omega),Oo.int_tuple _ _ (bq e) (by omega)⟩
 |n =>
  unfold Rp at h;rw[h]at m
  cases m
  cases b with
  |s y=>rw[g.aR]at d;obtain⟨l,rfl⟩:=d;unfold T.eqB;exact⟨RcAt.none_str _ _,Oo.none_str _ _⟩
  |i y=>rw[g.cV]at d;obtain⟨l,rfl⟩:=d;unfold T.eqB;exact⟨RcAt.none_int _ _,Oo.none_int _ _⟩
  |n=>unfold Rp at g;rw[g]at d;cases d;unfold T.eqB;exact⟨RcAt.none_none,Oo.none_none⟩
  |t ys =>
   obtain⟨q,z,rfl,j,hr⟩:=g.aY
   cases d
   obtain⟨o,_,e,_⟩:=I.tuple j;unfold T.eqB;exact⟨RcAt.none_tuple (bq e) (by omega),Oo.none_tuple (bq e) (by omega)⟩
 |t xs =>
  obtain⟨p,G,rfl,j,hr⟩:=h.aY
  cases m
  obtain⟨o,D,e,_⟩:=I.tuple j
  cases b with
  |s y=>rw[g.aR]at d;obtain⟨l,rfl⟩:=d;unfold T.eqB;exact⟨RcAt.tuple_str _ _ (bq e) (by omega),Oo.tuple_str _ _ (bq e) (by omega)⟩
  |i y=>rw[g.cV]at d;obtain⟨l,rfl⟩:=d;unfold T.eqB;exact⟨RcAt.tuple_int _ _ (bq e) (by omega),Oo.tuple_int _ _ (bq e) (by omega)⟩
  |n=>unfold Rp at g;rw[g]at d;cases d;unfold T.eqB;exact⟨RcAt.tuple_none (bq e) (by omega),Oo.tuple_none (bq e) (by omega)⟩
  |t ys =>
   obtain⟨q,z,rfl,r,w⟩:=g.aY
   cases d
   unfold T.dep at E;unfold T.eqB;exact⟨tO I (fun x _=>Hy I x) (by omega) j hr r w,vU I (fun x _=>Hy I x) (by omega) j hr r w⟩
noncomputable def HB(K:bA):R2:=fun x y H Q=>∃a b,Rp K H a x/\Rp K H b y/\a.dep<=150/\Q (.bl (decide (a=b))) H
noncomputable def Jp(K:bA):R2:=fun x y H Q=>∃a b,Rp K H a x/\Rp K H b y/\a.dep<=150/\Q (.bl (!decide (a=b))) H
theorem rm(l:X.A.units+150<OA):mW X (ML .Eq) (HB X.K):=by
 intro pins s σ H x y v u Q I e d h;obtain⟨a,b,j,g,hd,q⟩:=h;rw[←T.yT]at q;exact(HA I a b X.A (by omega) j g e d).1 X.prog X.w X.xe _ ⟨.bl _,H,I,rfl,q⟩
theorem Bw(l:X.A.units+150<OA):mW X (ML .NotEq) (Jp X.K):=by
 intro pins s σ H x y v u Q I e d h;obtain⟨a,b,j,g,hd,q⟩:=h;rw[←T.yT]at q;exact(HA I a b X.A (by omega) j g e d).2 X.prog X.w X.xe _ ⟨.bl _,H,I,rfl,q⟩
theorem ic.qy{k:Nat}{A:Lz}(r:ic k A):A.units+150<OA:=by have:=r.un;omega
end
end L2
namespace L2
open PySem PySem.Spec PyProof.Rows
theorem Al{b:Bool}{A B:Prop}(e:b=true)(h:A):if b=true then A else B:=by rw[if_pos e];exact h
theorem lQ{b:Bool}{A B:Prop}(e:b=false)(h:B):if b=true then A else B:=by rw[if_neg (by rw[e];exact Lg)];exact h
section
variable {X:Cx}
theorem fO{e:Pos}{d:List Expr}{k:Nat}{t:Dk}{n:Nat}(K:bA)(l:X.K=K)(j:X.calm=true)(h:G0 X d t)(hn:(OM d X.env).length=n:=by rfl)(g:(OM d X.env).findIdx? (·.1)=none:=by rfl):PG X (.Tuple d k e) (Ba K n t):=by
 subst l;exact E7 j h hn g
theorem fP(K:bA)(d:X.K=K):A6 X (Ae K):=by subst d;exact aQ
theorem Bx(K:bA)(d:X.K=K):A6 X (Fv K):=by subst d;exact aW
theorem By(K:bA)(d:X.K=K):Ft X (Hr K):=by subst d;exact gu
theorem xV(K:bA)(d:X.K=K):mW X (ML .In) (IC K false):=by subst d;exact iZ
theorem nB(K:bA)(d:X.K=K):mW X (ML .NotIn) (IC K true):=by subst d;exact ow
theorem sG(K:bA)(d:X.K=K):iN X (.builtin "len") (fun xs H Q=>∃p ys,xs=[.ref p]/\(bz K H p ys\/bN K H p ys)/\Q (.int ys.length) H):=by subst d;exact aB
noncomputable def EG(w:Lk):List OS->List (Str×V)->Prop
 | [],kvs=>kvs=[]
 |e::r,kvs=>∃x v q,kvs=(x,v)::q/\(∃t,e.key=.str x t)/\e.hash=hashStr w x/\RelV v e.val/\EG w r q
noncomputable def KD(K:bA)(w:Lk)(d:Addr)(kvs:List (Str×V)):Prop :=
 ∃(e:Array OS) (n:Nat),K.lookup d=some {cls:=.type "dict",dict:=none,data:=.dict e n,slots:=#[]}/\EG w e.toList kvs/\(kvs.map (·.1)).Nodup/\(d == MC)=false
theorem EG.keys{w:Lk}{P:FG}:∀{j:List OS}{kvs:List (Str×V)},EG w j kvs->∃d:List (Str×j3),Pairs (Nh P w) j d/\(∀e∈j,∃k,(Nh P w).is k e.key=true/\e.hash=(Nh P w).hash k)/\d.map (·.1)=kvs.map (·.1) /\
  ∀k,lV (kvs.lookup k) (Ow d k)
 | [],kvs,h=>by
  obtain rfl:kvs=[]:=h;exact⟨[],.nil,(fun _ h=>nomatch h),rfl,fun _=>trivial⟩
 |e::r,kvs,h=>by
  obtain⟨x,v,q,rfl,⟨t,o⟩,p,m,hr⟩:=h;obtain⟨d,B,A,y,u⟩:=EG.keys (P:=P) hr;have l:(Nh P w).is x e.key=true:=by rw[o];exact(by simp[Nh,QT]:(Nh P w).is x (.str x t)=true)
  refine⟨(x,e.val)::d,.cons l rfl B,fun D g=>?_,by rw[Lh,Lh,y],fun k=>?_⟩
  ·cases g with
   |head=>exact⟨x,l,p⟩
   |tail _ g=>exact A D g
  ·rw[LG]
   by_cases c:k=x
   ·subst c;rw[beq_self_eq_true];simp only[Ow,M7,decide_true,OJ];exact m
   ·rw[beq_false_of_ne c];have z:=u k
    have C:Ow ((x,e.val)::d) k=Ow d k:=by
     simp only[Ow,M7];rw[decide_eq_false (fun q=>c q.symm)]
    rw[C];exact z
theorem KD.dict{K:bA}{P:FG}{w:Lk}{d:Addr}{kvs:List (Str×V)}(D:KD K w d kvs){h:Heap}(X:K.In h):∃g,h.DictOf (Nh P w) d g/\(d == MC)=false/\∀k,lV (kvs.lookup k) (Ow g k):=by
 obtain⟨t,n,e,l,j,hd⟩:=D;obtain⟨g,r,q,p,o⟩:=EG.keys (P:=P) l;exact⟨g,⟨_,t,n,X _ _ e,⟨rfl,rfl,rfl⟩,rfl,fun u m=>q u (by simpa using m),r,by rw[p];exact j⟩,hd,o⟩
theorem yZ{P:FG}{w:Lk}{x:Str}{t:Tok}:(Nh P w).is x (.str x t)=true:=by simp[Nh,QT]
noncomputable def Jq(K:bA)(w:Lk):R2:=fun x y H Q=>∃k d e,x=.str k/\y=.ref d/\KD K w d e/\Q (.bl (e.lookup k).isSome) H
theorem lV.DK{a:Option V}{b:Option j3}(r:lV a b):b.isSome=a.isSome:=by
 cases a<;>cases b<;>first|rfl|exact r.elim
theorem za:mW X (ML .In) (Jq X.K X.w):=by
 intro g s p H x y v u Q I l j h;obtain⟨k,d,m,rfl,rfl,D,q⟩:=h;obtain⟨t,rfl⟩:=l;obtain rfl:u=Value.ref d:=j;obtain⟨r,o,hd,e⟩:=D.dict (P:=X.prog) I.A5;refine wpAny_in_of yZ hd o.mapOf ?_;rw[(e k).DK];exact⟨.bl _,H,I.tok _,rfl,q⟩
noncomputable def HD(K:bA)(w:Lk)(j ty:TE):TE:=fun g H Q=>j g H fun x m=>ty g m fun y l=>∃d e k v,x=.ref d/\y=.str k/\KD K w d e/\e.lookup k=some v/\Q v l
theorem qC{o i:Expr}{l:Pos}{p ty:TE}(M:PE X o p)(hi:PE X i ty)(hs:FE i):PE X (.Subscript o i l) (HD X.K X.w p ty):=by
 intro e s m H Q I h;refine yS Qz.lookup hs (cO (M e s m H _ I h) fun u A ⟨x,S,O,C,q1⟩=>cO (hi e A m S _ O q1) fun V U ⟨y,R,r,B,d,J,k,v,ex,N,D,G,E⟩=>?_);subst ex N;obtain rfl:u=Value.ref d:=C;obtain⟨t,rfl⟩:=B;obtain⟨z,q,hd,j⟩:=D.dict (P:=X.prog) r.A5;obtain⟨T,L,g⟩:=lV.some_of (v:=v) (o:=Ow z k) (by rw[←G];exact j k);exact⟨q.typeIs,wpAny_getItem_of yZ q.mapOf L ⟨v,R,r.tok _,g,E⟩⟩
theorem xW:mW X (Nn .Mult) (fun x y H Q=>∃z n,x=.str z/\y=.int n/\-1000000<=n/\n<=1000000/\z.length*n.toNat<=nk/\Q (.str (QN z n)) H):=by
 intro d s p H x y v u Q I m l h;obtain⟨z,n,rfl,rfl,B,A,g,q⟩:=h;obtain⟨t,rfl⟩:=m;obtain⟨j,rfl⟩:=l;refine PySem.SB.mul ⟨by simp;omega,fun a b=>?_,fun a b=>?_⟩ fun j k=>⟨.str _,H,I.tok _,⟨_,rfl⟩,q⟩
 ·intro c;have r:1<=n:=by omega
  have o:z.length*n.toNat<=16777216:=by rw[←QI];exact g
  have w:z.length<=z.length*n.toNat:=Rc _ (by omega);have e:(9223372036854:Int)<=(2 ^ 63-1) / n:=Int.le_ediv_of_mul_le (by omega) (by omega);omega
 ·unfold Og.Str.tooLong;simp;exact g
end
section
variable {g:TG}{tt:TT}{te:TE}{Q:VK}{σ0:St}{H0:Hp}
theorem kj{K:bA}{a:Addr}{xs:List V}(l:Nat->St->List V->Hp->Prop)(t:l 0 σ0 [] H0)(m:∀i e d H,i<=xs.length->l i e d H->d.length<=i)(hn:xs.length<=nk)(q:∀i e d H,i<=xs.length->l i e d H->bN K H a xs)
  (hs:∀i x e d H,xs[i]?=some x->l i e d H->g x e H fun j w=>tt j w fun ok r=>if ok=true then te j r fun v u=>l (i+1) j (d++[v]) u else l (i+1) j d r)
  (hd:∀e d H,l xs.length e d H->∀p,H p=none->Q (.ref p) (upd H p (.lst d))):jP (Bd K a) g tt te Q σ0 H0:=by
 refine qB xs.length l t m hn (fun i e d H o p=>⟨xs,xs[i],q i e d H (Mb o) p,by simp[o]⟩) (fun e d H p=>⟨xs,q _ e d H (lj _) p,lj _⟩) (fun i e d H x z o p y=>?_) hd;obtain⟨rfl,y⟩:=y;exact hs i x e d _ (y xs (q i e d _ (Mb o) p)) p
end
mutual
noncomputable def T.py:T->RE
 |.s x=>.str x
 |.i k=>.int k
 |.n=>.none
 |.t xs=>.tuple (T.EH xs)
noncomputable def T.EH:List T->List RE
 | []=>[]
 |x::r=>x.py::T.EH r
end
section
variable {X:Cx}{pins:List (Addr×Obj)}{σ:St}{H:Hp}{s:mu}
theorem rA:∀{xs:List T},(∀x∈xs,∀{v:V}{u:j3},Rp X.K H x v->RelV v u->∃as,Reads s.heap u x.py as)->∀{d:List V}{us:List j3},bI X.K H xs d->Vals d us->∃as,ReadsAll s.heap us (T.EH xs) as
 | [],_,d,us,h,r=>by
  obtain rfl:=h.fE
  cases r
  exact⟨[],.nil⟩
 |x::q,ih,d,us,h,r=>by
  obtain⟨v,w,rfl,m,l⟩:=h.inv
  cases r with
  |cons r1 r2 =>
   obtain⟨as,j⟩:=ih x (.head _) m r1;obtain⟨bs,g⟩:=rA (fun y e=>ih y (.tail _ e)) l r2;exact⟨as++bs,.cons j g⟩
theorem uE(I:Inv X pins σ H s)(a:T):∀{v:V}{u:j3},Rp X.K H a v->RelV v u->∃as,Reads s.heap u a.py as:=by
 induction a using T.induct with
 |hs x=>intro v u h r;rw[h.aR]at r;obtain⟨t,rfl⟩:=r;unfold T.py;exact⟨[],.str x t⟩
 |hi x=>intro v u h r;rw[h.cV]at r;obtain⟨t,rfl⟩:=r;unfold T.py;exact⟨[],.int x t⟩
 |hn=>intro v u h r;unfold Rp at h;rw[h]at r;cases r;unfold T.py;exact⟨[],.none⟩
 |ht xs ih =>
  intro v u h r;obtain⟨p,m,rfl,hs,hr⟩:=h.aY
  cases r
  obtain⟨j,g,⟨o,e,c,n,d⟩,_⟩:=I.tuple hs;obtain⟨as,l⟩:=rA (s:=s) ih hr g;unfold T.py;exact⟨as,.tuple e c d (by simpa using l)⟩
structure qf(d:RE):Prop where
 sh:d.showable=true
 nd:d.hasDict=false
 dp:d.depth<=100
 sz:d.shown.length<=nk
theorem xX(l:X.A.guards=some [])(B:X.A.units+150<OA):iN X (.builtin "repr") (fun xs H Q=>∃x d ,xs=[x]/\Rp X.K H (.t d) x/\qf (T.t d).py/\Q (.str (T.t d).py.shown) H):=by
 intro pins s σ H xs v Q I r h;obtain⟨x,w,rfl,hr,S,q⟩:=h;obtain⟨u,rfl,g⟩:=vals1 r;obtain⟨E,m⟩:=uE I _ hr g;obtain⟨p,o,rfl,C,hr⟩:=hr.aY
 cases g
 refine repr_of_reads' m S.sh (fun z=>by rw[S.nd]at z;cases z) l (by have:=S.dp;omega) (fun _ _ e=>e) (fun D u y j=>?_) S.sz;exact⟨.str _,H,I.kept j,⟨_,rfl⟩,q⟩
end
theorem atS{z:Str}{r:Int}(j:0<=r)(h:r<(z.length:Int)):∃c,jM z.cps.toList r=some c/\c∈z.cps.toList:=by
 have e:z.cps.toList.length=z.length:=by simp[Qm]
 have d:r.toNat<z.cps.toList.length:=by rw[e];omega
 have g:r=((r.toNat:Nat):Int):=by omega
 have q:jM z.cps.toList ((r.toNat:Nat):Int)=some z.cps.toList[r.toNat]:=bD (m3 d);rw[←g]at q;exact⟨_,q,Ox d⟩
theorem DL(d:List Nat):Txt.join "" (d.map fun c=>(⟨#[c]⟩:Str))=⟨d.toArray⟩:=by
 show Og.Str.glued (Lj "") _=_;rw[StrLaws.glued_eq_join];exact PyProof.Rows.join_ones d
theorem BA(l:List Nat):((l.map fun c=>(⟨#[c]⟩:Str)).map (·.length)).sum=l.length:=by
 induction l with
 |nil=>rfl
 |cons c r ih=>rw[Lh,Lh,Sk,ih,Lu];show 1+_=_;omega
theorem FN(d:List Nat):(⟨d.toArray⟩:Str).length=d.length:=by simp[Qm]
theorem HF(b:Bool)(z:Str):(QN z (if b then 1 else 0)).length<=z.length:=by
 cases b with
 |true=>simp[QN]
 |false=>simp[QN,Qm,Lw]
end L2
namespace L2
open PySem
noncomputable def cE(H:Hp)(f:Addr):Prop:=∃p q:Int,H f=some (.lst [.int p,.int q])
noncomputable def Ext(f:Addr)(H d:Hp):Prop:=(∀b o,b≠f->H b=some o->d b=some o)/\cE d f
theorem Ext.refl{f:Addr}{H:Hp}(h:cE H f):Ext f H H:=⟨fun _ _ _ e=>e,h⟩
theorem Ext.trans{f:Addr}{H g d:Hp}(a:Ext f H g)(b:Ext f g d):Ext f H d:=⟨fun c o n e=>b.1 c o n (a.1 c o n e),b.2⟩
theorem Ext.same{f:Addr}{H g d:Hp}(a:Ext f H g)(s:aF g d):Ext f H d:=⟨fun c o n e=>s c o (a.1 c o n e),let⟨p,q,e⟩:=a.2;⟨p,q,s f _ e⟩⟩
theorem ae{H:Hp}{p:Addr}(h:H p=none)(o:HO):aF H (upd H p o):=fun b u q=>by rw[av (aq q h)];exact q
theorem cE.same{f:Addr}{H d:Hp}(h:cE H f)(s:aF H d):cE d f:=let⟨p,q,e⟩:=h;⟨p,q,s f _ e⟩
theorem Ext.tup{f:Addr}{H g:Hp}(e:Ext f H g)(d:cE H f){a:Addr}{xs:List V}(h:H a=some (.tup xs)):g a=some (.tup xs):=by
 refine e.1 a _ ?_ h;obtain⟨p,q,d⟩:=d;exact cD h d (by intro z;cases z)
noncomputable def eJ:Sp:=fun e H Q _=>∃(f:Addr) (m:Int),e=[.ref f,.int m]/\0<m/\m<1073741824/\cE H f/\∀(r:Int) (d:Hp),0<=r->r<m->Ext f H d->Q (.int r) d
noncomputable def xY(K:bA):Sp:=fun g H Q _=>∃(a:Addr) (e:List Int) (k:Int),g=[.ref a,.int k]/\bz K H a (e.map V.int)/\e.length<=63/\0<=k/\k<=100 /\
 ∀(r:Addr) (d:Hp),aF H d->H r=none->cE d r->Q (.ref r) d
theorem small{n:Nat}(h:n<=1000):n<=nk:=Mb (bj h)
theorem zb{ns:List Int}{k:Int}(g:0<=k)(h:k<(ns.length:Int)):∃v:Int,jM (ns.map V.int) k=some (.int v):=by
 have d:k.toNat<ns.length:=by omega
 have e:k=((k.toNat:Nat):Int):=by omega
 have q:jM (ns.map V.int) ((k.toNat:Nat):Int)=some (.int ns[k.toNat]):=bD (by rw[rz,m3 d]<;>rfl)
 rw[←e]at q;exact⟨_,q⟩
theorem mj{d:Type}{xs:List d}{k:Int}(j:0<=k)(h:k<(xs.length:Int)):∃v:d,jM xs k=some v/\v∈xs:=by
 have e:k.toNat<xs.length:=by omega
 have g:k=((k.toNat:Nat):Int):=by omega
 have q:jM xs ((k.toNat:Nat):Int)=some xs[k.toNat]:=bD (m3 e);rw[←g]at q;exact⟨_,q,Ox e⟩
theorem Ext.kt{f:Addr}{H g:Hp}(e:Ext f H g)(d:cE H f):Kt H g:=fun a j r=>by
 obtain⟨p,q,d⟩:=d;rcases r with h|⟨o,h⟩
 ·exact .inl (e.1 a _ (cD h d (by intro z;cases z)) h)
 ·exact .inr ⟨o,e.1 a _ (cD h d (by intro z;cases z)) h⟩
theorem Ext.lst{f:Addr}{H d:Hp}(e:Ext f H d){l:Addr}{xs:List V}(n:l≠f)(h:H l=some (.lst xs)):d l=some (.lst xs):=e.1 l _ n h
theorem Ext.new{f:Addr}{H d:Hp}(e:Ext f H d){p:Addr}(h:d p=none)(o:HO):Ext f H (L2.upd d p o):=e.same (ae h o)
structure bY(P:FG) (w:Lk) (K:bA) (mg:Str->Option j3) (base:Heap) (x:Str) (k:Nat) (ps:List Str) (sp:Sp) (f:Addr) (fd:zo):Prop where
 ok:bK P w K mg base eL k f fd ps sp
 at':mg x=some (.ref f)
 kp:MO K (.ref f)=true
 bd:Binds K fd ps []
theorem mX{P:FG}{w:Lk}{K:bA}{mg:Str->Option j3}{d:Heap}{k:Nat}{f:Addr}{g:zo}{ps:List Str}{sp:Sp}(h:∀e H Q E,¬sp e H Q E):bK P w K mg d eL k f g ps sp :=
 ⟨fun e H Q E z=>(h e H Q E z).elim,fun _ _ _ _ _ _ _ _ _ _ _ _ _ z=>(h _ _ _ _ z).elim⟩
end L2
namespace L2
open PySem PySem.Spec PyProof.Rows
noncomputable def qg(p:List Str×Tm):T:=.t [.t (p.1.map .s),enc p.2]
noncomputable def right(d:Tm):List (List Str×Tm):=(bnd d.hd d.ks.length).zip d.ks
theorem bN.same{K:bA}{H d:Hp}(e:aF H d){a:Addr}{xs:List V}(h:bN K H a xs):bN K d a xs:=h.kt (Kt.same e)
theorem Rp.same{K:bA}{H d:Hp}(e:aF H d){x:T}{v:V}(h:Rp K H x v):Rp K d x v:=h.kt (Kt.same e)
theorem bI.same{K:bA}{H d:Hp}(e:aF H d){x:List T}{v:List V}(h:bI K H x v):bI K d x v:=h.kt (Kt.same e)
theorem Rp.new{K:bA}{H:Hp}{p:Addr}(e:H p=none){xs:List T}{d:List V}(h:bI K H xs d):Rp K (upd H p (.tup d)) (.t xs) (.ref p):=.t (.of af) (h.same (ae e _))
section
variable {K:bA}{Q:VK}{H0:Hp}
theorem vV{a J:Addr}{ps:List Nat}{ts ks:List T}{I:List V}(O:bN K H0 a I)(hr:bI K H0 ts I)(P:bN K H0 J (ps.map fun(j:Nat)=>V.int (j:Int)))(v:ps.length<=1000)(L:ps.map (fun(j:Nat)=>ts[j]?)=ks.map some)
  (k:∀(p:Addr) (B:Hp) (H:List V),aF H0 B->B p=some (.lst H)->bI K B (ks.map fun k=>.t [.t [],k]) H->Q (.ref p) B) :
  jP (Bd K J) (iD 0) tI (Aa (qd (Aa zZ) (qd (Dn (Ae K) (nX 1) (nX 0)) zZ))) Q [none,some (.ref a)] H0:=by
 refine kj (xs:=ps.map fun(j:Nat)=>V.int (j:Int)) (fun i u g m=>(∃x,u=[x,some (.ref a)])/\aF H0 m/\bI K m ((ks.take i).map fun k=>.t [.t [],k]) g) ⟨⟨none,rfl⟩,aF.refl _,.nil⟩ ?_ (small (by rw[bC];exact v)) ?_ ?_ ?_
 ·rintro i u g m hi ⟨_,_,r⟩;rw[r.length,bC,Lb];omega
 ·rintro i u g m hi ⟨_,e,_⟩;exact P.same e
 ·rintro i x u g m hx ⟨⟨R,rfl⟩,e,r⟩;rw[rz]at hx;obtain⟨j,N,rfl⟩:=FA.mp hx
  have d:ts[j]?=ks[i]?/\i<ks.length:=by
   have z:=congrArg (fun l=>l[i]?) L;simp only[rz,N,OJ]at z
   cases A:ks[i]? with
   |none=>rw[A]at z;cases z
   |some q=>rw[A]at z;exact⟨LQ z,(ko.mp A).1⟩
  obtain⟨d,y⟩:=d;rw[m3 y]at d;obtain⟨w,M,C⟩:=hr.get d;refine⟨Ld _,fun q E=>?_⟩;have G:=e.trans (ae E (.tup []));refine⟨_,rfl,_,rfl,a,_,_,w,rfl,rfl,O.same G,bD M,(by show 2<=nk;decide),fun t D=>?_⟩;have A:=G.trans (ae D (.tup [.ref q,w]));refine⟨⟨_,rfl⟩,A,?_⟩;rw[Lc y,nq];refine(r.same (fun b o h=>ae D _ b o (ae E _ b o h))).snoc (Rp.new D (.cons ?_ (.one (C.same G))));exact Rp.new E .nil
 ·rintro u g m ⟨_,e,r⟩ p hp
  have l:(ps.map fun(j:Nat)=>V.int (j:Int)).length=ks.length:=by
   have z:=congrArg NP L
   simpa using z
  rw[l,Lv]at r;exact k p _ g (e.trans (ae hp _)) af (r.same (ae hp _))
theorem Am{B:Addr}{ks:List T}{u:List V}(H:bN K H0 B u)(hr:bI K H0 ks u)(D:ks.length<=1000)
  (k:∀(p:Addr) (m:Hp) (A:List V),aF H0 m->m p=some (.lst A)->bI K m (ks.map fun k=>.t [.t [],k]) A->Q (.ref p) m) :
  jP (Bd K B) (iD 0) tI (Aa (qd (Aa zZ) (qd (nX 0) zZ))) Q [none] H0:=by
 have l:=hr.length;refine kj (xs:=u) (fun i j d g=>(∃x,j=[x])/\aF H0 g/\bI K g ((ks.take i).map fun k=>.t [.t [],k]) d) ⟨⟨none,rfl⟩,aF.refl _,.nil⟩ ?_ (small (by omega)) ?_ ?_ ?_
 ·rintro i j d g hi ⟨_,_,r⟩;rw[r.length,bC,Lb];omega
 ·rintro i j d g hi ⟨_,e,_⟩;exact H.same e
 ·rintro i x j d g hx ⟨⟨L,rfl⟩,e,r⟩;obtain⟨y,C,G⟩:=hr.get' hx;have z:i<ks.length:=(ko.mp C).1;have I:ks[i]=y:=(ko.mp C).2;refine⟨Ld _,fun q w=>?_⟩;have E:=e.trans (ae w (.tup []));refine⟨_,rfl,(by show 2<=nk;decide),fun t v=>?_⟩;have J:=E.trans (ae v (.tup [.ref q,x]));refine⟨⟨_,rfl⟩,J,?_⟩;rw[Lc z,nq,I];refine(r.same (fun b o h=>ae v _ b o (ae w _ b o h))).snoc (Rp.new v (.cons ?_ (.one (G.same E))));exact Rp.new w .nil
 ·rintro j d g ⟨_,e,r⟩ p hp;rw[l,Lv]at r;exact k p _ d (e.trans (ae hp _)) af (r.same (ae hp _))
theorem An{B:Addr}{arms:List (Str×List Str)}{ks:List T}{o:List V}(M:arms.length=ks.length)(N:bN K H0 B o)(hr:bI K H0 (LK gw arms ks) o)(D:ks.length<=1000)
  (k:∀(p:Addr) (q:Hp) (A:List V),aF H0 q->q p=some (.lst A)->bI K q (LK (fun a k=>.t [.t (a.2.map .s),k]) arms ks) A->Q (.ref p) q) :
  jP (Bd K B) (Ba K 3 (qc (iD 0) (qc (iD 1) (qc (iD 2) Dl)))) tI (Aa (qd (nX 1) (qd (nX 2) zZ))) Q [none,none,none] H0:=by
 have l:=hr.length;rw[MM,M,P9]at l;refine kj (xs:=o) (fun i m g j=>(∃x y z,m=[x,y,z])/\aF H0 j/\bI K j ((LK (fun(a:Str×List Str) k=>T.t [.t (a.2.map .s),k]) arms ks).take i) g) ⟨⟨none,none,none,rfl⟩,aF.refl _,.nil⟩ ?_ (small (by omega)) ?_ ?_ ?_
 ·rintro i m g j E ⟨_,_,r⟩;rw[r.length,Lb];omega
 ·rintro i m g j E ⟨_,e,_⟩;exact N.same e
 ·rintro i x m g j hx ⟨⟨W,U,S,rfl⟩,e,r⟩;obtain⟨y,C,H⟩:=hr.get' hx;have E:i<o.length:=(ko.mp hx).1;have w:i<arms.length:=by omega
  have v:i<ks.length:=by omega
  have L:i<(LK (fun(a:Str×List Str) k=>T.t [.t (a.2.map .s),k]) arms ks).length:=by rw[MM];omega
  rw[RQ,m3 w,m3 v]at C
  cases C
  obtain⟨J,I,rfl,G,d⟩:=(show Rp K H0 (.t [_,_,_]) x from H).aY;obtain⟨X,q1,rfl,h1,d⟩:=d.inv;obtain⟨t2,Z,rfl,P,d⟩:=d.inv;obtain⟨t3,Y,rfl,O,d⟩:=d.inv;obtain rfl:=d.fE;refine⟨J,_,rfl,G.same e,rfl,_,_,rfl,_,_,rfl,_,_,rfl,rfl,?_⟩;refine⟨_,rfl,_,rfl,(by show 2<=nk;decide),fun t u=>?_⟩;have R:=e.trans (ae u (.tup [t2,t3]));refine⟨⟨_,_,_,rfl⟩,R,?_⟩;rw[Lc L];refine(r.same (ae u _)).snoc ?_;rw[List.getElem_zipWith];exact Rp.new u (.cons (P.same e) (.one (O.same e)))
 ·rintro m g j ⟨_,e,r⟩ p hp;rw[LO (by rw[MM];omega)]at r;exact k p _ g (e.trans (ae hp _)) af (r.same (ae hp _))
end
theorem lN{d e:Type}(f:d->Option e)(g:d->e):∀(l:List d),(∀a∈l,f a=some (g a))->l.filterMap f=l.map g
 | [],_=>rfl
 |a::r,h=>by rw[Mg,h a (.head _),Lh,lN f g r fun b j=>h b (.tail _ j)]
theorem Ao{g:Type}(xs:List g):((LU xs.length).map fun k=>xs.length-1-k).filterMap (xs[·]?)=xs.reverse:=by
 cases xs with
 |nil=>rfl
 |cons x r =>
  rw[Sv,lN _ (fun k=>(x::r).reverse.getD k x)]
  ·apply List.ext_getElem
   ·simp
   ·intro i l e;simp only[List.getElem_map,List.getElem_range];simp at l;simp only[Np];rw[m3 e];rfl
  ·intro k j;have d:=Oj.mp j;show(x::r)[(x::r).length-1-k]?=_;have e:k<(x::r).reverse.length:=by simpa using d
   simp only[Np];rw[m3 e,List.getElem_reverse,m3 (by omega)];rfl
theorem Aq(n:Nat):Qp (LZ none none (some (-1)) n).1 (LZ none none (some (-1)) n).2.1 (LZ none none (some (-1)) n).2.2=(LU n).map fun k=>n-1-k:=by
 show Qp ((n:Int) - 1) (-1) (-1)=_;unfold Qp
 have c:(if(-1:Int)>0 then(if(n:Int) - 1 < -1 then(-1 - ((n:Int) - 1)+-1-1) / -1 else 0)else(if(n:Int) - 1 > -1 then((n:Int) - 1 - -1 - -1-1) / (- -1)else 0))=(n:Int):=by
  rw[if_neg (by decide)]
  split
  ·rw[show(- -1:Int)=1 from rfl,Int.ediv_one];omega
  ·omega
 simp only[c,Mv];refine List.map_congr_left fun k d=>?_;have:=Oj.mp d;omega
theorem oE(xs:List V):rf xs none none (some (-1))=xs.reverse:=by
 rw[DG (Aq xs.length)];exact Ao xs
section
variable {K:bA}{Q:VK}{H0:Hp}
theorem xZ{a:Addr}{ps:List (List Str×Tm)}{o:List V}(E:H0 a=some (.lst o))(hr:bI K H0 (ps.map qg) o)(w:ps.length<=1000)
  (k:∀(p:Addr) (u:List V),H0 p=none->bI K H0 (ps.map fun p=>enc p.2) u->Q (.ref p) (upd H0 p (.lst u))) :
  jP (Dm K a) (Ba K 2 (qc (iD 0) (qc (iD 1) Dl))) tI (nX 1) Q [none,none] H0:=by
 have l:=hr.length;rw[bC]at l;refine fg (xs:=o) (fun i e d j=>(∃x y,e=[x,y])/\j=H0/\bI K H0 ((ps.take i).map fun p=>enc p.2) d) ⟨⟨none,none,rfl⟩,rfl,.nil⟩ ?_ (small (by omega)) ?_ ?_ ?_
 ·rintro i e d j hi ⟨_,_,r⟩;rw[r.length,bC,Lb];omega
 ·rintro i e d j hi ⟨_,rfl,_⟩;exact bz.of E
 ·rintro i x e d j hx ⟨⟨J,I,rfl⟩,rfl,r⟩;obtain⟨y,v,A⟩:=hr.get' hx;rw[rz]at v;obtain⟨D,m,rfl⟩:=FA.mp v;have q:i<ps.length:=(ko.mp m).1;have H:ps[i]=D:=(ko.mp m).2;obtain⟨C,B,rfl,z,g⟩:=(show Rp K _ (.t [_,_]) x from A).aY;obtain⟨L,q1,rfl,N,g⟩:=g.inv;obtain⟨t2,M,rfl,G,g⟩:=g.inv;obtain rfl:=g.fE;refine⟨C,_,rfl,z,rfl,_,_,rfl,_,_,rfl,rfl,?_⟩;refine⟨_,rfl,⟨_,_,rfl⟩,rfl,?_⟩;rw[Lc q,nq,H];exact r.snoc G
 ·rintro e d j ⟨_,rfl,r⟩ p m;rw[l,Lv]at r;exact k p d m r
end
noncomputable def HG(d:M4)(y:Str):Bool:=(d.names.lookup y == some .local||d.names.lookup y == some .cell||d.names.lookup y == some .free)&&!(y == ("__debug__":Str))&&!(y == ("__classdict__":Str))
noncomputable abbrev Nm(N:List Str)(d:M4):Prop:=N.all (HG d)=true
noncomputable def HH(d:M4)(y:Str):Bool:=d.names.lookup y == some .local||d.names.lookup y == some .cell
noncomputable abbrev Lm(N:List Str)(d:M4):Prop:=N.all (HH d)=true
theorem Nm.get{N:List Str}{d:M4}(h:Nm N d){i:Nat}{x:Str}(e:N[i]?=some x):GW d x/\(x == ("__debug__":Str))=false/\(x == ("__classdict__":Str))=false:=by
 have z:=MG.mp h x (we e);unfold HG at z;simp only[Mj,PV,Bool.not_eq_true']at z;obtain⟨⟨z1,j⟩,g⟩:=z;refine⟨?_,j,g⟩;rcases z1 with(z1|z1)|z1
 ·exact Or.inl (NJ z1)
 ·exact Or.inr (Or.inl (NJ z1))
 ·exact Or.inr (Or.inr (NJ z1))
theorem Lm.get{N:List Str}{d:M4}(h:Lm N d){i:Nat}{x:Str}(e:N[i]?=some x):Loc d x:=by
 have z:=MG.mp h x (we e);unfold HH at z;simp only[PV]at z;rcases z with z|z
 ·exact Or.inl (NJ z)
 ·exact Or.inr (NJ z)
section
variable {X:Cx}
theorem va{x:Str}{e:Pos}(h:Nm X.N X.env.scope)(i:Nat)(d:X.N[i]?=some x:=by rfl):PE X (.Name x e) (nX i):=A8 d (h.get d).1 (h.get d).2.1 (h.get d).2.2
theorem sa{x:Str}{e:Expr}{j:TE}{g d:Pos}(m:X.N.Nodup)(h:Lm X.N X.env.scope)(i:Nat)(l:PE X e j)(hi:X.N[i]?=some x:=by rfl)(hs:Q5 e (some (.Name x d)) g.line X.env=pure false:=by kernel_rfl)
  (hf:X.fn x=true\/X.env.scope.names.lookup x=some .local:=by exact .inl rfl):PS X (.Assign [.Name x d] e g) (vG j (iD i)):=iK m hi (h.get hi) l hs hf
theorem ga{x:Str}{d:Pos}(g:X.N.Nodup)(h:Lm X.N X.env.scope)(i:Nat)(hi:X.N[i]?=some x:=by rfl)(e:X.fn x=true\/X.env.scope.names.lookup x=some .local:=by first|exact .inl rfl|exact .inr (by kernel_rfl)):PG X (.Name x d) (iD i):=iw g hi (h.get hi) e
end
section
variable {X:Cx}
theorem DM{y:Str}{M am:Pos}{gg:TG}{aj R tg:Expr}{ai:List Expr}{l:M4}{aq:Pos}{wi:TI}{g:TG}{tt:TT}{te:TE}(own:List Str)(fr:List Nat)(hc:X.calm=true)
  (hkind:l.kind=.function) (hcell:∀x∈l.names,x.2≠.cell) (hnames:∀x∈l.names,x.2=.local->l.names.lookup x.1=some .local)
  (hfr:∀x∈l.names,x.2=.free->X.env.scope.names.lookup x.1=some .cell\/X.env.scope.names.lookup x.1=some .free)
  (hin:∀j∈fr,l.names.lookup (X.N.getD j Lw)=some .free)
  (hi:PI X tg R wi) (hg:∀t C s H,PG (bT X l (own++fr.map fun j=>X.N.getD j Lw) t C s H) tg g)
  (ht:∀t C s H,Ak (bT X l (own++fr.map fun j=>X.N.getD j Lw) t C s H) ai tt)
  (he:∀t C s H,PE (bT X l (own++fr.map fun j=>X.N.getD j Lw) t C s H) aj te)
  (hgg:PG X (.Name y M) gg) (hsw:Q5 (.ListComp aj [⟨tg,R,ai,0⟩] l aq) (some (.Name y M)) am.line X.env=pure true)
  (hs:∀x,Oh R X.env x=pure x:=by intro _;rfl):PS X (.Assign [.Name y M] (.ListComp aj [⟨tg,R,ai,0⟩] l aq) am) (vG (yU own.length fr wi g tt te) gg):=by
 intro O s σ H D0 I h;rw[exec_Assign_Name_used _ _ _ _ hsw,arm_evalThenUse_ListComp];refine bB (Pk (bB (bB ?_)));have ae:∀x∈l.names,x.2=.free->∃c,X.env.cells.lookup x.1=some c:=fun x hx e=>I.ok.has x.1 (hfr x hx e);refine cO (QZ (use:=some (RW (.Name y M) X.env)) (Q:=fun _ s'=>SP X O D0 .next s') rfl hs (j7 ae) hkind hnames ?_) fun _ _ q=>my (my q);refine cO (hi O s σ H _ I h) fun v s1 h1=>cO h1 fun bm m h2=>?_;obtain⟨it,t,tn,J,Y,e,I2,T,ax,f2,W,⟨m0,w0⟩,al⟩:=h2;subst e;have a6:∀b∈t,b<m.heap.objs.size:=fun b L=>by obtain⟨o,e,_⟩:=T.obj 0 _ ax b L;exact vy e
 refine Mu (Px hcell (by intro y hy;simp at hy) (fun S P B=>?_) hkind);dsimp only at P B⊢;generalize hH2:m.heap.push {cls:=.type "list",dict:=none,data:=.seq ([]:List j3).toArray}=G2 at P B⊢;have hC:G2.objs.size=m.heap.objs.size+1:=by rw[←hH2,My]
 have ag:m.heap.objs.size≠G2.objs.size:=by rw[hC];exact Ls (Pe _)
 have G:m.heap.objs.size<=G2.objs.size:=by rw[hC];exact QL _
 have a0:∀b o,m.heap.get? b=some o->S.get? b=some o:=fun b o e=>B.extBut b o (by rw[hC];exact Ls (QM (vy e))) (mC _ (hH2▸mC _ e));have a7:S.PlainList m.heap.objs.size #[]:=⟨_,B.extBut _ _ ag (mC _ (hH2▸K9 _ rfl))⟩
 have I3:Inv (bT X l (own++fr.map fun j=>X.N.getD j Lw) t G2.objs.size m Y) [] (jO own.length fr σ) Y {m with heap:=S,toks:=m.toks+([]:List (Str×j3)).length} :=
  qZ I2 hkind hcell hfr hin G f2 a6 a0 P
 have ac:tn 0 S:=T.keep 0 _ _ ax fun b _ o e=>a0 b o e;have a9:m.heap.objs.size∉t:=fun hm=>LY _ (a6 _ hm);have a8:Y m.heap.objs.size=none:=I2.hok.fresh (lj _);have sub:∀y c,(b7 X.env l.names []).lookup y=some c->X.env.cells.lookup y=some c:=gy _ _ ae (by intro y c e;simp at e)
 have au:∀y c,(b7 X.env l.names []).lookup y=some c->c≠m.heap.objs.size:=fun y c e=>by
  obtain⟨_,o,ho,_⟩:=I2.cell y c (sub y c e);exact Ls (vy ho)
 have bk:m.heap.objs.size∉frs X.stack:=fun z=>by
  rcases ri.mp (I2.nF _ z)with e|e
  ·exact absurd I2.lt (by rw[←e];exact LY _)
  ·exact I2.A7 (lj _) e
 -- the iterator's records,in the block's context
 have ab:∀{H':Hp}{pl:List (Addr×Obj)},(∀b∈t,H' b=none)->(∀p∈pl,p.1=m.heap.objs.size)->∀b∈t,qv (bT X l (own++fr.map fun j=>X.N.getD j Lw) t G2.objs.size m Y) pl H' b:=fun{H' pl} hn U b L=>by
  refine⟨hn b L,(I3.ok.exf b L).1,I3.ok.exfs b L,.inl L,(I3.ok.exf b L).2,fun p bg z=>?_⟩;have a5:p∈pl:=by simpa[bT]using bg
  exact a9 (by rw[←U p a5,z];exact L)
 have ay:∀{aa:St}{H':Hp}{s':mu}{D:Array j3}{n:Nat},Inv (bT X l (own++fr.map fun j=>X.N.getD j Lw) t G2.objs.size m Y) [] aa H' s'->H' m.heap.objs.size=none->s'.heap.get? m.heap.objs.size=some {cls:=.type "list",data:=.seq D n} ->
   Inv (bT X l (own++fr.map fun j=>X.N.getD j Lw) t G2.objs.size m Y) [(m.heap.objs.size,{cls:=.type "list",data:=.seq D n})] aa H' s':=fun{aa H' s' D n} J hn e=>J.fL fun p U=>by
  have e':p=(m.heap.objs.size,{cls:=.type "list",data:=.seq D n}):=by simpa using U
  subst e';exact⟨e,hn,ag,bk,fun v z=>nomatch z⟩
 have an:OX (Lr X.prog X.w) X.A (.compLoop (.ListComp aj [⟨tg,R,ai,0⟩] l aq) 0 (.ref it) (.ref m.heap.objs.size) (compEnvC l (b7 X.env l.names []) G2.objs.size X.env))
   (compPost (Lr X.prog X.w) X.A X.xe (some (RW (.Name y M) X.env)) (fun _ s'=>SP X O D0 .next s') (.ref m.heap.objs.size) G2.objs.size) {m with heap:=S,toks:=m.toks+([]:List (Str×j3)).length}:=by
  refine iE (E:=fun _ _=>False) (fun n s'=>∃i aa H' vs D,Inv (bT X l (own++fr.map fun j=>X.N.getD j Lw) t G2.objs.size m Y) [] aa H' s'/\tn i s'.heap/\(∀b∈t,H' b=none)/\H' m.heap.objs.size=none/\s'.heap.PlainList m.heap.objs.size D/\Vals vs D.toList/\W i n aa vs H')
   ?_ (fun _ _ z=>z.elim) m0 ⟨0,_,Y,[],#[],I3,ac,fun b L=>(f2 b L).1,a8,a7,.nil,w0⟩
  rintro n s3 ⟨i,ah,H3,vs,D,J3,ac,ba,as,⟨pn,bc⟩,rv,w3⟩;have bb:=ay J3 as bc
  have V:∀p∈[(m.heap.objs.size,({cls:=.type "list",data:=.seq D pn}:Obj))],p.1=m.heap.objs.size:=fun p U=>by
   have e':p=(m.heap.objs.size,{cls:=.type "list",data:=.seq D pn}):=by simpa using U
   rw[e']
  rcases al i n ah vs H3 w3 with⟨stop,hz,q⟩|⟨go,hz,N,hN,step⟩
  ·refine cO (T.done (bT X l (own++fr.map fun j=>X.N.getD j Lw) t G2.objs.size m Y) rfl rfl rfl hc i _ s3 ah H3 (fun _ _=>False) bb (ab ba V) ac stop) fun r s4 ⟨hr,J4⟩=>?_;subst hr;obtain⟨m4,bh,_⟩:=id J4.loc;have e4:s4.heap.get? m.heap.objs.size=some {cls:=.type "list",data:=.seq D pn}:=(J4.pin (m.heap.objs.size,{cls:=.type "list",data:=.seq D pn}) (FT _ (by simp))).1;obtain⟨oC,es,ep,eC,dC,kC,fC⟩:=bh;have I4:Inv X O σ (upd H3 m.heap.objs.size (.lst vs)) s4:=q9 (h'':=s4.heap) I2 f2 J4 G (lj _) ag as ⟨pn,e4⟩ rv hz ⟨rfl,fun _ _=>rfl⟩;have cL:G2.objs.size≠X.env.locals:=fun z=>absurd I2.lt (by rw[←z];exact Pf.mpr G)
   have I5:Inv X (O++[(G2.objs.size,oC)]) σ (upd H3 m.heap.objs.size (.lst vs)) s4:=I4.fL fun p U=>by
    rcases Li.mp U with z|z
    ·exact I4.pin p (FT _ z)
    ·have z:p=(G2.objs.size,oC):=by simpa using z
     subst z;exact⟨eC,by rw[av ag.symm];exact J4.free,cL,I2.A7 G,fun v zv=>by rw[dC]at zv;cases zv⟩
   show La _ _ (RW (.Name y M) X.env (.ref m.heap.objs.size)) _ _ _;refine cO (hgg _ s4 σ _ (.ref m.heap.objs.size) _ _ I5 rfl (q _ as)) fun _ s5 ⟨aw,H5,I6,q6⟩=>?_;have pC:=I6.pin (G2.objs.size,oC) (FT _ (FT _ (by simp)));refine⟨m4,⟨oC,es,ep,pC.1,dC,kC,fC⟩,fun h' bf=>?_⟩;have I7:Inv X O aw H5 s5:=I6.fL fun p U=>I6.pin p (FT _ (LD _ U));refine⟨aw,H5,I7.turned (t':=s5.toks) (it:=G2.objs.size) (fun b o L e=>(bf.2 b L).trans e) pC.2.1 cL (.inr (I0 I2.sz G)) (fun x c e z=>?_) (fun p U z=>?_),q6⟩
   ·obtain⟨_,o,ho,_⟩:=I2.cell x c e;exact absurd (vy ho) (by rw[z];exact Pf.mpr G)
   ·exact absurd (vy (I2.pin p U).1) (by rw[z];exact Pf.mpr G)
  ·refine cO (T.item (bT X l (own++fr.map fun j=>X.N.getD j Lw) t G2.objs.size m Y) rfl rfl rfl hc i _ s3 ah H3 (fun _ _=>False) bb (ab ba V) ac go) fun r s4 ⟨u,hr,h4⟩=>?_;subst hr;refine cO h4 fun _ s5 ⟨x,H5,J5,r5,y5,ap,bi⟩=>?_;have bj:=J5.pinned (ab bi V) (T.obj _ _ ap);refine cO (hg t _ m Y _ s5 ah H5 x u _ bj r5 (step x H5 y5)) fun _ s6 ⟨Z,H6,J6,q6⟩=>?_;refine cO (ht t _ m Y _ s6 Z H6 _ J6 q6) fun ok s7 ⟨H7,J7,q7⟩=>?_
   -- what stood pinned through the al
   have after:∀{s8:mu}{H8:Hp},Inv (bT X l (own++fr.map fun j=>X.N.getD j Lw) t G2.objs.size m Y) ([(m.heap.objs.size,({cls:=.type "list",data:=.seq D pn}:Obj))]++pJ t s5.heap) Z H8 s8 ->
     tn (i+1) s8.heap/\(∀b∈t,H8 b=none)/\H8 m.heap.objs.size=none/\s8.heap.get? m.heap.objs.size=some {cls:=.type "list",data:=.seq D pn}:=fun{s8 H8} J8=>by
    refine⟨T.keep _ _ _ ap fun b L o e=>(J8.pin (b,o) (FT _ (FT _ (gZ L e)))).1,fun b L=>?_,?_,?_⟩
    ·obtain⟨o,e,d⟩:=T.obj _ _ ap b L;exact(J8.pin (b,o) (FT _ (FT _ (gZ L e)))).2.1
    ·exact(J8.pin (m.heap.objs.size,{cls:=.type "list",data:=.seq D pn}) (FT _ (LD _ (by simp)))).2.1
    ·exact(J8.pin (m.heap.objs.size,{cls:=.type "list",data:=.seq D pn}) (FT _ (LD _ (by simp)))).1
   cases ok with
   |false =>
    obtain⟨m',hm,w7⟩:=hN _ _ _ q7;obtain⟨a1,a2,a3,a4⟩:=after J7;exact⟨m',hm,i+1,Z,H7,vs,D,J7.fL (fun p U=>absurd U (by simp)),a1,a2,a3,⟨pn,a4⟩,rv,w7⟩
   |true =>
    refine cO (he t _ m Y _ s7 Z H7 _ J7 q7) fun y s8 ⟨v8,H8,J8,r8,n8⟩=>?_;obtain⟨m',hm,w8⟩:=hN _ _ _ n8;obtain⟨a1,a2,a3,a4⟩:=after J8;have J9:Inv (bT X l (own++fr.map fun j=>X.N.getD j Lw) t G2.objs.size m Y) [] Z H8 s8:=J8.fL (fun p U=>absurd U (by simp))
    have be:D.size<=nk:=by
     have e1:vs.length=D.toList.length:=rv.length;have e2:D.toList.length=D.size:=by simp
     omega
    refine Rb (hsz:=be) ⟨pn,a4⟩ fun bl ar ad=>?_
    refine⟨m',hm,i+1,Z,H8,vs++[v8],D.push y,J9.turned (t':=s8.toks) (it:=m.heap.objs.size) (fun b o L e=>by rw[ad.2 b L];exact e) a3 ag (.inr (lj _)) au (fun p U=>absurd (show p∈([]:List (Addr×Obj))from U) (by simp)),
     T.keep _ _ _ a1 fun b L o e=>(ad.2 b (fun z=>a9 (z▸L))).trans e,a2,a3,ar,?_,w8⟩
    have:Vals (vs++[v8]) (D.toList++[y]):=rv.append (.cons r8 .nil)
    simpa using this
 exact RD an (T.self X.A 0 _ _ _ ac an)
end
theorem BB{X:Cx}{y:Str}{m o:Pos}{gg:TG}{q l w:Expr}{p:List Expr}{d:M4}{r:Pos}{D:TI}{g:TG}{E:TT}{G:TE}(I:M4)(v own:List Str)(fr:List Nat)(O:X.calm=true)(B:X.env.scope=I)(P:X.N=v)
  (ok:uC d I v fr=true) (hi:PI X w l D) (hg:∀u C s H,PG (bT X d (own++fr.map fun j=>v.getD j Lw) u C s H) w g)
  (ht:∀u C s H,Ak (bT X d (own++fr.map fun j=>v.getD j Lw) u C s H) p E)
  (he:∀u C s H,PE (bT X d (own++fr.map fun j=>v.getD j Lw) u C s H) q G)
  (hgg:PG X (.Name y m) gg) (hsw:Q5 (.ListComp q [⟨w,l,p,0⟩] d r) (some (.Name y m)) o.line X.env=pure true:=by kernel_rfl)
  (hs:∀x,Oh l X.env x=pure x:=by intro _;rfl):PS X (.Assign [.Name y m] (.ListComp q [⟨w,l,p,0⟩] d r) o) (vG (yU own.length fr D g E G) gg):=by
 subst B P;unfold uC at ok;simp only[Mj,MG,bne_iff_ne,beq_iff_eq,PV]at ok;obtain⟨⟨L,A⟩,J⟩:=ok;refine DM own fr O L (fun x t=>(A x t).1.1) (fun x t e=>?_) (fun x t e=>?_) (fun j M=>J j M) hi hg ht he hgg hsw hs
 ·rcases(A x t).1.2 with z|z
  ·exact absurd e z
  ·exact z
 ·rcases(A x t).2 with(z|z)|z
  ·exact absurd e z
  ·exact .inl z
  ·exact .inr z
end L2
open Lean in
def r2:List Name:=[`ok,`at',`kp,`bd,`nv,`rfl,`z_len,`PySem.boot_len,`PySem.F.plainAttrs_list,`ao,`ak,`K,`iR,`PassesOwn.never,`az,`z_range]
open Lean in
def r3:List (Name × Name × Nat × List Nat):=[(`Z0,`jL,16,[1000,0,1,1001,1002,1003,2,204,101,3,4,4]),
 (`Z1,`cT,5,[100,101,4]),
 (`Z2,`sa,6,[100,101,102,103,4,5,6]),
 (`Z3,`iw,99,[100,101,205,7,8]),
 (`Z4,`Ad,9,[100,1,101,102,103,3,3,4,4]),
 (`Z5,`dS,9,[100,1,206,207,101,3,3,4,4]),
 (`Z6,`bV,5,[100,101]),
 (`Z7,`yR,12,[208,100,101,102,103,104,4,4,4,4,4]),
 (`Z9,`iO,99,[100,101,209,9]),
 (`Za,`fG,11,[100,101,102,103,205,205,205,10,104,105,11,106,12]),
 (`Zb,`cT,99,[100,210]),
 (`Zc,`fO,5,[13,211,205,205,100,4,4]),
 (`Zd,`lX,8,[100,101,212]),
 (`Ze,`dm,5,[100]),
 (`Zf,`eX,8,[100,101,102,14]),
 (`Zg,`cg,3,[100]),
 (`Zh,`aG,5,[100,101,4]),
 (`Zi,`BB,15,[100,101,102,103,205,205,205,10,104,105,106,107,108,5,12]),
 (`Zj,`Fe,8,[213,205,100,101,102,12]),
 (`Zk,`uB,99,[15,100,214,9]),
 (`Zl,`iO,7,[100,101,102,9]),
 (`Zm,`aX,8,[100,101,102]),
 (`Zn,`cB,4,[100]),
 (`Zo,`xE,6,[100,101,4,4,4]),
 (`Zp,`sY,6,[1,215,100,4]),
 (`Zq,`eX,99,[100,101,102,14])]
set_option hygiene false in
open Lean in
def r8:Nat->MacroM Term
 | 0=>`(hr.mono (by omega))
 | 1=>`(by show _=_;kernel_rfl)
 | 2=>`(.nil)
 | 3=>`(by decide)
 | 4=>`(by rfl)
 | 5=>`(by kernel_rfl)
 | 6=>`(by exact .inl rfl)
 | 7=>`(Or.inl (by kernel_rfl))
 | 8=>`(by first|exact .inl rfl|exact .inr (by kernel_rfl))
 | 9=>`(fun _ _=>rfl)
 | 10=>`(by decide +kernel)
 | 11=>`(fun _ _ _ _=>dW)
 | 12=>`(by intro _;rfl)
 | 13=>`(2)
 | 14=>`(nG _)
 | _=>`(jo hr)
open Lean in
def r4 (f:Name)(a:Array Term):MacroM Term:=do
 let some (_,n,k,c):=r3.find? (·.1==f) | Macro.throwUnsupported
 let b←c.mapM fun i=>do
  if i<100 then r8 i else if i<200 then return a.getD (i-100) ⟨.missing⟩ else if i<1000 then return mkIdent (r2.getD (i-200) .anonymous) else return mkIdent ((a.getD (i/1000-1) ⟨.missing⟩).raw.getId++r2.getD (i%1000) .anonymous)
 let b:=b.toArray
 if k==99 then `($(mkIdent n) $b*) else
 let h←`(_)
 let s:=Array.replicate k h
 `(@$(mkIdent n) $s* $b*)
local macro_rules|`($f:ident $a*)=>r4 f.getId (a.map fun x=>⟨x.raw⟩)
namespace G33
open PySem L2
noncomputable def top(i:Nat):Stmt:=PySem.Challenge.pw_gapwork_k33_programs_filled.main.body.getD i (.Pass ⟨0,0,0,0⟩)
noncomputable abbrev fh:Stmt:=top 5
noncomputable abbrev iF:Stmt:=top 9
noncomputable abbrev iG:Stmt:=top 10
noncomputable abbrev ku:Stmt:=top 11
noncomputable abbrev ie:Stmt:=top 12
noncomputable abbrev iy:Stmt:=top 13
noncomputable abbrev fj:Stmt:=top 14
noncomputable abbrev uF:Stmt:=top 15
noncomputable abbrev mY:Stmt:=top 16
noncomputable abbrev bQ:Stmt:=top 17
noncomputable abbrev nJ:Stmt:=top 19
noncomputable abbrev jt:Stmt:=top 21
noncomputable abbrev cS:Stmt:=top 22
noncomputable abbrev jv:Stmt:=top 23
noncomputable abbrev kA:Stmt:=top 24
noncomputable abbrev rB:Stmt:=top 26
noncomputable abbrev rC:Stmt:=top 27
noncomputable abbrev cI:Stmt:=top 28
noncomputable abbrev jw:Stmt:=top 29
noncomputable abbrev fq:Stmt:=top 30
noncomputable abbrev jb:Stmt:=top 31
noncomputable abbrev iH:Stmt:=top 32
noncomputable abbrev fQ:Stmt:=top 33
noncomputable abbrev kB:Stmt:=top 34
noncomputable abbrev ig:Stmt:=top 35
noncomputable abbrev jx:Stmt:=top 36
noncomputable abbrev cZ:Stmt:=top 37
noncomputable abbrev gJ:Stmt:=top 38
noncomputable abbrev kD:Stmt:=top 39
noncomputable abbrev mq:Stmt:=top 40
noncomputable abbrev lC:Stmt:=top 41
noncomputable abbrev cF:Stmt:=top 42
noncomputable abbrev iI:Stmt:=top 43
noncomputable abbrev mw:Stmt:=top 44
noncomputable abbrev gM:Stmt:=top 45
noncomputable abbrev kE:Stmt:=top 46
noncomputable abbrev kH:Stmt:=top 47
noncomputable abbrev mZ:Stmt:=top 48
noncomputable abbrev dX:Stmt:=top 49
noncomputable abbrev jQ:Stmt:=top 50
noncomputable abbrev kI:Stmt:=top 51
noncomputable abbrev fu:Stmt:=top 52
noncomputable abbrev fH:Stmt:=top 53
noncomputable abbrev qh:Stmt:=top 54
section
variable {P:FG}{w:Lk}{K:bA}{mg:Str->Option j3}{base:Heap}
theorem yc:aI ["_law_feed_here","_law_many","_law_digit","_law_one"] ["_law_feed_here","_law_many"] (aj rC):=⟨rfl,rfl,rfl,by decide +kernel,rfl,by decide +kernel,by decide +kernel⟩
theorem DN{f:Addr}{t:zo}(F:gX K "_law_take" "_law_take" rC f t):bK P w K mg base eL 1 f t ["_law_feed_here","_law_many"] eJ:=by
 refine F.ok yc (fun u H Q E h=>?_) (fun y A r s H u Q E hr h=>?_)
 ·obtain⟨a,m,rfl,_⟩:=h;rfl
 obtain⟨a,m,rfl,g,v,⟨p,q,d⟩,k⟩:=h
 refine⟨_,bV (lX (Zq nu (Z9 aW (pv 0)) ao)
   (bV (iK (i:=2) yc.nd rfl (Or.inl rfl) (aX hU (Z9 aW (pv 0)) (pv 1)))
   (bV (xE (aX jK (Z9 aW (pv 0)) (pv 1)) (uo (pv 0) ao set_list))
   (cg (cB (pv 2))))) iR)
  (bV (iK (i:=3) yc.nd rfl (Or.inl rfl) (aX hU (aX jf (Z9 aW (pv 0)) ao) ao))
  (bV (xE (aX cR (aX hU (aX cR (aX jf (pv 3) ao) ao) ao) ao) (uo (pv 0) ao set_list))
  (cg (cB (aX hU (aX jK (aX cR (aX jf (pv 3) ao) (Z9 aW (pv 0))) ao) (pv 1)))))),?_⟩
 have ext:∀l j:Int,Ext a H (upd H a (.lst [.int l,.int j])):=fun l j=>⟨fun b o n e=>by rw[av n];exact e,l,j,af⟩;refine⟨_,rfl,a,_,0,_,rfl,rfl,bz.of d,rfl,_,_,rfl,rfl,_,rfl,?_⟩;refine cH (fun _=>?_) (fun _=>?_)
 ·refine⟨_,rfl,a,_,0,_,rfl,rfl,bz.of d,rfl,_,rfl,_,_,rfl,rfl,g,?_⟩;refine⟨_,rfl,a,_,0,_,rfl,rfl,bz.of d,rfl,_,rfl,_,_,rfl,rfl,⟨g,v⟩,?_⟩;refine⟨_,rfl,a,_,0,0,rfl,rfl,d,rfl,?_⟩;refine⟨_,rfl,?_⟩;exact k _ _ (RM _ (by omega)) (Qq _ g) (ext _ _)
 ·refine⟨_,rfl,a,_,1,_,rfl,rfl,bz.of d,rfl,_,_,rfl,rfl,.inr ⟨by decide,by decide⟩,_,_,rfl,rfl,(by show(0:Int)<2147483647;decide),?_⟩;refine⟨_,rfl,_,_,rfl,rfl,.inr ⟨by decide,by decide⟩,_,_,rfl,rfl,_,_,rfl,rfl,(by show(0:Int)<2147483399;decide),_,_,rfl,rfl,?_⟩;refine⟨_,rfl,a,_,1,1,rfl,rfl,d,rfl,?_⟩;refine⟨_,rfl,_,_,rfl,rfl,.inr ⟨by decide,by decide⟩,_,rfl,a,_,1,_,rfl,rfl,bz.of af,rfl,_,_,rfl,rfl,_,_,rfl,rfl,⟨by decide,by decide⟩,_,rfl,_,_,rfl,rfl,g,?_⟩;exact k _ _ (RM _ (by omega)) (Qq _ g) (ext _ _)
end
section
variable {P:FG}{w:Lk}{K:bA}{mg:Str->Option j3}{base:Heap}
theorem pQ:aI ["_law_script","_law_k","_law_cell","_law_own"] ["_law_script","_law_k"] (aj rB):=⟨rfl,rfl,rfl,by decide +kernel,rfl,by decide +kernel,by decide +kernel⟩
theorem DO{f:Addr}{t:zo}(F:gX K "_law_feed" "_law_feed" rB f t)(p:mg "len"=none):bK P w K mg base eL 1 f t ["_law_script","_law_k"] (xY K):=by
 refine F.ok pQ (fun y H Q E h=>?_) (fun C A o s H y Q E hr h=>?_)
 ·obtain⟨a,ns,m,rfl,_⟩:=h;rfl
 obtain⟨a,ns,k,rfl,j,G,z,D,g⟩:=h
 refine⟨_,bV (iK (i:=2) pQ.nd rfl (Or.inl rfl) (aX cR (aX jf ao (pv 1)) ao))
  (bV (lX (Zq lY (pv 1) (dS aB (by rfl) p R0 (aE (pv 0) ak)))
   (cg (iK (i:=2) pQ.nd rfl (Or.inl rfl) (iO aW (pv 0) (pv 1) (fun _ _=>rfl))))
   (cg (lX (Zq nu (dS aB (by rfl) p R0 (aE (pv 0) ak)) ao)
    (cg (iK (i:=2) pQ.nd rfl (Or.inl rfl) (aX cR (aX jf (aX hU (iO aW (pv 0) (aX hU (pv 1) (dS aB (by rfl) p R0 (aE (pv 0) ak))) (fun _ _=>rfl)) ao) ao) (aX jf ao (pv 1)))))
    iR)))
  (bV (iK (i:=3) pQ.nd rfl (Or.inl rfl) ao)
  (bV (lX (Zq G9 (pv 2) (aX Fj ao ao)) (cg (iK (i:=3) pQ.nd rfl (Or.inl rfl) (pv 2))) iR)
  (cg (cB (bg (aE (pv 3) (aE (aX cR (aX hU (aX cR (aX jf (aX hU (pv 2) ao) ao) (aX jf ao (pv 1))) ao) ao) ak)))))))),?_⟩
 have e:(ns.map V.int).length=ns.length:=bC _;refine⟨_,rfl,_,_,rfl,rfl,.inl ⟨by decide,by decide⟩,_,_,rfl,rfl,?_⟩;refine⟨_,rfl,_,rfl,a,_,rfl,.inl j,_,_,rfl,rfl,_,rfl,?_⟩;refine cH (fun c=>?_) (fun c=>?_)
 ·have u:k<((ns.map V.int).length:Int):=of_decide_eq_true c;rw[e]at u;obtain⟨v,q⟩:=zb (ns:=ns) z u;refine⟨_,rfl,_,rfl,a,_,_,_,rfl,rfl,j,q,?_⟩;refine⟨_,rfl,_,_,rfl,rfl,⟨by decide,by decide,by decide⟩,_,_,rfl,rfl,_,rfl,cH (fun _=>?_) (fun _=>?_)⟩
  ·refine⟨_,rfl,_,rfl,_,rfl,_,_,rfl,rfl,(by show(0:Int)<2147483629;decide),_,_,rfl,rfl,.inr ⟨by decide,by decide⟩,_,rfl,_,_,rfl,rfl,.inl ⟨by decide,by decide⟩,_,_,rfl,rfl,_,_,rfl,rfl,(by show(0:Int)<2147483629;decide),_,_,rfl,rfl,(by show 2<=nk;decide),fun l e=>?_⟩;exact g l _ (ae e _) e ⟨_,_,af⟩
  ·refine⟨_,rfl,_,rfl,_,_,rfl,rfl,(by show(0:Int)<2147483629;decide),_,_,rfl,rfl,.inr ⟨by decide,by decide⟩,_,rfl,_,_,rfl,rfl,.inl ⟨by decide,by decide⟩,_,_,rfl,rfl,_,_,rfl,rfl,(by show(0:Int)<2147483629;decide),_,_,rfl,rfl,(by show 2<=nk;decide),fun l e=>?_⟩;exact g l _ (ae e _) e ⟨_,_,af⟩
 ·refine⟨_,rfl,a,_,rfl,.inl j,_,_,rfl,rfl,_,rfl,?_⟩;refine cH (fun d=>?_) (fun d=>?_)
  ·have r:(0:Int)<((ns.map V.int).length:Int):=of_decide_eq_true d;have B:(0:Int)<(ns.length:Int):=by rw[e]at r;exact r
   obtain⟨v,q⟩:=zb (ns:=ns) (k:=k % (((ns.map V.int).length:Nat):Int)) (RM _ (by omega)) (by rw[e];exact Qq _ B);refine⟨_,rfl,_,rfl,_,rfl,a,_,rfl,.inl j,_,_,rfl,rfl,r,a,_,_,_,rfl,rfl,j,q,_,_,rfl,rfl,(by show(0:Int)<2147483629;decide),_,_,rfl,rfl,.inr ⟨by decide,by decide⟩,_,rfl,_,_,rfl,rfl,.inl ⟨by decide,by decide⟩,_,_,rfl,rfl,?_⟩;refine⟨_,rfl,_,_,rfl,rfl,⟨by decide,by decide,by decide⟩,_,_,rfl,rfl,_,rfl,cH (fun _=>?_) (fun _=>?_)⟩
   ·refine⟨_,rfl,_,rfl,_,rfl,_,_,rfl,rfl,(by show(0:Int)<2147483629;decide),_,_,rfl,rfl,.inr ⟨by decide,by decide⟩,_,rfl,_,_,rfl,rfl,.inl ⟨by decide,by decide⟩,_,_,rfl,rfl,_,_,rfl,rfl,(by show(0:Int)<2147483629;decide),_,_,rfl,rfl,(by show 2<=nk;decide),fun l e=>?_⟩;exact g l _ (ae e _) e ⟨_,_,af⟩
   ·refine⟨_,rfl,_,rfl,_,_,rfl,rfl,(by show(0:Int)<2147483629;decide),_,_,rfl,rfl,.inr ⟨by decide,by decide⟩,_,rfl,_,_,rfl,rfl,.inl ⟨by decide,by decide⟩,_,_,rfl,rfl,_,_,rfl,rfl,(by show(0:Int)<2147483629;decide),_,_,rfl,rfl,(by show 2<=nk;decide),fun l e=>?_⟩;exact g l _ (ae e _) e ⟨_,_,af⟩
  ·refine⟨_,rfl,_,_,rfl,rfl,⟨by decide,by decide,by decide⟩,_,_,rfl,rfl,_,rfl,cH (fun _=>?_) (fun _=>?_)⟩
   ·refine⟨_,rfl,_,rfl,_,rfl,_,_,rfl,rfl,(by show(0:Int)<2147483629;decide),_,_,rfl,rfl,.inr ⟨by decide,by decide⟩,_,rfl,_,_,rfl,rfl,.inl ⟨by decide,by decide⟩,_,_,rfl,rfl,_,_,rfl,rfl,(by show(0:Int)<2147483629;decide),_,_,rfl,rfl,(by show 2<=nk;decide),fun l e=>?_⟩;exact g l _ (ae e _) e ⟨_,_,af⟩
   ·refine⟨_,rfl,_,rfl,_,_,rfl,rfl,(by show(0:Int)<2147483629;decide),_,_,rfl,rfl,.inr ⟨by decide,by decide⟩,_,rfl,_,_,rfl,rfl,.inl ⟨by decide,by decide⟩,_,_,rfl,rfl,_,_,rfl,rfl,(by show(0:Int)<2147483629;decide),_,_,rfl,rfl,(by show 2<=nk;decide),fun l e=>?_⟩;exact g l _ (ae e _) e ⟨_,_,af⟩
end
end G33
namespace L2
open PySem
theorem rD{f:Str}{v:V}{n:Nat}(k:Nat):∀{fs:List (Str×V)},fs.length+(k+1)<n->(Dr f v fs).length+k<n
 | [],h=>by show 1+k<n;simp at h;omega
 |(g,x)::r,h=>by
  unfold Dr
  split
  ·rw[Lu]at h⊢;omega
  ·rw[Lu]at h⊢;have:=rD (f:=f) (v:=v) (n:=n) (k+1) (fs:=r) (by omega);omega
theorem BC{f:Str}{v:V}{n:Nat}{fs:List (Str×V)}(h:fs.length+1<n):(Dr f v fs).length<n:=rD 0 h
theorem bM{m:xD}{P:FG}{w:Lk}{K:bA}{mg:Str->Option j3}{e:Heap}{N:List Str}{l:Str}{j:M4}{f:Addr}{g:j3}{A:Lz}{d:List PySem.Env}{s:mu}{H:Hp}{E:XK}:(uq m P w K mg e N l j f g A d s H E).A9.K=K:=rfl
noncomputable def Cut(b:TS)(D:Ends)(N:St->Hp->Prop):Prop:=∀d H,b D d H->N d H
theorem Cut.go{b:TS}{D:Ends}{N:St->Hp->Prop}{d:St}{H:Hp}(h:Cut b D N)(g:b D d H):N d H:=h d H g
theorem zc{a b:TS}{D:Ends}{d:St}{H:Hp}(h:∀N:St->Hp->Prop,Cut b D N->a (D.wn N) d H):aJ a b D d H:=h (b D) (fun _ _ x=>x)
theorem DP{D:Ends}{d:St}{H:Hp}(h:D.nx d H):Ey D d H:=h
theorem DQ{D:Ends}{d:St}{H:Hp}{v:V}{i:Nat}(h:D.nx (d.set i (some v)) H):vG (tC v) (iD i) D d H:=h
theorem oF{e t1 t2:TS}{D:Ends}{d:St}{H:Hp}(h:∀j g:St->Hp->Prop,Cut t1 (D.wn g) j->Cut t2 D g->e (D.wn j) d H):aJ e (aJ t1 t2) D d H:=h (aJ t1 t2 D) (t2 D) (fun _ _ x=>x) (fun _ _ x=>x)
theorem mz{e t1 t2 t3:TS}{D:Ends}{d:St}{H:Hp}(h:∀l j g:St->Hp->Prop,Cut t1 (D.wn j) l->Cut t2 (D.wn g) j->Cut t3 D g->e (D.wn l) d H):aJ e (aJ t1 (aJ t2 t3)) D d H:=h (aJ t1 (aJ t2 t3) D) (aJ t2 t3 D) (t3 D) (fun _ _ x=>x) (fun _ _ x=>x) (fun _ _ x=>x)
theorem jy{e t1 t2 t3 t4:TS}{D:Ends}{d:St}{H:Hp}(h:∀m l j g:St->Hp->Prop,Cut t1 (D.wn l) m->Cut t2 (D.wn j) l->Cut t3 (D.wn g) j->Cut t4 D g->e (D.wn m) d H):aJ e (aJ t1 (aJ t2 (aJ t3 t4))) D d H:=h (aJ t1 (aJ t2 (aJ t3 t4)) D) (aJ t2 (aJ t3 t4) D) (aJ t3 t4 D) (t4 D) (fun _ _ x=>x) (fun _ _ x=>x) (fun _ _ x=>x) (fun _ _ x=>x)
theorem oG{g t1 t2 t3 t4 d:TS}{D:Ends}{e:St}{H:Hp}(h:∀p o m l j:St->Hp->Prop,Cut t1 (D.wn o) p->Cut t2 (D.wn m) o->Cut t3 (D.wn l) m->Cut t4 (D.wn j) l->Cut d D j->g (D.wn p) e H):aJ g (aJ t1 (aJ t2 (aJ t3 (aJ t4 d)))) D e H:=h (aJ t1 (aJ t2 (aJ t3 (aJ t4 d))) D) (aJ t2 (aJ t3 (aJ t4 d)) D) (aJ t3 (aJ t4 d) D) (aJ t4 d D) (d D) (fun _ _ x=>x) (fun _ _ x=>x) (fun _ _ x=>x) (fun _ _ x=>x) (fun _ _ x=>x)
theorem BE{j t1 t2 t3 t4 e d:TS}{D:Ends}{g:St}{H:Hp}(h:∀r q p o m l:St->Hp->Prop,Cut t1 (D.wn q) r->Cut t2 (D.wn p) q->Cut t3 (D.wn o) p->Cut t4 (D.wn m) o->Cut e (D.wn l) m->Cut d D l->j (D.wn r) g H):aJ j (aJ t1 (aJ t2 (aJ t3 (aJ t4 (aJ e d))))) D g H:=h (aJ t1 (aJ t2 (aJ t3 (aJ t4 (aJ e d)))) D) (aJ t2 (aJ t3 (aJ t4 (aJ e d))) D) (aJ t3 (aJ t4 (aJ e d)) D) (aJ t4 (aJ e d) D) (aJ e d D) (d D) (fun _ _ x=>x) (fun _ _ x=>x) (fun _ _ x=>x) (fun _ _ x=>x) (fun _ _ x=>x) (fun _ _ x=>x)
theorem vW{l t1 t2 t3 t4 g e d:TS}{D:Ends}{j:St}{H:Hp}(h:∀u t r q p o m:St->Hp->Prop,Cut t1 (D.wn t) u->Cut t2 (D.wn r) t->Cut t3 (D.wn q) r->Cut t4 (D.wn p) q->Cut g (D.wn o) p->Cut e (D.wn m) o->Cut d D m->l (D.wn u) j H):aJ l (aJ t1 (aJ t2 (aJ t3 (aJ t4 (aJ g (aJ e d)))))) D j H:=h (aJ t1 (aJ t2 (aJ t3 (aJ t4 (aJ g (aJ e d))))) D) (aJ t2 (aJ t3 (aJ t4 (aJ g (aJ e d)))) D) (aJ t3 (aJ t4 (aJ g (aJ e d))) D) (aJ t4 (aJ g (aJ e d)) D) (aJ g (aJ e d) D) (aJ e d D) (d D) (fun _ _ x=>x) (fun _ _ x=>x) (fun _ _ x=>x) (fun _ _ x=>x) (fun _ _ x=>x) (fun _ _ x=>x) (fun _ _ x=>x)
theorem vX{m t1 t2 t3 t4 j g e d:TS}{D:Ends}{l:St}{H:Hp}(h:∀w v u t r q p o:St->Hp->Prop,Cut t1 (D.wn v) w->Cut t2 (D.wn u) v->Cut t3 (D.wn t) u->Cut t4 (D.wn r) t->Cut j (D.wn q) r->Cut g (D.wn p) q->Cut e (D.wn o) p->Cut d D o->m (D.wn w) l H):aJ m (aJ t1 (aJ t2 (aJ t3 (aJ t4 (aJ j (aJ g (aJ e d))))))) D l H:=h (aJ t1 (aJ t2 (aJ t3 (aJ t4 (aJ j (aJ g (aJ e d)))))) D) (aJ t2 (aJ t3 (aJ t4 (aJ j (aJ g (aJ e d))))) D) (aJ t3 (aJ t4 (aJ j (aJ g (aJ e d)))) D) (aJ t4 (aJ j (aJ g (aJ e d))) D) (aJ j (aJ g (aJ e d)) D) (aJ g (aJ e d) D) (aJ e d D) (d D) (fun _ _ x=>x) (fun _ _ x=>x) (fun _ _ x=>x) (fun _ _ x=>x) (fun _ _ x=>x) (fun _ _ x=>x) (fun _ _ x=>x) (fun _ _ x=>x)
theorem KN{e d:Type}{p:e->d->Prop}(a:e)(b:d)(h:p a b):∃a b,p a b:=⟨a,b,h⟩
theorem KQ{g e d:Type}{p:g->e->d->Prop}(a:g)(b:e)(c:d)(h:p a b c):∃a b c,p a b c:=⟨a,b,c,h⟩
theorem KR{l j g e:Type}{p:l->j->g->e->Prop}(a:l)(b:j)(c:g)(d:e)(h:p a b c d):∃a b c d,p a b c d:=⟨a,b,c,d,h⟩
theorem KS{q o m l j g:Type}{p:q->o->m->l->j->g->Prop}(a:q)(b:o)(c:m)(d:l)(e:j)(f:g)(h:p a b c d e f):∃a b c d e f,p a b c d e f:=⟨a,b,c,d,e,f,h⟩
theorem KU{w v u t r q o m l:Type}{p:w->v->u->t->r->q->o->m->l->Prop}(a:w)(b:v)(c:u)(d:t)(e:r)(f:q)(g:o)(i:m)(j:l)(h:p a b c d e f g i j):∃a b c d e f g i j,p a b c d e f g i j:=⟨a,b,c,d,e,f,g,i,j,h⟩
theorem IG{d:Nat}:T.dB []<=d:=by rw[T.dB];exact Ld _
theorem FO{x:T}{xs:List T}{d:Nat}(h:x.dep<=d)(r:T.dB xs<=d):T.dB (x::xs)<=d:=by rw[T.dB];exact Nat.max_le.mpr ⟨h,r⟩
theorem II{xs:List T}{d:Nat}(h:T.dB xs<=d):T.dep (.t xs)<=d+1:=by rw[T.dep];exact Q9 h
theorem EI{x:Str}{d:Nat}:T.dep (.s x)<=d:=by simp[T.dep]
theorem JM{x:Int}{d:Nat}:T.dep (.i x)<=d:=by simp[T.dep]
end L2
open L2 in
local macro_rules | `(tactic| fail "Z") => `(tactic| first | exact bz.of (by first | assumption | exact af) | exact bN.of (by first | assumption | exact af) | omega | (dsimp only [List.length_cons, List.length_nil]; decide) | decide | exact Nat.zero_le _ | (refine BC ?_; (repeat with_reducible refine rD _ ?_); decide))
open L2 in
local macro_rules | `(tactic| fail "S") => `(tactic| first
  | ((with_reducible change @Eq _ _ _); (first | exact rfl | assumption | exact af | (rw [av (by assumption)]; first | exact af | assumption | (rw [av (by assumption)]; first | exact af | assumption)) | omega))
  | ((with_reducible first | change @LT.lt _ _ _ _ | change @LE.le _ _ _ _); (first | omega | with_reducible assumption | fail "Z"))
  | assumption
  | ((with_reducible refine And.intro ?_ ?_) <;> fail "S")
  | ((with_reducible refine Or.inl ?_); fail "S")
  | ((with_reducible refine Or.inr ?_); fail "S")
  | ((with_reducible apply Exists.intro); fail "S")
  | ((with_reducible first | change ID _ _ _ _ | change Fl _ _ _ _ | change G6 _ _ | change Dq _ _ | change G7 _ _); first | ((first | refine (?_ : @Eq _ _ _) | refine (?_ : And _ _) | refine (?_ : Or _ _) | refine (?_ : Exists _)); fail "S") | exact True.intro)
  | fail "Z")
open L2 in
local macro_rules | `(tactic| fail "T") => `(tactic| first
  | ((with_reducible first | refine vX ?_ | refine BE ?_ | refine oG ?_ | refine jy ?_ | refine mz ?_ | refine oF ?_ | refine zc ?_); intros)
  | (refine (?_ : Exists _); first
     | with_reducible first | apply @Exists.intro Hp | apply @Exists.intro Sp
     | ((fail_if_success (with_reducible apply @Exists.intro (_ → _))); (with_reducible first | apply KU | apply KS | apply KR | apply KQ | apply KN | apply Exists.intro)))
  | (refine And.intro ?_ ?_; fail "S")
  | ((try with_reducible first | refine DP ?_ | refine DQ ?_); refine (by with_reducible assumption : Cut _ _ _) _ _ ?_))
local macro_rules | `(tactic| fail "R") => `(tactic| first | (fail "T"; fail "R") | refine And.intro ?_ ?_ | refine (?_ : @ite _ _ _ _ _) | skip)
local macro_rules | `(tactic| fail "F") => `(tactic| first | ((with_reducible apply Exists.intro); fail "F") | ((with_reducible refine And.intro ?_ ?_); fail "S"))
local macro_rules | `(tactic| fail "O") => `(tactic| first | (fail "T"; fail "O") | refine And.intro ?_ ?_ | ((first | (refine Or.inl ?_; fail "F") | (refine Or.inr ?_; fail "F")); fail "O") | refine (?_ : @ite _ _ _ _ _) | skip)
open L2 in
local macro_rules | `(tactic| fail "D") => `(tactic| repeat' first | exact IG | exact EI | exact JM | assumption | exact Nat.le_trans (by assumption) (by decide) | refine II ?_ | refine FO ?_ ?_)
namespace G33
open PySem L2
noncomputable def placesOf:List (Str×List Nat):=[("num",[]),("name",[]),("gap",[]),("op",[2,3]),("more",[1,2]),("first",[1]),("others",[1]),("long",[1]),("if",[1,2,3])]
noncomputable def pS:List (Str×V):=[("row",.int 1),("tag",.int 2),("call",.int 2)]
structure FP(K:bA) (w:Lk) (mg:Str->Option j3) (dP dM:Addr) (pl:List (Str×V)):Prop where
 mP:mg "PLACES"=some (.ref dP)
 mM:mg "PLACE_OF_MANY"=some (.ref dM)
 kP:KD K w dP pl
 kM:KD K w dM pS
 at_:∀f ps,(f,ps)∈placesOf->∃a,pl.lookup f=some (.ref a)/\∀H,bN K H a (ps.map fun(j:Nat)=>V.int (j:Int))
noncomputable def tP(K:bA):Sp:=fun j H Q _=>∃(v:V) (d:Tm),j=[v]/\Rp K H (enc d) v/\Wf d/\d.ks.length<=900 /\
 ∀(p:Addr) (e:Hp) (g:List V),aF H e->e p=some (.lst g)->bI K e ((right d).map qg) g->Q (.ref p) e
theorem tQ:∀ks:List Tm,((LB ks.length ([]:List Str)).zip ks).map qg=(ks.map enc).map fun k=>.t [.t [],k]
 | []=>rfl
 |k::r=>by rw[Lu,M9,Nq,Lh,Lh,Lh,tQ r];rfl
theorem qi{h:Hd}{ks:List Tm}(e:bnd h ks.length=LB ks.length []):(right (.mk h ks)).map qg=(ks.map enc).map fun k=>.t [.t [],k]:=by
 unfold right;show((bnd h ks.length).zip ks).map qg=_;rw[e];exact tQ ks
theorem vY:∀(arms:List (Str×List Str)) (d:List Tm),arms.length=d.length->((arms.map (·.2)).zip d).map qg=LK (fun(a:Str×List Str) k=>T.t [.t (a.2.map .s),k]) arms (d.map enc)
 | [],d,h=>rfl
 |x::r,[],h=>rfl
 |x::r,y::q,h=>by rw[Lh,Nq,Lh,Lh,NT,vY r q (by simpa using h)];rfl
theorem uG{d:Type}(v:d)(q:List d):jM (v::q) 0=some v:=bD (j:=0) rfl
theorem l1{d:Type}:∀{xs:List d},xs.length=1->∃a,xs=[a]
 | [a],_=>⟨a,rfl⟩
theorem l2{d:Type}:∀{xs:List d},xs.length=2->∃a b,xs=[a,b]
 | [a,b],_=>⟨a,b,rfl⟩
theorem l3{d:Type}:∀{xs:List d},xs.length=3->∃a b c,xs=[a,b,c]
 | [a,b,c],_=>⟨a,b,c,rfl⟩
theorem vv{a b:Str}(h:a≠b):decide (V.str a=V.str b)=false:=decide_eq_false fun z=>h (V.str.inj z)
theorem vZ:∀p∈placesOf,p.1≠"match"/\p.1≠"let"/\p.1≠"fold"/\(Pw p.1 pS).isSome=false:=by decide +kernel
theorem Ar{d:Str}{ps:List Nat}(hm:(d,ps)∈placesOf):ps.length<=1000:=(show ∀p∈placesOf,p.2.length<=1000 by decide +kernel) _ hm
theorem zd:∀p∈([("row",1),("tag",2),("call",2)]:List (Str×Nat)),p.1≠"match"/\p.1≠"let"/\p.1≠"fold"/\pS.lookup p.1=some (.int (p.2:Int)):=by decide +kernel
noncomputable def FQ(hd:Hd)(ks:List Tm):Prop:=∃(d:Str) (r:List T) (e:List Nat),(d,e)∈placesOf/\kZ hd (ks.map enc)=.t (.s d::r)/\e.map (fun(j:Nat)=>(T.s d::r)[j]?)=(ks.map enc).map some/\bnd hd ks.length=LB ks.length []
noncomputable def HJ(hd:Hd)(ks:List Tm):Prop:=∃(d:Str) (r:List T) (j:Nat),(d,j)∈([("row",1),("tag",2),("call",2)]:List (Str×Nat))/\kZ hd (ks.map enc)=.t (.s d::r)/\(T.s d::r)[j]?=some (.t (ks.map enc))/\bnd hd ks.length=LB ks.length []
theorem DR {hd : Hd} {ks : List Tm} (d : cM hd ks.length = true) : FQ hd ks ∨ HJ hd ks ∨ (∃ arms, hd = .mat arms) ∨ (∃ x, hd = .lt x) ∨ ∃ x y, hd = .fold x y := by
  cases hd
  case num n => obtain rfl : ks = [] := by simpa [cM] using d
                exact .inl ⟨"num", [.i n], [], by decide +kernel, rfl, rfl, rfl⟩
  case name x => obtain rfl : ks = [] := by simpa [cM] using d
                 exact .inl ⟨"name", [.s x], [], by decide +kernel, rfl, rfl, rfl⟩
  case gap n => obtain rfl : ks = [] := by simpa [cM] using d
                exact .inl ⟨"gap", [.i n], [], by decide +kernel, rfl, rfl, rfl⟩
  case op s => obtain ⟨a, b, rfl⟩ := l2 (show ks.length = 2 by simpa [cM] using d)
               exact .inl ⟨"op", [.s s, enc a, enc b], [2, 3], by decide +kernel, rfl, rfl, rfl⟩
  case more => obtain ⟨a, b, rfl⟩ := l2 (show ks.length = 2 by simpa [cM] using d)
               exact .inl ⟨"more", [enc a, enc b], [1, 2], by decide +kernel, rfl, rfl, rfl⟩
  case first => obtain ⟨a, rfl⟩ := l1 (show ks.length = 1 by simpa [cM] using d)
                exact .inl ⟨"first", [enc a], [1], by decide +kernel, rfl, rfl, rfl⟩
  case others => obtain ⟨a, rfl⟩ := l1 (show ks.length = 1 by simpa [cM] using d)
                 exact .inl ⟨"others", [enc a], [1], by decide +kernel, rfl, rfl, rfl⟩
  case long => obtain ⟨a, rfl⟩ := l1 (show ks.length = 1 by simpa [cM] using d)
               exact .inl ⟨"long", [enc a], [1], by decide +kernel, rfl, rfl, rfl⟩
  case ife => obtain ⟨a, b, c, rfl⟩ := l3 (show ks.length = 3 by simpa [cM] using d)
              exact .inl ⟨"if", [enc a, enc b, enc c], [1, 2, 3], by decide +kernel, rfl, rfl, rfl⟩
  case row => exact .inr (.inl ⟨"row", [.t (ks.map enc)], 1, by decide +kernel, rfl, rfl, rfl⟩)
  case tag t => exact .inr (.inl ⟨"tag", [.s t, .t (ks.map enc)], 2, by decide +kernel, rfl, rfl, rfl⟩)
  case call t => exact .inr (.inl ⟨"call", [.s t, .t (ks.map enc)], 2, by decide +kernel, rfl, rfl, rfl⟩)
  case mat arms => exact .inr (.inr (.inl ⟨_, rfl⟩))
  case lt x => exact .inr (.inr (.inr (.inl ⟨_, rfl⟩)))
  case fold x y => exact .inr (.inr (.inr (.inr ⟨_, _, rfl⟩)))
section
variable {P:FG}{w:Lk}{K:bA}{mg:Str->Option j3}{base:Heap}{dP dM:Addr}{pl:List (Str×V)}
theorem tR:aI ["term","form"] ["term"] (aj ie):=⟨rfl,rfl,rfl,by decide +kernel,rfl,by decide +kernel,by decide +kernel⟩
theorem wd{f:Addr}{fd:zo}(F:gX K "right_in" "right_in" ie f fd)(TB:FP K w mg dP dM pl):bK P w K mg base eL 1 f fd ["term"] (tP K):=by
 refine F.ok tR (fun vs H Q E h=>?_) (fun aw A am s H vs Q E hr h=>?_)
 ·obtain⟨v,tm,rfl,_⟩:=h;rfl
 obtain⟨v,tm,rfl,I,wf,ag,k⟩:=h
 refine⟨_,(bV (iK (i:=1) tR.nd rfl (Or.inl rfl) (Z9 aQ (pv 0)))
  (bV (lX (Zq bJ (pv 1) az) (cg (cB (aX qS (bg (aE (dm (aE (dm ak) (aE (Z9 aQ (pv 0)) ak))) ak)) (fG (aj ie) ["term","form"] ["tag","names","inner"] [] rfl rfl rfl (by decide +kernel) (dh (Z9 aQ (pv 0))) (fun _ _ _ _=>(fO (n:=3) K rfl rfl (aG (iw (i:=0) (show(["tag","names","inner"]:List Str).Nodup by decide +kernel) rfl (Or.inl rfl)) (aG (iw (i:=1) (show(["tag","names","inner"]:List Str).Nodup by decide +kernel) rfl (Or.inl rfl)) (aG (iw (i:=2) (show(["tag","names","inner"]:List Str).Nodup by decide +kernel) rfl (Or.inl rfl)) aZ))))) (fun _ _ _ _=>dW) (fun _ _ _ _=>(dm (aE (pv 1) (aE (pv 2) ak)))))))) iR)
  (bV (lX (Zq bJ (pv 1) az) (cg (cB (bg (aE (dm (aE (dm ak) (aE (Z9 aQ (pv 0)) ak))) (aE (dm (aE (dm (aE (Z9 aQ (pv 0)) ak)) (aE (Z9 aQ (pv 0)) ak))) ak))))) iR)
  (bV (lX (Zq bJ (pv 1) az) (cg (cB (bg (aE (dm (aE (dm ak) (aE (Z9 aQ (pv 0)) ak))) (aE (dm (aE (dm ak) (aE (Z9 aQ (pv 0)) ak))) (aE (dm (aE (dm (aE (Z9 aQ (pv 0)) (aE (Z9 aQ (pv 0)) ak))) (aE (Z9 aQ (pv 0)) ak))) ak)))))) iR)
  (bV (lX (eX za (pv 1) (iQ (v:=.ref dM) (by rfl) TB.mM rfl) (by with_unfolding_all rfl)) (cg (cB (fG (aj ie) ["term","form"] ["inner"] [] rfl rfl rfl (by decide +kernel) (dh (iO aQ (pv 0) (qC (iQ (v:=.ref dM) (by rfl) TB.mM rfl) (pv 1) (fun _ _=>rfl)) (fun _ _=>rfl))) (fun _ _ _ _=>(iw (i:=0) (show(["inner"]:List Str).Nodup by decide +kernel) rfl (Or.inl rfl))) (fun _ _ _ _=>dW) (fun _ _ _ _=>(dm (aE (dm ak) (aE (pv 0) ak))))))) iR)
  (cg (cB (fG (aj ie) ["term","form"] ["place"] [0] rfl rfl rfl (by decide +kernel) (dh (qC (iQ (v:=.ref dP) (by rfl) TB.mP rfl) (pv 1) (fun _ _=>rfl))) (fun _ _ _ _=>(iw (i:=0) (show(["place","term"]:List Str).Nodup by decide +kernel) rfl (Or.inl rfl))) (fun _ _ _ _=>dW) (fun _ _ _ _=>(dm (aE (dm ak) (aE (iO (fP K rfl) (pv 1) (pv 0) (fun _ _=>rfl)) ak)))))))))))),?_⟩
 try dsimp only[bM]
 have kM:=TB.kM;have kP:=TB.kP;refine oG ?_;intro N1 N2 N3 N4 N5 c1 c2 c3 c4 c5
 cases wf with
 |mk ar wk =>
 rename_i hd ks
 rw[bw]at I;have M:ks.length<=900:=ag;have nE:(ks.map enc).length=ks.length:=bC _;rcases DR ar with⟨fm,r,ps,hm,he,hp,hb⟩|⟨fm,r,j,hm,he,hj,hb⟩|⟨arms,rfl⟩|⟨x,rfl⟩|⟨x,y,rfl⟩
 ·rw[he]at I;obtain⟨a,vs,rfl,D,d⟩:=I.aY;obtain⟨v0,q0,rfl,S,B⟩:=d.inv;obtain rfl:=S.aR;obtain⟨pa,lk,ad⟩:=TB.at_ fm ps hm;have aq:=ad H;fail "R"
  ·exact uG _ _
  fail "R";obtain⟨n1,n2,n3,n4⟩:=vZ (fm,ps) hm;refine lQ (vv n1) ?_;fail "R";refine lQ (vv n2) ?_;fail "R";refine lQ (vv n3) ?_;fail "R";refine lQ n4 ?_;fail "R";refine vV (ks:=ks.map enc) D d (ad H) (Ar hm) hp fun p H' ws z h1 r1=>k p H' ws z h1 ?_;rw[qi hb];exact r1
 ·rw[he]at I;obtain⟨a,vs,rfl,D,d⟩:=I.aY;obtain⟨u,hu,ru⟩:=d.get hj;obtain⟨b,us,rfl,R,Y⟩:=ru.aY;obtain⟨v0,q0,rfl,S,B⟩:=d.inv;obtain rfl:=S.aR;obtain⟨n1,n2,n3,n4⟩:=zd (fm,j) hm;have as:Pw fm pS=some (.int (j:Int)):=n4;have au:=bD hu;fail "R"
  ·exact uG _ _
  fail "R";refine lQ (vv n1) ?_;fail "R";refine lQ (vv n2) ?_;fail "R";refine lQ (vv n3) ?_;fail "R";refine Al (by rw[n4];rfl) ?_;fail "R";refine Am (ks:=ks.map enc) R Y (by omega) fun p H' ws z h1 r1=>k p H' ws z h1 ?_;rw[qi hb];exact r1
 ·skip
  have O:ks.length=arms.length+1:=by simpa[cM]using ar
  match ks,O with
  |k0::kr,O =>
  have ah:arms.length=kr.length:=by simpa using O.symm
  unfold kZ at I;obtain⟨a,vs,rfl,D,d⟩:=I.aY;obtain⟨v0,q0,rfl,S,B⟩:=d.inv;obtain rfl:=S.aR;obtain⟨v1,q1,rfl,e1,L⟩:=B.inv;obtain⟨v2,q2,rfl,e2,J⟩:=L.inv;obtain rfl:=J.fE;obtain⟨b,us,rfl,R,Y⟩:=e2.aY;fail "R";intro p1 q;have z:=ae q (.tup []);refine⟨_,rfl,a,_,1,_,rfl,rfl,D.same z,rfl,(by show 2<=nk;decide),fun V o=>?_⟩;have W:=z.trans (ae o (.tup [.ref p1,v1]));refine⟨(by show 1<=nk;decide),fun X m=>?_⟩;have G:=W.trans (ae m (.lst [.ref V]));refine⟨_,rfl,a,_,2,_,rfl,rfl,D.same G,rfl,b,rfl,⟨_,R.same G⟩,?_⟩;refine An (arms:=arms) (ks:=kr.map enc) (by rw[bC];exact ah) (R.same G) (by exact Y.same G) (by rw[bC];have:=M;simp at this;omega) fun p H' ws N h4 r4=>?_;have z3:H' X=some (.lst [.ref V]):=N _ _ af;refine⟨X,p,_,_,rfl,rfl,z3,h4,?_,fun p5 g=>?_⟩
  ·have l:=r4.length;rw[MM,bC]at l;rw[l];exact small (by have:=M;simp at this;show 1+_<=1000;omega)
  have U:=N.trans (ae g (.lst ([.ref V]++ws)));refine k p5 _ _ (G.trans U) af ?_
  have e:(right (.mk (.mat arms) (k0::kr))).map qg=T.t [.t [],enc k0]::LK (fun(a:Str×List Str) k=>T.t [.t (a.2.map .s),k]) arms (kr.map enc):=by
   unfold right;show((([]:List Str)::arms.map (·.2)).zip (k0::kr)).map qg=_;rw[Nq,Lh];rw[vY arms kr ah];rfl
  rw[e];refine .cons ?_ (r4.same (ae g _));refine Rp.same ((ae m _).trans U) (Rp.new o (.cons (Rp.new q .nil) (.one (e1.same z))))
 ·skip
  have O:ks.length=2:=by simpa[cM]using ar
  match ks,O with
  | [k0,k1],O =>
  unfold kZ at I;obtain⟨a,vs,rfl,D,d⟩:=I.aY;obtain⟨v0,q0,rfl,S,B⟩:=d.inv;obtain rfl:=S.aR;obtain⟨v1,q1,rfl,e1,L⟩:=B.inv;obtain⟨v2,q2,rfl,e2,J⟩:=bI.inv L;obtain⟨v3,q3,rfl,e3,Z⟩:=bI.inv J;obtain rfl:=Z.fE;fail "R";intro p1 q;have z:=ae q (.tup []);refine⟨_,rfl,a,_,2,_,rfl,rfl,D.same z,rfl,(by show 2<=nk;decide),fun V o=>?_⟩;have W:=z.trans (ae o (.tup [.ref p1,v2]));refine⟨_,rfl,a,_,1,_,rfl,rfl,D.same W,rfl,(by show 1<=nk;decide),fun X m=>?_⟩;have G:=W.trans (ae m (.tup [v1]));refine⟨_,rfl,a,_,3,_,rfl,rfl,D.same G,rfl,(by show 2<=nk;decide),fun p4 C=>?_⟩;have N:=G.trans (ae C (.tup [.ref X,v3]));refine⟨(by show 2<=nk;decide),fun p5 g=>?_⟩;have U:=N.trans (ae g (.lst [.ref V,.ref p4]));refine k p5 _ _ U af ?_;refine .cons (Rp.same ((ae m _).trans ((ae C _).trans (ae g _))) (Rp.new o (.cons (Rp.new q .nil) (.one (e2.same z))))) (.one ?_);exact Rp.same (ae g _) (Rp.new C (.cons (Rp.new m (.one (e1.same W))) (.one (e3.same G))))
 ·skip
  have O:ks.length=3:=by simpa[cM]using ar
  match ks,O with
  | [k0,k1,k2],O =>
  unfold kZ at I;obtain⟨a,vs,rfl,D,d⟩:=I.aY;obtain⟨v0,q0,rfl,S,B⟩:=d.inv;obtain rfl:=S.aR;obtain⟨v1,q1,rfl,e1,L⟩:=B.inv;obtain⟨v2,q2,rfl,e2,J⟩:=L.inv;obtain⟨v3,q3,rfl,e3,Z⟩:=J.inv;obtain⟨v4,q4,rfl,e4,ap⟩:=Z.inv;obtain⟨v5,q5,rfl,e5,an⟩:=ap.inv;obtain rfl:=an.fE;fail "R";intro p1 q;have z:=ae q (.tup []);refine⟨_,rfl,a,_,1,_,rfl,rfl,D.same z,rfl,(by show 2<=nk;decide),fun V o=>?_⟩;have W:=z.trans (ae o (.tup [.ref p1,v1]));refine⟨Ld _,fun X m=>?_⟩;have G:=W.trans (ae m (.tup []));refine⟨_,rfl,a,_,4,_,rfl,rfl,D.same G,rfl,(by show 2<=nk;decide),fun p4 C=>?_⟩;have N:=G.trans (ae C (.tup [.ref X,v4]));refine⟨_,rfl,a,_,2,_,rfl,rfl,D.same N,rfl,_,rfl,a,_,3,_,rfl,rfl,D.same N,rfl,(by show 2<=nk;decide),fun p5 g=>?_⟩;have U:=N.trans (ae g (.tup [v2,v3]));refine⟨_,rfl,a,_,5,_,rfl,rfl,D.same U,rfl,(by show 2<=nk;decide),fun p6 ab=>?_⟩;have s6:=U.trans (ae ab (.tup [.ref p5,v5]));refine⟨(by show 3<=nk;decide),fun p7 aa=>?_⟩;have s7:=s6.trans (ae aa (.lst [.ref V,.ref p4,.ref p6]));refine k p7 _ _ s7 af ?_;have ai:=(ae ab (.tup [.ref p5,v5])).trans (ae aa (.lst [.ref V,.ref p4,.ref p6]));have ac:=(ae g (.tup [v2,v3])).trans ai;have al:=(ae m (.tup [])).trans ((ae C (.tup [.ref X,v4])).trans ac);refine .cons (Rp.same al (Rp.new o (.cons (Rp.new q .nil) (.one (e1.same z))))) (.cons (Rp.same ac (Rp.new C (.cons (Rp.new m .nil) (.one (e4.same G))))) (.one ?_));exact Rp.same (ae aa _) (Rp.new ab (.cons (Rp.new g (.cons (e2.same N) (.one (e3.same N)))) (.one (e5.same U))))
end
theorem tS(d:Tm)(wf:Wf d):(right d).map (·.2)=d.ks:=by
 cases wf with
 |mk ar wk =>
 rename_i h ks
 show(((bnd h ks.length).zip ks).map Prod.snd)=ks;refine List.map_snd_zip ?_
 cases h<;>simp_all[bnd,cM]
theorem As(d:Tm)(wf:Wf d):(right d).length=d.ks.length:=by
 have z:=congrArg NP (tS d wf)
 rwa [bC]at z
theorem Wf.kids{d:Tm}(wf:Wf d):∀k∈d.ks,Wf k:=by
 cases wf with
 |mk ar wk=>exact wk
theorem pT:∀l:List Tm,l.length<=Tm.sizes l
 | []=>lj _
 |k::r=>by rw[Tm.di,Lu];have:=Tm.size_pos k;have:=pT r;omega
theorem wg(d:Tm):d.ks.length<d.size:=by
 cases d with
 |mk h ks =>
  rw[Tm.fN];show ks.length<_
  have:ks.length<=Tm.sizes ks:=by
   induction ks with
   |nil=>exact lj _
   |cons k r ih=>rw[Tm.di,Lu];have:=Tm.size_pos k;omega
  omega
theorem HK{n:Nat}(h:n<=950000):n<nk:=by rw[QI];omega
theorem nK{t:Tm}:∀{ks:List Tm},t∈Tm.eA ks->∃k∈ks,t∈k.parts
 | [],h=>by simp[Tm.eA]at h
 |k::r,h=>by
  rw[Tm.fV]at h;rcases Li.mp h with h|h
  ·exact⟨k,.head _,h⟩
  ·obtain⟨x,d,h⟩:=nK h;exact⟨x,.tail _ d,h⟩
theorem yd(t:Tm):t∈t.parts:=by
 cases t with
 |mk h ks=>rw[Tm.jq];exact .head _
theorem kJ{k:Tm}:∀{ks:List Tm},k∈ks->k.size<=Tm.sizes ks
 |_::_,.head _=>by rw[Tm.di];omega
 |_::_,.tail _ h=>by rw[Tm.di];have:=kJ h;omega
theorem ye(a:Tm):∀t∈a.parts,t.size<=a.size:=by
 induction a using Tm.induct with
 |hm h ks ih =>
  intro t ht;rw[Tm.jq]at ht;rcases ri.mp ht with rfl|ht
  ·exact lj _
  ·obtain⟨k,d,e⟩:=nK ht;have j:=ih k d t e;have g:=kJ d;rw[Tm.fN];omega
noncomputable def HL(d:Tm):Prop:=d.size<=940000/\∀t∈d.parts,t.ks.length<=900
theorem HL.of{d:Tm}(h:d.size<=900):HL d:=⟨by omega,fun t e=>by have:=wg t;have:=ye d t e;omega⟩
noncomputable def oH(K:bA):Sp:=fun j H Q _=>∃(v:V) (d:Tm),j=[v]/\Rp K H (enc d) v/\Wf d/\HL d /\
 ∀(p:Addr) (e:Hp) (g:List V),aF H e->H p=none->e p=some (.lst g)->bI K e (d.parts.map enc) g->Q (.ref p) e
noncomputable def dD:Tm->Option Int
 |.mk (.gap n) _=>some n
 |_=>none
noncomputable def oJ(K:bA):Sp:=fun g H Q _=>∃(v:V) (d:Tm),g=[v]/\Rp K H (enc d) v/\Wf d/\d.size<=900 /\
 ∀(p:Addr) (e:Hp),aF H e->H p=none->e p=some (.lst ((d.parts.filterMap dD).map V.int))->Q (.ref p) e
noncomputable def HM(K:bA)(H:Hp)(v:V)(lt p:Addr)(o:Tm)(m:Nat)(q:St)(e:Hp):Prop :=
 ∃(g d:List Tm) (j l:List V) (r:Option V),q=[some v,some (.ref lt),some (.ref p),r]/\aF H e/\e lt=some (.lst j)/\bI K e (g.map enc) j/\e p=some (.lst l)/\bI K e (d.map enc) l/\(∀k∈d,Wf k)/\g++Tm.eA d.reverse=o.parts/\g.length+Tm.sizes d=o.size/\m=Tm.sizes d
noncomputable def qD(K:bA):Sp:=fun j H Q _=>∃(v:V) (d:Tm),j=[v]/\Rp K H (enc d) v/\Wf d/\d.ks.length<=900 /\
 ∀(p:Addr) (e:Hp) (g:List V),aF H e->H p=none->e p=some (.lst g)->bI K e (d.ks.map enc) g->Q (.ref p) e
section
variable {P:FG}{w:Lk}{K:bA}{mg:Str->Option j3}{base:Heap}{gR:Addr}{rfd:zo}
theorem DS:aI ["term"] ["term"] (aj iy):=⟨rfl,rfl,rfl,by decide +kernel,rfl,by decide +kernel,by decide +kernel⟩
theorem BF{f:Addr}{t:zo}(F:gX K "inner_terms" "inner_terms" iy f t)(g:bY P w K mg base "right_in" 1 ["term"] (tP K) gR rfd):bK P w K mg base eL 2 f t ["term"] (qD K):=by
 refine F.ok DS (fun y H Q E h=>?_) (fun G A l s H y Q E hr h=>?_)
 ·obtain⟨v,d,rfl,_⟩:=h;rfl
 obtain⟨v,d,rfl,C,wf,q,k⟩:=h;refine⟨_,(cg (cB (fG (aj iy) ["term"] ["names","inner"] [] rfl rfl rfl (by decide +kernel) (cX (jL g.ok (hr.mono (by omega)) rfl g.at' g.kp g.bd .nil nv (aE (pv 0) ak))) (fun _ _ _ _=>(fO (n:=2) K rfl rfl (aG (iw (i:=0) (show(["names","inner"]:List Str).Nodup by decide +kernel) rfl (Or.inl rfl)) (aG (iw (i:=1) (show(["names","inner"]:List Str).Nodup by decide +kernel) rfl (Or.inl rfl)) aZ)))) (fun _ _ _ _=>dW) (fun _ _ _ _=>(pv 1))))),?_⟩;have I:=wg d;refine⟨_,rfl,v,d,rfl,C,wf,by omega,fun p J u m r z=>?_⟩;refine⟨p,rfl,⟨_,bz.of r⟩,?_⟩;refine xZ r z (by rw[As d wf];omega) fun B j e o=>?_;have D:(right d).map (fun p=>enc p.2)=d.ks.map enc:=by rw[←tS d wf,Nd];rfl
 rw[D]at o;exact k B _ j (m.trans (ae e _)) (m.free e) af (o.same (ae e _))
theorem qE:aI ["term","told","waiting","here"] ["term"] (aj uF):=⟨rfl,rfl,rfl,by decide +kernel,rfl,by decide +kernel,by decide +kernel⟩
theorem BG{f:Addr}{fd:zo}(F:gX K "parts" "parts" uF f fd)(W:bY P w K mg base "inner_terms" 2 ["term"] (qD K) gR rfd):bK P w K mg base eL 3 f fd ["term"] (oH K):=by
 refine F.ok qE (fun vs H Q E h=>?_) (fun ap A aa s H vs Q E hr h=>?_)
 ·obtain⟨v,B,rfl,_⟩:=h;rfl
 obtain⟨v,B,rfl,hv,wf,⟨aj,M⟩,k⟩:=h
 refine⟨_,(bV (iK (i:=1) qE.nd rfl (Or.inl rfl) (bg ak))
  (bV (iK (i:=2) qE.nd rfl (Or.inl rfl) (bg (aE (pv 0) ak)))
  (bV (nY PX (oh (pv 2) (fun _=>rfl))
   (bV (iK (i:=3) qE.nd rfl (Or.inl rfl) (Bl M5 Na Oe Bo (pv 2)))
  (bV (cu (yR M5 Ll Ln cz (pv 1) (aE (pv 3) ak)))
  (cg (cu (yR M5 Mz MA i8 (pv 2) (aE (tL (jL W.ok (hr.mono (by omega)) rfl W.at' W.kp W.bd .nil nv (aE (pv 3) ak)) dQ dQ (cy (nj jZ ao))) ak)))))))
  (cg (cB (pv 1)))))),?_⟩
 refine⟨Ld _,fun lt y=>?_⟩;have s1:=ae y (.lst []);refine⟨_,rfl,(by show 1<=nk;decide),fun g j=>?_⟩;have s2:=s1.trans (ae j (.lst [v]));have t:lt≠g:=fun z=>by subst z;rw[af]at j;cases j
 have ah:upd (upd H lt (.lst [])) g (.lst [v]) lt=some (.lst []):=by rw[av t];exact af
 refine⟨HM K H v lt g B,⟨B.size,[],[B],[],[v],none,rfl,s2,ah,.nil,af,.one (hv.same s2),(fun k hk=>by cases hk with|head=>exact wf|tail _ h=>cases h),?_,?_,?_⟩,?_⟩
 ·simp[Tm.eA]
 ·simp[Tm.sizes]
 ·simp[Tm.sizes]
 ·rintro m σ H' ⟨dn,st,r,us,h0,rfl,sm,h1,Z,U,r2,I,V,e2,rfl⟩;have l1:=Z.length;rw[bC]at l1;refine⟨_,rfl,_,.inl ⟨us,bz.of U,rfl⟩,?_⟩;rcases Of st with rfl|⟨st',hd,rfl⟩
  ·obtain rfl:=r2.fE;refine lQ rfl ?_;refine⟨_,rfl,k lt H' r sm y h1 ?_⟩;have z:dn=B.parts:=by simpa[Tm.eA]using V
   rw[←z];exact Z
  ·rw[RS]at *;rw[nq]at r2;obtain⟨d,ul,rfl,r3,r4⟩:=r2.split;obtain⟨u,q,rfl,ru,rq⟩:=(show bI K H' [enc hd] ul from r4).inv;obtain rfl:=rq.fE;have wh:Wf hd:=I hd (by simp)
   have ac:dn.length+Tm.sizes st'+hd.size=B.size:=by
    rw[Tm.eZ,Tm.di]at e2;simp only[Tm.sizes]at e2;omega
   have hk:=wg hd;have ad:hd.ks.length<=900:=M hd (by rw[←V,OE,RG,RT,Tm.fV];exact FT _ (LD _ (yd hd)));refine Al (by simp) ?_;refine⟨fun Y ai=>∃m',m' < Tm.sizes (st'++[hd])/\HM K H v lt g B m' Y ai,fun _ _ z=>z,?_⟩;refine⟨_,rfl,.inl ⟨rfl,_,bz.of U⟩,g,_,u,rfl,rfl,U,by simp,?_⟩;rw[Oq];have k3:Kt H' (upd H' g (.lst d)):=Kt.lst U _;have G:upd H' g (.lst d) lt=some (.lst r):=by rw[av t];exact h1
   refine⟨_,rfl,.inl ⟨rfl,_,bz.of G⟩,_,rfl,lt,_,_,rfl,rfl,G,HK (by omega),?_⟩;have k4:Kt (upd H' g (.lst d)) (upd (upd H' g (.lst d)) lt (.lst (r++[u]))):=Kt.lst G _;have D:upd (upd H' g (.lst d)) lt (.lst (r++[u])) g=some (.lst d):=by rw[av t.symm];exact af
   have O:upd (upd H' g (.lst d)) lt (.lst (r++[u])) lt=some (.lst (r++[u])):=af
   have J:aF H (upd (upd H' g (.lst d)) lt (.lst (r++[u]))):=fun b o e=>by
    have T:b≠lt:=aq e y;have n2:b≠g:=fun z=>by subst z;rw[av T.symm.symm]at j;rw[e]at j;cases j
    rw[av T,av n2];exact sm b o e
   have p:=k3.trans k4;generalize upd (upd H' g (.lst d)) lt (.lst (r++[u]))=H4 at p D O J⊢;refine⟨_,rfl,.inl ⟨rfl,_,bz.of D⟩,?_⟩;refine⟨_,rfl,u,hd,rfl,ru.kt p,wh,ad,fun p6 X l s5 an h6 r6=>?_⟩;have l6:=r6.length;rw[bC]at l6;refine⟨_,rfl,_,rfl,p6,l,rfl,bz.of h6,(by decide),?_,fun S L=>?_⟩
   ·rw[oE,Ml];exact small (by omega)
   rw[oE]at *;have R:=s5.trans (ae L (.lst l.reverse));have N:=R _ _ D;have ag:=R _ _ O;have l3:=r3.length;rw[bC]at l3;have am:=pT st';refine⟨g,S,_,_,rfl,rfl,N,af,?_,?_⟩
   ·rw[Ml];exact Mb (HK (by omega))
   have k8:Kt (upd X S (.lst l.reverse)) (upd (upd X S (.lst l.reverse)) g (.lst (d++l.reverse))):=Kt.lst N _;have C:=(Kt.same R).trans k8;have ab:Kt X (upd (upd X S (.lst l.reverse)) g (.lst (d++l.reverse))):=(Kt.same (ae L _)).trans k8;have al:Tm.sizes hd.ks+1=hd.size:=by cases hd with|mk h ks=>rw[Tm.fN];rfl
   refine⟨Tm.sizes st'+Tm.sizes hd.ks,by rw[Tm.eZ];simp only[Tm.sizes];omega,dn++[hd],st'++hd.ks.reverse,r++[u],d++l.reverse,_,rfl,?_,?_,?_,af,?_,?_,?_,?_,?_⟩
   ·intro b o e
    have n2:b≠g:=fun z=>by
     subst z;have T:b≠lt:=aq e y;rw[av T]at j;rw[e]at j;cases j
    rw[av n2];exact R b o (J b o e)
   ·rw[av t];exact ag
   ·rw[nq];exact((Z.kt (p.trans C))).snoc (ru.kt (p.trans C))
   ·rw[nq,Pg];exact(r3.kt (p.trans C)).append (r6.kt ab).reverse
   ·intro x hx;rcases Li.mp hx with h|h
    ·exact I x (LD _ h)
    ·exact(Wf.kids wh) x (Rf.mp h)
   ·rw[OE,R1,Tm.ny];rw[OE,RG,RT,Tm.fV]at V;rw[←V]
    cases hd with
    |mk h ks=>rw[Tm.jq];simp[Tm.ks]
   ·rw[lu,Tm.eZ,Tm.j6,←ac]
    cases hd with
    |mk h ks=>rw[Tm.fN];simp[Tm.ks];omega
   ·rw[Tm.eZ,Tm.j6]
end
noncomputable def hdS:Hd->Str
 |.num _=>"num"|.name _=>"name"|.gap _=>"gap"|.op _=>"op"|.row=>"row"|.more=>"more"|.first=>"first"|.others=>"others"|.long=>"long"|.tag _=>"tag"|.call _=>"call"|.mat _=>"match"|.ife=>"if"|.lt _=>"let"|.fold _ _=>"fold"
theorem pU(e:Tm):∃d,enc e=.t (.s (hdS e.hd)::d):=by
 cases e with
 |mk h ks=>rw[bw];cases h<;>exact⟨_,rfl⟩
theorem ze(d:Tm):decide (V.str (hdS d.hd)=V.str "gap")=(dD d).isSome:=by
 cases d with
 |mk h ks=>cases h<;>first|rfl|decide +kernel|(show decide (V.str _=V.str _)=_;exact(by decide +kernel))
section
variable {P:FG}{w:Lk}{K:bA}{mg:Str->Option j3}{base:Heap}{gR gP:Addr}{rfd pfd:zo}
theorem BH:aI ["term"] ["term"] (aj mY):=⟨rfl,rfl,rfl,by decide +kernel,rfl,by decide +kernel,by decide +kernel⟩
theorem yf{f:Addr}{U:zo}(F:gX K "gaps_in" "gaps_in" mY f U)(PA:bY P w K mg base "parts" 3 ["term"] (oH K) gP pfd):bK P w K mg base eL 4 f U ["term"] (oJ K):=by
 refine F.ok BH (fun X H Q E h=>?_) (fun aa A B s H X Q E hr h=>?_)
 ·obtain⟨v,l,rfl,_⟩:=h;rfl
 obtain⟨v,l,rfl,hv,wf,m,k⟩:=h;refine⟨_,(cg (cB (fG (aj mY) ["term"] ["part"] [] rfl rfl rfl (by decide +kernel) (cX (jL PA.ok (hr.mono (by omega)) rfl PA.at' PA.kp PA.bd .nil nv (aE (pv 0) ak))) (fun _ _ _ _=>(iw (i:=0) (show(["part"]:List Str).Nodup by decide +kernel) rfl (Or.inl rfl))) (fun _ _ _ _=>(gz (Zq bJ (Z9 (fP K rfl) (pv 0)) az))) (fun _ _ _ _=>(Z9 (fP K rfl) (pv 0)))))),?_⟩;refine⟨_,rfl,v,l,rfl,hv,wf,.of m,fun p H1 W L C S O=>?_⟩;refine⟨p,rfl,⟨_,bz.of S⟩,?_⟩;have l1:=O.length;rw[bC,Tm.cY]at l1;refine fg (xs:=W) (fun i g j o=>(∃x,g=[x])/\o=H1/\j=((l.parts.take i).filterMap dD).map V.int) ⟨⟨none,rfl⟩,rfl,rfl⟩ ?_ (small (by omega)) ?_ ?_ ?_
 ·rintro i g j o hi ⟨_,_,rfl⟩;rw[bC];exact I0 (Mk _ _) (by rw[Lb];omega)
 ·rintro i g j o hi ⟨_,rfl,_⟩;exact bz.of S
 ·rintro i x g j o hx ⟨⟨x0,rfl⟩,rfl,rfl⟩;obtain⟨y,R,M⟩:=O.get' hx;rw[rz]at R;obtain⟨pt,C,rfl⟩:=FA.mp R;have D:i<l.parts.length:=(ko.mp C).1;have ep:l.parts[i]=pt:=(ko.mp C).2;obtain⟨d,I⟩:=pU pt;rw[I]at M;obtain⟨N,Y,rfl,J,Z⟩:=M.aY;obtain⟨t1,q1,rfl,g1,u⟩:=Z.inv;obtain rfl:=g1.aR;refine⟨_,rfl,N,_,0,_,rfl,rfl,J,uG _ _,rfl,_,rfl,?_⟩;rw[Lc D,Nt,nq,ep];rw[ze pt]
  cases e:dD pt with
  |none =>
   refine lQ rfl ⟨⟨_,rfl⟩,rfl,?_⟩;simp[e]
  |some n =>
   refine Al rfl ?_
   cases pt with
   |mk hh ks =>
   have eh:hh=.gap n:=by
    cases hh<;>simp[dD]at e
    rw[e]
   subst eh;rw[bw]at I
   have G:d=[.i n]:=by
    have z:T.t [.s "gap",.i n]=T.t (.s (hdS (Hd.gap n))::d):=I;injection z with z;injection z with _ z;exact z.symm
   subst G;obtain⟨t2,q2,rfl,g2,r⟩:=u.inv;obtain rfl:=r.fE;obtain rfl:=g2.cV;refine⟨_,rfl,N,_,1,_,rfl,rfl,J,rfl,⟨_,rfl⟩,rfl,?_⟩;simp[e]
 ·rintro g j o ⟨_,rfl,rfl⟩ q hq;rw[l1,←Tm.cY,Lv];exact k q _ (L.trans (ae hq _)) (L.free hq) af
end
end G33
namespace L2
open PySem
noncomputable def isStar:Expr->Bool
 |.Starred _ _=>true
 |_=>false
theorem BJ{e:Expr}{d:List Expr}{env:PySem.Env}(h:isStar e=false):LA (e::d) env=(false,eval e env)::LA d env:=by
 cases e<;>first|rfl|cases h
theorem cT{X:Cx}{e:Expr}{g:List Expr}{d:TE}{t:TA}(j:PE X e d)(hr:PA X g t)(hs:isStar e=false:=by rfl):PA X (e::g) (qd d t):=aE j hr (BJ hs)
end L2
namespace L2
open PySem PySem.Spec PyProof.Rows
section
variable {prog:FG}{w:Lk}{A:Lz}{E:j3->mu->Prop}{s:mu}
end
section
variable {prog:FG}{w:Lk}{A:Lz}{R:Ss->mu->Prop}{s:mu}
end
section
variable {prog:FG}{w:Lk}{A:Lz}{E:j3->mu->Prop}{s:mu}
end
section
variable {prog:FG}{w:Lk}{A:Lz}{E:j3->mu->Prop}{s:mu}
end
section
variable {X:Cx}{a b:Expr}{t:TA}{p1 p2 p3 p4:Pos}
theorem DT{d:Type}{xs ys:List d}:xs[min xs.length ys.length]?=none\/ys[min xs.length ys.length]?=none:=by
 rcases SK xs.length ys.length with h|h
 ·left;rw[Nz h];exact Nr (lj _)
 ·right;rw[Rg h];exact Nr (lj _)
noncomputable def FU(xs ys:List V)(ts:List Addr)(H d:Hp):Prop:=aF H d/\ts.length=min xs.length ys.length/\∀(j:Nat) (u:Nat),ts[j]?=some u->∃x y,xs[j]?=some x/\ys[j]?=some y/\d u=some (.tup [x,y])
theorem DU{g:List (Addr×Obj)}{L:St}{d:Hp}{p:mu}{h':Heap}{tk lo:Nat}{xs ys:List V}{m l:List j3}{as:List Nat}{S:Nat}{o:HO}(E:Inv X g L d p)(R:Vals xs m)(G:Vals ys l)
  (hlo:p.heap.objs.size<=lo) (hk:∀b o,p.heap.get? b=some o->h'.get? b=some o) (hal:as.length=min xs.length ys.length) (hG:lK h' lo m.toArray l.toArray as) (hSn:p.heap.objs.size<=S) (hSa:S∉as)
  (hS:ef X.prog X.w (upd (lB as xs ys d) S o) h' S o):Inv X g L (upd (lB as xs ys d) S o) {p with heap:=h',toks:=tk}/\FU xs ys as d (upd (lB as xs ys d) S o)/\d S=none:=by
 have low:∀u∈as,lo<=u:=hG.low;have J:∀u∈as,u≠S:=fun u Z z=>hSa (z▸Z)
 have r:∀c,c<p.heap.objs.size->upd (lB as xs ys d) S o c=d c:=fun c D=>by
  rw[av (Ls (Lf D hSn))];exact vS as xs ys fun hm=>absurd (Lf D (I0 hlo (low c hm))) (LY _)
 have q:∀(j:Nat) (u:Nat),as[j]?=some u->∃x y,xs[j]?=some x/\ys[j]?=some y/\upd (lB as xs ys d) S o u=some (.tup [x,y]):=fun j u I=>by
  have aa:=(ko.mp I).1;have H:j<xs.length:=by omega
  have v:j<ys.length:=by omega
  have N:xs[j]?=some xs[j]:=m3 H;have M:ys[j]?=some ys[j]:=m3 v;refine⟨_,_,N,M,?_⟩;rw[av (J u (we I))];exact yV as xs ys hG.rise j u _ _ I N M
 refine⟨E.grow (t':=tk) hk r (fun c o' D e=>?_),⟨fun c o e=>by rw[r c (E.hok.lt e)];exact e,hal,q⟩,E.hok.fresh hSn⟩
 by_cases A:c=S
 ·subst A;rw[af]at e
  cases e
  exact hS
 ·rw[av A]at e;rcases tJ as xs ys e with z|⟨j,x,y,f1,f2,f3,rfl⟩
  ·exact absurd (E.hok.lt z) (Pf.mpr D)
  ·obtain⟨Q,P,g1,g2,O⟩:=hG.pairs j c f1;obtain⟨ux,Y,W⟩:=R.get f2;obtain⟨uy,U,T⟩:=G.get f3;have C:m[j]?=some Q:=by simpa using g1
   have B:l[j]?=some P:=by simpa using g2
   rw[Y]at C;rw[U]at B
   cases C
   cases B
   exact⟨(by show 2<=nk;decide),_,.cons W (.cons T .nil),⟨_,O,rfl,_,rfl⟩,_,O,rfl⟩
end
theorem tT:entryFor table "dict.update.loop"=some Og.«dict.update.loop»:=by kernel_rfl
theorem kK:plainId "dict.update.loop"=true:=by kernel_rfl
theorem yg:NS (.type "tuple") (Lj "keys")=pure none:=by rw[Oa,MS];kernel_rfl
theorem yh:NS (.type "list") (Lj "keys")=pure none:=by rw[Oa,MS];kernel_rfl
theorem jR:isSubtype (.type "AttributeError") (.type "AttributeError")=pure true:=by kernel_rfl
section
variable {prog:FG}{w:Lk}{A:Lz}{E:j3->mu->Prop}{s:mu}
theorem yi{a:Addr}{xs:Array j3}{k:Nat}{j:Array (Option j3)}{u:Tok}{Q E:j3->mu->Prop}(o:A.handled=none)(l:s.heap.get? a=some {cls:=.type "tuple",dict:=none,data:=.seq xs k,slots:=j})
  (hE:∀h' tk e,s.heap.NewAttrErr h' e (.ref a) (Lj "keys")->E (.ref e) {s with heap:=h',toks:=tk}):La (Lr prog w) A (call (.builtin "tuple.__getattribute__") ([.ref a]++[.str (Lj "keys") u])) Q E s:=by
 have p:s.TypeIs (.ref a) "tuple":=⟨_,l,rfl⟩;refine Su (codeAny_call_builtin MP.plain PySem.F.entry_tuple_ga (MP.check _ _ _ _ _ _ [] _ p (PySem.F.args_tuple_getattribute_2 _ _) ?_));refine ME (meets_getattribute_miss_tuple a xs k j (Lj "keys") u yg (by decide) (by decide) prog w A (fun r d=>∃h' tk e,r=.error (.ref e)/\s.heap.NewAttrErr h' e (.ref a) (Lj "keys")/\d={s with heap:=h',toks:=tk}) s ⟨l,o,fun h' tk e ne=>⟨h',tk,e,rfl,ne,rfl⟩⟩) (fun g d z=>?_) (fun e d z=>?_)
 ·rcases g with f|c
  ·obtain⟨_,_,_,h,_⟩:=z;cases h
  ·exact⟨z.1,OY z.2 fun r m q=>by obtain⟨h',tk,e,rfl,ne,rfl⟩:=q;exact hE h' tk e ne⟩
 ·obtain⟨h',tk,e,h,ne,rfl⟩:=z
  cases h
  exact hE h' tk e ne
theorem sH{a:Addr}{xs:Array j3}{k:Nat}{j:Array (Option j3)}{Q:Option j3->mu->Prop}(l:A.handled=none)(g:s.heap.get? a=some {cls:=.type "tuple",dict:=none,data:=.seq xs k,slots:=j})
  (hQ:∀h' tk,(∀b o,s.heap.get? b=some o->h'.get? b=some o)->Q none {s with heap:=h',toks:=tk}):La (Lr prog w) A (getAttr? (.ref a) (Lj "keys")) Q E s:=by
 unfold getAttr?;refine bB (wpAny_mkText ?_);have p:Ni {s with toks:=s.toks+1} (.ref a) "tuple":=⟨_,g,rfl⟩;unfold getAttrBy?;refine bB (Nj ?_);unfold getAttrBy;refine LI (bB (MJ p ?_));rw[show NS (.type "tuple") (Lj "__getattribute__")=pure (some (.builtin "tuple.__getattribute__"))from MP.lookup];refine bB (my ?_);dsimp only;rw[if_neg (by decide)];unfold getAttrByItsOwn hookBefore;rw[if_neg (by decide)];refine bB (my ?_);refine bB (Nj (LI ?_));unfold callGetattribute;rw[if_neg (by decide)];unfold boundAndCalled;rw[MP.bind];refine bB (my ?_);refine yi (s:={s with toks:=s.toks+1}) l g fun h' tk e ne=>?_;obtain⟨t,u,m⟩:=ne.there;have d:Ni {s with heap:=h',toks:=tk} (.ref e) "AttributeError":=⟨_,m,rfl⟩;show La _ _ (OO _ _ _ _ none false false) _ _ _;unfold OO;refine bB (MY d jR ?_);rw[if_pos rfl];unfold hookBehind;rw[if_neg (by decide),PySem.F.plainAttrs_tuple.noGetattr];refine bB (my ?_);unfold hookOrError;dsimp only;unfold attributeErrorLeaves;dsimp only;rw[if_pos (show(!false)=true from rfl)];refine bB (wpAny_throw ?_);refine bB (MY d jR ?_);rw[if_pos rfl];exact my (hQ h' tk ne.keeps)
theorem Au{a:Addr}{xs:Array j3}{k:Nat}{j:Array (Option j3)}{u:Tok}{Q E:j3->mu->Prop}(o:A.handled=none)(l:s.heap.get? a=some {cls:=.type "list",dict:=none,data:=.seq xs k,slots:=j})
  (hE:∀h' tk e,s.heap.NewAttrErr h' e (.ref a) (Lj "keys")->E (.ref e) {s with heap:=h',toks:=tk}):La (Lr prog w) A (call (.builtin "list.__getattribute__") ([.ref a]++[.str (Lj "keys") u])) Q E s:=by
 have p:s.TypeIs (.ref a) "list":=⟨_,l,rfl⟩;refine Su (codeAny_call_builtin MZ.plain PySem.F.entry_list_ga (MZ.check _ _ _ _ _ _ [] _ p (PySem.F.args_list_getattribute_2 _ _) ?_));refine ME (meets_getattribute_miss_list a xs k j (Lj "keys") u yh (by decide) (by decide) prog w A (fun r d=>∃h' tk e,r=.error (.ref e)/\s.heap.NewAttrErr h' e (.ref a) (Lj "keys")/\d={s with heap:=h',toks:=tk}) s ⟨l,o,fun h' tk e ne=>⟨h',tk,e,rfl,ne,rfl⟩⟩) (fun g d z=>?_) (fun e d z=>?_)
 ·rcases g with f|c
  ·obtain⟨_,_,_,h,_⟩:=z;cases h
  ·exact⟨z.1,OY z.2 fun r m q=>by obtain⟨h',tk,e,rfl,ne,rfl⟩:=q;exact hE h' tk e ne⟩
 ·obtain⟨h',tk,e,h,ne,rfl⟩:=z
  cases h
  exact hE h' tk e ne
theorem uH{a:Addr}{xs:Array j3}{k:Nat}{j:Array (Option j3)}{Q:Option j3->mu->Prop}(l:A.handled=none)(g:s.heap.get? a=some {cls:=.type "list",dict:=none,data:=.seq xs k,slots:=j})
  (hQ:∀h' tk,(∀b o,s.heap.get? b=some o->h'.get? b=some o)->Q none {s with heap:=h',toks:=tk}):La (Lr prog w) A (getAttr? (.ref a) (Lj "keys")) Q E s:=by
 unfold getAttr?;refine bB (wpAny_mkText ?_);have p:Ni {s with toks:=s.toks+1} (.ref a) "list":=⟨_,g,rfl⟩;unfold getAttrBy?;refine bB (Nj ?_);unfold getAttrBy;refine LI (bB (MJ p ?_));rw[show NS (.type "list") (Lj "__getattribute__")=pure (some (.builtin "list.__getattribute__"))from MZ.lookup];refine bB (my ?_);dsimp only;rw[if_neg (by decide)];unfold getAttrByItsOwn hookBefore;rw[if_neg (by decide)];refine bB (my ?_);refine bB (Nj (LI ?_));unfold callGetattribute;rw[if_neg (by decide)];unfold boundAndCalled;rw[MZ.bind];refine bB (my ?_);refine Au (s:={s with toks:=s.toks+1}) l g fun h' tk e ne=>?_;obtain⟨t,u,m⟩:=ne.there;have d:Ni {s with heap:=h',toks:=tk} (.ref e) "AttributeError":=⟨_,m,rfl⟩;show La _ _ (OO _ _ _ _ none false false) _ _ _;unfold OO;refine bB (MY d jR ?_);rw[if_pos rfl];unfold hookBehind;rw[if_neg (by decide),M5.noGetattr];refine bB (my ?_);unfold hookOrError;dsimp only;unfold attributeErrorLeaves;dsimp only;rw[if_pos (show(!false)=true from rfl)];refine bB (wpAny_throw ?_);refine bB (MY d jR ?_);rw[if_pos rfl];exact my (hQ h' tk ne.keeps)
theorem BK{r:Type}[DecidableEq r]{knd:KeyKind prog w r}{d I:Addr}{Y O:List Addr}{n:Nat}{St:Nat->Heap->Prop}{R:Ss->mu->Prop}{us:List j3}{rs:List (r×j3)}{h₁:Heap}(W:Walks prog w A.in1 I Y O n (fun i v=>us[i]?=some v) St)(hn:n=us.length)(U:rs.length=us.length)(hsz:n<=nk)
  (hd:d∉Y) (hpr:∀(i:Nat) (u:j3) (kv:r×j3),us[i]?=some u->rs[i]?=some kv->∃a o m j,u=.ref a/\h₁.get? a=some o/\o.cls=.type "tuple"/\o.data=.seq #[j,kv.2] m/\knd.is kv.1 j=true/\a≠d/\a∉O)
  (hR:∀h' tk,h'.DictOf knd d (Sx [] rs)->(∀b o,b≠d->b∉O->h₁.get? b=some o->h'.get? b=some o)->R (.ok (.ret .none)) {s with heap:=h',toks:=tk}) :
  ∀(k i:Nat) (h:Heap) (tk:Nat),n-i=k->i<=n->St i h->h.DictOf knd d (Sx [] (rs.take i))->(∀b o,b≠d->b∉O->h₁.get? b=some o->h.get? b=some o) ->
   OX (Lr prog w) A (.builtin "dict.update.loop" ⟨[.ref d,.ref I,MN i,.none],[]⟩) R {s with heap:=h,toks:=tk}:=by
 intro k
 induction k with
 |zero =>
  intro i h tk hk hi p l g;have V:i=n:=by omega
  subst V;refine PY tT ?_;rw[Ot kK _];show La _ A.in1 (OD (.ref I)>>=_) _ _ _;refine bB (W.done {s with heap:=h,toks:=tk} _ _ p fun h' S q=>?_);refine bB (my (my ?_));refine hR h' S ?_ (fun b o P N e=>q b o N (g b o P N e));rw[hn,←U,Lv]at l;exact l.at fun o e=>q d o (fun z=>hd (W.sub d z)) e
 |succ k ih =>
  intro i h tk hk hi p l g;refine PY tT ?_;rw[Ot kK _];show La _ A.in1 (OD (.ref I)>>=_) _ _ _;refine bB (W.item i {s with heap:=h,toks:=tk} _ _ (by omega) p fun v X Q Z B q=>?_);have G:i<rs.length:=by omega
  obtain⟨a,o,m,j,rfl,ha,hc,H,D,T,y⟩:=hpr i v rs[i] Z (m3 G);have M:X.get? a=some o:=q a o y (g a o T y ha);have J:X.DictOf knd d (Sx [] (rs.take i)):=l.at fun o e=>q d o (fun z=>hd (W.sub d z)) e;have hT:Ni {s with heap:=X,toks:=Q} (.ref a) "tuple":=⟨o,M,hc⟩;dsimp only;refine bB (LI (bB (wpAny_tryCatch ?_)));unfold Og.Dict.pairItems;refine bB (MJ hT ?_);rw[if_pos (show(Value.type "tuple" == Value.type "list"||Value.type "tuple" == Value.type "tuple")=true by decide)]
  refine bB (L6 M H (my ?_));show La _ _ (QF [j,rs[i].2] (dictSet d j rs[i].2)) _ _ _;refine LI (wpAny_dictSet_pairs D J (fun h3 L C=>?_) (by have:=merged_length_le ([]:List (r×j3)) (rs.take i);rw[Lb]at this;simp at this;omega));refine my ⟨OH kK _,?_⟩
  have e1:stored (Sx [] (rs.take i)) rs[i].1 rs[i].2=Sx [] (rs.take (i+1)):=by
   rw[merged_take_succ [] rs i _ (m3 G)]
  rw[e1]at L;exact ih (i+1) h3 _ (by omega) (by omega) (W.frame (i+1) _ _ B fun b hb t e=>C.extBut b t (fun z=>hd (z▸hb)) e) L fun b t P N e=>C.extBut b t P (q b t N (g b t P N e))
theorem qz{O:Type}[DecidableEq O]{knd:KeyKind prog w O}{p:Addr}{o:Obj}{us:List j3}{m:Nat}{T:String}{rs:List (O×j3)}{Q:j3->mu->Prop}(hh:A.handled=none)(L:T="list"\/T="tuple")(U:s.heap.get? p=some o)(B:o.cls=.type T)(ai:o.dict=none)(J:o.data=.seq us.toArray m)
  (hrl:rs.length=us.length) (hsz:us.length<=nk) (hpr:∀(i:Nat) (u:j3) (kv:O×j3),us[i]?=some u->rs[i]?=some kv->∃a o m y,u=.ref a/\s.heap.get? a=some o/\o.cls=.type "tuple"/\o.data=.seq #[y,kv.2] m/\knd.is kv.1 y=true)
  (hQ:∀h' tk,h'.DictOf knd s.heap.objs.size (Sx [] rs)->(∀b o,s.heap.get? b=some o->h'.get? b=some o)->Q (.ref s.heap.objs.size) {s with heap:=h',toks:=tk}) :
  La (Lr prog w) A (call (.type "dict") [.ref p]) Q E s:=by
 have V:p<s.heap.objs.size:=vy U;have hS:(s.heap.push {cls:=.type "dict",data:=.dict #[]}).get? s.heap.objs.size=some {cls:=.type "dict",data:=.dict #[]}:=K9 _ rfl;have q:∀b o,s.heap.get? b=some o->(s.heap.push {cls:=.type "dict",data:=.dict #[]}).get? b=some o:=fun b o e=>mC _ e
 refine R3 (Q₁:=fun R D=>R=.ref s.heap.objs.size/\D={s with heap:=s.heap.push {cls:=.type "dict",data:=.dict #[]}}) PySem.F.kt_called_dict (PySem.F.kt_typeCall_dict_1 _) PySem.F.entry_dict_init
  (kt_code_dict_new _ ⟨rfl,rfl⟩) fun R D h₁=>?_
 obtain⟨rfl,rfl⟩:=h₁;refine⟨⟨_,hS,rfl⟩,PySem.F.args_dict_init_2 _ _,?_⟩;have Z:Heap.DictOf knd (s.heap.push {cls:=.type "dict",data:=.dict #[]}) s.heap.objs.size (Sx ([]:List (O×j3)) (rs.take 0)):=S9 s.heap;generalize s.heap.push {cls:=.type "dict",data:=.dict #[]}=g at hS q Z⊢;have am:Ni {s with heap:=g} (.ref s.heap.objs.size) "dict":=⟨_,hS,rfl⟩;have al:Ni {s with heap:=g} (.ref p) T:=⟨_,q _ _ U,B⟩;unfold Og.«dict.__init__» Og.Dict.selfAndRest Og.Dict.notOrdered;refine bB (bB ?_);rw[if_pos (by decide)];dsimp only[List.headD];refine bB (MJ am ?_);rw[if_neg (by decide)];refine my ?_;refine bB (show La _ _ (Og.Dict.addrOf (.ref s.heap.objs.size)) _ _ _ from my (my ?_));show La _ _ (Rh "dict.__init__" s.heap.objs.size (.ref p) [] .none) _ _ _;unfold Rh;refine bB (MJ al ?_);dsimp only;rw[if_pos (by rcases L with rfl|rfl<;>decide)]
 have C:∀(j:Heap) (tk:Nat),(∀b o,g.get? b=some o->j.get? b=some o)->La (Lr prog w) A.in1.in1 (pyIter (.ref p)) (fun it s2=>La (Lr prog w) A.in1.in1 (again (.builtin "dict.update.loop" ⟨[.ref s.heap.objs.size,it,MN 0,.none],[]⟩))
   (fun C M=>match C with
    |.done f=>wants (fun r d=>r=.none/\Q (.ref s.heap.objs.size) d) E (.ok f) M
    |.again c'=>c'.quiet=true/\OX (Lr prog w) A.in1 c' (wants (fun r d=>r=.none/\Q (.ref s.heap.objs.size) d) E) M)
   (fun e M=>wants (fun r d=>r=.none/\Q (.ref s.heap.objs.size) d) E (.error e) M) s2)
   (fun e M=>wants (fun r d=>r=.none/\Q (.ref s.heap.objs.size) d) E (.error e) M) {s with heap:=j,toks:=tk}:=by
  intro j tk l;have S:j.get? p=some o:=l _ _ (q _ _ U);have t:s.heap.objs.size<j.objs.size:=vy (l _ _ hS)
  have G:∀(N:Heap) (H:Nat) (St:Nat->Heap->Prop),Walks prog w A.in1.in1 j.objs.size [j.objs.size,p] [j.objs.size] us.toArray.size (fun i v=>us.toArray[i]?=some v) St->St 0 N->(∀b o,j.get? b=some o->N.get? b=some o) ->
    OX (Lr prog w) A.in1 (.builtin "dict.update.loop" ⟨[.ref s.heap.objs.size,.ref j.objs.size,MN 0,.none],[]⟩) (wants (fun r d=>r=.none/\Q (.ref s.heap.objs.size) d) E) {s with heap:=N,toks:=H}:=by
   intro N H St W ae I
   have nd:s.heap.objs.size∉[j.objs.size,p]:=by
    intro hm;rcases ri.mp hm with z|z
    ·exact absurd t (by rw[z];exact LY _)
    ·rw[nt]at z;exact absurd V (by rw[←z];exact LY _)
   refine BK (A:=A.in1) (us:=us) (rs:=rs) (h₁:=N) (n:=us.toArray.size) (by simpa using W) (by simp) hrl (by simpa using hsz) nd ?_ ?_ us.toArray.size 0 N H (by simp) (Ld _) ae (Z.at fun o e=>I _ _ (l _ _ e)) (fun _ _ _ _ e=>e)
   ·intro i u kv hu ag;obtain⟨a,ob,mm,y,e1,e2,e3,e4,e5⟩:=hpr i u kv hu ag;have Y:a<s.heap.objs.size:=vy e2;refine⟨a,ob,mm,y,e1,I _ _ (l _ _ (q _ _ e2)),e3,e4,e5,Ls Y,fun z=>?_⟩;rw[nt]at z;exact absurd (P8 Y t) (by rw[z];exact LY _)
   ·intro h' aa aj ah;refine⟨rfl,hQ h' aa aj fun b ob e=>ah b ob (Ls (vy e)) (fun z=>?_) (I _ _ (l _ _ (q _ _ e)))⟩;rw[nt]at z;exact absurd (P8 (vy e) t) (by rw[z];exact LY _)
  have P:p≠j.objs.size:=Ls (P8 V t);rcases L with rfl|rfl
  ·have X:j.IsList p us.toArray:=⟨o,S,B,m,J⟩;refine QH (s:={s with heap:=j,toks:=tk}) X (my ⟨OH kK _,?_⟩);exact G _ tk _ (Walks.list (A:=A.in1.in1) hh _ p P us.toArray) ⟨⟨_,K9 _ rfl,rfl,rfl⟩,X.push _⟩ fun b o e=>mC _ e
  ·have X:j.IsTuple p us.toArray:=⟨o,S,B,m,J⟩;refine Qg (s:={s with heap:=j,toks:=tk}) X (my ⟨OH kK _,?_⟩);exact G _ tk _ (Walks.tuple (A:=A.in1.in1) hh _ p P us.toArray) ⟨⟨_,K9 _ rfl,rfl,rfl⟩,X.push _⟩ fun b o e=>mC _ e
 obtain⟨ad,ac,ab,an⟩:=o;obtain rfl:ad=_:=B;obtain rfl:ac=_:=ai;obtain rfl:ab=_:=J;rcases L with rfl|rfl
 ·refine bB (uH (s:={s with heap:=g}) hh (q _ _ U) fun j tk l=>?_);dsimp only;rw[if_pos (show(none:Option j3).isNone=true from rfl)];exact bB (Ol (bB (C j tk l)))
 ·refine bB (sH (s:={s with heap:=g}) hh (q _ _ U) fun j tk l=>?_);dsimp only;rw[if_pos (show(none:Option j3).isNone=true from rfl)];exact bB (Ol (bB (C j tk l)))
end
section
variable {X:Cx}{pins:List (Addr×Obj)}{σ:St}{H:Hp}{s:mu}
noncomputable abbrev rE(K:bA)(H:Hp):List (Key×V)->List V->Prop:=Paired fun d y=>∃a,y=.ref a/\bN K H a [kV d.1,d.2]
theorem Av(I:Inv X pins σ H s):∀{kvs:List (Key×V)}{ys:List V}{d:List j3},rE X.K H kvs ys->Vals ys d ->
  ∃rs:List (Key×j3),KV kvs rs/\rs.length=d.length/\∀(i:Nat) (u:j3) (kv:Key×j3),d[i]?=some u->rs[i]?=some kv->∃a o m g,u=.ref a/\s.heap.get? a=some o/\o.cls=.type "tuple"/\o.data=.seq #[g,kv.2] m/\(cN X.prog X.w).is kv.1 g=true:=by
 intro kvs ys d h
 induction h generalizing d with
 |nil=>intro v;cases v;exact⟨[],.nil,rfl,fun i u kv h _=>by simp at h⟩
 |@cons kv y kvs ys hd r ih =>
  intro v
  cases v with
  |cons ru rv =>
   obtain⟨a,e,M⟩:=hd;obtain⟨rs,J,G,E⟩:=ih rv;subst e
   cases ru
   obtain⟨L,z,⟨o,D,C,m,B⟩,_⟩:=I.tuple M;obtain⟨t,q,rfl,A,r2⟩:=vals2 z;refine⟨(kv.1,q)::rs,.cons ⟨rfl,r2⟩ J,by simp[G],fun i u j p l=>?_⟩
   cases i with
   |zero =>
    simp at p l;subst p l;exact⟨a,o,m,t,rfl,D,C,by simpa using B,qV A⟩
   |succ i=>exact E i u j (by simpa using p) (by simpa using l)
theorem Inv.FW(I:Inv X pins σ H s){a:Addr}{xs:List V}(h:bN X.K H a xs):∃(d:List j3) (o:Obj) (n:Nat),Vals xs d/\s.heap.get? a=some o/\o.cls=.type "tuple"/\o.dict=none/\o.data=.seq d.toArray n/\xs.length<=nk:=by
 rcases h with h|⟨o,d,n,hk,hc,hs,hz,r,hd⟩
 ·obtain⟨z,d,r,⟨o,j,p,n,m⟩,q,g,l⟩:=h.ok I.hok;rw[j]at g
  cases g
  exact⟨d,o,n,r,j,p,l,m,z⟩
 ·refine⟨d.toList,o,n,r,I.A5 a o hk,hc,hd,by simpa using hs,?_⟩;have e:=r.length;simp only[NH]at e;omega
theorem nL(N:X.calm=true):iN X (.type "dict") (fun xs H Q=>∃p ys kvs,xs=[.ref p]/\(H p=some (.lst ys)\/bN X.K H p ys)/\rE X.K H kvs ys/\∀d,H d=none->Q (.ref d) (upd H d (.dK (dH [] kvs)))):=by
 intro pins s σ H xs V Q I r h;obtain⟨p,ys,kvs,rfl,hp,hd,q⟩:=h;obtain⟨u,rfl,D⟩:=vals1 r
 cases D
 obtain⟨g,o,T,m,j,A,J,y,t,l,W⟩:∃(g:List j3) (o:Obj) (T:String) (m:Nat),Vals ys g/\(T="list"\/T="tuple")/\s.heap.get? p=some o/\o.cls=.type T/\o.dict=none/\o.data=.seq g.toArray m/\ys.length<=nk:=by
  rcases hp with hp|hp
  ·obtain⟨z,g,n,j,e⟩:=(show ef X.prog X.w H s.heap p (.lst ys)from I.hok p _ hp);exact⟨g,_,"list",n,j,.inl rfl,e,rfl,rfl,rfl,z⟩
  ·obtain⟨g,o,n,j,U,S,R,P,z⟩:=I.FW hp;exact⟨g,o,"tuple",n,j,.inr rfl,U,S,R,P,z⟩
 obtain⟨rs,B,G,E⟩:=Av I hd j;have Y:=j.length;have L:kvs.length<=nk:=by have:=KV.length B;omega
 refine qz (knd:=cN X.prog X.w) (rs:=rs) (I.ok.hd N) A J y t l G (by omega) E fun Z C v M=>?_;have O:=I.big;refine⟨.ref s.heap.objs.size,_,I.laid (t':=C) M (lj _) (xQ (kvs:=dH [] kvs) ?_ (beq_eq_false_iff_ne.mpr (MQ (Ls O))) (KV.merge B .nil) v),rfl,q _ (I.hok.fresh (lj _))⟩;have:=j5 kvs [];simp at this;omega
end
section
variable {prog:FG}{w:Lk}{A:Lz}{R:Ss->mu->Prop}{s:mu}
end
section
variable {X:Cx}{pins:List (Addr×Obj)}{σ:St}{H:Hp}{s:mu}
end
section
variable {X:Cx}
end
section
variable {g:TG}{tt:TT}{tk tv:TE}{Q:VK}{σ0:St}{H0:Hp}
end
end L2
namespace L2
open PySem
section
variable {K:bA}{H:Hp}{v:V}
theorem Rp.t2{x y:T}(h:Rp K H (.t [x,y]) v):∃a e d,v=.ref a/\bN K H a [e,d]/\Rp K H x e/\Rp K H y d:=by
 obtain⟨a,m,rfl,j,r⟩:=h.aY;obtain⟨u,q,rfl,g,r2⟩:=r.inv;obtain⟨d,o,rfl,l,r3⟩:=r2.inv;obtain rfl:=r3.fE;exact⟨a,u,d,rfl,j,g,l⟩
theorem Rp.t3{x y z:T}(h:Rp K H (.t [x,y,z]) v):∃a j e d,v=.ref a/\bN K H a [j,e,d]/\Rp K H x j/\Rp K H y e/\Rp K H z d:=by
 obtain⟨a,p,rfl,l,r⟩:=h.aY;obtain⟨u,q,rfl,g,r2⟩:=r.inv;obtain⟨e,A,rfl,o,r3⟩:=r2.inv;obtain⟨d,w,rfl,m,r4⟩:=r3.inv;obtain rfl:=r4.fE;exact⟨a,u,e,d,rfl,l,g,o,m⟩
theorem Rp.t4{x y z l:T}(h:Rp K H (.t [x,y,z,l]) v):∃a m j e d,v=.ref a/\bN K H a [m,j,e,d]/\Rp K H x m/\Rp K H y j/\Rp K H z e/\Rp K H l d:=by
 obtain⟨a,C,rfl,o,r⟩:=h.aY;obtain⟨u,q,rfl,g,r2⟩:=r.inv;obtain⟨j,G,rfl,B,r3⟩:=r2.inv;obtain⟨e,E,rfl,A,r4⟩:=r3.inv;obtain⟨d,D,rfl,w,p⟩:=r4.inv;obtain rfl:=p.fE;exact⟨a,u,j,e,d,rfl,o,g,B,A,w⟩
end
end L2
namespace L2
open PySem PySem.Spec PyProof.Rows
section
variable {X:Cx}
noncomputable def FY(T:Addr->Sp->Prop)(j:TE)(t:TA):TE:=fun d H Q=>j d H fun x m=>∃f e,x=.ref f/\T f e/\t d m fun g l=>e g l Q E0
theorem wj{T:Addr->Sp->Prop}{x:Str}{p g:Pos}{e:Expr}{j:List Expr}{y:TE}{t:TA}
  (hT:∀f sp,T f sp->∃k m ps,bK X.prog X.w X.K X.mg X.base eL k f m ps sp/\ic k X.A/\MO X.K (.ref f)=true/\Binds X.K m ps [])
  (hf:PE X (.Name x p) y) (ha:PA X (e::j) t) (he:LA (e::j) X.env=(false,eval e X.env)::LA j X.env:=by rfl) (hpl:(OL g (LA j X.env)).any (·.1)=false:=by rfl) :
  PE X (.Call (.Name x p) (e::j) [] g) (FY T y t):=by
 intro d s o H Q I h;refine L0 (cO (hf d s o H _ I h) fun u C ⟨v,M,B,D,f,sp,L,l,q⟩=>?_);subst L;obtain rfl:u=Value.ref f:=D;obtain⟨k,m,ps,F,hr,G,J⟩:=hT f sp l;refine Qi (h₀:=X.base) B.ok.mod.kin G (cO (ha g d C o M _ B q) fun O P ⟨N,R,z,r,q⟩=>⟨z.A5,?_⟩) he hpl;exact xJ (E:=E0) (dvs:=[]) F hr J .nil nv z r (by simpa using q)
section
variable {prog:FG}{w:Lk}{A:Lz}{E:j3->mu->Prop}{s:mu}
end
end
section
variable {X:Cx}
theorem BL:mW X (Nn .Add) (fun x y H Q=>∃a b ys,x=.ref a/\y=.ref b/\bN X.K H a []/\bN X.K H b ys/\Q (.ref b) H):=by
 intro r s R H x y u v Q I D C h;obtain⟨a,b,ys,rfl,rfl,N,M,q⟩:=h
 cases D
 cases C
 obtain⟨J,E,L,_⟩:=I.tuple N;obtain⟨l,r2,m,_⟩:=I.tuple M
 cases E
 obtain⟨⟨P,O,z,B⟩,t,w,n,hd⟩:=id L;obtain⟨⟨A,o,p,j⟩,d,g,G,e⟩:=id m;simp only at w hd g e;subst w hd g e
 exact SH ⟨_,t,rfl⟩ ⟨_,d,rfl⟩ Q7 Sf OZ OR (OG _ _)
   (tuple_addW0 a b _ l.toArray n G O o B j (by simp)) ⟨t,d,⟨.ref b,H,I,rfl,q⟩⟩
end
section
variable {X:Cx}
noncomputable def EJ(K:bA):R2:=fun x y H Q=>∃a b e d,x=.ref a/\y=.ref b/\bN K H a e/\bN K H b d/\e.length+d.length<=nk/\∀p g,aF H g->bN K g p (e++d)->Q (.ref p) g
theorem rF:mW X (Nn .Add) (EJ X.K):=by
 intro d s j H x y u v Q I o m h;obtain⟨a,b,q,l,rfl,rfl,g,e,t,k⟩:=h
 cases q with
 |nil=>exact BL d s j H _ _ u v Q I o m ⟨a,b,l,rfl,rfl,g,e,k b H (aF.refl _) e⟩
 |cons x r =>
  exact Du d s j H _ _ u v Q I o m ⟨a,b,_,l,rfl,rfl,g,e,(by simp),t,(fun z=>by subst z;have:=k a H (aF.refl _);rw[LH]at this;exact this g),fun _ p w=>k p _ (ae w _) (bN.of af)⟩
theorem Aw(K:bA)(d:X.K=K):mW X (Nn .Add) (EJ K):=by subst d;exact rF
end
end L2
namespace L2
open PySem
theorem DV{X:Cx}(K:bA)(d:X.K=K):A6 X (Ho K):=by subst d;exact jm
theorem zf{X:Cx}(K:bA)(e:X.K=K)(d:X.A.units+150<OA):mW X (ML .Eq) (HB K):=by subst e;exact rm d
theorem zg{e:TT}{j g:TS}{D:Ends}{d:St}{H:Hp}(p:Prop)(ht:∀C:Bool->Hp->Prop,(p->C true H)->(¬p->C false H)->e d H C)(a:p->j D d H)(b:¬p->g D d H):E4 e j g D d H:=ht _ a b
theorem yj{g:TT}{l j:TS}{D:Ends}{e:St}{H:Hp}(R:Bool->Hp->Prop)(ht:∀C:Bool->Hp->Prop,(∀b d,R b d->C b d)->g e H C)(a:∀d,R true d->l D e d)(b:∀d,R false d->j D e d):E4 g l j D e H:=ht _ fun c d h=>by
 cases c with
 |true=>exact a d h
 |false=>exact b d h
theorem aF.rG{H d:Hp}{l:Addr}(s:aF H d)(h:H l=none)(o:HO):aF H (upd d l o):=fun b g e=>by rw[av (aq e h)];exact s b g e
structure JN(K:bA) (Ps:St->Prop) (H2:Hp) (us:List V) (ys:List T) (σ:St) (H5:Hp):Prop where
 p:Ps σ
 s:aF H2 H5
 r:bI K H5 ys us
section
variable {K:bA}{σ0:St}{H0:Hp}{g:TG}{tt:TT}{te:TE}{Q:VK}
theorem uI{d j:Type}{φ:d->List j}(e:∀p,(φ p).length<=1):∀ps:List d,(ps.flatMap φ).length<=ps.length
 | []=>Ld _
 |x::r=>by
  rw[LN,lu,Lu];have:=e x;have:=uI e r;omega
theorem iL{d e:Type}(f:d->e):∀l:List d,(l.flatMap fun p=>[f p])=l.map f
 | []=>rfl
 |x::r=>by rw[LN,iL f r];rfl
theorem fB{B:Type}{e:B->T}{φ:B->List T}{ps:List B}{C:List V}{a:Addr}(w:St->Prop)(J:bN K H0 a C)(hr:bI K H0 (ps.map e) C)(R:ps.length<=900)(L:∀p,(φ p).length<=1)(M:w σ0)
  (hs:∀p∈ps,∀x o j (N:List V->St->Hp->Prop),aF H0 j->w o->Rp K j (e p) x->(∀us d t,JN K w j us (φ p) d t->N us d t)->g x o j fun d P=>tt d P fun ok H=>if ok=true then te d H fun v t=>N [v] d t else N [] d H)
  (k:∀l A u,aF H0 A->H0 l=none->A l=some (.lst u)->bI K A (ps.flatMap φ) u->Q (.ref l) A):jP (Bd K a) g tt te Q σ0 H0:=by
 have l:=hr.length;rw[bC]at l;refine kj (xs:=C) (fun i o us j=>w o/\aF H0 j/\bI K j ((ps.take i).flatMap φ) us) ⟨M,aF.refl _,.nil⟩ ?_ (small (by omega)) ?_ ?_ ?_
 ·rintro i o us j hi ⟨_,_,r⟩;rw[r.length];exact I0 (uI L _) (by rw[Lb];exact PZ _ _)
 ·rintro i o us j hi ⟨_,s,_⟩;exact J.same s
 ·rintro i x o us j hx ⟨p,s,r⟩;obtain⟨y,G,I⟩:=hr.get' hx;rw[rz]at G;obtain⟨q,D,rfl⟩:=FA.mp G;have E:i<ps.length:=(ko.mp D).1;have O:ps[i]=q:=(ko.mp D).2
  have z:=hs q (we D) x o j (fun u d t=>w d/\aF H0 t/\bI K t ((ps.take (i+1)).flatMap φ) (us++u)) s p (I.same s) fun u d t m=>by
   refine⟨m.p,s.trans m.s,?_⟩;rw[Lc E,O,Ma];exact(r.same m.s).append (by rw[LN,Ri,LH];exact m.r)
  simp only[LH]at z;exact z
 ·rintro o us j ⟨_,s,r⟩ p hp;rw[l,Lv]at r;exact k p _ us (s.trans (ae hp _)) (s.free hp) af (r.same (ae hp _))
theorem ik{B:Type}{e:B->T}{φ:B->List T}{ps:List B}{C:List V}{a:Addr}(w:St->Prop)(J:H0 a=some (.lst C))(hr:bI K H0 (ps.map e) C)(R:ps.length<=900)(L:∀p,(φ p).length<=1)(M:w σ0)
  (hs:∀p∈ps,∀x o j (N:List V->St->Hp->Prop),aF H0 j->w o->Rp K j (e p) x->(∀us d t,JN K w j us (φ p) d t->N us d t)->g x o j fun d P=>tt d P fun ok H=>if ok=true then te d H fun v t=>N [v] d t else N [] d H)
  (k:∀l A u,aF H0 A->H0 l=none->A l=some (.lst u)->bI K A (ps.flatMap φ) u->Q (.ref l) A):jP (Dm K a) g tt te Q σ0 H0:=by
 have l:=hr.length;rw[bC]at l;refine fg (xs:=C) (fun i o us j=>w o/\aF H0 j/\bI K j ((ps.take i).flatMap φ) us) ⟨M,aF.refl _,.nil⟩ ?_ (small (by omega)) ?_ ?_ ?_
 ·rintro i o us j hi ⟨_,_,r⟩;rw[r.length];exact I0 (uI L _) (by rw[Lb];exact PZ _ _)
 ·rintro i o us j hi ⟨_,s,_⟩;exact bz.of (s _ _ J)
 ·rintro i x o us j hx ⟨p,s,r⟩;obtain⟨y,G,I⟩:=hr.get' hx;rw[rz]at G;obtain⟨q,D,rfl⟩:=FA.mp G;have E:i<ps.length:=(ko.mp D).1;have O:ps[i]=q:=(ko.mp D).2
  have z:=hs q (we D) x o j (fun u d t=>w d/\aF H0 t/\bI K t ((ps.take (i+1)).flatMap φ) (us++u)) s p (I.same s) fun u d t m=>by
   refine⟨m.p,s.trans m.s,?_⟩;rw[Lc E,O,Ma];exact(r.same m.s).append (by rw[LN,Ri,LH];exact m.r)
  simp only[LH]at z;exact z
 ·rintro o us j ⟨_,s,r⟩ p hp;rw[l,Lv]at r;exact k p _ us (s.trans (ae hp _)) (s.free hp) af (r.same (ae hp _))
theorem bI.oM{H:Hp}:∀{ns:List Int}{d:List V},bI K H (ns.map .i) d->d=ns.map V.int
 | [],_,h=>h.fE
 |n::r,_,h=>by
  obtain⟨v,e,rfl,g,h⟩:=bI.inv (K:=K) (x:=.i n) h;rw[g.cV,oM h];rfl
theorem bI.rH{H:Hp}:∀{ns:List Str}{d:List V},bI K H (ns.map .s) d->d=ns.map V.str
 | [],_,h=>h.fE
 |n::r,_,h=>by
  obtain⟨v,e,rfl,g,h⟩:=bI.inv (K:=K) (x:=.s n) h;rw[g.aR,rH h];rfl
theorem bI.EK{H:Hp}:∀ns:List Int,bI K H (ns.map .i) (ns.map V.int)
 | []=>.nil
 |n::r=>.cons .i (bI.EK r)
end
end L2
namespace G33
open PySem L2
inductive Kk|num|kd (x:Str)|op (n:Int)|row (k:Kk)
noncomputable def bW:Kk->T
 |.num=>.s "num"
 |.kd x=>.t [.s "kind",.s x]
 |.op n=>.t [.s "open",.i n]
 |.row k=>.t [.s "row",bW k]
noncomputable def Kk.core:Kk->Kk
 |.row k=>k.core
 |k=>k
noncomputable def Kk.pG:Kk->Option Int
 |.row k=>k.pG
 |.op n=>some n
 |_=>none
noncomputable def Kk.dep:Kk->Nat
 |.row k=>k.dep+1
 |_=>0
noncomputable def Kk.ok(ns:List Str):Kk->Prop
 |.num=>True
 |.kd x=>x∈ns
 |.op _=>False
 |.row k=>k.ok ns
theorem iz:∀k:Kk,(bW k).dep<=k.dep+1
 |.num=>EI
 |.kd x=>II (d:=0) (FO EI (FO EI IG))
 |.op n=>II (d:=0) (FO EI (FO JM IG))
 |.row k=>II (d:=k.dep+1) (FO EI (FO (iz k) IG))
theorem Kk.wm:∀k:Kk,k.core.pG=k.pG
 |.num=>rfl
 |.kd x=>rfl
 |.op n=>rfl
 |.row k=>wm k
theorem Kk.zh:∀(k j:Kk),k.core≠.row j
 |.num,_=>nofun
 |.kd x,_=>nofun
 |.op n,_=>nofun
 |.row k,j=>zh k j
noncomputable def lU(t:Tm):List Int:=t.parts.filterMap dD
theorem BO(h:Hd):∀ts:List Tm,(Tm.eA ts).filterMap dD=ts.flatMap lU
 | []=>by rw[Tm.eA];rfl
 |t::r=>by rw[Tm.fV,Nt,BO h r];rfl
theorem fJ{h:Hd}{ts:List Tm}(e:dD (.mk h ts)=none):lU (.mk h ts)=ts.flatMap lU:=by
 unfold lU;rw[Tm.jq,List.filterMap_cons_none e];exact BO h ts
noncomputable def sA(p:Str×Kk):T:=.t [.s p.1,bW p.2]
noncomputable def mD(d:Str×List (Str×Kk)×Tm):T:=.t [.s d.1,.t (d.2.1.map sA),enc d.2.2]
noncomputable def jz(kt:T)(ds:List (Str×List (Str×Kk)×Tm)):T:=.t [kt,.t (ds.map mD)]
noncomputable def iU(ps:List (Str×Kk)):List Int:=ps.filterMap fun p=>p.2.pG
noncomputable def bE(ds:List (Str×List (Str×Kk)×Tm)):List Int:=ds.flatMap fun d=>d.2.2.parts.filterMap dD
noncomputable def bO(ds:List (Str×List (Str×Kk)×Tm)):List Int:=ds.flatMap fun d=>iU d.2.1
theorem uJ{d e:Type}{f:d->List e}{b:Nat}:∀{l:List d},(∀x∈l,(f x).length<=b)->(l.flatMap f).length<=l.length*b
 | [],_=>Ld _
 |x::r,h=>by
  rw[LN,lu,Lu,RB];have:=h x (.head _);have:=uJ (f:=f) (b:=b) (l:=r) (fun y g=>h y (.tail _ g));omega
noncomputable def pV(ds:List (Str×List (Str×Kk)×Tm)):Prop:=ds.length<=8/\∀d∈ds,Wf d.2.2/\d.2.2.size<=100/\d.2.1.length<=8
theorem pV.take{ds:List (Str×List (Str×Kk)×Tm)}(h:pV ds)(j:Nat):pV (ds.take j):=⟨I0 (by rw[Lb];exact Nat.min_le_right _ _) h.1,fun d hd=>h.2 d (Ly hd)⟩
theorem tU{ds:List (Str×List (Str×Kk)×Tm)}(h:pV ds):(bE ds).length<=900:=by
 have:=uJ (f:=fun d:Str×List (Str×Kk)×Tm=>d.2.2.parts.filterMap dD) (b:=100) (l:=ds) (fun d hd=>I0 (Mk _ _) (by rw[Tm.cY];exact(h.2 d hd).2.1));have:=h.1;unfold bE;omega
theorem BP{ds:List (Str×List (Str×Kk)×Tm)}(h:pV ds):(bO ds).length<=64:=by
 have:=uJ (f:=fun d:Str×List (Str×Kk)×Tm=>iU d.2.1) (b:=8) (l:=ds) (fun d hd=>I0 (Mk _ _) (h.2 d hd).2.2);have:=h.1;unfold bO;omega
theorem uK{ds:List (Str×List (Str×Kk)×Tm)}{j:Nat}{d:Str×List (Str×Kk)×Tm}(g:j<ds.length)(e:ds[j]=d):bE (ds.take (j+1))=bE (ds.take j)++d.2.2.parts.filterMap dD:=by
 unfold bE;rw[Lc g,e,Ma];simp
theorem uL{ds:List (Str×List (Str×Kk)×Tm)}{j:Nat}{d:Str×List (Str×Kk)×Tm}(g:j<ds.length)(e:ds[j]=d):bO (ds.take (j+1))=bO (ds.take j)++iU d.2.1:=by
 unfold bO;rw[Lc g,e,Ma];simp
structure GI(H0:Hp) (l1 l2:Addr) (a b:List Int) (H:Hp):Prop where
 s:aF H0 H
 h1:H l1=some (.lst (a.map V.int))
 h2:H l2=some (.lst (b.map V.int))
noncomputable def jS(K:bA):Sp:=fun e H Q _=>∃(v:V) (k:Kk),e=[v]/\Rp K H (bW k) v/\∀d,Rp K H (bW k.core) d->Q d H
section
variable {P:FG}{w:Lk}{K:bA}{mg:Str->Option j3}{base:Heap}{gI gG:Addr}{ifd gfd:zo}
theorem lD:Nm ["kind"] (aj iG):=by decide +kernel
theorem uM:Lm ["kind"] (aj iG):=by decide +kernel
theorem oO:aI ["kind"] ["kind"] (aj iG):=⟨rfl,rfl,rfl,by decide +kernel,rfl,by decide +kernel,by decide +kernel⟩
theorem uN{f:Addr}{I:zo}(F:gX K "innermost" "innermost" iG f I):bK P w K mg base eL 1 f I ["kind"] (jS K):=by
 refine F.ok oO (fun L H Q E h=>?_) (fun T A B s H L Q E hr h=>?_)
 ·obtain⟨_,_,rfl,_⟩:=h;rfl
 obtain⟨v,C,rfl,M,k⟩:=h;refine⟨_,(Z6 (@nY _ _ _ _ _ _ PX (Zf bJ (Z9 jm (va lD 0)) az) (Zg (Z2 oO.nd uM 0 (Z9 jm (va lD 0))))) (Zg (cB (va lD 0)))),?_⟩
 try dsimp only[bM]
 try dsimp only[bM]
 refine⟨fun m G o=>o=H/\∃(v:V) (l:Kk),G=[some v]/\Rp K H (bW l) v/\l.dep=m/\l.core=C.core,⟨C.dep,rfl,v,C,rfl,M,rfl,rfl⟩,?_⟩;rintro m G o ⟨rfl,v,l,rfl,j,O,y⟩
 have g:∀(s:Str),s≠"row"->¬(decide (V.str s=V.str "row")=true):=fun s N h=>by
  have e:=of_decide_eq_true h;injection e with e;exact N e
 cases l with
 |num =>
  obtain rfl:=(show Rp K o (.s "num") v from j).aR;refine⟨_,rfl,.inr (.inr ⟨_,0,110,rfl,rfl,(by decide +kernel),(by decide +kernel),rfl,_,rfl,cH (fun c=>absurd c (g _ (by decide +kernel))) (fun _=>?_)⟩)⟩;fail "R";exact k _ (by rw[←y];exact j)
 |kd x =>
  obtain⟨p,l,r,rfl,d,u,D⟩:=(show Rp K o (.t [.s "kind",.s x]) v from j).t2;obtain rfl:=u.aR;refine⟨_,rfl,.inr (.inl ⟨p,_,0,.str "kind",rfl,rfl,d,rfl,rfl,_,rfl,cH (fun c=>absurd c (g _ (by decide +kernel))) (fun _=>?_)⟩)⟩;fail "R";exact k _ (by rw[←y];exact j)
 |op n =>
  obtain⟨p,l,r,rfl,d,u,D⟩:=(show Rp K o (.t [.s "open",.i n]) v from j).t2;obtain rfl:=u.aR;refine⟨_,rfl,.inr (.inl ⟨p,_,0,.str "open",rfl,rfl,d,rfl,rfl,_,rfl,cH (fun c=>absurd c (g _ (by decide +kernel))) (fun _=>?_)⟩)⟩;fail "R";exact k _ (by rw[←y];exact j)
 |row r =>
  obtain⟨p,U,z,rfl,d,u,D⟩:=(show Rp K o (.t [.s "row",bW r]) v from j).t2;obtain rfl:=u.aR;refine⟨_,rfl,.inr (.inl ⟨p,_,0,.str "row",rfl,rfl,d,rfl,rfl,_,rfl,cH (fun _=>?_) (fun c=>absurd (by decide +kernel) c)⟩)⟩;refine⟨fun q J=>J=o/\q=[some z],fun q J ⟨S,R⟩=>⟨r.dep,by rw[←O];exact Pe _,S,z,r,R,D,rfl,y⟩,?_⟩;exact⟨_,rfl,.inr (.inl ⟨p,_,1,z,rfl,rfl,d,rfl,rfl,rfl⟩)⟩
theorem iV:Nm ["program","kinds","defs","of_terms","of_kinds","name","params","term","cores"] (aj nJ):=by decide +kernel
theorem jT:Lm ["program","kinds","defs","of_terms","of_kinds","name","params","term","cores"] (aj nJ):=by decide +kernel
theorem iW:aI ["program","kinds","defs","of_terms","of_kinds","name","params","term","cores"] ["program"] (aj nJ):=⟨rfl,rfl,rfl,by decide +kernel,rfl,by decide +kernel,by decide +kernel⟩
noncomputable def BQ(K:bA):Sp:=fun g H Q _=>∃(v:V) (kt:T) (e:List (Str×List (Str×Kk)×Tm)),g=[v]/\Rp K H (jz kt e) v/\pV e /\
 ∀(p l1 l2:Addr) (d:Hp),aF H d->H l1=none->H l2=none->l1≠l2->d p=some (.tup [.ref l1,.ref l2])->d l1=some (.lst ((bE e).map V.int))->d l2=some (.lst ((bO e).map V.int))->Q (.ref p) d
theorem DW{f:Addr}{fd:zo}(F:gX K "gaps" "gaps" nJ f fd)(IM:bY P w K mg base "innermost" 1 ["kind"] (jS K) gI ifd)(GA:bY P w K mg base "gaps_in" 4 ["term"] (oJ K) gG gfd):bK P w K mg base eL 5 f fd ["program"] (BQ K):=by
 refine F.ok iW (fun vs H Q E h=>?_) (fun a9 A ag s H vs Q E hr h=>?_)
 ·obtain⟨_,_,_,rfl,_⟩:=h;rfl
 obtain⟨v,kt,m,rfl,r0,q,k⟩:=h;refine⟨_,(Z6 (Zo (va iV 0) (Zc (Zh (ga iW.nd jT 1) (aG (ga iW.nd jT 2) aZ)))) (Z6 (sa iW.nd jT 3 (bg ak)) (Z6 (sa iW.nd jT 4 (bg ak)) (Z6 (Zj (dh (va iV 2)) (@fO _ _ _ _ _ (3) K rfl rfl (Zh (ga iW.nd jT 5) (Zh (ga iW.nd jT 6) (aG (ga iW.nd jT 7) aZ))) (by rfl) (by rfl)) (Z6 (@cu _ _ _ _ (Z7 Mz MA i8 (va iV 3) (Z1 (Z0 GA (Zb (va iV 7))) ak)) (by rfl)) (Z6 (Zi (aj nJ) ["program","kinds","defs","of_terms","of_kinds","name","params","term","cores"] ["param","kind"] [] (dh (va iV 6)) (fun _ _ _ _=>(Zc (Zh (Z3 (i:=0) (show(["param","kind"]:List Str).Nodup by decide +kernel)) (aG (Z3 (i:=1) (show(["param","kind"]:List Str).Nodup by decide +kernel)) aZ)))) (fun _ _ _ _=>dW) (fun _ _ _ _=>(Z0 IM (Zb (va (show Nm ["param","kind"] _ by show _=_;kernel_rfl) 1)))) (ga iW.nd jT 8)) (Zg (@cu _ _ _ _ (Z7 Mz MA i8 (va iV 4) (Z1 (@fG _ _ _ _ _ _ _ _ _ _ _ (aj nJ) ["program","kinds","defs","of_terms","of_kinds","name","params","term","cores"] ["core"] [] rfl rfl rfl (by decide +kernel) (cX (va iV 8)) (fun _ _ _ _=>(Z3 (i:=0) (show(["core"]:List Str).Nodup by decide +kernel))) (fun _ _ _ _=>(@gz _ _ _ (Zf bJ (Z9 (DV K rfl) (va (show Nm ["core"] _ by show _=_;kernel_rfl) 0)) az))) (fun _ _ _ _=>(Z9 (fP K rfl) (va (show Nm ["core"] _ by show _=_;kernel_rfl) 0))) (by intro _;rfl)) ak)) (by rfl)))))) (Zg (Zn (Ze (Z1 (va iV 3) (Zb (va iV 4)))))))))),?_⟩
 try dsimp only[bM]
 try dsimp only[bM]
 obtain⟨pa,v1,v2,rfl,a2,g1,g2⟩:=r0.t2;obtain⟨da,ar,rfl,aa,O⟩:=g2.aY;have ld:=O.length;rw[bC]at ld;fail "R";intro l1 I;have s1:=ae I (.lst []);have h1:upd H l1 (.lst []) l1=some (.lst []):=af;generalize upd H l1 (.lst [])=H1 at s1 h1⊢;fail "R";intro l2 G;have s2:=ae G (.lst []);have C:l1≠l2:=aq h1 G;have Z:=s2 _ _ h1;have h2:upd H1 l2 (.lst []) l2=some (.lst []):=af;have B:H l2=none:=s1.free G;generalize upd H1 l2 (.lst [])=H2 at s2 h2 Z⊢;have as:=aa.same (s1.trans s2);fail "R";refine mV (K:=K) (xs:=ar) (fun j u H3=>(∃y5 y6 y7 y8,u=[some (.ref pa),some v1,some (.ref da),some (.ref l1),some (.ref l2),y5,y6,y7,y8])/\GI H l1 l2 (bE (m.take j)) (bO (m.take j)) H3) ⟨⟨_,_,_,_,rfl⟩,⟨s1.trans s2,Z,h2⟩⟩ ?_ ?_ ?_
 ·rintro j u H3 hj ⟨_,g⟩;exact aa.same g.s
 ·rintro j xv u H3 hxv ⟨⟨_,_,_,_,rfl⟩,g⟩;obtain⟨yv,R,ac⟩:=O.get' hxv;rw[rz]at R;obtain⟨d,W,rfl⟩:=FA.mp R;have o:j<m.length:=(ko.mp W).1;have ej:m[j]=d:=(ko.mp W).2;obtain⟨ta,w1,w2,w3,rfl,a0,q1,q2,q3⟩:=(show Rp K H3 (.t [.s d.1,.t (d.2.1.map sA),enc d.2.2]) xv from ac.same g.s).t3;obtain⟨qa,a1,rfl,ad,L⟩:=q2.aY;have lq:=L.length;rw[bC]at lq;obtain⟨wf,wz,wp⟩:=q.2 d (by rw[←ej];exact Ox o);have aw:d.2.2.size<=900:=by omega
  have ai:=g.h1;have ah:=g.h2;fail "R";intro p4 H4 r a5 h4;have a4:=tU (q.take j);have a3:=BP (q.take j);have U:=tU (q.take (j+1));have S:=BP (q.take (j+1));rw[uK o ej]at U⊢;rw[uL o ej]at S⊢;have ap:=r _ _ ai;have an:=r _ _ ah;have ab:=g.s.trans r;rw[lu]at U S;have z3:(Nb V.int (bE (Ph j m))).length+(Nb V.int (NL dD d.2.2.parts)).length<=nk:=small (by rw[bC,bC];omega);have s5:=ab.rG I (.lst (Nb V.int (bE (Ph j m))++Nb V.int (NL dD d.2.2.parts)));have Y:upd H4 l1 (.lst (Nb V.int (bE (Ph j m))++Nb V.int (NL dD d.2.2.parts))) l1=some (.lst (Nb V.int (bE (Ph j m))++Nb V.int (NL dD d.2.2.parts))):=af;have X:upd H4 l1 (.lst (Nb V.int (bE (Ph j m))++Nb V.int (NL dD d.2.2.parts))) l2=some (.lst ((bO (m.take j)).map V.int)):=by rw[av C.symm];exact an
  have k5:=Kt.lst ap (.lst (Nb V.int (bE (Ph j m))++Nb V.int (NL dD d.2.2.parts)));have M:=(L.same r).kt k5;have J:=(ad.same r).kt k5;fail "R";generalize upd H4 l1 (.lst (Nb V.int (bE (Ph j m))++Nb V.int (NL dD d.2.2.parts)))=H5 at s5 Y X k5 M J⊢;refine fB (e:=sA) (φ:=fun p=>[bW p.2.core]) (fun u=>∃a b,u=[a,b]) J M (by omega) (fun _=>lj _) ⟨_,_,rfl⟩ ?_ ?_
  ·rintro p hp x _ H6 N s6 ⟨_,_,rfl⟩ rx kN;obtain⟨xa,x1,x2,rfl,au,r1,r2⟩:=(show Rp K H6 (.t [.s p.1,bW p.2]) x from rx).t2;fail "R";intro v' r';exact kN _ _ _ ⟨⟨_,_,rfl⟩,aF.refl _,.one r'⟩
  intro l6 H6 ay s6 a7 h6 r6;have am:=s6 _ _ X;fail "R";refine ik (ps:=d.2.1) (e:=fun p=>bW p.2.core) (φ:=fun p=>p.2.pG.toList.map .i) (fun u=>∃a,u=[a]) h6 ?_ (by omega) (fun p=>?_) ⟨_,rfl⟩ ?_ ?_
  ·rw[iL]at r6;exact r6
  ·cases p.2.pG<;>simp
  ·rintro p hp x _ H7 N s7 ⟨_,rfl⟩ rx kN
   have z:∀(s:Str),s≠"open"->¬(decide (V.str s=V.str "open")=true):=fun s hs h=>by
    have e:=of_decide_eq_true h;injection e with e;exact hs e
   have hc:=Kk.wm p.2;have hn:=Kk.zh p.2;generalize p.2.core=c at rx hc hn;rw[←hc]at kN
   cases c with
   |row c=>exact absurd rfl (hn c)
   |num =>
    obtain rfl:=(show Rp K H7 (.s "num") x from rx).aR;refine⟨_,rfl,.inr (.inr ⟨_,0,110,rfl,rfl,(by decide +kernel),(by decide +kernel),rfl,_,rfl,cH (fun c=>absurd c (z _ (by decide +kernel))) (fun _=>?_)⟩)⟩;exact kN _ _ _ ⟨⟨_,rfl⟩,aF.refl _,.nil⟩
   |kd y =>
    obtain⟨ka,k1,k2,rfl,D,g1,g2⟩:=(show Rp K H7 (.t [.s "kind",.s y]) x from rx).t2;obtain rfl:=g1.aR;refine⟨_,rfl,.inr (.inl ⟨ka,_,0,.str "kind",rfl,rfl,D,rfl,rfl,_,rfl,cH (fun c=>absurd c (z _ (by decide +kernel))) (fun _=>?_)⟩)⟩;exact kN _ _ _ ⟨⟨_,rfl⟩,aF.refl _,.nil⟩
   |op n =>
    obtain⟨ka,k1,k2,rfl,D,g1,g2⟩:=(show Rp K H7 (.t [.s "open",.i n]) x from rx).t2;obtain rfl:=g1.aR;obtain rfl:=g2.cV;refine⟨_,rfl,.inr (.inl ⟨ka,_,0,.str "open",rfl,rfl,D,rfl,rfl,_,rfl,cH (fun _=>?_) (fun c=>absurd (by decide +kernel) c)⟩)⟩;fail "R";exact kN _ _ _ ⟨⟨_,rfl⟩,aF.refl _,.one .i⟩
  intro l7 H7 ax s7 a6 h7 r7
  have e7:(d.2.1.flatMap fun p=>p.2.pG.toList.map .i)=(iU d.2.1).map T.i:=by
   unfold iU;generalize d.2.1=l
   induction l with
   |nil=>rfl
   |cons p l ih=>rw[LN,ih,Mg];cases p.2.pG<;>rfl
  rw[e7]at r7;obtain rfl:=r7.oM;have a8:=s7 _ _ am;have al:=s7 _ _ (s6 _ _ Y);have z4:(Nb V.int (bO (Ph j m))).length+(Nb V.int (iU d.2.1)).length<=nk:=small (by rw[bC,bC];omega);fail "R"
  ·exact⟨((s5.trans s6).trans s7).rG B _,by rw[av C,uK o ej,nq];exact al,by rw[uL o ej,nq];exact af⟩
 ·rintro u H3 ⟨⟨_,_,_,_,rfl⟩,g⟩;rw[ld,Lv]at g;fail "R";intro p hp;have r:=ae hp (.tup [.ref l1,.ref l2]);exact k p l1 l2 _ (g.s.trans r) I B C af (r _ _ g.h1) (r _ _ g.h2)
end
noncomputable def kw:Kk->Str
 |.num=>"n"
 |.kd _=>"kind"
 |.op _=>"open"
 |.row _=>"row"
theorem jA{K:bA}{H:Hp}{k:Kk}{v:V}(r:Rp K H (bW k) v){Q:V->Hp->Prop}(l:Q (.str (kw k)) H):Ho K v (.int 0) H Q:=by
 cases k with
 |num =>
  obtain rfl:=(show Rp K H (.s "num") v from r).aR;exact .inr (.inr ⟨_,0,110,rfl,rfl,(by decide +kernel),(by decide +kernel),l⟩)
 |kd x =>
  obtain⟨e,o,m,rfl,d,g,p⟩:=(show Rp K H (.t [.s "kind",.s x]) v from r).t2;obtain rfl:=g.aR;exact .inr (.inl ⟨e,_,0,.str "kind",rfl,rfl,d,rfl,l⟩)
 |op n =>
  obtain⟨e,o,m,rfl,d,g,p⟩:=(show Rp K H (.t [.s "open",.i n]) v from r).t2;obtain rfl:=g.aR;exact .inr (.inl ⟨e,_,0,.str "open",rfl,rfl,d,rfl,l⟩)
 |row j =>
  obtain⟨e,o,m,rfl,d,g,p⟩:=(show Rp K H (.t [.s "row",bW j]) v from r).t2;obtain rfl:=g.aR;exact .inr (.inl ⟨e,_,0,.str "row",rfl,rfl,d,rfl,l⟩)
theorem FZ{K:bA}{H:Hp}{k:Kk}{v:V}(r:Rp K H (bW (.row k)) v):∃u,Rp K H (bW k) u/\∀{Q:V->Hp->Prop},Q u H->Ho K v (.int 1) H Q:=by
 obtain⟨g,m,e,rfl,d,o,l⟩:=(show Rp K H (.t [.s "row",bW k]) v from r).t2;exact⟨e,l,fun j=>.inr (.inl ⟨g,_,1,e,rfl,rfl,d,rfl,j⟩)⟩
theorem EL{K:bA}{H:Hp}{n:Int}{v:V}(r:Rp K H (bW (.op n)) v){Q:V->Hp->Prop}(g:Q (.int n) H):Ho K v (.int 1) H Q:=by
 obtain⟨e,m,l,rfl,d,o,j⟩:=(show Rp K H (.t [.s "open",.i n]) v from r).t2;obtain rfl:=j.cV;exact .inr (.inl ⟨e,_,1,.int n,rfl,rfl,d,rfl,g⟩)
noncomputable def zj:Nat->Kk->Kk
 |0,k=>k
 |d+1,k=>.row (zj d k)
noncomputable def jB(d:Int->Option Kk):Kk->Kk
 |.row k=>.row (jB d k)
 |.op n=>(d n).getD (.op n)
 |k=>k
theorem tV(d:Int->Option Kk):∀k:Kk,jB d k=zj k.dep (jB d k.core)
 |.num=>rfl
 |.kd _=>rfl
 |.op _=>rfl
 |.row k=>congrArg Kk.row (tV d k)
structure jC{α:Type}(K:bA) (tr:α->T) (H:Hp) (d:Addr) (pf:Int->Option α):Prop where
 x:∃kvs,H d=some (.dK kvs)/\∀n,(∀y,pf n=some y->∃v,dU kvs (Sum.inl n)=some v/\Rp K H (tr y) v)/\(pf n=none->dU kvs (Sum.inl n)=none)
theorem jC.same{j:Type}{K:bA}{tr:j->T}{H m:Hp}{d:Addr}{l:Int->Option j}(p:jC K tr H d l)(s:aF H m):jC K tr m d l:=by
 obtain⟨g,h,q⟩:=p.x;exact⟨g,s _ _ h,fun n=>⟨fun y e=>by obtain⟨v,a,b⟩:=(q n).1 y e;exact⟨v,a,b.same s⟩,(q n).2⟩⟩
theorem jC.get{j:Type}{K:bA}{tr:j->T}{H:Hp}{d:Addr}{l:Int->Option j}(p:jC K tr H d l)(n:Int){y0:j}{m:V}(r:Rp K H (tr y0) m):Jl H d/\∃o,j4 H d (.int n) o/\Rp K H (tr ((l n).getD y0)) (o.getD m):=by
 obtain⟨g,h,q⟩:=p.x;refine⟨.inl ⟨g,.inl h⟩,dU g (Sum.inl n),j4.k (k:=Sum.inl n) h,?_⟩
 cases e:l n with
 |none=>rw[(q n).2 e];exact r
 |some y =>
  obtain⟨v,a,b⟩:=(q n).1 y e;rw[a];exact b
theorem jC.here{l:Type}{K:bA}{tr:l->T}{H:Hp}{d:Addr}{g:Int->Option l}(p:jC K tr H d g)(n:Int):∃o,j4 H d (.int n) o/\o.isSome=(g n).isSome/\∀y,g n=some y->∃v,o=some v/\Rp K H (tr y) v:=by
 obtain⟨j,h,q⟩:=p.x;refine⟨dU j (Sum.inl n),j4.k (k:=Sum.inl n) h,?_,(q n).1⟩
 cases e:g n with
 |none=>rw[(q n).2 e];rfl
 |some y=>obtain⟨v,a,_⟩:=(q n).1 y e;rw[a];rfl
noncomputable def zk(K:bA):Sp:=fun d H Q _=>∃(v:V) (k:Kk),d=[v]/\Rp K H (bW k) v/\Q (.int k.dep) H
noncomputable def BR(K:bA):Sp:=fun j H Q _=>∃(v:V) (k:Kk) (d:Nat),j=[v,.int d]/\Rp K H (bW k) v/\d<=100/\∀g e,aF H e->Rp K e (bW (zj d k)) g->Q g e
noncomputable def DX(K:bA):Sp:=fun e H Q _=>∃(v:V) (k:Kk),e=[v]/\Rp K H (bW k) v/\∀l d,aF H d->H l=none->d l=some (.lst (k.pG.toList.map V.int))->Q (.ref l) d
noncomputable def BS(K:bA):Sp:=fun l H Q _=>∃(v:V) (d:Addr) (k:Kk) (j:Int->Option Kk),l=[v,.ref d]/\Rp K H (bW k) v/\jC K bW H d j/\k.dep<=100/\∀g e,aF H e->Rp K e (bW (jB j k)) g->Q g e
theorem BU{a b:Str}(h:a≠b):¬(decide (V.str a=V.str b)=true):=fun z=>by
 have e:=of_decide_eq_true z;injection e with e;exact h e
theorem F0:∀k:Kk,(∃j,k=.row j)\/(kw k≠"row"/\k.dep=0)
 |.num=>.inr ⟨by decide +kernel,rfl⟩
 |.kd _=>.inr ⟨by show("kind":Str)≠"row";decide +kernel,rfl⟩
 |.op _=>.inr ⟨by show("open":Str)≠"row";decide +kernel,rfl⟩
 |.row j=>.inl ⟨j,rfl⟩
theorem BV:∀k:Kk,(∃n,k.core=.op n/\k.pG=some n)\/(kw k.core≠"open"/\k.pG=none/\∀d,jB d k=k)
 |.num=>.inr ⟨by decide +kernel,rfl,fun _=>rfl⟩
 |.kd _=>.inr ⟨by show("kind":Str)≠"open";decide +kernel,rfl,fun _=>rfl⟩
 |.op n=>.inl ⟨n,rfl,rfl⟩
 |.row j=>(BV j).imp (fun⟨n,a,b⟩=>⟨n,a,b⟩) (fun⟨a,b,c⟩=>⟨a,b,fun d=>congrArg Kk.row (c d)⟩)
section
variable {P:FG}{w:Lk}{K:bA}{mg:Str->Option j3}{base:Heap}{gI gD gR:Addr}{ifd dfd rfd:zo}
theorem lE:Nm ["kind","depth"] (aj iF):=by decide +kernel
theorem oQ:Lm ["kind","depth"] (aj iF):=by decide +kernel
theorem iX:aI ["kind","depth"] ["kind"] (aj iF):=⟨rfl,rfl,rfl,by decide +kernel,rfl,by decide +kernel,by decide +kernel⟩
theorem BX{f:Addr}{z:zo}(F:gX K "kind_deep" "kind_deep" iF f z):bK P w K mg base eL 1 f z ["kind"] (zk K):=by
 refine F.ok iX (fun C H Q E h=>?_) (fun L A p s H C Q E hr h=>?_)
 ·obtain⟨_,_,rfl,_⟩:=h;rfl
 obtain⟨v,o,rfl,D,k⟩:=h;refine⟨_,(Z6 (sa iX.nd oQ 1 ao) (Z6 (@nY _ _ _ _ _ _ PX (Zf bJ (Z9 jm (va lE 0)) az) (Z6 (Z2 iX.nd oQ 0 (Z9 jm (va lE 0))) (cg (E9 (i:=1) iX.nd rfl (Or.inl rfl) ao Fb)))) (Zg (cB (va lE 1))))),?_⟩
 try dsimp only[bM]
 try dsimp only[bM]
 refine⟨fun m r q=>q=H/\∃(v:V) (l:Kk) (j:Nat),r=[some v,some (.int j)]/\Rp K H (bW l) v/\l.dep=m/\m+j=o.dep,⟨o.dep,rfl,v,o,0,rfl,D,rfl,rfl⟩,?_⟩;rintro m r q ⟨rfl,v,l,j,rfl,t,y,G⟩;refine⟨_,rfl,jA t ?_⟩;refine⟨rfl,_,rfl,?_⟩;rcases F0 l with⟨k2,rfl⟩|⟨hw,h0⟩
 ·obtain⟨u,g,one⟩:=FZ t;refine cH (fun _=>?_) (fun c=>absurd (decide_eq_true rfl) c);refine⟨fun d B=>B=q/\d=[some u,some (.int (j+1:Nat))],fun d B ⟨J,I⟩=>⟨k2.dep,by rw[←y];exact Pe _,J,u,k2,j+1,I,g,rfl,by rw[←G,←y,Kk.dep];omega⟩,?_⟩;exact⟨_,rfl,one ⟨_,rfl,_,_,rfl,rfl,rfl,rfl⟩⟩
 ·refine cH (fun c=>absurd c (BU hw)) (fun _=>?_);fail "R";have e:j=o.dep:=by omega
  rw[e];exact k
theorem nN:Nm ["kind","depth","row"] (aj ku):=by decide +kernel
theorem rJ:Lm ["kind","depth","row"] (aj ku):=by decide +kernel
theorem nO:aI ["kind","depth","row"] ["kind","depth"] (aj ku):=⟨rfl,rfl,rfl,by decide +kernel,rfl,by decide +kernel,by decide +kernel⟩
theorem DY{f:Addr}{r:zo}(F:gX K "in_rows" "in_rows" ku f r)(z_range:mg "range"=none):bK P w K mg base eL 1 f r ["kind","depth"] (BR K):=by
 refine F.ok nO (fun t H Q E h=>?_) (fun z A o s H t Q E hr h=>?_)
 ·obtain⟨_,_,_,rfl,_⟩:=h;rfl
 obtain⟨v,c,d,rfl,u,hd,k⟩:=h;refine⟨_,(Z6 (Zj (Zp (Zb (va nN 1))) (ga nO.nd rJ 2) (Zg (Z2 nO.nd rJ 0 (Ze (Z1 az (Zb (va nN 0))))))) (Zg (cB (va nN 0)))),?_⟩
 try dsimp only[bM]
 try dsimp only[bM]
 fail "R";refine fU (fun i j g=>∃e y,j=[some e,some (.int d),y]/\aF H g/\Rp K g (bW (zj i c)) e) ⟨v,_,rfl,aF.refl _,u⟩ ?_ ?_
 ·rintro i j g hi ⟨e,y,rfl,l,m⟩;fail "R";intro p q;exact⟨_,_,rfl,l.trans (ae q _),Rp.new (K:=K) q (.cons .s (.one m))⟩
 ·rintro j g ⟨e,y,rfl,l,m⟩;fail "R";exact k _ _ l m
theorem mE:Nm ["kind","core"] (aj jt):=by decide +kernel
theorem wq:Lm ["kind","core"] (aj jt):=by decide +kernel
theorem qj:aI ["kind","core"] ["kind"] (aj jt):=⟨rfl,rfl,rfl,by decide +kernel,rfl,by decide +kernel,by decide +kernel⟩
theorem BY{f:Addr}{m:zo}(F:gX K "opens_in" "opens_in" jt f m)(r:bY P w K mg base "innermost" 1 ["kind"] (jS K) gI ifd):bK P w K mg base eL 2 f m ["kind"] (DX K):=by
 refine F.ok qj (fun o H Q E h=>?_) (fun q A j s H o Q E hr h=>?_)
 ·obtain⟨_,_,rfl,_⟩:=h;rfl
 obtain⟨v,p,rfl,u,k⟩:=h;refine⟨_,(Z6 (Z2 qj.nd wq 1 (Z0 r (Zb (va mE 0)))) (Zg (Zn (@qN _ _ _ _ _ _ _ _ (Zf bJ (Z9 jm (va mE 1)) az) (@bg _ _ _ _ (Z1 (Z9 jm (va mE 1)) ak)) (bg ak))))),?_⟩
 try dsimp only[bM]
 try dsimp only[bM]
 fail "R";intro t g;fail "R";refine jA g ?_;rcases BV p with⟨n,e,eo⟩|⟨hw,eo,_⟩
 ·rw[e]at g⊢;fail "R";refine EL g ?_;fail "R";intro l d;exact k l _ (ae d _) d (by rw[eo];exact af)
 ·fail "R";refine cH (fun c=>absurd c (BU hw)) (fun _=>?_);fail "R";intro l d;exact k l _ (ae d _) d (by rw[eo];exact af)
theorem eN:Nm ["kind","puts","core"] (aj jv):=by decide +kernel
theorem wu:Lm ["kind","puts","core"] (aj jv):=by decide +kernel
theorem qk:aI ["kind","puts","core"] ["kind","puts"] (aj jv):=⟨rfl,rfl,rfl,by decide +kernel,rfl,by decide +kernel,by decide +kernel⟩
theorem DZ{f:Addr}{m:zo}(F:gX K "kind_put" "kind_put" jv f m)(D:bY P w K mg base "innermost" 1 ["kind"] (jS K) gI ifd)(l:bY P w K mg base "kind_deep" 1 ["kind"] (zk K) gD dfd)(C:bY P w K mg base "in_rows" 1 ["kind","depth"] (BR K) gR rfd):bK P w K mg base eL 2 f m ["kind","puts"] (BS K):=by
 refine F.ok qk (fun p H Q E h=>?_) (fun B A j s H p Q E hr h=>?_)
 ·obtain⟨_,_,_,_,rfl,_⟩:=h;rfl
 obtain⟨v,d,u,L,rfl,r,t,hd,k⟩:=h;refine⟨_,(Z6 (Z2 qk.nd wu 2 (Z0 D (Zb (va eN 0)))) (Z6 (Zd (Zf Ez (Z9 jm (va eN 2)) az) (Zg (cB (va eN 0)))) (Zg (Zn (Z0 C (Z1 (@qY _ _ _ _ _ _ _ _ _ (jo hr) (va eN 1) (Z9 jm (va eN 2)) (va eN 2) ⟨rfl,rfl,rfl,rfl⟩) (Z1 (Z0 l (Zb (va eN 0))) ak))))))),?_⟩
 try dsimp only[bM]
 try dsimp only[bM]
 fail "R";intro I g;fail "R";refine jA g ?_;rcases BV u with⟨n,e,eo⟩|⟨hw,eo,ep⟩
 ·rw[e]at g⊢;obtain⟨y,o,M,J⟩:=t.get n (y0:=.op n) g;fail "R";refine EL g ?_;fail "R";intro G N q r2;exact k _ _ q (by rw[tV,e];exact r2)
 ·fail "R";refine cH (fun _=>?_) (fun c=>absurd (by rw[decide_eq_false (fun z=>hw (V.str.inj z))];rfl) c);fail "R";exact k _ _ (aF.refl _) (by rw[ep];exact r)
end
end G33
namespace L2
open PySem PySem.Spec PyProof.Rows
noncomputable def mG(b:Bool)(h:Heap)(l:Addr)(xs:Array j3):Prop:=match b with|false=>h.IsList l xs|true=>h.IsTuple l xs
noncomputable def kU(b:Bool)(h:Heap)(i l:Addr)(k:Nat):Prop:=match b with|false=>h.IsListIter i l k|true=>h.IsTupleIter i l k
theorem mG.at{b:Bool}{h h':Heap}{l:Addr}{xs:Array j3}(x:mG b h l xs)(k:∀o,h.get? l=some o->h'.get? l=some o):mG b h' l xs:=by
 cases b with
 |false=>exact Heap.IsList.at (show h.IsList l xs from x) k
 |true=>obtain⟨o,e,r⟩:=(show h.IsTuple l xs from x);exact⟨o,k o e,r⟩
theorem kU.at{b:Bool}{h h':Heap}{i l:Addr}{n:Nat}(x:kU b h i l n)(k:∀o,h.get? i=some o->h'.get? i=some o):kU b h' i l n:=by
 cases b with
 |false=>exact Heap.IsListIter.at (show h.IsListIter i l n from x) k
 |true=>obtain⟨o,e,r⟩:=(show h.IsTupleIter i l n from x);exact⟨o,k o e,r⟩
theorem mG.extBut{b:Bool}{h h':Heap}{l c:Addr}{xs:Array j3}(x:mG b h l xs)(hs:R4 c h h')(d:l≠c):mG b h' l xs:=x.at fun o e=>hs l o d e
theorem kU.extBut{b:Bool}{h h':Heap}{i l c:Addr}{n:Nat}(x:kU b h i l n)(hs:R4 c h h')(d:i≠c):kU b h' i l n:=x.at fun o e=>hs i o d e
theorem mG.got{b:Bool}{h:Heap}{l:Addr}{xs:Array j3}(x:mG b h l xs):∃o,h.get? l=some o:=by
 cases b with
 |false=>obtain⟨o,e,_⟩:=(show h.IsList l xs from x);exact⟨o,e⟩
 |true=>obtain⟨o,e,_⟩:=(show h.IsTuple l xs from x);exact⟨o,e⟩
theorem kU.got{b:Bool}{h:Heap}{i l:Addr}{n:Nat}(x:kU b h i l n):∃o,h.get? i=some o:=by
 cases b with
 |false=>obtain⟨o,e,_⟩:=(show h.IsListIter i l n from x);exact⟨o,e⟩
 |true=>obtain⟨o,e,_⟩:=(show h.IsTupleIter i l n from x);exact⟨o,e⟩
section
variable {prog:FG}{w:Lk}{A:Lz}{E:j3->mu->Prop}{s:mu}
theorem sI{it t:Addr}{i:Nat}{items:Array j3}{x:j3}{Q:j3->mu->Prop}(d:s.heap.IsTupleIter it t i)(ht:s.heap.IsTuple t items)(m:items[i]?=some x)
  (hQ:∀h',h'.IsTupleIter it t (i+1)->NQ it s.heap h'->Q x {s with heap:=h'}):La (Lr prog w) A (Lq (.ref it)) Q E s:=by
 obtain⟨o,e,p,hd⟩:=id d;obtain⟨q,g,_,nl,j⟩:=ht;have l:=d.typeIs;unfold Lq;refine bB (LP (name:=Lj "__next__") l MK (Mr MK l OU ?_ (OP _)));show La _ _ (Rj (.ref it) 0>>=_) _ _ s;refine bB (LL e hd (x:=.ref t) rfl ?_);show La _ _ (if(Value.ref t == Value.none)=true then _ else _) _ _ s;rw[if_neg (show ¬((Value.ref t == Value.none)=true)from Lg)];show La _ _ (Rj (.ref it) 1>>=_) _ _ s;refine bB (LL e hd (x:=.int i 0) rfl ?_);show La _ _ (seqItems? (.ref t)>>=_) _ _ s;refine bB (L6 g j ?_);simp only[Mv,m];refine bB (wpAny_setField e hd (by simp) (my ⟨x,rfl,my (hQ _ ⟨_,Mw _ e (Obj.isFreed_of_fields (Sz hd _)),(Obj.cls_mapFields ..).trans p,?_⟩ (Sb ..))⟩));rw[Sz hd];simp[MN]
theorem uO{it t:Addr}{i:Nat}{items:Array j3}{Q:j3->mu->Prop}(p:A.handled=none)(d:s.heap.IsTupleIter it t i)(ht:s.heap.IsTuple t items)(r:items[i]?=none)
  (hE:∀h' e,R4 it s.heap h'->(∃o,h'.get? e=some o/\o.cls=.type "StopIteration")->E (.ref e) {s with heap:=h'}):La (Lr prog w) A (Lq (.ref it)) Q E s:=by
 obtain⟨o,j,v,hd⟩:=id d;obtain⟨u,g,_,nl,l⟩:=ht;have q:=d.typeIs;unfold Lq;refine bB (LP (name:=Lj "__next__") q MK (Mr MK q OU ?_ (OP _)));show La _ _ (Rj (.ref it) 0>>=_) _ _ s;refine bB (LL j hd (x:=.ref t) rfl ?_);show La _ _ (if(Value.ref t == Value.none)=true then _ else _) _ _ s;rw[if_neg (show ¬((Value.ref t == Value.none)=true)from Lg)];show La _ _ (Rj (.ref it) 1>>=_) _ _ s;refine bB (LL j hd (x:=.int i 0) rfl ?_);show La _ _ (seqItems? (.ref t)>>=_) _ _ s;refine bB (L6 g l ?_);simp only[Mv,r];refine bB (Ol (bB (wpAny_setField j hd (by simp) ?_)));show La _ _ (newExc (.type "StopIteration") []>>=_) _ _ _;refine bB ?_;simp only[newExc,newTuple];refine bB (Mu ?_ (by size_fits));refine bB (m:=firstArgMember _ _) (wpAny_of_eq (a:=Value.none) (by first|rfl|(simp only[firstArgMember];rfl)) ?_)
 refine Mu ?_ (by size_fits);simp only[raiseNew];refine bB (wpAny_handled ?_)
 first|rw[show A.in1.handled=none from p]|rw[p]
 refine bB (my (wpAny_throw ?_));exact hE _ _ (((Sb ..).extBut.push _).push _) ⟨_,K9 _ rfl,rfl⟩
theorem jD{b:Bool}{it l:Addr}{i:Nat}{items:Array j3}{x:j3}{Q:j3->mu->Prop}(d:kU b s.heap it l i)(g:mG b s.heap l items)(e:items[i]?=some x)
  (hQ:∀h',kU b h' it l (i+1)->NQ it s.heap h'->Q x {s with heap:=h'}):La (Lr prog w) A (Lq (.ref it)) Q E s:=by
 cases b with
 |false=>exact wpAny_nextOf_list_item d g e hQ
 |true=>exact sI d g e hQ
theorem oS{b:Bool}{it l:Addr}{i:Nat}{items:Array j3}{Q:j3->mu->Prop}(m:A.handled=none)(d:kU b s.heap it l i)(j:mG b s.heap l items)(g:items[i]?=none)
  (hE:∀h' e,R4 it s.heap h'->(∃o,h'.get? e=some o/\o.cls=.type "StopIteration")->E (.ref e) {s with heap:=h'}):La (Lr prog w) A (Lq (.ref it)) Q E s:=by
 cases b with
 |false=>exact wpAny_nextOf_list_end m d j g hE
 |true=>exact uO m d j g hE
noncomputable abbrev mH(b:Bool)(l:Addr):Obj:={cls:=.type (cond b "tuple_iterator" "list_iterator"),data:=.fields #[.ref l,.int 0 0]}
theorem wA{b:Bool}{l:Addr}{items:Array j3}{Q:j3->mu->Prop}(d:mG b s.heap l items)(e:Q (.ref s.heap.objs.size) {s with heap:=s.heap.push (mH b l)}):La (Lr prog w) A (pyIter (.ref l)) Q E s:=by
 cases b with
 |false=>exact QH d e
 |true=>exact Qg d e
end
noncomputable abbrev IJ(d:Bool)(h:Heap)(l1:Addr):Heap:=h.push (mH d l1)
noncomputable abbrev IK(e d:Bool)(h:Heap)(l1 l2:Addr):Heap:=(IJ e h l1).push (mH d l2)
noncomputable abbrev IL(d e:Bool)(h:Heap)(l1 l2:Addr):Heap:=(IK d e h l1 l2).push {cls:=.type "tuple",data:=.seq #[.ref h.objs.size,.ref (IJ d h l1).objs.size]}
noncomputable abbrev IP(e d:Bool)(h:Heap)(l1 l2:Addr):Heap:=(IL e d h l1 l2).push {cls:=.type "tuple",data:=.seq #[.none,.none]}
noncomputable abbrev Ga(e d:Bool)(h:Heap)(l1 l2:Addr):Heap:=(IP e d h l1 l2).push {cls:=.type "zip",data:=.fields #[.none,.bool false,.bool false,.ref (IK e d h l1 l2).objs.size,.ref (IL e d h l1 l2).objs.size]}
theorem Gb(j l:Bool)(l1 l2:Addr)(xs ys:Array j3) :
  Meets (Og.«zip.__new__» ⟨[.type "zip",.ref l1,.ref l2],[]⟩) (fun _ R s=>mG j s.heap l1 xs/\mG l s.heap l2 ys/\R (.ok (.ret (.ref (IP j l s.heap l1 l2).objs.size))) {s with heap:=Ga j l s.heap l1 l2}) :=
 .of_wp fun u w A R s h=>by
  obtain⟨z,g,d,t,v⟩:=s;obtain⟨p,m,h⟩:=h;have y:=sub_zip;have r:mG j (S8 ⟨z,g,d,t,v⟩) l1 xs:=p;have q:mG l (S8 ⟨z.push (mH j l1),g,d,t,v⟩) l2 ys:=m.at fun o e=>mC _ e
  wp_walk using wA r,wA q
  exact⟨_,rfl,h⟩
section
variable {prog:FG}{w:Lk}{A:Lz}{E:j3->mu->Prop}{s:mu}{b1 b2:Bool}
theorem BZ{b:Bool}{h:Heap}{i l:Addr}(e:h.get? i=some (mH b l)):kU b h i l 0:=by
 cases b with
 |false=>exact⟨_,e,rfl,rfl⟩
 |true=>exact⟨_,e,rfl,rfl⟩
theorem zl{l1 l2:Addr}{xs ys:Array j3}{Q:j3->mu->Prop}(r:mG b1 s.heap l1 xs)(q:mG b2 s.heap l2 ys)
  (h:∀h',Rk h' (s.heap.objs.size+4) (s.heap.objs.size+2) (s.heap.objs.size+3) .none->MW h' (s.heap.objs.size+2) (.ref s.heap.objs.size) (.ref (s.heap.objs.size+1)) ->
   MW h' (s.heap.objs.size+3) .none .none->kU b1 h' s.heap.objs.size l1 0->kU b2 h' (s.heap.objs.size+1) l2 0->h'.objs.size=s.heap.objs.size+5 ->
   (∀c o,s.heap.get? c=some o->h'.get? c=some o)->Q (.ref (s.heap.objs.size+4)) {s with heap:=h'}) :
  La (Lr prog w) A (call (.type "zip") [.ref l1,.ref l2]) Q E s:=by
 refine callType_new PySem.F.called_zip (by decide) (PySem.F.typeCall_zip_2 _ _) (PySem.F.newCall_zip_2 _ _) (fun p=>PySem.F.args_object_init_3 p _ _) PySem.F.entry_zip_new (Gb b1 b2 l1 l2 xs ys) ⟨r,q,?_⟩;have m:(IJ b1 s.heap l1).objs.size=s.heap.objs.size+1:=My ..;have l:(IK b1 b2 s.heap l1 l2).objs.size=s.heap.objs.size+2:=by rw[My,m]
 have j:(IL b1 b2 s.heap l1 l2).objs.size=s.heap.objs.size+3:=by rw[My,l]
 have g:(IP b1 b2 s.heap l1 l2).objs.size=s.heap.objs.size+4:=by rw[My,j]
 have z:(Ga b1 b2 s.heap l1 l2).objs.size=s.heap.objs.size+5:=by rw[My,g]
 have d:∀{h:Heap}{c:Addr}{o:Obj}(x:Obj),h.get? c=some o->(h.push x).get? c=some o:=fun x e=>mC _ e;have t:(Ga b1 b2 s.heap l1 l2).get? (IP b1 b2 s.heap l1 l2).objs.size=some _:=K9 _ rfl;have u:(Ga b1 b2 s.heap l1 l2).get? (IL b1 b2 s.heap l1 l2).objs.size=some _:=d _ (K9 _ rfl);have v:(Ga b1 b2 s.heap l1 l2).get? (IK b1 b2 s.heap l1 l2).objs.size=some _:=d _ (d _ (K9 _ rfl));have y:(Ga b1 b2 s.heap l1 l2).get? (IJ b1 s.heap l1).objs.size=some (mH b2 l2):=d _ (d _ (d _ (K9 _ rfl)));have B:(Ga b1 b2 s.heap l1 l2).get? s.heap.objs.size=some (mH b1 l1):=d _ (d _ (d _ (d _ (K9 _ rfl))));show _/\_;rw[l,j,g]at t;rw[m,l]at v;rw[j]at u;rw[m]at y;rw[g];exact⟨⟨_,t,rfl⟩,h _ t v u (BZ B) (BZ y) z fun c o x=>d _ (d _ (d _ (d _ (d _ x))))⟩
theorem zm{z TI TO N M l1 l2:Addr}{k1 k2:Nat}{xs ys:Array j3}{x y a b:j3}{Q:Option j3->mu->Prop}(D:Py z TI TO N M l1 l2)(hz:Rk s.heap z TI TO .none)(ah:MW s.heap TI (.ref N) (.ref M))(ag:MW s.heap TO a b)
  (h1:kU b1 s.heap N l1 k1) (h2:kU b2 s.heap M l2 k2) (hl1:mG b1 s.heap l1 xs) (hl2:mG b2 s.heap l2 ys) (hx:xs[k1]?=some x) (hy:ys[k2]?=some y)
  (hQ:∀h',Rk h' z TI TO (MN s.heap.objs.size)->MW h' TO x y->kU b1 h' N l1 (k1+1)->kU b2 h' M l2 (k2+1)->MW h' s.heap.objs.size x y->h'.objs.size=s.heap.objs.size+1 ->
   (∀c o,c≠z->c≠TO->c≠N->c≠M->s.heap.get? c=some o->h'.get? c=some o)->Q (some (.ref s.heap.objs.size)) {s with heap:=h'}) :
  La (Lr prog w) A (OD (.ref z)) Q E s:=by
 have ae:s.TypeIs (.ref z) "zip":=⟨_,hz,rfl⟩;unfold OD;refine bB (Nj (LP (name:=Lj "__next__") ae L7 (Mr L7 ae Nf ?_ (M6 _))));show La _ _ (Rj (.ref z) 2>>=_) _ _ _;refine bB (LL hz rfl (x:=.bool false) rfl ?_);show La _ _ (Rj (.ref z) 3>>=_) _ _ _;refine bB (LL hz rfl (x:=.ref TI) rfl (bB (L6 ah rfl ?_)));show La _ _ (Lx (.ref z)>>=_) _ _ _;refine bB ?_;unfold Lx;refine bB (LL hz rfl (x:=.none) rfl (my ?_));simp only[if_true];refine bB (Ol (bB (LL hz rfl (x:=.ref TO) rfl ?_)));refine bB (MV hz (by simp) fun ab B g=>?_)
 replace B:Rk ab z TI TO .ellipsis:=B
 refine bB ?_;simp only[S2,List.zipIdx_nil,Ny,NK];refine bB (bB (Q0 ?_));show La _ _ (Lq (.ref N)>>=_) _ _ _;refine bB (jD (h1.extBut g.extBut D.i1z) (hl1.extBut g.extBut D.l1z) hx fun aa V l=>my ?_);have I:MW aa TO a b:=l.extBut _ _ D.TOi1 (g.extBut _ _ D.TOz ag);refine bB (L6 I rfl (bB (Pz I fun Z t j=>?_)))
 replace t:MW Z TO x b:=t
 refine bB (PB (my ?_));refine bB (bB (Q0 ?_));show La _ _ (Lq (.ref M)>>=_) _ _ _;refine bB (jD (((h2.extBut g.extBut D.i2z).extBut l.extBut D.i12.symm).extBut j.extBut D.TOi2.symm) (((hl2.extBut g.extBut D.l2z).extBut l.extBut D.l2i1).extBut j.extBut D.l2TO) hy fun Y T q=>my ?_);have H:MW Y TO x b:=q.extBut _ _ D.TOi2 t;refine bB (L6 H rfl (bB (Pz H fun d m p=>?_)))
 replace m:MW d TO x y:=m
 refine bB (PB (my (my (bB (L6 m rfl (bB (wpAny_newTuple ?_)))))));have ad:d.objs.size=s.heap.objs.size:=by rw[p.1,q.1,j.1,l.1,g.1]
 have J:Rk d z TI TO .ellipsis:=p.extBut _ _ D.TOz.symm (q.extBut _ _ D.i2z.symm (j.extBut _ _ D.TOz.symm (l.extBut _ _ D.i1z.symm B)));have R:∀c o,c≠z->c≠TO->c≠N->c≠M->s.heap.get? c=some o->d.get? c=some o:=fun c o W c2 c3 c4 e=>p.extBut _ _ c2 (q.extBut _ _ c4 (j.extBut _ _ c2 (l.extBut _ _ c3 (g.extBut _ _ W e))));have U:kU b1 d N l1 (k1+1):=((V.extBut j.extBut D.TOi1.symm).extBut q.extBut D.i12).extBut p.extBut D.TOi1.symm;have S:kU b2 d M l2 (k2+1):=T.extBut p.extBut D.TOi2.symm;have O:z<d.objs.size:=vy J;show La _ _ (OF (.ref z) (.ref d.objs.size)>>=_) _ _ _;refine bB ?_;unfold OF;have P:Rk (d.push {cls:=.type "tuple",data:=.seq #[x,y]}) z TI TO .ellipsis:=mC _ J;refine bB (MV P (by simp) fun X v G=>?_)
 replace v:Rk X z TI TO (MN d.objs.size):=v
 refine MV v (by simp) fun u r C=>?_
 replace r:Rk u z TI TO (MN d.objs.size):=r
 have up:∀c o,c≠z->d.get? c=some o->u.get? c=some o:=fun c o W e=>C.extBut _ _ W (G.extBut _ _ W (mC _ e));have L:MW u d.objs.size x y:=C.extBut _ _ (NB O) (G.extBut _ _ (NB O) (K9 _ rfl));have ac:u.objs.size=d.objs.size+1:=by rw[C.1,G.1,My]
 rw[ad]at r L ac;refine my ⟨_,rfl,my ?_⟩;show Q (some (.ref d.objs.size)) _;rw[ad];exact hQ u r (up _ _ D.TOz m) (U.at fun o e=>up _ o D.i1z e) (S.at fun o e=>up _ o D.i2z e) L ac fun c o W c2 c3 c4 e=>up c o W (R c o W c2 c3 c4 e)
theorem B0{z TI TO I H l1 l2:Addr}{U S:Nat}{xs ys:Array j3}{a b:j3}{Q:Option j3->mu->Prop}(hh:A.handled=none)(D:Py z TI TO I H l1 l2)(hz:Rk s.heap z TI TO .none)(X:MW s.heap TI (.ref I) (.ref H))(W:MW s.heap TO a b)
  (h1:kU b1 s.heap I l1 U) (h2:kU b2 s.heap H l2 S) (hl1:mG b1 s.heap l1 xs) (hl2:mG b2 s.heap l2 ys) (hend:xs[U]?=none\/ys[S]?=none)
  (hQ:∀h',(∀c o,c≠z->c≠TO->c≠I->c≠H->s.heap.get? c=some o->h'.get? c=some o)->Q none {s with heap:=h'}):La (Lr prog w) A (OD (.ref z)) Q E s:=by
 have N:s.TypeIs (.ref z) "zip":=⟨_,hz,rfl⟩
 have B:∀(h':Heap) (e:Addr),(∀c o,c≠z->c≠TO->c≠I->c≠H->s.heap.get? c=some o->h'.get? c=some o)->(∃o,h'.get? e=some o/\o.cls=.type "StopIteration") ->
   La (Lr prog w) A (do if(←isInstance (.ref e) (.type "StopIteration"))then pure none else throw (.ref e)) Q E {s with heap:=h'}:=fun h' e hk ⟨o,ho,hc⟩ =>
  bB (MY (T:="StopIteration") (b:=true) ⟨o,ho,hc⟩ R5 (my (hQ _ hk)))
 unfold OD;refine bB (Nj (LP (name:=Lj "__next__") N L7 (Mr L7 N Nf ?_ (M6 _))));show La _ _ (Rj (.ref z) 2>>=_) _ _ _;refine bB (LL hz rfl (x:=.bool false) rfl ?_);show La _ _ (Rj (.ref z) 3>>=_) _ _ _;refine bB (LL hz rfl (x:=.ref TI) rfl (bB (L6 X rfl ?_)));show La _ _ (Lx (.ref z)>>=_) _ _ _;refine bB ?_;unfold Lx;refine bB (LL hz rfl (x:=.none) rfl (my ?_));simp only[if_true];refine bB (Ol (bB (LL hz rfl (x:=.ref TO) rfl ?_)));refine bB (MV hz (by simp) fun M l d=>?_)
 replace l:Rk M z TI TO .ellipsis:=l
 refine bB ?_;simp only[S2,List.zipIdx_nil,Ny,NK];refine bB (bB (Q0 ?_));show La _ _ (Lq (.ref I)>>=_) _ _ _
 cases hx:xs[U]? with
 |none =>
  refine bB (oS hh (h1.extBut d.extBut D.i1z) (hl1.extBut d.extBut D.l1z) hx fun q e g V=>?_);obtain⟨R,m,y⟩:=V;have t:Rk q z TI TO .ellipsis:=g _ _ D.i1z.symm l;have G:e≠z:=fun x=>by subst x;rw[t]at m;cases m;simp at y
  exact MV t (by simp) fun C _ j=>B C e (fun c o O _ Z _ x=>j.extBut _ _ O (g _ _ Z (d.extBut _ _ O x))) ⟨R,j.extBut _ _ G m,y⟩
 |some x =>
  have hy:ys[S]?=none:=by
   rcases hend with h|h
   ·rw[hx]at h;cases h
   ·exact h
  refine bB (jD (h1.extBut d.extBut D.i1z) (hl1.extBut d.extBut D.l1z) hx fun q Y g=>my ?_);have p:MW q TO a b:=g.extBut _ _ D.TOi1 (d.extBut _ _ D.TOz W);refine bB (L6 p rfl (bB (Pz p fun C P j=>?_)));refine bB (PB (my ?_));refine bB (bB (Q0 ?_));show La _ _ (Lq (.ref H)>>=_) _ _ _;refine bB (oS hh (((h2.extBut d.extBut D.i2z).extBut g.extBut D.i12.symm).extBut j.extBut D.TOi2.symm) (((hl2.extBut d.extBut D.l2z).extBut g.extBut D.l2i1).extBut j.extBut D.l2TO) hy fun L e v V=>?_);obtain⟨R,m,y⟩:=V;have r:Rk L z TI TO .ellipsis:=v _ _ D.i2z.symm (j.extBut _ _ D.TOz.symm (g.extBut _ _ D.i1z.symm l));have G:e≠z:=fun x=>by subst x;rw[r]at m;cases m;simp at y
  exact MV r (by simp) fun J _ u=>B J e (fun c o O c2 Z c4 x=>u.extBut _ _ O (v _ _ c4 (j.extBut _ _ c2 (g.extBut _ _ Z (d.extBut _ _ O x))))) ⟨R,u.extBut _ _ G m,y⟩
end
section
variable {prog:FG}{w:Lk}{A:Lz}{E:j3->mu->Prop}{s:mu}{b1 b2:Bool}
theorem rK{z TI TO m p l1 l2 T:Addr}{C:Bool}{R:Obj}{H I:Nat}{xs ys:Array j3}{x y:j3}{Q:Option j3->mu->Prop}(D:Py z TI TO m p l1 l2)
  (hz:uD s.heap z TI TO T C) (hT:s.heap.get? T=some R) (hTI:MW s.heap TI (.ref m) (.ref p))
  (h1:kU b1 s.heap m l1 H) (h2:kU b2 s.heap p l2 I) (hl1:mG b1 s.heap l1 xs) (hl2:mG b2 s.heap l2 ys) (hx:xs[H]?=some x) (hy:ys[I]?=some y)
  (hQ:∀h',uD h' z TI TO T true->kU b1 h' m l1 (H+1)->kU b2 h' p l2 (I+1)->MW h' s.heap.objs.size x y ->
   (∀c o,c≠z->c≠m->c≠p->s.heap.get? c=some o->h'.get? c=some o)->Q (some (.ref s.heap.objs.size)) {s with heap:=h'}) :
  La (Lr prog w) A (OD (.ref z)) Q E s:=by
 have B:s.TypeIs (.ref z) "zip":=⟨_,hz,rfl⟩;unfold OD
 refine bB (Nj (LP (name:=Lj "__next__") B L7
  (Mr L7 B Nf ?_ (M6 _))))
 show La _ _ (Rj (.ref z) 2>>=_) _ _ _;refine bB (LL hz rfl (x:=.bool false) rfl ?_);show La _ _ (Rj (.ref z) 3>>=_) _ _ _;refine bB (LL hz rfl (x:=.ref TI) rfl ?_);refine bB (L6 hTI rfl ?_);show La _ _ (Lx (.ref z)>>=_) _ _ _;refine bB (pN hz hT fun P r d=>?_);simp only[Mi,if_false];refine bB ?_;simp only[←Qs,Ny,NK];refine bB (bB (LI ?_));show La _ _ (Lq (.ref m)>>=_) _ _ _;refine bB (jD (h1.extBut d.extBut D.i1z) (hl1.extBut d.extBut D.l1z) hx fun O v j=>my (my ?_));dsimp only;refine bB (bB (LI ?_));show La _ _ (Lq (.ref p)>>=_) _ _ _;refine bB (jD ((h2.extBut d.extBut D.i2z).extBut j.extBut D.i12.symm) ((hl2.extBut d.extBut D.l2z).extBut j.extBut D.l2i1) hy fun g t l=>my (my (my ?_)));dsimp only;refine bB (wpAny_newTuple (hsz:=by show 2<=nk;decide) ?_);have hsz:g.objs.size=s.heap.objs.size:=by rw[l.1,j.1,d.1]
 have q:uD g z TI TO T true:=l.extBut _ _ D.i2z.symm (j.extBut _ _ D.i1z.symm r);have S:∀c o,c≠z->c≠m->c≠p->s.heap.get? c=some o->g.get? c=some o:=fun c o N M L e=>l.extBut _ _ L (j.extBut _ _ M (d.extBut _ _ N e));have u:kU b1 g m l1 (H+1):=v.extBut l.extBut D.i12;refine my ⟨_,rfl,my ?_⟩;show Q (some (.ref g.objs.size)) _;have J:MW (g.push {cls:=.type "tuple",data:=.seq #[x,y]}) g.objs.size x y:=K9 _ rfl;have G:=hQ (g.push {cls:=.type "tuple",data:=.seq #[x,y]}) (mC _ q) (u.at fun o e=>mC _ e) (t.at fun o e=>mC _ e) (by rw[←hsz];exact J) fun c o N M L e=>mC _ (S c o N M L e);rw[←hsz]at G;exact G
theorem sJ{z TI TO j p l1 l2 T:Addr}{m:Bool}{C:Obj}{u:Nat}{xs:Array j3}{Q:Option j3->mu->Prop}(G:A.handled=none)(D:Py z TI TO j p l1 l2)
  (hz:uD s.heap z TI TO T m) (hT:s.heap.get? T=some C) (hTI:MW s.heap TI (.ref j) (.ref p))
  (h1:kU b1 s.heap j l1 u) (hl1:mG b1 s.heap l1 xs) (hx:xs[u]?=none)
  (hQ:∀h',(∀c o,c≠z->c≠j->c≠p->s.heap.get? c=some o->h'.get? c=some o)->Q none {s with heap:=h'}) :
  La (Lr prog w) A (OD (.ref z)) Q E s:=by
 have l:s.TypeIs (.ref z) "zip":=⟨_,hz,rfl⟩;unfold OD
 refine bB (Nj (LP (name:=Lj "__next__") l L7
  (Mr L7 l Nf ?_ (M6 _))))
 show La _ _ (Rj (.ref z) 2>>=_) _ _ _;refine bB (LL hz rfl (x:=.bool false) rfl ?_);show La _ _ (Rj (.ref z) 3>>=_) _ _ _;refine bB (LL hz rfl (x:=.ref TI) rfl ?_);refine bB (L6 hTI rfl ?_);show La _ _ (Lx (.ref z)>>=_) _ _ _;refine bB (pN hz hT fun y q d=>?_);simp only[Mi,if_false];refine bB ?_;simp only[←Qs,Ny,NK];refine bB (bB (LI ?_));show La _ _ (Lq (.ref j)>>=_) _ _ _;refine bB (oS G (h1.extBut d.extBut D.i1z) (hl1.extBut d.extBut D.l1z) hx fun v e g H=>?_);obtain⟨B,r,t⟩:=H;refine bB (MY (T:="StopIteration") (b:=true) ⟨B,r,t⟩ R5 ?_);exact my (hQ _ fun c o L J _ I=>g _ _ J (d.extBut _ _ L I))
theorem rL{z TI TO m l l1 l2 T:Addr}{q:Bool}{J:Obj}{B y:Nat}{xs ys:Array j3}{x:j3}{Q:Option j3->mu->Prop}(L:A.handled=none)(D:Py z TI TO m l l1 l2)
  (hz:uD s.heap z TI TO T q) (hT:s.heap.get? T=some J) (hTI:MW s.heap TI (.ref m) (.ref l))
  (h1:kU b1 s.heap m l1 B) (h2:kU b2 s.heap l l2 y) (hl1:mG b1 s.heap l1 xs) (hl2:mG b2 s.heap l2 ys) (hx:xs[B]?=some x) (hy:ys[y]?=none)
  (hQ:∀h',(∀c o,c≠z->c≠m->c≠l->s.heap.get? c=some o->h'.get? c=some o)->Q none {s with heap:=h'}) :
  La (Lr prog w) A (OD (.ref z)) Q E s:=by
 have p:s.TypeIs (.ref z) "zip":=⟨_,hz,rfl⟩;unfold OD
 refine bB (Nj (LP (name:=Lj "__next__") p L7
  (Mr L7 p Nf ?_ (M6 _))))
 show La _ _ (Rj (.ref z) 2>>=_) _ _ _;refine bB (LL hz rfl (x:=.bool false) rfl ?_);show La _ _ (Rj (.ref z) 3>>=_) _ _ _;refine bB (LL hz rfl (x:=.ref TI) rfl ?_);refine bB (L6 hTI rfl ?_);show La _ _ (Lx (.ref z)>>=_) _ _ _;refine bB (pN hz hT fun H r d=>?_);simp only[Mi,if_false];refine bB ?_;simp only[←Qs,Ny,NK];refine bB (bB (LI ?_));show La _ _ (Lq (.ref m)>>=_) _ _ _;refine bB (jD (h1.extBut d.extBut D.i1z) (hl1.extBut d.extBut D.l1z) hx fun G v g=>my (my ?_));dsimp only;refine bB (bB (LI ?_));show La _ _ (Lq (.ref l)>>=_) _ _ _;refine bB (oS L ((h2.extBut d.extBut D.i2z).extBut g.extBut D.i12.symm) ((hl2.extBut d.extBut D.l2z).extBut g.extBut D.l2i1) hy fun C e j M=>?_);obtain⟨I,t,u⟩:=M;refine bB (MY (T:="StopIteration") (b:=true) ⟨I,t,u⟩ R5 ?_);exact my (hQ _ fun c o R P O N=>j _ _ O (g.extBut _ _ P (d.extBut _ _ R N)))
end
structure Jr(b1 b2:Bool) (h:Heap) (z TI TO i1 i2 l1 l2 lo:Nat) (xs ys:Array j3) (i:Nat):Prop where
 ti:MW h TI (.ref i1) (.ref i2)
 it1:kU b1 h i1 l1 i
 it2:kU b2 h i2 l2 i
 ls1:mG b1 h l1 xs
 ls2:mG b2 h l2 ys
 st:(i=0/\Rk h z TI TO .none/\∃a b,MW h TO a b)\/∃(T:Nat) (flag:Bool) (oT:Obj),uD h z TI TO T flag/\h.get? T=some oT/\lo<=T
section
variable {prog:FG}{w:Lk}{A:Lz}{R:Ss->mu->Prop}{s:mu}{b1 b2:Bool}
theorem Ax{z TI TO v u l1 l2 S lo n:Nat}{xs ys:Array j3}(hh:A.handled=none)(D:Py z TI TO v u l1 l2)(M:S≠z/\S≠TI/\S≠TO/\S≠v/\S≠u/\S≠l1/\S≠l2)
  (hL:z<lo/\TO<lo/\v<lo/\u<lo/\S<lo) (hnx:n<=xs.size) (hny:n<=ys.size) (hend:xs[n]?=none\/ys[n]?=none) (hn:n<=nk) (res:j3) {h₁:Heap}
  (hR:∀h' tk acc c (as:List Nat),(∀b o,b≠S->b≠z->b≠TO->b≠v->b≠u->h₁.get? b=some o->h'.get? b=some o)->h'.get? S=some {cls:=.type "list",dict:=none,data:=.seq acc c,slots:=#[]}->as.length=n->lK h' lo xs ys as ->
   acc.toList=as.map Value.ref->R (.ok (.ret res)) {s with heap:=h',toks:=tk}) :
  ∀(k i:Nat) (h:Heap) (tk c:Nat) (acc:Array j3) (as:List Nat),n-i=k->i<=n->Jr b1 b2 h z TI TO v u l1 l2 lo xs ys i ->
   (∀b o,b≠S->b≠z->b≠TO->b≠v->b≠u->h₁.get? b=some o->h.get? b=some o)->lo<=h.objs.size ->
   h.get? S=some {cls:=.type "list",dict:=none,data:=.seq acc c,slots:=#[]}->acc.toList=as.map Value.ref->as.length=i->lK h lo xs ys as ->
   OX (Lr prog w) A (.builtin "list.extend.loop" ⟨[.ref S,.ref z,res],[]⟩) R {s with heap:=h,toks:=tk}:=by
 obtain⟨s1,s2,s3,Z,Y,s6,s7⟩:=M;obtain⟨L1,L2,L3,L4,L5⟩:=hL;have p:∀{a b:Nat},b<lo->lo<=a->a≠b:=fun h1 h2=>NB (Lf h1 h2);intro k
 induction k with
 |zero =>
  intro i h tk c acc as hk hi d m y M q r hG;have ab:i=n:=by omega
  subst ab;refine PY QA ?_;rw[Ot MR _];show La _ A.in1 (OD (.ref z)>>=_) _ _ _
  have t:∀h':Heap,(∀c o,c≠z->c≠TO->c≠v->c≠u->h.get? c=some o->h'.get? c=some o)->R (.ok (.ret res)) {s with heap:=h',toks:=tk}:=fun h' j =>
   hR h' tk acc c as (fun b o b1 b2 V U Q e=>j b o b2 V U Q (m b o b1 b2 V U Q e)) (j S _ s1 s3 Z Y M) r (hG.keep fun(c:Nat) o hc e=>j c o (p L1 hc) (p L2 hc) (p L3 hc) (p L4 hc) e) q
  rcases d.st with⟨e0,hz,a,b,hTO⟩|⟨T,l,C,hz,hT,hTlo⟩
  ·exact bB (B0 (s:={s with heap:=h,toks:=tk}) (A:=A.in1) hh D hz d.ti hTO d.it1 d.it2 d.ls1 d.ls2 hend fun h' j=>my (t h' j))
  ·cases E:xs[i]? with
   |none=>exact bB (sJ (s:={s with heap:=h,toks:=tk}) (A:=A.in1) hh D hz hT d.ti d.it1 d.ls1 E fun h' j=>my (t h' fun c o P _ O N e=>j c o P O N e))
   |some x =>
    have G:ys[i]?=none:=hend.resolve_left (by rw[E];intro z;cases z);exact bB (rL (s:={s with heap:=h,toks:=tk}) (A:=A.in1) hh D hz hT d.ti d.it1 d.it2 d.ls1 d.ls2 E G fun h' j=>my (t h' fun c o P _ O N e=>j c o P O N e))
 |succ k ih =>
  intro i h tk c acc as hk hi d m y M q r hG;have aa:i<xs.size:=by omega
  have I:i<n:=by omega
  have J:i<ys.size:=by omega
  have E:xs[i]?=some xs[i]:=OC aa;have G:ys[i]?=some ys[i]:=OC J;have B:acc.size=i:=by rw[←r,←bC (f:=Value.ref),←q];simp
  refine PY QA ?_;rw[Ot MR _];show La _ A.in1 (OD (.ref z)>>=_) _ _ _
  -- what follows a turn
  have next:∀h':Heap,(∃(T:Nat) (l:Bool) (C:Obj),uD h' z TI TO T l/\h'.get? T=some C/\lo<=T)->kU b1 h' v l1 (i+1)->kU b2 h' u l2 (i+1)->MW h' h.objs.size xs[i] ys[i] ->
    (∀c o,c≠z->c≠TO->c≠v->c≠u->h.get? c=some o->h'.get? c=some o) ->
    La (Lr prog w) A.in1 (Rl S (·.push (Value.ref h.objs.size))>>=fun _=>again (.builtin "list.extend.loop" ⟨[.ref S,.ref z,res],[]⟩))
     (fun t W=>match t with|.done f=>R (.ok f) W|.again c'=>c'.quiet=true/\OX (Lr prog w) A c' R W) (fun e W=>R (.error e) W) {s with heap:=h',toks:=tk}:=by
   intro h' hb j1 j2 hp j;have L:h'.get? S=some {cls:=.type "list",dict:=none,data:=.seq acc c,slots:=#[]}:=j S _ s1 s3 Z Y M;have g:∀b o,b≠S->h'.get? b=some o->(h'.update S (LX (·.push (Value.ref h.objs.size)))).get? b=some o:=fun b o hb e=>(Ms _ _ (MQ hb)).trans e;have H:MW (h'.update S (LX (·.push (Value.ref h.objs.size)))) h.objs.size xs[i] ys[i]:=g _ _ (p L5 y) hp;refine bB (Ob L rfl (my ⟨OH MR _,?_⟩) (by rw[B];omega) (by show(acc.push _).size<=nk+1;rw[Array.size_push,B];omega));refine ih (i+1) (h'.update S (LX (·.push (Value.ref h.objs.size)))) tk _ (acc.push (Value.ref h.objs.size)) (as++[h.objs.size]) (by omega) I ⟨?_,?_,?_,?_,?_,?_⟩ ?_ ?_ (Mw _ L rfl) ?_ (by rw[lu,r];rfl) ?_
   ·exact g _ _ (MQ s2) (j TI _ D.TIz D.TITO D.TIi1 D.TIi2 d.ti)
   ·exact j1.at fun o e=>g _ o (MQ Z) e
   ·exact j2.at fun o e=>g _ o (MQ Y) e
   ·exact d.ls1.at fun o e=>g _ o (MQ s6) (j _ o D.l1z D.l1TO D.l1i1 D.l1i2 e)
   ·exact d.ls2.at fun o e=>g _ o (MQ s7) (j _ o D.l2z D.l2TO D.l2i1 D.l2i2 e)
   ·obtain⟨T,l,C,e1,e2,e3⟩:=hb;exact .inr ⟨T,l,C,g _ _ (MQ s1) e1,g _ _ (p L5 e3) e2,e3⟩
   ·exact fun b o b1 b2 V U Q e=>g b o b1 (j b o b2 V U Q (m b o b1 b2 V U Q e))
   ·have:h.objs.size<(h'.update S (LX (·.push (Value.ref h.objs.size)))).objs.size:=vy H;omega
   ·rw[Array.toList_push,q,nq];rfl
   ·exact hG.snoc (h':=h'.update S (LX (·.push (Value.ref h.objs.size)))) (fun(c:Nat) o hc e=>g c o (p L5 hc) (j c o (p L1 hc) (p L2 hc) (p L3 hc) (p L4 hc) e)) y (lj _) (by rw[r];exact E) (by rw[r];exact G) H
  rcases d.st with⟨e0,hz,a,b,hTO⟩|⟨T,l,C,hz,hT,hTlo⟩
  ·refine bB (zm (s:={s with heap:=h,toks:=tk}) D hz d.ti hTO d.it1 d.it2 d.ls1 d.ls2 E G fun h' a1 a2 a3 a4 X a6 j=>?_);exact next h' ⟨h.objs.size,false,_,a1,X,y⟩ a3 a4 X j
  ·refine bB (rK (s:={s with heap:=h,toks:=tk}) D hz hT d.ti d.it1 d.it2 d.ls1 d.ls2 E G fun h' a1 a3 a4 X j=>?_);exact next h' ⟨T,true,C,a1,j T C (p L1 hTlo) (p L3 hTlo) (p L4 hTlo) hT,hTlo⟩ a3 a4 X fun c o P _ O N e=>j c o P O N e
end
section
variable {prog:FG}{w:Lk}{A:Lz}{E:j3->mu->Prop}{s:mu}{b1 b2:Bool}
theorem rM{l1 l2 n:Nat}{xs ys:Array j3}{Q:j3->mu->Prop}(hh:A.handled=none)(t:mG b1 s.heap l1 xs)(r:mG b2 s.heap l2 ys)(N:n<=xs.size)(M:n<=ys.size)(G:xs[n]?=none\/ys[n]?=none)(hn:n<=nk)
  (hQ:∀h' tk acc c (as:List Nat),(∀b o,s.heap.get? b=some o->h'.get? b=some o)->h'.get? (s.heap.objs.size+5)=some {cls:=.type "list",dict:=none,data:=.seq acc c,slots:=#[]}->as.length=n->lK h' (s.heap.objs.size+6) xs ys as ->
   acc.toList=as.map Value.ref->Q (.ref (s.heap.objs.size+5)) {s with heap:=h',toks:=tk}) :
  La (Lr prog w) A (call (.type "zip") [.ref l1,.ref l2]) (fun v V=>La (Lr prog w) A (call (.type "list") [v]) Q E V) E s:=by
 have Z:l1<s.heap.objs.size:=by obtain⟨_,e⟩:=t.got;exact vy e
 have Y:l2<s.heap.objs.size:=by obtain⟨_,e⟩:=r.got;exact vy e
 refine zl t r fun g hz T S h1 h2 C P=>?_
 have D:Py (s.heap.objs.size+4) (s.heap.objs.size+2) (s.heap.objs.size+3) s.heap.objs.size (s.heap.objs.size+1) l1 l2:=by
  refine⟨?_,?_,?_,?_,?_,?_,?_,?_,?_,?_,?_,?_,?_,?_,?_,?_,?_,?_⟩<;>(show @Ne Nat _ _;omega)
 have J:(g.push {cls:=.type "list",data:=.seq #[]}).get? g.objs.size=some {cls:=.type "list",data:=.seq #[]}:=K9 _ rfl
 refine R3 (Q₁:=fun B p=>B=.ref g.objs.size/\p={s with heap:=g.push {cls:=.type "list",data:=.seq #[]}}) Sd (Rm _) Rn
  (code_list_new _ ⟨rfl,rfl⟩) fun B p h₁=>?_
 obtain⟨rfl,rfl⟩:=h₁;refine⟨⟨_,J,rfl⟩,Q2 _ _,?_⟩;show La _ A.in1.in1 (do let L ←Ng (.ref g.objs.size);Ro (.ref g.objs.size) (fun _=>#[]);letGo L.toList.reverse;Mm (.ref g.objs.size) (.ref (s.heap.objs.size+4)) .none) _ _ _;refine bB ?_;unfold Ng;refine bB (L6 J rfl (my ?_));show La _ A.in1.in1 (Rl g.objs.size (fun _=>#[])>>=fun _=>letGo (#[]:Array j3).toList.reverse>>=fun _=>Mm (.ref g.objs.size) (.ref (s.heap.objs.size+4)) .none) _ _ _;refine bB (Ob J rfl ?_);have j:=Mw (LX (fun _=>(#[]:Array j3))) J rfl
 have m:∀b o,g.get? b=some o->((g.push {cls:=.type "list",data:=.seq #[]}).update g.objs.size (LX (fun _=>(#[]:Array j3)))).get? b=some o :=
  fun b o e=>(Ms _ _ (NB (vy e))).trans (mC _ e)
 generalize hg2:(g.push {cls:=.type "list",data:=.seq #[]}).update g.objs.size (LX (fun _=>(#[]:Array j3)))=g2 at j m⊢;refine bB (PB ?_);have u:Ni {s with heap:=g2} (.ref (s.heap.objs.size+4)) "zip":=⟨_,m _ _ hz,rfl⟩;unfold Mm;refine bB (MJ u ?_)
 have q1:MB (.ref g.objs.size) (.ref (s.heap.objs.size+4))=false:=by
  simp only[MB,beq_eq_false_iff_ne];intro z;have z':(g.objs.size:Nat)=s.heap.objs.size+4:=z;omega
 have X:(Value.type "zip" == Value.type "list")=false:=by decide
 have W:(Value.type "zip" == Value.type "tuple")=false:=by decide
 simp only[q1,X,W,QX,Mi,if_false];refine bB (Rq (s:={s with heap:=g2}) (m _ _ hz) ?_);refine bB (LI ?_);unfold Qa;refine bB (NZ u xU ?_);show La _ A.in1.in1 (specialOf (Value.ref (s.heap.objs.size+4)) (Lj "__length_hint__")>>=_) _ _ _;refine bB (NZ u vR ?_);refine my ?_
 show La _ A.in1.in1 (rule "list.extend.makes-room">>=fun _=>Og.List.listTouch (.ref g.objs.size)>>=fun _ =>
  again (.builtin "list.extend.loop" ⟨[.ref g.objs.size,.ref (s.heap.objs.size+4),.none],[]⟩)) _ _ _
 refine bB (Ol ?_);refine bB ?_;show La _ A.in1.in1 (Rl g.objs.size (·.push .none)>>=fun _=>Rl g.objs.size (·.pop)) _ _ _;refine bB (Ob j rfl ?_);have l:=Mw (LX (·.push Value.none)) j rfl;refine Ob (hz:=by seq_fits) l rfl ?_;have d:=Mw (LX (·.pop)) l rfl
 have y:∀b o,b≠g.objs.size->g2.get? b=some o->((g2.update g.objs.size (LX (·.push Value.none))).update g.objs.size (LX (·.pop))).get? b=some o :=
  fun b o q e=>(Ms _ _ (MQ q)).trans ((Ms _ _ (MQ q)).trans e)
 have all:∀b o,g.get? b=some o->((g2.update g.objs.size (LX (·.push Value.none))).update g.objs.size (LX (·.pop))).get? b=some o:=fun b o e=>y b o (Ls (vy e)) (m b o e);generalize hg3:(g2.update g.objs.size (LX (·.push Value.none))).update g.objs.size (LX (·.pop))=g3 at d all⊢
 have O:s.heap.objs.size+6<=g3.objs.size:=by
  have h5:(g.objs.size:Nat)<g3.objs.size:=vy d;have h6:(g.objs.size:Nat)=s.heap.objs.size+5:=C;omega
 refine my ⟨OH MR _,Ax (n:=n) (s:=s) (lo:=s.heap.objs.size+6) (h₁:=g3) (A:=A.in1) hh D (by omega) (by omega) N M G hn .none (fun h' tk acc c as hq I R hG H=>?_) n 0 g3 s.toks _ #[] [] (by omega) (Ld _)
  ⟨all _ _ T,h1.at fun o e=>all _ o e,h2.at fun o e=>all _ o e,t.at fun o e=>all _ o (P _ o e),r.at fun o e=>all _ o (P _ o e),.inl ⟨rfl,all _ _ hz,_,_,all _ _ S⟩⟩ (fun _ _ _ _ _ _ _ e=>e) O d rfl rfl ⟨List.Pairwise.nil,(fun _ z=>nomatch z),fun _ _ z=>by simp at z⟩⟩
 have U:g.objs.size=s.heap.objs.size+5:=C;refine⟨rfl,?_⟩;rw[U]at I ⊢;refine hQ h' tk acc c as (fun b o e=>?_) I R hG H;have q:∀k,b≠s.heap.objs.size+k:=fun k=>Ls (Lf (vy e) (MH _ k));exact hq b o (by rw[U];exact q 5) (q 4) (q 3) (q 0) (q 1) (all b o (P b o e))
end
noncomputable def nc(K:bA)(b:Bool)(H:Hp)(p:Addr)(xs:List V):Prop:=match b with|false=>bz K H p xs|true=>bN K H p xs
section
variable {X:Cx}{a b:Expr}{t:TA}{p1 p2 p3 p4:Pos}
theorem jE{c:Bool}{g:List (Addr×Obj)}{q:St}{H:Hp}{s:mu}{p:Addr}{xs:List V}(I:Inv X g q H s)(h:nc X.K c H p xs):∃d:List j3,Vals xs d/\mG c s.heap p d.toArray/\xs.length<=nk:=by
 cases c with
 |false =>
  obtain⟨d,j,l,m⟩:=I.list h;exact⟨d,j,l.isList,m⟩
 |true =>
  obtain⟨d,j,l,m⟩:=I.tuple h;exact⟨d,j,(show Heap.IsTuple _ _ _ by obtain⟨o,e,r⟩:=l;exact⟨o,e,r⟩),m⟩
noncomputable def Js(K:bA)(t:TA):TE:=fun o H Q=>t o H fun r d=>∃v u p q j g,r=[.ref p,.ref q]/\nc K v d p j/\nc K u d q g /\
 ∀(l:Addr) (m:List Addr) (e:Hp),FU j g m d e->d l=none->e l=some (.lst (m.map V.ref))->Q (.ref l) e
theorem wB(hc:X.calm=true)(D:Gl X "list")(B:X.mg "list"=none)(C:Gl X "zip")(A:X.mg "zip"=none)(ha:PA X [a,b] t)
  (he:LA [a,b] X.env=(false,eval a X.env)::LA [b] X.env:=by rfl) (hpl:(OL p2 (LA [b] X.env)).any (·.1)=false:=by rfl)
  (he2:LA [.Call (.Name "zip" p1) [a,b] [] p2] X.env=[(false,eval (.Call (.Name "zip" p1) [a,b] [] p2) X.env)]:=by rfl) :
  PE X (.Call (.Name "list" p3) [.Call (.Name "zip" p1) [a,b] [] p2] [] p4) (Js X.K t):=by
 intro d s J H Q I h;refine L0 (jY I D B Nu ?_ (by decide) (by decide));refine LV ?_ he2 rfl;rw[he2];refine NR ?_;refine L0 (jY I C A boot_zip ?_ (by decide) (by decide));refine LV ?_ he hpl;refine cO (ha p2 d s J H _ I h) fun us L ⟨vs,H1,m,r,q1⟩=>?_;obtain⟨c1,c2,p,q,xs,ys,rfl,U,T,W⟩:=q1;obtain⟨u,w',rfl,r,r2⟩:=vals2 r
 cases r
 cases r2
 obtain⟨z,M,R,hz⟩:=jE m U;obtain⟨y,e,P,S⟩:=jE m T;have e1:=M.length;have e2:=e.length;refine cO (rM (n:=min xs.length ys.length) (Q:=EP X d J Q) (E:=X.xe) (m.ok.hd hc) R P (by simp only[rj];omega) (by simp only[rj];omega) (by have:=DT (xs:=z) (ys:=y);rw[←e1,←e2]at this;simpa using this) (by omega) fun h' tk aa ce l hk hS g N j=>?_) fun v s2 h2=>OW (by simpa using h2);have G:L.heap.objs.size+5∉l:=fun Z=>by have:=N.low _ Z;omega
 obtain⟨I2,O,Y⟩:=DU (tk:=tk) (o:=.lst (l.map V.ref)) m M e (MH _ 6) hk g N (MH _ 5) G
  (show ef X.prog X.w _ _ _ (.lst _)from⟨by rw[bC,g];omega,l.map Value.ref,ce,tK l,by rw[←j];simpa using hS⟩)
 exact⟨.ref (L.heap.objs.size+5),_,I2,rfl,W _ l _ O Y af⟩
end
section
variable {X:Cx}{pins:List (Addr×Obj)}{σ:St}{H:Hp}{s:mu}{h':Heap}
theorem Inv.zp{t':Nat}{j:List Addr}(I:Inv X pins σ H s)(l:∀b∈j,qv X pins H b)(k:∀b o,b∉j->s.heap.get? b=some o->h'.get? b=some o):Inv X pins σ H {s with heap:=h',toks:=t'}:=by
 have g:∀b u,H b=some u->b∉j:=fun b u e z=>by rw[(l b z).1]at e;cases e
 have y:X.env.locals∉j:=fun z=>(l _ z).2.1 rfl
 refine I.step (g':=s.gens) (d':=s.drawn) (ch:=j) (fun b w=>?_) (fun b o _ _ d e _=>k b o d e) (fun b o _ _ d e _=>⟨o.slots,k b o d e⟩) (fun _ _ _ _ n=>n)
  (fun b o d e=>⟨o,k b o d e⟩) (fun _ _ e=>e) (fun _ _ _ e=>e) (fun b J e=>⟨#[],by rw[e];simp⟩) (fun m t=>?_) (fun b u e=>?_) I.bare
 ·obtain⟨_,D,_,C,B,A⟩:=l b w;exact⟨C,D,B,A⟩
 ·obtain⟨o,E,G,p,r⟩:=t;exact⟨o,E,G,k _ o y p,r⟩
 ·refine(I.hok b u e).stay (fun c v d q=>k c v ?_ q) (fun _ q=>q) fun _ _ q=>q;rcases d with z|z
  ·rw[z];exact g b u e
  ·exact g c _ z
theorem Inv.zq{t':Nat}{l:List Addr}{a:Addr}{o:HO}(I:Inv X pins σ H s)(t:∀b∈l,qv X pins H b)(k:∀b o,b∉l->s.heap.get? b=some o->h'.get? b=some o)(y:s.heap.objs.size<=a)(new:ef X.prog X.w (upd H a o) h' a o) :
  Inv X pins σ (upd H a o) {s with heap:=h',toks:=t'}:=by
 have j:∀b u,H b=some u->b∉l:=fun b u e z=>by rw[(t b z).1]at e;cases e
 have D:X.env.locals∉l:=fun z=>(t _ z).2.1 rfl;have B:H a=none:=I.hok.fresh y;have g:∀b u,H b=some u->upd H a o b=some u:=fun b u e=>by rw[av (aq e B)];exact e
 refine I.step (g':=s.gens) (d':=s.drawn) (ch:=l) (fun b p=>?_) (fun b o _ _ d e _=>k b o d e) (fun b o _ _ d e _=>⟨o.slots,k b o d e⟩) (fun b P _ e n=>?_)
  (fun b o d e=>⟨o,k b o d e⟩) (fun b _ e=>g b _ e) (fun b _ _ e=>g b _ e) (fun b O e=>⟨#[],by rw[g b _ e];simp⟩) (fun m C=>?_) (fun b u e=>?_) I.bare
 ·obtain⟨_,L,_,J,G,E⟩:=t b p;exact⟨J,L,G,E⟩
 ·rw[av (Ls (Lf (vy e) y))];exact n
 ·obtain⟨o,M,N,A,r⟩:=C;exact⟨o,M,N,k _ o D A,r⟩
 ·by_cases p:b=a
  ·subst p;rw[af]at e;cases e;exact new
  ·rw[av p]at e;refine(I.hok b u e).stay (fun c v d q=>k c v ?_ q) (fun c q=>g c _ q) fun c _ q=>g c _ q;rcases d with z|z
   ·rw[z];exact j b u e
   ·exact j c _ z
end
noncomputable def GQ (K : bA) (j : Bool) (l1 : Addr) (g : Bool) (l2 : Addr) : It :=
  ⟨fun i H => ∃ e d x y, nc K j H l1 e ∧ nc K g H l2 d ∧ e[i]? = some x ∧ d[i]? = some y,
   fun i H v l => ∃ p x y, H p = none ∧ v = .ref p ∧ l = upd H p (.tup [x, y]) ∧ (∀ e, nc K j H l1 e → e[i]? = some x) ∧ ∀ d, nc K g H l2 d → d[i]? = some y,
   fun i H => ∃ e d, nc K j H l1 e ∧ nc K g H l2 d ∧ (e.length ≤ i ∨ d.length ≤ i)⟩
theorem nc.inj{X:Cx}{d:List (Addr×Obj)}{g:St}{H:Hp}{s:mu}{b:Bool}{a:Addr}{xs ys:List V}(I:Inv X d g H s)(h:nc X.K b H a xs)(e:nc X.K b H a ys):xs=ys:=by
 cases b with
 |false=>exact I.vF h e
 |true=>exact I.pI h e
theorem Ca{P:FG}{w:Lk}{K:bA}{S:List Expr}{x1:Nat}{aa:Pos}{b1 b2:Bool}(z TI TO M L l1 l2:Addr)(D:Py z TI TO M L l1 l2):Turn P w K (.Tuple S x1 aa) (GQ K b1 l1 b2 l2) [z,TI,TO,M,L] z
  (fun i h=>Rk h z TI TO .none/\MW h TI (.ref M) (.ref L)/\(∃a b,MW h TO a b)/\kU b1 h M l1 i/\kU b2 h L l2 i) where
 mem:=by simp
 obj:=fun i h r b j=>by
  obtain⟨B,g,⟨a,c,m⟩,G,C⟩:=r
  have Q:∀{b:Bool}{i l:Addr}{k:Nat},kU b h i l k->∃o,h.get? i=some o/\∀v,o.data≠.cell v:=fun{b i l k} q=>by
   cases b with
   |false=>obtain⟨o,e,_,d⟩:=(show h.IsListIter i l k from q);exact⟨o,e,fun v z=>by rw[d]at z;cases z⟩
   |true=>obtain⟨o,e,_,d⟩:=(show h.IsTupleIter i l k from q);exact⟨o,e,fun v z=>by rw[d]at z;cases z⟩
  simp only[ri,Lp,or_false]at j;rcases j with rfl|rfl|rfl|rfl|rfl
  ·exact⟨_,B,fun v z=>by cases z⟩
  ·exact⟨_,g,fun v z=>by cases z⟩
  ·exact⟨_,m,fun v z=>by cases z⟩
  ·exact Q G
  ·exact Q C
 keep:=fun i h h' r k=>by
  obtain⟨B,g,⟨a,c,m⟩,G,C⟩:=r;exact⟨k z (by simp) _ B,k TI (by simp) _ g,⟨a,c,k TO (by simp) _ m⟩,G.at fun o e=>k M (by simp) o e,C.at fun o e=>k L (by simp) o e⟩
 item:=by
  intro X hP hw hK hc i O s σ H E I V r hg;subst hP hw hK;obtain⟨xs,ys,x,y,A,t,hx,hy⟩:=hg;obtain⟨B,g,⟨a,c,m⟩,G,C⟩:=r;obtain⟨ac,Z,p1,_⟩:=jE I A;obtain⟨ab,J,p2,_⟩:=jE I t;obtain⟨u,hu,ru⟩:=Z.get hx;obtain⟨v,hv,Y⟩:=J.get hy;refine zm D B g m G C p1 p2 (x:=u) (y:=v) (by simpa using hu) (by simpa using hv) fun h' a1 a2 a3 a4 a5 a6 U=>?_;refine⟨.ref s.heap.objs.size,rfl,wpAny_letOwnedTupleGo_zip (s:={s with heap:=h'}) a1 fun R ad p=>?_⟩
  have np:∀b∈[z,TI,TO,M,L],b≠s.heap.objs.size:=fun b j e=>by
   obtain⟨o,e2⟩:∃o,s.heap.get? b=some o:=by
    simp only[ri,Lp,or_false]at j;rcases j with rfl|rfl|rfl|rfl|rfl
    ·exact⟨_,B⟩
    ·exact⟨_,g⟩
    ·exact⟨_,m⟩
    ·exact G.got
    ·exact C.got
   have:=vy e2;rw[e]at this;exact LY _ this
  have kk:∀b o,b∉[z,TI,TO,M,L]->s.heap.get? b=some o->R.get? b=some o:=fun b o j e=>by
   simp only[ri,Lp,or_false,not_or]at j;obtain⟨n1,n2,n3,n4,n5⟩:=j;exact p.extBut _ _ n1 (U b o n1 n3 n4 n5 e)
  have T:MW R s.heap.objs.size u v:=p.extBut _ _ (np z (by simp)).symm a5
  refine⟨.ref s.heap.objs.size,upd H s.heap.objs.size (.tup [x,y]),I.zq (t':=s.toks) V kk (lj _) ⟨(by show 2<=nk;decide),_,.cons ru (.cons Y .nil),⟨_,T,rfl,_,rfl⟩,_,T,rfl⟩,rfl,
   ⟨_,x,y,I.hok.fresh (lj _),rfl,rfl,fun zs N=>by rw[nc.inj I N A];exact hx,fun zs N=>by rw[nc.inj I N t];exact hy⟩,?_,fun b j=>?_⟩
  ·exact⟨ad,p.extBut _ _ D.TIz (U TI _ D.TIz D.TITO D.TIi1 D.TIi2 g),⟨u,v,p.extBut _ _ D.TOz a2⟩,a3.extBut p.extBut D.i1z,a4.extBut p.extBut D.i2z⟩
  ·rw[av (np b j)];exact(V b j).1
 done:=by
  intro X hP hw hK hc i O s σ H E I V r hg;subst hP hw hK;obtain⟨xs,ys,A,t,hl⟩:=hg;obtain⟨B,g,⟨a,c,m⟩,G,C⟩:=r;obtain⟨ac,Z,p1,_⟩:=jE I A;obtain⟨ab,J,p2,_⟩:=jE I t;have e1:=Z.length;have e2:=J.length;refine B0 (I.ok.hd hc) D B g m G C p1 p2 ?_ fun h' U=>⟨rfl,I.zp (t':=s.toks) V fun b o j e=>?_⟩
  ·rcases hl with hl|hl
   ·left;simp;omega
   ·right;simp;omega
  ·simp only[ri,Lp,or_false,not_or]at j;exact U b o j.1 j.2.2.1 j.2.2.2.1 j.2.2.2.2 e
 self:=fun _ _ _ _ _ r h=>Rq r.1 h
noncomputable def Jt(K:bA)(t:TA):TI:=fun j H R=>t j H fun o d=>∃g e p q m l,o=[.ref p,.ref q]/\nc K g d p m/\nc K e d q l/\R (GQ K g p e q) d
theorem Cb{X:Cx}{a b:Expr}{t:TA}{M w v:Pos}{m:List Expr}{J:Nat}(K:bA)(hK:X.K=K)(Z:Gl X "zip")(hm:X.mg "zip"=none)(ha:PA X [a,b] t)
  (he:LA [a,b] X.env=(false,eval a X.env)::LA [b] X.env:=by rfl) (hpl:(OL w (LA [b] X.env)).any (·.1)=false:=by rfl):PI X (.Tuple m J v) (.Call (.Name "zip" M) [a,b] [] w) (Jt K t):=by
 subst hK;intro j s G H R I h;refine L0 (jY I Z hm boot_zip ?_ (by decide) (by decide));refine LV ?_ he hpl;refine cO (ha w j s G H _ I h) fun us d ⟨vs,H1,o,r,q1⟩=>?_;obtain⟨c1,c2,p,q,xs,ys,rfl,T,S,V⟩:=q1;obtain⟨u,w',rfl,r,r2⟩:=vals2 r
 cases r
 cases r2
 obtain⟨Q,rv,B,_⟩:=jE o T;obtain⟨P,L,A,_⟩:=jE o S;have O:@LT.lt Nat _ p d.heap.objs.size:=by obtain⟨_,e⟩:=B.got;exact vy e
 have N:@LT.lt Nat _ q d.heap.objs.size:=by obtain⟨_,e⟩:=A.got;exact vy e
 refine zl B A fun g C z y h1 h2 U Y=>?_
 have D:Py (d.heap.objs.size+4) (d.heap.objs.size+2) (d.heap.objs.size+3) d.heap.objs.size (d.heap.objs.size+1) p q:=by
  refine⟨?_,?_,?_,?_,?_,?_,?_,?_,?_,?_,?_,?_,?_,?_,?_,?_,?_,?_⟩<;>(show @Ne Nat _ _;omega)
 refine Rq (s:={d with heap:=g}) C ?_;refine⟨d.heap.objs.size+4,[d.heap.objs.size+4,d.heap.objs.size+2,d.heap.objs.size+3,d.heap.objs.size,d.heap.objs.size+1],_,_,H1,rfl,o.kept (t':=d.toks) Y,Ca _ _ _ _ _ p q D,⟨C,z,⟨_,_,y⟩,h1,h2⟩,fun b E=>?_,V⟩
 have l:d.heap.objs.size<=b:=by
  simp only[ri,Lp,or_false]at E;rcases E with rfl|rfl|rfl|rfl|rfl
  ·exact MH _ 4
  ·exact MH _ 2
  ·exact MH _ 3
  ·exact lj _
  ·exact MH _ 1
 exact o.Bb l (o.hok.fresh l)
theorem D3{K:bA}{t r:Bool}{a b:Addr}{xs ys:List V}{g:TG}{B:TS}{D:Ends}{d:St}{H:Hp}(j:Nat->St->Hp->Prop)(Q:j 0 d H)(z:∀i d H,i<=min xs.length ys.length->j i d H->nc K t H a xs)(w:∀i d H,i<=min xs.length ys.length->j i d H->nc K r H b ys)
  (hs:∀i x y d H p,xs[i]?=some x->ys[i]?=some y->j i d H->H p=none->g (.ref p) d (upd H p (.tup [x,y])) fun l A=>B {D with nx:=j (i+1),ct:=j (i+1),bk:=D.nx} l A) (hd:∀d H,j (min xs.length ys.length) d H->D.nx d H) :
  ∃W:Nat->Nat->St->Hp->Prop,(∃m,W 0 m d H)/\∀i m d H,W i m d H ->
   ((GQ K t a r b).stop i H/\D.nx d H)\/((GQ K t a r b).go i H/\∃N:St->Hp->Prop,(∀o q,N o q->∃C,C < m/\W (i+1) C o q)/\∀x q,(GQ K t a r b).yld i H x q->g x d q fun l A=>B {D with nx:=N,ct:=N,bk:=D.nx} l A):=by
 generalize hn:min xs.length ys.length=n at *;refine⟨fun i m d H=>m=n-i/\i<=n/\j i d H,⟨n,by simp,Ld _,Q⟩,?_⟩;rintro i m d H ⟨rfl,E,p⟩;have q1:=z i d H E p;have u:=w i d H E p
 by_cases v:i<n
 ·have O:i<xs.length:=by omega
  have M:i<ys.length:=by omega
  refine .inr ⟨⟨xs,ys,xs[i],ys[i],q1,u,by simp[O],by simp[M]⟩,j (i+1),fun o q L=>⟨n - (i+1),by omega,rfl,v,L⟩,fun x q y=>?_⟩;obtain⟨J,I,G,P,rfl,rfl,S,R⟩:=y;exact hs i I G d H J (S xs q1) (R ys u) p P
 ·have e:i=n:=by omega
  subst e;exact .inl ⟨⟨xs,ys,q1,u,by omega⟩,hd d H p⟩
section
variable {g:TG}{tt:TT}{te:TE}{Q:VK}{σ0:St}{H0:Hp}
theorem Cc{K:bA}{r q:Bool}{a b:Addr}{xs ys:List V}(l:Nat->St->List V->Hp->Prop)(D:l 0 σ0 [] H0)(m:∀i e d H,i<=min xs.length ys.length->l i e d H->d.length<=i)(hn:min xs.length ys.length<=nk)
  (hl1:∀i e d H,i<=min xs.length ys.length->l i e d H->nc K r H a xs) (hl2:∀i e d H,i<=min xs.length ys.length->l i e d H->nc K q H b ys)
  (hs:∀i x y e d H p,xs[i]?=some x->ys[i]?=some y->l i e d H->H p=none->g (.ref p) e (upd H p (.tup [x,y])) fun j J=>tt j J fun ok t=>if ok=true then te j t fun v I=>l (i+1) j (d++[v]) I else l (i+1) j d t)
  (hd:∀e d H,l (min xs.length ys.length) e d H->∀p,H p=none->Q (.ref p) (upd H p (.lst d))):jP (GQ K r a q b) g tt te Q σ0 H0:=by
 refine qB (min xs.length ys.length) l D m hn (fun i e d H o p=>?_) (fun e d H p=>⟨xs,ys,hl1 _ e d H (lj _) p,hl2 _ e d H (lj _) p,by omega⟩) (fun i e d H x L o p y=>?_) hd
 ·have B:i<xs.length:=by omega
  have A:i<ys.length:=by omega
  exact⟨xs,ys,xs[i],ys[i],hl1 i e d H (Mb o) p,hl2 i e d H (Mb o) p,by simp[B],by simp[A]⟩
 ·obtain⟨z,w,u,C,rfl,rfl,G,E⟩:=y;exact hs i w u e d H z (G xs (hl1 i e d H (Mb o) p)) (E ys (hl2 i e d H (Mb o) p)) p C
end
end L2
namespace HT
open PySem PyProof.Rows
section
open PySem.SeqAt
open PySem.AutoSeq1 (wpAny_loadPart')
open PySem.MeetsSeq PySem.MeetsSeq2 PySem.MeetsSeq3
variable {prog:FG}{w:Lk}{A:Lz}{E:j3->mu->Prop}{s:mu}
theorem nh{t d:Addr}{items:Array j3}{m l:j3}{lo hi:Option Int}{Q:j3->mu->Prop}(ht:IsTup s.heap t items)(hs:s.heap.IsSliceOf d m l .none)(p:PN m lo)(o:PN l hi)
  (h0:gj items.size 0 lo=0) (h1:gj items.size items.size hi=items.size) (h:Q (.ref t) s):La (Lr prog w) A (P7 (.ref t) (.ref d)) Q E s:=by
 obtain⟨q,e,g,r⟩:=id hs;have j:s.TypeIs (.ref d) "slice":=⟨q,e,g⟩;unfold P7
 try with_reducible refine LI ?_
 first|refine bB (my ?_)|skip
 refine bB (QJ ht.typeIs (by decide) ?_)
 refine bB (LP (name:=Lj "__getitem__") ht.typeIs Mf
  (Mr Mf ht.typeIs entry_tuple_getitem ?_ (args_tuple_getitem _ _)))
 show La _ _ (Qk (.ref t)>>=_) _ _ s;refine bB (tupleItemsOf_ ht ?_);refine bB (MJ j ?_);rw[if_pos (by decide)];refine bB (kh hs p o ?_);rw[h0,h1];show La _ _ (if(((0:Nat):Int) == 0&&(1:Int) == 1&&(items.size-0) == items.size)=true then _ else _) _ _ s;rw[if_pos (by simp)];show La _ _ ((typeOf (.ref t)>>=_)>>=_) _ _ s;refine bB (bB (MJ ht.typeIs (my ?_)));show La _ _ (if(_:Bool)=true then _ else _) _ _ s;rw[if_pos (by decide)];refine bB (Ol ?_);exact my ⟨_,rfl,my h⟩
end
end HT
namespace L2
open PySem PySem.Spec PyProof.Rows
section
variable {X:Cx}{e st:Expr}{lo hi:Option Expr}{te:TE}{tl th tk:TO}{p2 pos:Pos}
noncomputable def HN(K:bA):V->Option Int->Option Int->Hp->VK->Prop:=fun x lo hi H Q=>∃a g,x=.ref a/\bN K H a g/\∀p d,aF H d->bN K d p (gq g lo hi)->Q (.ref p) d
theorem zu:Ft X (HN X.K):=by
 intro j s B H x v D C lo hi E Q I t A y w h;obtain⟨a,d,rfl,o,q⟩:=h
 by_cases l:HT.gj d.length 0 lo=0/\HT.gj d.length d.length hi=d.length
 ·cases t
  obtain⟨m,r,z,J⟩:=I.tuple o;have g:m.toArray.size=d.length:=by rw[rj];exact r.length.symm
  refine⟨"tuple",_,Mf.lookup,z.typeIs,?_⟩;refine HT.nh z A y w (by rw[g];exact l.1) (by rw[g];exact l.2) ⟨.ref a,H,I,rfl,q a H (fun _ _ e=>e) ?_⟩
  have:gq d lo hi=d:=by
   unfold gq;rw[l.1,l.2,List.drop_zero,Nat.sub_zero,Lv]
  rw[this];exact o
 ·exact Bh j s B H (.ref a) v D C lo hi E Q I t A y w ⟨a,d,rfl,o,l,fun p G=>q p _ (fun b u q=>by rw[av (aq q G)];exact q) (bN.of af)⟩
theorem wC(K:bA)(d:X.K=K):Ft X (HN K):=by subst d;exact zu
end
end L2
namespace L2
open PySem
structure bH(M:List Addr) (f:Addr) (H H':Hp):Prop where
 oth:∀b o,b∉M->b≠f->H b=some o->H' b=some o
 kt:Kt H H'
 ff:cE H' f
section
variable {M:List Addr}{f:Addr}{H H1 H2:Hp}
theorem bH.refl(d:cE H f):bH M f H H:=⟨fun _ _ _ _ e=>e,Kt.refl,d⟩
theorem bH.ext(a:bH M f H H1)(e:Ext f H1 H2):bH M f H H2:=⟨fun b o g d h=>e.1 b o d (a.oth b o g d h),a.kt.trans (e.kt a.ff),e.2⟩
theorem bH.same(a:bH M f H H1)(e:aF H1 H2):bH M f H H2:=⟨fun b o g d h=>e b o (a.oth b o g d h),a.kt.trans (Kt.same e),let⟨p,q,h⟩:=a.ff;⟨p,q,e _ _ h⟩⟩
theorem bH.trans(a:bH M f H H1)(b:bH M f H1 H2):bH M f H H2:=⟨fun c o e d h=>b.oth c o e d (a.oth c o e d h),a.kt.trans b.kt,b.ff⟩
theorem bH.upd{l:Addr}{us:List V}{o:HO}(a:bH M f H H1)(hm:l∈M)(n:l≠f)(h:H1 l=some (.lst us)):bH M f H (upd H1 l o):=⟨fun b g d j e=>by have z:b≠l:=(fun z=>d (by rw[z];exact hm));rw[av z];exact a.oth b g d j e,a.kt.trans (Kt.lst h o),let⟨p,q,e⟩:=a.ff;⟨p,q,by rw[av n.symm];exact e⟩⟩
theorem bH.sL{l:Addr}{us:List (Key×V)}{o:HO}(a:bH M f H H1)(hm:l∈M)(n:l≠f)(h:H1 l=some (.dK us)):bH M f H (L2.upd H1 l o):=⟨fun b g d j e=>by have z:b≠l:=(fun z=>d (by rw[z];exact hm));rw[av z];exact a.oth b g d j e,a.kt.trans (Kt.upd h (fun _ z=>nomatch z) (fun _ _ z=>nomatch z) o),let⟨p,q,e⟩:=a.ff;⟨p,q,by rw[av n.symm];exact e⟩⟩
theorem bH.yk{l:Addr}{us:List V}{o:HO}(a:bH M f H H1)(hn:H l=none)(n:l≠f)(h:H1 l=some (.lst us)):bH M f H (L2.upd H1 l o):=⟨fun b d j g e=>by rw[av (aq e hn)];exact a.oth b d j g e,a.kt.trans (Kt.lst h o),let⟨p,q,e⟩:=a.ff;⟨p,q,by rw[av n.symm];exact e⟩⟩
theorem bH.drop{l:Addr}(a:bH (l::M) f H H1)(hn:H l=none):bH M f H H1:=⟨fun b o e d h=>a.oth b o (fun z=>(ri.mp z).elim (fun z=>by subst z;rw[hn]at h;cases h) e) d h,a.kt,a.ff⟩
theorem bH.more{l:Addr}(a:bH M f H H1):bH (l::M) f H H1:=⟨fun b o e d h=>a.oth b o (fun z=>e (.tail _ z)) d h,a.kt,a.ff⟩
theorem bH.sub{d:List Addr}(a:bH M f H H1)(h:∀z∈M,z∈d):bH d f H H1:=⟨fun b o j g e=>a.oth b o (fun z=>j (h b z)) g e,a.kt,a.ff⟩
theorem bH.ex(a:bH [] f H H1):Ext f H H1:=⟨fun b o n h=>a.oth b o (fun z=>nomatch z) n h,a.ff⟩
theorem Ext.tX(d:cE H f)(e:Ext f H H1):bH M f H H1:=(bH.refl d).ext e
theorem bH.rO(a:bH [] f H H1){b:Addr}{o:HO}(n:b≠f)(h:H b=some o):H1 b=some o:=a.oth b o (fun z=>nomatch z) n h
theorem bH.fF{l:Addr}(a:bH [l] f H H1){b:Addr}{o:HO}(d:b≠l)(n:b≠f)(h:H b=some o):H1 b=some o:=a.oth b o (fun z=>d (nt.mp z)) n h
theorem bH.eK{l m:Addr}(a:bH [l,m] f H H1){b:Addr}{o:HO}(d:b≠l)(n2:b≠m)(n:b≠f)(h:H b=some o):H1 b=some o:=a.oth b o (fun z=>(ri.mp z).elim d fun z=>n2 (nt.mp z)) n h
theorem bH.free(a:bH M f H H1){p:Addr}(d:H1 p=none)(hm:p∉M):H p=none:=by
 cases e:H p with
 |none=>rfl
 |some o =>
  by_cases c:p=f
  ·subst c;obtain⟨x,y,z⟩:=a.ff;rw[z]at d;cases d
  ·rw[a.oth p o hm c e]at d;cases d
theorem Ay{l:Addr}(d:cE H f)(h:H l=none):l≠f:=fun z=>by
 obtain⟨p,q,e⟩:=d;rw[←z,h]at e
 cases e
end
theorem jc(xs:List V)(n:Nat):gq xs none (some (n:Int))=xs.take n:=by
 unfold gq;rw[HT.oi,HT.vI,List.drop_zero,Nat.sub_zero];rcases SK n xs.length with h|h
 ·rw[Nz h]
 ·rw[Rg h,LO (lj _),LO h]
theorem pW(xs:List V)(j:Nat):gq xs (some (j:Int)) none=xs.drop j:=by
 unfold gq;rw[HT.oi,HT.vI];rcases SK j xs.length with h|h
 ·rw[Nz h,LO (by rw[Nk];omega)]
 ·rw[Rg h,RH h,RH (lj _)];simp
theorem oU(xs:List V)(a b:Nat)(h:b<=xs.length)(d:a<=b):gq xs (some (a:Int)) (some (b:Int))=(xs.drop a).take (b-a):=by
 unfold gq;rw[HT.oi,HT.oi,Nz h,Nz (by omega)]
end L2
namespace G33
open PySem L2
noncomputable def stp:List T->List Nat->List T->List T
 |L,p::ps,k::ks=>stp (L.set p k) ps ks
 |L,_,_=>L
theorem zw:∀(L:List T) (ps:List Nat) (ks:List T),(stp L ps ks).length=L.length
 |L,[],_=>by rw[stp];exact fun _ _ _ _ h=>nomatch h
 |L,_::_,[]=>by rw[stp];exact fun _ _ _ _ _ h=>nomatch h
 |L,p::ps,k::ks=>by rw[stp,zw,List.length_set]
theorem wD:∀{L:List T}{ps:List Nat}{ks:List T}{p:Nat}{k:T},ps.length=ks.length->stp L (ps++[p]) (ks++[k])=(stp L ps ks).set p k
 |L,[],[],p,k,_=>by rw[PR,PR,stp,stp,stp]<;>exact fun _ _ _ _ h=>nomatch h
 |L,q::ps,j::ks,p,k,h=>by rw[MU,MU,stp,stp,wD (Tn h)]
theorem zx{K:bA}{H:Hp}{t:T}{u:V}(r:Rp K H t u):∀{ts:List T}{us:List V}{j:Nat},bI K H ts us->bI K H (ts.set j t) (us.set j u)
 | [],_,j,h=>by obtain rfl:=h.fE;exact .nil
 |t1::ts,_,0,h=>by obtain⟨v,q,rfl,_,d⟩:=h.inv;exact .cons r d
 |t1::ts,_,j+1,h=>by obtain⟨v,q,rfl,e,d⟩:=h.inv;exact .cons e (zx r d)
theorem D4{n j:Nat}(h:j<n):yP n (j:Int)=some j:=by
 unfold yP;rw[if_pos (by omega),if_pos (by omega),Mv]
theorem iA{d:Type}{xs:List d}{i:Nat}{x:d}(h:xs[i]?=some x):xs.take (i+1)=xs.take i++[x]:=by
 rw[Lc (ko.mp h).1,(ko.mp h).2]
theorem Cd(xs:List V)(j:Nat)(d:j<xs.length):¬(HT.gj xs.length 0 none=0/\HT.gj xs.length xs.length (some (j:Int))=xs.length):=fun z=>by
 have:=z.2;rw[HT.oi]at this;omega
theorem Gd{arms:List (Str×List Str)}{ts:List T}{i:Nat}{t:T}(h:(LK gw arms ts)[i]?=some t):∃x k,arms[i]?=some x/\t=gw x k:=by
 rw[RQ]at h
 cases e1:arms[i]? with
 |none=>rw[e1]at h;cases h
 |some x =>
  cases e2:ts[i]? with
  |none=>rw[e1,e2]at h;cases h
  |some k=>rw[e1,e2]at h;exact⟨x,k,rfl,(LQ h).symm⟩
theorem Ce{arms:List (Str×List Str)}{ks:List T}{a:Str×List Str}{k:T}(h:arms.length=ks.length):LK gw (arms++[a]) (ks++[k])=LK gw arms ks++[gw a k]:=by
 rw[List.zipWith_append h];rfl
noncomputable def Ge(hd:Hd)(ks ks2:List Tm):Prop:=∃(e:Str) (r:List T) (d:List Nat) (n:Nat),(e,d)∈placesOf/\kZ hd (ks.map enc)=.t (.s e::r)/\d.length=ks2.length/\r.length=n/\(∀p∈d,p<n+1)/\n<=5/\kZ hd (ks2.map enc)=.t (stp (.s e::r) d (ks2.map enc))
noncomputable def HP(hd:Hd)(ks ks2:List Tm):Prop:=∃(d:Str) (r:List T) (j:Nat),(d,j)∈([("row",1),("tag",2),("call",2)]:List (Str×Nat))/\kZ hd (ks.map enc)=.t (.s d::r)/\r.length=j/\kZ hd (ks2.map enc)=.t ((T.s d::r).take j++[.t (ks2.map enc)])
theorem Cf {hd : Hd} {ks ks2 : List Tm} (j : cM hd ks.length = true) (g : ks2.length = ks.length) : Ge hd ks ks2 ∨ HP hd ks ks2 ∨ (∃ arms, hd = .mat arms) ∨ (∃ x, hd = .lt x) ∨ ∃ x y, hd = .fold x y := by
  cases hd
  case num n => obtain rfl : ks = [] := by simpa [cM] using j
                obtain rfl := Mh.mp g;exact .inl ⟨"num", [.i n], [], 1, by decide +kernel, rfl, rfl, rfl, by decide, by decide, rfl⟩
  case name x => obtain rfl : ks = [] := by simpa [cM] using j
                 obtain rfl := Mh.mp g;exact .inl ⟨"name", [.s x], [], 1, by decide +kernel, rfl, rfl, rfl, by decide, by decide, rfl⟩
  case gap n => obtain rfl : ks = [] := by simpa [cM] using j
                obtain rfl := Mh.mp g;exact .inl ⟨"gap", [.i n], [], 1, by decide +kernel, rfl, rfl, rfl, by decide, by decide, rfl⟩
  case op s => obtain ⟨a, b, rfl⟩ := l2 (show ks.length = 2 by simpa [cM] using j)
               obtain ⟨c, d, rfl⟩ := l2 g;exact .inl ⟨"op", [.s s, enc a, enc b], [2, 3], 3, by decide +kernel, rfl, rfl, rfl, by decide, by decide, rfl⟩
  case more => obtain ⟨a, b, rfl⟩ := l2 (show ks.length = 2 by simpa [cM] using j)
               obtain ⟨c, d, rfl⟩ := l2 g;exact .inl ⟨"more", [enc a, enc b], [1, 2], 2, by decide +kernel, rfl, rfl, rfl, by decide, by decide, rfl⟩
  case first => obtain ⟨a, rfl⟩ := l1 (show ks.length = 1 by simpa [cM] using j)
                obtain ⟨c, rfl⟩ := l1 g;exact .inl ⟨"first", [enc a], [1], 1, by decide +kernel, rfl, rfl, rfl, by decide, by decide, rfl⟩
  case others => obtain ⟨a, rfl⟩ := l1 (show ks.length = 1 by simpa [cM] using j)
                 obtain ⟨c, rfl⟩ := l1 g;exact .inl ⟨"others", [enc a], [1], 1, by decide +kernel, rfl, rfl, rfl, by decide, by decide, rfl⟩
  case long => obtain ⟨a, rfl⟩ := l1 (show ks.length = 1 by simpa [cM] using j)
               obtain ⟨c, rfl⟩ := l1 g;exact .inl ⟨"long", [enc a], [1], 1, by decide +kernel, rfl, rfl, rfl, by decide, by decide, rfl⟩
  case ife => obtain ⟨a, b, c, rfl⟩ := l3 (show ks.length = 3 by simpa [cM] using j)
              obtain ⟨d, e, f, rfl⟩ := l3 g;exact .inl ⟨"if", [enc a, enc b, enc c], [1, 2, 3], 3, by decide +kernel, rfl, rfl, rfl, by decide, by decide, rfl⟩
  case row => exact .inr (.inl ⟨"row", [.t (ks.map enc)], 1, by decide +kernel, rfl, rfl, rfl⟩)
  case tag t => exact .inr (.inl ⟨"tag", [.s t, .t (ks.map enc)], 2, by decide +kernel, rfl, rfl, rfl⟩)
  case call t => exact .inr (.inl ⟨"call", [.s t, .t (ks.map enc)], 2, by decide +kernel, rfl, rfl, rfl⟩)
  case mat arms => exact .inr (.inr (.inl ⟨_, rfl⟩))
  case lt x => exact .inr (.inr (.inr (.inl ⟨_, rfl⟩)))
  case fold x y => exact .inr (.inr (.inr (.inr ⟨_, _, rfl⟩)))
noncomputable def yl(K:bA):Sp:=fun m H Q _=>∃(v:V) (l:Addr) (hd:Hd) (ks d:List Tm) (j:List V),m=[v,.ref l]/\Rp K H (enc (.mk hd ks)) v/\cM hd ks.length=true/\H l=some (.lst j)/\bI K H (d.map enc) j/\d.length=ks.length/\ks.length<=900 /\
 ∀g e,aF H e->Rp K e (enc (.mk hd d)) g->Q g e
section
variable {P:FG}{w:Lk}{K:bA}{mg:Str->Option j3}{base:Heap}{dP dM:Addr}{pl:List (Str×V)}
theorem aC:Nm ["term","inner","form","arms","told","place","each"] (aj fj):=by decide +kernel
theorem fK:Lm ["term","inner","form","arms","told","place","each"] (aj fj):=by decide +kernel
theorem eF:aI ["term","inner","form","arms","told","place","each"] ["term","inner"] (aj fj):=⟨rfl,rfl,rfl,by decide +kernel,rfl,by decide +kernel,by decide +kernel⟩
theorem D5{f:Addr}{fd:zo}(F:gX K "with_inner" "with_inner" fj f fd)(TB:FP K w mg dP dM pl)(I:mg "zip"=none)(g:mg "tuple"=none)(S:mg "list"=none):bK P w K mg base eL 1 f fd ["term","inner"] (yl K):=by
 refine F.ok eF (fun J H Q E h=>?_) (fun bs A a8 s H J Q E hr h=>?_)
 ·obtain⟨_,_,_,_,_,_,rfl,_⟩:=h;rfl
 obtain⟨v,l,hd,ks,ks2,L,rfl,hv,ar,hl,rs,hk,hz,k⟩:=h;refine⟨_,(Z6 (Z2 eF.nd fK 2 (Z9 aQ (va aC 0))) (Z6 (Zd (Zq bJ (va aC 2) az) (Z6 (Zi (aj fj) ["term","inner","form","arms","told","place","each"] ["told","tag","names","old"] [] (Cb K rfl (by show _=_;kernel_rfl) I (Z1 (Z9 aQ (va aC 0)) (Z1 (cK gu (va aC 1) (cy ao) dQ) ak))) (fun _ _ _ _=>(Zc (Zh (@fO _ _ _ _ _ (3) K rfl rfl (Zh (Z3 (i:=1) (show(["told","tag","names","old"]:List Str).Nodup by decide +kernel)) (Zh (Z3 (i:=2) (show(["told","tag","names","old"]:List Str).Nodup by decide +kernel)) (aG (Z3 (i:=3) (show(["told","tag","names","old"]:List Str).Nodup by decide +kernel)) aZ))) (by rfl) (by rfl)) (aG (Z3 (i:=0) (show(["told","tag","names","old"]:List Str).Nodup by decide +kernel)) aZ)))) (fun _ _ _ _=>dW) (fun _ _ _ _=>(Ze (Z1 (va (show Nm ["told","tag","names","old"] _ by show _=_;kernel_rfl) 1) (Z1 (va (show Nm ["told","tag","names","old"] _ by show _=_;kernel_rfl) 2) (Zb (va (show Nm ["told","tag","names","old"] _ by show _=_;kernel_rfl) 0)))))) (ga eF.nd fK 3)) (Zg (Zn (Ze (Z1 az (Z1 (Z9 aW (va aC 1)) (Z1 (Z4 aH g Le (Zb (va aC 3))) ak)))))))) (Z6 (Zd (Zq bJ (va aC 2) az) (Zg (Zn (Ze (Z1 az (Z1 (Z9 aQ (va aC 0)) (Z1 (Z9 aW (va aC 1)) (Z1 (Z9 aW (va aC 1)) ak)))))))) (Z6 (Zd (Zq bJ (va aC 2) az) (Zg (Zn (Ze (Z1 az (Z1 (Z9 aW (va aC 1)) (Z1 (Z9 aQ (va aC 0)) (Z1 (Z9 aQ (va aC 0)) (Z1 (Z9 aW (va aC 1)) (Z1 (Z9 aW (va aC 1)) ak)))))))))) (Z6 (Zd (eX za (va aC 2) (iQ (v:=.ref dM) (by rfl) TB.mM rfl) (by with_unfolding_all rfl)) (Zg (Zn (Zm rF (@cK _ _ _ _ _ _ _ _ _ _ Bh (va aC 0) dQ (@cy _ _ _ (qC (iQ (v:=.ref dM) (by rfl) TB.mM rfl) (va aC 2) (fun _ _=>rfl)))) (Ze (Z1 (Z4 aH g Le (Zb (va aC 1))) ak)))))) (Z6 (Z2 eF.nd fK 4 (Z4 iS S Nu (Zb (va aC 0)))) (Z6 (Zj (Cb K rfl (by show _=_;kernel_rfl) I (Z1 (qC (iQ (v:=.ref dP) (by rfl) TB.mP rfl) (va aC 2) (fun _ _=>rfl)) (Zb (va aC 1)))) (Zc (Zh (ga eF.nd fK 5) (aG (ga eF.nd fK 6) aZ))) (Zg (Zo (va aC 6) (uo (va aC 4) (va aC 5) set_list)))) (Zg (Zn (Z4 aH g Le (Zb (va aC 4)))))))))))),?_⟩
 try dsimp only[bM]
 try dsimp only[bM]
 have kM:=TB.kM;have kP:=TB.kP;refine vW ?_;intro N1 N2 N3 N4 N5 N6 N7 c1 c2 c3 c4 c5 c6 c7;rw[bw]at hv;have ah:=rs.length;rw[bC]at ah;rcases Cf (ks2:=ks2) ar hk with⟨fm,r,ps,n,hm,he,hpl,hrn,hlt,ap,he2⟩|⟨fm,r,j,hm,he,hj,he2⟩|⟨arms,rfl⟩|⟨x,rfl⟩|⟨x,y,rfl⟩
 ·rw[he]at hv;obtain⟨a,J,rfl,hS,u⟩:=hv.aY;obtain⟨v0,D,rfl,e0,aa⟩:=id u.inv;obtain rfl:=e0.aR;obtain⟨pa,lk,aq⟩:=TB.at_ fm ps hm;obtain⟨n1,n2,n3,n4⟩:=vZ (fm,ps) hm;have bn:bz K H a (V.str fm::D)\/bN K H a (V.str fm::D):=.inr hS;have lq:=u.length;fail "R"
  ·exact uG _ _
  fail "R";refine lQ (vv n1) ?_;fail "R";refine lQ (vv n2) ?_;fail "R";refine lQ (vv n3) ?_;fail "R";refine lQ n4 ?_;fail "R";intro U X;have B:=ae X (.lst (V.str fm::D));have Z:upd H U (.lst (V.str fm::D)) U=some (.lst (V.str fm::D)):=af;generalize upd H U (.lst (V.str fm::D))=H1 at B Z⊢;have bj:nc K true H1 pa (ps.map fun(j:Nat)=>V.int (j:Int)):=aq H1;have bi:nc K false H1 l L:=bz.of (B _ _ hl);fail "R";refine D3 (K:=K) (xs:=ps.map fun(j:Nat)=>V.int (j:Int)) (ys:=L) (fun i C d=>(∃o5 o6,C=[some (.ref a),some (.ref l),some (.str fm),none,some (.ref U),o5,o6])/\aF H d/\∃ws,d U=some (.lst ws)/\bI K d (stp (.s fm::r) (ps.take i) ((ks2.map enc).take i)) ws) ⟨⟨_,_,rfl⟩,B,_,Z,by rw[O3,O3,stp];exact u.same B;exact fun _ _ _ _ h=>nomatch h⟩ ?_ ?_ ?_ ?_
  ·exact fun i C d _ _=>aq d
  ·exact fun i C d _ ⟨_,o,_⟩=>bz.of (o _ _ hl)
  ·rintro i x y C d p hx hy ⟨⟨_,_,rfl⟩,o,ws,hw,M⟩ O;rw[rz]at hx;obtain⟨q,hq,rfl⟩:=FA.mp hx;obtain⟨tk,W,rk⟩:=rs.get' hy;have m:=ae O (.tup [V.int (q:Int),y]);have h3:upd d p (.tup [V.int (q:Int),y]) p=some (.tup [V.int (q:Int),y]):=af;generalize upd d p (.tup [V.int (q:Int),y])=H3 at m h3⊢;have am:=m _ _ hw;have lw:=M.length;rw[zw]at lw;have br:yP ws.length (q:Int)=some q:=D4 (by have:=hlt q (we hq);simp at lw;omega);fail "R"
   ·exact(o.trans m).rG X _
   fail "R";rw[iA hq,iA W,wD (by rw[Lb,Lb,bC,hpl])];exact zx ((rk.same (o.trans m)).kt (Kt.lst am _)) ((M.same m).kt (Kt.lst am _))
  ·rintro C d ⟨⟨_,_,rfl⟩,o,ws,hw,M⟩;rw[bC,ah,hpl,P9,←hpl,Lv,hpl,LO (by rw[bC];exact lj _)]at M;fail "R";exact .inl ⟨bz.of hw,fun l2 aw=>k _ _ (o.trans (ae aw _)) (by rw[bw,he2];exact Rp.new (K:=K) aw M)⟩
 ·rw[he]at hv;obtain⟨a,J,rfl,hS,u⟩:=hv.aY;obtain⟨v0,D,rfl,e0,aa⟩:=id u.inv;obtain rfl:=e0.aR;obtain⟨n1,n2,n3,n4⟩:=zd (fm,j) hm;have bm:Pw fm pS=some (.int (j:Int)):=n4;fail "R"
  ·exact uG _ _
  fail "R";refine lQ (vv n1) ?_;fail "R";refine lQ (vv n2) ?_;fail "R";refine lQ (vv n3) ?_;fail "R";refine Al (by rw[n4];rfl) ?_;have lq:=u.length;have bq:j<=2:=(show ∀p∈([("row",1),("tag",2),("call",2)]:List (Str×Nat)),p.2<=2 by decide) _ hm;fail "R"
  ·exact Cd _ j (by simp at lq⊢;omega)
  intro U X;rw[jc];have B:=ae X (.tup ((V.str fm::D).take j));have Z:upd H U (.tup ((V.str fm::D).take j)) U=some (.tup ((V.str fm::D).take j)):=af;generalize upd H U (.tup ((V.str fm::D).take j))=H1 at B Z⊢;have ab:=B _ _ hl;have a6:=(u.take j).same B;have a7:=rs.same B;fail "R";refine .inl ⟨bz.of ab,fun p2 au=>?_⟩;have o:=ae au (.tup L);have r2:=Rp.new (K:=K) au a7;generalize upd H1 p2 (.tup L)=d at o r2⊢;fail "R";intro p3 bg;have m:=ae bg (.tup [.ref p2]);have bk:=bN.of (K:=K) (m _ _ (o _ _ Z));have h3:bN K (upd d p3 (.tup [.ref p2])) p3 [.ref p2]:=bN.of af;generalize upd d p3 (.tup [.ref p2])=H3 at m bk h3⊢;have bo:((V.str fm::D).take j).length+[V.ref p2].length<=nk:=small (by rw[Lb];show min _ _+1<=1000;omega);fail "R";intro p4 H4 T a5;have ag:=(o.trans m).trans T;exact k _ _ (B.trans ag) (by rw[bw,he2];exact Rp.t a5 ((a6.same ag).append (.one (r2.same (m.trans T)))))
 ·have ac:ks.length=arms.length+1:=by simpa[cM]using ar
  match ks,ac,ks2,hk with
  |k0::kr,ac,j0::jr,hk =>
  have Y:arms.length=kr.length:=by simpa using ac.symm
  have ad:jr.length=kr.length:=by simpa using hk
  obtain⟨a,v0,v1,v2,rfl,hS,e0,e1,e2⟩:=(show Rp K H (.t [.s "match",enc k0,.t (LK gw arms (kr.map enc))]) v from hv).t3;obtain rfl:=e0.aR;obtain⟨b,ay,rfl,ax,an⟩:=e2.aY;obtain⟨u0,R,rfl,g0,G⟩:=rs.inv;have al:=an.length;rw[MM,bC,Y,P9]at al;have ai:=G.length;rw[bC]at ai;fail "R";intro l1 ab;rw[show gq (u0::R) (some 1) none=R from pW (u0::R) 1];have B:=ae ab (.lst R);have Z:upd H l1 (.lst R) l1=some (.lst R):=af;generalize upd H l1 (.lst R)=H1 at B Z⊢;have bi:nc K false H1 l1 R:=bz.of Z;have bj:nc K true H1 b ay:=ax.same B;fail "R";refine Cc (K:=K) (xs:=ay) (ys:=R) (fun i C L d=>(∃y0 y1 y2 y3,C=[y0,y1,y2,y3])/\aF H1 d/\bI K d (LK gw (arms.take i) ((jr.take i).map enc)) L/\L.length=i) ⟨⟨_,_,_,_,rfl⟩,aF.refl _,.nil,rfl⟩ ?_ (small (by omega)) ?_ ?_ ?_ ?_
  ·exact fun i C L d _ ⟨_,_,_,e⟩=>SM e
  ·exact fun i C L d _ ⟨_,o,_⟩=>ax.same (B.trans o)
  ·exact fun i C L d _ ⟨_,o,_⟩=>bz.of (o _ _ Z)
  ·rintro i xv yv C L d p hx hy ⟨⟨_,_,_,_,rfl⟩,o,r2,e2⟩ O;obtain⟨ta,ba,ra⟩:=an.get' hx;obtain⟨x,kk,a9,rfl⟩:=Gd ba;obtain⟨tk,W,rk⟩:=G.get' hy;rw[rz]at W;obtain⟨jj,bh,rfl⟩:=FA.mp W;obtain⟨xa,x1,x2,x3,rfl,a4,q1,q2,q3⟩:=(show Rp K H (.t [.s x.1,.t (x.2.map .s),kk]) xv from ra).t3;have m:=ae O (.tup [V.ref xa,yv]);have h3:bN K (upd d p (.tup [V.ref xa,yv])) p [V.ref xa,yv]:=bN.of af;generalize upd d p (.tup [V.ref xa,yv])=H3 at m h3⊢;have z:=(B.trans o).trans m;have bl:=a4.same z;fail "R";intro p4 N;have T:=ae N (.tup [x1,x2,yv]);refine⟨⟨_,_,_,_,rfl⟩,(o.trans m).trans T,?_,by rw[lu,e2];rfl⟩;rw[iA a9,iA bh,nq,NV,Ce (by rw[bC,Lb,Lb,ad,←Y])];exact((r2.same m).same T).snoc (Rp.new (K:=K) (xs:=[.s x.1,.t (x.2.map .s),enc jj]) N (.cons (q1.same z) (.cons (q2.same z) (.one (rk.same z)))))
  ·rintro C J d ⟨⟨_,_,_,_,rfl⟩,o,r2,e2⟩ p O;rw[al,ai,ad,P9,←Y,Lv,Y,←ad,Lv]at r2;have m:=ae O (.lst J);have h3:upd d p (.lst J) p=some (.lst J):=af;generalize upd d p (.lst J)=H3 at m h3⊢;have z:=(B.trans o).trans m;have bp:=z _ _ hl;have a0:=uG u0 R;fail "R";refine .inl ⟨bz.of h3,fun p4 N=>?_⟩;have T:=ae N (.tup J);have r4:=Rp.new (K:=K) N (r2.same m);generalize upd H3 p4 (.tup J)=H4 at T r4⊢;fail "R";intro p5 as;exact k _ _ ((z.trans T).trans (ae as _)) (by rw[bw];exact Rp.new (K:=K) (xs:=[.s "match",enc j0,.t (LK gw arms (jr.map enc))]) as (.cons .s (.cons (g0.same (z.trans T)) (.one r4))))
 ·obtain⟨a1,a2,rfl⟩:=l2 (show ks.length=2 by simpa[cM]using ar);obtain⟨b1,b2,rfl⟩:=l2 hk;obtain⟨a,v0,v1,v2,v3,rfl,hS,e0,e1,e2,e3⟩:=(show Rp K H (.t [.s "let",.s x,enc a1,enc a2]) v from hv).t4;obtain rfl:=e0.aR;obtain⟨u1,_,rfl,g1,G⟩:=rs.inv;obtain⟨u2,_,rfl,g2,G⟩:=G.inv;obtain rfl:=G.fE;fail "R";intro p O;exact k _ _ (ae O _) (Rp.new (K:=K) (xs:=[.s "let",.s x,enc b1,enc b2]) O (.cons .s (.cons e1 (.cons g1 (.one g2)))))
 ·obtain⟨a1,a2,a3,rfl⟩:=l3 (show ks.length=3 by simpa[cM]using ar);obtain⟨b1,b2,b3,rfl⟩:=l3 hk;obtain⟨a,J,rfl,hS,u⟩:=(show Rp K H (.t [.s "fold",enc a1,.s x,.s y,enc a2,enc a3]) v from hv).aY;obtain⟨v0,_,rfl,e0,aa⟩:=u.inv;obtain⟨v1,_,rfl,e1,bf⟩:=aa.inv;obtain⟨v2,_,rfl,e2,be⟩:=bf.inv;obtain⟨v3,_,rfl,e3,bc⟩:=be.inv;obtain⟨v4,_,rfl,e4,ap⟩:=bc.inv;obtain⟨v5,_,rfl,e5,bb⟩:=ap.inv;obtain rfl:=bb.fE;obtain rfl:=e0.aR;obtain⟨u1,_,rfl,g1,G⟩:=rs.inv;obtain⟨u2,_,rfl,g2,G⟩:=G.inv;obtain⟨u3,_,rfl,g3,G⟩:=G.inv;obtain rfl:=G.fE;fail "R";intro p O;exact k _ _ (ae O _) (Rp.new (K:=K) (xs:=[.s "fold",enc b1,.s x,.s y,enc b2,enc b3]) O (.cons .s (.cons g1 (.cons e2 (.cons e3 (.cons g2 (.one g3)))))))
end
end G33
namespace L2
open PySem PySem.Spec PyProof.Rows
section
variable {prog:FG}{w:Lk}{A:Lz}{E:j3->mu->Prop}{s:mu}
set_option maxRecDepth 100000 in
theorem rP {l b p : Addr} {items new : Array j3} {n n2 : Nat} {u t : j3} {hi : Option Int} {a c : Nat} {Q : Unit → mu → Prop}
    (e : s.heap.get? l = some { cls := .type "list", data := .seq items n }) (e2 : s.heap.get? b = some { cls := .type "list", data := .seq new n2 }) (hne : l ≠ b)
    (hs : s.heap.IsSliceOf p u t .none) (pl : PN u (some (a : Int))) (pu : PN t hi) (hbd : LZ (some (a : Int)) hi none items.size = ((a : Int), (c : Int), 1)) (hac : a ≤ c) (hc : c ≤ items.size)
    (hsz : items.size + new.size ≤ nk) (h : Q () { s with heap := s.heap.update l (LX fun xs => xs.extract 0 a ++ new ++ xs.extract c xs.size) }) :
    La (Lr prog w) A (SD (.ref l) (.ref p) (.ref b)) Q E s := by
  have y : s.heap.IsList l items := S3 e;have C : s.heap.IsList b new := S3 e2;obtain ⟨B, g, z, o⟩ := id hs;have r : s.TypeIs (.ref p) "slice" := ⟨B, g, z⟩;have j : ¬ ((rawPart none == MN 0) = true) := Lg
  have d : MB (.ref l) (.ref b) = false := by
    unfold MB;exact beq_eq_false_iff_ne.mpr hne
  have q : (max (a : Int) (c : Int)).toNat = c := by omega
  have v : ((fun xs : Array j3 => xs.extract 0 a ++ new ++ xs.extract c xs.size) items).size ≤ nk + 1 := by
    simp only [Array.size_append, Array.size_extract];omega
  unfold SD
  try with_reducible refine LI ?_
  first | refine bB (my ?_) | skip
  refine bB (QJ y.typeIs (by decide) ?_)
  refine bB (LP (name := Lj "__setitem__") y.typeIs slot_list_setitem
    (Mr slot_list_setitem y.typeIs entry_list_setitem ?_ (args_list_setitem _ _ _)))
  show La _ _ (Qc (.ref p) >>= _) _ _ s;refine bB ?_;unfold Qc;refine bB (NZ r slice_no_index ?_);simp only [Option.isNone_none, if_true];refine my ?_;show La _ _ (typeOf (.ref p) >>= _) _ _ s;refine bB (MJ r ?_)
  first
    | rw [if_neg (by decide)]
    | refine Qt (by decide) ?_
  rw [listSliceParts_eq];refine bB (bB (LL g o (x := .none) rfl (bB (R6 .none ?_))));rw [if_neg j];refine bB (LL g o (x := u) rfl (bB (R6 pl ?_)));refine bB (LL g o (x := t) rfl (bB (R6 pu (my ?_))))
  first
    | simp only [d, Mi, if_false]
    | refine Qt d ?_
    | (dsimp only
       rw [if_neg (by rw [d]; exact Lg)])
  refine bB (m := QB (.ref b) "must assign iterable to extended slice") ?_;unfold QB;refine bB (MJ C.typeIs ?_)
  first
    | refine PySem.W.KFB.if_so (by decide) ?_
    | rw [if_pos (by decide)]
    | simp only [beq_self_eq_true, Bool.true_or, if_true]
  unfold Ng;refine bB (L6 e2 rfl (my ?_));refine bB (bB (L6 e rfl (my ?_)));refine bB (wpAny_of_eq ((sliceIndices_raw (some (a : Int)) hi none items.size (by simp)).trans (congrArg (pure : Int × Int × Int → Sem (Int × Int × Int)) hbd)) ?_);show La _ _ (if ((1 : Int) == 1) = true then _ else _) _ _ s;rw [if_pos (by decide)];refine bB (Ol ?_)
  first
    | simp only [oA hsz, Mi, if_false]
    | refine Qt (oA hsz) ?_
  first | refine bB (my ?_) | skip
  show La _ _ (Rl l (fun xs => xs.extract 0 ((a : Int)).toNat ++ new ++ xs.extract (max (a : Int) (c : Int)).toNat xs.size) >>= _) _ _ s;rw [q, Mv];refine bB (Ob (hz := I0 (MH _ _) hsz) (_hz' := v) e rfl ?_);refine bB (PB ?_)
  first
    | exact bB (my (my ⟨.none, rfl, my h⟩))
    | exact my ⟨.none, rfl, my h⟩
end
theorem Az{a n:Nat}(e:a<=n):LZ (some (a:Int)) none none n=((a:Int),(n:Int),1):=by
 simp only[LZ,Q8];have d:¬((a:Int)<0):=by omega
 simp only[d,if_false,show(1:Int)>0 by decide,if_true]
 congr 1
 omega
section
variable {X:Cx}
noncomputable def Ju(m:TE)(p:TO):TG:=fun v e H Q=>m e H fun o q=>p e q fun i j=>∃l b d g a,o=.ref l/\v=.ref b/\i=some a/\j l=some (.lst d)/\j b=some (.lst g)/\l≠b/\0<=a/\a<=d.length/\d.length+g.length<=nk/\Q e (upd j l (.lst (d.take a.toNat++g)))
theorem Gf{o:Expr}{lo:Option Expr}{A g:Pos}{E:TE}{G:TO}(S:PE X o E)(V:PO X lo G)
  (ha:∀v,RW (.Subscript o (.Slice lo none none A) g) X.env v=(do
   let j ←QF [v] (eval o X.env)
   let B ←QF [v,j] (eval (.Slice lo none none A) X.env)
   standAt g
   QF [v,j,B] (SD j B v)
   release [B,v,j] []):=by intro _;rfl):PG X (.Subscript o (.Slice lo none none A) g) (Ju E G):=by
 intro d s w H v u Q I r h;rw[ha];refine bB (LI (cO (S d s w H _ I h) fun j N ⟨x,H1,I1,O,q1⟩=>?_));refine bB (LI ?_);refine wpAny_Slice (cO (V d N w H1 _ I1 q1) fun M y ⟨l,H2,I2,R,P⟩=>?_);rw[Sg];refine my ?_;refine my ?_;have D:Inv X d w H2 {y with heap:=y.heap.push {cls:=.type "slice",data:=.fields #[M,.none,.none]}}:=I2.kept (t':=y.toks) fun b ob q=>mC _ q;obtain⟨p,b,xs,ys,a,rfl,rfl,rfl,J,W,C,Y,h1,hz,q⟩:=P
 cases O
 cases r
 obtain⟨z,t,n,r,U,e⟩:=D.sF J;obtain⟨z2,m,n2,r2,T,Z⟩:=D.sF W;obtain⟨L,rfl⟩:=Int.eq_ofNat_of_zero_le Y;simp only[Mv]at q;refine bB (Pk (bB (LI ?_)));refine rP (a:=L) (c:=t.toArray.size) (hi:=none) e Z C (Ql ..) R .none (Az (by rw[rj];omega)) (by rw[rj];omega) (lj _) (by rw[rj,rj];omega) ?_;refine wpAny_release ⟨w,_,D.Bm (its':=t.take L++m) (t':=y.toks) J e ?_ (Vals.append (r.take _) r2) ?_,q⟩
 ·rw[Af,rj,List.drop_length,LH]
 ·rw[lu,Lb];omega
end
structure oV(N P Fr:List Str) (sc:M4):Prop where
 kind:sc.kind=.function
 co:sc.isCoroutine=false
 gen:sc.isGenerator=false
 nd:N.Nodup
 pre:N.take P.length=P
 suf:N.drop (N.length-Fr.length)=Fr
 fit:P.length+Fr.length<=N.length
 par:∀x∈P,sc.names.lookup x=some .local
 nocell:∀y∈sc.names,y.2≠.cell
 fre:∀x∈Fr,sc.names.lookup x=some .free
 all:∀y∈sc.names,y.2=.free->y.1∈Fr
noncomputable def mJ(N:List Str)(e d:List V):St:=e.map some++(LB (N.length-e.length-d.length) none++d.map some)
noncomputable def ql(o:xD)(P:FG)(w:Lk)(K:bA)(mg:Str->Option j3)(base:Heap)(N:List Str)(g:Str)(d:M4)(f:Addr)(m:j3)(l:List (Str×Addr))(A:Lz)(outer:List Env)(s:mu)(H:Hp)(E:XK):Cx where
 prog:=P
 w:=w
 K:=K
 mg:=mg
 base:=base
 A:=A.deeper (NC g d s.heap.objs.size f m l)
 N:=N
 s₀:=s
 H₀:=H
 env:=NC g d s.heap.objs.size f m l
 outer:=outer
 stack:=NC g d s.heap.objs.size f m l::outer
 ex:=[]
 calm:=true
 fn:=fun _=>false
 pn:=[]
 xe:=fun e p=>La (Lr P w) (A.deeper (NC g d s.heap.objs.size f m l)) (leaving (NC g d s.heap.objs.size f m l) e) (fun _ j=>o outer H s E e j) (fun q j=>o outer H s E q j) p
theorem lookup_mem{d:Type}{x:Str}{u:d}:∀{l:List (Str×d)},(l.map (·.1)).Nodup->(x,u)∈l->l.lookup x=some u
 | [],_,h=>by cases h
 |(y,v)::r,nd,h=>by
  rw[Lh,Mp]at nd;rcases ri.mp h with h|h
  ·cases h;simp[LG]
  ·have:x≠y:=fun z=>nd.1 (by rw[←z];exact L8.mpr ⟨_,h,rfl⟩);rw[LG,beq_false_of_ne this];exact lookup_mem nd.2 h
theorem rQ{P:List Str}{us:List j3}{i:Nat}{x:Str}{u:j3}(d:P.Nodup)(g:P[i]?=some x)(e:us[i]?=some u):(P.zip us).reverse.lookup x=some u:=by
 refine lookup_mem ?_ (Rf.mpr (we (i:=i) ?_))
 ·rw[Pg];refine List.pairwise_reverse.mpr (Sl.imp (fun h=>MQ h) (d.sublist ?_))
  have:∀(P:List Str) (us:List j3),List.Sublist ((P.zip us).map (·.1)) P:=by
   intro P
   induction P with
   |nil=>intro us;exact O4 _
   |cons a r ih =>
    intro us
    cases us with
    |nil=>exact Pj _
    |cons u us=>exact(ih us).cons_cons a
  exact this P us
 ·rw[List.getElem?_zip_eq_some];exact⟨g,e⟩
structure wF(base:Heap) (cl:List (Str×Addr)) (Fr:List Str) (fvs:List V):Prop where
 inj:∀x y c,cl.lookup x=some c->cl.lookup y=some c->x=y
 cell:∀x c,cl.lookup x=some c->∃v,base.IsCell c v
 get:∀(i:Nat) (x:Str) (v:V),Fr[i]?=some x->fvs[i]?=some v->∃c u,cl.lookup x=some c/\RelV v u/\base.IsCell c (some u)
 len:fvs.length=Fr.length
 has:∀x∈Fr,∃c,cl.lookup x=some c
section
variable {CX:xD}{P:FG}{w:Lk}{K:bA}{mg:Str->Option j3}{base:Heap}{N ps Fr:List Str}{qual:Str}{scope:M4}{f:Addr}{cd:j3}{cl:List (Str×Addr)}{A:Lz}{outer:List Env}{s:mu}{H:Hp}{E:XK}
theorem ym{us:List j3}{j d:List V}{m:Heap}{tk:Nat}(S:oV N ps Fr scope)(hd:A.handled=none)(l:Ab P w K mg base A outer s H)(Z:j.length=ps.length)(r:Vals j us)(C:wF base cl Fr d)
  (hns:m.Ns s.heap.objs.size (fun x=>(ps.zip us).reverse.lookup x)) (hk:∀b o,s.heap.get? b=some o->m.get? b=some o) :
  Inv (ql CX P w K mg base N qual scope f cd cl A outer s H E) [] (mJ N j d) H {s with heap:=m,toks:=tk}:=by
 have L:=C.len;have T:=S.fit;have O:∀c v,base.IsCell c v->m.IsCell c v:=fun c v ⟨o,J,hd⟩=>⟨o,hk _ _ (l.bs _ _ J).1,hd⟩;have q:∀b:Addr,b∉(ql CX P w K mg base N qual scope f cd cl A outer s H E).ex:=fun b z=>absurd (show b∈([]:List Addr)from z) (by simp)
 refine⟨⟨l.mod,S.kind,rfl,rfl,lj _,C.inj,fun y hy=>?_,(fun x c B=>nomatch B),fun _=>hd,RX l.frames,.inr ⟨rfl,rfl⟩,fun b z=>absurd z (q b),l.bs,l.bsz,fun b _ _=>q b,fun b z=>absurd z (q b),l.pH,l.frf⟩,
  rfl,l.bare,Un.kept hk,⟨_,hns,fun i y v m g h3=>?_⟩,fun y c h=>?_,l.hok.fresh (lj _),fun y c h=>?_,fun p D=>absurd (show p∈([]:List (Addr×Obj))from D) (by simp),l.hok.kept hk,?_⟩
 ·have hy:scope.names.lookup y=some .cell\/scope.names.lookup y=some .free:=hy;rcases hy with hy|hy
  ·exact absurd rfl (S.nocell _ (LS hy))
  ·exact C.has y (S.all _ (LS hy) rfl)
 ·have m:N[i]?=some y:=m
  by_cases M:i<j.length
  ·have Y:j[i]?=some v:=by
    unfold mJ at g;rw[LR (by simpa using M),rz]at g
    cases e:j[i]? with
    |none=>rw[e]at g;cases g
    |some a=>rw[e]at g;cases g;rfl
   obtain⟨u,R,G⟩:=r.get Y
   have D:ps[i]?=some y:=by
    rw[←S.pre,QW (by omega)];exact m
   have I:ps.Nodup:=by rw[←S.pre];exact S.nd.sublist (SG _ _)
   exact⟨u,G,.inl ⟨S.par y (we D),rQ I D R⟩⟩
  ·unfold mJ at g;rw[LJ (by simpa using M),bC]at g
   have U:(N.length-j.length-d.length)<=i-j.length:=by
    refine Pf.mp fun z=>?_;rw[LR (by simpa using z),OQ]at g
    split at g<;>cases g
   rw[LJ (by simpa using U),Oc,rz]at g
   have W:d[i-j.length - (N.length-j.length-d.length)]?=some v:=by
    cases e:d[i-j.length - (N.length-j.length-d.length)]? with
    |none=>rw[e]at g;cases g
    |some a=>rw[e]at g;cases g;rfl
   have B:Fr[i-j.length - (N.length-j.length-d.length)]?=some y:=by
    rw[←S.suf,List.getElem?_drop,←m]
    congr 1
    omega
   obtain⟨c,u,X,G,t⟩:=C.get _ _ _ B W;exact⟨u,G,.inr ⟨.inr (S.fre y (we B)),c,X,O _ _ t⟩⟩
 ·obtain⟨v,Q⟩:=C.cell y c h;exact⟨v,O _ _ Q⟩
 ·obtain⟨v,o,J,_⟩:=C.cell y c h;exact(l.bs _ _ J).2
 ·unfold mJ;show _=N.length;rw[lu,lu,bC,bC,Oc];omega
theorem Gg{k:Nat}{name:Str}{d:Q6}{g:List Stmt}{dV kV L Z ct oc:j3}{an od:Option Addr}{R:Array (Option j3)}{m:List V}{sp:Sp}
  (lk:base.get? f=some ⟨oc,od,.func (OT name qual d g scope cl dV kV L Z an cd ct),R⟩) (S:oV N ps Fr scope) (C:wF base cl Fr m)
  (len:∀j H Q E,sp j H Q E->j.length=ps.length) (hcd:∀j H Q E (h:Heap),sp j H Q E->m9 P w H h->h.CodeRec cd qual)
  (hbody:∀(A:Lz) (outer:List Env) (s:mu) (H:Hp) (j:List V) (Q:VK) (E:XK),ic k (A.deeper (NC qual scope s.heap.objs.size f cd cl))->sp j H Q E ->
   ∃t,vE (ql CX P w K mg base N qual scope f cd cl A outer s H E) g t/\t {nx:=fun _ p=>Q .iP p,rt:=Q} (mJ N j m) H) :
  bK P w K mg base CX (k+1) f (OT name qual d g scope cl dV kV L Z an cd ct) ps sp:=by
 refine⟨len,fun A outer s H aa us j Q E hr G hb r z=>?_⟩;have hl:=len _ _ _ _ z;have T:s.heap.NoLimit:=G.mod.nolimit.keeps fun b o e=>(G.bs b o e).1;refine RP hr.depth (G.bs _ _ lk).1 rfl S.co S.gen rfl (hcd _ _ _ _ _ z G.hok) (hb _ _ _ _ ?_);refine Px S.nocell (fun y hy=>S.par _ (NY (show(y.1,y.2)∈_ from hy)).1) (fun h1 X U=>?_) S.kind
 have hk:∀b o,s.heap.get? b=some o->h1.get? b=some o:=fun b o e=>by
  have Y:b≠s.heap.objs.size:=Ls (vy e);rw[U.2 b Y];exact mC _ e
 refine⟨T.keeps hk,codeAny_func ?_⟩;obtain⟨t,ht,hq⟩:=hbody A outer s H j Q E (hr.deeper _) z;have I:Inv (ql CX P w K mg base N qual scope f cd cl A outer s H E) [] (mJ N j m) H {s with heap:=h1,toks:=s.toks+(ps.zip us).length}:=ym S hr.hd G hl r C X hk;change La (Lr P w) (A.deeper (NC qual scope s.heap.objs.size f cd cl)) (execs g (NC qual scope s.heap.objs.size f cd cl)) _ _ _;refine ME (ht [] _ (mJ N j m) H _ I hq) (fun fl M B=>?_) fun e M B=>B
 have D:∀{l:St}{p:Hp}{v:V}{u:j3},Inv (ql CX P w K mg base N qual scope f cd cl A outer s H E) [] l p M->RelV v u->Q v p->CE outer P w H s Q u M :=
  fun{l p v u} J O q=>⟨v,p,J.os,J.bare,J.base,J.hok,O,q⟩
 cases fl with
 |ret u =>
  obtain⟨v,l,p,J,O,q⟩:=B;exact D J O q
 |next =>
  obtain⟨l,p,J,q⟩:=B;exact D (v:=V.iP) (u:=Value.none) J rfl q
 |brk =>
  obtain⟨_,_,_,q⟩:=B;exact Mt q
 |cont =>
  obtain⟨_,_,_,q⟩:=B;exact Mt q
end
noncomputable def Gh(f:Addr)(sp:Sp)(g:TE)(t:TA):TE:=fun d H Q=>g d H fun x l=>x=.ref f/\t d l fun e j=>sp e j Q E0
theorem Cg{X:Cx}{k:Nat}{f:Addr}{l:zo}{ps:List Str}{sp:Sp}{x:Str}{p g:Pos}{e:Expr}{j:List Expr}{z:TE}{t:TA}(F:bK X.prog X.w X.K X.mg X.base eL k f l ps sp)(hr:ic k X.A)(o:SO f X.base)(M:Binds X.K l ps [])
  (hf:PE X (.Name x p) z) (ha:PA X (e::j) t) (he:LA (e::j) X.env=(false,eval e X.env)::LA j X.env:=by rfl) (hpl:(OL g (LA j X.env)).any (·.1)=false:=by rfl) :
  PE X (.Call (.Name x p) (e::j) [] g) (Gh f sp z t):=by
 intro d s y H Q I h;refine L0 (cO (hf d s y H _ I h) fun u G ⟨v,O,D,L,N,q⟩=>?_);subst N;obtain rfl:u=Value.ref f:=L;have at':∀{B:mu}{m:St}{P:Hp},Inv X d m P B->SO f B.heap:=fun J=>let⟨oc,od,l,sl,e⟩:=o;⟨oc,od,l,sl,J.bk _ _ e⟩;refine PySem.W.callWith_F (at' D) (cO (ha g d G y O _ D q) fun S T ⟨R,U,C,r,q⟩=>⟨at' C,?_⟩) he hpl;exact xJ (E:=E0) (dvs:=[]) F hr M .nil nv C r (by simpa using q)
noncomputable def nC(c:Addr)(q:Str):HO:=.ext fun h=>∃e d t,h.get? c=some e/\e.data=.fields d/\d[1]?=some (.str q t)
theorem AA{P:FG}{w:Lk}{H:Hp}{h:Heap}{c:Addr}{q:Str}(d:m9 P w H h)(e:H c=some (nC c q)):h.CodeRec (.ref c) q:=by
 obtain⟨⟨j,g,t,o,m,l⟩,_⟩:=d c _ e;exact⟨c,j,g,t,rfl,o,m,l⟩
noncomputable def Ci(H:Hp)(P:Addr)(d:Pos)(q:Str)(c:Addr):Prop:=H P=some (.tbl #[MN d.line,MN d.col,.ref c])/\H c=some (nC c q)
noncomputable def mK(H:Hp)(P:Addr)(d:Pos)(q:Str):Prop:=H P=some (.tbl #[])\/∃c,Ci H P d q c
noncomputable def wG(P:Addr)(H d:Hp):Prop:=∀b o,b≠P->H b=some o->d b=some o
structure sN(base:Heap) (mg:Str->Option j3):Prop where
 ex:∃bm ob,mg "__builtins__"=some (.ref bm)/\bm≠Rw/\base.get? bm=some ob/\ob.cls=.type "module"/\ob.dict=some Rw/\ob.data=.plain
section
variable {X:Cx}{pins:List (Addr×Obj)}{σ:St}{H:Hp}{s:mu}
theorem Inv.EM(I:Inv X pins σ H s)(B:sN X.base X.mg){P:Addr}{o:HO}(m:H P=some o):ur≠P/\s.heap.BuiltinsAt X.mg P:=by
 have ne:∀b d,X.base.get? b=some d->b≠P:=fun b d e z=>by
  have:=(I.bs b d e).2;rw[z,m]at this;cases this
 obtain⟨w,y,A,l,p,_⟩:=id I.mod.glob;obtain⟨q,d,v,u,g,t,r,j⟩:=B.ex;refine⟨ne _ _ l,q,d,v,u,fun z=>?_,ne _ _ g,I.bk _ _ g,t,r,j⟩;rw[z,l]at g;cases g;rw[p]at j;cases j
theorem Cj{P c:Addr}{g:Pos}{name j:Str}{D:Q6}{Z:List Stmt}{C:M4}{Y:List (Str×Addr)}{Q:j3->mu->Prop}(I:Inv X pins σ H s)(N:X.env.code=.ref c)(hC:M3 X.base c P)(B:sN X.base X.mg)
  (hT:mK H P g j) (hcl:closureFor C X.env=pure Y)
  (h:∀f l O R L s1,Inv X ((f,Ti name j D Z C Y O ((X.mg "__name__").getD .none) l R)::pins) σ L s1->Ci L P g j l->wG P H L->Q (.ref f) s1) :
  La (Lr X.prog X.w) X.A (makeFunction name j D (.stmts Z) C X.env [] [] [] g g.line) Q X.xe s:=by
 have ai:M3 s.heap c P:=hC.keeps I.bk;have hg:s.heap.Ns ur X.mg:=I.mod.glob.keeps I.bk
 have pinned:∀{L:Hp}{V:Heap}{S:Nat}{fo:Obj},Inv X pins σ L {s with heap:=V,toks:=S}->(∀v,fo.data≠.cell v)->fo.isFreed=false->X.env.locals<V.objs.size->Inv X ((V.objs.size,fo)::pins) σ L {s with heap:=V.push fo,toks:=S}:=by
  intro L V S fo J hd ab aa;have J2:Inv X pins σ L {s with heap:=V.push fo,toks:=S}:=J.kept (t':=S) fun b u e=>mC _ e;refine J2.fL fun p hp=>?_;rcases ri.mp hp with rfl|hp
  ·exact⟨K9 _ ab,J.hok.fresh (lj _),NB aa,J.A7 (lj _),hd⟩
  ·exact J2.pin p (FT _ hp)
 rcases hT with hT|⟨l,hT,hc'⟩
 ·obtain⟨ah,hb⟩:=I.EM B hT;have hP:s.heap.get? P=some (Qu #[]):=I.hok P _ hT;refine PySem.W.makeFunction_K (mg:=X.mg) hcl I.ok.glob hg N ai hP trivial rfl ah hb fun l R O V S hx T aa ae ad=>?_;obtain⟨c2,oc,vs,t,e2,ag,hd,hv⟩:=ae
  cases e2
  have fr:H l=none:=I.hok.fresh T;have M:∀b o,H b=some o->o≠.tbl #[]->b≠P:=fun b o e n z=>by rw[z,hT]at e;exact n (LQ e).symm
  have E:∀b,H b=none->b≠P:=fun b e z=>by rw[z,hT]at e;cases e
  have aj:∀b o,s.heap.get? b=some o->b≠l:=fun b o e=>Ls (Lf (vy e) T);have cP:l≠P:=fun z=>absurd (vy hP) (by rw[←z];exact Pf.mpr T);have hH:∀b,b≠P->b≠l->upd (upd H P (.tbl (#[]++#[MN g.line,MN g.col,.ref l]))) l (nC l j) b=H b:=fun b h1 h2=>by rw[av h2,av h1]
  have U:upd (upd H P (.tbl (#[]++#[MN g.line,MN g.col,.ref l]))) l (nC l j) P=some (.tbl (#[]++#[MN g.line,MN g.col,.ref l])):=by rw[av (MQ cP),af]
  have ac:upd (upd H P (.tbl (#[]++#[MN g.line,MN g.col,.ref l]))) l (nC l j) l=some (nC l j):=af;generalize upd (upd H P (.tbl (#[]++#[MN g.line,MN g.col,.ref l]))) l (nC l j)=L at hH U ac;have G:∀b o,b≠P->H b=some o->L b=some o:=fun b o n e=>by rw[hH b n (fun z=>by rw[z,fr]at e;cases e)];exact e
  have J:Inv X pins σ L {s with heap:=V,toks:=S}:=by
   refine I.step (g':=s.gens) (d':=s.drawn) (t':=S) (ch:=[]) (fun _ z=>nomatch z) (fun b o _ _ _ e n=>hx b o (E b n) e) (fun b o _ _ _ e n=>⟨o.slots,hx b o (E b n) e⟩) (fun b o _ e n=>by rw[hH b (E b n) (aj b o e)];exact n)
    (fun b o _ e=>?_) (fun b xs e=>G b _ (M b _ e (by simp)) e) (fun b o u e=>G b _ (M b _ e (by simp)) e) (fun b ps e=>?_) (fun m hm=>?_) (fun b o e=>?_) I.bare
   ·by_cases z:b=P
    ·subst z;exact⟨_,ad⟩
    ·exact⟨o,hx b o z e⟩
   ·by_cases z:b=P
    ·subst z;rw[hT]at e;cases e;exact⟨_,U⟩
    ·exact⟨#[],by rw[G b _ z e];simp⟩
   ·obtain⟨o,es,ep,ho,r⟩:=hm;exact⟨o,es,ep,hx _ _ (E _ I.free) ho,r⟩
   ·by_cases z:b=P
    ·subst z;rw[U]at e;cases e;exact ad
    ·by_cases z2:b=l
     ·subst z2;rw[ac]at e;cases e;exact⟨⟨oc,vs,t,ag,hd,hv⟩,⟨oc,ag⟩,fun h1 h2 ⟨oc,vs,t,e1,r⟩ k=>⟨oc,vs,t,k _ e1,r⟩⟩
     ·have e':H b=some o:=by rw[←hH b z z2];exact e
      refine(I.hok b o e').stay (fun d u hd q=>hx d u ?_ q) (fun d q=>G d _ (M d _ q (by simp)) q) fun d xs q=>G d _ (M d _ q (by simp)) q;rcases hd with y|y
      ·rw[y];exact z
      ·exact M d _ y (by simp)
  refine h _ l O R L _ (pinned J (fun v z=>nomatch z) rfl (Lf I.lt (I0 T (Mb aa)))) ⟨by rw[U];simp,ac⟩ fun b o n e=>G b o n e
 ·obtain⟨ah,hb⟩:=I.EM B hT;have hP:s.heap.get? P=some (Qu #[MN g.line,MN g.col,.ref l]):=I.hok P _ hT;refine PySem.W.makeFunction_hit (mg:=X.mg) (cv:=.ref l) hcl I.ok.glob hg N ai hP (by simp[TriplesOk,MN]) (by simp[codeAmong,MN]) hb fun R O V S hk al=>?_;exact h _ l O R H _ (pinned (I.kept hk) (fun v z=>nomatch z) rfl (Lf I.lt al)) ⟨hT,hc'⟩ fun b o _ e=>e
theorem Inv.HQ(I:Inv X pins σ H s):∃d,Ab X.prog X.w X.K X.mg d X.A X.stack s H/\∀b o,s.heap.get? b=some o->H b=none->b∉frs X.stack->d.get? b=some o:=by
 have get:∀b o,s.heap.get? b=some o->H b=none->b∉frs X.stack->(PJ (nW s.heap H) (frs X.stack)).get? b=some o:=fun b o e n j=>R9 _ (vC e n) j
 have g:∀b o,X.base.get? b=some o->(PJ (nW s.heap H) (frs X.stack)).get? b=some o:=fun b o e=>get b o (I.bs b o e).1 (I.bs b o e).2 fun j=>by
  have:=(I.stack.mem j).1;rw[e]at this;cases this
 refine⟨_,⟨I.ok.frames,⟨I.mod.kin.keeps g,I.mod.glob.keeps g,let⟨mb,h1,h2⟩:=I.mod.blt;⟨mb,h1.keeps g,h2⟩,I.mod.nolimit.keeps g⟩,fun b o e=>yJ (Sq _ e),by rw[RU,sW];exact lj _,?_,I.uh,I.hok,I.bare⟩,get⟩
 have all:∀(l:List Env),(∀b∈frs l,b∈frs X.stack)->s.heap.FunFrames X.base l->s.heap.FunFrames (PJ (nW s.heap H) (frs X.stack)) l:=by
  intro l
  induction l with
  |nil=>intro _ _;trivial
  |cons env r ih =>
   intro p t;obtain⟨u,⟨L,o,m,y,q,hd⟩,hr⟩:=t;have v:L∈frs X.stack:=p L (by unfold frs;rw[Mg,m];exact MD);exact⟨u,⟨L,o,m,RV _ v,q,hd⟩,ih (fun b j=>p b (by unfold frs;rw[Mg,m];exact Mc _ j)) hr⟩
 exact all X.stack (fun _ j=>j) I.stack
theorem D6{k:Nat}{g:Addr}{p:zo}{ps:List Str}{sp:Sp}{us:List j3}{m:List V}{Q:VK}(I:Inv X pins σ H s)
  (hF:∀d,(∀b o,s.heap.get? b=some o->H b=none->b∉frs X.stack->d.get? b=some o)->bK X.prog X.w X.K X.mg d eL k g p ps sp) (hr:ic k X.A) (hb:Binds X.K p ps []) (r:Vals m us) (h:sp m H Q E0) :
  La (Lr X.prog X.w) X.A (call (.ref g) us) (EP X pins σ Q) X.xe s:=by
 obtain⟨d,t,get⟩:=I.HQ;have F:=hF d get;have q:us.length=ps.length:=by rw[←r.length];exact F.len _ _ _ _ h
 have l:=hb s us I.A5 (by simpa using q);rw[LH]at l;refine Su (OY (F.run X.A X.stack s H ⟨us,[]⟩ us m Q E0 hr t l r h) fun r v j=>?_)
 cases r with
 |error e=>exact Mt j
 |ok fl =>
  cases fl with
  |ret u=>exact I.after j
  |next=>exact Mt j
  |brk=>exact Mt j
  |cont=>exact Mt j
end
noncomputable def KW(i:Nat)(fr:List Nat)(P:Addr)(d:Pos)(q:Str)(sp:Addr->Addr->List V->Sp)(t:TA):TS:=fun D l H=>mK H P d q/\∃e:List V,fr.map (fun j=>l[j]?)=e.map (fun v=>some (some v)) /\
 ∀f c g,Ci g P d q c->wG P H g->t (l.set i (some (.ref f))) g fun m o=>sp f c e m o D.rt E0
theorem yn{X:Cx}{P c g:Addr}{ab pc pn pr:Pos}{name gx:Str}{C:Q6}{T:List Stmt}{d:M4}{i:Nat}{fr:List Nat}{e:Expr}{es:List Expr}{t:TA}{k:Nat}{fdg:zo}{psg:List Str}{sp:Addr->Addr->List V->Sp}
  (hcode:X.env.code=.ref c) (hC:M3 X.base c P) (B:sN X.base X.mg) (hfn:∀x,X.fn x=true) (hN:X.N.Nodup) (hi:X.N[i]?=some name) (U:X.env.scope.names.lookup name=some .local)
  (hfr:∀x∈d.names,x.2=.free->X.env.scope.names.lookup x.1=some .cell) (hfi:∀j∈fr,X.env.scope.names.lookup (X.N.getD j Lw)=some .cell/\d.names.lookup (X.N.getD j Lw)=some .free)
  (G:∀E f c' Z aa R,E.get? f=some (Ti name (qualnameIn X.env name name) C T d (b7 X.env d.names []) Z ((X.mg "__name__").getD .none) c' aa)->wF E (b7 X.env d.names []) (fr.map fun j=>X.N.getD j Lw) R->bK X.prog X.w X.K X.mg E eL k g fdg psg (sp f c' R))
  (hr:ic k X.A) (hg:Gl X gx) (hm:X.mg gx=some (.ref g)) (hk:MO X.K (.ref g)=true) (hb:Binds X.K fdg psg []) (ha:PA X (e::es) t)
  (hd0:C.defaults=[]:=by rfl) (hk0:C.kw_defaults=[]:=by rfl) (han:annTrees C none X.env=[]:=by rfl)
  (hdb:(gx == ("__debug__":Str))=false:=by decide) (he:LA (e::es) X.env=(false,eval e X.env)::LA es X.env:=by rfl) (hpl:(OL pc (LA es X.env)).any (·.1)=false:=by rfl) :
  vE X [.FunctionDef name C T [] none [] d none name ab,.Return (some (.Call (.Name gx pn) (e::es) [] pc)) pr] (KW i fr P ab (qualnameIn X.env name name) sp t):=by
 intro aj s σ H D I ⟨hT,R,hv,h⟩;have M:∀x∈d.names,x.2=.free->∃c,X.env.cells.lookup x.1=some c:=fun x U e=>I.ok.has x.1 (.inl (hfr x U e));refine Pc (PySem.W.nestDef_K hd0 hk0 han (Cj I hcode hC B hT (j7 M) fun f c' Z aa H1 s1 J tb gr=>?_));refine kc J hN hi (.inl U) (show RelV (.ref f) (.ref f)from rfl) (fun s2 J2=>?_) (.inr U);dsimp only;refine Pc (wpAny_Return_some (L0 (um J2 hg hm ?_ hdb)));refine Qi (h₀:=X.base) J2.ok.mod.kin hk (cO (ha pc _ s2 _ H1 _ J2 (h f c' H1 tb gr)) fun us s3 ⟨vs,H2,L,r,q⟩=>⟨L.A5,?_⟩) he hpl;refine cO (D6 L (fun E get=>?_) hr hb r q) fun u s4 ⟨v,H3,J4,rv,q4⟩=>?_
 ·obtain⟨e1,n1,ae,ad,_⟩:=L.pin _ (FT _ (MD));refine G E f c' Z aa R (get _ _ e1 n1 fun z=>(ri.mp (L.nF _ z)).elim ae ad) ?_;have sub:∀y c,(b7 X.env d.names []).lookup y=some c->X.env.cells.lookup y=some c:=gy _ _ M (by intro y c e;simp at e)
  have O:∀x c v,X.env.cells.lookup x=some c->s3.heap.IsCell c v->E.IsCell c v:=fun x c v e ⟨o,ho,hd⟩=>⟨o,get _ _ ho (L.freeC x c e) (fun z=>by
   rcases ri.mp (L.nF _ z)with y|y
   ·exact L.Ex x c e y
   ·obtain⟨_,o',ag,_⟩:=L.ok.pH.mem y;exact absurd (Lf (vy ag) (L.ok.cab x c (hfn x) e)) (LY _)),hd⟩
  have S:=congrArg NP hv;rw[bC,bC]at S;refine⟨fun x y c Q h2=>L.ok.inj x y c (sub x c Q) (sub y c h2),fun x c e=>?_,fun j x v Q h2=>?_,by rw[bC];exact S.symm,fun x U=>?_⟩
  ·obtain⟨v,z⟩:=L.cell x c (sub x c e);exact⟨v,O x c v (sub x c e) z⟩
  ·rw[rz]at Q
   cases ej:fr[j]? with
   |none=>rw[ej]at Q;cases Q
   |some n =>
    rw[ej]at Q;simp only[OJ,O2]at Q;obtain⟨q1,q2⟩:=hfi n (we ej)
    have hs:σ[n]?=some (some v):=by
     have:=congrArg (fun l=>l[j]?) hv;simp only[rz,ej,h2,OJ]at this;exact LQ this
    have ah:n<X.N.length:=by rw[←I.len];exact(ko.mp hs).1
    have Y:X.N[n]?=some x:=by rw[←Q,Np,m3 ah];rfl
    rw[Q]at q1 q2;have ai:n≠i:=fun z=>by rw[z,hi]at Y;cases Y;rw[U]at q1;cases q1
    obtain⟨m,hn,hl⟩:=L.loc;obtain⟨u,ru,lk⟩:=hl n x v Y (by rw[Pu (MQ ai)];exact hs) (.inr (.inl q1));rcases lk with⟨k1,_⟩|⟨_,c,hc,z⟩
    ·have k1:X.env.scope.names.lookup x=some .local:=k1;rw[q1]at k1;cases k1
    ·obtain⟨c2,ac⟩:=iT (env:=X.env) d.names [] x (LS q2);have:=sub x c2 ac;rw[hc]at this;cases this;exact⟨c,u,ac,ru,O x c _ hc z⟩
  ·obtain⟨j,hj,rfl⟩:=L8.mp U;exact iT _ _ _ (LS (hfi j hj).2)
 ·exact⟨v,_,H3,J4.fL fun p hp=>J4.pin p (FT _ (Mc _ hp)),rv,q4⟩
structure yo(K:bA) (x qual:Str) (st:Stmt) (f:Addr) (fd:zo) (c:Addr):Prop where
 ex:∃(oc:j3) (od:Option Addr) (kV doc pm:j3) (an:Option Addr) (ct:j3) (osl:Array (Option j3)),
  fd=Ov x qual (eY st) (bS st) (aj st) .none kV doc pm an (.ref c) ct/\K.lookup f=some ⟨oc,od,.func fd,osl⟩/\Pd K (.ref c) qual=true
 kp:MO K (.ref f)=true
section
variable {P:FG}{w:Lk}{K:bA}{mg:Str->Option j3}{base:Heap}
theorem yo.f{x d:Str}{st:Stmt}{f c:Addr}{g:zo}(F:yo K x d st f g c):gX K x d st f g :=
 let⟨oc,od,kV,doc,pm,an,ct,osl,e,lk,hcd⟩:=F.ex
 ⟨⟨oc,od,kV,doc,pm,an,.ref c,ct,osl,e,lk,hcd⟩,F.kp⟩
theorem yo.ok{x e:Str}{st:Stmt}{f c:Addr}{m:zo}{N ps:List Str}{k:Nat}{sp:Sp}(F:yo K x e st f m c)(S:aI N ps (aj st))(len:∀g H Q E,sp g H Q E->g.length=ps.length)
  (hbody:∀(A:Lz) (d:List Env) (s:mu) (H:Hp) (g:List V) (Q:VK) (E:XK),ic k (A.deeper (Ry e (aj st) s.heap.objs.size f (.ref c)))->sp g H Q E ->
   ∃t,vE (uq eL P w K mg base N e (aj st) f (.ref c) A d s H E).A9 (bS st) t/\t {nx:=fun _ u=>Q .iP u,rt:=Q} (start N g) H):bK P w K mg base eL (k+1) f m ps sp:=by
 obtain⟨z,y,kV,r,v,C,B,o,rfl,p,l⟩:=F.ex;refine EB p l S len fun A d s H g Q E hr j=>?_;obtain⟨t,h,q⟩:=hbody A d s H g Q E hr j;exact⟨t,h.A9,q⟩
theorem D7{x d:Str}{st:Stmt}{f c:Addr}{p:j3}{o m:Option Addr}{g:Array (Option j3)}{kV e j ct:j3}(l:K.lookup f=some ⟨p,o,.func (Ov x d (eY st) (bS st) (aj st) .none kV e j m (.ref c) ct),g⟩)
  (h:Pd K (.ref c) d=true) (k:MO K (.ref f)=true):yo K x d st f (Ov x d (eY st) (bS st) (aj st) .none kV e j m (.ref c) ct) c:=⟨⟨p,o,kV,e,j,m,ct,g,rfl,l,h⟩,k⟩
end
noncomputable def Ck(Pt:Addr)(H:Hp):Prop:=∀b,H b=none\/b=Pt\/∃o d,H b=some (.frz o (.lst d))
theorem AB{P:FG}{w:Lk}{K:bA}{mg mb:Str->Option j3}{k:Nat}{fa a c Pt:Addr}{fd:zo}{x:Str}{sp:Sp}{g:mu}{I:List j3}{ns:List Int}
  (KX:K.In g.heap) (hns:g.heap.Ns ur mg) (l:g.heap.Ns Rw mb) (hbb:∀x:Str,x≠"__name__"->mb x=OV x) (hlim:g.heap.NoLimit) (hg:g.gens=#[])
  (ha:g.heap.get? a=some {cls:=.type "list",data:=.seq I.toArray}) (hi:Td I ns) (hl:ns.length<=nk) (hr:ic k R8)
  (hC:M3 g.heap c Pt) (hPt:g.heap.get? Pt=some (Qu #[])) (hKP:K.lookup Pt=none) (B:sN g.heap mg)
  (F:∀t:Heap,K.In t->t.Ns ur mg->M3 t c Pt->sN t mg->bK P w K mg t eL k fa fd [x] sp) (hbind:∀(s:mu) (u:j3),SE s fd ⟨[u],[]⟩ [(x,u)])
  (hsp:∀H:Hp,Ck Pt H->H Pt=some (.tbl #[])->bz K H a (ns.map V.int)->sp [.ref a] H (fun v _=>v=.bl true) fun _ _ _=>False) :
  OX (Lr P w) R8 (.call (.ref fa) ⟨[.ref a],[]⟩) (fun r s'=>r=.ok (.ret (.bool true))/\OldK g.heap s'.heap/\s'.os=g.os/\QE s'.gens) g:=by
 have rv:=tE hi;have N:=hi.length;have aP:a≠Pt:=fun z=>by rw[z,hPt]at ha;cases ha
 have core:∀H:Hp,Ck Pt H->H Pt=some (.tbl #[])->bz K H a (ns.map V.int)->m9 P w H g.heap->(∀b,H b≠none->b=a\/b=Pt)->(H a≠none->K.lookup a=none) ->
   OX (Lr P w) R8 (.call (.ref fa) ⟨[.ref a],[]⟩) (fun r s'=>r=.ok (.ret (.bool true))/\OldK g.heap s'.heap/\s'.os=g.os/\QE s'.gens) g:=by
  intro H hO R hS O hA hK;have j:∀{b:Addr}{o:Obj},g.heap.get? b=some o->H b=none->(nW g.heap H).get? b=some o:=fun e n=>vC e n
  have A:∀b,b≠a->b≠Pt->H b=none:=fun b h1 h2=>by
   cases q:H b with
   |none=>rfl
   |some u=>exact absurd (hA b (by rw[q];simp)) (fun z=>z.elim h1 h2)
  have aa:∀{b:Addr}{o:Obj}{X:Array OS}{Y:Nat},g.heap.get? b=some o->o.data=.dict X Y->H b=none:=fun{b o X Y} e d=>by
   refine A b (fun z=>?_) fun z=>?_
   ·rw[z,ha]at e;cases e;cases d
   ·rw[z,hPt]at e;cases e;cases d
  have D:∀{b:Addr}{m:Str->Option j3},g.heap.Ns b m->(nW g.heap H).Ns b m:=fun{b m} ⟨o,X,Y,e,d,r⟩=>⟨o,X,Y,j e (aa e d),d,r⟩
  have Q:K.In (nW g.heap H):=fun b o e=>j (KX b o e) (by
   cases q:H b with
   |none=>rfl
   |some u =>
    rcases hA b (by rw[q];simp)with z|z
    ·subst z;rw[hK (by rw[q];simp)]at e;cases e
    ·rw[z,hKP]at e;cases e)
  have ac:M3 (nW g.heap H) c Pt:=by
   obtain⟨o,Z,S,tf,G,tg,ab,L,tt,J,e2,e3,r1,r2,r3,r4,r5,r6,r7⟩:=hC;refine⟨o,Z,S,tf,G,tg,ab,L,tt,j J (A c (fun z=>?_) r7),e2,e3,r1,r2,r3,r4,r5,r6,r7⟩;rw[z,ha]at J;cases J;cases e3
  have ad:sN (nW g.heap H) mg:=by
   obtain⟨bm,ob,b1,b2,U,b4,b5,b6⟩:=B.ex;refine⟨bm,ob,b1,b2,j U (A bm (fun z=>?_) fun z=>?_),b4,b5,b6⟩
   ·rw[z,ha]at U;cases U;cases b6
   ·rw[z,hPt]at U;cases U;cases b6
  have hM:Mod K mg (nW g.heap H):=⟨Q,D hns,⟨mb,D l,hbb⟩,let⟨mc,h1,h2⟩:=hlim;⟨mc,D h1,h2⟩⟩;have e0:Ab P w K mg (nW g.heap H) R8 [] g H:=⟨rfl,hM,fun b o e=>yJ e,SM (sW _ _),trivial,fun b l=>absurd (show b∈([]:List Addr)from l) (by simp),O,.of_eq hg⟩;refine OY ((F _ Q (D hns) ac ad).run R8 [] g H ⟨[.ref a],[]⟩ [.ref a] [.ref a] _ _ hr e0 (hbind g (.ref a)) (.cons rfl .nil) (hsp H hO R hS)) fun r s' h=>?_
  cases r with
  |error e=>exact Mt h
  |ok fl =>
   cases fl with
   |next=>exact Mt h
   |brk=>exact Mt h
   |cont=>exact Mt h
   |ret u =>
    obtain⟨v,H',os,T,un,E,r',q⟩:=h;have q':v=.bl true:=q;subst q';obtain rfl:u=Value.bool true:=r'
    have M:∃more,s'.heap.get? Pt=some (Qu (#[]++more)):=by
     obtain⟨more,e⟩:=un.tbls Pt #[] R;exact⟨more,E Pt _ e⟩
    have keep:∀b o,b≠Pt->g.heap.get? b=some o->s'.heap.get? b=some o:=fun b o y e=>by
     cases q:H b with
     |none=>exact un.keep b o e q (by intro z;exact absurd (show b∈([]:List Addr)from z) (by simp)) (by simp)
     |some u =>
      rcases hO b with z|z|⟨ob,xs,z⟩
      ·rw[q]at z;cases z
      ·exact absurd z y
      ·have z2:=un.frzs b ob _ z;obtain⟨J,_⟩:=O b _ z;obtain⟨e2,_⟩:=E b _ z2;rw[e]at J;cases J;exact e2
    refine⟨rfl,⟨fun b o e=>?_,fun b o e=>?_⟩,os,T⟩
    ·by_cases y:b=Pt
     ·subst y;rw[hPt]at e;cases e;obtain⟨more,et⟩:=M;exact .inr (.inl ⟨(hC.tab hPt).isCodeTable,rfl,#[],more,rfl,et⟩)
     ·exact .inl (keep b o y e)
    ·by_cases y:b=Pt
     ·subst y;obtain⟨more,et⟩:=M;exact⟨_,et⟩
     ·exact⟨o,keep b o y e⟩
 cases hk:K.lookup a with
 |some o =>
  have e:=KX a o hk;rw[ha]at e
  cases e
  refine core (fun b=>if b=Pt then some (.tbl #[])else none) (fun b=>?_) (if_pos rfl) (.inr ⟨_,I.toArray,_,hk,rfl,rfl,rfl,by rw[rj,N];exact hl,by simpa using rv⟩) (fun b u z=>?_) (fun b z=>?_) fun z=>absurd (if_neg aP) z
  ·by_cases l:b=Pt
   ·exact .inr (.inl l)
   ·exact .inl (if_neg l)
  ·by_cases l:b=Pt
   ·have C:=(if_pos l).symm.trans z
    cases C
    subst l;exact hPt
   ·have C:=(if_neg l).symm.trans z
    cases C
  ·by_cases l:b=Pt
   ·exact .inr l
   ·exact absurd (if_neg l) z
 |none =>
  refine core (fun b=>if b=Pt then some (.tbl #[])else if b=a then some (.frz {cls:=.type "list",data:=.seq I.toArray} (.lst (ns.map V.int)))else none) (fun b=>?_) (if_pos rfl) (.inl (.inr ⟨{cls:=.type "list",data:=.seq I.toArray},?_⟩)) (fun b u z=>?_) (fun b z=>?_) fun _=>hk
  ·by_cases l:b=Pt
   ·exact .inr (.inl l)
   ·by_cases p:b=a
    ·exact .inr (.inr ⟨_,_,(if_neg l).trans (if_pos p)⟩)
    ·exact .inl ((if_neg l).trans (if_neg p))
  ·exact(if_neg aP).trans (if_pos rfl)
  ·by_cases l:b=Pt
   ·have C:=(if_pos l).symm.trans z
    cases C
    subst l;exact hPt
   ·by_cases p:b=a
    ·have C:=((if_neg l).trans (if_pos p)).symm.trans z
     cases C
     subst p;exact⟨ha,by rw[bC];exact hl,I,_,rv,ha⟩
    ·have C:=((if_neg l).trans (if_neg p)).symm.trans z
     cases C
  ·by_cases l:b=Pt
   ·exact .inr l
   ·by_cases p:b=a
    ·exact .inl p
    ·exact absurd ((if_neg l).trans (if_neg p)) z
theorem Cm{l:P4}{n k:Nat}{q:FG}{p:List Str}{X:(Str->Option j3)->Heap->Prop}{J:Lk->Heap->Prop}{d S:DefRec}{K:Params->bA}{sp:bA->Sp}{x tn:Str}{c Pt:Addr}
  (hn:l.most=some n) (hn2:n<=nk) (hdf:d.params.defaults=[]) (hr:ic k R8)
  (hY:∀(w:Lk) (h:Heap),J w h->(K w.params).In h)
  (ht1:(recsOf q).find? (fun e=>e.name == tn)=some S) (ht2:∀w:Lk,S4 (K w.params) tn=some (c,Pt)) (ht3:∀w:Lk,(K w.params).lookup Pt=none)
  (F:∀(w:Lk) (mg:Str->Option j3) (y:Addr) (h:Heap),(K w.params).In h->h.Ns ur mg->mg d.name=some (.ref y) ->
   ∃B:zo,(∀(s:mu) (u:j3),SE s B ⟨[u],[]⟩ [(x,u)]) /\
    ∀j:Heap,(K w.params).In j->j.Ns ur mg->M3 j c Pt->sN j mg->bK l.prog w (K w.params) mg j eL k y B [x] (sp (K w.params)))
  (hsp:∀(K:bA) (H:Hp) (a:Addr) (ns:List Int),ns.length<=n->Ck Pt H->H Pt=some (.tbl #[])->bz K H a (ns.map V.int)->sp K [.ref a] H (fun v _=>v=.bl true) fun _ _ _=>False) :
  Tj q p X J l.row.toRowW d [] (fun f D=>Th f D):=by
 refine Att.vL hn hdf fun w I E mg mb y o Z cd U a D ns G Y ho hd M z t r m L=>?_;have C:=hY w _ Y;obtain⟨B,N,Q⟩:=F w mg y _ C G.T.g z;obtain⟨R,A⟩:=PySem.W.tab_of G.T C ht1 (ht2 w);exact AB C G.T.g G.T.b G.T.builtins G.T.nolimit L t r (I0 m hn2) hr R A (ht3 w) ⟨G.T.bmain⟩ Q N (fun H P A O=>hsp _ H a ns m P A O)
end L2
namespace G33
open PySem L2
structure HR(P:FG) (w:Lk) (K:bA) (mg:Str->Option j3) (base:Heap) (k:Nat) (ps:List Str) (sp:Sp) (f:Addr) (fd:zo):Prop where
 ok:bK P w K mg base eL k f fd ps sp
 fa:SO f base
 bd:Binds K fd ps []
noncomputable def Di(d:Int->Option Tm):Hd->List Tm->Tm
 |.gap n,ks=>(d n).getD (.mk (.gap n) ks)
 |h,ks=>.mk h ks
mutual
noncomputable def dY(d:Int->Option Tm):Tm->Tm
 |.mk h ks=>Di d h (wH d ks)
noncomputable def wH(d:Int->Option Tm):List Tm->List Tm
 | []=>[]
 |k::r=>dY d k::wH d r
end
theorem tY(d:Int->Option Tm):∀ks,wH d ks=ks.map (dY d)
 | []=>by rw[wH];rfl
 |k::r=>by rw[wH,tY d r];rfl
theorem iB(d:Int->Option Tm)(h:Hd)(ks:List Tm):dY d (.mk h ks)=Di d h (ks.map (dY d)):=by rw[dY,tY]
noncomputable def yp(K:bA)(c:Addr)(q:Str)(d:Addr)(o:Int->Option Tm):Sp:=fun p H Q _=>∃(v:V) (l:Addr) (hd:Hd) (ks e:List Tm) (m:List V),p=[v,.ref l]/\Rp K H (enc (.mk hd ks)) v/\cM hd ks.length=true/\H l=some (.lst m)/\bI K H (e.map enc) m/\e.length=ks.length/\ks.length<=900/\jC K enc H d o/\H c=some (nC c q) /\
 ∀j g,aF H g->Rp K g (enc (Di o hd e)) j->Q j g
noncomputable def uP(K:bA)(p o c:Addr)(q:Str)(d:Addr)(l:Int->Option Tm):Sp:=fun m H Q _=>∃(v:V) (e:Tm),m=[v,.ref p,.ref o]/\Rp K H (enc e) v/\Wf e/\e.size<=400/\jC K enc H d l/\H c=some (nC c q) /\
 ∀j g,aF H g->Rp K g (enc (dY l e)) j->Q j g
noncomputable def Fin(g:Int->Option Tm)(d:Tm):List (Tm×Bool)->List Tm->Prop
 | [],ts=>ts=[dY g d]
 |(t,false)::ws,ts=>Fin g d ws (ts++[dY g t])
 |(t,true)::ws,ts=>∃j e,ts=j++e/\e.length=t.ks.length/\Fin g d ws (j++[Di g t.hd e])
theorem Fin.many{e:Int->Option Tm}{d:Tm}{g:List (Tm×Bool)}:∀{ks:List Tm}{ts:List Tm},Fin e d g (ts++ks.map (dY e))->Fin e d (ks.map (fun k=>(k,false))++g) ts
 | [],ts,h=>by simpa using h
 |k::r,ts,h=>Fin.many (ks:=r) (ts:=ts++[dY e k]) (by simpa using h)
noncomputable def wt:Tm×Bool->Nat
 |(t,false)=>2*t.size
 |(_,true)=>1
noncomputable def uQ(l:List (Tm×Bool)):Nat:=(l.map wt).sum
noncomputable def wI(K:bA)(H:Hp):List (Tm×Bool)->List V->Prop
 | [],us=>us=[]
 |(t,b)::ws,us=>∃d a v,us=d++[.ref a]/\bN K H a [v,.bl b]/\Rp K H (enc t) v/\wI K H ws d
theorem wI.kt{K:bA}{H g:Hp}(k:Kt H g):∀{d:List (Tm×Bool)}{us:List V},wI K H d us->wI K g d us
 | [],_,h=>h
 |_::_,_,⟨us',a,v,e,q,r,h⟩=>⟨us',a,v,e,q.kt k,r.kt k,wI.kt k h⟩
theorem wI.app{K:bA}{H:Hp}{B:List (Tm×Bool)}{us:List V}(g:wI K H B us):∀{A:List (Tm×Bool)}{d:List V},wI K H A d->wI K H (A++B) (us++d)
 | [],d,h=>by obtain rfl:d=[]:=h;simpa using g
 |_::_,_,⟨l',a,v,e,q,r,h⟩=>⟨us++l',a,v,by rw[e,LM],q,r,wI.app g h⟩
theorem wI.len{K:bA}{H:Hp}:∀{d:List (Tm×Bool)}{us:List V},wI K H d us->us.length=d.length
 | [],_,h=>by rw[show _=[]from h];rfl
 |_::_,_,⟨us',a,v,e,q,r,h⟩=>by rw[e,lu,wI.len h];rfl
theorem uR:∀d:List (Tm×Bool),d.length<=uQ d
 | []=>lj _
 |(t,b)::d=>by
  have:=uR d
  have:1<=wt (t,b):=by
   cases b
   ·show 1<=2*t.size;have:=Tm.size_pos t;omega
   ·exact lj _
  unfold uQ at *;simp only[Lu,Lh,Sk];omega
theorem Tm.kJ{k:Tm}:∀{ks:List Tm},k∈ks->k.size<=Tm.sizes ks
 |a::r,h=>by
  rw[Tm.di];rcases ri.mp h with rfl|h
  ·omega
  ·have:=Tm.kJ h;omega
theorem rR:∀(ks:List Tm) (d:List (Tm×Bool)),uQ (ks.map (fun k=>(k,false))++d)=2*Tm.sizes ks+uQ d
 | [],d=>by simp[Tm.sizes]
 |k::r,d=>by
  have:=rR r d;rw[Tm.di];unfold uQ at *;simp only[Lh,MU,Sk,wt]at *;omega
structure BI(K:bA) (H:Hp) (pf:Int->Option Tm) (root:Tm) (lt lw:Addr) (m:Nat) (ws:List (Tm×Bool)) (ts:List Tm) (us vs:List V) (H':Hp):Prop where
 s:aF H H'
 ht:H' lt=some (.lst us)
 rt:bI K H' (ts.map enc) us
 hw:H' lw=some (.lst vs)
 wa:wI K H' ws vs
 wf:∀p∈ws,Wf p.1/\p.1.size<=root.size
 fin:Fin pf root ws ts
 mm:uQ ws=m
 bd:ts.length+m<=2*root.size
noncomputable def BW(K:bA)(H:Hp)(q:Int->Option Tm)(d:Tm)(v:V)(z y lt e:Addr)(m:Nat)(g:St)(A:Hp):Prop:=∃w u t r j p o l,g=[some v,some (.ref z),some (.ref y),some (.ref lt),some (.ref e),w,u,t,r]/\BI K H q d lt e m j p o l A
structure BN(K:bA) (H:Hp) (pf:Int->Option Tm) (root:Tm) (v:V) (fI fM lt lw:Addr) (m:Nat) (σ:St) (H':Hp):Prop where
 x:∃m',m' < m/\BW K H pf root v fI fM lt lw m' σ H'
section
variable {P:FG}{w:Lk}{K:bA}{mg:Str->Option j3}{base:Heap}{fI fM c d:Addr}{ifd mfd:zo}{q:Str}{pf:Int->Option Tm}
theorem aO:Nm ["root","inner_of","make","told","waiting","here","inner_told","inner","first"] (aj fh):=by decide +kernel
theorem eG:Lm ["root","inner_of","make","told","waiting","here","inner_told","inner","first"] (aj fh):=by decide +kernel
theorem dJ:aI ["root","inner_of","make","told","waiting","here","inner_told","inner","first"] ["root","inner_of","make"] (aj fh):=⟨rfl,rfl,rfl,by decide +kernel,rfl,by decide +kernel,by decide +kernel⟩
theorem Cn{f:Addr}{fd:zo}(F:gX K "from_below" "from_below" fh f fd)(IN:bY P w K mg base "inner_terms" 2 ["term"] (qD K) fI ifd)(a4:HR P w K mg base 2 ["here","inner"] (yp K c q d pf) fM mfd)(z_len:mg "len"=none):bK P w K mg base eL 4 f fd ["root","inner_of","make"] (uP K fI fM c q d pf):=by
 refine F.ok dJ (fun vs H Q E h=>?_) (fun c7 A bu s H vs Q E hr h=>?_)
 ·obtain⟨_,_,rfl,_⟩:=h;rfl
 obtain⟨v,l,rfl,rv,wf,hz,pa,hc,k⟩:=h;refine⟨_,(Z6 (sa dJ.nd eG 3 (bg ak)) (Z6 (Z2 dJ.nd eG 4 (@bg _ _ _ _ (Z1 (Ze (cT (va aO 0) (Zb yK))) ak))) (Z6 (@nY _ _ _ _ _ _ PX (oh (va aO 4) (fun _=>rfl)) (Z6 (Zo (Bl M5 Na Oe Bo (va aO 4)) (Zc (Zh (ga dJ.nd eG 5) (aG (ga dJ.nd eG 6) aZ)))) (Z6 (Z2 dJ.nd eG 7 (@wj _ (fun f sp=>f=fI/\sp=qD K) _ _ _ _ _ _ _ (fun f sp h=>by obtain⟨rfl,rfl⟩:=h;exact⟨2,_,_,IN.ok,hr.mono (by omega),IN.kp,IN.bd⟩) (va aO 1) (Zb (va aO 5)) (by rfl) (by rfl))) (Zg (@lX _ _ _ _ _ _ _ _ (PW.pt (@sX _ _ _ _ _ _ _ (oh (va aO 6) (fun _=>rfl)) (@qM _ _ _ _ (@E3 _ _ _ _ (oh (va aO 7) (fun _=>rfl)))))) (Z6 (Z2 dJ.nd eG 8 (Zm bL (Z5 aB (Zb (va aO 3))) (Z5 aB (Zb (va aO 7))))) (Zg (Zo (@bg _ _ _ _ (Z1 (Cg a4.ok (hr.mono (by omega)) a4.fa a4.bd (va aO 2) (Z1 (va aO 5) (Z1 (@cK _ _ _ _ _ _ _ _ _ _ gu (va aO 3) (cy (va aO 8)) dQ) ak))) ak)) (Gf (va aO 3) (cy (va aO 8)))))) (Z6 (@cu _ _ _ _ (Z7 Ll Ln cz (va aO 4) (Z1 (Ze (cT (va aO 5) (Zb yK))) ak)) (by rfl)) (Zg (@cu _ _ _ _ (Z7 Mz MA i8 (va aO 4) (Z1 (Za (aj fh) ["root","inner_of","make","told","waiting","here","inner_told","inner","first"] ["part"] [] (@cX _ _ _ _ (@tL _ _ _ _ _ _ _ _ _ _ _ (va aO 7) dQ dQ (cy (nj jZ ao)))) (fun _ _ _ _=>(Z3 (i:=0) (show(["part"]:List Str).Nodup by decide +kernel))) (fun _ _ _ _=>(Ze (cT (va (show Nm ["part"] _ by show _=_;kernel_rfl) 0) (Zb yK))))) ak)) (by rfl))))))))) (Zg (Zn (Z9 aW (va aO 3))))))),?_⟩
 try dsimp only[bM]
 try dsimp only[bM]
 refine mz ?_;intro N1 N2 N3 c1 c2 c3;fail "R";intro lt bm;have s1:=ae bm (.lst []);have h1:upd H lt (.lst []) lt=some (.lst []):=af;generalize upd H lt (.lst [])=H1 at s1 h1⊢;fail "R";intro a2 b9;have s2:=ae b9 (.tup [v,.bl false]);have h2:bN K (upd H1 a2 (.tup [v,.bl false])) a2 [v,.bl false]:=bN.of af;generalize upd H1 a2 (.tup [v,.bl false])=H2 at s2 h2⊢;fail "R";intro o a0;have s3:=ae a0 (.lst [.ref a2]);have h3:upd H2 o (.lst [.ref a2]) o=some (.lst [.ref a2]):=af;generalize upd H2 o (.lst [.ref a2])=H3 at s3 h3⊢;have aa:=s1.free (s2.free a0);have ad:lt≠o:=aq (s2 _ _ h1) a0;fail "R";refine⟨BW K H pf l v fI fM lt o,⟨2*l.size,_,_,_,_,[(l,false)],[],[],[.ref a2],rfl,⟨s1.trans (s2.trans s3),s3 _ _ (s2 _ _ h1),.nil,h3,⟨[],a2,v,rfl,h2.same s3,rv.same (s1.trans (s2.trans s3)),rfl⟩,fun p hp=>by rw[nt.mp hp];exact⟨wf,lj _⟩,rfl,by simp[uQ,wt],by simp⟩⟩,?_⟩;rintro m σ H4 ⟨_,_,_,_,I,ts,us,vs,rfl,b⟩;have cv:l.size<=400:=hz;have bx:=b.rt.length;rw[bC]at bx;have bt:=b.bd;refine⟨_,rfl,_,.inl ⟨vs,bz.of b.hw,rfl⟩,?_⟩
 cases I with
 |nil =>
  obtain rfl:vs=[]:=b.wa;obtain rfl:ts=[dY pf l]:=b.fin;obtain⟨u,_,rfl,ru,r0⟩:=b.rt.inv;obtain rfl:=r0.fE;have ht:=b.ht;refine lQ rfl ?_;fail "R";exact k _ _ b.s ru
 |cons p I =>
 obtain⟨t,bb⟩:=p;obtain⟨g,a,vt,rfl,a7,a9,wa⟩:=b.wa;obtain⟨an,as⟩:=b.wf _ (.head _);have bw:=uR I;have cr:=wa.len;have bh:=uR ((t,bb)::I);rw[b.mm,Lu]at bh;refine Al (by simp) ?_;refine⟨BN K H pf l v fI fM lt o m,fun _ _ z=>z.x,?_⟩;have hw:=b.hw;have b5:(g++[V.ref a])[(g++[V.ref a]).length-1]?=some (.ref a):=by simp
 have k5:Kt H4 (upd H4 o (.lst (g++[V.ref a]).dropLast)):=Kt.lst hw _;have s5:aF H (upd H4 o (.lst (g++[V.ref a]).dropLast)):=b.s.rG aa _;have ah:upd H4 o (.lst (g++[V.ref a]).dropLast) o=some (.lst g):=by rw[Oq];exact af
 have ai:upd H4 o (.lst (g++[V.ref a]).dropLast) lt=some (.lst us):=by rw[av ad];exact b.ht
 have cm:t.size<=900:=by have:t.size<=l.size:=as;omega
 have cn:t.ks.length<=900:=by have:=wg t;omega
 have al:=a7.kt k5;have W:=a9.kt k5;have ay:=b.rt.kt k5;have ap:=wa.kt k5;refine oF ?_;intro M1 M2 d1 d2;fail "R";generalize upd H4 o (.lst (g++[V.ref a]).dropLast)=H5 at k5 s5 ah ai al W ay ap⊢;intro l6 H6 j s6 bn h6 r6;have br:=s6 _ _ ah;have a1:=s6 _ _ ai;have cq:lt≠l6:=aq ai bn;have bv:o≠l6:=aq ah bn;have ax:=ay.same s6;have a6:=ap.kt (Kt.same s6);have am:=W.same s6;have aw:=s5.trans s6;have Y:=r6.length;rw[bC]at Y;have hk:t.ks.length<t.size:=wg t;clear k5 s5 ah ai al W ay ap a7 a9 wa hw b5;refine d2 _ _ ?_;refine zg (bb=true\/t.ks=[]) (fun C hA hB=>?_) (fun hy=>?_) (fun hn=>?_)
 ·refine⟨_,rfl,bb,rfl,?_⟩
  cases bb with
  |true=>exact hA (.inl rfl)
  |false =>
   refine⟨_,rfl,_,.inl ⟨j,bz.of h6,rfl⟩,?_⟩
   by_cases e:t.ks=[]
   ·have:j.length=0:=by rw[Y,e];rfl
    obtain rfl:=Mh.mp this;exact hA (.inr e)
   ·obtain⟨x,r,rfl⟩:∃x r,j=x::r:=by
     cases j with
     |nil=>exact absurd (Mh.mp Y.symm) e
     |cons x r=>exact⟨x,r,rfl⟩
    exact hB (fun z=>z.elim Lg e)
 ·obtain⟨t0,D,ce,b8,cd,b1⟩:∃t0 D,ts=t0++D/\D.length=t.ks.length/\Fin pf l I (t0++[Di pf t.hd D])/\uQ I<m:=by
   have hm:uQ ((t,bb)::I)=m:=b.mm;have S:=b.fin;have co:=Tm.size_pos t
   cases bb with
   |true =>
    obtain⟨t0,D,e1,e2,e3⟩:=S;exact⟨t0,D,e1,e2,e3,by rw[←hm];simp[uQ,wt]⟩
   |false =>
    have e:t.ks=[]:=hy.resolve_left Lg;refine⟨ts,[],by simp,by rw[e],?_,by rw[←hm];simp[uQ,wt];omega⟩
    have e2:dY pf t=Di pf t.hd []:=by
     obtain⟨h,ks⟩:=t;obtain rfl:ks=[]:=e;exact iB pf h []
    rw[←e2];exact S
  subst ce;rw[nq]at ax;obtain⟨R,J,rfl,bc,ba⟩:=ax.split;have l0:=bc.length;have b0:=ba.length;rw[bC]at l0 b0;obtain⟨th,tk⟩:=t;have ck:D.length=tk.length:=b8;have cj:j.length=tk.length:=Y;have ar:cM th tk.length=true:=by cases an with|mk ar _=>exact ar
  have e7:gq (R++J) (some (((R++J).length:Int) - (j.length:Int))) none=J:=by
   rw[show((R++J).length:Int) - (j.length:Int)=((R.length:Nat):Int) by rw[lu];omega,pW,List.drop_left]
  fail "R";intro l7 b7;rw[e7];have L:=ae b7 (.lst J);have h7:upd H6 l7 (.lst J) l7=some (.lst J):=af;generalize upd H6 l7 (.lst J)=H7 at L h7⊢;have a8:=aw.trans L;have cp:=pa.same a8;have c4:=a8 _ _ hc;have ch:=am.same L;have ci:=ba.same L;have cl:tk.length<=900:=by have:tk.length<(Tm.mk th tk).size:=hk;omega
  fail "R";intro v8 H8 s8 r8;have au:=L.trans s8;fail "R";intro p9 bk;have s9:=ae bk (.lst [v8]);have h9:upd H8 p9 (.lst [v8]) p9=some (.lst [v8]):=af;have bo:=s9 _ _ (au _ _ a1);have n9:lt≠p9:=aq (au _ _ a1) bk;generalize upd H8 p9 (.lst [v8])=H9 at s9 h9 bo⊢;have ac:=au.trans s9;have b4:(R++J).length+[v8].length<=nk:=small (by rw[lu];simp at bt⊢;omega);have c6:(0:Int)<=((R++J).length:Int) - (j.length:Int):=by rw[lu];omega
  have c5:((R++J).length:Int) - (j.length:Int)<=((R++J).length:Int):=by omega
  have cf:(R++J).take (((R++J).length:Int) - (j.length:Int)).toNat=R:=by
   rw[show(((R++J).length:Int) - (j.length:Int)).toNat=R.length by rw[lu];omega,List.take_left]
  have O:∀ys,Kt H9 (upd H9 lt (.lst ys)):=fun ys=>Kt.lst bo _;fail "R";rw[cf];refine⟨uQ I,b1,_,_,_,_,I,t0++[Di pf th D],R++[v8],g,rfl,⟨(aw.trans ac).rG bm _,af,?_,?_,?_,?_,cd,rfl,?_⟩⟩
  ·rw[nq];exact((bc.same ac).kt (O _)).append (.one ((r8.same s9).kt (O _)))
  ·rw[av ad.symm];exact ac _ _ br
  ·exact(a6.kt (Kt.same ac)).kt (O _)
  ·exact fun p hp=>b.wf p (.tail _ hp)
  ·simp at bt⊢;omega
 ·have eb:bb=false:=by cases bb with|true=>exact absurd (.inl rfl) hn|false=>rfl
  subst eb;have hm:uQ ((t,false)::I)=m:=b.mm;have ct:Tm.sizes t.ks+1=t.size:=by obtain⟨h,ks⟩:=t;rw[Tm.size,Tm.ks,Nat.add_comm]
  have cx:2*t.size+uQ I=m:=by rw[←hm];simp[uQ,wt]
  fail "R";intro N b2;have L:=ae b2 (.tup [vt,.bl true]);have h7:bN K (upd H6 N (.tup [vt,.bl true])) N [vt,.bl true]:=bN.of af;generalize upd H6 N (.tup [vt,.bl true])=H7 at L h7⊢;have cb:=L _ _ br;have cs:g.length<nk:=bj (by omega);have k8:Kt H7 (upd H7 o (.lst (g++[.ref N]))):=Kt.lst cb _;have s8:aF H (upd H7 o (.lst (g++[.ref N]))):=(aw.trans L).rG aa _;have bp:upd H7 o (.lst (g++[.ref N])) o=some (.lst (g++[.ref N])):=af;have bq:upd H7 o (.lst (g++[.ref N])) lt=some (.lst us):=by rw[av ad];exact L _ _ a1
  have ca:upd H7 o (.lst (g++[.ref N])) l6=some (.lst j):=by rw[av bv.symm];exact L _ _ h6
  have a5:wI K (upd H7 o (.lst (g++[.ref N]))) ((t,true)::I) (g++[.ref N]):=⟨g,N,vt,rfl,h7.kt k8,(am.same L).kt k8,(a6.kt (Kt.same L)).kt k8⟩;have be:=(ax.same L).kt k8;have bf:=(r6.same L).kt k8;have cw:(rf j none none (some (-1))).length<=nk:=by rw[oE,Ml];exact small (by omega)
  fail "R";generalize upd H7 o (.lst (g++[.ref N]))=H8 at k8 s8 bp bq ca a5 be bf⊢;intro l9 b6;rw[oE];have s9:=ae b6 (.lst j.reverse);have h9:upd H8 l9 (.lst j.reverse) l9=some (.lst j.reverse):=af;generalize upd H8 l9 (.lst j.reverse)=H9 at s9 h9⊢;have r9:=(bf.same s9).reverse;rw[←Pg]at r9;fail "R";refine fg (K:=K) (xs:=j.reverse) (fun i σ U G=>(∃y,σ=[y])/\aF H9 G/\U.length=i/\wI K G (((t.ks.reverse.take i).reverse).map fun k=>(k,false)) U) ⟨⟨_,rfl⟩,aF.refl _,rfl,rfl⟩ ?_ (small (by rw[Ml];omega)) ?_ ?_ ?_
  ·exact fun i σ U G _ ⟨_,_,e,_⟩=>SM e
  ·exact fun i σ U G _ ⟨_,T,_⟩=>bz.of (T _ _ h9)
  ·rintro i xv σ U G hx ⟨⟨_,rfl⟩,T,a3,ab⟩;obtain⟨tt,bi,rx⟩:=r9.get' hx;rw[rz]at bi;obtain⟨kk,ag,rfl⟩:=FA.mp bi;fail "R";intro X Z;have M:=ae Z (.tup [xv,.bl false]);refine⟨⟨_,rfl⟩,T.trans M,by rw[lu,a3];rfl,?_⟩;rw[iA ag,OE];exact⟨U,X,xv,rfl,bN.of af,rx.same (T.trans M),ab.kt (Kt.same M)⟩
  ·rintro σ U G ⟨_,T,a3,ab⟩ X Z;rw[Ml,Y,←Ml,Lv,R1]at ab;rw[Ml]at a3;have M:=ae Z (.lst U);have cc:upd G X (.lst U) X=some (.lst U):=af;generalize upd G X (.lst U)=H11 at M cc⊢;have B:=(s9.trans T).trans M;have bs:=B _ _ bp;have b4:(g++[V.ref N]).length+U.length<=nk:=small (by rw[lu];simp;omega);have c0:uQ ((t,true)::I)=1+uQ I:=by simp[uQ,wt]
   have b3:2*Tm.sizes t.ks+uQ ((t,true)::I)<m:=by omega
   fail "R";have O:Kt H11 (upd H11 o (.lst ((g++[V.ref N])++U))):=Kt.lst bs _;refine⟨_,?_,_,_,_,_,t.ks.map (fun k=>(k,false))++(t,true)::I,ts,us,_,rfl,⟨(s8.trans B).rG aa _,?_,(be.same B).kt O,af,?_,?_,?_,rfl,?_⟩⟩
   ·rw[rR];exact b3
   ·rw[av ad];exact B _ _ bq
   ·exact wI.app ((a5.kt (Kt.same B)).kt O) ((ab.kt (Kt.same M)).kt O)
   ·intro p hp;rcases Li.mp hp with h|h
    ·obtain⟨kk,ag,rfl⟩:=L8.mp h;refine⟨by cases an with|mk _ wk=>exact wk kk ag,?_⟩
     have:=Tm.kJ ag;show kk.size<=l.size;have:t.size<=l.size:=as;omega
    ·rcases ri.mp h with rfl|h
     ·exact⟨an,as⟩
     ·exact b.wf p (.tail _ h)
   ·refine Fin.many ⟨ts,t.ks.map (dY pf),rfl,by rw[bC],?_⟩;have S:=b.fin;obtain⟨th,tk⟩:=t;rw[Tm.hd,Tm.ks,←iB];exact S
   ·rw[rR];omega
end
end G33
namespace G33
open PySem L2
noncomputable abbrev aA:Stmt:=(bS bQ).getD 0 (.Pass ⟨0,0,0,0⟩)
theorem D8{P:FG}{w:Lk}{K:bA}{mg:Str->Option j3}{l:Heap}{N ps D:List Str}{e:Str}{d:M4}{f:Addr}{u:j3}{r:List (Str×Addr)}{k:Nat}{name:Str}{j:Q6}{m:List Stmt}{z kV q y ct I:j3}{B G:Option Addr}{v:Array (Option j3)}{p:List V}{sp:Sp}
  (lk:l.get? f=some ⟨I,G,.func (OT name e j m d r z kV q y B u ct),v⟩) (S:oV N ps D d) (C:wF l r D p)
  (len:∀o H Q E,sp o H Q E->o.length=ps.length) (hcd:∀o H Q E (h:Heap),sp o H Q E->m9 P w H h->h.CodeRec u e)
  (hbody:∀(A:Lz) (g:List Env) (s:mu) (H:Hp) (o:List V) (Q:VK) (E:XK),ic k (A.deeper (NC e d s.heap.objs.size f u r))->sp o H Q E ->
   ∃t,vE (ql eL P w K mg l N e d f u r A g s H E).A9 m t/\t {nx:=fun _ J=>Q .iP J,rt:=Q} (mJ N o p) H) :
  bK P w K mg l eL (k+1) f (OT name e j m d r z kV q y B u ct) ps sp :=
 Gg lk S C len hcd fun A g s H o Q E hr h=>let⟨t,h1,h2⟩:=hbody A g s H o Q E hr h;⟨t,h1.A9,h2⟩
theorem HS{o:xD}{P:FG}{w:Lk}{K:bA}{mg:Str->Option j3}{j:Heap}{N:List Str}{g:Str}{d:M4}{f:Addr}{m:j3}{l:List (Str×Addr)}{A:Lz}{e:List Env}{s:mu}{H:Hp}{E:XK}:(ql o P w K mg j N g d f m l A e s H E).A9.K=K:=rfl
theorem Gi{o:xD}{P:FG}{w:Lk}{K:bA}{mg:Str->Option j3}{j:Heap}{N:List Str}{g:Str}{d:M4}{f:Addr}{m:j3}{l:List (Str×Addr)}{A:Lz}{e:List Env}{s:mu}{H:Hp}{E:XK}:(ql o P w K mg j N g d f m l A e s H E).K=K:=rfl
theorem HU{m:Type}{P:FG}{w:Lk}{K:bA}{mg:Str->Option j3}{d:Heap}{r:xD}{k:Nat}{f:Addr}{o:zo}{ps:List Str}{p:m->Prop}{sp:m->Sp}(h:∀a,p a->bK P w K mg d r k f o ps (sp a)):bK P w K mg d r k f o ps (fun g H Q E=>∃a,p a/\sp a g H Q E) :=
 ⟨fun g H Q E ⟨a,l,q⟩=>(h a l).len g H Q E q,fun A e s H j t g Q E hr v y u ⟨a,l,q⟩=>(h a l).run A e s H j t g Q E hr v y u q⟩
theorem jU{Pt:Addr}{d:Pos}{q:Str}{H j:Hp}(l:mK H Pt d q)(g:wG Pt H j):Kt H j:=fun a m r=>by
 have ne:a≠Pt:=fun z=>by
  rcases l with t|⟨c,t,_⟩<;>rcases r with e|⟨o,e⟩<;>(rw[z,t]at e;cases e)
 rcases r with e|⟨o,e⟩
 ·exact .inl (g _ _ ne e)
 ·exact .inr ⟨o,g _ _ ne e⟩
noncomputable def uS:Pos:=match aA with
 |.FunctionDef _ _ _ _ _ _ _ _ _ p=>p
 |_=>⟨0,0,0,0⟩
noncomputable abbrev mL:Str:="with_gaps_put.<locals>.make"
noncomputable def AD(i:Nat):Pos:=match(bS bQ).getD 1 (.Pass ⟨0,0,0,0⟩)with
 |.Return (some (.Call (.Name _ a) [.Name _ b,.Name _ c,.Name _ d] [] e)) g=>[a,b,c,d,e,g].getD i a
 |_=>⟨0,0,0,0⟩
theorem AE:bS bQ=[.FunctionDef "make" (eY aA) (bS aA) [] none [] (aj aA) none "make" uS,.Return (some (.Call (.Name "from_below" (AD 0)) [.Name "term" (AD 1),.Name "inner_terms" (AD 2),.Name "make" (AD 3)] [] (AD 4))) (AD 5)]:=by kernel_rfl
noncomputable def Co(K:bA)(Pt:Addr):Sp:=fun m H Q _=>∃(v:V) (d:Addr) (e:Tm) (l:Int->Option Tm),m=[v,.ref d]/\Rp K H (enc e) v/\Wf e/\e.size<=400/\jC K enc H d l/\mK H Pt uS mL/\Pt≠d /\
 ∀j g,wG Pt H g->mK g Pt uS mL->Rp K g (enc (dY l e)) j->Q j g
theorem rS{hd:Hd}(h:∀n,hd≠.gap n)(d:Int->Option Tm)(ks:List Tm):Di d hd ks=.mk hd ks:=by
 cases hd<;>first|rfl|exact absurd rfl (h _)
theorem AF{K:bA}{H:Hp}{hd:Hd}{ks:List Tm}{v:V}(r:Rp K H (enc (.mk hd ks)) v):∃a l d,v=.ref a/\bN K H a (V.str l::d)/\((∃n,hd=.gap n/\l="gap"/\d=[.int n])\/((∀n,hd≠.gap n)/\l≠"gap")):=by
 rw[bw]at r
 cases hd<;>unfold kZ at r<;>obtain⟨a,q,rfl,m,j⟩:=r.aY<;>obtain⟨u,d,rfl,p,g⟩:=j.inv<;>obtain rfl:=p.aR
 case gap n =>
  obtain⟨t,_,rfl,o,e⟩:=g.inv;obtain rfl:=e.fE;obtain rfl:=o.cV;exact⟨a,_,_,rfl,m,.inl ⟨n,rfl,rfl,rfl⟩⟩
 all_goals exact⟨a,_,_,rfl,m,.inr ⟨nofun,by decide +kernel⟩⟩
section
variable {P:FG}{w:Lk}{K:bA}{mg:Str->Option j3}{base:Heap}{gW gF gI Pt cd d:Addr}{wfd ffd ifd:zo}{pf:Int->Option Tm}
theorem bZ:Nm ["here","inner","puts"] (aj aA):=by decide +kernel
theorem lR:oV ["here","inner","puts"] ["here","inner"] ["puts"] (aj aA):=⟨rfl,rfl,rfl,by decide +kernel,rfl,rfl,by decide,by decide +kernel,by decide +kernel,by decide +kernel,by decide +kernel⟩
theorem D9{f c:Addr}{r:List (Str×Addr)}{kV g y ct O:j3}{D N:Option Addr}{p:Array (Option j3)}{e:Str}(Y:bY P w K mg base "with_inner" 1 ["term","inner"] (yl K) gW wfd)
  (lk:base.get? f=some ⟨O,N,.func (OT "make" e (eY aA) (bS aA) (aj aA) r .none kV g y D (.ref c) ct),p⟩) (C:wF base r ["puts"] [.ref d]) :
  bK P w K mg base eL 2 f (OT "make" e (eY aA) (bS aA) (aj aA) r .none kV g y D (.ref c) ct) ["here","inner"] (yp K c e d pf):=by
 refine D8 lk lR C (fun t H Q E h=>?_) (fun t H Q E h9 h q=>?_) (fun A m s H t Q E hr h=>?_)
 ·obtain⟨_,_,_,_,_,_,rfl,_⟩:=h;rfl
 ·obtain⟨_,_,_,_,_,_,_,_,_,_,_,_,_,_,B,_⟩:=h;exact AA q B
 obtain⟨v,l,hd,ks,R,us,rfl,u,X,hl,rs,T,hz,M,B,k⟩:=h;refine⟨_,(Zg (Zn (@qN _ _ _ _ _ _ _ _ (Zf bJ (Z9 aQ (va bZ 0)) az) (@qY _ _ _ _ _ _ _ _ _ (jo hr) (va bZ 2) (Z9 aQ (va bZ 0)) (va bZ 0) ⟨rfl,rfl,rfl,rfl⟩) (Z0 Y (Z1 (va bZ 0) (Zb (va bZ 1))))))),?_⟩
 try dsimp only[bM]
 try dsimp only[HS,Gi]
 obtain⟨a,U,L,rfl,sq,z⟩:=AF u;have a0:=uG (V.str U) L;rcases z with⟨n,rfl,rfl,rfl⟩|⟨hn,hf⟩
 ·obtain rfl:ks=[]:=by simpa[cM]using X
  obtain rfl:=Mh.mp T;obtain⟨S,o,z,I⟩:=M.get n (y0:=.mk (.gap n) []) u;have a1:jM [V.str "gap",V.int n] 1=some (.int n):=bD (j:=1) rfl;fail "R";exact k _ _ (aF.refl _) I
 ·fail "R";refine lQ (vv hf) ?_;fail "R";intro Z H1 G J;exact k _ _ G (by rw[rS hn];exact J)
theorem kL:Nm ["term","puts","make"] (aj bQ):=by decide +kernel
theorem kO:aI ["term","puts","make"] ["term","puts"] (aj bQ):=⟨rfl,rfl,rfl,by decide +kernel,rfl,by decide +kernel,by decide +kernel⟩
theorem Jv:∀x∈(aj aA).names,x.2=.free->(aj bQ).names.lookup x.1=some .cell:=by decide +kernel
theorem Jw:∀j∈[1],(aj bQ).names.lookup ((["term","puts","make"]:List Str).getD j Lw)=some .cell/\(aj aA).names.lookup ((["term","puts","make"]:List Str).getD j Lw)=some .free:=by decide +kernel
theorem Ea{f:Addr}{X:zo}(F:yo K "with_gaps_put" "with_gaps_put" bQ f X cd)(hC:M3 base cd Pt)(B:sN base mg)(mF:mg "from_below"=some (.ref gF))(kF:MO K (.ref gF)=true)(bF:Binds K ffd ["root","inner_of","make"] [])(mI:mg "inner_terms"=some (.ref gI))
  (WI:∀j,bY P w K mg j "with_inner" 1 ["term","inner"] (yl K) gW wfd)
  (FB:∀(j:Heap) (Y c:Addr) (L:zo) (q:Str) (d:Addr) (pf:Int->Option Tm),HR P w K mg j 2 ["here","inner"] (yp K c q d pf) Y L->bK P w K mg j eL 4 gF ffd ["root","inner_of","make"] (uP K gI Y c q d pf)) :
  bK P w K mg base eL 6 f X ["term","puts"] (Co K Pt):=by
 refine F.ok kO (fun D H Q E h=>?_) (fun A m s H D Q E hr h=>?_)
 ·obtain⟨_,_,_,_,rfl,_⟩:=h;rfl
 obtain⟨v,d,tm,pf,rfl,rv,wf,hz,pa,U,J,k⟩:=h
 refine⟨_,by
  rw[AE]
  exact yn (P:=Pt) (c:=cd) (g:=gF) (i:=2) (fr:=[1]) (k:=4) (fdg:=ffd) (psg:=["root","inner_of","make"]) (sp:=fun f c t=>fun D H Q E=>∃a:Addr×(Int->Option Tm),t=[.ref a.1]/\uP K gI f c mL a.1 a.2 D H Q E)
   rfl hC B (fun _=>rfl) kO.nd rfl (by kernel_rfl) Jv Jw (by
    intro j R z S T t lk C;refine HU fun a e=>?_;subst e;have p:j.get? R=some ⟨.type "function",none,.func (OT "make" mL (eY aA) (bS aA) (aj aA) (b7 (uq eL P w K mg base ["term","puts","make"] "with_gaps_put" (aj bQ) f (.ref cd) A m s H E).A9.env (aj aA).names []) .none .none S ((mg "__name__").getD .none) none (.ref z) T),#[]⟩:=lk;exact FB j R z _ mL a.1 a.2 ⟨D9 (WI j) p C,⟨_,_,_,_,p⟩,.all fun us hl=>match us,hl with|[_,_],_=>rfl⟩) (hr.mono (by omega)) (by show _=_;kernel_rfl) mF kF bF (cT (va kL 0) (cT (iQ (v:=.ref gI) (by show _=_;kernel_rfl) mI rfl) (Zb (va kL 2)))),?_⟩
 try dsimp only[bM]
 refine⟨U,[.ref d],rfl,fun R z Z l O=>?_⟩
 try dsimp only[bM]
 have r:Kt H Z:=jU U O;obtain⟨M,N,V⟩:=pa.x;have I:jC K enc Z d pf:=⟨M,O _ _ J.symm N,fun n=>⟨fun y e=>by obtain⟨u,e1,e2⟩:=(V n).1 y e;exact⟨u,e1,e2.kt r⟩,(V n).2⟩⟩;refine⟨_,rfl,_,rfl,(d,pf),rfl,v,tm,rfl,rv.kt r,wf,hz,I,l.2,fun v' H' G r'=>?_⟩;exact k v' H' (fun b o hb e=>G _ _ (O _ _ hb e)) (.inr ⟨z,G _ _ l.1,G _ _ l.2⟩) r'
end
end G33
namespace L2
open PySem PySem.Spec PyProof.Rows
open PySem.AutoSeq1 (wpAny_loadPart')
theorem Cp{prog:FG}{w:Lk}{A:Lz}{b:Bool}(r:A.handled=none)(it l:Addr)(m:l≠it)(items:Array j3) :
  Draws prog w A it [it,l] items.size (fun i v=>items[i]?=some v) (fun i h=>kU b h it l i/\mG b h l items) where
 live:=fun _ _ d=>d.1.got
 frame:=fun _ _ _ d p=>⟨d.1.at fun o e=>p it (by simp) o e,d.2.at fun o e=>p l (by simp) o e⟩
 item:=fun i s Q E q d t=>by
  refine jD d.1 d.2 (x:=items[i]) (by simp[q]) fun y j g=>?_;exact t _ y s.toks (by simp[q]) ⟨j,d.2.extBut g.extBut m⟩ g
 done:=fun s Q E d u=>oS r d.1 d.2 (by simp) u
set_option maxRecDepth 100000 in
theorem Eb(b:Bool)(l:Addr)(items:Array j3) :
  Meets (Og.«enumerate.__new__» ⟨[.type "enumerate",.ref l],[]⟩) (fun _ R s=>mG b s.heap l items /\
   R (.ok (.ret (.ref (s.heap.push (mH b l)).objs.size)))
    {s with heap:=(s.heap.push (mH b l)).push {cls:=.type "enumerate",data:=.fields #[.none,.bool false,.ref s.heap.objs.size,MN 0,.none,.none]}}) :=
 .of_wp fun p w A R s h=>by
  obtain⟨y,g,d,r,u⟩:=s;obtain⟨e,h⟩:=h;have q:=sub_enumerate;have m:mG b (S8 ⟨y,g,d,r,u⟩) l items:=e;obtain⟨o,j⟩:=e.got;obtain⟨C,B,v,t⟩:=o
  wp_walk using P0 j
  refine wpAny_stack_any fun z=>my ?_
  split
  ·rename_i c _ _ _ _ _
   cases(c == Value.type "enumerate")
   ·wp_walk using P0 j,wA m
    exact⟨_,rfl,h⟩
   ·wp_walk using P0 j,wA m
    exact⟨_,rfl,h⟩
  ·wp_walk using P0 j,wA m
   exact⟨_,rfl,h⟩
end L2
namespace L2
open PySem PySem.Spec PyProof.Rows
section
variable {prog:FG}{w:Lk}{A:Lz}{E:j3->mu->Prop}{s:mu}{b:Bool}
theorem Cq{l:Addr}{items:Array j3}{Q:j3->mu->Prop}(j:mG b s.heap l items)
  (h:∀h',IsEnum h' (s.heap.objs.size+1) s.heap.objs.size 0 .none->kU b h' s.heap.objs.size l 0->h'.objs.size=s.heap.objs.size+2 ->
   (∀b o,s.heap.get? b=some o->h'.get? b=some o)->Q (.ref (s.heap.objs.size+1)) {s with heap:=h'}) :
  La (Lr prog w) A (call (.type "enumerate") [.ref l]) Q E s:=by
 refine callType_new PySem.F.called_enumerate (by decide) (PySem.F.typeCall_enumerate_1 _) (PySem.F.newCall_enumerate_1 _) (fun d=>PySem.F.args_object_init_2 d _) PySem.F.entry_enumerate_new (Eb b l items) ⟨j,?_⟩;have g:(s.heap.push (mH b l)).objs.size=s.heap.objs.size+1:=My ..;have e:=K9 (s.heap.push (mH b l)) (o:={cls:=.type "enumerate",data:=.fields #[.none,.bool false,.ref s.heap.objs.size,MN 0,.none,.none]}) rfl;show _/\_;rw[g]at e⊢;exact⟨⟨_,e,rfl⟩,h _ e (BZ (mC _ (K9 _ rfl))) (by rw[My,g]) fun b o x=>mC _ (mC _ x)⟩
end
noncomputable def HV (K : bA) (b : Bool) (l : Addr) : It :=
  ⟨fun i H => ∃ d x, nc K b H l d ∧ d[i]? = some x,
   fun i H v e => ∃ p x, H p = none ∧ v = .ref p ∧ e = upd H p (.tup [.int i, x]) ∧ ∀ d, nc K b H l d → d[i]? = some x,
   fun i H => ∃ d, nc K b H l d ∧ d.length = i⟩
theorem AG{P:FG}{w:Lk}{K:bA}{L:List Expr}{x1:Nat}{R:Pos}{b:Bool}(e it l:Addr)(d1:e≠it)(d2:l≠it)(d3:l≠e):Turn P w K (.Tuple L x1 R) (HV K b l) [e,it] e
  (fun i h=>(∃j,IsEnum h e it i j)/\kU b h it l i) where
 mem:=by simp
 obj:=fun i h t c g=>by
  obtain⟨⟨j,p⟩,r⟩:=t;simp only[ri,Lp,or_false]at g;rcases g with rfl|rfl
  ·exact⟨_,p,fun v z=>by cases z⟩
  ·cases b with
   |false=>obtain⟨o,e,_,d⟩:=(show h.IsListIter _ l i from r);exact⟨o,e,fun v z=>by rw[d]at z;cases z⟩
   |true=>obtain⟨o,e,_,d⟩:=(show h.IsTupleIter _ l i from r);exact⟨o,e,fun v z=>by rw[d]at z;cases z⟩
 keep:=fun i h h' t k=>by
  obtain⟨⟨j,p⟩,r⟩:=t;exact⟨⟨j,k e (by simp) _ p⟩,r.at fun o q=>k it (by simp) o q⟩
 item:=by
  intro X hP V hK g i C s σ H E I O t hg;subst hP V hK;obtain⟨xs,x,N,hx⟩:=hg;obtain⟨⟨j,p⟩,r⟩:=t;obtain⟨m,Q,S,_⟩:=jE I N;obtain⟨u,hu,ru⟩:=Q.get hx
  have Z:i<m.toArray.size:=by
   have:=(ko.mp hu).1
   simpa using this
  refine wpAny_pyNext_enum_itemD (Cp (A:=X.A.in1) (b:=b) (I.ok.hd g) it l d2 m.toArray) p ⟨r,S⟩ Z d1 (by simp[d1,MQ d3]) fun y h' M hy ho Y hT ab hk=>?_
  have U:y=u:=by
   have D:m[i]?=some y:=by simpa using hy
   rw[hu]at D;exact(LQ D).symm
  subst U;refine⟨.ref s.heap.objs.size,rfl,wpAny_letOwnedTupleGo_enum (s:={s with heap:=h',toks:=M+1}) ho fun J aa B=>?_⟩
  have ne:∀c∈[e,it],c≠s.heap.objs.size:=fun c g z=>by
   obtain⟨o,e2⟩:∃o,s.heap.get? c=some o:=by
    simp only[ri,Lp,or_false]at g;rcases g with rfl|rfl
    ·exact⟨_,p⟩
    ·exact r.got
   have:=vy e2;rw[z]at this;exact LY _ this
  have kk:∀c o,c∉[e,it]->s.heap.get? c=some o->J.get? c=some o:=fun c o g q=>by
   simp only[ri,Lp,or_false,not_or]at g;exact(B.2 c g.1).trans (hk c o g.1 g.2 q)
  have G:J.get? s.heap.objs.size=some {cls:=.type "tuple",data:=.seq #[.int i M,y]}:=(B.2 _ (ne e (by simp)).symm).trans hT
  refine⟨.ref s.heap.objs.size,upd H s.heap.objs.size (.tup [.int i,x]),I.zq (t':=M+1) O kk (lj _) ⟨(by show 2<=nk;decide),_,.cons ⟨M,rfl⟩ (.cons ru .nil),⟨_,G,rfl,_,rfl⟩,_,G,rfl⟩,rfl,
   ⟨_,x,I.hok.fresh (lj _),rfl,rfl,fun zs T=>by rw[nc.inj I T N];exact hx⟩,?_,fun c g=>?_⟩
  ·exact⟨⟨_,by simpa using aa⟩,Y.1.at fun o q=>(B.2 it (MQ d1)).trans q⟩
  ·rw[av (ne c g)];exact(O c g).1
 done:=by
  intro X hP V hK g i C s σ H E I O t hg;subst hP V hK;obtain⟨xs,N,hl⟩:=hg;obtain⟨⟨j,p⟩,r⟩:=t;obtain⟨m,Q,S,_⟩:=jE I N;have e1:=Q.length;have ei:i=m.toArray.size:=by simp;omega
  rw[ei]at r;refine wpAny_pyNext_enum_endD (Cp (A:=X.A.in1) (b:=b) (I.ok.hd g) it l d2 m.toArray) p ⟨r,S⟩ fun h' hk=>⟨rfl,I.zp (t':=s.toks) O fun c o g q=>?_⟩;simp only[ri,Lp,or_false,not_or]at g;exact hk c o g.2 q
 self:=fun _ _ _ _ _ t h=>let⟨_,p⟩:=t.1;wpAny_pyIter_enum p h
noncomputable def HW(K:bA)(t:TA):TI:=fun e H R=>t e H fun j d=>∃b p g,j=[.ref p]/\nc K b d p g/\R (HV K b p) d
theorem Ec{X:Cx}{a:Expr}{t:TA}{D r q:Pos}{m:List Expr}{A:Nat}(K:bA)(Q:X.K=K)(O:Gl X "enumerate")(hm:X.mg "enumerate"=none)(P:PA X [a] t)
  (he:LA [a] X.env=(false,eval a X.env)::LA [] X.env:=by rfl) (hpl:(OL r (LA [] X.env)).any (·.1)=false:=by rfl):PI X (.Tuple m A q) (.Call (.Name "enumerate" D) [a] [] r) (HW K t):=by
 subst Q;intro j s z H R I h;refine L0 (jY I O hm (u:=.type "enumerate") (by decide +kernel) ?_ (by decide) (by decide));refine LV ?_ he hpl;refine cO (P r j s z H _ I h) fun Y d ⟨V,T,o,C,q1⟩=>?_;obtain⟨c,p,U,rfl,J,M⟩:=q1;obtain⟨u,rfl,B⟩:=vals1 C;obtain rfl:u=Value.ref p:=B;obtain⟨G,Z,v,_⟩:=jE o J;have E:@LT.lt Nat _ p d.heap.objs.size:=by obtain⟨_,e⟩:=v.got;exact vy e
 refine Cq v fun g w S L N=>?_;refine wpAny_pyIter_enum (s:={d with heap:=g}) w ?_;refine⟨d.heap.objs.size+1,[d.heap.objs.size+1,d.heap.objs.size],_,_,T,rfl,o.kept (t':=d.toks) N,AG _ _ p (by show @Ne Nat _ _;omega) (by show @Ne Nat _ _;omega) (by show @Ne Nat _ _;omega),⟨⟨_,w⟩,S⟩,fun b y=>?_,M⟩
 have l:d.heap.objs.size<=b:=by
  simp only[ri,Lp,or_false]at y;rcases y with rfl|rfl
  ·exact MH _ 1
  ·exact lj _
 exact o.Bb l (o.hok.fresh l)
theorem Cr{K:bA}{b:Bool}{a:Addr}{xs:List V}{g:TG}{u:TS}{D:Ends}{d:St}{H:Hp}(j:Nat->St->Hp->Prop)(G:j 0 d H)(C:∀i d H,i<=xs.length->j i d H->nc K b H a xs)
  (hs:∀i x d H p,xs[i]?=some x->j i d H->H p=none->g (.ref p) d (upd H p (.tup [.int i,x])) fun l t=>u {D with nx:=j (i+1),ct:=j (i+1),bk:=D.nx} l t) (hd:∀d H,j xs.length d H->D.nx d H) :
  ∃W:Nat->Nat->St->Hp->Prop,(∃m,W 0 m d H)/\∀i m d H,W i m d H ->
   ((HV K b a).stop i H/\D.nx d H)\/((HV K b a).go i H/\∃N:St->Hp->Prop,(∀o q,N o q->∃v,v < m/\W (i+1) v o q)/\∀x q,(HV K b a).yld i H x q->g x d q fun l t=>u {D with nx:=N,ct:=N,bk:=D.nx} l t):=by
 refine⟨fun i m d H=>m=xs.length-i/\i<=xs.length/\j i d H,⟨xs.length,by simp,Ld _,G⟩,?_⟩;rintro i m d H ⟨rfl,E,p⟩;have q1:=C i d H E p
 by_cases r:i<xs.length
 ·refine .inr ⟨⟨xs,xs[i],q1,by simp[r]⟩,j (i+1),fun o q A=>⟨xs.length - (i+1),by omega,rfl,r,A⟩,fun x q y=>?_⟩;obtain⟨z,w,B,rfl,rfl,I⟩:=y;exact hs i w d H z (I xs q1) p B
 ·have e:i=xs.length:=by omega
  subst e;exact .inl ⟨⟨xs,q1,rfl⟩,hd d H p⟩
section
variable {K:bA}{σ0:St}{H0:Hp}{g:TG}{tt:TT}{te:TE}{Q:VK}
end
end L2
namespace G33
open PySem L2
theorem mQ{n:Int}{ns:List Int}:vJ (.int n) (ns.map V.int)=decide (n∈ns):=by
 unfold vJ
 by_cases h:n∈ns
 ·rw[decide_eq_true h,S5];exact⟨.int n,LC h,show(n == n)=true from beq_self_eq_true n⟩
 ·rw[decide_eq_false h,QO];intro y g e;obtain⟨z,d,rfl⟩:=L8.mp g;have:z=n:=NJ (show(z == n)=true from e);exact h (this▸d)
theorem mR{x:Str}{xs:List Str}:vJ (.str x) (xs.map V.str)=decide (x∈xs):=by
 unfold vJ
 by_cases h:x∈xs
 ·rw[decide_eq_true h,S5];exact⟨.str x,LC h,show(x == x)=true from beq_self_eq_true x⟩
 ·rw[decide_eq_false h,QO];intro y g e;obtain⟨z,d,rfl⟩:=L8.mp g;have:z=x:=NJ (show(z == x)=true from e);exact h (this▸d)
theorem kQ(ns:List Int):(ns.map V.int).all lJ=true:=by
 rw[MG];intro y d;obtain⟨z,_,rfl⟩:=L8.mp d;rfl
noncomputable def nQ{d:Type}(tr:d->T)(p:Int×d):T:=.t [.i p.1,tr p.2]
structure wJ{α:Type}(gf:α->List Int) (okA:α->Prop) (there:List Int) (fl:List (Int×α)):Prop where
 len:fl.length<=8
 tl:there.length<=900
 ok:∀p∈fl,okA p.2/\(gf p.2).length<=50
 at_:∀p∈fl,p.1∈there
 nd:(fl.map (·.1)).Nodup
 gs:((there.filter fun n=>!decide (n∈fl.map (·.1)))++fl.flatMap fun p=>gf p.2).Nodup
noncomputable def yq{e:Type}(K:bA)(tr:e->T)(gf:e->List Int)(okA:e->Prop)(m:Addr):Sp:=fun l H Q _=>∃(v:V) (lt:Addr) (d:List Int) (g:List (Int×e)),l=[v,.ref lt,.ref m]/\Rp K H (.t (g.map (nQ tr))) v/\H lt=some (.lst (d.map V.int))/\wJ gf okA d g/\∀j,aF H j->Q .iP j
theorem EN(ns:List Int):∀l:List Int,(l.flatMap fun n=>if n∈ns then []else [T.i n])=(l.filter fun n=>!decide (n∈ns)).map T.i
 | []=>rfl
 |n::r=>by
  rw[LN,EN ns r]
  by_cases h:n∈ns
  ·rw[if_pos h,List.filter_cons_of_neg (by simp[h])];rfl
  ·rw[if_neg h,List.filter_cons_of_pos (by simp[h])];rfl
theorem uT{d:Type}{xs:List d}{i:Nat}{x:d}(h:xs[i]?=some x):xs.drop i=x::xs.drop (i+1):=by
 rw[List.drop_eq_getElem_cons (ko.mp h).1,(ko.mp h).2]
theorem wJ.not{l:Type}{gf:l->List Int}{okA:l->Prop}{d:List Int}{e:List (Int×l)}(v:wJ gf okA d e){i j:Nat}{p:Int×l}{g:Int}(t:e[i]?=some p)(u:(gf p.2)[j]?=some g):g∉(d.filter fun n=>!decide (n∈e.map (·.1)))++((e.take i).flatMap fun p=>gf p.2)++(gf p.2).take j:=by
 have o:=v.gs;have r:e=e.take i++(p::e.drop (i+1)):=by rw[←uT t,O8]
 have q:gf p.2=(gf p.2).take j++(g::(gf p.2).drop (j+1)):=by rw[←uT u,O8]
 generalize(d.filter fun n=>!decide (n∈e.map (·.1)))=A at o⊢;generalize e.take i=B at r⊢;generalize e.drop (i+1)=C at r;generalize(gf p.2).take j=D at q⊢;generalize(gf p.2).drop (j+1)=E at q;rw[r,Ma,LN,q]at o;intro z;have m:((A++(B.flatMap fun p=>gf p.2)++D)++(g::(E++C.flatMap fun p=>gf p.2))).Nodup:=by simpa[LM]using o
 exact(Me.mp m).2.2 g z g (.head _) rfl
section
variable {P:FG}{w:Lk}{K:bA}{mg:Str->Option j3}{base:Heap}{gG:Addr}{gfd:zo}
theorem aN:Nm ["fillings","there","gaps_of","numbers","n","at","ahead","put","gap"] (aj cS):=by decide +kernel
theorem cA:Lm ["fillings","there","gaps_of","numbers","n","at","ahead","put","gap"] (aj cS):=by decide +kernel
theorem bU:aI ["fillings","there","gaps_of","numbers","n","at","ahead","put","gap"] ["fillings","there","gaps_of"] (aj cS):=⟨rfl,rfl,rfl,by decide +kernel,rfl,by decide +kernel,by decide +kernel⟩
theorem zy{α:Type}{tr:α->T}{gf:α->List Int}{okA:α->Prop}{S:Sp}{f:Addr}{fd:zo}{x:Str}(F:gX K "look_fillings" "look_fillings" cS f fd)(GO:bK P w K mg base eL 4 gG gfd [x] S)(kG:MO K (.ref gG)=true)(bG:Binds K gfd [x] [])
  (hsp:∀(v:V) (y:α) (H:Hp) (Q:VK),Rp K H (tr y) v->okA y->(∀l H',aF H H'->H l=none->H' l=some (.lst ((gf y).map V.int))->Q (.ref l) H')->S [v] H Q E0) (z_enumerate:mg "enumerate"=none) :
  bK P w K mg base eL 5 f fd ["fillings","there","gaps_of"] (yq K tr gf okA gG):=by
 refine F.ok bU (fun vs H Q E h=>?_) (fun bj A ai s H vs Q E hr h=>?_)
 ·obtain⟨_,_,_,_,rfl,_⟩:=h;rfl
 obtain⟨v,lt,d,m,rfl,rv,ar,O,k⟩:=h;refine⟨_,(Z6 (Z2 bU.nd cA 3 (Za (aj cS) ["fillings","there","gaps_of","numbers","n","at","ahead","put","gap"] ["n","put"] [] (dh (va aN 0)) (fun _ _ _ _=>(Zc (Zh (Z3 (i:=0) (show(["n","put"]:List Str).Nodup by decide +kernel)) (aG (Z3 (i:=1) (show(["n","put"]:List Str).Nodup by decide +kernel)) aZ)))) (fun _ _ _ _=>(va (show Nm ["n","put"] _ by show _=_;kernel_rfl) 0)))) (Z6 (Zj (cX (va aN 3)) (ga bU.nd cA 4) (Zg (Zd (eX ow (va aN 4) (va aN 1) (by with_unfolding_all rfl)) (cg qO)))) (Z6 (Zj (Ec K rfl (by show _=_;kernel_rfl) z_enumerate (Zb (va aN 3))) (Zc (Zh (ga bU.nd cA 5) (aG (ga bU.nd cA 4) aZ))) (Zg (Zd (@eX _ _ _ _ _ _ _ _ iZ (va aN 4) (@cK _ _ _ _ _ _ _ _ _ _ gu (va aN 3) dQ (cy (va aN 5))) (by with_unfolding_all rfl)) (cg qO)))) (Z6 (Zi (aj cS) ["fillings","there","gaps_of","numbers","n","at","ahead","put","gap"] ["n"] [3] (cX (va aN 1)) (fun _ _ _ _=>(Z3 (i:=0) (show(["n","numbers"]:List Str).Nodup by decide +kernel))) (fun _ _ _ _=>(@gz _ _ _ (eX (nB K rfl) (va (show Nm ["n","numbers"] _ by show _=_;kernel_rfl) 0) (va (show Nm ["n","numbers"] _ by show _=_;kernel_rfl) 1) (by with_unfolding_all rfl)))) (fun _ _ _ _=>(va (show Nm ["n","numbers"] _ by show _=_;kernel_rfl) 0)) (ga bU.nd cA 6)) (Zg (Zj (dh (va aN 0)) (Zc (Zh (ga bU.nd cA 4) (aG (ga bU.nd cA 7) aZ))) (Zg (Zj (@cX _ _ _ _ (@wj _ (fun f sp=>f=gG/\sp=S) _ _ _ _ _ _ _ (fun f sp h=>by obtain⟨rfl,rfl⟩:=h;exact⟨4,_,_,GO,hr.mono (by omega),kG,bG⟩) (va aN 2) (Zb (va aN 7)) (by rfl) (by rfl))) (ga bU.nd cA 8) (Z6 (Zd (eX iZ (va aN 8) (va aN 6) (by with_unfolding_all rfl)) (cg qO)) (Zg (@cu _ _ _ _ (Z7 Ll Ln cz (va aN 6) (Zb (va aN 8))) (by rfl)))))))))))),?_⟩
 try dsimp only[bM]
 try dsimp only[bM]
 refine jy ?_;intro N1 N2 N3 N4 c1 c2 c3 c4;obtain⟨a,us,rfl,sq,rs⟩:=rv.aY;have an:=rs.length;rw[bC]at an;have bc:=O.len;fail "R";refine fB (K:=K) (e:=nQ tr) (φ:=fun p=>[.i p.1]) (fun o=>∃y0 y1,o=[y0,y1]) sq rs (by omega) (fun _=>lj _) ⟨_,_,rfl⟩ ?_ ?_
 ·rintro p L xv _ B N s2 ⟨_,_,rfl⟩ rx kN;obtain⟨xa,x1,x2,rfl,aa,e1,e2⟩:=(show Rp K B (.t [.i p.1,tr p.2]) xv from rx).t2;obtain rfl:=e1.cV;fail "R";exact kN _ _ _ ⟨⟨_,_,rfl⟩,aF.refl _,.one .i⟩
 intro I H1 a6 s1 bb h1 r1;rw[iL,show(fun p:Int×α=>T.i p.1)=T.i ∘ (·.1)from rfl,←Nd]at r1;obtain rfl:=r1.oM;have bg:=kQ (m.map (·.1));have flt:=kQ d;have M:=s1 _ _ ar;fail "R";refine nZ (K:=K) (xs:=(m.map (·.1)).map V.int) (fun i o B=>(∃o4,o=[some (.ref a),some (.ref lt),some (.ref gG),some (.ref I),o4,none,none,none,none])/\B=H1) ⟨⟨_,rfl⟩,rfl⟩ ?_ ?_ ?_
 ·rintro i o B _ ⟨_,rfl⟩;exact bz.of h1
 ·rintro i xv o B hx ⟨⟨_,rfl⟩,rfl⟩;rw[Nd,rz]at hx;obtain⟨p,L,rfl⟩:=FA.mp hx;have aw:=O.at_ p (we L);have r:=mQ (n:=p.1) (ns:=d);rw[decide_eq_true aw]at r;have X:bz K B lt (d.map V.int)\/bN K B lt (d.map V.int):=.inl (bz.of M);fail "R";refine lQ (by show(!vJ (V.int p.1) (d.map V.int))=false;rw[r];rfl) ?_;exact⟨⟨_,rfl⟩,rfl⟩
 rintro o B ⟨⟨o4,rfl⟩,rfl⟩;have be:nc K false B I ((m.map (·.1)).map V.int):=bz.of h1;fail "R";refine Cr (K:=K) (xs:=(m.map (·.1)).map V.int) (fun i o H3=>(∃o4 o5,o=[some (.ref a),some (.ref lt),some (.ref gG),some (.ref I),o4,o5,none,none,none])/\aF B H3) ⟨⟨_,_,rfl⟩,aF.refl _⟩ ?_ ?_ ?_
 ·rintro i o H3 _ ⟨_,C⟩;exact bz.of (C _ _ h1)
 ·rintro i xv o H3 p hx ⟨⟨_,_,rfl⟩,C⟩ L;rw[rz]at hx;obtain⟨n,hn,rfl⟩:=FA.mp hx;have U:=ae L (.tup [.int (i:Int),.int n]);have h4:bN K (upd H3 p (.tup [.int (i:Int),.int n])) p [.int (i:Int),.int n]:=bN.of af;generalize upd H3 p (.tup [.int (i:Int),.int n])=H4 at U h4⊢;have bf:=U _ _ (C _ _ h1)
  have Y:n∉(m.map (·.1)).take i:=fun z=>by
   obtain⟨hl,e⟩:=ko.mp hn;obtain⟨j,hj,e2⟩:=PD.mp z;rw[Lb]at hj;rw[List.getElem_take]at e2;have:=(SV O.nd (h₀:=by omega) (h₁:=hl)).mp (e2.trans e.symm);omega
  fail "R";intro p5 ap;rw[jc,←M0];have u:=ae ap (.lst (((m.map (·.1)).take i).map V.int));have Z:bz K (upd H4 p5 (.lst (((m.map (·.1)).take i).map V.int))) p5 (((m.map (·.1)).take i).map V.int):=bz.of af;generalize upd H4 p5 (.lst (((m.map (·.1)).take i).map V.int))=G at u Z⊢;have X:bz K G p5 (((m.map (·.1)).take i).map V.int)\/bN K G p5 (((m.map (·.1)).take i).map V.int):=.inl Z;have bi:=kQ ((m.map (·.1)).take i);have r:=mQ (n:=n) (ns:=(m.map (·.1)).take i);rw[decide_eq_false Y]at r;fail "R";refine lQ (by show vJ _ _=false;exact r) ?_;exact⟨⟨_,_,rfl⟩,(C.trans U).trans u⟩
 rintro o H3 ⟨⟨a8,o5,rfl⟩,C⟩;have ad:=C _ _ M;have a0:=C _ _ h1;fail "R";refine ik (K:=K) (e:=T.i) (φ:=fun n=>if n∈m.map (·.1)then []else [.i n]) (fun o=>∃y,o=[y,some (.ref I)]) ad (bI.EK _) O.tl (fun n=>by by_cases h:n∈m.map (·.1)<;>simp[h]) ⟨_,rfl⟩ ?_ ?_
 ·rintro n hn xv _ H4 N U ⟨_,rfl⟩ rx kN;obtain rfl:=rx.cV;have X:bz K H4 I ((m.map (·.1)).map V.int)\/bN K H4 I ((m.map (·.1)).map V.int):=.inl (bz.of (U _ _ a0));have r:=mQ (n:=n) (ns:=m.map (·.1));fail "R"
  by_cases h:n∈m.map (·.1)
  ·rw[decide_eq_true h]at r;refine lQ (by show(!vJ _ _)=false;rw[r];rfl) ?_;exact kN _ _ _ ⟨⟨_,rfl⟩,aF.refl _,by rw[if_pos h];exact .nil⟩
  ·rw[decide_eq_false h]at r;refine Al (by show(!vJ _ _)=true;rw[r];rfl) ?_;fail "R";exact kN _ _ _ ⟨⟨_,rfl⟩,aF.refl _,by rw[if_neg h];exact .one .i⟩
 intro J H4 a5 U as h4 r4;rw[EN]at r4;obtain rfl:=r4.oM;have ab:=(s1.trans C).trans U;have ag:H J=none:=(s1.trans C).free as;have ba:(d.filter fun n=>!decide (n∈m.map (·.1))).length<=900:=I0 (O9 ..) O.tl;have a7:=sq.same ab;have a4:(d.filter fun n=>!decide (n∈m.map (·.1))).length+50*8<1400:=by omega
 fail "R";refine mV (K:=K) (xs:=us) (fun i o G=>(∃o4 o5 o7 o8,o=[some (.ref a),some (.ref lt),some (.ref gG),some (.ref I),o4,o5,some (.ref J),o7,o8])/\aF H G/\G J=some (.lst (((d.filter fun n=>!decide (n∈m.map (·.1)))++(m.take i).flatMap fun p=>gf p.2).map V.int))) ⟨⟨_,_,_,_,rfl⟩,ab,by rw[O3];simpa using h4⟩ ?_ ?_ ?_
 ·rintro i o G _ ⟨_,u,_⟩;exact sq.same u
 ·rintro i xv o G hx ⟨⟨_,_,_,_,rfl⟩,u,Z⟩;obtain⟨tx,ac,rx⟩:=rs.get' hx;rw[rz]at ac;obtain⟨p,L,rfl⟩:=FA.mp ac;obtain⟨xa,x1,x2,rfl,aa,e1,e2⟩:=(show Rp K H (.t [.i p.1,tr p.2]) xv from rx).t2;obtain rfl:=e1.cV;obtain⟨al,a9⟩:=O.ok p (we L);have a3:=aa.same u;have a2:=hsp x2 p.2 G;have a1:=e2.same u;generalize hA:(d.filter fun n=>!decide (n∈m.map (·.1)))++(m.take i).flatMap (fun p=>gf p.2)=A at Z
  have lA:A.length<=900+8*50:=by
   rw[←hA,lu];have h1:((m.take i).flatMap fun p=>gf p.2).length<=(m.take i).length*50:=uJ fun q hq=>(O.ok q (Ly hq)).2;rw[Lb]at h1;omega
  fail "R";refine a2 _ a1 al fun l6 H6 s6 au h6=>?_;have ah:=u.trans s6;have ay:=s6 _ _ Z;have am:J≠l6:=aq Z au;fail "R";refine nZ (K:=K) (xs:=(gf p.2).map V.int) (fun j o R=>(∃o5 o8,o=[some (.ref a),some (.ref lt),some (.ref gG),some (.ref I),some (.int p.1),o5,some (.ref J),some x2,o8])/\aF H R/\R l6=some (.lst ((gf p.2).map V.int))/\R J=some (.lst ((A++(gf p.2).take j).map V.int))) ⟨⟨_,_,rfl⟩,ah,h6,by rw[O3,LH];exact ay⟩ ?_ ?_ ?_
  ·rintro j o R _ ⟨_,_,h,_⟩;exact bz.of h
  ·rintro j yv o R hy ⟨⟨w,_,rfl⟩,s7,ax,D⟩;rw[rz]at hy;obtain⟨g,hg,rfl⟩:=FA.mp hy;have Y:g∉A++(gf p.2).take j:=by rw[←hA];exact O.not L hg
   have r:=mQ (n:=g) (ns:=A++(gf p.2).take j);rw[decide_eq_false Y]at r;have X:bz K R J ((A++(gf p.2).take j).map V.int)\/bN K R J ((A++(gf p.2).take j).map V.int):=.inl (bz.of D);have bh:=kQ (A++(gf p.2).take j);have hz:((A++(gf p.2).take j).map V.int).length<nk:=Lf (show _<1500 by rw[bC,lu,Lb];omega) (by decide);fail "R";refine lQ (by show vJ _ _=false;exact r) ?_
   have e9:(A++(gf p.2).take (j+1)).map V.int=(A++(gf p.2).take j).map V.int++[V.int g]:=by
    rw[iA hg,←LM,nq];rfl
   fail "R"
   ·exact s7.rG ag _
   exact⟨by rw[av am.symm];exact ax,by rw[af,e9]⟩
  ·rintro o R ⟨⟨_,_,rfl⟩,s7,_,D⟩;rw[bC,Lv]at D;refine⟨⟨_,_,_,_,rfl⟩,s7,?_⟩;rw[D,←hA,iA L,Ma,LM];simp
 rintro o G ⟨⟨_,_,_,_,rfl⟩,u,Z⟩;fail "R";exact k _ u
end
end G33
namespace L2
open PySem PySem.Spec PyProof.Rows
section
variable {X:Cx}
theorem AH(K:bA)(w:X.K=K):iN X (.builtin "isinstance") (fun xs H Q=>∃x,xs=[x,.ty "tuple"]/\((∃p ys,x=.ref p/\bN K H p ys/\Q (.bl true) H)\/(∃z,x=.str z/\Q (.bl false) H)\/∃z,x=.int z/\Q (.bl false) H)):=by
 subst w;intro e s y H xs A Q I r h;obtain⟨x,rfl,h⟩:=h;obtain⟨u,g,rfl,d,r2⟩:=vals2 r;obtain rfl:g=Value.type "tuple":=r2;rcases h with⟨p,ys,rfl,hq,q⟩|⟨z,rfl,q⟩|⟨z,rfl,q⟩
 ·obtain rfl:u=Value.ref p:=d;obtain⟨l,B,j,C⟩:=I.tuple hq;obtain⟨o,m,v,n,hd⟩:=j;exact IsiPair.tuple_tuple m v ⟨.bl true,H,I,rfl,q⟩
 ·obtain⟨t,rfl⟩:=d;exact IsiPair.str_tuple ⟨.bl false,H,I.tok _,rfl,q⟩
 ·obtain⟨t,rfl⟩:=d;exact IsiPair.int_tuple ⟨.bl false,H,I.tok _,rfl,q⟩
end
end L2
namespace G33
open PySem L2
theorem Cs(xs:List V):gq xs none (some (-1))=xs.dropLast:=by
 rcases Of xs with rfl|⟨ys,y,rfl⟩
 ·rfl
 ·have h:(-1+(((ys.length:Nat):Int)+1)).toNat=ys.length:=by omega
  rw[RS,Oq];unfold gq HT.gj;simp;rw[h];simp
theorem wK{d:Type}(xs:List d)(y:d):jM (xs++[y]) (-1)=some y:=by
 unfold jM yP;rw[if_neg (by decide),if_pos (by rw[lu];simp;omega),Rr,show(-1+(((xs++[y]).length:Nat):Int)).toNat=xs.length by rw[lu];simp;omega];simp
noncomputable def IQ:Str ⊕ Tm->T
 |.inl x=>.s x
 |.inr k=>enc k
noncomputable def JO(f:Tm->Tm):Str ⊕ Tm->Str ⊕ Tm
 |.inl x=>.inl x
 |.inr k=>.inr (f k)
noncomputable def Gj(hd:Hd)(ks:List Tm):Prop:=∃(d:Str) (L:List (Str ⊕ Tm)),kZ hd (ks.map enc)=.t (.s d::L.map IQ)/\(∀f:Tm->Tm,kZ hd ((ks.map f).map enc)=.t (.s d::(L.map (JO f)).map IQ))/\L.length<=5/\(∀k,.inr k∈L->k∈ks)/\(d∉(["gap","num","name","row","tag","call","match"]:List Str))/\∀n,hd≠.gap n
noncomputable def HX(hd:Hd)(ks:List Tm):Prop:=∃(d:Str) (r:List T),ks=[]/\kZ hd []=.t (.s d::r)/\d∈(["num","name"]:List Str)/\∀n,hd≠.gap n
noncomputable def HY(hd:Hd):Prop:=∃(e:Str) (d:List T),(∀ks:List Tm,kZ hd (ks.map enc)=.t (.s e::(d++[.t (ks.map enc)])))/\d.length<=1/\e∈(["row","tag","call"]:List Str)/\∀n,hd≠.gap n
theorem Ct {hd : Hd} {ks : List Tm} (d : cM hd ks.length = true) : (∃ n, hd = .gap n ∧ ks = []) ∨ HX hd ks ∨ HY hd ∨ (∃ arms, hd = .mat arms) ∨ Gj hd ks := by
  cases hd
  case num n => obtain rfl : ks = [] := by simpa [cM] using d
                exact .inr (.inl ⟨"num", [.i n], rfl, rfl, by decide +kernel, nofun⟩)
  case name x => obtain rfl : ks = [] := by simpa [cM] using d
                 exact .inr (.inl ⟨"name", [.s x], rfl, rfl, by decide +kernel, nofun⟩)
  case gap n => obtain rfl : ks = [] := by simpa [cM] using d
                exact .inl ⟨n, rfl, rfl⟩
  case op s => obtain ⟨a, b, rfl⟩ := l2 (show ks.length = 2 by simpa [cM] using d)
               exact .inr (.inr (.inr (.inr ⟨"op", [.inl s, .inr a, .inr b], rfl, fun _ => rfl, by simp, by simp, by decide +kernel, nofun⟩)))
  case more => obtain ⟨a, b, rfl⟩ := l2 (show ks.length = 2 by simpa [cM] using d)
               exact .inr (.inr (.inr (.inr ⟨"more", [.inr a, .inr b], rfl, fun _ => rfl, by simp, by simp, by decide +kernel, nofun⟩)))
  case first => obtain ⟨a, rfl⟩ := l1 (show ks.length = 1 by simpa [cM] using d)
                exact .inr (.inr (.inr (.inr ⟨"first", [.inr a], rfl, fun _ => rfl, by simp, by simp, by decide +kernel, nofun⟩)))
  case others => obtain ⟨a, rfl⟩ := l1 (show ks.length = 1 by simpa [cM] using d)
                 exact .inr (.inr (.inr (.inr ⟨"others", [.inr a], rfl, fun _ => rfl, by simp, by simp, by decide +kernel, nofun⟩)))
  case long => obtain ⟨a, rfl⟩ := l1 (show ks.length = 1 by simpa [cM] using d)
               exact .inr (.inr (.inr (.inr ⟨"long", [.inr a], rfl, fun _ => rfl, by simp, by simp, by decide +kernel, nofun⟩)))
  case ife => obtain ⟨a, b, c, rfl⟩ := l3 (show ks.length = 3 by simpa [cM] using d)
              exact .inr (.inr (.inr (.inr ⟨"if", [.inr a, .inr b, .inr c], rfl, fun _ => rfl, by simp, by simp, by decide +kernel, nofun⟩)))
  case lt x => obtain ⟨a, b, rfl⟩ := l2 (show ks.length = 2 by simpa [cM] using d)
               exact .inr (.inr (.inr (.inr ⟨"let", [.inl x, .inr a, .inr b], rfl, fun _ => rfl, by simp, by simp, by decide +kernel, nofun⟩)))
  case fold x y => obtain ⟨a, b, c, rfl⟩ := l3 (show ks.length = 3 by simpa [cM] using d)
                   exact .inr (.inr (.inr (.inr ⟨"fold", [.inr a, .inl x, .inl y, .inr b, .inr c], rfl, fun _ => rfl, by simp, by simp, by decide +kernel, nofun⟩)))
  case row => exact .inr (.inr (.inl ⟨"row", [], fun _ => rfl, by simp, by decide +kernel, nofun⟩))
  case tag t => exact .inr (.inr (.inl ⟨"tag", [.s t], fun _ => rfl, by simp, by decide +kernel, nofun⟩))
  case call t => exact .inr (.inr (.inl ⟨"call", [.s t], fun _ => rfl, by simp, by decide +kernel, nofun⟩))
  case mat arms => exact .inr (.inr (.inr (.inl ⟨_, rfl⟩)))
theorem zz:∀(arms:List (Str×List Str)) (d:List Tm),((arms.zip d).map fun p:(Str×List Str)×Tm=>gw p.1 (enc p.2))=LK gw arms (d.map enc)
 | [],_=>rfl
 |_::_,[]=>rfl
 |a::r,k::q=>by rw[Nq,Lh,Lh,NT,zz r q]
theorem wM{d:Int->Option Tm}:∀(arms:List (Str×List Str)) (e:List Tm),((arms.zip e).map fun p:(Str×List Str)×Tm=>gw p.1 (enc (dY d p.2)))=LK gw arms ((e.map (dY d)).map enc)
 | [],_=>rfl
 |_::_,[]=>rfl
 |a::r,k::q=>by rw[Nq,Lh,Lh,Lh,NT,wM r q]
noncomputable def uU(K:bA)(n:Nat):Sp:=fun m H Q _=>∃(v:V) (d:Addr) (e:Tm) (l:Int->Option Tm),m=[v,.ref d]/\Rp K H (enc e) v/\Wf e/\e.depth<n/\e.size<=900/\jC K enc H d l/\∀j g,aF H g->Rp K g (enc (dY l e)) j->Q j g
theorem Gk{hd:Hd}{ks:List Tm}{k:Tm}{n:Nat}(wf:Wf (.mk hd ks))(d:(Tm.mk hd ks).depth<n+1)(hz:(Tm.mk hd ks).size<=900)(h:k∈ks):Wf k/\k.depth<n/\k.size<=900:=by
 refine⟨by cases wf with|mk _ w=>exact w k h,?_,?_⟩
 ·have:=Tm.xT h
  cases ks with
  |nil=>exact nomatch h
  |cons a r=>rw[Tm.xS]at d;omega
 ·have:=Tm.kJ h;rw[Tm.fN]at hz;omega
section
variable {P:FG}{w:Lk}{K:bA}{mg:Str->Option j3}{base:Heap}{gU:Addr}{ufd:zo}
theorem dF:Nm ["_law_term_here","_law_put_here"] (aj jQ):=by decide +kernel
theorem Cu:aI ["_law_term_here","_law_put_here"] ["_law_term_here","_law_put_here"] (aj jQ):=⟨rfl,rfl,rfl,by decide +kernel,rfl,by decide +kernel,by decide +kernel⟩
theorem Ed{f:Addr}{fd:zo}{n j:Nat}(hj:1<=j)(F:gX K "_law_put" "_law_put" jQ f fd)(PU:bY P w K mg base "_law_put" j ["_law_term_here","_law_put_here"] (uU K n) gU ufd)(l:mg "tuple"=none)(C:mg "isinstance"=none) :
  bK P w K mg base eL (j+1) f fd ["_law_term_here","_law_put_here"] (uU K (n+1)):=by
 refine F.ok Cu (fun vs H Q E h=>?_) (fun bt A ba s H vs Q E hr h=>?_)
 ·obtain⟨_,_,_,_,rfl,_⟩:=h;rfl
 obtain⟨v,d,tm,pf,rfl,Z,wf,bf,hz,pa,k⟩:=h;refine⟨_,(Z6 (Zd (Zf bJ (Z9 aQ (va dF 0)) az) (Zg (Zn (@qY _ _ _ _ _ _ _ _ _ (jo hr) (va dF 1) (Z9 aQ (va dF 0)) (va dF 0) ⟨by rfl,by rfl,by rfl,by rfl⟩)))) (Z6 (Zd (@eX _ _ _ _ _ _ _ _ iZ (Z9 aQ (va dF 0)) (Ze (cT az (Zb az))) (by with_unfolding_all rfl)) (Zg (cB (va dF 0)))) (Z6 (Zd (@eX _ _ _ _ _ _ _ _ iZ (Z9 aQ (va dF 0)) (Ze (Z1 az (cT az (Zb az)))) (by with_unfolding_all rfl)) (Zg (Zn (Zm rF (@cK _ _ _ _ _ _ _ _ _ _ zu (va dF 0) dQ (cy (nj jZ ao))) (Ze (Z1 (Z4 aH l Le (Z1 (Za (aj jQ) ["_law_term_here","_law_put_here"] ["_law_one"] [1] (@dh _ _ _ _ (iO aQ (va dF 0) (nj jZ ao) (fun _ _=>rfl))) (fun _ _ _ _=>(Z3 (i:=0) (show(["_law_one","_law_put_here"]:List Str).Nodup by decide +kernel))) (fun _ _ _ _=>(Z0 PU (Z1 (va (show Nm ["_law_one","_law_put_here"] _ by show _=_;kernel_rfl) 0) (Zb (va (show Nm ["_law_one","_law_put_here"] _ by show _=_;kernel_rfl) 1)))))) ak)) ak)))))) (Z6 (Zd (Zf bJ (Z9 aQ (va dF 0)) az) (Zg (Zn (Ze (Z1 az (Z1 (Z0 PU (Z1 (Z9 aQ (va dF 0)) (Zb (va dF 1)))) (Z1 (Z4 aH l Le (Z1 (Za (aj jQ) ["_law_term_here","_law_put_here"] ["_law_t","_law_names_here","_law_arm"] [1] (@dh _ _ _ _ (Z9 aQ (va dF 0))) (fun _ _ _ _=>(@fO _ _ _ _ _ (3) K rfl rfl (Zh (Z3 (i:=0) (show(["_law_t","_law_names_here","_law_arm","_law_put_here"]:List Str).Nodup by decide +kernel)) (Zh (Z3 (i:=1) (show(["_law_t","_law_names_here","_law_arm","_law_put_here"]:List Str).Nodup by decide +kernel)) (aG (Z3 (i:=2) (show(["_law_t","_law_names_here","_law_arm","_law_put_here"]:List Str).Nodup by decide +kernel)) aZ))) (by rfl) (by rfl))) (fun _ _ _ _=>(Ze (Z1 (va (show Nm ["_law_t","_law_names_here","_law_arm","_law_put_here"] _ by show _=_;kernel_rfl) 0) (Z1 (va (show Nm ["_law_t","_law_names_here","_law_arm","_law_put_here"] _ by show _=_;kernel_rfl) 1) (Z1 (Z0 PU (Z1 (va (show Nm ["_law_t","_law_names_here","_law_arm","_law_put_here"] _ by show _=_;kernel_rfl) 2) (Zb (va (show Nm ["_law_t","_law_names_here","_law_arm","_law_put_here"] _ by show _=_;kernel_rfl) 3)))) ak)))))) ak)) ak))))))) (Zg (Zn (Z4 aH l Le (Z1 (Za (aj jQ) ["_law_term_here","_law_put_here"] ["_law_one"] [1] (dh (va dF 0)) (fun _ _ _ _=>(Z3 (i:=0) (show(["_law_one","_law_put_here"]:List Str).Nodup by decide +kernel))) (fun _ _ _ _=>(@qN _ _ _ _ _ _ _ _ (@E2 _ _ _ (@dS _ _ _ _ _ _ _ _ _ (AH K rfl) (by show _=_;kernel_rfl) C PyProof.Rows.boot_isinstance (Z1 (va (show Nm ["_law_one","_law_put_here"] _ by show _=_;kernel_rfl) 0) (Zb (Dj (v:=.ty "tuple") (by show _=_;kernel_rfl) l (by decide +kernel) rfl))) (by decide) (by decide) (by rfl) (by rfl)) (by intro _;rfl)) (Z0 PU (Z1 (va (show Nm ["_law_one","_law_put_here"] _ by show _=_;kernel_rfl) 0) (Zb (va (show Nm ["_law_one","_law_put_here"] _ by show _=_;kernel_rfl) 1)))) (va (show Nm ["_law_one","_law_put_here"] _ by show _=_;kernel_rfl) 0)))) ak)))))))),?_⟩
 try dsimp only[bM]
 try dsimp only[bM]
 refine jy ?_;intro N1 N2 N3 N4 c1 c2 c3 c4;obtain⟨hd,ks⟩:=tm;have ar:cM hd ks.length=true:=by cases wf with|mk ar _=>exact ar
 have ab:=fun{k:Tm}(h:k∈ks)=>Gk wf bf hz h;have a3:ks.length<=900:=I0 (pT ks) (by rw[Tm.fN]at hz;omega);have ax:=Z;rw[bw]at Z
 have ac:∀(a:Addr) (g:Str) (J:List V),v=.ref a->bN K H a (.str g::J)->g≠"gap"->g∉(["num","name"]:List Str)->(∀q,aF H q->N2 [some v,some (.ref d)] q)->N1 [some v,some (.ref d)] H:=by
  intro a g J ev D f1 f2 kk;subst ev;have a0:=uG (V.str g) J;fail "R";intro Y al;have B:=ae al (.tup [.str "num",.str "name"]);have h1:bN K (upd H Y (.tup [.str "num",.str "name"])) Y [.str "num",.str "name"]:=bN.of af;generalize upd H Y (.tup [.str "num",.str "name"])=q at B h1⊢;have am:bz K q Y [.str "num",.str "name"]\/bN K q Y [.str "num",.str "name"]:=.inr h1;have iv:vJ (.str g) [.str "num",.str "name"]=false:=(mR (xs:=["num","name"])).trans (decide_eq_false f2);fail "R";refine lQ iv ?_;exact kk q B
 have T:∀(a:Addr) (g:Str) (J:List V),v=.ref a->bN K H a (.str g::J)->g∉(["row","tag","call"]:List Str)->(∀q,aF H q->N3 [some v,some (.ref d)] q)->∀q,aF H q->N2 [some v,some (.ref d)] q:=by
  intro a g J ev D f2 kk q B;subst ev;have a0:=uG (V.str g) J;have aa:=D.same B;fail "R";intro X ai;have W:=ae ai (.tup [.str "row",.str "tag",.str "call"]);have h2:bN K (upd q X (.tup [.str "row",.str "tag",.str "call"])) X [.str "row",.str "tag",.str "call"]:=bN.of af;generalize upd q X (.tup [.str "row",.str "tag",.str "call"])=S at W h2⊢;have am:bz K S X [.str "row",.str "tag",.str "call"]\/bN K S X [.str "row",.str "tag",.str "call"]:=.inr h2;have iv:vJ (.str g) [.str "row",.str "tag",.str "call"]=false:=(mR (xs:=["row","tag","call"])).trans (decide_eq_false f2);fail "R";refine lQ iv ?_;exact kk S (B.trans W)
 rcases Ct ar with⟨m,rfl,rfl⟩|⟨g,r,rfl,he,hm,hg⟩|⟨g,hs,he,hhs,hm,hg⟩|⟨arms,rfl⟩|⟨g,L,he,he2,hL,hLk,hm,hg⟩
 ·obtain⟨a,v0,v1,rfl,D,e0,e1⟩:=(show Rp K H (.t [.s "gap",.i m]) v from Z).t2;obtain rfl:=e0.aR;obtain rfl:=e1.cV;obtain⟨bn,o,hg,ro⟩:=pa.get m (y0:=.mk (.gap m) []) ax;fail "R";exact k _ _ (aF.refl _) (by rw[iB];exact ro)
 ·rw[Nc,he]at Z;obtain⟨a,vs,rfl,D,O⟩:=Z.aY;obtain⟨v0,J,rfl,e0,ah⟩:=id O.inv;obtain rfl:=e0.aR;have a0:=uG (V.str g) J;have f1:g≠"gap":=fun z=>absurd (z▸hm) (by decide +kernel);fail "R";refine lQ (vv f1) ?_;fail "R";intro Y al;have B:=ae al (.tup [.str "num",.str "name"]);have h1:bN K (upd H Y (.tup [.str "num",.str "name"])) Y [.str "num",.str "name"]:=bN.of af;generalize upd H Y (.tup [.str "num",.str "name"])=q at B h1⊢;have am:bz K q Y [.str "num",.str "name"]\/bN K q Y [.str "num",.str "name"]:=.inr h1;have iv:vJ (.str g) [.str "num",.str "name"]=true:=(mR (xs:=["num","name"])).trans (decide_eq_true hm);fail "R";refine Al iv ?_;fail "R";exact k _ _ B (by rw[iB,rS hg];exact ax.same B)
 ·rw[he]at Z;obtain⟨a,vs,rfl,D,O⟩:=Z.aY;obtain⟨v0,J,rfl,e0,ah⟩:=O.inv;obtain rfl:=e0.aR;obtain⟨h0,q1,rfl,rh,r1⟩:=ah.split;obtain⟨u,_,rfl,ru,rn⟩:=r1.inv;obtain rfl:=rn.fE;obtain⟨b,us,rfl,ad,rb⟩:=ru.aY;have lh:=rh.length;have lb:=rb.length;rw[bC]at lb;have a0:=uG (V.str g) (h0++[.ref b]);have an:=(show ∀x∈(["row","tag","call"]:List Str),x≠"gap"/\x∉(["num","name"]:List Str) by decide +kernel) g hm;fail "R";refine lQ (vv an.1) ?_;refine ac a g _ rfl D an.1 an.2 fun q B=>?_;have aa:=D.same B;fail "R";intro X ai;have W:=ae ai (.tup [.str "row",.str "tag",.str "call"]);have h2:bN K (upd q X (.tup [.str "row",.str "tag",.str "call"])) X [.str "row",.str "tag",.str "call"]:=bN.of af;generalize upd q X (.tup [.str "row",.str "tag",.str "call"])=S at W h2⊢;have am:bz K S X [.str "row",.str "tag",.str "call"]\/bN K S X [.str "row",.str "tag",.str "call"]:=.inr h2;have iv:vJ (.str g) [.str "row",.str "tag",.str "call"]=true:=(mR (xs:=["row","tag","call"])).trans (decide_eq_true hm);have G:=B.trans W;have a8:=D.same G;have aL:jM (V.str g::(h0++[.ref b])) (-1)=some (.ref b):=wK (V.str g::h0) (.ref b);fail "R";refine Al iv ?_;fail "R";intro p3 H3 s3 aw;rw[Cs,show(V.str g::(h0++[V.ref b])).dropLast=V.str g::h0 from Oq (l₁:=V.str g::h0)]at aw;have M:=G.trans s3;have bh:=D.same M;have as:=ad.same M;fail "R";refine fB (K:=K) (e:=enc) (φ:=fun x=>[enc (dY pf x)]) (ps:=ks) (fun σ=>∃y,σ=[y,some (.ref d)]) as (rb.same M) a3 (fun _=>lj _) ⟨_,rfl⟩ ?_ ?_
  ·rintro x hx xv _ H4 N U ⟨_,rfl⟩ rx kN;obtain⟨w1,w2,w3⟩:=ab hx;have bj:=pa.same (M.trans U);fail "R"
   try refine⟨pf,?_⟩
   fail "R";intro v5 H5 s5 r5;exact kN _ _ _ ⟨⟨_,rfl⟩,s5,.one r5⟩
  intro l4 H4 ws U bp h4 r4;rw[iL]at r4;fail "R";refine .inl ⟨bz.of h4,fun p5 I=>?_⟩;have s5:=ae I (.tup ws);have r5:=Rp.new (K:=K) I r4;generalize upd H4 p5 (.tup ws)=H5 at s5 r5⊢;fail "R";intro p6 bc;have s6:=ae bc (.tup [.ref p5]);have h6:bN K (upd H5 p6 (.tup [.ref p5])) p6 [.ref p5]:=bN.of af;generalize upd H5 p6 (.tup [.ref p5])=H6 at s6 h6⊢;have ag:=(U.trans s5).trans s6;have bg:=aw.same ag;have bo:(V.str g::h0).length+[V.ref p5].length<=nk:=small (by simp;omega);fail "R";intro p7 H7 s7 a7;refine k _ _ ((M.trans ag).trans s7) ?_;rw[iB,rS hg,bw,he,←MU];refine Rp.t a7 (.append (.cons .s (rh.same ((M.trans ag).trans s7))) (.one ?_));rw[Nd];exact r5.same (s6.trans s7)
 ·have ap:ks.length=arms.length+1:=by simpa[cM]using ar
  match ks,ap with
  |k0::kr,ap =>
  have be:arms.length=kr.length:=by simpa using ap.symm
  obtain⟨a,v0,v1,v2,rfl,D,e0,e1,e2⟩:=(show Rp K H (.t [.s "match",enc k0,.t (LK gw arms (kr.map enc))]) v from Z).t3;obtain rfl:=e0.aR;obtain⟨b,bu,rfl,ad,a4⟩:=e2.aY;have bb:=a4.length;rw[MM,bC,be,P9]at bb;obtain⟨g,R⟩:∃g:Str,g="match":=⟨_,rfl⟩;rw[←R]at D;have a0:=uG (V.str g) [v1,.ref b];have a1:jM [V.str g,v1,.ref b] 1=some v1:=bD (j:=1) rfl;have a2:jM [V.str g,v1,.ref b] 2=some (.ref b):=bD (j:=2) rfl;obtain⟨w1,w2,w3⟩:=ab (.head _);fail "R";refine lQ (vv (by rw[R];decide +kernel)) ?_;refine ac a _ _ rfl D (by rw[R];decide +kernel) (by rw[R];decide +kernel) (T a _ _ rfl D (by rw[R];decide +kernel) fun q B=>?_);have aa:=D.same B;fail "R";refine Al (by rw[R];decide +kernel) ?_;have bs:=e1.same B;have bm:=pa.same B;fail "R"
  try refine⟨pf,?_⟩
  fail "R";intro v2 S W r2;have G:=B.trans W;have a8:=D.same G;have au:=ad.same G;fail "R";refine fB (K:=K) (e:=fun p:(Str×List Str)×Tm=>gw p.1 (enc p.2)) (φ:=fun p=>[gw p.1 (enc (dY pf p.2))]) (ps:=arms.zip kr) (fun σ=>∃y0 y1 y2,σ=[y0,y1,y2,some (.ref d)]) au (by rw[zz];exact a4.same G) (by rw[P1];simp at a3;omega) (fun _=>lj _) ⟨_,_,_,rfl⟩ ?_ ?_
  ·rintro p hp xv _ H3 N s3 ⟨_,_,_,rfl⟩ rx kN;obtain⟨w1,w2,w3⟩:=ab (.tail _ (NY (show(p.1,p.2)∈arms.zip kr from hp)).2);obtain⟨xa,x1,x2,x3,rfl,aq,q1,q2,q3⟩:=(show Rp K H3 (.t [.s p.1.1,.t (p.1.2.map .s),enc p.2]) xv from rx).t3;have bk:=pa.same (G.trans s3);fail "R"
   try refine⟨pf,?_⟩
   fail "R";intro v4 H4 U r4;fail "R";intro p5 I;exact kN _ _ _ ⟨⟨_,_,_,rfl⟩,U.trans (ae I _),.one (Rp.new (K:=K) (xs:=[.s p.1.1,.t (p.1.2.map .s),enc (dY pf p.2)]) I (.cons (q1.same U) (.cons (q2.same U) (.one r4))))⟩
  intro l3 H3 ws s3 bq h3 r3;rw[iL]at r3;fail "R";refine .inl ⟨bz.of h3,fun p4 a5=>?_⟩;have U:=ae a5 (.tup ws);have r4:=Rp.new (K:=K) a5 r3;generalize upd H3 p4 (.tup ws)=H4 at U r4⊢;fail "R";intro p5 I;refine k _ _ ((G.trans (s3.trans U)).trans (ae I _)) ?_;rw[iB,rS (fun _ z=>Hd.noConfusion z),bw];exact Rp.new (K:=K) (xs:=[.s "match",enc (dY pf k0),.t (LK gw arms ((kr.map (dY pf)).map enc))]) I (.cons .s (.cons (r2.same (s3.trans U)) (.one (by rw[←wM];exact r4))))
 ·rw[he]at Z;obtain⟨a,vs,rfl,D,O⟩:=Z.aY;obtain⟨v0,J,rfl,e0,ah⟩:=id O.inv;obtain rfl:=e0.aR;have a0:=uG (V.str g) J;have nf:∀x∈(["gap","num","name","row","tag","call","match"]:List Str),g≠x:=fun x hx z=>hm (z▸hx);fail "R";refine lQ (vv (nf _ (by decide +kernel))) ?_;refine ac a g J rfl D (nf _ (by decide +kernel)) (fun z=>hm ((show ∀x∈(["num","name"]:List Str),x∈(["gap","num","name","row","tag","call","match"]:List Str) by decide +kernel) _ z)) (T a g J rfl D (fun z=>hm ((show ∀x∈(["row","tag","call"]:List Str),x∈(["gap","num","name","row","tag","call","match"]:List Str) by decide +kernel) _ z)) fun q B=>?_);have aa:=D.same B;fail "R";refine lQ (vv (nf _ (by decide +kernel))) ?_;have a9:=O.same B;fail "R";refine fB (K:=K) (e:=IQ) (φ:=fun x=>[IQ (JO (dY pf) x)]) (ps:=.inl g::L) (fun σ=>∃y,σ=[y,some (.ref d)]) aa a9 (by rw[Lu];omega) (fun _=>lj _) ⟨_,rfl⟩ ?_ ?_
  ·rintro x hx xv _ S N W ⟨_,rfl⟩ rx kN
   cases x with
   |inl y =>
    obtain rfl:=(show Rp K S (.s y) xv from rx).aR;fail "R";refine .inr (.inl ⟨_,rfl,?_⟩);fail "R";exact kN _ _ _ ⟨⟨_,rfl⟩,aF.refl _,.one .s⟩
   |inr t =>
    have ht:t∈ks:=hLk t ((ri.mp hx).resolve_left nofun);obtain⟨w1,w2,w3⟩:=ab ht;obtain⟨ay,et⟩:=pU t;obtain⟨xa,xs,rfl,aq,_⟩:=(show Rp K S (.t (.s (hdS t.hd)::ay)) xv from et▸rx).aY;have bl:=pa.same (B.trans W);have bi:Rp K S (enc t) (.ref xa):=rx;fail "R";refine .inl ⟨_,_,rfl,aq,?_⟩;fail "R"
    try refine⟨pf,?_⟩
    fail "R";intro v3 H3 s3 r3;exact kN _ _ _ ⟨⟨_,rfl⟩,s3,.one r3⟩
  ·intro l2 S ws W br h2 r2;rw[iL]at r2;fail "R";refine .inl ⟨bz.of h2,fun p3 a6=>?_⟩
   exact k _ _ ((B.trans W).trans (ae a6 _)) (by
    rw[iB,rS hg,bw,he2];have:=Rp.new (K:=K) a6 r2;rw[Lh]at this;rw[Nd];exact this)
end
noncomputable def Cv{e:Type}(G:Int->e)(l:e->e)(N:e)(j g:List (Int×e)):Prop:=g=j\/∃p q d a b,j=p::q::d/\g=(p.1,a)::(q.1,b)::d/\(a=G q.1\/a=l (G q.1))/\(b=G p.1\/b=N)
structure Gm{α:Type}(tr:α->T) (G:Int->α) (Wr:α->α) (N:α) (sort:Str) (b:Bool):Prop where
 so:sort=if b then "open" else "gap"
 hG:∀n,tr (G n)=.t [.s sort,.i n]
 hW:∀x,tr (Wr x)=if b then .t [.s "row",tr x]else .t [.s "op",.s "+",tr x,.t [.s "num",.i 1]]
 hN:tr N=if b then .s "num" else .t [.s "num",.i 7]
noncomputable def Cw(K:bA):Sp:=fun q H Q _=>∃(e:Type) (j:e->T) (G:Int->e) (p:e->e) (N:e) (d:Str) (b:Bool) (f:Addr) (v:V) (l:List (Int×e)),q=[.ref f,v,.str d]/\Gm j G p N d b/\cE H f/\Rp K H (.t (l.map (nQ j))) v/\l.length<=900 /\
 ∀(o:V) (m:Hp) (g:List (Int×e)),Ext f H m->Rp K m (.t (g.map (nQ j))) o->Cv G p N l g->Q o m
section
variable {P:FG}{w:Lk}{K:bA}{mg:Str->Option j3}{base:Heap}{gT:Addr}{tfd:zo}
theorem aK:Nm ["_law_feed_here","_law_found","_law_sort","_law_one","_law_other","_law_first","_law_last"] (aj fH):=by decide +kernel
theorem eO:Lm ["_law_feed_here","_law_found","_law_sort","_law_one","_law_other","_law_first","_law_last"] (aj fH):=by decide +kernel
theorem dZ:aI ["_law_feed_here","_law_found","_law_sort","_law_one","_law_other","_law_first","_law_last"] ["_law_feed_here","_law_found","_law_sort"] (aj fH):=⟨rfl,rfl,rfl,by decide +kernel,rfl,by decide +kernel,by decide +kernel⟩
theorem Ef{f:Addr}{fd:zo}(F:gX K "_law_exchanged" "_law_exchanged" fH f fd)(TK:bY P w K mg base "_law_take" 1 ["_law_feed_here","_law_many"] eJ gT tfd)(z_len:mg "len"=none)(m:mg "int"=none):bK P w K mg base eL 2 f fd ["_law_feed_here","_law_found","_law_sort"] (Cw K):=by
 refine F.ok dZ (fun vs H Q E h=>?_) (fun b3 A bb s H vs Q E hr h=>?_)
 ·obtain⟨_,_,_,_,_,_,_,_,_,_,rfl,_⟩:=h;rfl
 obtain⟨α,T,G,Wr,N,d,b,fe,v,fl,rfl,ok,hf,rv,be,k⟩:=h;refine⟨_,(Z6 (Zd (PW.pt (@sX _ _ _ _ _ _ _ (Zf lY (Z5 aB (Zb (va aK 1))) ao) (@qM _ _ _ _ (Zf bJ (Z0 TK (cT (va aK 0) (Zb ao))) ao)))) (Zg (cB (va aK 1)))) (Z6 (Zo (cK (wC K rfl) (va aK 1) dQ (cy ao)) (Zc (Zh (ga dZ.nd eO 3) (aG (ga dZ.nd eO 4) aZ)))) (Z6 (Z2 dZ.nd eO 5 (Ze (Z1 (va aK 2) (Z1 (Z9 aQ (va aK 4)) ak)))) (Z6 (Zd (Zf bJ (Z0 TK (cT (va aK 0) (Zb ao))) ao) (Zg (Z2 dZ.nd eO 5 (Zl aW (@bg _ _ _ _ (Z1 (Ze (Z1 az (Z1 az (Z1 (va aK 5) (Z1 (Ze (cT az (Zb ao))) ak))))) (Z1 (Ze (Z1 az (Zb (va aK 5)))) ak))) (Z4 iY m MT (Z1 (kW bJ (va aK 2) az (nG _)) ak)))))) (Z6 (Z2 dZ.nd eO 6 (Zl aW (@bg _ _ _ _ (Z1 (Ze (Z1 (va aK 2) (Z1 (Z9 aQ (va aK 3)) ak))) (Z1 (Zl aW (@bg _ _ _ _ (Z1 az (Z1 (Ze (cT az (Zb ao))) ak))) (Z4 iY m MT (Z1 (kW bJ (va aK 2) az (nG _)) ak))) ak))) (Z0 TK (cT (va aK 0) (Zb ao))))) (Zg (Zn (Zm (Aw K rfl) (Ze (Z1 (Ze (Z1 (Z9 aQ (va aK 3)) (Zb (va aK 5)))) (Z1 (Ze (Z1 (Z9 aQ (va aK 4)) (Zb (va aK 6)))) ak))) (cK (wC K rfl) (va aK 1) (cy ao) dQ))))))))),?_⟩
 try dsimp only[bM]
 try dsimp only[bM]
 obtain⟨a,ws,rfl,sq,rs⟩:=rv.aY;have lw:=rs.length;rw[bC]at lw;have bw:bz K H a ws\/bN K H a ws:=.inr sq;have hz:ws.length<nk:=bj (by omega);refine oG ?_;intro N1 N2 N3 N4 N5 c1 c2 c3 c4 c5;refine yj (fun b H1=>Ext fe H H1/\(b=false->2<=fl.length)) (fun C hC=>?_) (fun H1 h1=>?_) (fun H1 h1=>?_)
 ·fail "R";refine cH (fun c=>?_) (fun c=>?_)
  ·exact hC _ _ ⟨Ext.refl hf,fun z=>nomatch z⟩
  have c':¬((ws.length:Int)<2):=fun z=>c (decide_eq_true z);fail "R";intro r H1 r0 r1 x1;fail "R";exact hC _ _ ⟨x1,fun _=>by omega⟩
 ·fail "R";exact k _ _ fl h1.1 (rv.kt (h1.1.kt hf)) (.inl rfl)
 obtain⟨x1,hl⟩:=h1;have h2:=hl rfl
 obtain⟨p,q,g,rfl⟩:∃p q g,fl=p::q::g:=by
  rcases fl with _|⟨p,_|⟨q,g⟩⟩
  ·exact absurd h2 (by simp)
  ·exact absurd h2 (by simp)
  ·exact⟨_,_,_,rfl⟩
 have aw:=sq.kt (x1.kt hf);have a3:=rs.kt (x1.kt hf);obtain⟨v0,w0,rfl,g0,a2⟩:=a3.inv;obtain⟨v1,w1,rfl,g1,am⟩:=a2.inv;fail "R";intro p2 H2 s2 au;have e2:gq (v0::v1::w1) none (some 2)=[v0,v1]:=rfl;rw[e2]at au;obtain⟨a0,u0,rfl,al,ba⟩:=(g0.same s2).aY;obtain⟨bs,bo,rfl,bh,a8⟩:=ba.inv;obtain rfl:=bh.cV;obtain⟨bq,bm,rfl,b2,a6⟩:=a8.inv;obtain rfl:=a6.fE;obtain⟨a1,u1,rfl,aj,a9⟩:=(g1.same s2).aY;obtain⟨br,bn,rfl,bf,a7⟩:=a9.inv;obtain rfl:=bf.cV;obtain⟨bp,bl,rfl,b1,a5⟩:=a7.inv;obtain rfl:=a5.fE;have ar:=aw.same s2;have ay:=am.same s2;have S:=x1.same s2;clear e2
 have eo:decide (V.str d=V.str (Lj "open"))=b:=by
  rw[ok.so];cases b<;>rfl
 have eg:decide (V.str d=V.str (Lj "gap"))=!b:=by
  rw[ok.so];cases b<;>rfl
 have U:∀(vf:V) (H4:Hp) (ya:α),Ext fe H2 H4->Rp K H4 (T ya) vf->(ya=G q.1\/ya=Wr (G q.1))->N4 [some (.ref fe),some (.ref a),some (.str d),some (.ref a0),some (.ref a1),some vf,none] H4:=by
  intro vf H4 ya J r4 ha;have bk:=al.kt (J.kt S.2);have bi:=aj.kt (J.kt S.2);refine c4.go ?_;fail "R";intro y I;have X:=ae I (.tup [.str d,.int p.1]);have r5:=Rp.new (K:=K) (xs:=[.s d,.i p.1]) I (.cons .s (.one .i));generalize upd H4 y (.tup [.str d,.int p.1])=H5 at X r5⊢;rw[←ok.hG]at r5;fail "R";intro l D;have W:=ae D (.tup [.str "num",.int 7]);have r6:=Rp.new (K:=K) (xs:=[.s "num",.i 7]) D (.cons .s (.one .i));generalize upd H5 l (.tup [.str "num",.int 7])=H6 at W r6⊢;fail "R";intro o R;have M:=ae R (.lst [.str "num",.ref l]);have h7:upd H6 o (.lst [.str "num",.ref l]) o=some (.lst [.str "num",.ref l]):=af;generalize upd H6 o (.lst [.str "num",.ref l])=H7 at M h7⊢;fail "R";rw[eg];refine .inr ⟨_,rfl,?_⟩
  obtain⟨u,hu,ru⟩:∃u,jM [.str "num",.ref l] (if(!b)=true then 1 else 0)=some u/\Rp K H7 (T N) u:=by
   rw[ok.hN]
   cases b with
   |true=>exact⟨.str "num",bD (j:=0) rfl,.s⟩
   |false=>exact⟨.ref l,bD (j:=1) rfl,r6.same M⟩
  refine⟨_,_,_,_,rfl,rfl,bz.of h7,hu,?_⟩;fail "R";intro Y B;have L:=ae B (.lst [.ref y,u]);have h8:upd H7 Y (.lst [.ref y,u]) Y=some (.lst [.ref y,u]):=af;generalize upd H7 Y (.lst [.ref y,u])=H8 at L h8⊢;have Z:=((X.trans W).trans M).trans L;have x8:=(S.trans J).same Z;have bx:=x8.2
  have n8:Y≠fe:=fun z=>by
   obtain⟨_,_,e⟩:=(J.same ((X.trans W).trans M)).2;rw[z,e]at B
   cases B
  fail "R";intro r H9 z0 z1 x9;have h9:=x9.1 _ _ n8 h8;have aa:=x9.kt x8.2
  obtain⟨u9,bv,yb,ax,hb⟩:∃u9,jM [.ref y,u] r=some u9/\∃yb,Rp K H9 (T yb) u9/\(yb=G p.1\/yb=N):=by
   rcases(show r=0\/r=1 by omega)with rfl|rfl
   ·exact⟨.ref y,bD (j:=0) rfl,_,(r5.same ((W.trans M).trans L)).kt aa,.inl rfl⟩
   ·exact⟨u,bD (j:=1) rfl,_,(ru.same L).kt aa,.inr rfl⟩
  have ab:=(J.same Z).trans x9;have O:=ab.kt S.2;have a4:=(r4.same Z).kt aa;have bu:=al.kt O;have ai:=aj.kt O;fail "R";intro q1 ap;have t1:=ae ap (.tup [.int p.1,vf]);have e1:=Rp.new (K:=K) (xs:=[.i p.1,T ya]) ap (.cons .i (.one a4));generalize upd H9 q1 (.tup [.int p.1,vf])=J1 at t1 e1⊢;have ai:=ai.same t1;fail "R";intro q2 an;have t2:=ae an (.tup [.int q.1,u9]);have e2:=Rp.new (K:=K) (xs:=[.i q.1,T yb]) an (.cons .i (.one (ax.same t1)));generalize upd J1 q2 (.tup [.int q.1,u9])=J2 at t2 e2⊢;fail "R";intro q3 bc;have t3:=ae bc (.tup [.ref q1,.ref q2]);have ah:bN K (upd J2 q3 (.tup [.ref q1,.ref q2])) q3 [.ref q1,.ref q2]:=bN.of af;generalize upd J2 q3 (.tup [.ref q1,.ref q2])=J3 at t3 ah⊢;have ad:=(t1.trans t2).trans t3;have bt:=(ar.kt O).same ad;fail "R";intro q4 J4 t4 ag;have e4:gq (.ref a0::.ref a1::w1) (some 2) none=w1:=pW _ 2;rw[e4]at ag
  have l1:w1.length<=900:=by
   have z:=am.length;rw[bC]at z;have z2:g.length+2<=900:=be;omega
  refine⟨_,_,_,_,rfl,rfl,ah.same t4,ag,Mb (bj (by show 2+w1.length<=1000;omega)),fun q5 J5 t5 as=>?_⟩;have ac:=(ad.trans t4).trans t5;refine k _ _ ((p.1,ya)::(q.1,yb)::g) ((S.trans ab).same ac) ?_ (.inr ⟨_,_,_,_,_,rfl,rfl,ha,hb⟩);exact Rp.t as (.cons (e1.same (((t2.trans t3).trans t4).trans t5)) (.cons (e2.same ((t3.trans t4).trans t5)) ((ay.kt O).same ac)))
 fail "R";intro p3 aq;have s3:=ae aq (.tup [.str d,.int q.1]);have r3:=Rp.new (K:=K) (xs:=[.s d,.i q.1]) aq (.cons .s (.one .i));generalize upd H2 p3 (.tup [.str d,.int q.1])=H3 at s3 r3⊢;rw[←ok.hG]at r3;have x3:=S.same s3;have b0:=x3.2;fail "R";intro r H4 z0 z1 J;have r4:=r3.kt (J.kt x3.2);fail "R";refine cH (fun c=>?_) (fun c=>?_)
 rotate_left
 ·exact U _ _ _ (((Ext.refl S.2).same s3).trans J) r4 (.inl rfl)
 fail "R";intro y I;have X:=ae I (.tup [.str "num",.int 1]);have r5:=Rp.new (K:=K) (xs:=[.s "num",.i 1]) I (.cons .s (.one .i));generalize upd H4 y (.tup [.str "num",.int 1])=H5 at X r5⊢;fail "R";intro l D;have W:=ae D (.tup [.str "op",.str "+",.ref p3,.ref y]);have r6:=Rp.new (K:=K) (xs:=[.s "op",.s "+",T (G q.1),.t [.s "num",.i 1]]) D (.cons .s (.cons .s (.cons (r4.same X) (.one r5))));generalize upd H5 l (.tup [.str "op",.str "+",.ref p3,.ref y])=H6 at W r6⊢;fail "R";intro o R;have M:=ae R (.tup [.str "row",.ref p3]);have r7:=Rp.new (K:=K) (xs:=[.s "row",T (G q.1)]) R (.cons .s (.one (r4.same (X.trans W))));generalize upd H6 o (.tup [.str "row",.ref p3])=H7 at M r7⊢;fail "R";intro Y B;have L:=ae B (.lst [.ref l,.ref o]);have h8:upd H7 Y (.lst [.ref l,.ref o]) Y=some (.lst [.ref l,.ref o]):=af;generalize upd H7 Y (.lst [.ref l,.ref o])=H8 at L h8⊢;fail "R";rw[eo];refine .inr ⟨_,rfl,?_⟩
 obtain⟨u,hu,ru⟩:∃u,jM [.ref l,.ref o] (if b=true then 1 else 0)=some u/\Rp K H8 (T (Wr (G q.1))) u:=by
  rw[ok.hW]
  cases b with
  |false=>exact⟨.ref l,bD (j:=0) rfl,r6.same (M.trans L)⟩
  |true=>exact⟨.ref o,bD (j:=1) rfl,r7.same L⟩
 refine⟨_,_,_,_,rfl,rfl,bz.of h8,hu,?_⟩;exact U _ _ _ ((((Ext.refl S.2).same s3).trans J).same (((X.trans W).trans M).trans L)) ru (.inr rfl)
end
structure wN{α:Type}(gf:α->List Int) (g0 gs:List Int) (fl:List (Int×α)):Prop where
 at_:∀p∈fl,p.1∈g0
 gp:∀p∈fl,∀g∈gf p.2,g=p.1\/(g∉g0/\g∈gs)
 gn:(fl.flatMap fun p=>gf p.2).Nodup
theorem wN.nil{d:Type}{gf:d->List Int}{g0 e:List Int}:wN gf g0 e []:=⟨fun _ h=>(nomatch h),fun _ h=>(nomatch h),Qv⟩
theorem wN.snoc{t:Type}{gf:t->List Int}{g0 r u:List Int}{w:List (Int×t)}{n:Int}{a:t}(h:wN gf g0 r w)(hn:n∈g0)(nn:n∉w.map (·.1))(sub:∀x∈g0,x∈r)(B:(r++u).Nodup)(hg:(gf a).Sublist u\/gf a=[n]):wN gf g0 (r++u) (w++[(n,a)]):=by
 obtain⟨_,C,A⟩:=Me.mp B;refine⟨fun p d=>?_,fun p d g l=>?_,?_⟩
 ·rcases Li.mp d with z|z
  ·exact h.at_ p z
  ·rw[nt.mp z];exact hn
 ·rcases Li.mp d with z|z
  ·rcases h.gp p z g l with e|⟨e1,e2⟩
   ·exact .inl e
   ·exact .inr ⟨e1,LD _ e2⟩
  ·obtain rfl:=nt.mp z;rcases hg with hg|hg
   ·have m:=hg.subset l;exact .inr ⟨fun q=>A g (sub g q) g m rfl,FT _ m⟩
   ·have j:g∈gf a:=l;rw[hg]at j;exact .inl (nt.mp j)
 ·rw[Ma,show([(n,a)].flatMap fun p=>gf p.2)=gf a by simp];refine Me.mpr ⟨h.gn,?_,fun x o y v e=>?_⟩
  ·rcases hg with hg|hg
   ·exact hg.nodup C
   ·rw[hg];exact Mp.mpr ⟨fun z=>(nomatch z),Qv⟩
  ·subst e;obtain⟨p,d,o⟩:=Nl.mp o;rcases hg with hg|hg
   ·have m:=hg.subset v;rcases h.gp p d x o with e|⟨_,e2⟩
    ·exact A x (sub x (e▸h.at_ p d)) x m rfl
    ·exact A x e2 x m rfl
   ·rw[hg]at v;obtain rfl:=nt.mp v;rcases h.gp p d x o with e|⟨e1,_⟩
    ·exact nn (e▸LC d)
    ·exact e1 hn
structure HZ{α:Type}(gf:α->List Int) (g0:List Int) (fl:List (Int×α)):Prop where
 at_:∀p∈fl,p.1∈g0
 nd:(fl.map (·.1)).Nodup
 gp:∀p∈fl,∀g∈gf p.2,g∈fl.map (·.1)\/g∉g0
 gn:(fl.flatMap fun p=>gf p.2).Nodup
theorem wN.fi{j:Type}{gf:j->List Int}{g0 q:List Int}{d:List (Int×j)}(h:wN gf g0 q d)(m:(d.map (·.1)).Nodup):HZ gf g0 d:=⟨h.at_,m,fun p l g o=>(h.gp p l g o).elim (fun e=>.inl (e▸LC l)) (fun e=>.inr e.1),h.gn⟩
theorem wN.Ia{j:Type}{gf:j->List Int}{g0 M:List Int}{o d:List (Int×j)}{G:Int->j}{E:j->j}{N:j}(h:wN gf g0 M o)(m:(o.map (·.1)).Nodup)(e:Cv G E N o d)(w:∀n,gf (G n)=[n])(J:∀x,gf (E x)=gf x)(L:gf N=[]):HZ gf g0 d/\d.length=o.length:=by
 rcases e with rfl|⟨p,q,rest,a,b,rfl,rfl,ha,hb⟩
 ·exact⟨h.fi m,rfl⟩
 have ga:gf a=[q.1]:=by
  rcases ha with rfl|rfl
  ·exact w _
  ·rw[J];exact w _
 have gb:gf b=[p.1]\/gf b=[]:=by
  rcases hb with rfl|rfl
  ·exact .inl (w _)
  ·exact .inr L
 have hr:∀r∈rest,r∈p::q::rest:=fun r hr=>.tail _ (.tail _ hr);have B:p.1∈g0:=h.at_ p (.head _);have A:q.1∈g0:=h.at_ q (.tail _ (.head _));rw[Lh,Lh]at m;obtain⟨D,P⟩:=Mp.mp m;obtain⟨O,Q⟩:=Mp.mp P
 have l:∀x,x∈g0->x∉rest.map (·.1)->x∉rest.flatMap fun p=>gf p.2:=fun x H I z=>by
  obtain⟨r,hr1,t⟩:=Nl.mp z;rcases h.gp r (hr r hr1) x t with e|⟨e1,_⟩
  ·exact I (e▸LC hr1)
  ·exact e1 H
 refine⟨⟨fun r hr1=>?_,m,fun r hr1 g v=>?_,?_⟩,rfl⟩
 ·rcases ri.mp hr1 with rfl|hr1
  ·exact B
  rcases ri.mp hr1 with rfl|hr1
  ·exact A
  exact h.at_ r (hr r hr1)
 ·rcases ri.mp hr1 with rfl|hr1
  ·have:g∈gf a:=v;rw[ga]at this;rw[nt.mp this];exact .inl (.tail _ (.head _))
  rcases ri.mp hr1 with rfl|hr1
  ·have z:g∈gf b:=v;rcases gb with gb|gb<;>rw[gb]at z
   ·rw[nt.mp z];exact .inl (.head _)
   ·cases z
  rcases h.gp r (hr r hr1) g v with e|⟨e,_⟩
  ·exact .inl (.tail _ (.tail _ (e▸LC hr1)))
  ·exact .inr e
 ·have C:(rest.flatMap fun p=>gf p.2).Nodup:=by
   have:=h.gn;rw[LN,LN]at this;exact(Me.mp (Me.mp this).2.1).2.1
  have y:=l q.1 A O;have op:=l p.1 B (fun z=>D (.tail _ z));have u:q.1≠p.1:=fun e=>D (e▸.head _);rw[LN,LN];show(gf a++(gf b++_)).Nodup;rw[ga];rcases gb with gb|gb<;>rw[gb]
  ·exact Mp.mpr ⟨fun z=>(ri.mp z).elim u y,Mp.mpr ⟨op,C⟩⟩
  ·exact Mp.mpr ⟨y,C⟩
theorem HZ.ok{g:Type}{gf:g->List Int}{okA:g->Prop}{g0:List Int}{d:List (Int×g)}(h:HZ gf g0 d)(m:g0.Nodup)(len:d.length<=8)(l:g0.length<=900)(ok:∀p∈d,okA p.2/\(gf p.2).length<=50):wJ gf okA g0 d:=by
 refine⟨len,l,ok,h.at_,h.nd,Me.mpr ⟨Sl.sublist List.filter_sublist m,h.gn,fun x r y q e=>?_⟩⟩;subst e;obtain⟨o,j⟩:=PK.mp r;obtain⟨p,t,u⟩:=Nl.mp q;rcases h.gp p t x u with z|z
 ·rw[decide_eq_true z]at j;cases j
 ·exact z o
theorem Cy{d:Type}{L:List d}{k:Nat}{n:d}(h:L[k]?=some n):L.Perm (n::L.eraseIdx k):=by
 have g:=(ko.mp h);rw[Mn];have e:L=L.take k++n::L.drop (k+1):=by rw[←uT h,O8]
 conv=>lhs;rw[e]
 exact List.perm_middle
theorem Cz{d e:Type}{f:d->e}{L:List d}{M:List e}{k:Nat}{n:d}(h:L[k]?=some n)(l:(L.map f++M).Nodup):((L.eraseIdx k).map f++(M++[f n])).Nodup:=by
 have j:=((Cy h).map f).append_right M
 have g:(f n::((L.eraseIdx k).map f++M)).Perm ((L.eraseIdx k).map f++(M++[f n])):=by
  rw[←LM];exact(List.perm_append_singleton _ _).symm
 exact(j.trans g).nodup l
noncomputable def Un(xs:List Str):Prop:=∀(i j:Nat) (x:Str),xs[i]?=some x->xs[j]?=some x->i=j
noncomputable def lets:List Nat:=(Lj "abcdefghijklmnopqrstuvwxyz").cps.toList
theorem Eg:∀i<26,∀j<26,lets[i]?=lets[j]?->i=j:=by decide +kernel
theorem CA:lets.length=26:=by decide +kernel
noncomputable def sC(pre:List Nat)(d:Int)(i:Nat)(x:Str):Prop:=∃c r,jM lets ((d+7*(i:Int)) % 26)=some c/\x.cps.toList=pre++c::r
theorem sC.un{pre:List Nat}{d:Int}{i j:Nat}{x:Str}(hi:i<26)(v:j<26)(a:sC pre d i x)(b:sC pre d j x):i=j:=by
 obtain⟨c,r,o,p⟩:=a;obtain⟨y,u,m,l⟩:=b;rw[p]at l;have e:=List.append_cancel_left l;injection e with e _;subst e
 have f:∀n:Int,0<=n->n<26->jM lets n=lets[n.toNat]?:=fun n w h=>by
  have g:n.toNat<lets.length:=by rw[CA];omega
  have t:n=((n.toNat:Nat):Int):=by omega
  have q:jM lets ((n.toNat:Nat):Int)=some lets[n.toNat]:=bD (m3 g);rw[←t]at q;rw[q,m3 g]
 rw[f _ (by omega) (by omega)]at o m;have:=Eg _ (by omega) _ (by omega) (o.trans m.symm);omega
theorem sC.snoc{pre:List Nat}{d:Int}{i:Nat}{x:Str}(a:sC pre d i x)(y:Str):sC pre d i (x++y):=by
 obtain⟨c,r,g,e⟩:=a;refine⟨c,r++y.cps.toList,g,?_⟩;show(x.cps++y.cps).toList=_;rw[P5,e];simp
theorem sC.KY{pre:List Nat}{d:Int}{xs:List Str}(l:xs.length<=26)(h:∀j x,xs[j]?=some x->sC pre d j x):Un xs:=fun i j x g e=>by
 have:=(ko.mp g).1;have:=(ko.mp e).1;exact sC.un (by omega) (by omega) (h i x g) (h j x e)
theorem sC.last{pre:List Nat}{d:Int}{xs:List Str}{x2 q y:Str}(B:(xs++[x2,q]).length<=26)(E:0<y.length)(h:∀j x,(xs++[x2,q])[j]?=some x->sC pre d j x):Un (xs++[x2,x2++y]):=by
 have A:xs.length+2<=26:=by simpa using B
 have D:sC pre d xs.length x2:=h xs.length x2 (by simp);have r:sC pre d xs.length (x2++y):=D.snoc y
 have ne:x2++y≠x2:=fun z=>by
  have:=congrArg Qm z;rw[Pp]at this;omega
 have g:∀j x,j<xs.length+1->(xs++[x2,x2++y])[j]?=some x->sC pre d j x:=fun j x G e=>by
  refine h j x ?_
  by_cases c:j<xs.length
  ·rw[LR c]at e⊢;exact e
  ·have:j=xs.length:=by omega
   subst this;simp at e⊢;exact e
 intro i j x m l;have w:=(ko.mp m).1;have v:=(ko.mp l).1;have u:(xs++[x2,x2++y]).length=xs.length+2:=by simp
 rw[u]at w v
 have lst:∀k x,k=xs.length+1->(xs++[x2,x2++y])[k]?=some x->x=x2++y:=fun k x C e=>by
  subst C;rw[LJ (by omega)]at e;simp at e;exact e.symm
 by_cases t:i<xs.length+1
 ·by_cases p:j<xs.length+1
  ·exact sC.un (by omega) (by omega) (g i x t m) (g j x p l)
  ·have o:=lst j x (by omega) l;subst o;have:=sC.un (by omega) (by omega) (g i _ t m) r;subst this;exact absurd (by simpa using m) ne.symm
 ·by_cases p:j<xs.length+1
  ·have o:=lst i x (by omega) m;subst o;have:=sC.un (by omega) (by omega) (g j _ p l) r;subst this;exact absurd (by simpa using l) ne.symm
  ·omega
noncomputable def Lo(x:Str):Prop:=∀c∈x.cps.toList,c<1000
theorem Lo.append{x y:Str}(a:Lo x)(b:Lo y):Lo (x++y):=fun c h=>by
 have d:c∈(x.cps++y.cps).toList:=h;rw[P5]at d;rcases Li.mp d with h|h
 ·exact a c h
 ·exact b c h
theorem Lo.slice{x:Str}(a:Lo x)(l u:Option Int):Lo (MX x l u):=fun c h=>by
 unfold MX at h
 split at h
 ·exact a c h
 ·rw[List.toList_toArray]at h;obtain⟨i,_,e⟩:=Qh.mp h;refine a c ?_;rw[Array.mem_toList_iff];exact Array.mem_of_getElem? e
theorem zA:∀c∈lets,c<1000:=by decide +kernel
theorem Lo.one{c:Nat}(h:c∈lets):Lo ⟨#[c]⟩:=fun d hd=>by
 have:d=c:=by simpa using hd
 rw[this];exact zA c h
theorem Lo.q(b:Bool):Lo (QN "q" (if b then 1 else 0)):=by
 have h:∀b:Bool,((QN "q" (if b then 1 else 0)).cps.toList.all (· < 1000))=true:=by decide +kernel
 intro c d;have:=MG.mp (h b) c d
 simpa using this
theorem Lo.q1:Lo (Lj "q"):=by
 have h:((Lj "q").cps.toList.all (· < 1000))=true:=by decide +kernel
 intro c d;have:=MG.mp h c d
 simpa using this
noncomputable def zB:Sp:=fun g H Q _=>∃(f:Addr) (m:Nat),g=[.ref f,.int m]/\1<=m/\m<=26/\cE H f /\
 ∀(r:Addr) (e:Hp) (d:List Str),Ext f H e->H r=none->e r=some (.lst (d.map V.str))->d.length=m->(∀x∈d,x.length<=20/\Lo x)->Un d->Q (.ref r) e
theorem Ext.free{f:Addr}{H d:Hp}(e:Ext f H d){l:Addr}(h:d l=none):H l=none:=by
 cases q:H l with
 |none=>rfl
 |some o =>
  by_cases n:l=f
  ·subst n;obtain⟨a,b,z⟩:=e.2;rw[h]at z;cases z
  ·rw[e.1 l o n q]at h;cases h
theorem pX:∀xs:List Str,(xs.map V.str).all lJ=true
 | []=>rfl
 |y::r=>by rw[Lh,Pn,pX r];rfl
theorem qF{f:Addr}{H:Hp}{xs:List Str}{l:Addr}(d:cE H f)(h:H l=some (.lst (xs.map V.str))):l≠f:=fun z=>by
 obtain⟨p,q,e⟩:=d;rw[←z,h]at e;injection e with e;injection e with e
 cases xs with
 |nil=>cases e
 |cons y ys=>rw[Lh]at e;injection e with e;cases e
theorem bX{f:Addr}{H:Hp}{l:Addr}(d:cE H f)(h:H l=none):l≠f:=fun z=>by
 obtain⟨p,q,e⟩:=d;rw[←z,h]at e
 cases e
noncomputable def fW(K:bA)(n:Nat):Sp:=fun j H Q _=>∃(f l:Addr) (d:Int) (e:List Str),j=[.ref f,.ref l,.int d]/\cE H f/\H l=some (.lst (e.map V.str))/\e.length<=100/\0<=d/\d<n /\
 ∀(v:V) (g:Hp) (k:Kk),Ext f H g->Rp K g (bW k) v->k.ok e->k.dep<=d.toNat->Q v g
section
variable {P:FG}{w:Lk}{K:bA}{mg:Str->Option j3}{base:Heap}{gT gA:Addr}{tfd afd:zo}
theorem b8:Nm ["_law_feed_here","_law_known","_law_down","_law_form"] (aj fq):=by decide +kernel
theorem sO:Lm ["_law_feed_here","_law_known","_law_down","_law_form"] (aj fq):=by decide +kernel
theorem nD:aI ["_law_feed_here","_law_known","_law_down","_law_form"] ["_law_feed_here","_law_known","_law_down"] (aj fq):=⟨rfl,rfl,rfl,by decide +kernel,rfl,by decide +kernel,by decide +kernel⟩
theorem wO{f:Addr}{O:zo}{n j:Nat}(hj:1<=j)(F:gX K "_law_any_kind" "_law_any_kind" fq f O)(R:bY P w K mg base "_law_take" 1 ["_law_feed_here","_law_many"] eJ gT tfd)(AK:bY P w K mg base "_law_any_kind" j ["_law_feed_here","_law_known","_law_down"] (fW K n) gA afd)(z_len:mg "len"=none):bK P w K mg base eL (j+1) f O ["_law_feed_here","_law_known","_law_down"] (fW K (n+1)):=by
 refine F.ok nD (fun U H Q E h=>?_) (fun ag A y s H U Q E hr h=>?_)
 ·obtain⟨_,_,_,_,rfl,_⟩:=h;rfl
 obtain⟨N,l,d,xs,rfl,hf,L,hx,ab,hd,k⟩:=h;refine⟨_,(Z6 (Z2 nD.nd sO 3 (Z0 R (cT (va b8 0) (Zb ao)))) (Z6 (Zd (PW.pt (@gY _ _ _ _ _ _ _ (Zq bJ (va b8 3) ao) (@gm _ _ _ _ (Zq nu (va b8 2) ao)))) (Zg (Zn (Ze (Z1 az (Z1 (Z0 AK (Z1 (va b8 0) (Z1 (va b8 1) (Z1 (aX bL (va b8 2) ao) ak)))) ak)))))) (Z6 (Zd (PW.pt (@gY _ _ _ _ _ _ _ (Zq nu (va b8 3) ao) (@gm _ _ _ _ (Zf nu (Z5 aB (Zb (va b8 1))) ao)))) (Zg (Zn (Ze (Z1 az (Z1 (Zl aW (va b8 1) (Z0 R (Z1 (va b8 0) (Z1 (Z5 aB (Zb (va b8 1))) ak)))) ak)))))) (cg (cB az))))),?_⟩
 try dsimp only[bM]
 try dsimp only[bM]
 refine mz ?_;intro N1 N2 N3 c1 o D;fail "R";intro M S ad ac p;have q:=p.1 _ _ (qF hf L) L;have C:=p.2
 have e:N3 [some (.ref N),some (.ref l),some (.int d),some (.int M)] S:=by
  fail "R";exact k _ _ .num p .s True.intro (Ld _)
 have m:N2 [some (.ref N),some (.ref l),some (.int d),some (.int M)] S:=by
  clear D;fail "R";refine cH (fun c=>?_) (fun c=>?_)
  ·fail "R";refine cH (fun o=>?_) (fun o=>?_)
   ·have ah:(0:Int)<((xs.map V.str).length:Int):=of_decide_eq_true o;have Z:((xs.map V.str).length:Int)<1073741824:=by rw[bC];omega
    fail "R";intro r5 H5 v u I;have h5:=I.1 _ _ (qF C q) q;obtain⟨v5,aa,B⟩:=mj (xs:=xs.map V.str) v u;obtain⟨G,z,rfl⟩:=L8.mp B;fail "R";intro X g;have r:=ae g (.tup [.str "kind",.str G]);exact k _ _ (.kd G) (p.trans (I.same r)) (Rp.t (bN.of af) (.cons .s (.one .s))) z (Ld _)
   ·fail "R";exact e
  ·fail "R";exact e
 clear D o;fail "R";refine cH (fun c=>?_) (fun c=>?_)
 ·fail "R";refine cH (fun o=>?_) (fun o=>?_)
  ·have D:(0:Int)<d:=of_decide_eq_true o;fail "R";intro W H3 J T r3 Y d3;fail "R";intro X g;have r:=ae g (.tup [.str "row",W]);exact k _ _ (.row J) (p.trans (T.same r)) (Rp.new (K:=K) g (.cons .s (.one r3))) Y (by show J.dep+1<=_;omega)
  ·fail "R";exact m
 ·fail "R";exact m
end
noncomputable def nR(t:Str×List Kk):T:=.t [.s t.1,.t (t.2.map bW)]
noncomputable def Eh(k:Str×List (Str×List Kk)):T:=.t [.s k.1,.t (k.2.map nR)]
noncomputable def fR(d:List (Str×List (Str×List Kk))):T:=.t (d.map Eh)
noncomputable def sQ(d:List (Str×List (Str×List Kk))):List Str:=d.flatMap fun k=>k.2.map (·.1)
noncomputable def Ib(xs:List Str)(t:Str×List Kk):Prop:=t.2.length<=2/\∀c∈t.2,c.ok xs/\c.dep<=2
structure CB(xs ts:List Str) (kl:List (Str×List (Str×List Kk))):Prop where
 nm:kl.map (·.1)=xs.take kl.length
 tg:sQ kl=ts.take (sQ kl).length
 pt:∀i k,kl[i]?=some k->1<=k.2.length/\k.2.length<=3/\∀t∈k.2,Ib (xs.take i) t
noncomputable def zC(K:bA):Sp:=fun m H Q _=>∃(f l lt:Addr) (d e:List Str),m=[.ref f,.ref l,.ref lt]/\cE H f/\H l=some (.lst (d.map V.str))/\H lt=some (.lst (e.map V.str))/\d.length=3/\e.length=9 /\
 ∀(v:V) (j:Hp) (g:List (Str×List (Str×List Kk))),Ext f H j->CB d e g->g.length<=3->Rp K j (fR g) v->Q v j
structure KO(K:bA) (f lf:Addr) (xs ts:List Str) (H:Hp) (i:Nat) (at_:Int) (H':Hp):Prop where
 x:∃(kl:List (Str×List (Str×List Kk))) (vs:List V),bH [] f H H'/\H' lf=some (.lst vs)/\bI K H' (kl.map Eh) vs/\kl.length=i/\CB xs ts kl/\at_=(sQ kl).length/\(sQ kl).length<=3*i
structure KJ(K:bA) (f lo:Addr) (xs ts:List Str) (H:Hp) (i uG j:Nat) (at_:Int) (H':Hp):Prop where
 x:∃(own:List (Str×List Kk)) (us:List V),bH [lo] f H H'/\H' lo=some (.lst us)/\bI K H' (own.map nR) us/\own.length=j/\own.map (·.1)=(ts.drop uG).take j/\(∀t∈own,Ib (xs.take i) t)/\at_=uG+j
structure KP(K:bA) (f:Addr) (xs:List Str) (H:Hp) (i:Nat) (us:List V) (H':Hp):Prop where
 x:∃(ps:List Kk),bH [] f H H'/\bI K H' (ps.map bW) us/\ps.length=i/\∀c∈ps,c.ok xs/\c.dep<=2
section
variable {P:FG}{w:Lk}{K:bA}{mg:Str->Option j3}{base:Heap}{gT gA:Addr}{tfd afd:zo}
theorem cJ:Nm ["_law_feed_here","_law_names_here","_law_tags","_law_found","_law_at","_law_k","_law_own","_law_j","_law_parts_here"] (aj jb):=by decide +kernel
theorem fS:Lm ["_law_feed_here","_law_names_here","_law_tags","_law_found","_law_at","_law_k","_law_own","_law_j","_law_parts_here"] (aj jb):=by decide +kernel
theorem eR:aI ["_law_feed_here","_law_names_here","_law_tags","_law_found","_law_at","_law_k","_law_own","_law_j","_law_parts_here"] ["_law_feed_here","_law_names_here","_law_tags"] (aj jb):=⟨rfl,rfl,rfl,by decide +kernel,rfl,by decide +kernel,by decide +kernel⟩
theorem CC{f:Addr}{fd:zo}{j:Nat}(hj:1<=j)(F:gX K "_law_kinds" "_law_kinds" jb f fd)(TK:bY P w K mg base "_law_take" 1 ["_law_feed_here","_law_many"] eJ gT tfd)(AK:bY P w K mg base "_law_any_kind" j ["_law_feed_here","_law_known","_law_down"] (fW K 3) gA afd)(z_range:mg "range"=none)(o:mg "tuple"=none):bK P w K mg base eL (j+1) f fd ["_law_feed_here","_law_names_here","_law_tags"] (zC K):=by
 refine F.ok eR (fun vs H Q E h=>?_) (fun bs A au s H vs Q E hr h=>?_)
 ·obtain⟨_,_,_,_,_,rfl,_⟩:=h;rfl
 obtain⟨Z,ln,lt,xs,M,rfl,hf,hn,ht,hx,bn,k⟩:=h;refine⟨_,(Z6 (sa eR.nd fS 3 (bg ak)) (Z6 (sa eR.nd fS 4 ao) (Z6 (Zj (Zp (Z1 (Z0 TK (cT (va cJ 0) (Zb ao))) ak)) (ga eR.nd fS 5) (Z6 (sa eR.nd fS 6 (bg ak)) (Z6 (Zj (Zp (Z1 (Zm cR ao (Z0 TK (cT (va cJ 0) (Zb ao)))) ak)) (ga eR.nd fS 7) (Z6 (Zi (aj jb) ["_law_feed_here","_law_names_here","_law_tags","_law_found","_law_at","_law_k","_law_own","_law_j","_law_parts_here"] ["_law_i"] [0,1,5] (Zp (Z1 (Z0 TK (cT (va cJ 0) (Zb ao))) ak)) (fun _ _ _ _=>(Z3 (i:=0) (show(["_law_i","_law_feed_here","_law_names_here","_law_k"]:List Str).Nodup by decide +kernel))) (fun _ _ _ _=>dW) (fun _ _ _ _=>(Z0 AK (Z1 (va (show Nm ["_law_i","_law_feed_here","_law_names_here","_law_k"] _ by show _=_;kernel_rfl) 1) (Z1 (@cK _ _ _ _ _ _ _ _ _ _ (By K rfl) (va (show Nm ["_law_i","_law_feed_here","_law_names_here","_law_k"] _ by show _=_;kernel_rfl) 2) dQ (cy (va (show Nm ["_law_i","_law_feed_here","_law_names_here","_law_k"] _ by show _=_;kernel_rfl) 3))) (Zb ao))))) (ga eR.nd fS 8)) (Z6 (@cu _ _ _ _ (Z7 Ll Ln cz (va cJ 6) (Z1 (Ze (Z1 (iO aW (va cJ 2) (va cJ 4) (fun _ _=>rfl)) (Z1 (Z4 aH o Le (Zb (va cJ 8))) ak))) ak)) (by rfl)) (Zg (Z2 eR.nd fS 4 (aX cR (va cJ 4) ao)))))) (Zg (@cu _ _ _ _ (Z7 Ll Ln cz (va cJ 3) (Z1 (Ze (Z1 (iO aW (va cJ 1) (va cJ 5) (fun _ _=>rfl)) (Z1 (Z4 aH o Le (Zb (va cJ 6))) ak))) ak)) (by rfl)))))) (Zg (Zn (Z4 aH o Le (Zb (va cJ 3)))))))),?_⟩
 try dsimp only[bM]
 try dsimp only[bM]
 fail "R";intro lf Y;have s1:=ae Y (.lst []);have h1:upd H lf (.lst []) lf=some (.lst []):=af;generalize upd H lf (.lst [])=H1 at s1 h1⊢;have f1:bH [] Z H H1:=(bH.refl hf).same s1;have br:=f1.ff;fail "R";intro m H2 m0 m1 x2;have f2:=f1.ext x2;have h2:=x2.1 _ _ (bX hf Y) h1;have ah:=bX hf Y;have q:=qF hf hn;have O:=qF hf ht;fail "R";refine fU (n:=m.toNat) (fun i L H3=>(∃(at_:Int) (y5 y6 y7 y8:Option V),L=[some (.ref Z),some (.ref ln),some (.ref lt),some (.ref lf),some (.int at_),y5,y6,y7,y8]/\KO K Z lf xs M H i at_ H3)) ⟨0,_,_,_,_,rfl,⟨[],[],f2,h2,.nil,rfl,⟨rfl,rfl,fun i k h=>by cases h⟩,rfl,Ld _⟩⟩ ?_ ?_
 ·rintro i L H3 hi ⟨at_,_,_,_,_,rfl,⟨kl,vs,T,h3,r3,lk,ok,ha,a6⟩⟩;have a3:=T.ff;fail "R";intro X J;have s4:=ae J (.lst []);have h4:upd H3 X (.lst []) X=some (.lst []):=af;generalize upd H3 X (.lst [])=H4 at s4 h4⊢;have f4:=T.same s4;have a2:=f4.ff;fail "R";intro m5 H5 bi bh x5;have f5:=f4.ext x5;have W:=bX a3 J;have ag:lf≠X:=aq h3 J;have h5:=x5.1 _ _ W h4;have a8:=x5.1 _ _ ah (s4 _ _ h3);have r5:=(r3.same s4).kt (x5.kt a2);fail "R";refine fU (n:=(1+m5).toNat) (fun j L H6=>(∃(at_:Int) (y7 y8:Option V),L=[some (.ref Z),some (.ref ln),some (.ref lt),some (.ref lf),some (.int at_),some (.int (0+(i:Int))),some (.ref X),y7,y8]/\KJ K Z X xs M H5 i (sQ kl).length j at_ H6)) ⟨at_,_,_,rfl,⟨[],[],bH.refl f5.ff,h5,.nil,rfl,rfl,fun t h=>(nomatch h),by omega⟩⟩ ?_ ?_
  ·rintro j L H6 hj ⟨d,_,_,rfl,⟨own,U,f6,h6,r6,al,ac,ad,a5⟩⟩;have a1:=f6.ff;fail "R";intro m7 H7 bf be x7;have f7:=f6.ext x7;fail "R";refine k7 (n:=m7.toNat) (fun i7 L U H8=>(∃y,L=[y,some (.ref Z),some (.ref ln),some (.int (0+(i:Int)))])/\KP K Z (xs.take i) H7 i7 U H8) ⟨⟨_,rfl⟩,⟨[],bH.refl x7.2,.nil,rfl,fun c h=>by cases h⟩⟩ ?_ (small (by omega)) ?_ ?_
   ·rintro i7 L U H8 h ⟨_,⟨ps,_,r,e,_⟩⟩;rw[r.length,bC,e];exact lj _
   ·rintro i7 L us7 H8 hi7 ⟨⟨_,rfl⟩,⟨ps,f8,r8,l8,o8⟩⟩;have bo:H8 ln=some (.lst (xs.map V.str)):=f8.rO q (f7.fF (aq (T.rO q hn) J) q (x5.1 _ _ q (s4 _ _ (T.rO q hn))));have bq:=f8.ff;have e0:gq (xs.map V.str) none (some (0+(i:Int)))=(xs.take i).map V.str:=by rw[RI,jc,M0]
    fail "R";intro l9 ay;rw[e0];have s9:=ae ay (.lst ((xs.take i).map V.str));have h9:upd H8 l9 (.lst ((xs.take i).map V.str)) l9=some (.lst ((xs.take i).map V.str)):=af;generalize upd H8 l9 (.lst ((xs.take i).map V.str))=H9 at s9 h9⊢;have f9:=f8.same s9;have a0:=f9.ff;have bk:(xs.take i).length<=100:=by rw[Lb];omega
    fail "R";intro bc ab ax am D aw ba;fail "R";exact⟨ps++[ax],f9.ext am,by rw[nq];exact((r8.same s9).kt (am.kt a0)).snoc D,by rw[lu,l8];rfl,fun c hc=>(Li.mp hc).elim (o8 c) (fun h=>by rw[nt.mp h];exact⟨aw,ba⟩)⟩
   ·rintro L us7 H8 ⟨⟨_,rfl⟩,⟨ps,f8,r8,l8,o8⟩⟩ p9 hp9;have s9:=ae hp9 (.lst us7);have h9:upd H8 p9 (.lst us7) p9=some (.lst us7):=af;have r9:=r8.same s9;generalize upd H8 p9 (.lst us7)=H9 at s9 h9 r9⊢;have f9:=f8.same s9;have an:H9 X=some (.lst U):=f9.rO W (x7.1 _ _ W h6);have bm:U.length<nk:=bj (by rw[r6.length,bC];omega);have bb:H9 lt=some (.lst (M.map V.str)):=f9.rO O (f7.fF (aq (T.rO O ht) J) O (x5.1 _ _ O (s4 _ _ (T.rO O ht))));have a4:d.toNat<M.length:=by omega
    have ar:jM (M.map V.str) d=some (.str M[d.toNat]):=by
     have:=bD (xs:=M.map V.str) (j:=d.toNat) (v:=.str M[d.toNat]) (by rw[rz,m3 a4];rfl);rw[show((d.toNat:Nat):Int)=d by omega]at this;exact this
    fail "R";refine .inl ⟨bz.of h9,fun B g=>?_⟩;have p:=ae g (.tup us7);have D:=Rp.new (K:=K) g r9;have R:=p _ _ an;generalize upd H9 B (.tup us7)=ab at p D R⊢;fail "R";intro G C;have u:=ae C (.tup [.str M[d.toNat],.ref B]);have N:=Rp.new (K:=K) (xs:=[.s M[d.toNat],.t (ps.map bW)]) C (.cons .s (.one D));have I:=u _ _ R;generalize upd ab G (.tup [.str M[d.toNat],.ref B])=H11 at u N I⊢;have aa:=(f9.same p).same u;have a9:bH [X] Z H5 H11:=f7.trans aa.more;have S:=Kt.lst (l:=X) I (.lst (U++[.ref G]));fail "R";refine⟨own++[(M[d.toNat],ps)],U++[.ref G],a9.upd (nt.mpr rfl) W I,af,?_,by rw[lu,al];rfl,?_,fun t hm=>(Li.mp hm).elim (ad t) (fun h=>by rw[nt.mp h];exact⟨by show ps.length<=2;omega,o8⟩),by omega⟩
    ·rw[nq];exact(((r6.kt (x7.kt a1)).kt aa.kt).kt S).snoc (N.kt S)
    ·rw[nq,ac,Lc (by rw[Nk];omega),List.getElem_drop];have ei:d.toNat=(sQ kl).length+j:=by omega
     simp only[ei];rfl
  ·rintro L H6 ⟨d,_,_,rfl,⟨own,U,f6,h6,r6,al,ac,ad,a5⟩⟩;have a7:=f6.fF ag ah a8;have as:=r5.kt f6.kt;have bp:H6 ln=some (.lst (xs.map V.str)):=f6.fF (aq (T.rO q hn) J) q (x5.1 _ _ q (s4 _ _ (T.rO q hn)));have bl:vs.length<nk:=bj (by rw[r3.length,bC];omega);have ap:i<xs.length:=by omega
   have ar:jM (xs.map V.str) (0+(i:Int))=some (.str xs[i]):=by
    rw[RI];exact bD (by rw[rz,m3 ap];rfl)
   fail "R";refine .inl ⟨bz.of h6,fun B g=>?_⟩;have p:=ae g (.tup U);have D:=Rp.new (K:=K) g r6;have R:=p _ _ a7;generalize upd H6 B (.tup U)=ab at p D R⊢;fail "R";intro G C;have u:=ae C (.tup [.str xs[i],.ref B]);have N:=Rp.new (K:=K) (xs:=[.s xs[i],.t (own.map nR)]) C (.cons .s (.one D));have I:=u _ _ R;generalize upd ab G (.tup [.str xs[i],.ref B])=H11 at u N I⊢;have aa:bH [] Z H H11:=((f5.more.trans f6).drop (T.free J (fun z=>nomatch z))).same (p.trans u)
   have S:=Kt.lst (l:=lf) I (.lst (vs++[.ref G]));fail "R"
   have et:sQ (kl++[(xs[i],own)])=sQ kl++own.map (·.1):=by
    unfold sQ;rw[Ma];simp
   have ai:(own.map (·.1)).length=own.length:=bC _;refine⟨kl++[(xs[i],own)],vs++[.ref G],aa.yk Y ah I,af,?_,by rw[lu,lk];rfl,⟨?_,?_,?_⟩,?_,?_⟩
   ·rw[nq];exact((as.same (p.trans u)).kt S).snoc (N.kt S)
   ·rw[nq,ok.nm,lu,lk,show [(xs[i],own)].length=1 from rfl,Lc ap];rfl
   ·rw[et,lu,ai,ac,ok.tg,Lb,Nz (by omega)]
    conv=>lhs;rw[al.symm]
    rw[List.take_add]
   ·intro i' k' e'
    by_cases c:i' < kl.length
    ·rw[LR c]at e';exact ok.pt i' k' e'
    ·rw[LJ (by omega)]at e'
     have:i'=i:=by
      have:=(ko.mp e').1;have:[(xs[i],own)].length=1:=rfl;omega
     subst this;rw[lk,SJ]at e'
     cases e'
     exact⟨by show 1<=own.length;omega,by show own.length<=3;omega,ad⟩
   ·rw[et,lu,ai];omega
   ·rw[et,lu,ai];omega
 ·rintro L H3 ⟨at_,_,_,_,_,rfl,⟨kl,vs,T,h3,r3,lk,ok,ha,a6⟩⟩;fail "R";refine .inl ⟨bz.of h3,fun B g=>?_⟩;have p:=ae g (.tup vs);exact k _ _ kl (T.same p).ex ok (by omega) (Rp.new (K:=K) g r3)
end
noncomputable abbrev Kl:=List (Str×List (Str×List Kk))
noncomputable def kn(d:Kl):List Str:=d.map (·.1)
structure eM where
 kd:Addr
 ld:Addr
 ln:Addr
 lg:Addr
 la:Addr
 lc:Addr
 lp:Addr
 mo:Int
 tn:Int
 x1:Addr
 x2:Addr
 ex:List (Key×V)
 kb:Nat
 pb:Nat
noncomputable def eM.nn(S:eM)(f:Addr):List Addr:=[f,S.lg,S.ld,S.x1,S.x2]
noncomputable def iJ(S:eM):List (Key×V):=[(.inr "kinds",.ref S.kd),(.inr "defs",.ref S.ld),(.inr "names",.ref S.ln),(.inr "gaps",.ref S.lg),(.inr "most",.int S.mo),(.inr "asked",.ref S.la),(.inr "turn",.int S.tn),(.inr "called",.ref S.lc),(.inr "params",.ref S.lp)]++S.ex
noncomputable abbrev ky(x:Str):Key:=Sum.inr x
noncomputable def AJ(K:bA)(H:Hp)(nn:List Addr)(d:Str×List Kk×Kk)(v:V):Prop:=∃(a l:Addr) (g:V) (e:List V),v=.ref a/\bN K H a [.str d.1,.ref l,g]/\H l=some (.lst e)/\bI K H (d.2.1.map bW) e/\Rp K H (bW d.2.2) g/\l∉nn
noncomputable def cW(K:bA)(H:Hp)(nn:List Addr):List (Str×List Kk×Kk)->List V->Prop
 | [],vs=>vs=[]
 |d::r,vs=>∃v e,vs=v::e/\AJ K H nn d v/\cW K H nn r e
noncomputable def Wd(x:Str):Prop:=x.length<=20/\Lo x
noncomputable def yr(ns:List Str)(e:List (Str×List Kk×Kk)):Prop:=e.length<=8/\∀d∈e,d.2.1.length<=3/\(∀k∈d.2.1,k.ok ns/\k.dep<=2)/\d.2.2.ok ns/\d.2.2.dep<=2/\Wd d.1
noncomputable def rT(tn:Int)(k:Nat):Int:=if tn=0 then 7*(k:Int)+3 else 99 - (k:Int)
structure bx(K:bA) (H:Hp) (f d:Addr) (S:eM) (xs:List Str) (kl:Kl) (dl:List (Str×List Kk×Kk)) (gs:List Int):Prop where
 sd:H d=some (.dK (iJ S))
 kd:Rp K H (fR kl) (.ref S.kd)
 ok:CB (xs.take 3) ((xs.drop 3).take 9) kl
 k3:kl.length<=3
 lx:xs.length=26
 un:Un xs/\∀x∈xs,Wd x
 ln:H S.ln=some (.lst (((xs.drop 12).take 6).map V.str))
 lc:H S.lc=some (.lst (((xs.drop 18).take 3).map V.str))
 lp:H S.lp=some (.lst (((xs.drop 21).take 3).map V.str))
 ld:∃vs,H S.ld=some (.lst vs)/\cW K H (S.nn f) dl vs
 dl:yr (kn kl) dl
 lg:H S.lg=some (.lst (gs.map V.int))
 la:∃kvs,H S.la=some (.dK kvs)/\kvs.length<=gs.length/\∀kv∈kvs,∃n∈gs,kv.1=Sum.inl n
 mm:(gs.length:Int)<=S.mo
 mo:S.mo<=14
 gn:∀(k:Nat) (n:Int),gs[k]?=some n->n=rT S.tn k
 tn:S.tn=0\/S.tn=1
 ff:cE H f
 nf:d≠f/\S.ln≠f/\S.lc≠f/\S.lp≠f/\S.ld≠f/\S.lg≠f/\S.la≠f
 ng:S.ln≠S.lg/\S.lc≠S.lg/\S.lp≠S.lg/\S.ld≠S.lg
 nd:S.ln≠S.ld/\S.lc≠S.ld/\S.lp≠S.ld
 na:d≠S.la
 bb:S.kb<=20/\S.pb<=40/\13<=S.kb
section
variable {K:bA}{H H':Hp}{f d:Addr}{S:eM}{xs:List Str}{kl:Kl}{dl:List (Str×List Kk×Kk)}{gs gs':List Int}
theorem lF(S:eM):dU (iJ S) (ky "kinds")=some (.ref S.kd):=by kernel_rfl
theorem uV(S:eM):dU (iJ S) (ky "defs")=some (.ref S.ld):=by kernel_rfl
theorem qG(S:eM):dU (iJ S) (ky "names")=some (.ref S.ln):=by kernel_rfl
theorem uW(S:eM):dU (iJ S) (ky "gaps")=some (.ref S.lg):=by kernel_rfl
theorem Gn(S:eM):dU (iJ S) (ky "most")=some (.int S.mo):=by kernel_rfl
theorem zD(S:eM):dU (iJ S) (ky "asked")=some (.ref S.la):=by kernel_rfl
theorem Gp(S:eM):dU (iJ S) (ky "turn")=some (.int S.tn):=by kernel_rfl
theorem wQ(S:eM):dU (iJ S) (ky "called")=some (.ref S.lc):=by kernel_rfl
theorem CD(S:eM):dU (iJ S) (ky "params")=some (.ref S.lp):=by kernel_rfl
theorem bx.get{y:Str}{v:V}(s:bx K H f d S xs kl dl gs)(e:dU (iJ S) (ky y)=some v):j4 H d (.str y) (some v):=by
 have h:=j4.k (k:=ky y) s.sd;rw[e]at h;exact h
theorem cW.go{nn:List Addr}(j:∀b m,b∉nn->H b=some (.lst m)->H' b=some (.lst m))(kt:Kt H H'):∀{dl:List (Str×List Kk×Kk)}{o:List V},cW K H nn dl o->cW K H' nn dl o
 | [],_,h=>h
 |_::_,_,⟨v,us,e,⟨a,l,g,m,e2,sq,hl,r,rg,n1⟩,h⟩=>⟨v,us,e,⟨a,l,g,m,e2,sq.kt kt,j _ _ n1 hl,r.kt kt,rg.kt kt,n1⟩,cW.go j kt h⟩
theorem cW.nn{nn n2:List Addr}(h:∀l j,l∉nn->H l=some (.lst j)->l∉n2):∀{dl:List (Str×List Kk×Kk)}{m:List V},cW K H nn dl m->cW K H n2 dl m
 | [],_,z=>z
 |_::_,_,⟨v,us,e,⟨a,l,g,j,e2,sq,hl,r,rg,n1⟩,z⟩=>⟨v,us,e,⟨a,l,g,j,e2,sq,hl,r,rg,h _ _ n1 hl⟩,cW.nn h z⟩
theorem wR{tn:Int}{i j:Nat}(h:rT tn i=rT tn j):i=j:=by
 unfold rT at h
 split at h<;>omega
theorem bx.Jx(s:bx K H f d S xs kl dl gs):gs.Nodup:=by
 refine List.pairwise_iff_getElem.mpr fun i j m g l e=>?_;have p:=s.gn i _ (m3 m);have o:=s.gn j _ (m3 g);exact absurd (wR (p.symm.trans (e.trans o))) (by omega)
theorem fX{b:Addr}(h:b∉S.nn f):b≠f/\b≠S.lg/\b≠S.ld/\b≠S.x1/\b≠S.x2:=by
 unfold eM.nn at h;simp only[ri,Lp,or_false,not_or]at h;exact h
theorem bx.go(s:bx K H f d S xs kl dl gs)(fr:bH [S.lg,S.la] f H H')(C:H' S.lg=some (.lst (gs'.map V.int)))(D:∃kvs,H' S.la=some (.dK kvs)/\kvs.length<=gs'.length/\∀kv∈kvs,∃n∈gs',kv.1=Sum.inl n)(v:(gs'.length:Int)<=S.mo)(G:∀(k:Nat) (n:Int),gs'[k]?=some n->n=rT S.tn k):bx K H' f d S xs kl dl gs':=by
 obtain⟨E,l,_⟩:=s.la;obtain⟨o,hd,g⟩:=s.ld;obtain⟨u,t,r,q,p,J,I⟩:=s.nf;obtain⟨B,A,y,w⟩:=s.ng;have e:∀{b:Addr}{m:List V},H b=some (.lst m)->b≠S.la:=fun h=>cD h l (fun z=>nomatch z)
 have j:d≠S.lg:=cD s.sd s.lg (fun z=>nomatch z)
 exact⟨fr.eK j s.na u s.sd,s.kd.kt fr.kt,s.ok,s.k3,s.lx,s.un,fr.eK B (e s.ln) t s.ln,fr.eK A (e s.lc) r s.lc,fr.eK y (e s.lp) q s.lp,⟨o,fr.eK w (e hd) p hd,g.go (fun b m z h=>fr.eK (fX z).2.1 (e h) (fX z).1 h) fr.kt⟩,s.dl,C,D,v,s.mo,G,s.tn,fr.ff,s.nf,s.ng,s.nd,s.na,s.bb⟩
theorem bx.ext(s:bx K H f d S xs kl dl gs)(e:Ext f H H'):bx K H' f d S xs kl dl gs:=by
 obtain⟨g,j,o⟩:=s.la;obtain⟨u,t,r,q,p,m,l⟩:=s.nf;exact s.go (Ext.tX s.ff e) (e.1 _ _ m s.lg) ⟨g,e.1 _ _ l j,o⟩ s.mm s.gn
theorem bx.same(s:bx K H f d S xs kl dl gs)(e:aF H H'):bx K H' f d S xs kl dl gs:=s.ext ((Ext.refl s.ff).same e)
theorem Kk.uX{a b:List Str}(h:∀x∈a,x∈b):∀{k:Kk},k.ok a->k.ok b
 |.num,_=>True.intro
 |.kd x,z=>h x z
 |.op _,z=>z
 |.row k,z=>Kk.uX (k:=k) h z
theorem CB.uY{ts:List Str}(h:CB xs ts kl){i:Nat}(hi:i<=kl.length):(kn kl).take i=xs.take i:=by
 unfold kn;rw[h.nm,List.take_take,Nz hi]
theorem bx.Jy(s:bx K H f d S xs kl dl gs):Un (kn kl):=by
 have e:=s.ok.nm;unfold kn;rw[e,List.take_take];intro i j x l g;refine s.un.1 i j x ?_ ?_
 ·rw[Qw]at l;split at l
  ·exact l
  ·cases l
 ·rw[Qw]at g;split at g
  ·exact g
  ·cases g
theorem bx.Jz(s:bx K H f d S xs kl dl gs){x:Str}(h:x∈kn kl):Wd x:=by
 unfold kn at h;rw[s.ok.nm]at h;exact s.un.2 x (Ly (Ly h))
theorem bx.IS(s:bx K H f d S xs kl dl gs){k:Str×List (Str×List Kk)}{t:Str×List Kk}(e:k∈kl)(ht:t∈k.2):Wd t.1:=by
 have h:t.1∈sQ kl:=Nl.mpr ⟨k,e,LC ht⟩;rw[s.ok.tg]at h;exact s.un.2 _ (Ou (Ly (Ly h)))
end
noncomputable def kR(K:bA):Sp:=fun m H Q _=>∃(f d:Addr) (j:V) (S:eM) (l:List Str) (e:Kl) (p:List (Str×List Kk×Kk)) (o:List Int) (x:Str),m=[.ref d,j]/\bx K H f d S l e p o/\Rp K H (bW (.kd x)) j/\x∈kn e /\
 ∀(v:V) (g:Hp) (k:Str×List (Str×List Kk)),aF H g->k∈e->k.1=x->Rp K g (.t (k.2.map nR)) v->Q v g
section
variable {P:FG}{w:Lk}{K:bA}{mg:Str->Option j3}{base:Heap}{gT gA gN:Addr}{tfd afd nfd:zo}
theorem uZ:Nm ["_law_scene_here","_law_kind"] (aj iH):=by decide +kernel
theorem vc:aI ["_law_scene_here","_law_kind"] ["_law_scene_here","_law_kind"] (aj iH):=⟨rfl,rfl,rfl,by decide +kernel,rfl,by decide +kernel,by decide +kernel⟩
theorem yt{f:Addr}{O:zo}(F:gX K "_law_tags_of" "_law_tags_of" iH f O):bK P w K mg base eL 1 f O ["_law_scene_here","_law_kind"] (kR K):=by
 refine F.ok vc (fun V H Q E h=>?_) (fun ab A u s H V Q E hr h=>?_)
 ·obtain⟨_,_,_,_,_,_,_,_,_,rfl,_⟩:=h;rfl
 obtain⟨fe,d,W,S,xs,C,dl,gs,x,rfl,o,rk,hx,k⟩:=h;refine⟨_,(Zg (Zn (Zl aW (@fG _ _ _ _ _ _ _ _ _ _ _ (aj iH) ["_law_scene_here","_law_kind"] ["_law_name","_law_tags"] [1] rfl rfl rfl (by decide +kernel) (@dh _ _ _ _ (Zk (va uZ 0))) (fun _ _ _ _=>(Zc (Zh (Z3 (i:=0) (show(["_law_name","_law_tags","_law_kind"]:List Str).Nodup by decide +kernel)) (aG (Z3 (i:=1) (show(["_law_name","_law_tags","_law_kind"]:List Str).Nodup by decide +kernel)) aZ)))) (fun _ _ _ _=>(@gz _ _ _ (Zf bJ (va (show Nm ["_law_name","_law_tags","_law_kind"] _ by show _=_;kernel_rfl) 0) (Z9 (fP K rfl) (va (show Nm ["_law_name","_law_tags","_law_kind"] _ by show _=_;kernel_rfl) 2))))) (fun _ _ _ _=>(va (show Nm ["_law_name","_law_tags","_law_kind"] _ by show _=_;kernel_rfl) 1)) (by intro _;rfl)) ao))),?_⟩
 try dsimp only[bM]
 try dsimp only[bM]
 have hg:=o.get (lF S);obtain⟨ka,aa,ek,B,r⟩:=o.kd.aY
 cases ek
 obtain⟨va,v1,v2,rfl,m,g1,g2⟩:=(show Rp K H (.t [.s "kind",.s x]) W from rk).t2;obtain rfl:=g2.aR;have k3:=o.k3;fail "R";refine fB (e:=Eh) (φ:=fun k=>if k.1=x then [.t (k.2.map nR)]else []) (fun R=>∃a b,R=[a,b,some (.ref va)]) B r (by omega) (fun k=>by split<;>simp) ⟨_,_,rfl⟩ ?_ ?_
 ·rintro p hp y _ H6 N s6 ⟨_,_,rfl⟩ rx kN;obtain⟨xa,x1,x2,rfl,U,j,r2⟩:=(show Rp K H6 (.t [.s p.1,.t (p.2.map nR)]) y from rx).t2;obtain rfl:=j.aR;have J:=m.same s6;fail "R";refine cH (fun c=>?_) (fun c=>?_)
  ·fail "R";have e:p.1=x:=by injection(of_decide_eq_true c)
   exact kN _ _ _ ⟨⟨_,_,rfl⟩,aF.refl _,by rw[if_pos e];exact .one r2⟩
  ·have e:¬p.1=x:=fun z=>c (decide_eq_true (by rw[z]));exact kN _ _ _ ⟨⟨_,_,rfl⟩,aF.refl _,by rw[if_neg e];exact .nil⟩
 intro l H1 ws Y hl h1 j;obtain⟨L,I,e0⟩:=L8.mp hx;have M:(T.t (L.2.map nR))∈C.flatMap fun k=>if k.1=x then [T.t (k.2.map nR)]else []:=Nl.mpr ⟨L,I,by rw[if_pos e0];exact .head _⟩;generalize e9:(C.flatMap fun k=>if k.1=x then [T.t (k.2.map nR)]else [])=ys at j M
 cases ys with
 |nil=>cases M
 |cons y q =>
  have hy:y∈C.flatMap fun k=>if k.1=x then [T.t (k.2.map nR)]else []:=by rw[e9];exact .head _
  obtain⟨k1,G,g⟩:=Nl.mp hy;obtain⟨v,X,rfl,Z,_⟩:=j.inv
  split at g
  ·next e1 =>
   have D:=nt.mp g;subst D;have a0:=uG v X;fail "R";exact k v H1 k1 Y G e1 Z
  ·cases g
end
noncomputable def oW(H:Hp)(a:Addr)(d:List Str):Prop:=H a=some (.lst (d.map V.str))/\1<=d.length/\d.length<=100
theorem oW.ne{H:Hp}{a f:Addr}{d:List Str}(h:oW H a d)(g:cE H f):a≠f:=fun z=>by
 obtain⟨p,q,e⟩:=g;subst z;rw[h.1]at e
 cases d with
 |nil=>have:=h.2.1;simp at this
 |cons x r=>injection e with e;injection e with e;rw[Lh]at e;injection e with e;cases e
theorem oW.same{H g:Hp}{a:Addr}{d:List Str}(h:oW H a d)(e:aF H g):oW g a d:=⟨e a _ h.1,h.2⟩
noncomputable def oX:Sp:=fun e H Q _=>∃f:Addr,e=[.ref f]/\cE H f/\∀(n:Int) (d:Hp),0<=n->n<1000000->Ext f H d->Q (.int n) d
section
variable {P:FG}{w:Lk}{K:bA}{mg:Str->Option j3}{base:Heap}{gT gN gA:Addr}{tfd nfd afd:zo}
theorem eT:Nm ["_law_feed_here","_law_form"] (aj jw):=by decide +kernel
theorem wU:Lm ["_law_feed_here","_law_form"] (aj jw):=by decide +kernel
theorem qm:aI ["_law_feed_here","_law_form"] ["_law_feed_here"] (aj jw):=⟨rfl,rfl,rfl,by decide +kernel,rfl,by decide +kernel,by decide +kernel⟩
theorem AL{f:Addr}{B:zo}(F:gX K "_law_number" "_law_number" jw f B)(d:bY P w K mg base "_law_take" 1 ["_law_feed_here","_law_many"] eJ gT tfd):bK P w K mg base eL 2 f B ["_law_feed_here"] oX:=by
 refine F.ok qm (fun I H Q E h=>?_) (fun O A p s H I Q E hr h=>?_)
 ·obtain⟨v,rfl,_⟩:=h;rfl
 obtain⟨r,rfl,M,k⟩:=h
 refine⟨_,(bV (sa qm.nd wU 1 (jL d.ok (hr.mono (by omega)) (by show _=_;kernel_rfl) d.at' d.kp d.bd .nil nv (aE (va eT 0) (aE ao ak))))
  (bV (lX (Zq lY (va eT 1) ao) (cg (cB (jL d.ok (hr.mono (by omega)) (by show _=_;kernel_rfl) d.at' d.kp d.bd .nil nv (aE (va eT 0) (aE (iO aW (bg (aE ao (aE ao (aE ao (aE ao (aE ao (aE ao ak))))))) (va eT 1) (fun _ _=>rfl)) ak))))) iR)
  (cg (cB (iO aW (bg (aE (jL d.ok (hr.mono (by omega)) (by show _=_;kernel_rfl) d.at' d.kp d.bd .nil nv (aE (va eT 0) (aE ao ak))) (aE (aX bL ao (jL d.ok (hr.mono (by omega)) (by show _=_;kernel_rfl) d.at' d.kp d.bd .nil nv (aE (va eT 0) (aE ao ak)))) ak))) (aX bL (va eT 1) ao) (fun _ _=>rfl)))))),?_⟩
 refine⟨_,rfl,r,8,rfl,by decide,by decide,M,fun q W J q1 m=>?_⟩;refine⟨_,rfl,_,_,rfl,rfl,_,rfl,cH (fun c=>?_) (fun c=>?_)⟩
 ·have D:q<6:=of_decide_eq_true c;refine⟨_,rfl,(by show 6<=nk;decide),fun l g=>?_⟩;obtain⟨v,t,e⟩:=mj (xs:=[V.int 2,V.int 4,V.int 4,V.int 10,V.int 10,V.int 100]) J (by simpa using D)
  obtain⟨n,rfl,L,T⟩:∃n:Int,v=.int n/\0<n/\n<=100:=by
   simp only[ri,Lp,or_false]at e;rcases e with rfl|rfl|rfl|rfl|rfl|rfl
   ·exact⟨2,rfl,by decide,by decide⟩
   ·exact⟨4,rfl,by decide,by decide⟩
   ·exact⟨4,rfl,by decide,by decide⟩
   ·exact⟨10,rfl,by decide,by decide⟩
   ·exact⟨10,rfl,by decide,by decide⟩
   ·exact⟨100,rfl,by decide,by decide⟩
  refine⟨_,rfl,l,_,_,_,rfl,rfl,bz.of af,t,r,n,rfl,L,by omega,m.2.same (ae g _),fun x G o u j=>?_⟩;exact k x G o (by omega) ((m.new g _).trans j)
 ·have D:¬q<6:=fun z=>c (decide_eq_true z);refine⟨_,rfl,r,1000000,rfl,by decide,by decide,m.2,fun x G o u j=>?_⟩;refine⟨_,rfl,r,3,rfl,by decide,by decide,j.2,fun y U S R N=>?_⟩;refine⟨_,_,rfl,rfl,(by show 2<=nk;decide),fun l g=>?_⟩;have C:=((m.trans j).trans N).new g (.lst [.int x,.int (999999-y)]);obtain⟨v,t,e⟩:=mj (xs:=[V.int x,V.int (999999-y)]) (k:=q-6) (by omega) (by simp;omega);refine⟨_,rfl,_,_,rfl,rfl,l,_,_,_,rfl,rfl,bz.of af,t,?_⟩;simp only[ri,Lp,or_false]at e;rcases e with rfl|rfl
  ·exact k _ _ o u C
  ·exact k _ _ (by omega) (by omega) C
end
noncomputable def JA:Hd->Prop
 |.gap n=>0<=n/\n<1000
 |.num n=>0<=n/\n<1000000
 |.name x=>Wd x
 |.op x=>Wd x
 |.tag x=>Wd x
 |.call x=>Wd x
 |.lt x=>Wd x
 |.fold x y=>Wd x/\Wd y
 |.mat arms=>∀a∈arms,Wd a.1/\a.2.length<=2/\∀y∈a.2,Wd y
 |_=>True
inductive Tok:Tm->Prop
 |mk {h:Hd}{ks:List Tm}:cM h ks.length=true->ks.length<=9->(∀k∈ks,Tok k)->(g:JA h:=by exact True.intro)->Tok (.mk h ks)
theorem Tok.wf{d:Tm}(h:Tok d):Wf d:=by
 induction h with
 |mk a b c g ih=>exact .mk a ih
noncomputable def wV:Hd->Prop
 |.gap _=>False
 |h=>JA h
theorem wV.ok{h:Hd}(g:wV h):JA h:=by cases h<;>first|exact g|exact g.elim
theorem wV.no{h:Hd}{ts:List Tm}(g:wV h):dD (.mk h ts)=none:=by cases h<;>first|rfl|exact g.elim
noncomputable def JP(t:Tm):Prop:=Tok t/\lU t=[]
theorem CF{d e:Type}{f:d->List e}:∀{l:List d},(∀x∈l,f x=[])->l.flatMap f=[]
 | [],_=>rfl
 |x::r,h=>by rw[LN,h x (.head _),CF fun y g=>h y (.tail _ g)];rfl
noncomputable def mS(K:bA)(n:Nat):Sp:=fun o H Q _=>∃(f d:Addr) (l:V) (S:eM) (m:List Str) (g:Kl) (q:List (Str×List Kk×Kk)) (p:List Int) (k:Kk) (r:Nat),o=[.ref f,.ref d,l]/\bx K H f d S m g q p/\Rp K H (bW k) l/\k.ok ((kn g).take r)/\k.dep<=100/\r<n/\r<=g.length /\
 ∀(v:V) (j:Hp) (e:Tm),Ext f H j->Rp K j (enc e) v->JP e->e.depth<=r->e.size+1<=2 ^ (r+1)->Q v j
structure NI(K:bA) (f:Addr) (H:Hp) (e i:Nat) (us:List V) (H':Hp):Prop where
 x:∃ts:List Tm,Ext f H H'/\bI K H' (ts.map enc) us/\ts.length=i/\∀t∈ts,JP t/\t.depth<=e/\t.size+1<=2 ^ (e+1)
theorem wW{b:Nat}:∀{ts:List Tm},(∀t∈ts,t.size<=b)->Tm.sizes ts<=ts.length*b
 | [],_=>by rw[Tm.sizes];exact Ld _
 |t::r,h=>by
  rw[Tm.di,Lu,RB];have:=h t (.head _);have:=wW (b:=b) (ts:=r) (fun x d=>h x (.tail _ d));omega
section
variable {P:FG}{w:Lk}{K:bA}{mg:Str->Option j3}{base:Heap}{gT gA gN gO:Addr}{tfd afd nfd ofd:zo}
theorem eu:Nm ["_law_feed_here","_law_scene_here","_law_kind","_law_tags","_law_t","_law_inner"] (aj fQ):=by decide +kernel
theorem mT:Lm ["_law_feed_here","_law_scene_here","_law_kind","_law_tags","_law_t","_law_inner"] (aj fQ):=by decide +kernel
theorem jV:aI ["_law_feed_here","_law_scene_here","_law_kind","_law_tags","_law_t","_law_inner"] ["_law_feed_here","_law_scene_here","_law_kind"] (aj fQ):=⟨rfl,rfl,rfl,by decide +kernel,rfl,by decide +kernel,by decide +kernel⟩
theorem AM{f:Addr}{fd:zo}{n j:Nat}(hj:2<=j)(F:gX K "_law_nought" "_law_nought" fQ f fd)(NU:bY P w K mg base "_law_number" 2 ["_law_feed_here"] oX gN nfd)(TG:bY P w K mg base "_law_tags_of" 1 ["_law_scene_here","_law_kind"] (kR K) gT tfd)(NO:bY P w K mg base "_law_nought" j ["_law_feed_here","_law_scene_here","_law_kind"] (mS K n) gO ofd)(g:mg "tuple"=none):bK P w K mg base eL (j+1) f fd ["_law_feed_here","_law_scene_here","_law_kind"] (mS K (n+1)):=by
 refine F.ok jV (fun vs H Q E h=>?_) (fun bg A ah s H vs Q E hr h=>?_)
 ·obtain⟨_,_,_,_,_,_,_,_,_,_,rfl,_⟩:=h;rfl
 obtain⟨fe,d,vk,S,xs,J,dl,gs,kk,r,rfl,G,rk,ok,a8,bb,ba,k⟩:=h;refine⟨_,(Z6 (Zd (Zq (rm hr.qy) (va eu 2) az) (Zg (Zn (Ze (Z1 az (Z1 (Z0 NU (Zb (va eu 0))) ak)))))) (Z6 (Zd (Zf bJ (Z9 aQ (va eu 2)) az) (Zg (Zn (Ze (Z1 az (Zb (dm ak))))))) (Z6 (Z2 jV.nd mT 3 (Z0 TG (Z1 (va eu 1) (Zb (va eu 2))))) (Z6 (Zo (Z9 aQ (va eu 3)) (Zc (Zh (ga jV.nd mT 4) (aG (ga jV.nd mT 5) aZ)))) (Zg (Zn (Ze (Z1 az (Z1 (va eu 4) (Z1 (Z4 aH g Le (Z1 (Za (aj fQ) ["_law_feed_here","_law_scene_here","_law_kind","_law_tags","_law_t","_law_inner"] ["_law_one"] [0,1] (dh (va eu 5)) (fun _ _ _ _=>(Z3 (i:=0) (show(["_law_one","_law_feed_here","_law_scene_here"]:List Str).Nodup by decide +kernel))) (fun _ _ _ _=>(Z0 NO (Z1 (va (show Nm ["_law_one","_law_feed_here","_law_scene_here"] _ by show _=_;kernel_rfl) 1) (Z1 (va (show Nm ["_law_one","_law_feed_here","_law_scene_here"] _ by show _=_;kernel_rfl) 2) (Zb (va (show Nm ["_law_one","_law_feed_here","_law_scene_here"] _ by show _=_;kernel_rfl) 0))))))) ak)) ak)))))))))),?_⟩
 try dsimp only[bM]
 try dsimp only[bM]
 have hf:=G.ff;have aw:(bW kk).dep<=150:=I0 (iz kk) (by omega);have p1:1<=2 ^ r:=Nat.one_le_two_pow;have p2:2 ^ (r+1)=2*2 ^ r:=by rw[Nat.pow_succ];omega
 have leaf:∀(h:Hd) (v:V) (H':Hp),cM h 0=true/\wV h->Ext fe H H'->Rp K H' (kZ h []) v->Q v H':=fun h v H' a e rv =>
  k v H' (.mk h []) e (by rw[bw];exact rv) ⟨.mk a.1 (Ld _) (fun k hk=>nomatch hk) a.2.ok,fJ a.2.no⟩ (Ld _) (by show 1+1<=_;omega)
 refine jy ?_;intro N1 N2 N3 N4 c1 c2 c3 c4;have rN:Rp K H (T.s "num") (.str "num"):=.s;fail "R";refine cH (fun c=>?_) (fun c=>?_)
 ·fail "R";intro m H1 m0 m1 x1;fail "R";intro p2 ap;have s2:=ae ap (.tup [.str "num",.int m]);exact leaf (.num m) _ _ ⟨rfl,m0,m1⟩ (x1.same s2) (Rp.t (bN.of af) (.cons .s (.one .i)))
 cases kk with
 |num=>exact absurd (decide_eq_true rfl) c
 |op n=>exact absurd ok id
 |row k2 =>
  obtain⟨va,v1,v2,rfl,aa,g1,g2⟩:=(show Rp K H (.t [.s "row",bW k2]) vk from rk).t2;obtain rfl:=g1.aR;fail "R";intro p9 U;have s9:=ae U (.tup []);have r9:=Rp.new (K:=K) U .nil;generalize upd H p9 (.tup [])=H9 at s9 r9⊢;fail "R";intro a5 z;have ad:=ae z (.tup [.str "row",.ref p9]);exact leaf .row _ _ ⟨rfl,True.intro⟩ ((Ext.refl hf).same (s9.trans ad)) (Rp.new (K:=K) z (.cons .s (.one r9)))
 |kd x =>
  obtain⟨va,v1,v2,rfl,aa,g1,g2⟩:=(show Rp K H (.t [.s "kind",.s x]) vk from rk).t2;obtain rfl:=g1.aR;have hx:x∈kn J:=Ly ok;fail "R";intro v3 H3 k3 s3 Y au r3;obtain⟨i,hi⟩:=MI Y;have as:i<J.length:=(ko.mp hi).1;obtain⟨R,bc,an⟩:=G.ok.pt i k3 hi
  have Z:i<r:=by
   obtain⟨i',o⟩:=MI (show x∈(kn J).take r from ok);have ar:=(ko.mp o).1;rw[Lb]at ar;have e1:(kn J)[i]?=some x:=by unfold kn;rw[rz,hi];exact congrArg some au
   rw[Qw]at o
   split at o
   ·next aq=>rw[G.Jy i i' x e1 o];exact aq
   ·cases o
  obtain⟨ta,ay,rfl,a1,N⟩:=r3.aY
  obtain⟨D,tr,B⟩:∃a b,k3.2=a::b:=by
   cases e:k3.2 with
   |nil=>rw[e]at R;simp at R
   |cons a b=>exact⟨a,b,rfl⟩
  rw[B]at N;obtain⟨u1,ab,rfl,ag,_⟩:=bI.inv (K:=K) (x:=nR D) N;obtain⟨ga,w1,w2,rfl,bf,q1,q2⟩:=(show Rp K H3 (.t [.s D.1,.t (D.2.map bW)]) u1 from ag).t2;obtain rfl:=q1.aR;obtain⟨ia,al,rfl,am,O⟩:=q2.aY;obtain⟨a2,tok⟩:=an D (by rw[B];exact .head _);have li:=O.length;rw[bC]at li;have a0:=uG (V.ref ga) ab;have M:Ext fe H H3:=(Ext.refl hf).same s3;fail "R";refine kj (K:=K) (xs:=al) (fun i7 L l C=>(∃y,L=[y,some (.ref fe),some (.ref d)])/\NI K fe H3 i i7 l C) ⟨⟨_,rfl⟩,⟨[],Ext.refl M.2,.nil,rfl,fun t h=>nomatch h⟩⟩ ?_ (small (by omega)) ?_ ?_ ?_
  ·rintro i7 L l C h ⟨_,⟨ts,_,r,e,_⟩⟩;rw[r.length,bC,e];exact lj _
  ·rintro i7 L l C h ⟨_,⟨ts,u,_⟩⟩;exact am.kt (u.kt M.2)
  ·rintro i7 y L l C hy ⟨⟨_,rfl⟩,⟨ts,u,r5,l5,I⟩⟩;obtain⟨t,p,rt⟩:=O.get' hy;rw[rz]at p;obtain⟨q,hq,rfl⟩:=FA.mp p;have a3:=(G.ext M).ext u;have a4:=rt.kt (u.kt M.2);obtain⟨ai,a7⟩:=tok q (we hq);have oq:q.ok ((kn J).take i):=by rw[G.ok.uY (Mb as)];exact ai
   have a6:q.dep<=100:=by omega
   have be:i<n:=by omega
   have ax:i<=J.length:=by omega
   fail "R";intro v6 H6 tm x6 r6 ac d6 z6;fail "R";refine⟨ts++[tm],u.trans x6,by rw[nq];exact(r5.kt (x6.kt u.2)).snoc r6,by rw[lu,l5];rfl,fun t hm=>(Li.mp hm).elim (I t) (fun h=>by rw[nt.mp h];exact⟨ac,d6,z6⟩)⟩
  ·rintro L l C ⟨_,⟨ts,u,r5,l5,I⟩⟩ p6 hp6;have s6:=ae hp6 (.lst l);have h6:upd C p6 (.lst l) p6=some (.lst l):=af;have r6:=r5.same s6;generalize upd C p6 (.lst l)=H6 at s6 h6 r6⊢;fail "R";refine .inl ⟨bz.of h6,fun p7 X=>?_⟩;have s7:=ae X (.tup l);have r7:=Rp.new (K:=K) X r6;generalize upd H6 p7 (.tup l)=H7 at s7 r7⊢;fail "R";intro p8 W;have s8:=ae W (.tup [.str "tag",.str D.1,.ref p7]);have p3:2 ^ (i+1)<=2 ^ r:=ND (by omega) Z;refine k _ _ (.mk (.tag D.1) ts) (M.trans (((u.same s6).same s7).same s8)) (by rw[bw];exact Rp.new (K:=K) W (.cons .s (.cons .s (.one r7)))) ⟨.mk rfl (by omega) (fun t p=>(I t p).1.1) (G.IS Y (by rw[B];exact .head _)),(fJ rfl).trans (CF fun t p=>(I t p).1.2)⟩ (I0 (Tm.vQ fun t p=>(I t p).2.1) Z) ?_;rw[Tm.fN];have hz:=wW (b:=2 ^ r-1) (ts:=ts) fun t p=>by have:=(I t p).2.2;omega
   have a9:ts.length*(2 ^ r-1)<=2*(2 ^ r-1):=R7 _ (by omega);omega
end
noncomputable def wX(K:bA)(H:Hp)(a:Addr)(ps:List (Str×Kk)):Prop:=∃d,H a=some (.lst d)/\bI K H (ps.map sA) d
noncomputable def oY(ps d:List (Str×Kk)):List (Str×Kk):=ps.filter (fun p=>!decide (p.1∈d.map (·.1)))++d
noncomputable def qH(K:bA):Sp:=fun j H Q _=>∃(a b:Addr) (e d:List (Str×Kk)),j=[.ref a,.ref b]/\wX K H a e/\wX K H b d/\e.length+d.length<=900 /\
 ∀(p:Addr) (g:Hp),aF H g->H p=none->wX K g p (oY e d)->Q (.ref p) g
theorem Ei(ps d:List (Str×Kk)):(ps.flatMap fun p=>if p.1∈d.map (·.1)then []else [sA p])=(ps.filter (fun p=>!decide (p.1∈d.map (·.1)))).map sA:=by
 induction ps with
 |nil=>rfl
 |cons p r ih =>
  rw[LN,ih,List.filter_cons]
  by_cases c:p.1∈d.map (·.1)
  ·rw[if_pos c,decide_eq_true c];rfl
  ·rw[if_neg c,decide_eq_false c];rfl
section
variable {P:FG}{w:Lk}{K:bA}{mg:Str->Option j3}{base:Heap}{gT gO:Addr}{tfd ofd:zo}
theorem nS:Nm ["_law_around","_law_more","_law_fresh"] (aj ig):=by decide +kernel
theorem yu:Lm ["_law_around","_law_more","_law_fresh"] (aj ig):=by decide +kernel
theorem rV:aI ["_law_around","_law_more","_law_fresh"] ["_law_around","_law_more"] (aj ig):=⟨rfl,rfl,rfl,by decide +kernel,rfl,by decide +kernel,by decide +kernel⟩
theorem CG{f:Addr}{M:zo}(F:gX K "_law_bound" "_law_bound" ig f M):bK P w K mg base eL 1 f M ["_law_around","_law_more"] (qH K):=by
 refine F.ok rV (fun U H Q E h=>?_) (fun al A B s H U Q E hr h=>?_)
 ·obtain⟨_,_,_,_,rfl,_⟩:=h;rfl
 obtain⟨a,b,J,d,rfl,⟨W,ha,rp⟩,⟨m,L,z⟩,hl,k⟩:=h;refine⟨_,(Z6 (Z2 rV.nd yu 2 (Za (aj ig) ["_law_around","_law_more","_law_fresh"] ["_law_x","_law_kind"] [] (cX (va nS 1)) (fun _ _ _ _=>(Zc (Zh (Z3 (i:=0) (show(["_law_x","_law_kind"]:List Str).Nodup by decide +kernel)) (aG (Z3 (i:=1) (show(["_law_x","_law_kind"]:List Str).Nodup by decide +kernel)) aZ)))) (fun _ _ _ _=>(va (show Nm ["_law_x","_law_kind"] _ by show _=_;kernel_rfl) 0)))) (Zg (Zn (Zm qS (@fG _ _ _ _ _ _ _ _ _ _ _ (aj ig) ["_law_around","_law_more","_law_fresh"] ["_law_one"] [2] rfl rfl rfl (by decide +kernel) (cX (va nS 0)) (fun _ _ _ _=>(Z3 (i:=0) (show(["_law_one","_law_fresh"]:List Str).Nodup by decide +kernel))) (fun _ _ _ _=>(@gz _ _ _ (@eX _ _ _ _ _ _ _ _ (nB K rfl) (Z9 (fP K rfl) (va (show Nm ["_law_one","_law_fresh"] _ by show _=_;kernel_rfl) 0)) (va (show Nm ["_law_one","_law_fresh"] _ by show _=_;kernel_rfl) 1) (by with_unfolding_all rfl)))) (fun _ _ _ _=>(va (show Nm ["_law_one","_law_fresh"] _ by show _=_;kernel_rfl) 0)) (by intro _;rfl)) (va nS 1))))),?_⟩
 try dsimp only[bM]
 try dsimp only[bM]
 have lp:=rp.length;have Z:=z.length;rw[bC]at lp Z;fail "R";refine ik (e:=sA) (φ:=fun p=>[.s p.1]) (fun r=>∃x y,r=[x,y]) L z (by omega) (fun _=>lj _) ⟨_,_,rfl⟩ ?_ ?_
 ·rintro p hp x _ H6 N s6 ⟨_,_,rfl⟩ rx kN;obtain⟨O,S,R,rfl,u,j,r2⟩:=(show Rp K H6 (.t [.s p.1,bW p.2]) x from rx).t2;fail "R";exact kN _ _ _ ⟨⟨_,_,rfl⟩,aF.refl _,.one j⟩
 intro C H1 ws g ac gf j;rw[iL (fun p:Str×Kk=>T.s p.1),show(d.map fun p=>T.s p.1)=(d.map (·.1)).map T.s from by rw[Nd];rfl]at j;obtain rfl:=j.rH;have G:=g _ _ ha;have D:=g _ _ L;fail "R";refine ik (e:=sA) (φ:=fun p=>if p.1∈d.map (·.1)then []else [sA p]) (fun r=>∃x,r=[x,some (.ref C)]) G (rp.same g) (by omega) (fun p=>by split<;>simp) ⟨_,rfl⟩ ?_ ?_
 ·rintro p hp x _ H6 N s6 ⟨_,rfl⟩ rx kN;obtain⟨O,S,R,rfl,u,j,r2⟩:=(show Rp K H6 (.t [.s p.1,bW p.2]) x from rx).t2;obtain rfl:=j.aR;have ab:bz K H6 C ((d.map (·.1)).map V.str)\/bN K H6 C ((d.map (·.1)).map V.str):=.inl (bz.of (s6 _ _ gf));have ag:=pX (d.map (·.1));have ah:lJ (.str p.1)=true:=rfl;fail "R";rw[mR];refine cH (fun c=>?_) (fun c=>?_)
  ·have I:¬p.1∈d.map (·.1):=by simpa using c
   fail "R";exact kN _ _ _ ⟨⟨_,rfl⟩,aF.refl _,by rw[if_neg I];exact .one rx⟩
  ·have I:p.1∈d.map (·.1):=by simpa using c
   exact kN _ _ _ ⟨⟨_,rfl⟩,aF.refl _,by rw[if_pos I];exact .nil⟩
 intro l2 H2 l q ad h2 r2;rw[Ei]at r2;have ai:=q _ _ D;have Y:=r2.length;rw[bC]at Y;have aa:(J.filter (fun p=>!decide (p.1∈d.map (·.1)))).length<=J.length:=O9 _ _;have hz:l.length+m.length<=nk:=small (by omega);fail "R";intro X o;have v:=ae o (.lst (l++m));refine k X _ (g.trans (q.trans v)) ((g.trans q).free o) ⟨_,af,?_⟩;unfold oY;rw[nq];exact(r2.same v).append (z.same (g.trans (q.trans v)))
structure wY(K:bA) (H:Hp) (f:Addr) (S:eM) (kl:Kl) (ar:Addr) (ps:List (Str×Kk)):Prop where
 aa:wX K H ar ps
 nf:ar≠f
 ng:ar≠S.lg
 na:ar≠S.la
 pk:∀p∈ps,p.2.ok (kn kl)/\p.2.dep<=60/\Wd p.1
 pl:ps.length<=60
theorem wY.tX{H g:Hp}{f:Addr}{S:eM}{d:Kl}{e:Addr}{ps:List (Str×Kk)}(a:wY K H f S d e ps)(fr:bH [S.lg,S.la] f H g):wY K g f S d e ps:=by
 obtain⟨j,h,r⟩:=a.aa;exact⟨⟨j,fr.eK a.ng a.na a.nf h,r.kt fr.kt⟩,a.nf,a.ng,a.na,a.pk,a.pl⟩
theorem zE{d:List (Key×V)}{k:Key}{v:V}(h:∀kv∈d,kv.1≠k):putK d k v=d++[(k,v)]:=by
 unfold putK
 have:(d.any fun kv=>decide (kv.1=k))=false:=by
  rw[QO];intro kv e
  simpa using h kv e
 rw[this];rfl
theorem bx.IT{H:Hp}{f d p:Addr}{S:eM}{xs:List Str}{j:Kl}{m:List (Str×List Kk×Kk)}{l:List Int}(s:bx K H f d S xs j m l)(e:H p=none):p≠f/\p≠S.lg/\p≠S.la/\p≠S.ln/\p≠S.lc/\p≠S.lp:=by
 obtain⟨g,h,_⟩:=s.la;exact⟨bX s.ff e,(aq s.lg e).symm,(aq h e).symm,(aq s.ln e).symm,(aq s.lc e).symm,(aq s.lp e).symm⟩
noncomputable def Ask(K:bA)(g H:Hp)(f:Addr)(S:eM)(o:Kl)(p:Addr):Prop:=∃(l:V) (e d:Addr) (k:Kk) (m:List (Str×Kk)) (j:List V),bN K H p [l,.ref e,.ref d]/\Rp K H (bW k) l/\k.ok (kn o)/\k.dep<=S.kb/\wY K H f S o e m/\m.length<=S.pb/\H d=some (.lst j)/\g S.ld=some (.lst j)/\d≠f/\d≠S.lg/\(d≠S.ln/\d≠S.lc/\d≠S.lp)/\g e=none/\g d=none
theorem Ask.tX{j H l:Hp}{f:Addr}{S:eM}{g:Kl}{p:Addr}(a:Ask K j H f S g p)(fr:bH [S.lg,S.la] f H l){kvs:List (Key×V)}(B:H S.la=some (.dK kvs)):Ask K j l f S g p:=by
 obtain⟨o,A,y,k,t,m,q,r,ok,kd,D,u,hd,C,e,d,v⟩:=a;exact⟨o,A,y,k,t,m,q.kt fr.kt,r.kt fr.kt,ok,kd,D.tX fr,u,fr.eK d (cD hd B (fun z=>nomatch z)) e hd,C,e,d,v⟩
theorem Ask.low{g e H:Hp}{f:Addr}{S:eM}{j:Kl}{p:Addr}(a:Ask K e H f S j p)(h:∀q,e q=none->g q=none)(D:∀d,e S.ld=some (.lst d)->g S.ld=some (.lst d)):Ask K g H f S j p:=by
 obtain⟨l,C,B,k,r,d,m,o,ok,kd,G,t,hd,E,y,v,u,A,z⟩:=a;exact⟨l,C,B,k,r,d,m,o,ok,kd,G,t,hd,D _ E,y,v,u,h _ A,h _ z⟩
theorem Ask.put{l H:Hp}{f q:Addr}{S:eM}{u:Kl}{p:Addr}{xs m:List V}{o:HO}(a:Ask K l H f S u p)(v:l q=some o)(L:H q=some (.lst xs)):Ask K l (upd H q (.lst m)) f S u p:=by
 obtain⟨A,t,r,k,D,y,B,C,ok,kd,d,E,hd,Q,J,I,G,g,e⟩:=a;have kt:Kt H (upd H q (.lst m)):=Kt.lst L _;have O:t≠q:=fun z=>by rw[z,v]at g;cases g
 have N:r≠q:=fun z=>by rw[z,v]at e;cases e
 obtain⟨j,M,hr⟩:=d.aa;exact⟨A,t,r,k,D,y,B.kt kt,C.kt kt,ok,kd,⟨⟨j,by rw[av O];exact M,hr.kt kt⟩,d.nf,d.ng,d.na,d.pk,d.pl⟩,E,by rw[av N];exact hd,Q,J,I,G,g,e⟩
noncomputable def GG(K:bA)(f:Addr)(S:eM)(o:Kl)(H l:Hp)(g:List Int)(xs:List Int):Prop:=∃(j e:List Int) (d mk:List (Key×V)),H S.lg=some (.lst (j.map V.int))/\g=j++e/\xs.Sublist e/\H S.la=some (.dK d)/\l S.la=some (.dK (d++mk))/\mk.map (·.1)=e.map Sum.inl/\∀m∈mk,∃p,m.2=.ref p/\Ask K H l f S o p
theorem GG.nil{H:Hp}{f d:Addr}{S:eM}{xs:List Str}{j:Kl}{l:List (Str×List Kk×Kk)}{g:List Int}(s:bx K H f d S xs j l g):GG K f S j H H g []:=by
 obtain⟨e,h,_⟩:=s.la;exact⟨g,[],e,[],s.lg,by simp,.slnil,h,by simpa using h,rfl,fun _ z=>nomatch z⟩
theorem GG.go{H j H6:Hp}{f:Addr}{S:eM}{l:Kl}{o ys:List Int}(g:GG K f S l H j o ys)(fr:bH [S.lg,S.la] f j H6)(e:H6 S.la=j S.la):GG K f S l H H6 o ys:=by
 obtain⟨C,q,d,mk,B,A,z,y,m,v,u⟩:=g;exact⟨C,q,d,mk,B,A,z,y,e.trans m,v,fun r t=>by obtain⟨p,E,D⟩:=u r t;exact⟨p,E,D.tX fr m⟩⟩
theorem jF:∀{a b:List Int},a.map V.int=b.map V.int->a=b
 | [],[],_=>rfl
 |x::a,y::b,h=>by
  injection h with h1 h2;rw[V.int.inj h1,jF h2]
theorem GG.trans{H e H6:Hp}{f d:Addr}{S:eM}{xs:List Str}{j:Kl}{dl:List (Str×List Kk×Kk)}{r B ys v:List Int}(a:GG K f S j H e r ys)(C:bx K e f d S xs j dl r)(D:∀q,e q=none->H q=none)(Q:∀y,e S.ld=some (.lst y)->H S.ld=some (.lst y))(fr:bH [S.lg,S.la] f e H6)(b:GG K f S j e H6 B v):GG K f S j H H6 B (ys++v):=by
 obtain⟨Z,E,g,mk,X,W,V,U,A,T,R⟩:=a;obtain⟨Y,l,o,m,O,N,M,L,J,I,G⟩:=b;have e1:Y=r:=jF (by have:=O.symm.trans C.lg;injection this with this;injection this);have e2:o=g++mk:=by have:=L.symm.trans A;injection this with this;injection this
 subst e1 e2;refine⟨Z,E++l,g,mk++m,X,by rw[N,W,LM],V.append M,U,by rw[J,LM],by rw[nq,nq,T,I],fun z hk=>?_⟩;rcases Li.mp hk with hk|hk
 ·obtain⟨p,u,t⟩:=R z hk;exact⟨p,u,t.tX fr A⟩
 ·obtain⟨p,u,t⟩:=G z hk;exact⟨p,u,t.low D Q⟩
structure Ej(K:bA) (f:Addr) (S:eM) (kl:Kl) (H H':Hp) (gs':List Int) (tm:Tm):Prop where
 tk:Tok tm
 g:GG K f S kl H H' gs' (lU tm)
noncomputable def Dp(x:Nat)(t:Tm):Prop:=t.depth<=x/\729*(8*t.size+1)<=14*9 ^ x
theorem Dp.mono{x y:Nat}{t:Tm}(h:Dp x t)(l:x<=y):Dp y t:=⟨I0 h.1 l,I0 h.2 (P6 _ (ND (by omega) l))⟩
theorem Dp.mk{x:Nat}{h:Hd}{ts:List Tm}(j:2<=x)(a:∀t∈ts,Dp x t)(l:ts.length<=9):Dp (x+1) (.mk h ts):=by
 refine⟨Tm.vQ fun t d=>(a t d).1,?_⟩;rw[Tm.fN,Nat.pow_succ];have o:9 ^ 2<=9 ^ x:=ND (by omega) j;have g:=fun t d=>(a t d).2;clear a;generalize 9 ^ x=c at g o⊢
 have p:729*(8*Tm.sizes ts)+729*ts.length<=14*(ts.length*c):=by
  clear l
  induction ts with
  |nil=>simp[Tm.sizes]
  |cons k r ih =>
   rw[Tm.di,Lu,Nat.add_mul,Nat.one_mul];have:=ih (fun t d=>g t (.tail _ d));have y:=g k (.head _);omega
 obtain⟨e,m⟩:∃e,ts.length+e=9:=⟨9-ts.length,by omega⟩;have v:e*729<=e*(14*c):=P6 _ (by omega);have u:ts.length*c+e*c=c*9:=by rw[←Nat.add_mul,m,Nat.mul_comm]
 have q:e*(14*c)=14*(e*c):=Nat.mul_left_comm _ _ _;omega
theorem Dp.zero(h:Hd):Dp 4 (.mk h []):=⟨Ld _,by rw[Tm.fN,Tm.sizes];decide⟩
theorem Dp.leaf{t:Tm}(d:t.depth<=3)(s:t.size<=15):Dp 4 t:=⟨by omega,by omega⟩
noncomputable def ve(K:bA):Sp:=fun t H Q _=>∃(f d r:Addr) (o:V) (S:eM) (m:List Str) (e:Kl) (q:List (Str×List Kk×Kk)) (u:List Int) (k:Kk) (p:List (Str×Kk)),t=[.ref f,.ref d,.ref r,o]/\bx K H f d S m e q u/\wY K H f S e r p/\Rp K H (bW k) o/\k.ok (kn e)/\k.dep<=S.kb/\p.length<=S.pb /\
 ∀(v:V) (j:Hp) (l:Tm) (g:List Int),bH [S.lg,S.la] f H j->bx K j f d S m e q g->Rp K j (enc l) v->Ej K f S e H j g l->Dp 4 l->Q v j
theorem bx.ni{H:Hp}{f d:Addr}{S:eM}{xs:List Str}{e:Kl}{j:List (Str×List Kk×Kk)}{g:List Int}(s:bx K H f d S xs e j g):bH [S.lg,S.la] f H H:=bH.refl s.ff
theorem bu:Nm ["_law_feed_here","_law_scene_here","_law_around","_law_kind","_law_some","_law_form","_law_n"] (aj kB):=by decide +kernel
theorem pY:Lm ["_law_feed_here","_law_scene_here","_law_around","_law_kind","_law_some","_law_form","_law_n"] (aj kB):=by decide +kernel
theorem m6:aI ["_law_feed_here","_law_scene_here","_law_around","_law_kind","_law_some","_law_form","_law_n"] ["_law_feed_here","_law_scene_here","_law_around","_law_kind"] (aj kB):=⟨rfl,rfl,rfl,by decide +kernel,rfl,by decide +kernel,by decide +kernel⟩
theorem Ek{f:Addr}{fd:zo}(F:gX K "_law_leaf" "_law_leaf" kB f fd){j:Nat}(hj:1<=j)(TK:bY P w K mg base "_law_take" 1 ["_law_feed_here","_law_many"] eJ gT tfd)(NO:bY P w K mg base "_law_nought" j ["_law_feed_here","_law_scene_here","_law_kind"] (mS K 4) gO ofd)(z_len:mg "len"=none)(G:mg "list"=none):bK P w K mg base eL (j+1) f fd ["_law_feed_here","_law_scene_here","_law_around","_law_kind"] (ve K):=by
 refine F.ok m6 (fun vs H Q E h=>?_) (fun dd A bq s H vs Q E hr h=>?_)
 ·obtain⟨_,_,_,_,_,_,_,_,_,_,_,rfl,_⟩:=h;rfl
 obtain⟨Z,d,ar,vk,S,xs,kl,dl,g,kk,ps,rfl,B,ai,rk,ok,bs,bp,k⟩:=h;obtain⟨dh,dg,df⟩:=B.bb;refine⟨_,(Z6 (Zi (aj kB) ["_law_feed_here","_law_scene_here","_law_around","_law_kind","_law_some","_law_form","_law_n"] ["_law_x","_law_one"] [3] (cX (va bu 2)) (fun _ _ _ _=>(Zc (Zh (Z3 (i:=0) (show(["_law_x","_law_one","_law_kind"]:List Str).Nodup by decide +kernel)) (aG (Z3 (i:=1) (show(["_law_x","_law_one","_law_kind"]:List Str).Nodup by decide +kernel)) aZ)))) (fun _ _ _ _=>(@gz _ _ _ (Zq (zf K rfl hr.qy) (va (show Nm ["_law_x","_law_one","_law_kind"] _ by show _=_;kernel_rfl) 1) (va (show Nm ["_law_x","_law_one","_law_kind"] _ by show _=_;kernel_rfl) 2)))) (fun _ _ _ _=>(va (show Nm ["_law_x","_law_one","_law_kind"] _ by show _=_;kernel_rfl) 0)) (ga m6.nd pY 4)) (Z6 (Z2 m6.nd pY 5 (Z0 TK (cT (va bu 0) (Zb ao)))) (Z6 (Zd (PW.pt (@gY _ _ _ _ _ _ _ (Zq bJ (va bu 5) ao) (@gm _ _ _ _ (Zf lY (Z5 aB (Z1 (Zk (va bu 1)) ak)) (Zk (va bu 1)))))) (Z6 (Z2 m6.nd pY 6 (Zl aW (@bg _ _ _ _ (Z1 (Zm cR (Zm jf ao (Z5 aB (Z1 (Zk (va bu 1)) ak))) ao) (Z1 (Zm bL ao (Z5 aB (Z1 (Zk (va bu 1)) ak))) ak))) (Zk (va bu 1)))) (Z6 (@cu _ _ _ _ (Z7 Ll Ln cz (Zk (va bu 1)) (Zb (va bu 6))) (by rfl)) (Z6 (@jN _ _ _ _ _ _ _ _ _ (jo hr) (Zk (va bu 1)) (va bu 6) (Ze (Z1 (va bu 3) (Z1 (Z4 iS G Nu (Zb (va bu 2))) (Z1 (Z4 iS G Nu (Z1 (Zk (va bu 1)) ak)) ak)))) (by rfl)) (Zg (Zn (Ze (Z1 az (Zb (va bu 6)))))))))) (Z6 (Zd (PW.pt (@gY _ _ _ _ _ _ _ (Zq lY (va bu 5) ao) (@gm _ _ _ _ (Zf nu (Z5 aB (Zb (va bu 4))) ao)))) (Zg (Zn (Ze (Z1 az (Z1 (Zl aW (va bu 4) (Z0 TK (Z1 (va bu 0) (Z1 (Z5 aB (Zb (va bu 4))) ak)))) ak)))))) (Zg (Zn (Z0 NO (Z1 (va bu 0) (Z1 (va bu 1) (Zb (va bu 3))))))))))),?_⟩
 try dsimp only[bM]
 try dsimp only[bM]
 obtain⟨ci,b8,a4⟩:=ai.aa;have lp:=a4.length;rw[bC]at lp;have bv:=ai.pl;have cb:(bW kk).dep<=150:=I0 (iz kk) (by omega);refine jy ?_;intro N1 N2 N3 N4 c1 c2 c3 c4;fail "R";refine ik (e:=sA) (φ:=fun p=>if bW p.2=bW kk then [.s p.1]else []) (fun σ=>∃x y,σ=[x,y,some vk]) b8 a4 (by omega) (fun p=>by split<;>simp) ⟨_,_,rfl⟩ ?_ ?_
 ·rintro p hp x _ H6 N s6 ⟨_,_,rfl⟩ rx kN;obtain⟨xa,x1,x2,rfl,cd,r1,r2⟩:=(show Rp K H6 (.t [.s p.1,bW p.2]) x from rx).t2;obtain rfl:=r1.aR;have c7:(bW p.2).dep<=150:=I0 (iz _) (by have:=(ai.pk p hp).2.1;omega);have ay:=rk.same s6;fail "R";refine cH (fun c=>?_) (fun c=>?_)
  ·fail "R";exact kN _ _ _ ⟨⟨_,_,rfl⟩,aF.refl _,by rw[if_pos (of_decide_eq_true c)];exact .one .s⟩
  ·exact kN _ _ _ ⟨⟨_,_,rfl⟩,aF.refl _,by rw[if_neg (fun z=>c (decide_eq_true z))];exact .nil⟩
 intro ls H1 ws s1 b4 h1 r1
 have lw:ws.length<=60:=by
  rw[r1.length];exact I0 (uI (fun p=>by split<;>simp) _) bv
 have bt:∀v∈ws,∃y,v=.str y/\Wd y:=by
  intro v hv;obtain⟨i,hi⟩:=MI hv;obtain⟨t,ht,rt⟩:=r1.get' hi;obtain⟨p,hp,hm⟩:=Nl.mp (we ht)
  split at hm
  ·rw[nt.mp hm]at rt;exact⟨_,rt.aR,(ai.pk p hp).2.2⟩
  ·cases hm
 have a3:=B.same s1;have di:=ai.tX (B.ni.same s1);have cf:=rk.same s1;have a7:ls≠Z:=bX B.ff b4;have c6:=a3.ff;fail "R";intro fm H2 dc db x2;have f2:bH [S.lg,S.la] Z H H2:=(B.ni.same s1).ext x2;have r:=a3.ext x2;have bm:=rk.kt f2.kt;have b9:=x2.1 _ _ a7 h1;have c5:=r.ff;obtain⟨l,J,cs,ba⟩:=B.la;obtain⟨n0,n1,n2,n3,n4,n5,n6⟩:=B.nf;have X:H2 S.la=some (.dK l):=x2.1 _ _ n6 (s1 _ _ J);have aw:∀{H3:Hp},bH [S.lg,S.la] Z H H3->H3 S.la=some (.dK l)->GG K Z S kl H H3 g []:=fun fr e=>(GG.nil B).go fr (e.trans J.symm)
 have R:N4 [some (.ref Z),some (.ref d),some (.ref ar),some vk,some (.ref ls),some (.int fm),none] H2:=by
  have cj:kk.ok ((kn kl).take kl.length):=by rw[LO (by unfold kn;rw[bC];exact lj _)];exact ok
  have k4:kl.length<4:=by have:=B.k3;omega
  have cn:kk.dep<=100:=by omega
  have cv:=lj kl.length;fail "R";intro v H3 tm x3 r3 tk d3 z3;exact k v H3 tm g (f2.ext x3) (r.ext x3) r3 ⟨tk.1,by rw[tk.2];exact aw (f2.ext x3) (x3.1 _ _ n6 X)⟩ (.leaf (by have:=B.k3;omega) (by have:=ND (n:=2) (by omega) (show kl.length+1<=4 by omega);omega))
 have al:N3 [some (.ref Z),some (.ref d),some (.ref ar),some vk,some (.ref ls),some (.int fm),none] H2:=by
  clear c4;fail "R";refine cH (fun c=>?_) (fun c=>?_)
  ·fail "R";refine cH (fun c2=>?_) (fun c2=>?_)
   ·have de:(0:Int)<(ws.length:Int):=of_decide_eq_true c2;have ck:(ws.length:Int)<1073741824:=by omega
    fail "R";intro r5 H5 bo bn x5;have da:=x5.1 _ _ a7 b9;obtain⟨v5,co,b3⟩:=mj (xs:=ws) bo bn;obtain⟨y5,rfl,bk⟩:=bt v5 b3;fail "R";intro p6 b0;have s6:=ae b0 (.tup [.str "name",.str y5]);refine k _ _ (.mk (.name y5) []) g ((f2.ext x5).same s6) ((r.ext x5).same s6) (by rw[bw];exact Rp.t (bN.of af) (.cons .s (.one .s))) ⟨.mk rfl (Ld _) (fun k hk=>nomatch hk) bk,by rw[fJ rfl];exact aw ((f2.ext x5).same s6) (s6 _ _ (x5.1 _ _ n6 X))⟩ (.zero _)
   ·fail "R";exact R
  ·fail "R";exact R
 clear c3 c4;have c0:=r.get (uW S);have cy:=r.get (Gn S);have ct:=r.lg;have cq:=r.mo;have cr:=r.mm;fail "R";refine cH (fun c=>?_) (fun c=>?_)
 ·fail "R";refine cH (fun c2=>?_) (fun c2=>?_)
  ·have c3:((g.map V.int).length:Int)<S.mo:=of_decide_eq_true c2;rw[bC]at c3;fail "R";intro lq b5
   have bf:∃n:Int,jM [V.int (7*((g.map V.int).length:Int)+3),.int (99 - ((g.map V.int).length:Int))] S.tn=some (.int n)/\0<=n/\n<1000/\n=rT S.tn g.length:=by
    have:=bC (f:=V.int) (as:=g);rcases r.tn with e|e
    ·rw[e];exact⟨_,bD (j:=0) rfl,by omega,by omega,by rw[bC];rfl⟩
    ·rw[e];exact⟨_,bD (j:=1) rfl,by omega,by omega,by rw[bC];rfl⟩
   obtain⟨n,bf,b2,b1,a9⟩:=bf;have s5:=ae b5 (.lst [.int (7*((g.map V.int).length:Int)+3),.int (99 - ((g.map V.int).length:Int))]);have h5:upd H2 lq (.lst [.int (7*((g.map V.int).length:Int)+3),.int (99 - ((g.map V.int).length:Int))]) lq=some (.lst [.int (7*((g.map V.int).length:Int)+3),.int (99 - ((g.map V.int).length:Int))]):=af;generalize upd H2 lq (.lst [.int (7*((g.map V.int).length:Int)+3),.int (99 - ((g.map V.int).length:Int))])=H5 at s5 h5⊢;have M:=r.same s5;have f5:=f2.same s5;have cx:=M.get (uW S);have cp:=M.get (Gp S);have ap:=M.lg;have cl:(g.map V.int).length<nk:=bj (by rw[bC];omega);have f6:bH [S.lg,S.la] Z H5 (upd H5 S.lg (.lst (g.map V.int++[.int n]))):=M.ni.upd (.head _) n5 ap;have bc:H5 S.la=some (.dK l):=s5 _ _ X
   have ca:∀(k:Nat) (m:Int),(g++[n])[k]?=some m->m=rT S.tn k:=fun q m T=>by
    by_cases c:q<g.length
    ·rw[LR c]at T;exact B.gn q m T
    ·rw[LJ (by omega)]at T;have h0:q-g.length=0:=by have:=(ko.mp T).1;simp at this;omega
     rw[h0]at T
     cases T
     rw[a9,show q=g.length by omega]
   have an:∀kv∈l,∃m∈g++[n],kv.1=Sum.inl m:=fun kv h=>by obtain⟨m,a,b⟩:=ba kv h;exact⟨m,LD _ a,b⟩
   have am:S.la≠S.lg:=cD bc ap (fun z=>nomatch z)
   have W:upd H5 S.lg (.lst (g.map V.int++[.int n])) S.la=some (.dK l):=by rw[av am];exact bc
   have eW:bx K (upd H5 S.lg (.lst (g.map V.int++[.int n]))) Z d S xs kl dl (g++[n]):=M.go f6 (by rw[nq];exact af) ⟨l,W,by rw[lu];omega,an⟩ (by rw[lu];show((g.length+1:Nat):Int)<=_;omega) ca;have a6:=(ai.tX f5).tX f6;have ay:=(bm.same s5).kt f6.kt;obtain⟨C,au,ah⟩:=a6.aa;have b7:bz K (upd H5 S.lg (.lst (g.map V.int++[.int n]))) ar C\/bN K (upd H5 S.lg (.lst (g.map V.int++[.int n]))) ar C:=.inl (bz.of au);have ad:=f5.trans f6;fail "R";generalize upd H5 S.lg (.lst (g.map V.int++[.int n]))=H6 at f6 W eW a6 ay au ah b7 ad⊢;intro l7 a1;have s7:=ae a1 (.lst C);have h7:upd H6 l7 (.lst C) l7=some (.lst C):=af;generalize upd H6 l7 (.lst C)=H7 at s7 h7⊢;have ab:=eW.same s7;have c8:=ab.get (uV S);obtain⟨u,be,ch⟩:=ab.ld;have cc:bz K H7 S.ld u\/bN K H7 S.ld u:=.inl (bz.of be);fail "R";intro l8 a0;have s8:=ae a0 (.lst u);have h8:upd H7 l8 (.lst u) l8=some (.lst u):=af;generalize upd H7 l8 (.lst u)=H8 at s8 h8⊢;have bl:=ab.same s8;fail "R";intro I b6;have s9:=ae b6 (.tup [vk,.ref l7,.ref l8]);have h9:bN K (upd H8 I (.tup [vk,.ref l7,.ref l8])) I [vk,.ref l7,.ref l8]:=bN.of af;generalize upd H8 I (.tup [vk,.ref l7,.ref l8])=H9 at s9 h9⊢;have L:=bl.same s9;have c9:=L.get (zD S);have U:=s9 _ _ (s8 _ _ (s7 _ _ W));have cw:g.length+1<=14:=by omega
   have a5:∀q∈l,q.1≠(Sum.inl n:Key):=fun q T z=>by
    obtain⟨m,hm,e⟩:=ba q T;obtain⟨i,hi⟩:=MI hm;have h1:=B.gn i m hi;have h2:m=n:=S6 (e.symm.trans z);have h3:=wR (h1.symm.trans (h2.trans a9));have:=(ko.mp hi).1;omega
   have a2:putK l (Sum.inl n) (.ref I)=l++[(Sum.inl n,.ref I)]:=zE a5
   have bi:Ask K H H9 Z S kl I:=by
    have m7:=eW.IT a1;have m8:=ab.IT a0
    have new:∀q,H6 q=none->H q=none:=fun q T=>ad.free T fun z=>by
     have:=eW.IT T;rcases ri.mp z with z|z
     ·exact this.2.1 z
     ·exact this.2.2.1 (nt.mp z)
    have ax:=s8.trans s9
    have br:H S.ld=some (.lst u):=by
     obtain⟨ce,h0,_⟩:=B.ld;have:=(ad.same s7).eK B.ng.2.2.2 (cD h0 J (fun z=>nomatch z)) n4 h0
     rw[be]at this;rw[h0,this]
    exact⟨vk,l7,l8,kk,ps,u,h9,(ay.same s7).same ax,ok,bs,⟨⟨C,ax _ _ h7,(ah.same s7).same ax⟩,m7.1,m7.2.1,m7.2.2.1,ai.pk,ai.pl⟩,bp,s9 _ _ h8,br,m8.1,m8.2.1,m8.2.2.2,new _ a1,new _ (s7.free a0)⟩
   have pp:=kY.k (k:=(Sum.inl n:Key)) (v:=.ref I) U (bj (by omega));have f9:=((ad.same s7).same s8).same s9;have ag:=L.ni.sL (o:=.dK (putK l (Sum.inl n) (.ref I))) (.tail _ (.head _)) n6 U;have a8:S.lg≠S.la:=am.symm
   have O:bx K (upd H9 S.la (.dK (putK l (Sum.inl n) (.ref I)))) Z d S xs kl dl (g++[n]):=L.go ag (by rw[av a8];exact L.lg) ⟨_,af,by rw[a2,lu,lu];show l.length+1<=g.length+1;omega,fun kv hk=>by
    rw[a2]at hk;rcases Li.mp hk with hk|hk
    ·exact an kv hk
    ·rw[nt.mp hk];exact⟨n,by simp,rfl⟩⟩ L.mm L.gn
   have bh:=f9.trans ag;have Y:=bi.tX ag U;have D:upd H9 S.la (.dK (putK l (Sum.inl n) (.ref I))) S.la=some (.dK (l++[(Sum.inl n,.ref I)])):=by rw[a2];exact af
   fail "R";generalize upd H9 S.la (.dK (putK l (Sum.inl n) (.ref I)))=H10 at pp ag O bh Y D⊢;intro cm aq;have ac:=ae aq (.tup [.str "gap",.int n]);exact k _ _ (.mk (.gap n) []) (g++[n]) (bh.same ac) (O.same ac) (by rw[bw];exact Rp.new (K:=K) aq (.cons .s (.one .i))) ⟨.mk rfl (Ld _) (fun k hk=>nomatch hk) ⟨b2,b1⟩,g,[n],l,[(Sum.inl n,.ref I)],B.lg,rfl,by unfold lU;rw[Tm.jq,Tm.eA];exact O4 _,J,ac _ _ D,rfl,fun kv hk=>by rw[nt.mp hk];exact⟨I,rfl,Y.tX (O.ni.same ac) D⟩⟩ (.zero _)
  ·fail "R";exact al
 ·fail "R";exact al
end
end G33
namespace L2
open PySem
end L2
namespace HT
open PySem PyProof.Rows
section
open PySem.SeqAt
open PySem.AutoSeq1 (wpAny_loadPart')
open PySem.MeetsSeq PySem.MeetsSeq2 PySem.MeetsSeq3
variable {prog:FG}{w:Lk}{A:Lz}{E:j3->mu->Prop}{s:mu}
end
end HT
namespace L2
open PySem PySem.Spec PyProof.Rows
section
variable {X:Cx}{e st:Expr}{lo hi:Option Expr}{te:TE}{tl th tk:TO}{p2 pos:Pos}
end
end L2
namespace G33
open PySem L2
structure Wk(K:bA) (f d:Addr) (S:eM) (xs:List Str) (kl:Kl) (dl:List (Str×List Kk×Kk)) (H:Hp) (dp:Nat) (ts:List Tm) (us:List V) (gs:List Int) (H':Hp):Prop where
 fr:bH [S.lg,S.la] f H H'
 sc:bx K H' f d S xs kl dl gs
 r:bI K H' (ts.map enc) us
 ok:∀t∈ts,Tok t/\Dp dp t
 gg:GG K f S kl H H' gs (ts.flatMap lU)
 lb:∃vs,H S.ld=some (.lst vs)
section
variable {K:bA}{H H5 H6:Hp}{f d ar:Addr}{S:eM}{xs:List Str}{kl:Kl}{dl:List (Str×List Kk×Kk)}{gs g5 g6:List Int}{dp:Nat}{ts:List Tm}{us:List V}{ps:List (Str×Kk)}
theorem Wk.nil(s:bx K H f d S xs kl dl gs):Wk K f d S xs kl dl H dp [] [] gs H:=⟨s.ni,s,.nil,fun t h=>(nomatch h),GG.nil s,by obtain⟨e,h,_⟩:=s.ld;exact⟨e,h⟩⟩
theorem Wk.same(w:Wk K f d S xs kl dl H dp ts us g5 H5)(e:aF H5 H6):Wk K f d S xs kl dl H dp ts us g5 H6:=⟨w.fr.same e,w.sc.same e,w.r.same e,w.ok,by obtain⟨g,h,_⟩:=w.sc.la;exact w.gg.go (w.sc.ni.same e) ((e _ _ h).trans h.symm),w.lb⟩
theorem Wk.ext(w:Wk K f d S xs kl dl H dp ts us g5 H5)(e:Ext f H5 H6):Wk K f d S xs kl dl H dp ts us g5 H6:=⟨w.fr.ext e,w.sc.ext e,w.r.kt (e.kt w.sc.ff),w.ok,by obtain⟨j,h,_⟩:=w.sc.la;obtain⟨_,_,_,_,_,_,g⟩:=w.sc.nf;exact w.gg.go (w.sc.ni.ext e) ((e.1 _ _ g h).trans h.symm),w.lb⟩
theorem Wk.new(w:Wk K f d S xs kl dl H dp ts us g5 H5){p:Addr}(e:H5 p=none):H p=none:=by
 refine w.fr.free e fun z=>?_;rcases ri.mp z with rfl|z
 ·rw[w.sc.lg]at e;cases e
 ·rw[nt.mp z]at e;obtain⟨g,h,_⟩:=w.sc.la;rw[h]at e;cases e
theorem Wk.Ic(w:Wk K f d S xs kl dl H dp ts us g5 H5)(e:List V)(h:H5 S.ld=some (.lst e)):H S.ld=some (.lst e):=by
 obtain⟨l,g⟩:=w.lb;obtain⟨m,j,_⟩:=w.sc.la;have:=w.fr.eK w.sc.ng.2.2.2 (cD h j (fun z=>nomatch z)) w.sc.nf.2.2.2.2.1 g
 rw[h]at this;rw[g,this]
theorem Wk.snoc{e:Tm}{v:V}(w:Wk K f d S xs kl dl H dp ts us g5 H5)(fr:bH [S.lg,S.la] f H5 H6)(j:bx K H6 f d S xs kl dl g6)(l:Rp K H6 (enc e) v)(tk:Ej K f S kl H5 H6 g6 e)(hd:Dp dp e):Wk K f d S xs kl dl H dp (ts++[e]) (us++[v]) g6 H6:=by
 refine⟨w.fr.trans fr,j,?_,fun t m=>?_,?_,w.lb⟩
 ·rw[nq];exact(w.r.kt fr.kt).snoc l
 ·rcases Li.mp m with h|h
  ·exact w.ok t h
  ·rw[nt.mp h];exact⟨tk.tk,hd⟩
 ·rw[Ma,show [e].flatMap lU=lU e by simp];exact w.gg.trans w.sc (fun _ h=>w.new h) w.Ic fr tk.g
theorem Wk.Gq{e:Tm}(w:Wk K f d S xs kl dl H dp [] us g5 H5)(fr:bH [S.lg,S.la] f H5 H6)(tk:Ej K f S kl H5 H6 g6 e):Ej K f S kl H H6 g6 e:=⟨tk.tk,by simpa using w.gg.trans w.sc (fun _ h=>w.new h) w.Ic fr tk.g⟩
theorem Wk.rp(w:Wk K f d S xs kl dl H dp ts us g5 H5){x:T}{v:V}(r:Rp K H x v):Rp K H5 x v:=r.kt w.fr.kt
theorem Wk.qI(w:Wk K f d S xs kl dl H dp ts us g5 H5)(a:wY K H f S kl ar ps):wY K H5 f S kl ar ps:=a.tX w.fr
theorem Wk.tok(w:Wk K f d S xs kl dl H dp ts us g5 H5){h:Hd}(ar:cM h ts.length=true/\wV h)(l:ts.length<=9)(g:2<=dp):Ej K f S kl H H5 g5 (.mk h ts)/\Dp (dp+1) (.mk h ts):=⟨⟨.mk ar.1 l (fun t e=>(w.ok t e).1) ar.2.ok,by rw[fJ ar.2.no];exact w.gg⟩,Dp.mk g (fun t e=>(w.ok t e).2) l⟩
theorem bx.no{p:Addr}(s:bx K H f d S xs kl dl gs)(e:H p=none):p≠f/\p≠S.lg/\p≠S.la:=by
 refine⟨bX s.ff e,fun z=>?_,fun z=>?_⟩
 ·rw[z,s.lg]at e;cases e
 ·obtain⟨g,h,_⟩:=s.la;rw[z,h]at e;cases e
theorem Wk.put{p:Addr}{m e:List V}(w:Wk K f d S xs kl dl H dp ts us g5 H5)(j:bx K H f d S xs kl dl gs)(l:H p=none)(h:H5 p=some (.lst m))(gg:GG K f S kl H (upd H5 p (.lst e)) g5 (ts.flatMap lU)):Wk K f d S xs kl dl H dp ts us g5 (upd H5 p (.lst e)):=by
 obtain⟨u,t,q⟩:=j.no l;have fr:=w.fr.yk (o:=.lst e) l u h;obtain⟨g,y,v⟩:=w.sc.la;exact⟨fr,j.go fr (by rw[av t.symm];exact w.sc.lg) ⟨g,by rw[av q.symm];exact y,v⟩ w.sc.mm w.sc.gn,w.r.kt (Kt.lst h _),w.ok,gg,w.lb⟩
theorem oZ(ps e:List (Str×Kk)):(oY ps e).length<=ps.length+e.length:=by
 unfold oY;rw[lu];have:=O9 (fun p=>!decide (p.1∈e.map (·.1))) ps;omega
theorem wY.near{p:Addr}{e:List (Str×Kk)}(a:wY K H f S kl ar ps)(g:bx K H f d S xs kl dl gs)(o:∀q∈e,q.2.ok (kn kl)/\q.2.dep<=60/\Wd q.1)(u:ps.length+e.length<=60)(r:H p=none)(v:wX K H6 p (oY ps e)):wY K H6 f S kl p (oY ps e):=by
 obtain⟨m,l,j⟩:=g.no r;refine⟨v,m,l,j,fun q t=>?_,I0 (oZ _ _) u⟩;rcases Li.mp t with h|h
 ·exact a.pk q (PK.mp h).1
 ·exact o q h
theorem AN{o:Hp}{xs:List Str}{ks:List Kk}{e:List V}{ts:List Addr}(E:xs.length=ks.length)(z:FU (xs.map V.str) e ts H o)(r:bI K H (ks.map bW) e):bI K o ((xs.zip ks).map sA) (ts.map V.ref):=by
 obtain⟨q,len,at_⟩:=z;have v:=r.length;rw[bC]at len v
 have g:∀(n:Nat),n<=xs.length->bI K o (((xs.zip ks).take n).map sA) ((ts.take n).map V.ref):=by
  intro n
  induction n with
  |zero=>intro _;exact .nil
  |succ n ih =>
   intro B;have A:n<xs.length:=B;have j:n<ks.length:=by omega
   have p:n<ts.length:=by omega
   have w:n<(xs.zip ks).length:=by rw[P1];omega
   rw[Lc w,Lc p,nq,nq];refine(ih (by omega)).append (.one ?_);obtain⟨x,y,m,D,C⟩:=at_ n _ (m3 p);obtain⟨t,l,u⟩:=r.get' D;rw[rz,m3 A]at m;rw[rz,m3 j]at l;simp at m l;subst m l;rw[List.getElem_zip];exact Rp.t (bN.of C) (.cons .s (.one (u.same q)))
 have:=g xs.length (lj _)
 rwa [LO (by rw[P1];omega),LO (by omega)]at this
theorem wZ:∀{arms:List (Str×List Str)}{ts:List T}(a:Str×List Str) (t:T),arms.length=ts.length->LK gw (arms++[a]) (ts++[t])=LK gw arms ts++[gw a t]
 | [],[],_,_,_=>rfl
 |b::r,u::q,a,t,h=>by
  show gw b u::LK gw (r++[a]) (q++[t])=_;rw[wZ a t (Tn h)];rfl
theorem bx.name(s:bx K H f d S xs kl dl gs){r:Int}(o:0<=r)(m:r<6):∃x,jM (((xs.drop 12).take 6).map V.str) r=some (.str x)/\Wd x:=by
 have l:=s.lx;obtain⟨v,g,j⟩:=mj (xs:=((xs.drop 12).take 6).map V.str) (k:=r) o (by rw[bC,Lb,Nk,l];exact m);obtain⟨x,e,rfl⟩:=L8.mp j;exact⟨x,g,s.un.2 x (Ou (Ly e))⟩
noncomputable def nT(K:bA)(n:Nat):Sp:=fun p H Q _=>∃(f d ar:Addr) (o:V) (e g:Int) (S:eM) (xs:List Str) (kl:Kl) (dl:List (Str×List Kk×Kk)) (gs:List Int) (ps:List (Str×Kk)) (k:Kk),p=[.ref f,.ref d,.ref ar,o,.int e,.int g]/\bx K H f d S xs kl dl gs/\wY K H f S kl ar ps/\Rp K H (bW k) o/\k.ok (kn kl)/\k.dep+n<=S.kb/\0<=g/\g<n/\-1<=e/\e<=1000/\ps.length+2*n<=S.pb /\
 ∀(v:V) (l:Hp) (m:Tm) (j:List Int),bH [S.lg,S.la] f H l->bx K l f d S xs kl dl j->Rp K l (enc m) v->Ej K f S kl H l j m->Dp (n+3) m->Q v l
noncomputable def CH(K:bA)(n:Nat):Sp:=fun q H Q _=>∃(f d ar:Addr) (o p:V) (e g:Int) (S:eM) (xs:List Str) (kl:Kl) (dl:List (Str×List Kk×Kk)) (gs:List Int) (ps:List (Str×Kk)) (k:Kk) (x:Str),q=[.ref f,.ref d,.ref ar,o,p,.int e,.int g]/\bx K H f d S xs kl dl gs/\wY K H f S kl ar ps/\Rp K H (bW k) o/\k.ok (kn kl)/\k.dep+n<=S.kb/\Rp K H (bW (.kd x)) p/\x∈kn kl/\0<=g/\g<n/\-1<=e/\e<=1000/\ps.length+2*n+2<=S.pb /\
 ∀(v:V) (m:Hp) (j:List (Str×List Str)) (ts:List Tm) (l:List Int),bH [S.lg,S.la] f H m->bx K m f d S xs kl dl l->Rp K m (.t (LK gw j (ts.map enc))) v->j.length=ts.length->ts.length<=3->(∀a∈j,Wd a.1/\a.2.length<=2/\∀y∈a.2,Wd y)->(∀t∈ts,Tok t/\Dp (n+3) t)->GG K f S kl H m l (ts.flatMap lU)->Q v m
noncomputable def tZ(K:bA)(n:Nat):Sp:=fun p H Q _=>∃(f d ar:Addr) (o:V) (e g:Int) (S:eM) (xs:List Str) (kl:Kl) (dl:List (Str×List Kk×Kk)) (gs:List Int) (ps:List (Str×Kk)) (k:Kk),p=[.ref f,.ref d,.ref ar,o,.int e,.int g]/\bx K H f d S xs kl dl gs/\wY K H f S kl ar ps/\Rp K H (bW k) o/\k.ok (kn kl)/\k.dep+n<=S.kb/\1<=g/\g<n/\4<=e/\e<=1000/\ps.length+2*n<=S.pb /\
 ∀(v:V) (l:Hp) (m:Tm) (j:List Int),bH [S.lg,S.la] f H l->bx K l f d S xs kl dl j->Rp K l (enc m) v->Ej K f S kl H l j m->Dp (n+3) m->Q v l
end
section
variable {K:bA}{H H':Hp}{f d:Addr}{S:eM}{xs:List Str}{kl:Kl}{dl:List (Str×List Kk×Kk)}{gs:List Int}
theorem cW.get{nn:List Addr}:∀{dl:List (Str×List Kk×Kk)}{g:List V}{i:Nat}{v:V},cW K H nn dl g->g[i]?=some v->∃dd∈dl,AJ K H nn dd v
 | [],_,_,_,h,e=>by subst h;cases e
 |dd::r,_,0,v,⟨u,us,e1,h,_⟩,e=>by
  subst e1
  cases e
  exact⟨dd,.head _,h⟩
 |dd::r,_,i+1,v,⟨u,us,e1,_,h⟩,e=>by
  subst e1;obtain⟨l,m,j⟩:=cW.get h (show us[i]?=some v from e);exact⟨l,.tail _ m,j⟩
theorem cW.len{nn:List Addr}:∀{dl:List (Str×List Kk×Kk)}{e:List V},cW K H nn dl e->e.length=dl.length
 | [],_,h=>by subst h;rfl
 |dd::r,_,⟨u,us,e1,_,h⟩=>by
  subst e1;rw[Lu,Lu,cW.len h]
theorem qJ{Q:VK}(o:bx K H f d S xs kl dl gs)(k:∀(l:Addr) (H':Hp),aF H H'->H l=none->H' l=some (.lst ((kn kl).map V.str))->Q (.ref l) H'):jP (Bd K S.kd) (Ba K 2 (qc (iD 0) (qc (iD 1) Dl))) tI (nX 0) Q [none,none] H:=by
 obtain⟨I,v,A,m,j⟩:=o.kd.aY
 cases A
 have J:=o.k3;refine fB (e:=Eh) (φ:=fun k=>[.s k.1]) (fun q=>∃a b,q=[a,b]) m j (by omega) (fun k=>lj _) ⟨_,_,rfl⟩ ?_ ?_
 ·rintro p hp y _ H6 N s6 ⟨_,_,rfl⟩ rx kN;obtain⟨C,E,D,rfl,r,g,r2⟩:=(show Rp K H6 (.t [.s p.1,.t (p.2.map nR)]) y from rx).t2;fail "R";exact kN _ _ _ ⟨⟨_,_,rfl⟩,aF.refl _,.one g⟩
 intro l B G u w z g;rw[iL (fun p:Str×List (Str×List Kk)=>T.s p.1),show(kl.map fun p=>T.s p.1)=(kn kl).map T.s from by unfold kn;rw[Nd];rfl]at g;obtain rfl:=g.rH;exact k l B u w z
theorem bx.GR(e:bx K H f d S xs kl dl gs):(kn kl).length<=3:=by unfold kn;rw[bC];exact e.k3
structure CI(K:bA) (f d:Addr) (S:eM) (xs:List Str) (kl:Kl) (dl:List (Str×List Kk×Kk)) (H:Hp) (dp:Nat) (i:Nat) (us:List V) (H':Hp):Prop where
 x:∃(ts:List Tm) (gs:List Int),Wk K f d S xs kl dl H dp ts us gs H'/\ts.length=i
end
section
variable {P:FG}{w:Lk}{K:bA}{mg:Str->Option j3}{base:Heap}{gT gE gG gN gL gA:Addr}{tfd efd gfd nfd lfd afd:zo}
theorem au:Nm ["_law_feed_here","_law_scene_here","_law_around","_law_kind","_law_room","_law_down","_law_half","_law_goal","_law_one","_law_form","_law_many","_law_share","_law_tags","_law_t","_law_inner"] (aj gJ):=by decide +kernel
theorem ee:Lm ["_law_feed_here","_law_scene_here","_law_around","_law_kind","_law_room","_law_down","_law_half","_law_goal","_law_one","_law_form","_law_many","_law_share","_law_tags","_law_t","_law_inner"] (aj gJ):=by decide +kernel
theorem dw:aI ["_law_feed_here","_law_scene_here","_law_around","_law_kind","_law_room","_law_down","_law_half","_law_goal","_law_one","_law_form","_law_many","_law_share","_law_tags","_law_t","_law_inner"] ["_law_feed_here","_law_scene_here","_law_around","_law_kind","_law_room","_law_down"] (aj gJ):=⟨rfl,rfl,rfl,by decide +kernel,rfl,by decide +kernel,by decide +kernel⟩
theorem El{f:Addr}{fd:zo}{n j jg jl jk je:Nat}(hn:n<=10)(hj:1<=j)(h1:jg<=j)(h2:jl<=j)(h3:jk<=j)(h4:je<=j)(F:gX K "_law_term" "_law_term" gJ f fd)(TK:bY P w K mg base "_law_take" 1 ["_law_feed_here","_law_many"] eJ gT tfd)(AK:bY P w K mg base "_law_any_kind" jk ["_law_feed_here","_law_known","_law_down"] (fW K 3) gA afd)(TG:bY P w K mg base "_law_tags_of" 1 ["_law_scene_here","_law_kind"] (kR K) gG gfd)(TE:bY P w K mg base "_law_term" je ["_law_feed_here","_law_scene_here","_law_around","_law_kind","_law_room","_law_down"] (nT K n) gE efd)(GN:bY P w K mg base "_law_generic" jg ["_law_feed_here","_law_scene_here","_law_around","_law_kind","_law_room","_law_down"] (tZ K (n+1)) gN nfd)(LF:bY P w K mg base "_law_leaf" jl ["_law_feed_here","_law_scene_here","_law_around","_law_kind"] (ve K) gL lfd)(z_len:mg "len"=none)(G:mg "tuple"=none)(aa:mg "max"=none)(z_range:mg "range"=none)(ad:mg "int"=none):bK P w K mg base eL (j+1) f fd ["_law_feed_here","_law_scene_here","_law_around","_law_kind","_law_room","_law_down"] (nT K (n+1)):=by
 refine F.ok dw (fun vs H Q E h=>?_) (fun et A b2 s H vs Q E hr h=>?_)
 ·obtain⟨_,_,_,_,_,_,_,_,_,_,_,_,_,rfl,_⟩:=h;rfl
 obtain⟨fe,d,ar,vk,g,o,S,xs,kl,dl,gs,ps,kk,rfl,sc,ai,rk,ok,dy,ep,eo,de,dd,d2,k⟩:=h;refine⟨_,(Z6 (Zd (PW.pt (@sX _ _ _ _ _ _ _ (Zq lY (va au 4) ao) (@sX _ _ _ _ _ _ _ (Zq lY (va au 5) ao) (@qM _ _ _ _ (Zf bJ (Z0 TK (cT (va au 0) (Zb ao))) ao))))) (Zg (Zn (Z0 LF (Z1 (va au 0) (Z1 (va au 1) (Z1 (va au 2) (Zb (va au 3))))))))) (Z6 (Zd (Zf bJ (Z0 TK (cT (va au 0) (Zb ao))) ao) (Zg (Zn (Z0 GN (Z1 (va au 0) (Z1 (va au 1) (Z1 (va au 2) (Z1 (va au 3) (Z1 (va au 4) (Zb (va au 5))))))))))) (Z6 (Z2 dw.nd ee 6 (Zm jK (aX bL (va au 4) ao) ao)) (Z6 (Zd (Zq (rm hr.qy) (va au 3) az) (Z6 (Zd (Zf bJ (Z0 TK (cT (va au 0) (Zb ao))) ao) (Z6 (Z2 dw.nd ee 7 (Z0 AK (Z1 (va au 0) (Z1 (Za (aj gJ) ["_law_feed_here","_law_scene_here","_law_around","_law_kind","_law_room","_law_down","_law_half","_law_goal","_law_one","_law_form","_law_many","_law_share","_law_tags","_law_t","_law_inner"] ["_law_name","_law_tags"] [] (@dh _ _ _ _ (Zk (va au 1))) (fun _ _ _ _=>(Zc (Zh (Z3 (i:=0) (show(["_law_name","_law_tags"]:List Str).Nodup by decide +kernel)) (aG (Z3 (i:=1) (show(["_law_name","_law_tags"]:List Str).Nodup by decide +kernel)) aZ)))) (fun _ _ _ _=>(va (show Nm ["_law_name","_law_tags"] _ by show _=_;kernel_rfl) 0))) (Zb ao))))) (Zg (Zn (Ze (Z1 az (Z1 (Z0 TE (Z1 (va au 0) (Z1 (va au 1) (Z1 (va au 2) (Z1 (Ze (Z1 az (Zb (va au 7)))) (Z1 (aX bL (va au 4) ao) (Z1 (aX bL (va au 5) ao) ak))))))) ak))))))) (Z6 (Z2 dw.nd ee 8 (Z0 TE (Z1 (va au 0) (Z1 (va au 1) (Z1 (va au 2) (Z1 az (Z1 (va au 6) (Z1 (aX bL (va au 5) ao) ak)))))))) (Zg (Zn (Ze (Z1 az (Z1 (Zl uw az (Z0 TK (cT (va au 0) (Zb ao)))) (Z1 (va au 8) (Z1 (Z0 TE (Z1 (va au 0) (Z1 (va au 1) (Z1 (va au 2) (Z1 az (Z1 (va au 6) (Z1 (aX bL (va au 5) ao) ak))))))) ak)))))))))) (Z6 (Zd (Zf bJ (Z9 aQ (va au 3)) az) (Z6 (Z2 dw.nd ee 9 (Z0 TK (cT (va au 0) (Zb ao)))) (Z6 (Zd (Zq bJ (va au 9) ao) (Zg (Zn (Ze (Z1 az (Z1 (Z0 TE (Z1 (va au 0) (Z1 (va au 1) (Z1 (va au 2) (Z1 (va au 3) (Z1 (aX bL (va au 4) ao) (Z1 (aX bL (va au 5) ao) ak))))))) ak)))))) (Z6 (Zd (Zq bJ (va au 9) ao) (Z6 (Z2 dw.nd ee 8 (Z0 TE (Z1 (va au 0) (Z1 (va au 1) (Z1 (va au 2) (Z1 (Z9 (fP K rfl) (va au 3)) (Z1 (va au 6) (Z1 (aX bL (va au 5) ao) ak)))))))) (Zg (Zn (Ze (Z1 az (Z1 (va au 8) (Z1 (Z0 TE (Z1 (va au 0) (Z1 (va au 1) (Z1 (va au 2) (Z1 (va au 3) (Z1 (va au 6) (Z1 (aX bL (va au 5) ao) ak))))))) ak)))))))) (Z6 (Z2 dw.nd ee 10 (Z0 TK (Z1 (va au 0) (Z1 (Zl aW (@bg _ _ _ _ (cT ao (Zb ao))) (Z4 iY ad MT (Z1 (@kW _ _ _ _ _ _ _ _ bJ (Z0 TK (cT (va au 0) (Zb ao))) ao (nG _)) ak))) ak)))) (Z6 (Z2 dw.nd ee 11 (Zm jK (aX bL (va au 4) ao) (@dS _ _ _ _ _ _ _ _ _ (pK rfl) (by show _=_;kernel_rfl) aa Pa (Z1 ao (Zb (va au 10))) (by decide) (by decide) (by rfl) (by rfl)))) (Zg (Zn (Ze (Z1 az (Z1 (Z4 aH G Le (Z1 (Za (aj gJ) ["_law_feed_here","_law_scene_here","_law_around","_law_kind","_law_room","_law_down","_law_half","_law_goal","_law_one","_law_form","_law_many","_law_share","_law_tags","_law_t","_law_inner"] ["_law_k"] [0,1,2,3,5,11] (Zp (Zb (va au 10))) (fun _ _ _ _=>(Z3 (i:=0) (show(["_law_k","_law_feed_here","_law_scene_here","_law_around","_law_kind","_law_down","_law_share"]:List Str).Nodup by decide +kernel))) (fun _ _ _ _=>(Z0 TE (Z1 (va (show Nm ["_law_k","_law_feed_here","_law_scene_here","_law_around","_law_kind","_law_down","_law_share"] _ by show _=_;kernel_rfl) 1) (Z1 (va (show Nm ["_law_k","_law_feed_here","_law_scene_here","_law_around","_law_kind","_law_down","_law_share"] _ by show _=_;kernel_rfl) 2) (Z1 (va (show Nm ["_law_k","_law_feed_here","_law_scene_here","_law_around","_law_kind","_law_down","_law_share"] _ by show _=_;kernel_rfl) 3) (Z1 (Z9 (fP K rfl) (va (show Nm ["_law_k","_law_feed_here","_law_scene_here","_law_around","_law_kind","_law_down","_law_share"] _ by show _=_;kernel_rfl) 4)) (Z1 (va (show Nm ["_law_k","_law_feed_here","_law_scene_here","_law_around","_law_kind","_law_down","_law_share"] _ by show _=_;kernel_rfl) 6) (Z1 (aX bL (va (show Nm ["_law_k","_law_feed_here","_law_scene_here","_law_around","_law_kind","_law_down","_law_share"] _ by show _=_;kernel_rfl) 5) ao) ak))))))))) ak)) ak))))))))))) (Z6 (Z2 dw.nd ee 12 (Z0 TG (Z1 (va au 1) (Zb (va au 3))))) (Z6 (Zo (Zl aQ (va au 12) (Z0 TK (Z1 (va au 0) (Z1 (Z5 aB (Zb (va au 12))) ak)))) (Zc (Zh (ga dw.nd ee 13) (aG (ga dw.nd ee 14) aZ)))) (Z6 (Z2 dw.nd ee 11 (Zm jK (aX bL (va au 4) ao) (@dS _ _ _ _ _ _ _ _ _ (pK rfl) (by show _=_;kernel_rfl) aa Pa (Z1 ao (Z1 (Z5 aB (Zb (va au 14))) ak)) (by decide) (by decide) (by rfl) (by rfl)))) (Zg (Zn (Ze (Z1 az (Z1 (va au 13) (Z1 (Z4 aH G Le (Z1 (Za (aj gJ) ["_law_feed_here","_law_scene_here","_law_around","_law_kind","_law_room","_law_down","_law_half","_law_goal","_law_one","_law_form","_law_many","_law_share","_law_tags","_law_t","_law_inner"] ["_law_one"] [0,1,2,5,11] (dh (va au 14)) (fun _ _ _ _=>(Z3 (i:=0) (show(["_law_one","_law_feed_here","_law_scene_here","_law_around","_law_down","_law_share"]:List Str).Nodup by decide +kernel))) (fun _ _ _ _=>(Z0 TE (Z1 (va (show Nm ["_law_one","_law_feed_here","_law_scene_here","_law_around","_law_down","_law_share"] _ by show _=_;kernel_rfl) 1) (Z1 (va (show Nm ["_law_one","_law_feed_here","_law_scene_here","_law_around","_law_down","_law_share"] _ by show _=_;kernel_rfl) 2) (Z1 (va (show Nm ["_law_one","_law_feed_here","_law_scene_here","_law_around","_law_down","_law_share"] _ by show _=_;kernel_rfl) 3) (Z1 (va (show Nm ["_law_one","_law_feed_here","_law_scene_here","_law_around","_law_down","_law_share"] _ by show _=_;kernel_rfl) 0) (Z1 (va (show Nm ["_law_one","_law_feed_here","_law_scene_here","_law_around","_law_down","_law_share"] _ by show _=_;kernel_rfl) 5) (Z1 (aX bL (va (show Nm ["_law_one","_law_feed_here","_law_scene_here","_law_around","_law_down","_law_share"] _ by show _=_;kernel_rfl) 4) ao) ak))))))))) ak)) ak)))))))))))))),?_⟩
 try dsimp only[bM]
 try dsimp only[bM]
 have cq:ps.length+2*n<=S.pb:=by omega
 have bh:=sc.ff;obtain⟨ew,ev,eu⟩:=sc.bb;have cp:kk.dep+n<=S.kb:=by omega
 have dz:kk.dep<=60:=by omega
 have co:(bW kk).dep<=150:=I0 (iz kk) (by omega);have GR:=sc.GR;refine vW ?_;intro N1 N2 N3 N4 N5 N6 N7 c1 c2 c3 c4 c5 c6 c7;refine yj (fun b H1=>Ext fe H H1/\(b=false->4<=g/\1<=o)) (fun C hC=>?_) (fun H1 h1=>?_) (fun H1 h1=>?_)
 ·clear c1 c2 c3 c4 c5 c6 c7;fail "R";refine cH (fun c=>?_) (fun c=>?_)
  ·exact hC true H ⟨Ext.refl bh,fun z=>nomatch z⟩
  fail "R";refine cH (fun c'=>?_) (fun c'=>?_)
  ·exact hC true H ⟨Ext.refl bh,fun z=>nomatch z⟩
  fail "R";intro r H1 r0 r1 x1;fail "R";refine hC _ H1 ⟨x1,fun _=>?_⟩;have e1:¬g<4:=fun z=>c (decide_eq_true z);have e2:¬o<1:=fun z=>c' (decide_eq_true z);omega
 ·clear c1 c2 c3 c4 c5 c6 c7;have w1:Wk K fe d S xs kl dl H (n+3) [] [] gs H1:=(Wk.nil sc).ext h1.1;have cz:=w1.sc;have e3:=w1.qI ai;have di:=w1.rp rk;fail "R";intro v5 B ag g5 f5 W r5 ah d5;exact k v5 B ag g5 (w1.fr.trans f5) W r5 (w1.Gq f5 ah) (d5.mono (by omega))
 obtain⟨x1,h1⟩:=h1;obtain⟨dc,en⟩:=h1 rfl;have w1:Wk K fe d S xs kl dl H (n+3) [] [] gs H1:=(Wk.nil sc).ext x1;have ec:=w1.sc.ff;fail "R";intro r2 H2 dr dp x2;have w2:=w1.ext x2;have am:=w2.sc;have e0:=w2.qI ai;have a0:=w2.rp rk;have an:=am.ff;fail "R";refine cH (fun c=>?_) (fun c=>?_)
 ·clear c1 c2 c3 c4 c5 c6 c7;fail "R";intro v5 B ag g5 f5 W r5 ah d5;exact k v5 B ag g5 (w2.fr.trans f5) W r5 (w2.Gq f5 ah) d5
 have eg:-1<=(g-1) / 2:=by omega
 have ef:(g-1) / 2<=1000:=by omega
 have es:0<=o-1:=by omega
 have er:o-1<n:=by omega
 have db:-1<=g-1:=by omega
 have da:g-1<=1000:=by omega
 have p:∀(h:Hd) (v:V) (H':Hp) (O:List Tm) (us:List V) (g':List Int),Wk K fe d S xs kl dl H (n+3) O us g' H'->cM h O.length=true/\wV h->O.length<=9->Rp K H' (kZ h (O.map enc)) v->Q v H':=fun h v H' O us g' w' bi l' r' =>
  k v H' (.mk h O) g' w'.fr w'.sc (by rw[bw];exact r') (w'.tok bi l' (by omega)).1 (w'.tok bi l' (by omega)).2
 have rN:Rp K H2 (T.s "num") (.str "num"):=.s;have dn:Rp K H2 (bW .num) (.str "num"):=.s;have oN:Kk.ok (kn kl) .num:=True.intro;have dN:Kk.dep .num+n<=S.kb:=by show 0+n<=S.kb;omega
 have eb:=am.get (lF S);obtain⟨ka,dx,ek,a2,cl⟩:=am.kd.aY
 cases ek
 fail "R";refine cH (fun c=>?_) (fun c=>?_)
 ·clear c1 c2 c3 c4 c5 c6 c7;fail "R";intro r3 H3 b1 b0 x3;have N:=w2.ext x3;have ab:=N.sc;have Z:=ab.ff;have ch:=N.qI ai;have cs:=ab.get (lF S);have cm:=a2.kt (x3.kt an);have dk:Rp K H3 (bW .num) (.str "num"):=.s;have cn:(kn kl).length<=100:=by omega
  fail "R";refine cH (fun c2=>?_) (fun c2=>?_)
  ·fail "R";refine qJ ab fun l4 H4 s4 ea h4=>?_;have w4:=N.same s4;have cb:=w4.sc.ff;fail "R";intro v5 B Y x5 r5 o5 d5;have D:=w4.ext x5;fail "R";intro p6 bc;have s6:=ae bc (.tup [.str "row",v5]);have r6:Rp K (upd B p6 (.tup [.str "row",v5])) (bW (.row Y)) (.ref p6):=Rp.new (K:=K) bc (.cons .s (.one r5));generalize upd B p6 (.tup [.str "row",v5])=H6 at s6 r6⊢;have R:=D.same s6;have eW:=R.sc;have ey:=R.qI ai;have oR:Kk.ok (kn kl) (.row Y):=o5;have dR:Kk.dep (.row Y)+n<=S.kb:=by have:(0:Int).toNat=0:=rfl;show Y.dep+1+n<=S.kb;omega
   fail "R";intro v7 H7 U g7 f7 u M q d7;have L:=R.snoc f7 u M q d7;fail "R";intro p8 m;have s8:=ae m (.tup [.str "long",v7]);exact p .long _ _ _ _ _ (L.same s8) ⟨rfl,True.intro⟩ (by show 1<=9;decide) (Rp.new (K:=K) m (.cons .s L.r))
  ·fail "R";intro v4 H4 cv g4 f4 ax r4 bm d4;have w4:=N.snoc f4 ax r4 bm d4;have cb:=ax.ff;fail "R";intro r5 B bu bt x5;have D:=w4.ext x5;have W:=D.sc;have bj:=D.qI ai;have dj:Rp K B (bW .num) (.str "num"):=.s;have l6:(Lj "+-*:<=").length=6:=by decide +kernel
   obtain⟨cc,hc,cd⟩:=atS (z:="+-*:<=") bu (by rw[show(Qm "+-*:<=")=6 from l6];exact bt);fail "R";intro v6 H6 cu g6 f6 eW r6 bl d6;have R:=D.snoc f6 eW r6 bl d6;fail "R";intro p8 m;have s8:=ae m (.tup [.str "op",.str ⟨#[cc]⟩,v4,v6])
   have wc:Wd ⟨#[cc]⟩:=⟨(by decide:1<=20),fun c h=>by
    have e:c=cc:=by simpa using h
    have al:∀c∈(Lj "+-*:<=").cps.toList,c<1000:=by decide +kernel
    rw[e];exact al cc cd⟩
   exact p (.op ⟨#[cc]⟩) _ _ _ _ _ (R.same s8) ⟨rfl,wc⟩ (by show 2<=9;decide) (Rp.new (K:=K) m (.cons .s (.cons .s R.r)))
 refine c4 _ _ ?_
 cases kk with
 |num=>exact absurd (decide_eq_true rfl) c
 |op n=>exact absurd ok id
 |row k2 =>
  obtain⟨va,v1,v2,rfl,as,g1,g2⟩:=(show Rp K H2 (.t [.s "row",bW k2]) vk from a0).t2;obtain rfl:=g1.aR;obtain⟨_,_,ez,cj,ej⟩:=rk.aY
  cases ez
  have o2:k2.ok (kn kl):=ok;have eq:k2.dep+n<=S.kb:=by have:Kk.dep (.row k2)=k2.dep+1:=rfl;omega
  clear c4 c5 c6 c7 c3 c2 c1;fail "R";intro r3 H3 b1 b0 x3;have N:=w2.ext x3;have ab:=N.sc;have Z:=ab.ff;have ch:=N.qI ai;have dg:=N.rp rk;have aq:=as.kt (x3.kt an);have cf:=g2.kt (x3.kt an);fail "R";refine cH (fun c2=>?_) (fun c2=>?_)
  ·fail "R";intro v7 H7 U g7 f7 u M q d7;have L:=N.snoc f7 u M q d7;fail "R";intro p8 m;have s8:=ae m (.tup [.str "others",v7]);exact p .others _ _ _ _ _ (L.same s8) ⟨rfl,True.intro⟩ (by show 1<=9;decide) (Rp.new (K:=K) m (.cons .s L.r))
  fail "R";refine cH (fun c3=>?_) (fun c3=>?_)
  ·fail "R";intro v7 H7 U g7 f7 u M q d7;have L:=N.snoc f7 u M q d7;have ex:=L.qI ai;have df:=L.rp rk;fail "R";intro v8 H8 ct g8 f8 bn r8 bk d8;have w8:=L.snoc f8 bn r8 bk d8;fail "R";intro p9 J;have s9:=ae J (.tup [.str "more",v7,v8]);exact p .more _ _ _ _ _ (w8.same s9) ⟨rfl,True.intro⟩ (by show 2<=9;decide) (Rp.new (K:=K) J (.cons .s w8.r))
  fail "R";intro pz ba;have sz:=ae ba (.lst [.int 4,.int 10]);have a5:upd H3 pz (.lst [.int 4,.int 10]) pz=some (.lst [.int 4,.int 10]):=af;have nz:pz≠fe:=Ay Z ba;generalize upd H3 pz (.lst [.int 4,.int 10])=Hz at sz a5⊢;have wz:=N.same sz;have b9:cE Hz fe:=Z.same sz;fail "R";intro c Hc c0 c8 xc;have ed:=xc.1 _ _ nz a5;have ca:=xc.2;have wc:=wz.ext xc;fail "R";refine .inr ⟨_,rfl,?_⟩
  obtain⟨mm,d9,dt,ds⟩:∃mm:Int,jM [V.int 4,V.int 10] (if decide (V.int c=V.int 0)=true then(1:Int)else 0)=some (.int mm)/\0<mm/\mm<=10:=by
   split
   ·exact⟨10,rfl,by decide,by decide⟩
   ·exact⟨4,rfl,by decide,by decide⟩
  fail "R";intro X H4 dv du x4;have a3:Kt H3 H4:=((Kt.same sz).trans (xc.kt b9)).trans (x4.kt ca);have w4:=wc.ext x4;have bq:1<=(if X>1 then X else 1):=by split<;>omega
  have bs:-1<=(g-1) / (if X>1 then X else 1):=by
   have:=RN (a:=g-1) (b:=if X>1 then X else 1) (by omega) (by omega);omega
  have br:(g-1) / (if X>1 then X else 1)<=1000:=by
   have:=Rt (a:=g-1) (if X>1 then X else 1) (by omega);omega
  have ap:=aq.kt a3;have ce:=cf.kt a3;fail "R";refine k7 (n:=X.toNat) (fun i σ us B=>(∃y,σ=[y,some (.ref fe),some (.ref d),some (.ref ar),some (.ref va),some (.int o),some (.int ((g-1) / (if X>1 then X else 1)))])/\Kt H4 B/\CI K fe d S xs kl dl H (n+3) i us B) ⟨⟨_,rfl⟩,Kt.refl,⟨[],gs,w4,rfl⟩⟩ ?_ (small (by omega)) ?_ ?_
  ·rintro i σ us B hi ⟨_,_,⟨O,g5,D,e⟩⟩;rw[D.r.length,bC,e];exact lj _
  ·rintro i σ us B hi ⟨⟨_,rfl⟩,Y,⟨O,g5,D,ac⟩⟩;have ci:=ap.kt Y;have ei:=ce.kt Y;have W:=D.sc;have bj:=D.qI ai;fail "R";intro v7 H7 U g7 f7 u M q d7;fail "R"
   ·exact Y.trans f7.kt
   exact⟨O++[U],g7,D.snoc f7 u M q d7,by rw[lu,ac];rfl⟩
  ·rintro σ us6 H6 ⟨_,_,⟨O,g6,R,ac⟩⟩ p7 hp7;have s7:=ae hp7 (.lst us6);have h7:upd H6 p7 (.lst us6) p7=some (.lst us6):=af;have M:=R.r.same s7;have L:=R.same s7;generalize upd H6 p7 (.lst us6)=H7 at s7 h7 M L⊢;fail "R";refine .inl ⟨bz.of h7,fun p8 m=>?_⟩;have s8:=ae m (.tup us6);have r8:=Rp.new (K:=K) m M;have w8:=L.same s8;generalize upd H7 p8 (.tup us6)=H8 at s8 r8 w8⊢;fail "R";intro p9 J;have s9:=ae J (.tup [.str "row",.ref p8]);exact p .row _ _ _ _ _ (w8.same s9) ⟨rfl,True.intro⟩ (by omega) (Rp.new (K:=K) J (.cons .s (.one r8)))
 |kd x =>
  obtain⟨va,v1,v2,rfl,as,g1,g2⟩:=(show Rp K H2 (.t [.s "kind",.s x]) vk from a0).t2;obtain rfl:=g1.aR;have hx:x∈kn kl:=ok;fail "R";intro v3 H3 k3 s3 be el r3;obtain⟨i3,bf⟩:=MI be;obtain⟨d1,d0,b6⟩:=sc.ok.pt i3 k3 bf;have b8:i3<kl.length:=(ko.mp bf).1;obtain⟨ta,I,rfl,aw,ay⟩:=r3.aY;have b4:=ay.length;rw[bC]at b4;have N:=w2.same s3;have Z:=N.sc.ff;have cy:(0:Int)<(I.length:Int):=by omega
  have cx:(I.length:Int)<1073741824:=by omega
  have d3:bz K H3 ta I\/bN K H3 ta I:=.inr aw;fail "R";intro r4 H4 bx bv x4;have w4:=N.ext x4;obtain⟨v4,b5,_⟩:=mj (xs:=I) bx bv
  have a6:I[r4.toNat]?=some v4:=by
   have:=bD (xs:=I) (j:=r4.toNat) (v:=I[r4.toNat]'(by omega)) (m3 (by omega));rw[show((r4.toNat:Nat):Int)=r4 by omega,b5]at this;rw[m3 (by omega)];exact this.symm
  obtain⟨t4,a9,bp⟩:=ay.get' a6;rw[rz]at a9;obtain⟨tg,a7,rfl⟩:=FA.mp a9;obtain⟨ga,D,R,rfl,eh,q1,q2⟩:=(show Rp K H4 (.t [.s tg.1,.t (tg.2.map bW)]) v4 from bp.kt (x4.kt Z)).t2;obtain rfl:=q1.aR;obtain⟨ia,l,rfl,a4,a1⟩:=q2.aY;obtain⟨cw,tok⟩:=b6 tg (we a7);have li:=a1.length;rw[bC]at li;have ck:=aw.kt (x4.kt Z);have cr:bz K H4 ia l\/bN K H4 ia l:=.inr a4;have bq:1<=(if(l.length:Int)>1 then(l.length:Int)else 1):=by split<;>omega
  have bs:-1<=(g-1) / (if(l.length:Int)>1 then(l.length:Int)else 1):=by
   have:=RN (a:=g-1) (b:=if(l.length:Int)>1 then(l.length:Int)else 1) (by omega) (by omega);omega
  have br:(g-1) / (if(l.length:Int)>1 then(l.length:Int)else 1)<=1000:=by
   have:=Rt (a:=g-1) (if(l.length:Int)>1 then(l.length:Int)else 1) (by omega);omega
  fail "R";refine kj (K:=K) (xs:=l) (fun i σ us B=>(∃y,σ=[y,some (.ref fe),some (.ref d),some (.ref ar),some (.int o),some (.int ((g-1) / (if(l.length:Int)>1 then(l.length:Int)else 1)))])/\Kt H4 B/\CI K fe d S xs kl dl H (n+3) i us B) ⟨⟨_,rfl⟩,Kt.refl,⟨[],gs,w4,rfl⟩⟩ ?_ (small (by omega)) ?_ ?_ ?_
  ·rintro i σ us B hi ⟨_,_,⟨O,g5,D,e⟩⟩;rw[D.r.length,bC,e];exact lj _
  ·rintro i σ us B hi ⟨_,Y,_⟩;exact a4.kt Y
  ·rintro i y σ us B hy ⟨⟨_,rfl⟩,Y,⟨O,g5,D,ac⟩⟩;obtain⟨t6,a8,bo⟩:=a1.get' hy;rw[rz]at a8;obtain⟨q6,b7,rfl⟩:=FA.mp a8;obtain⟨b3,dq⟩:=tok q6 (we b7)
   have oq:q6.ok (kn kl):=Kk.uX (fun z hz=>by
    rw[←sc.ok.uY (Mb b8)]at hz;exact Ly hz) b3
   have c9:=bo.kt Y;have em:q6.dep+n<=S.kb:=by omega
   have W:=D.sc;have bj:=D.qI ai;fail "R";intro v7 H7 U g7 f7 u M q d7;fail "R"
   ·exact Y.trans f7.kt
   exact⟨O++[U],g7,D.snoc f7 u M q d7,by rw[lu,ac];rfl⟩
  ·rintro σ us6 H6 ⟨_,_,⟨O,g6,R,ac⟩⟩ p7 hp7;have s7:=ae hp7 (.lst us6);have h7:upd H6 p7 (.lst us6) p7=some (.lst us6):=af;have M:=R.r.same s7;have L:=R.same s7;generalize upd H6 p7 (.lst us6)=H7 at s7 h7 M L⊢;fail "R";refine .inl ⟨bz.of h7,fun p8 m=>?_⟩;have s8:=ae m (.tup us6);have r8:=Rp.new (K:=K) m M;have w8:=L.same s8;generalize upd H7 p8 (.tup us6)=H8 at s8 r8 w8⊢;fail "R";intro p9 J;have s9:=ae J (.tup [.str "tag",.str tg.1,.ref p8]);exact p (.tag tg.1) _ _ _ _ _ (w8.same s9) ⟨rfl,sc.IS be (we a7)⟩ (by omega) (Rp.new (K:=K) J (.cons .s (.cons .s (.one r8))))
end
noncomputable def iq(K:bA)(H:Hp)(f:Addr)(S:eM)(g:Kl)(xs:List Addr)(dvs:List V)(p:Addr):Prop:=∃(j:V) (e d:Addr) (k:Kk) (l:List (Str×Kk)) (i:Nat) (m:List (Str×List Kk×Kk)),bN K H p [j,.ref e,.ref d]/\Rp K H (bW k) j/\k.ok (kn g)/\k.dep<=S.kb/\wY K H f S g e l/\l.length<=S.pb/\i<=dvs.length/\H d=some (.lst (dvs.take i))/\(cW K H (d::S.nn f) m (dvs.take i)/\yr (kn g) m)/\d≠f/\d≠S.lg/\(d≠S.ln/\d≠S.lc/\d≠S.lp)/\e∉xs/\d∉xs
section
variable {K:bA}{H H':Hp}{f p:Addr}{S:eM}{kl:Kl}{xs:List Addr}{dvs:List V}
theorem cW.nl{nn:List Addr}{e:Addr}{j:List (Str×List Kk×Kk)}{d:List V}(h:cW K H nn j d)(m:H e=none):cW K H (e::nn) j d:=h.nn fun l o z g q=>by
 rcases ri.mp q with rfl|q
 ·rw[m]at g;cases g
 ·exact z q
theorem Ask.keep{l:List (Str×List Kk×Kk)}(a:Ask K H H' f S kl p)(hd:H S.ld=some (.lst dvs))(u:∀x∈xs,∃o,H x=some o)(fr:bH [S.lg,S.la] f H H')(r:cW K H (S.nn f) l dvs)(g:yr (kn kl) l){kvs:List (Key×V)}(L:H S.la=some (.dK kvs)):iq K H' f S kl xs dvs p:=by
 obtain⟨w,J,I,k,B,v,y,A,ok,kd,N,C,M,d,G,E,D,t,j⟩:=a;have e:dvs=v:=by rw[hd]at d;injection d with d;injection d
 subst e;have m:=(r.nl j).go (fun b O z h=>fr.eK (fX (fun q=>z (.tail _ q))).2.1 (cD h L (fun z=>nomatch z)) (fX (fun q=>z (.tail _ q))).1 h) fr.kt
 exact⟨w,J,I,k,B,dvs.length,l,y,A,ok,kd,N,C,lj _,by rw[Lv];exact M,by rw[Lv];exact⟨m,g⟩,G,E,D,(fun z=>by obtain⟨o,h⟩:=u _ z;rw[h]at t;cases t),(fun z=>by obtain⟨o,h⟩:=u _ z;rw[h]at j;cases j)⟩
theorem iq.tX(a:iq K H f S kl xs dvs p)(fr:bH [S.lg,S.la] f H H'){kvs:List (Key×V)}(j:H S.la=some (.dK kvs)):iq K H' f S kl xs dvs p:=by
 obtain⟨l,w,v,k,r,i,A,m,o,ok,kd,C,t,y,hd,⟨B,d⟩,g,e,u⟩:=a;exact⟨l,w,v,k,r,i,A,m.kt fr.kt,o.kt fr.kt,ok,kd,C.tX fr,t,y,fr.eK e (cD hd j (fun z=>nomatch z)) g hd,⟨B.go (fun b D z h=>fr.eK (fX (fun q=>z (.tail _ q))).2.1 (cD h j (fun z=>nomatch z)) (fX (fun q=>z (.tail _ q))).1 h) fr.kt,d⟩,g,e,u⟩
theorem iq.put{q:Addr}{us g:List V}(a:iq K H f S kl xs dvs p)(v:q∈xs)(j:q∈S.nn f)(I:H q=some (.lst us)):iq K (upd H q (.lst g)) f S kl xs dvs p:=by
 obtain⟨w,u,t,k,B,i,P,y,A,ok,kd,d,C,J,hd,⟨Q,l⟩,G,E,D,r,o⟩:=a;have kt:Kt H (upd H q (.lst g)):=Kt.lst I _;have O:u≠q:=fun z=>r (z▸v);have N:t≠q:=fun z=>o (z▸v);obtain⟨m,L,hr⟩:=d.aa;exact⟨w,u,t,k,B,i,P,y.kt kt,A.kt kt,ok,kd,⟨⟨m,by rw[av O];exact L,hr.kt kt⟩,d.nf,d.ng,d.na,d.pk,d.pl⟩,C,J,by rw[av N];exact hd,⟨Q.go (fun b g z h=>by have M:b≠q:=fun e=>z (.tail _ (e▸j));rw[av M];exact h) kt,l⟩,G,E,D,r,o⟩
theorem iq.more(a:iq K H f S kl xs dvs p)(v:V):iq K H f S kl xs (dvs++[v]) p:=by
 obtain⟨e,q,o,k,l,i,r,g,j,ok,kd,u,m,d,hd,t,n⟩:=a;exact⟨e,q,o,k,l,i,r,g,j,ok,kd,u,m,by rw[lu];omega,by rw[PF d];exact hd,by rw[PF d];exact t,n⟩
noncomputable def lG(K:bA)(H:Hp)(f:Addr)(S:eM)(kl:Kl)(xs:List Addr)(g:List Int):Prop:=∃(dvs:List V) (d:List (Key×V)),H S.ld=some (.lst dvs)/\H S.la=some (.dK d)/\d.map (·.1)=g.map Sum.inl/\∀e∈d,∃p,e.2=.ref p/\iq K H f S kl xs dvs p
theorem lG.go{l:List Int}(a:lG K H f S kl xs l)(fr:bH [S.lg,S.la] f H H')(e:H' S.la=H S.la)(n:S.ld≠S.lg/\S.ld≠f):lG K H' f S kl xs l:=by
 obtain⟨dvs,d,j,g,r,q⟩:=a;exact⟨dvs,d,fr.eK n.1 (cD j g (fun z=>nomatch z)) n.2 j,e.trans g,r,fun m o=>by obtain⟨p,u,t⟩:=q m o;exact⟨p,u,t.tX fr g⟩⟩
theorem lG.gg{v j ys:List Int}(a:lG K H f S kl xs v)(g:GG K f S kl H H' j ys)(J:H S.lg=some (.lst (v.map V.int)))(fr:bH [S.lg,S.la] f H H')(n:S.ld≠S.lg/\S.ld≠f)(I:∀x∈xs,∃o,H x=some o)(u:∃d w,H S.ld=some (.lst d)/\cW K H (S.nn f) w d/\yr (kn kl) w):lG K H' f S kl xs j:=by
 obtain⟨dvs,t,r,q,M,L⟩:=a;obtain⟨N,T,e,mk,G,E,_,D,C,B,A⟩:=g;have m:N=v:=jF (by have:=G.symm.trans J;injection this with this;injection this);have l:e=t:=by have:=D.symm.trans q;injection this with this;injection this
 subst m l;obtain⟨d,w,R,Q,P⟩:=u;have O:d=dvs:=by have:=R.symm.trans r;injection this with this;injection this
 subst O;refine⟨d,e++mk,fr.eK n.1 (cD r q (fun z=>nomatch z)) n.2 r,C,by rw[nq,M,B,E,nq],fun y hk=>?_⟩
 rcases Li.mp hk with hk|hk
 ·obtain⟨p,m,l⟩:=L y hk;exact⟨p,m,l.tX fr q⟩
 ·obtain⟨p,m,l⟩:=A y hk;exact⟨p,m,l.keep r I fr Q P q⟩
theorem lG.yw{l:List Int}{dvs:List V}(a:lG K H f S kl xs l)(q:S.ld∈xs)(g:H S.ld=some (.lst dvs))(v:V):lG K (upd H S.ld (.lst (dvs++[v]))) f S kl xs l:=by
 obtain⟨m,d,w,j,u,t⟩:=a;have e:m=dvs:=by have:=w.symm.trans g;injection this with this;injection this
 subst e;exact⟨m++[v],d,af,by rw[av (cD g j (fun z=>nomatch z)).symm];exact j,u,fun o r=>by obtain⟨p,A,y⟩:=t o r;exact⟨p,A,(y.put q (.tail _ (.tail _ (.head _))) g).more v⟩⟩
end
@[irreducible] noncomputable def CJ:Stmt:=(bS cI).getD 4 (.Pass ⟨0,0,0,0⟩)
@[irreducible] noncomputable def CK:Stmt:=(bS cI).getD 5 (.Pass ⟨0,0,0,0⟩)
@[irreducible] noncomputable def Em:List Expr:=match(bS cI).getD 4 (.Pass ⟨0,0,0,0⟩)with
 |.Assign _ (.List es _) _=>es
 |_=>[]
@[irreducible] noncomputable def En:List Expr:=match(bS cI).getD 5 (.Pass ⟨0,0,0,0⟩)with
 |.Assign _ (.BinOp _ _ (.List es _) _) _=>es
 |_=>[]
@[irreducible] noncomputable def posK (i:Nat):Pos:=match(bS cI).getD 4 (.Pass ⟨0,0,0,0⟩),(bS cI).getD 5 (.Pass ⟨0,0,0,0⟩)with
 |.Assign [.Name _ a] (.List _ b) c,.Assign [.Name _ d] (.BinOp (.Name _ e) _ (.List _ f) g) h=>[a,b,c,d,e,f,g,h].getD i a
 |_,_=>⟨0,0,0,0⟩
noncomputable def zF:List Str:=["num","row","kind","def","more","first","others","long","match","if","let","fold","call"]
noncomputable def zG:List Str:=["gap","in","world","fault","left"]
theorem Eo:CJ=.Assign [.Name "_law_kept" (posK 0)] (.List Em (posK 1)) (posK 2):=by unfold CJ Em posK;kernel_rfl
theorem Ep:CK=.Assign [.Name "_law_kept" (posK 3)] (.BinOp (.Name "_law_kept" (posK 4)) .Add (.List En (posK 5)) (posK 6)) (posK 7):=by unfold CK En posK;kernel_rfl
theorem KZ:strsOf Em=some zF:=by unfold Em;kernel_rfl
theorem K0:strsOf En=some zG:=by unfold En;kernel_rfl
theorem yx:bS cI=(bS cI).take 4++(CJ::CK::(bS cI).drop 6):=by unfold CJ CK;kernel_rfl
theorem Ie{X:Cx}(hn:X.N.Nodup)(d:Lm X.N X.env.scope)(g:X.N[7]?=some ("_law_kept":Str))(e:X.fn "_law_kept"=true):PS X CJ (vG (Fp (Bv zF)) (iD 7)):=by
 rw[Eo];exact sa hn d 7 (bg (yX KZ)) g rfl (.inl e)
theorem Ig{X:Cx}(hn:X.N.Nodup)(g:Lm X.N X.env.scope)(e:Nm X.N X.env.scope)(d:X.N[7]?=some ("_law_kept":Str))(j:X.fn "_law_kept"=true):PS X CK (vG (Dn Ht (nX 7) (Fp (Bv zG))) (iD 7)):=by
 rw[Ep];exact sa hn g 7 (aX qS (va e 7 d) (bg (yX K0))) d rfl (.inl j)
theorem Gr{d:Type}(xs:List d)(a b:d):jM (xs++[a,b]) (-2)=some a:=by
 unfold jM yP;have l:(xs++[a,b]).length=xs.length+2:=by simp
 rw[l,if_neg (by decide),if_pos (by omega)];have e:(-2+((xs.length+2:Nat):Int)).toNat=xs.length:=by omega
 rw[Rr,e];simp
theorem CL(n m:Nat)(h:n=m+1):yP n (-1)=some m:=by
 unfold yP;rw[if_neg (by decide),if_pos (by omega)]
 congr 1
 omega
section
variable {P:FG}{w:Lk}{K:bA}{mg:Str->Option j3}{base:Heap}{gT:Addr}{tfd:zo}
theorem aS:Nm ["_law_feed_here","_law_many","_law_letters","_law_stem","_law_first","_law_at","_law_turn","_law_kept","_law_found","_law_k","_law_sign","_law_name"] (aj cI):=by decide +kernel
theorem eB:Lm ["_law_feed_here","_law_many","_law_letters","_law_stem","_law_first","_law_at","_law_turn","_law_kept","_law_found","_law_k","_law_sign","_law_name"] (aj cI):=by decide +kernel
theorem dj:aI ["_law_feed_here","_law_many","_law_letters","_law_stem","_law_first","_law_at","_law_turn","_law_kept","_law_found","_law_k","_law_sign","_law_name"] ["_law_feed_here","_law_many"] (aj cI):=⟨rfl,rfl,rfl,by decide +kernel,rfl,by decide +kernel,by decide +kernel⟩
theorem CM{f:Addr}{fd:zo}(F:gX K "_law_names" "_law_names" cI f fd)(TK:bY P w K mg base "_law_take" 1 ["_law_feed_here","_law_many"] eJ gT tfd)(z_range:mg "range"=none)(z_len:mg "len"=none)(aa:mg "int"=none) :
  bK P w K mg base eL 2 f fd ["_law_feed_here","_law_many"] zB:=by
 refine F.ok dj (fun vs H Q E h=>?_) (fun a8 A a1 s H vs Q E hr h=>?_)
 ·obtain⟨v,tm,rfl,_⟩:=h;rfl
 obtain⟨r,m,rfl,m1,m2,hf,k⟩:=h;rw[yx];refine⟨_,(Z6 (sa dj.nd eB 2 az) (Z6 (Z2 dj.nd eB 3 (@yR _ _ _ _ _ _ _ _ _ _ _ _ PySem.F.plainAttrs_str PySem.F.slot_str_join PySem.F.type_str_join DF az (Z1 (Za (aj cI) ["_law_feed_here","_law_many","_law_letters","_law_stem","_law_first","_law_at","_law_turn","_law_kept","_law_found","_law_k","_law_sign","_law_name"] ["_law_k"] [0,2] (Zp (Z1 (Z0 TK (cT (va aS 0) (Zb ao))) ak)) (fun _ _ _ _=>(Z3 (i:=0) (show(["_law_k","_law_feed_here","_law_letters"]:List Str).Nodup by decide +kernel))) (fun _ _ _ _=>(Zl uw (va (show Nm ["_law_k","_law_feed_here","_law_letters"] _ by show _=_;kernel_rfl) 2) (Z0 TK (cT (va (show Nm ["_law_k","_law_feed_here","_law_letters"] _ by show _=_;kernel_rfl) 1) (Zb ao)))))) ak) (by kernel_rfl) (by kernel_rfl) (by kernel_rfl) (by kernel_rfl) (by kernel_rfl))) (Z6 (@E8 _ _ (4) (5) _ _ _ _ _ _ _ _ _ _ _ rfl dj.nd rfl rfl (by decide) rfl rfl (Z1 (Z0 TK (cT (va aS 0) (Zb ao))) (Z1 (Z0 TK (Z1 (va aS 0) (Z1 (Zm cR (Z5 oz (Zb (va aS 3))) ao) ak))) ak)) (by rfl) (by rfl)) (Z6 (Z2 dj.nd eB 6 (Z0 TK (cT (va aS 0) (Zb ao)))) (Z6 (Ie dj.nd eB rfl rfl) (Z6 (Ig dj.nd eB aS rfl rfl) (Z6 (sa dj.nd eB 8 (bg ak)) (Z6 (Zj (Zp (Zb (va aS 1))) (ga dj.nd eB 9) (Z6 (Z2 dj.nd eB 10 (Zl uw (va aS 2) (Zm hU (Zm cR (va aS 4) (aX jf ao (va aS 9))) ao))) (Z6 (Z2 dj.nd eB 11 (Zm kX (Zm kX (@cK _ _ _ _ _ _ _ _ _ _ Bu (va aS 3) dQ (cy (va aS 5))) (va aS 10)) (@cK _ _ _ _ _ _ _ _ _ _ Bu (va aS 3) (cy (va aS 5)) (@cy _ _ _ (Zm hU (aX cR (va aS 6) (va aS 9)) ao))))) (Zg (@cu _ _ _ _ (Z7 Ll Ln cz (va aS 8) (Z1 (Zm kX (va aS 11) (Zm xW az (Z4 iY aa MT (Z1 (kW iZ (va aS 11) (va aS 7) (by with_unfolding_all rfl)) ak)))) ak)) (by rfl)))))) (Z6 (Zd (PW.pt (@gY _ _ _ _ _ _ _ (Zq nu (va aS 1) ao) (@gY _ _ _ _ _ _ _ (Zf lY (Z5 oz (Z1 (iO aW (va aS 8) (nj jZ ao) (fun _ _=>rfl)) ak)) ao) (@gm _ _ _ _ (Zf bJ (Z0 TK (cT (va aS 0) (Zb ao))) ao))))) (Zg (Zo (Zm kX (iO aW (va aS 8) (nj jZ ao) (fun _ _=>rfl)) az) (uo (va aS 8) (nj jZ ao) set_list)))) (Zg (cB (va aS 8)))))))))))),?_⟩
 try dsimp only[bM]
 refine⟨rfl,_,rfl,r,5,rfl,by decide,by decide,hf,fun q H2 q0 q6 e2=>?_⟩;refine⟨_,rfl,by omega,by omega,?_⟩;have n7:(q:Int).toNat<=4:=by omega
 refine k7 (n:=q.toNat) (fun i σ vs Hc=>(∃v,σ=[v,some (.ref r),some (.str "abcdefghijklmnopqrstuvwxyz")])/\Ext r H2 Hc/\∃J:List Nat,vs=(J.map fun c=>(⟨#[c]⟩:Str)).map V.str/\J.length=i/\∀c∈J,c<1000)
  ⟨⟨none,rfl⟩,Ext.refl e2.2,[],rfl,rfl,fun _ h=>nomatch h⟩ (fun i σ vs Hc _ ⟨_,_,J,e,el,_⟩=>by rw[e,bC,bC];omega) (small (by omega)) ?_ ?_
 ·rintro i' σ vs Hc hi' ⟨⟨v,rfl⟩,ext,J,rfl,aw,ag⟩;refine⟨_,rfl,_,rfl,r,26,rfl,by decide,by decide,ext.2,fun d H3 d0 d1 ax=>?_⟩;obtain⟨c,O,al⟩:=atS (z:="abcdefghijklmnopqrstuvwxyz") d0 d1;refine⟨_,d,c,rfl,rfl,(by decide +kernel),O,?_⟩;exact⟨⟨_,rfl⟩,ext.trans ax,J++[c],by rw[nq,nq];rfl,by rw[lu,aw];rfl,fun c' h=>by rcases Li.mp h with h|h;exact ag c' h;rw[nt.mp h];exact zA c al⟩
 rintro σ vs Hc ⟨⟨v,rfl⟩,ext,J,rfl,aw,ag⟩ p hp;refine⟨_,p,_,rfl,rfl,bz.of af,?_,?_⟩
 ·have z:(Lj "").length=0:=by decide
  rw[BA,z];omega
 rw[DL];have ac:Ext r H (upd Hc p (.lst ((J.map fun c=>(⟨#[c]⟩:Str)).map V.str))):=(e2.trans ext).new hp _;have ly:(⟨J.toArray⟩:Str).length<=4:=by rw[FN];omega
 have hy:Lo ⟨J.toArray⟩:=fun c h=>ag c (by simpa using h);generalize upd Hc p (.lst ((J.map fun c=>(⟨#[c]⟩:Str)).map V.str))=H4 at ac⊢;generalize(⟨J.toArray⟩:Str)=y at ly hy⊢;refine⟨_,rfl,r,26,rfl,by decide,by decide,ac.2,fun d1 H5 b1 c1 e5=>?_⟩;refine⟨_,rfl,_,rfl,_,rfl,small (by omega),_,_,rfl,rfl,r,_,rfl,by omega,by omega,e5.2,fun B H6 b2 c2 e6=>?_⟩;refine⟨_,_,rfl,?_⟩;refine⟨_,rfl,r,5,rfl,by decide,by decide,e6.2,fun d3 H7 b3 c3 e7=>?_⟩;have x7:Ext r H H7:=ac.trans (e5.trans (e6.trans e7));have a4:zF.length<=100:=by decide
 have a3:zG.length<=100:=by decide
 refine⟨by rw[bC];exact small (by omega),fun p8 a5=>?_⟩;refine⟨_,rfl,by rw[bC];exact small (by omega),fun p9 Y=>?_⟩;generalize zF=ks1 at a4 Y⊢;generalize zG=ks2 at a3 Y⊢;refine⟨p8,p9,_,_,rfl,rfl,(ae Y _) _ _ af,af,by rw[bC,bC];exact small (by omega),fun g ar=>?_⟩;have S:Ext r H (upd (upd (upd H7 p8 (.lst (ks1.map V.str))) p9 (.lst (ks2.map V.str))) g (.lst (ks1.map V.str++ks2.map V.str))):=((x7.new a5 _).new Y _).new ar _;have am:upd (upd (upd H7 p8 (.lst (ks1.map V.str))) p9 (.lst (ks2.map V.str))) g (.lst (ks1.map V.str++ks2.map V.str)) g=some (.lst ((ks1++ks2).map V.str)):=by rw[af,nq]
 generalize upd (upd (upd H7 p8 (.lst (ks1.map V.str))) p9 (.lst (ks2.map V.str))) g (.lst (ks1.map V.str++ks2.map V.str))=H10 at S am⊢;refine⟨Ld _,fun l hl=>?_⟩;have ai:H l=none:=Ext.free S hl;have ab:l≠r:=fun z=>by subst z;obtain⟨a,b,z⟩:=S.2;rw[hl]at z;cases z
 have an:g≠l:=aq am hl;have a0:Ext r H (upd H10 l (.lst [])):=S.new hl _;refine⟨_,rfl,_,rfl,by omega,by omega,?_⟩
 refine fU (n:=m) (fun i σ Hi=>∃(I:List Str) (v9 U T:Option V),σ=[some (.ref r),some (.int m),some (.str "abcdefghijklmnopqrstuvwxyz"),some (.str y),some (.int d1),some (.int B),some (.int d3),some (.ref g),some (.ref l),v9,U,T]/\I.length=i/\((∀x∈I,x.length<=10)/\(∀x∈I,Lo x)/\∀j x,I[j]?=some x->sC (MX y none (some B)).cps.toList d1 j x)/\Hi l=some (.lst (I.map V.str))/\Hi g=some (.lst ((ks1++ks2).map V.str))/\Ext r H Hi)
  ⟨[],none,none,none,rfl,rfl,⟨(fun _ h=>nomatch h),(fun _ h=>nomatch h),(fun j x h=>by simp at h)⟩,af,by rw[av an];exact am,a0⟩ ?_ ?_
 ·rintro i σ Hi hi ⟨I,v9,U,T,rfl,t,⟨X,N,Z⟩,D,ad,xi⟩;have hm:0<=(d1+7*(0+(i:Int))) % 26/\(d1+7*(0+(i:Int))) % 26<26:=by omega
  obtain⟨c,O,al⟩:=atS (z:="abcdefghijklmnopqrstuvwxyz") (r:=(d1+7*(0+(i:Int))) % 26) hm.1 hm.2;refine⟨_,rfl,_,rfl,_,rfl,_,_,rfl,rfl,.inl ⟨by decide,by decide⟩,_,_,rfl,rfl,_,_,rfl,rfl,(by show(0:Int)<26;decide),_,_,c,rfl,rfl,(by decide +kernel),O,?_⟩;have la:=SA y none (some B);have lb:=SA y (some B) (some ((d3+(0+(i:Int))) % 5));refine⟨_,rfl,_,rfl,_,rfl,_,rfl,small (by omega),_,rfl,_,_,rfl,rfl,small (by show _+1<=1000;omega),?_⟩;refine⟨_,rfl,_,rfl,_,rfl,_,rfl,_,rfl,_,_,rfl,rfl,_,_,rfl,rfl,(by show(0:Int)<5;decide),_,rfl,_,rfl,small (by omega),?_⟩;have lc:(MX y none (some B)++(⟨#[c]⟩:Str)).length=(MX y none (some B)).length+1:=by rw[Pp];rfl
  refine⟨_,_,rfl,rfl,small (by omega),?_⟩;have ln:(MX y none (some B)++(⟨#[c]⟩:Str)++MX y (some B) (some ((d3+(0+(i:Int))) % 5))).length<=9:=by rw[Pp];omega
  have au:Lo (MX y none (some B)++(⟨#[c]⟩:Str)++MX y (some B) (some ((d3+(0+(i:Int))) % 5))):=((hy.slice _ _).append (Lo.one al)).append (hy.slice _ _)
  have as:sC (MX y none (some B)).cps.toList d1 i (MX y none (some B)++(⟨#[c]⟩:Str)++MX y (some B) (some ((d3+(0+(i:Int))) % 5))):=by
   refine sC.snoc ⟨c,[],?_,?_⟩ _
   ·rw[RI]at O;exact O
   ·show((MX y none (some B)).cps++#[c]).toList=_;rw[P5]
  generalize MX y none (some B)++(⟨#[c]⟩:Str)++MX y (some B) (some ((d3+(0+(i:Int))) % 5))=nm at ln as au⊢;refine⟨_,rfl,.inl ⟨rfl,_,bz.of D⟩,_,rfl,_,rfl,_,rfl,g,_,rfl,.inl (bz.of ad),rfl,pX _,.inr ⟨_,rfl,?_⟩⟩;generalize vJ (V.str nm) ((ks1++ks2).map V.str)=b;have ap:(Lj "q").length=1:=by decide
  have lq:(QN (Lj "q") (if b=true then 1 else 0)).length<=1:=by have:=HF b "q";rw[ap]at this;exact this
  have a7:(QN (Lj "q") (if(if false=true then !b else b)=true then 1 else 0)).length<=1:=lq;refine⟨_,_,rfl,rfl,by split<;>omega,by split<;>omega,?_,?_⟩
  ·rw[ap];exact small (by cases b<;>decide)
  refine⟨_,_,rfl,rfl,small (by omega),?_⟩;refine⟨l,_,_,rfl,rfl,D,by rw[bC];exact bj (by omega),?_⟩;refine⟨I++[nm++QN "q" (if b then 1 else 0)],_,_,_,rfl,by rw[lu,t];rfl,⟨fun x C=>?_,fun x C=>?_,fun j x C=>?_⟩,by rw[af,nq];rfl,by rw[av an];exact ad,?_⟩
  ·rcases Li.mp C with h|h
   ·exact X x h
   ·rw[nt.mp h,Pp];omega
  ·rcases Li.mp C with h|h
   ·exact N x h
   ·rw[nt.mp h];exact au.append (Lo.q b)
  ·by_cases cj:j<I.length
   ·rw[LR cj]at C;exact Z j x C
   ·have hj:j=i:=by have:=(ko.mp C).1;rw[lu]at this;simp at this;omega
    subst hj;rw[LJ (by omega),t,SJ]at C;simp at C;rw[←C];exact as.snoc _
  ·refine⟨fun b o nb e=>?_,?_⟩
   ·rw[av (aq e ai)];exact xi.1 b o nb e
   ·obtain⟨a,b,z⟩:=xi.2;exact⟨a,b,by rw[av ab.symm];exact z⟩
 ·rintro σ Hi ⟨I,v9,U,T,rfl,t,⟨X,N,Z⟩,D,ad,xi⟩;have a6:∀(Hf:Hp) (G:List Str),Ext r H Hf->Hf l=some (.lst (G.map V.str))->G.length=m->(∀x∈G,x.length<=20/\Lo x)->Un G->Q (.ref l) Hf:=fun Hf G a b c d=>k l Hf G a ai b c d;have W:∀{Hf:Hp}(G:List Str),Ext r H Hf->Hf l=some (.lst (G.map V.str))->G.length=m->(∀x∈G,x.length<=20/\Lo x)->Un G->GZ (nX 8) {nx:=fun _ H'=>Q .iP H',rt:=Q} [some (.ref r),some (.int m),some (.str "abcdefghijklmnopqrstuvwxyz"),some (.str y),some (.int d1),some (.int B),some (.int d3),some (.ref g),some (.ref l),v9,U,T] Hf:=fun G a b c d u=>⟨_,rfl,a6 _ G a b c d u⟩;have un:Un I:=sC.KY (by omega) Z;have R:∀x∈I,x.length<=20/\Lo x:=fun x C=>⟨I0 (X x C) (by decide),N x C⟩;refine⟨_,rfl,_,_,rfl,rfl,_,rfl,cH (fun c=>?_) (fun c=>?_)⟩
  ·have c1:1<m:=by have z:(1:Int)<(m:Int):=of_decide_eq_true c;omega
   obtain⟨L,M,x1,rfl⟩:∃L M x1,I=L++[M,x1]:=by
    rcases Of I with rfl|⟨a,x1,rfl⟩
    ·simp at t;omega
    rcases Of a with rfl|⟨b,M,rfl⟩
    ·simp at t;omega
    exact⟨b,M,x1,by simp⟩
   have l2:M.length<=10:=X M (by simp);have a2:jM ((L++[M,x1]).map V.str) (-2)=some (.str M):=by rw[nq];exact Gr _ _ _
   refine⟨_,rfl,_,rfl,l,_,_,_,rfl,rfl,bz.of D,a2,_,rfl,small (by omega),_,_,rfl,rfl,_,rfl,cH (fun c=>?_) (fun c=>?_)⟩
   ·refine⟨_,rfl,r,4,rfl,by decide,by decide,xi.2,fun d4 a9 _ _ ay=>?_⟩;have xj:=xi.trans ay;have ah:=ay.1 l _ ab D;refine⟨rfl,_,rfl,cH (fun c=>?_) (fun c=>?_)⟩
    ·refine⟨_,rfl,_,rfl,l,_,_,_,rfl,rfl,bz.of ah,a2,_,_,rfl,rfl,small (by show _+1<=1000;omega),?_⟩;refine⟨_,rfl,_,rfl,l,_,_,L.length+1,rfl,rfl,ah,?_,?_⟩
     ·exact CL _ _ (by simp)
     refine W (L++[M,M++Lj "q"]) ?_ ?_ ?_ ?_ (sC.last (by omega) (by decide) Z)
     ·refine⟨fun b o nb e=>?_,?_⟩
      ·rw[av (aq e ai)];exact xj.1 b o nb e
      ·obtain⟨a,b,z⟩:=xj.2;exact⟨a,b,by rw[av ab.symm];exact z⟩
     ·rw[af];simp
     ·rw[←t];simp
     ·intro x C;simp at C;rcases C with h|rfl|rfl
      ·exact R x (by simp[h])
      ·exact⟨by omega,N _ (by simp)⟩
      ·refine⟨?_,(N M (by simp)).append Lo.q1⟩;rw[Pp];have:(Lj "q").length=1:=by decide
       omega
    ·exact W _ xj ah t R un
   ·exact W _ xi D t R un
  ·exact W _ xi D t R un
end
noncomputable def lS(few:Int)(k:Nat):Int:=if few % 2=0 then 5*(k:Int)+2 else 90 - (k:Int)
noncomputable def vh(K:bA)(H:Hp)(lo:Addr)(e:List (Int×Kk)):Prop:=∃d,H lo=some (.lst d)/\bI K H (e.map (nQ bW)) d
noncomputable def xg(K:bA):Sp:=fun o H Q _=>∃(f g:Addr) (m:V) (k:Kk) (few:Int) (e:List (Int×Kk)),o=[.ref f,m,.ref g,.int few]/\cE H f/\Rp K H (bW k) m/\vh K H g e/\g≠f/\e.length<=3/\1<=few/\few<=100 /\
 ∀(v:V) (j:Hp) (l:Kk) (d:List (Int×Kk)),bH [g] f H j->vh K j g d->Rp K j (bW l) v->(d=e/\l=k\/e.length<3/\d=e++[(lS few e.length,k)]/\l=.op (lS few e.length))->Q v j
section
variable {P:FG}{w:Lk}{K:bA}{mg:Str->Option j3}{base:Heap}{gT:Addr}{tfd:zo}
theorem dc:Nm ["_law_feed_here","_law_kind","_law_opens_here","_law_few"] (aj lC):=by decide +kernel
theorem xh:aI ["_law_feed_here","_law_kind","_law_opens_here","_law_few"] ["_law_feed_here","_law_kind","_law_opens_here","_law_few"] (aj lC):=⟨rfl,rfl,rfl,by decide +kernel,rfl,by decide +kernel,by decide +kernel⟩
theorem AO{f:Addr}{fd:zo}(F:gX K "_law_hidden" "_law_hidden" lC f fd)(TK:bY P w K mg base "_law_take" 1 ["_law_feed_here","_law_many"] eJ gT tfd)(z_len:mg "len"=none):bK P w K mg base eL 2 f fd ["_law_feed_here","_law_kind","_law_opens_here","_law_few"] (xg K):=by
 refine F.ok xh (fun d H Q E h=>?_) (fun al A W s H d Q E hr h=>?_)
 ·obtain⟨_,_,_,_,_,_,rfl,_⟩:=h;rfl
 obtain⟨fe,p,G,Y,few,l,rfl,O,rk,⟨d,D,v⟩,y,ad,aj,ai,k⟩:=h;refine⟨_,(Z6 (Zd (PW.pt (@gY _ _ _ _ _ _ _ (Zf lY (Z5 aB (Zb (va dc 2))) ao) (@gm _ _ _ _ (Zf bJ (Z0 TK (Z1 (va dc 0) (Zb (va dc 3)))) ao)))) (Z6 (@cu _ _ _ _ (Z7 Ll Ln cz (va dc 2) (Z1 (Ze (Z1 (Zl aW (@bg _ _ _ _ (Z1 (Zm cR (Zm jf ao (Z5 aB (Zb (va dc 2)))) ao) (Z1 (Zm bL ao (Z5 aB (Zb (va dc 2)))) ak))) (aX hU (va dc 3) ao)) (Zb (va dc 1)))) ak)) (by rfl)) (Zg (Zn (Ze (Z1 az (Z1 (Zl aQ (iO aW (va dc 2) (nj jZ ao) (fun _ _=>rfl)) ao) ak))))))) (Zg (cB (va dc 1)))),?_⟩
 try dsimp only[bM]
 try dsimp only[bM]
 have S:bH [p] fe H H:=bH.refl O;have J:=v.length;rw[bC]at J;have ab:bz K H p d\/bN K H p d:=.inl (bz.of D);refine zc ?_;intro N1 c1;refine yj (fun b q=>Ext fe H q/\(b=true->l.length<3)) (fun C hC=>?_) (fun q R=>?_) (fun q R=>?_)
 ·clear c1;fail "R";refine cH (fun c=>?_) (fun c=>?_)
  ·have c':(d.length:Int)<3:=of_decide_eq_true c;fail "R";intro r q r0 r1 m;fail "R";exact hC _ _ ⟨m,fun _=>by omega⟩
  ·exact hC _ _ ⟨Ext.refl O,fun z=>nomatch z⟩
 ·clear c1;obtain⟨m,R⟩:=R;have h3:=R rfl;have u:=m.1 _ _ y D;have f2:=S.ext m;have k2:=m.kt O;have aa:bz K q p d\/bN K q p d:=.inl (bz.of u);fail "R";intro X Z
  have ah:jM [V.int (5*(d.length:Int)+2),.int (90 - (d.length:Int))] (few % 2)=some (.int (lS few l.length)):=by
   unfold lS;rw[J];obtain e|e:few % 2=0\/few % 2=1:=by omega
   ·rw[e,if_pos rfl];exact bD (j:=0) rfl
   ·rw[e,if_neg (by decide)];exact bD (j:=1) rfl
  have I:=ae Z (.lst [.int (5*(d.length:Int)+2),.int (90 - (d.length:Int))]);have h5:upd q X (.lst [.int (5*(d.length:Int)+2),.int (90 - (d.length:Int))]) X=some (.lst [.int (5*(d.length:Int)+2),.int (90 - (d.length:Int))]):=af;generalize upd q X (.lst [.int (5*(d.length:Int)+2),.int (90 - (d.length:Int))])=H5 at I h5⊢;have N:=I _ _ u;have ac:d.length<nk:=bj (by omega);fail "R";intro g M;have T:=ae M (.tup [.int (lS few l.length),G]);have r6:=Rp.new (K:=K) (xs:=[.i (lS few l.length),bW Y]) M (.cons .i (.one ((rk.kt k2).same I)));have q6:bN K (upd H5 g (.tup [.int (lS few l.length),G])) g [.int (lS few l.length),G]:=bN.of af;generalize upd H5 g (.tup [.int (lS few l.length),G])=H6 at T r6 q6⊢;have t:=T _ _ N;have f7:=((f2.same I).same T).upd (o:=.lst (d++[.ref g])) (.head _) y t;have B:Kt H6 (upd H6 p (.lst (d++[.ref g]))):=Kt.lst t _;have h7:upd H6 p (.lst (d++[.ref g])) p=some (.lst (d++[.ref g])):=af
  have ag:jM (d++[V.ref g]) (-1)=some (.ref g):=by
   unfold jM;rw[CL _ d.length (by rw[lu];rfl),Rr];simp
  have q7:=q6.kt B
  have r7:bI K (upd H6 p (.lst (d++[.ref g]))) ((l++[(lS few l.length,Y)]).map (nQ bW)) (d++[.ref g]):=by
   rw[nq];exact((((v.kt k2).same I).same T).kt B).snoc (r6.kt B)
  fail "R";generalize upd H6 p (.lst (d++[.ref g]))=H7 at f7 h7 r7 q7⊢;intro p8 L;have U:=ae L (.tup [.str "open",.int (lS few l.length)]);exact k _ _ (.op (lS few l.length)) _ (f7.same U) ⟨_,U _ _ h7,r7.same U⟩ (Rp.new (K:=K) L (.cons .s (.one .i))) (.inr ⟨h3,rfl,rfl⟩)
 ·obtain⟨m,_⟩:=R;fail "R";exact k G q Y l (S.ext m) ⟨d,m.1 _ _ y D,v.kt (m.kt O)⟩ (rk.kt (m.kt O)) (.inl ⟨rfl,rfl⟩)
end
end G33
namespace L2
open PySem PySem.Spec PyProof.Rows PySem.W
theorem yy:NS (.type "list_reverseiterator") "__len__"=pure none:=by rw[Oa,MS];kernel_rfl
theorem CN:NS (.type "list_reverseiterator") "__length_hint__"=pure (some (.builtin "list_reverseiterator.__length_hint__")):=by rw[Oa,MS];kernel_rfl
theorem vj:isSubtype (.type "list_reverseiterator") (.type "list_reverseiterator")=pure true:=by rw[isSubtype_type];kernel_rfl
section
variable {prog:FG}{w:Lk}{A:Lz}{E:j3->mu->Prop}{s:mu}
theorem sR{l:Addr}{items:Array j3}{Q:j3->mu->Prop}(hh:A.handled=none)(O:s.heap.IsList l items)(hn:items.size<=nk)
  (hQ:∀h' tk acc c,(∀b o,s.heap.get? b=some o->h'.get? b=some o)->h'.get? (s.heap.objs.size+1)=some {cls:=.type "list",dict:=none,data:=.seq acc c,slots:=#[]}->acc.toList=items.toList.reverse->Q (.ref (s.heap.objs.size+1)) {s with heap:=h',toks:=tk}) :
  La (Lr prog w) A (call (.type "reversed") [.ref l]) (fun v V=>La (Lr prog w) A (call (.type "list") [v]) Q E V) E s:=by
 have B:l<s.heap.objs.size:=by obtain⟨_,e,_⟩:=O;exact vy e
 refine call_reversed_list O ?_;have S:(s.heap.push (revObj l ((items.size:Int) - 1))).get? s.heap.objs.size=some (revObj l ((items.size:Int) - 1)):=K9 _ rfl;have P:∀b o,s.heap.get? b=some o->(s.heap.push (revObj l ((items.size:Int) - 1))).get? b=some o:=fun b o e=>mC _ e;have J:(s.heap.push (revObj l ((items.size:Int) - 1))).objs.size=s.heap.objs.size+1:=My ..;generalize s.heap.push (revObj l ((items.size:Int) - 1))=g at S P J⊢;have L:(g.push {cls:=.type "list",data:=.seq #[]}).get? g.objs.size=some {cls:=.type "list",data:=.seq #[]}:=K9 _ rfl
 refine R3 (Q₁:=fun y q=>y=.ref g.objs.size/\q={s with heap:=g.push {cls:=.type "list",data:=.seq #[]}}) Sd (Rm _) Rn
  (code_list_new _ ⟨rfl,rfl⟩) fun y q C=>?_
 obtain⟨rfl,rfl⟩:=C;refine⟨⟨_,L,rfl⟩,Q2 _ _,?_⟩;show La _ A.in1.in1 (do let M ←Ng (.ref g.objs.size);Ro (.ref g.objs.size) (fun _=>#[]);letGo M.toList.reverse;Mm (.ref g.objs.size) (.ref s.heap.objs.size) .none) _ _ _;refine bB ?_;unfold Ng;refine bB (L6 L rfl (my ?_));show La _ A.in1.in1 (Rl g.objs.size (fun _=>#[])>>=fun _=>letGo (#[]:Array j3).toList.reverse>>=fun _=>Mm (.ref g.objs.size) (.ref s.heap.objs.size) .none) _ _ _;refine bB (Ob L rfl ?_);have m:=Mw (LX (fun _=>(#[]:Array j3))) L rfl
 have d:∀b o,g.get? b=some o->((g.push {cls:=.type "list",data:=.seq #[]}).update g.objs.size (LX (fun _=>(#[]:Array j3)))).get? b=some o :=
  fun b o e=>(Ms _ _ (NB (vy e))).trans (mC _ e)
 generalize hg2:(g.push {cls:=.type "list",data:=.seq #[]}).update g.objs.size (LX (fun _=>(#[]:Array j3)))=g2 at m d⊢;refine bB (PB ?_);have I:g2.IsRevIter s.heap.objs.size l ((items.size:Int) - 1):=⟨_,d _ _ S,rfl,rfl⟩;have p:Ni {s with heap:=g2} (.ref s.heap.objs.size) "list_reverseiterator":=⟨_,d _ _ S,rfl⟩;unfold Mm;refine bB (MJ p ?_)
 have q1:MB (.ref g.objs.size) (.ref s.heap.objs.size)=false:=by
  simp only[MB,beq_eq_false_iff_ne];intro z;have z':(g.objs.size:Nat)=s.heap.objs.size:=z;omega
 have Z:(Value.type "list_reverseiterator" == Value.type "list")=false:=by decide
 have Y:(Value.type "list_reverseiterator" == Value.type "tuple")=false:=by decide
 simp only[q1,Z,Y,QX,Mi,if_false];refine bB (wpAny_pyIter_revIter (s:={s with heap:=g2}) I ?_);refine bB (LI ?_);unfold Qa;refine bB (NZ p yy ?_);show La _ A.in1.in1 (specialOf (Value.ref s.heap.objs.size) (Lj "__length_hint__")>>=_) _ _ _;refine bB (NZ p CN ?_);show La _ A.in1.in1 (isInstance (.ref s.heap.objs.size) (.type "list_reverseiterator")>>=_) _ _ _;refine bB (MY p vj ?_);refine my ?_;show La _ A.in1.in1 (again (.builtin "list.extend.loop" ⟨[.ref g.objs.size,.ref s.heap.objs.size,.none],[]⟩)) _ _ _;have N:l≠s.heap.objs.size:=Ls B;have W:=(Walks.listRev (prog:=prog) (w:=w) (A:=A.in1.in1) hh s.heap.objs.size l N items).toS
 have hf:g.objs.size∉[s.heap.objs.size,l]:=by
  intro z;rcases ri.mp z with z|z
  ·have:(g.objs.size:Nat)=s.heap.objs.size:=z;omega
  ·exact NB (P8 B (by omega:s.heap.objs.size<g.objs.size)) (nt.mp z)
 refine my ⟨OH MR _,codeAny_extend_loopS (A:=A.in1) W hn g.objs.size hf .none items.size 0 {s with heap:=g2} #[] _ (by omega) (Ld _)
  ⟨Ld _,by simpa using I,O.at fun o e=>d _ _ (P _ _ e)⟩ m ⟨rfl,fun j v R=>by simp at R⟩ fun X acc c hm u r=>⟨rfl,?_⟩⟩
 obtain⟨h',gs,dr,tk,os⟩:=X;obtain⟨t,H,G,D,_⟩:=hm;simp only at t H G D u;subst H G D;rw[J]at u t⊢;refine hQ h' tk acc c (fun b o e=>t b o (fun z=>?_) (d _ _ (P _ _ e))) u ?_
 ·have T:=vy e;rcases ri.mp z with z|z
  ·exact Ls (QM T) z
  ·exact Ls T (nt.mp z)
 ·refine List.ext_getElem? fun j=>?_;have h1:=r.1
  by_cases R:j<items.size
  ·have U:acc[j]?=some (acc[j]'(by omega)):=OC (by omega);have e2:=r.2 j _ U;rw[List.getElem?_reverse (by simpa using R),Od,Od,U,NH];exact e2.symm
  ·rw[Nr (by simp;omega),Nr (by simp;omega)]
end
section
variable {X:Cx}{a:Expr}{t:TA}{p1 p2 p3 p4:Pos}
noncomputable def Ih(K:bA)(t:TA):TE:=fun g H Q=>t g H fun j d=>∃p e,j=[.ref p]/\bz K d p e/\∀q,d q=none->Q (.ref q) (upd d q (.lst e.reverse))
theorem yz(O:X.calm=true)(r:Gl X "list")(m:X.mg "list"=none)(q:Gl X "reversed")(l:X.mg "reversed"=none)(P:PA X [a] t)
  (he:LA [a] X.env=[(false,eval a X.env)]:=by rfl)
  (he2:LA [.Call (.Name "reversed" p1) [a] [] p2] X.env=[(false,eval (.Call (.Name "reversed" p1) [a] [] p2) X.env)]:=by rfl) :
  PE X (.Call (.Name "list" p3) [.Call (.Name "reversed" p1) [a] [] p2] [] p4) (Ih X.K t):=by
 intro d s w H Q I h;refine L0 (jY I r m Nu ?_ (by decide) (by decide));refine LV ?_ he2 rfl;rw[he2];refine NR ?_;refine L0 (jY I q l boot_reversed ?_ (by decide) (by decide));refine LV ?_ he rfl;refine cO (P p2 d s w H _ I h) fun V B ⟨U,H1,g,D,q1⟩=>?_;obtain⟨p,z,rfl,L,M⟩:=q1;obtain⟨u,rfl,C⟩:=D.one
 cases C
 obtain⟨j,y,G,J⟩:=g.list L;have Z:=y.length;refine cO (sR (Q:=EP X d w Q) (E:=X.xe) (g.ok.hd O) G.isList (by rw[rj];omega) fun Y A T c N R e=>?_) fun v W S=>OW (by simpa using S);refine⟨.ref (B.heap.objs.size+1),_,g.laid (t':=A) (o:=.lst z.reverse) N (QL _) ?_,rfl,M _ (g.hok.fresh (QL _))⟩;exact⟨by rw[Ml];exact J,j.reverse,c,y.reverse,by rw[R];congr 2;exact congrArg (Data.seq · c) (S1.mp (by rw[e]))⟩
end
end L2
namespace G33
open PySem L2
structure AI(K:bA) (f d:Addr) (S:eM) (xs:List Str) (kl:Kl) (dl:List (Str×List Kk×Kk)) (H H4:Hp) (dp:Nat) (pa lt:Addr) (tvs:List V) (j:Nat) (H':Hp):Prop where
 x:∃(arms:List (Str×List Str)) (ts:List Tm) (us avs:List V) (gs:List Int),Wk K f d S xs kl dl H dp ts us gs H'/\H' pa=some (.lst avs)/\bI K H' (LK gw arms (ts.map enc)) avs/\arms.length=j/\ts.length=j/\H' lt=some (.lst tvs)/\Kt H4 H'/\GG K f S kl H4 H' gs (ts.flatMap lU)/\(∀q,H' q=none->H4 q=none)/\∀a∈arms,Wd a.1/\a.2.length<=2/\∀y∈a.2,Wd y
theorem CO{f:Addr}{H d:Hp}(j:cE H f)(x:Ext f H d){q:Addr}(h:d q=none):H q=none:=by
 cases e:H q with
 |none=>rfl
 |some o =>
  by_cases c:q=f
  ·obtain⟨a,b,g⟩:=x.2;rw[c,g]at h;cases h
  ·rw[x.1 _ _ c e]at h;cases h
theorem GG.put{K:bA}{H e:Hp}{f q:Addr}{S:eM}{j:Kl}{l ys:List Int}{xs m:List V}{o:HO}(g:GG K f S j H e l ys)(E:H q=some o)(u:e q=some (.lst xs))(n:q≠S.la):GG K f S j H (upd e q (.lst m)) l ys:=by
 obtain⟨G,r,d,mk,D,C,B,A,z,y,w⟩:=g;exact⟨G,r,d,mk,D,C,B,A,by rw[av n.symm];exact z,y,fun t v=>by obtain⟨p,J,I⟩:=w t v;exact⟨p,J,I.put E u⟩⟩
theorem GG.JB{K:bA}{H z A:Hp}{f d:Addr}{S:eM}{xs:List Str}{j:Kl}{y:List (Str×List Kk×Kk)}{dp:Nat}{us:List V}{l g' ys:List Int}(g:GG K f S j z A g' ys)(w:Wk K f d S xs j y H dp [] us l z)(r:bx K H f d S xs j y l):GG K f S j H A g' ys:=by
 obtain⟨v,B,e,mk,Q,P,O,N,M,L,J⟩:=g;obtain⟨R,m,q,o,G,E,i3,D,u,t,i7⟩:=w.gg;have Z:R=l:=jF (by have:=G.symm.trans r.lg;injection this with this;injection this)
 have Y:m=[]:=by
  have:=congrArg NP E;rw[Z,lu]at this;exact Mh.mp (by omega)
 have X:o=[]:=by rw[Y]at t;simpa using t
 have U:v=l:=jF (by have:=Q.symm.trans w.sc.lg;injection this with this;injection this)
 have T:e=q:=by
  rw[X,LH]at u;have:=N.symm.trans u;injection this with this;injection this
 subst U T;exact⟨v,B,e,mk,r.lg,P,O,D,M,L,fun C I=>by obtain⟨p,a1,a2⟩:=J C I;exact⟨p,a1,a2.low (fun _ h=>w.new h) w.Ic⟩⟩
section
variable {P:FG}{w:Lk}{K:bA}{mg:Str->Option j3}{base:Heap}{gT gB gE gG:Addr}{tfd bfd efd gfd:zo}
theorem bP:Nm ["_law_feed_here","_law_scene_here","_law_around","_law_kind","_law_goal","_law_share","_law_down","_law_tags","_law_arms_here","_law_t","_law_inner","_law_turn","_law_names_here","_law_more"] (aj jx):=by decide +kernel
theorem fY:Lm ["_law_feed_here","_law_scene_here","_law_around","_law_kind","_law_goal","_law_share","_law_down","_law_tags","_law_arms_here","_law_t","_law_inner","_law_turn","_law_names_here","_law_more"] (aj jx):=by decide +kernel
theorem fD:aI ["_law_feed_here","_law_scene_here","_law_around","_law_kind","_law_goal","_law_share","_law_down","_law_tags","_law_arms_here","_law_t","_law_inner","_law_turn","_law_names_here","_law_more"] ["_law_feed_here","_law_scene_here","_law_around","_law_kind","_law_goal","_law_share","_law_down"] (aj jx):=⟨rfl,rfl,rfl,by decide +kernel,rfl,by decide +kernel,by decide +kernel⟩
theorem Er{f:Addr}{fd:zo}{n j:Nat}(hj:1<=j)(F:gX K "_law_arms" "_law_arms" jx f fd)(TK:bY P w K mg base "_law_take" 1 ["_law_feed_here","_law_many"] eJ gT tfd)(TG:bY P w K mg base "_law_tags_of" 1 ["_law_scene_here","_law_kind"] (kR K) gG gfd)(BD:bY P w K mg base "_law_bound" 1 ["_law_around","_law_more"] (qH K) gB bfd)(TE:bY P w K mg base "_law_term" j ["_law_feed_here","_law_scene_here","_law_around","_law_kind","_law_room","_law_down"] (nT K n) gE efd)(z_len:mg "len"=none)(u:mg "list"=none)(C:mg "tuple"=none)(a2:mg "zip"=none)(z_range:mg "range"=none)(D:mg "reversed"=none):bK P w K mg base eL (j+1) f fd ["_law_feed_here","_law_scene_here","_law_around","_law_kind","_law_goal","_law_share","_law_down"] (CH K n):=by
 refine F.ok fD (fun vs H Q E h=>?_) (fun d9 A cf s H vs Q E hr h=>?_)
 ·obtain⟨_,_,_,_,_,_,_,_,_,_,_,_,_,_,_,rfl,_⟩:=h;rfl
 obtain⟨fe,d,ar,vk,vg,al,a0,S,xs,kl,dl,gs,ps,kk,x,rfl,I,ai,rk,ok,du,rg,hx,d8,d7,dk,dj,dz,k⟩:=h;obtain⟨ec,eb,ea⟩:=I.bb;refine⟨_,(Z6 (Z2 fD.nd fY 7 (Z4 iS u Nu (Z1 (Z0 TG (Z1 (va bP 1) (Zb (va bP 4)))) ak))) (Z6 (Zd (Zf bJ (Z0 TK (cT (va bP 0) (Zb ao))) ao) (Zg (Z2 fD.nd fY 7 (yz rfl (by show _=_;kernel_rfl) u (by show _=_;kernel_rfl) D (Zb (va bP 7)))))) (Z6 (sa fD.nd fY 8 (bg ak)) (Z6 (Zj (cX (va bP 7)) (Zc (Zh (ga fD.nd fY 9) (aG (ga fD.nd fY 10) aZ))) (Z6 (Z2 fD.nd fY 11 (Z0 TK (cT (va bP 0) (Zb ao)))) (Z6 (Zi (aj jx) ["_law_feed_here","_law_scene_here","_law_around","_law_kind","_law_goal","_law_share","_law_down","_law_tags","_law_arms_here","_law_t","_law_inner","_law_turn","_law_names_here","_law_more"] ["_law_j"] [1,11] (Zp (Z1 (Z5 aB (Zb (va bP 10))) ak)) (fun _ _ _ _=>(Z3 (i:=0) (show(["_law_j","_law_scene_here","_law_turn"]:List Str).Nodup by decide +kernel))) (fun _ _ _ _=>dW) (fun _ _ _ _=>(Zl (Bx K rfl) (Zk (va (show Nm ["_law_j","_law_scene_here","_law_turn"] _ by show _=_;kernel_rfl) 1)) (Zm hU (aX cR (va (show Nm ["_law_j","_law_scene_here","_law_turn"] _ by show _=_;kernel_rfl) 2) (va (show Nm ["_law_j","_law_scene_here","_law_turn"] _ by show _=_;kernel_rfl) 0)) ao))) (ga fD.nd fY 12)) (Z6 (Z2 fD.nd fY 13 (Z0 BD (Z1 (va bP 2) (Z1 (wB rfl (by show _=_;kernel_rfl) u (by show _=_;kernel_rfl) a2 (Z1 (va bP 12) (Zb (va bP 10)))) ak)))) (Zg (@cu _ _ _ _ (Z7 Ll Ln cz (va bP 8) (Z1 (Ze (Z1 (va bP 9) (Z1 (Z4 aH C Le (Zb (va bP 12))) (Z1 (Z0 TE (Z1 (va bP 0) (Z1 (va bP 1) (Z1 (va bP 13) (Z1 (va bP 3) (Z1 (va bP 5) (Zb (va bP 6)))))))) ak)))) ak)) (by rfl))))))) (Zg (Zn (Z4 aH C Le (Zb (va bP 8))))))))),?_⟩
 try dsimp only[bM]
 try dsimp only[bM]
 refine jy ?_;intro N1 N2 N3 N4 c1 c2 c3 c4;fail "R";intro v1 H1 k1 s1 b1 d6 r1;obtain⟨i1,b2⟩:=MI b1;obtain⟨dy,bu,bc⟩:=I.ok.pt i1 k1 b2;have cs:i1<kl.length:=(ko.mp b2).1
 have as:∀t∈k1.2,(t.2.length<=2/\∀c∈t.2,c.ok (kn kl)/\c.dep<=2)/\Wd t.1:=fun t ht=>⟨⟨(bc t ht).1,fun c hc=>⟨Kk.uX (fun y hy=>by
  rw[←I.ok.uY (Mb cs)]at hy;exact Ly hy) ((bc t ht).2 c hc).1,((bc t ht).2 c hc).2⟩⟩,I.IS b1 ht⟩
 obtain⟨ta,l,rfl,cb,bm⟩:=r1.aY;have d0:bz K H1 ta l\/bN K H1 ta l:=.inr cb;have cl:=bm.length;rw[bC]at cl;have w1:Wk K fe d S xs kl dl H (n+3) [] [] gs H1:=(Wk.nil I).same s1;fail "R";intro l2 bf;have s2:=ae bf (.lst l);have h2:upd H1 l2 (.lst l) l2=some (.lst l):=af;generalize upd H1 l2 (.lst l)=H2 at s2 h2⊢;have w2:=w1.same s2;have n2:=I.no (w1.new bf)
 have am:∀(l3:Addr) (T:Hp) (tl:List (Str×List Kk)) (t3:List V),Wk K fe d S xs kl dl H (n+3) [] [] gs T->H l3=none->T l3=some (.lst t3)->bI K T (tl.map nR) t3->tl.length<=3->(∀t∈tl,(t.2.length<=2/\∀c∈t.2,c.ok (kn kl)/\c.dep<=2)/\Wd t.1)->N2 [some (.ref fe),some (.ref d),some (.ref ar),some vk,some vg,some (.int al),some (.int a0),some (.ref l3),none,none,none,none,none,none] T:=by
  intro l3 T tl t3 w3 cr h3 r3 dx cp;have ck:=r3.length;rw[bC]at ck;have n3:=I.no cr;fail "R";intro Z be;have s4:=ae be (.lst []);have h4:upd T Z (.lst []) Z=some (.lst []):=af;generalize upd T Z (.lst [])=H4 at s4 h4⊢;have w4:=w3.same s4;have p:=w3.new be;have cw:=s4 _ _ h3;have ci:l3≠Z:=aq h3 be;fail "R";refine nZ (K:=K) (xs:=t3) (fun j σ H5=>(∃a b c e g,σ=[some (.ref fe),some (.ref d),some (.ref ar),some vk,some vg,some (.int al),some (.int a0),some (.ref l3),some (.ref Z),a,b,c,e,g])/\AI K fe d S xs kl dl H H4 (n+3) Z l3 t3 j H5) ⟨⟨_,_,_,_,_,rfl⟩,⟨[],[],[],[],gs,w4,h4,.nil,rfl,rfl,cw,Kt.refl,GG.nil w4.sc,fun _ h=>h,fun _ h=>nomatch h⟩⟩ ?_ ?_ ?_
  ·rintro j σ H5 hj ⟨_,⟨_,_,_,_,_,_,_,_,_,_,h,_⟩⟩;exact bz.of h
  ·rintro j xv σ H5 hxv ⟨⟨_,_,_,_,_,rfl⟩,⟨W,ts,us,N,g5,w5,bl,ac,la,lt,b3,a8,b5,ch,a3⟩⟩;obtain⟨yv,bt,cc⟩:=r3.get' hxv;rw[rz]at bt;obtain⟨o,ho,rfl⟩:=FA.mp bt;obtain⟨⟨ol,br⟩,wo⟩:=cp o (we ho);have co:Kt T H5:=(Kt.same s4).trans a8;obtain⟨oa,o1,o2,rfl,dr,ce,cd⟩:=(show Rp K H5 (.t [.s o.1,.t (o.2.map bW)]) xv from cc.kt co).t2;obtain rfl:=ce.aR;obtain⟨ob,ad,rfl,c6,ah⟩:=cd.aY;have lo:=ah.length;rw[bC]at lo;have ct:=w5.sc.ff;have dv:j<t3.length:=(ko.mp hxv).1;fail "R";intro tn H6 di dh x6;have X:=w5.ext x6;have a7:=x6.kt ct;have a1:=c6.kt a7;have d1:bz K H6 ob ad\/bN K H6 ob ad:=.inr a1;fail "R";refine k7 (n:=((ad.length:Nat):Int).toNat) (fun i7 σ ab H7=>(∃y,σ=[y,some (.ref d),some (.int tn)])/\H7=H6/\∃L:List Str,ab=L.map V.str/\L.length=i7/\∀y∈L,Wd y) ⟨⟨_,rfl⟩,rfl,[],rfl,rfl,fun _ h=>nomatch h⟩ ?_ (small (by omega)) ?_ ?_
   ·rintro i7 σ ab H7 h ⟨_,_,L,rfl,e,_⟩;rw[bC,e];exact lj _
   ·rintro i7 σ ab H7 hi7 ⟨⟨_,rfl⟩,rfl,L,rfl,e,wL⟩;have hg:=X.sc.get (qG S);have d2:=X.sc.ln;obtain⟨y,hy,wy⟩:=X.sc.name (r:=(tn+(0+(i7:Int))) % 5) (by omega) (by omega);fail "R"
    ·exact(show _=(L++[y]).map V.str by rw[nq];rfl)
    refine⟨by rw[lu,e];rfl,?_⟩
    ·intro z hz;rcases Li.mp hz with h|h
     ·exact wL z h
     ·rw[nt.mp h];exact wy
   rintro σ ab H7 ⟨_,rfl,L,rfl,e7,wL⟩ p7 hp7;have Y:=ae hp7 (.lst (L.map V.str));have h7:upd H7 p7 (.lst (L.map V.str)) p7=some (.lst (L.map V.str)):=af;generalize upd H7 p7 (.lst (L.map V.str))=H8 at Y h7⊢;have d5:nc K false H8 p7 (L.map V.str):=bz.of h7;have d4:nc K true H8 ob ad:=a1.same Y;have cm:L.length=o.2.length:=by omega
   have ds:=X.sc.no hp7;fail "R";intro l8 dg H9 z8 d3 h8;have s8:aF H8 H9:=z8.1;have w9:=(X.same Y).same s8;have a9:=w9.qI ai;have ed:=a9.aa;have dw:wX K H9 l8 (L.zip o.2):=⟨_,h8,AN cm z8 ((ah.kt a7).same Y)⟩;have lz:(L.zip o.2).length<=2:=by rw[P1];omega
   fail "R";intro dq b8 G bw c8;have a4:=w9.same G
   have c7:=a9.near (H6:=b8) w9.sc (fun q hq=>by
    obtain⟨q1,q2⟩:=NY (show(q.1,q.2)∈L.zip o.2 from hq);exact⟨(br _ q2).1,by have:=(br _ q2).2;omega,wL _ q1⟩) (by omega) bw c8
   have dc:=a4.rp rk;have cx:=G _ _ (s8 _ _ h7);have bk:=G _ _ (s8 _ _ (Y _ _ (x6.1 _ _ (I.no p).1 bl)));have df:=oZ ps (L.zip o.2);fail "R";refine .inl ⟨bz.of cx,fun a6 aw=>?_⟩;have B:=ae aw (.tup (L.map V.str));have bq:=Rp.new (K:=K) aw (bI.strs L);generalize upd b8 a6 (.tup (L.map V.str))=H11 at B bq⊢;have R:=a4.same B;have ee:=c7.tX (a4.sc.ni.same B);have db:=R.rp rk;have bi:=B _ _ bk;have da:=R.sc;have an:∀q,H11 q=none->H4 q=none:=fun q hq=>ch q (CO w5.sc.ff x6 (Y.free (s8.free (G.free (B.free hq)))));have cq:(oY ps (L.zip o.2)).length+2*n<=S.pb:=by omega
   fail "R";intro a5 c9 m b7 M O bp ag c5;have ca:=R.snoc M O bp ag c5;have bh:=M.eK (I.no p).2.1 (I.no p).2.2 (I.no p).1 bi;fail "R";intro U au;have v:=ae au (.tup [.str o.1,.ref a6,a5]);have bo:=Rp.new (K:=K) (xs:=[.s o.1,.t (L.map .s),enc m]) au (.cons .s (.cons (bq.kt M.kt) (.one bp)));generalize upd c9 U (.tup [.str o.1,.ref a6,a5])=H13 at v bo⊢;have b9:=ca.same v;have J:=v _ _ bh;have ap:Kt H5 H13:=(((((a7.trans (Kt.same Y)).trans (Kt.same s8)).trans (Kt.same G)).trans (Kt.same B)).trans M.kt).trans (Kt.same v)
   have ay:GG K fe S kl H4 (upd H13 Z (.lst (N++[.ref U]))) b7 ((ts++[m]).flatMap lU):=by
    obtain⟨dt,b0,_⟩:=w5.sc.la;have cj:=w5.sc.nf.2.2.2.2.2.2;have c0:=b5.go (((((w5.sc.ni.ext x6).same Y).same s8).same G).same B) ((B _ _ (G _ _ (s8 _ _ (Y _ _ (x6.1 _ _ cj b0))))).trans b0.symm);have b6:=c0.trans R.sc an (fun vs h=>w4.fr.eK I.ng.2.2.2 (by obtain⟨kv,hk,_⟩:=R.sc.la;exact cD h hk (fun z=>nomatch z)) I.nf.2.2.2.2.1 (R.Ic vs h)) M ag.g
    obtain⟨de,ax,_⟩:=O.la;have cy:=b6.go (O.ni.same v) ((v _ _ ax).trans ax.symm);rw[Ma,show [m].flatMap lU=lU m by simp];exact cy.put h4 J (I.no p).2.2
   have bs:∀q,upd H13 Z (.lst (N++[.ref U])) q=none->H4 q=none:=fun q hq=>by
    have e:H13 q=none:=by
     by_cases c:q=Z
     ·rw[c,af]at hq;cases hq
     ·rwa [av c]at hq
    refine an q (M.free (v.free e) fun z=>?_);have:=O.IT (v.free e);rcases ri.mp z with z|z
    ·exact this.2.1 z
    ·exact this.2.2.1 (nt.mp z)
   have cn:=ac.length;rw[MM,bC]at cn;have dd:N.length<nk:=bj (by omega);have ba:Kt H13 (upd H13 Z (.lst (N++[.ref U]))):=Kt.lst J _;have b4:H13 l3=some (.lst t3):=v _ _ (M.eK n3.2.1 n3.2.2 n3.1 (B _ _ (G _ _ (s8 _ _ (Y _ _ (x6.1 _ _ n3.1 b3))))));fail "R";refine⟨W++[(o.1,L)],ts++[m],us++[a5],N++[.ref U],b7,b9.put I p J (ay.JB w4 I),af,?_,by rw[lu,la];rfl,by rw[lu,lt];rfl,by rw[av ci];exact b4,(a8.trans ap).trans ba,ay,bs,fun a ha=>(Li.mp ha).elim (a3 a) (fun h=>by rw[nt.mp h];exact⟨wo,by show L.length<=2;omega,wL⟩)⟩;rw[nq];rw[show Nb enc [m]=[enc m]from rfl,wZ _ _ (by rw[bC,la,lt])];exact((ac.kt ap).kt ba).snoc (bo.kt ba)
  ·rintro σ H5 ⟨⟨_,_,_,_,_,rfl⟩,⟨W,ts,us,N,g5,w5,bl,ac,la,lt,b3,a8,b5,_,a3⟩⟩;fail "R";refine .inl ⟨bz.of bl,fun p6 bv=>?_⟩;have s6:=ae bv (.tup N);have X:=w5.same s6;exact k _ _ W ts g5 X.fr X.sc (Rp.new (K:=K) bv ac) (by omega) (by omega) a3 X.ok X.gg
 have cv:=w2.sc.ff;clear c2 c3 c4;fail "R";intro r3 T dp dn x3;have w3:=w2.ext x3;have h3:=x3.1 _ _ n2.1 h2;have bn:=(bm.same s2).kt (x3.kt cv);fail "R";refine cH (fun c=>?_) (fun c=>?_)
 ·fail "R";intro l4 bx;have s4:=ae bx (.lst l.reverse);have h4:upd T l4 (.lst l.reverse) l4=some (.lst l.reverse):=af;generalize upd T l4 (.lst l.reverse)=H4 at s4 h4⊢;fail "R";refine am l4 H4 k1.2.reverse l.reverse (w3.same s4) (w3.new bx) h4 ?_ (by rw[Ml];exact bu) (fun t ht=>as t (Rf.mp ht));rw[Pg];exact(bn.same s4).reverse
 ·fail "R";exact am l2 T k1.2 l w3 (w1.new bf) h3 bn bu as
end
noncomputable def CP(K:bA):Sp:=fun u H Q _=>∃(f d t:Addr) (p:V) (e:Int) (S:eM) (o:List Str) (g:Kl) (r:List (Str×List Kk×Kk)) (w:List Int) (q:List (Str×Kk)) (k:Kk),u=[.ref f,.ref d,.ref t,p,.int e]/\bx K H f d S o g r w/\wY K H f S g t q/\Rp K H (bW k) p/\k.ok (kn g)/\k.dep<=2/\0<=e/\e<=1000/\q.length<=8/\20<=S.pb /\
 ∀(v:V) (l:Hp) (m:Tm) (j:List Int),bH [S.lg,S.la] f H l->bx K l f d S o g r j->Rp K l (enc m) v->Ej K f S g H l j m->m.depth<=9->m.size<=40->Q v l
theorem GG.less{K:bA}{H m:Hp}{f:Addr}{S:eM}{j:Kl}{l ys e:List Int}(g:GG K f S j H m l ys)(h:e.Sublist ys):GG K f S j H m l e:=by
 obtain⟨u,o,d,mk,t,r,q,p⟩:=g;exact⟨u,o,d,mk,t,r,h.trans q,p⟩
theorem Tok.few{d:Tm}(h:Tok d):∀t∈d.parts,t.ks.length<=900:=by
 induction h with
 |mk a b c g ih =>
  intro t ht;rw[Tm.jq]at ht;rcases ri.mp ht with rfl|ht
  ·exact I0 b (by omega)
  ·obtain⟨k,e,j⟩:=nK ht;exact ih k e t j
theorem Dp.few{e:Tm}{x:Nat}(d:Dp x e)(t:Tok e)(g:x<=9):HL e:=⟨by have:=(d.mono g).2;omega,t.few⟩
section
variable {P:FG}{w:Lk}{K:bA}{mg:Str->Option j3}{base:Heap}{gT gS gE gN gH:Addr}{tfd sfd efd nfd hfd:zo}
theorem eI:Nm ["_law_feed_here","_law_scene_here","_law_around","_law_kind","_law_room","_law_term_here"] (aj mq):=by decide +kernel
theorem AQ:Lm ["_law_feed_here","_law_scene_here","_law_around","_law_kind","_law_room","_law_term_here"] (aj mq):=by decide +kernel
theorem t9:aI ["_law_feed_here","_law_scene_here","_law_around","_law_kind","_law_room","_law_term_here"] ["_law_feed_here","_law_scene_here","_law_around","_law_kind","_law_room"] (aj mq):=⟨rfl,rfl,rfl,by decide +kernel,rfl,by decide +kernel,by decide +kernel⟩
theorem Es{f:Addr}{V:zo}{j jn:Nat}(h1:3<=j)(U:jn<=j)(F:gX K "_law_held" "_law_held" mq f V)(R:bY P w K mg base "parts" 3 ["term"] (oH K) gS sfd)(TE:bY P w K mg base "_law_term" j ["_law_feed_here","_law_scene_here","_law_around","_law_kind","_law_room","_law_down"] (nT K 6) gE efd)(NO:bY P w K mg base "_law_nought" jn ["_law_feed_here","_law_scene_here","_law_kind"] (mS K 4) gN nfd)(z_len:mg "len"=none):bK P w K mg base eL (j+1) f V ["_law_feed_here","_law_scene_here","_law_around","_law_kind","_law_room"] (CP K):=by
 refine F.ok t9 (fun Z H Q E h=>?_) (fun aw A L s H Z Q E hr h=>?_)
 ·obtain⟨_,_,_,_,_,_,_,_,_,_,_,_,rfl,_⟩:=h;rfl
 obtain⟨fe,d,ar,vk,v,S,xs,q,dl,gs,ps,M,rfl,G,ai,rk,ok,ag,ac,ab,al,am,k⟩:=h;obtain⟨a0,ay,ax⟩:=G.bb;refine⟨_,(Z6 (Z2 t9.nd AQ 5 (Z0 TE (Z1 (va eI 0) (Z1 (va eI 1) (Z1 (va eI 2) (Z1 (va eI 3) (cT (va eI 4) (Zb ao)))))))) (Z6 (Zd (Zf nu (Z5 aB (Z1 (Z0 R (Zb (va eI 5))) ak)) ao) (Zg (Zn (Z0 NO (Z1 (va eI 0) (Z1 (va eI 1) (Zb (va eI 3)))))))) (Zg (cB (va eI 5))))),?_⟩
 try dsimp only[bM]
 try dsimp only[bM]
 have ah:M.dep+6<=S.kb:=by omega
 have aa:-1<=v:=by omega
 have an:ps.length+2*6<=S.pb:=by omega
 fail "R";intro v1 H1 r N X o r1 l Y;have I:=rk.kt X.kt;have w1:=l.tk.wf;have O:=Y.few l.tk (by omega);have z1:=O.1;have au:=Y.1;fail "R";intro T C m p ap U J;have l2:=J.length;rw[bC,Tm.cY]at l2;have e:=o.same p;have W:=X.same p;have ad:=I.same p;have r2:=r1.same p;have aq:bz K C T m\/bN K C T m:=.inl (bz.of U);have u:Ej K fe S q H C N r:=⟨l.tk,by obtain⟨kv,y,_⟩:=o.la;exact l.g.go (o.ni.same p) ((p _ _ y).trans y.symm)⟩;fail "R";refine cH (fun c=>?_) (fun c=>?_)
 ·have ae:M.ok ((kn q).take q.length):=by rw[LO (by unfold kn;rw[bC];exact lj _)];exact ok
  have k4:q.length<4:=by have:=G.k3;omega
  have aj:M.dep<=100:=by omega
  have as:=lj q.length;fail "R";intro v3 H3 D B r3 t d3 z3;have:=G.k3;have p3:2 ^ (q.length+1)<=2 ^ 4:=ND (by omega) (by omega);exact k v3 H3 D N (W.ext B) (e.ext B) r3 ⟨t.1,by rw[t.2];obtain⟨kv,y,_⟩:=e.la;exact(u.g.less (Pj _)).go (e.ni.ext B) ((B.1 _ _ e.nf.2.2.2.2.2.2 y).trans y.symm)⟩ (by omega) (by omega)
 ·have c':¬(40:Int)<(m.length:Int):=fun z=>c (decide_eq_true z);fail "R";exact k v1 C r N W e r2 u (by omega) (by omega)
end
noncomputable def NN(S:eM)(d p:Addr):Prop:=p≠d/\p≠S.ln/\p≠S.lc/\p≠S.lp/\p≠S.ld/\p≠S.lg/\p≠S.la
section
variable {K:bA}{H H':Hp}{f d:Addr}{S:eM}{xs:List Str}{kl:Kl}{dl:List (Str×List Kk×Kk)}{gs:List Int}
theorem bx.nn(s:bx K H f d S xs kl dl gs){p:Addr}(e:H p=none):NN S d p:=by
 obtain⟨_,hd,_⟩:=s.ld;obtain⟨_,g,_⟩:=s.la;exact⟨(aq s.sd e).symm,(aq s.ln e).symm,(aq s.lc e).symm,(aq s.lp e).symm,(aq hd e).symm,(aq s.lg e).symm,(aq g e).symm⟩
theorem bx.gh(s:bx K H f d S xs kl [] gs)(a b:Addr):bx K H f d {S with x1:=a,x2:=b} xs kl [] gs:=by
 obtain⟨g,hd,e⟩:=s.ld;exact⟨s.sd,s.kd,s.ok,s.k3,s.lx,s.un,s.ln,s.lc,s.lp,⟨g,hd,e⟩,s.dl,s.lg,s.la,s.mm,s.mo,s.gn,s.tn,s.ff,s.nf,s.ng,s.nd,s.na,s.bb⟩
theorem bx.JQ(s:bx K H f d S xs kl dl gs)(fr:bH [S.x1,S.x2] f H H')(v:NN S d S.x1)(u:NN S d S.x2):bx K H' f d S xs kl dl gs:=by
 obtain⟨j,hd,e⟩:=s.ld;obtain⟨g,y,w⟩:=s.la;obtain⟨t,r,q,p,o,m,l⟩:=s.nf;obtain⟨Q,P,O,N,M,L,J⟩:=v;obtain⟨I,G,E,D,C,B,A⟩:=u;exact⟨fr.eK Q.symm I.symm t s.sd,s.kd.kt fr.kt,s.ok,s.k3,s.lx,s.un,fr.eK P.symm G.symm r s.ln,fr.eK O.symm E.symm q s.lc,fr.eK N.symm D.symm p s.lp,⟨j,fr.eK M.symm C.symm o hd,e.go (fun b R z h=>fr.eK (fX z).2.2.2.1 (fX z).2.2.2.2 (fX z).1 h) fr.kt⟩,s.dl,fr.eK L.symm B.symm m s.lg,⟨g,fr.eK J.symm A.symm l y,w⟩,s.mm,s.mo,s.gn,s.tn,fr.ff,s.nf,s.ng,s.nd,s.na,s.bb⟩
theorem cW.snoc{nn:List Addr}{dd:Str×List Kk×Kk}{v:V}(h:AJ K H nn dd v):∀{dl:List (Str×List Kk×Kk)}{g:List V},cW K H nn dl g->cW K H nn (dl++[dd]) (g++[v])
 | [],_,e=>by subst e;exact⟨v,[],rfl,h,rfl⟩
 |_::_,_,⟨u,us,e,a,b⟩=>by subst e;exact⟨u,us++[v],rfl,a,cW.snoc h b⟩
theorem bx.yw(s:bx K H f d S xs kl dl gs){g:List V}(h:H S.ld=some (.lst g))(e:cW K H (S.nn f) dl g){dd:Str×List Kk×Kk}{v:V}(G:AJ K H (S.nn f) dd v)(ok:yr (kn kl) (dl++[dd])):bx K (upd H S.ld (.lst (g++[v]))) f d S xs kl (dl++[dd]) gs:=by
 obtain⟨l,m,D⟩:=s.la;obtain⟨C,B,A,y,w,u,t⟩:=s.nf;obtain⟨M,L,J,E⟩:=s.ng;obtain⟨q,p,o⟩:=s.nd;have fr:bH [S.ld] f H (upd H S.ld (.lst (g++[v]))):=(bH.refl s.ff).upd (.head _) w h;have r:d≠S.ld:=cD s.sd h (fun z=>nomatch z)
 have j:S.la≠S.ld:=cD m h (fun z=>nomatch z)
 exact⟨fr.fF r C s.sd,s.kd.kt fr.kt,s.ok,s.k3,s.lx,s.un,fr.fF q B s.ln,fr.fF p A s.lc,fr.fF o y s.lp,⟨_,af,(e.snoc G).go (fun b I z h=>fr.fF (fX z).2.2.1 (fX z).1 h) fr.kt⟩,ok,fr.fF E.symm u s.lg,⟨l,fr.fF j t m,D⟩,s.mm,s.mo,s.gn,s.tn,fr.ff,s.nf,s.ng,s.nd,s.na,s.bb⟩
noncomputable def KWd:Kk->Prop
 |.num=>True
 |.kd x=>Wd x
 |.op n=>0<=n/\n<1000
 |.row k=>KWd k
theorem Kk.kwd{ns:List Str}(h:∀x∈ns,Wd x):∀{k:Kk},k.ok ns->KWd k
 |.num,_=>True.intro
 |.kd _,z=>h _ z
 |.op _,z=>z.elim
 |.row k,z=>Kk.kwd h (k:=k) z
structure PC(K:bA) (f:Addr) (ns kn:List Str) (H:Hp) (i:Nat) (us:List V) (H':Hp):Prop where
 x:∃ps:List (Str×Kk),bH [] f H H'/\bI K H' (ps.map sA) us/\ps.map (·.1)=ns.take i/\∀p∈ps,p.2.ok kn/\p.2.dep<=1/\Wd p.1
noncomputable def qA(ns:List Str)(e:List (Int×Kk)):Prop:=e.length<=3/\e.map (·.1)=(LU e.length).map (lS 4)/\∀o∈e,o.2.ok ns/\o.2.dep<=1
theorem qA.snoc{ns:List Str}{e:List (Int×Kk)}{k:Kk}(h:qA ns e)(l:e.length<3)(ok:k.ok ns)(d:k.dep<=1):qA ns (e++[(lS 4 e.length,k)]):=by
 refine⟨by rw[lu];exact l,?_,fun o g=>?_⟩
 ·rw[nq,h.2.1,lu,O6,List.range_succ,nq];rfl
 ·rcases Li.mp g with z|z
  ·exact h.2.2 o z
  ·rw[nt.mp z];exact⟨ok,d⟩
theorem qA.nodup{ns:List Str}{g:List (Int×Kk)}(h:qA ns g):(g.map (·.1)).Nodup:=by
 rw[h.2.1];obtain⟨l,_⟩:=h;rcases(show g.length=0\/g.length=1\/g.length=2\/g.length=3 by omega)with e|e|e|e<;>rw[e]<;>decide
structure HC(K:bA) (f lo:Addr) (H:Hp) (ns:List Str) (ps:List (Str×Kk)) (os:List (Int×Kk)) (i:Nat) (us:List V) (H':Hp):Prop where
 x:∃(qs:List (Str×Kk)) (os':List (Int×Kk)),bH [lo] f H H'/\bI K H' (qs.map sA) us/\qs.map (·.1)=(ps.take i).map (·.1)/\vh K H' lo os'/\qA ns os'/\os'.map (·.1)=os.map (·.1)++iU qs/\∀p∈qs,p.2.dep<=1/\Wd p.1/\KWd p.2
noncomputable def GU(dd:Str×List (Str×Kk)×Tm):Prop:=Tok dd.2.2/\dd.2.2.size<=40/\dd.2.2.depth<=9/\dd.2.1.length<=3/\(∀p∈dd.2.1,p.2.dep<=1/\Wd p.1/\KWd p.2)/\Wd dd.1
structure PI(K:bA) (f d:Addr) (S:eM) (xs:List Str) (kl:Kl) (lk:Addr) (H:Hp) (i:Nat) (H':Hp):Prop where
 x:∃(ds:List (Str×List (Str×Kk)×Tm)) (vs:List V) (os:List (Int×Kk)) (dl:List (Str×List Kk×Kk)) (gs:List Int),bH [S.x1,S.x2,S.lg,S.la,S.ld] f H H'/\bx K H' f d S xs kl dl gs/\H' S.x1=some (.lst vs)/\bI K H' (ds.map mD) vs/\ds.length=i/\dl.length=i/\vh K H' S.x2 os/\qA (kn kl) os/\bO ds=os.map (·.1)/\(bE ds).Sublist gs/\lG K H' f S kl [S.x1,S.x2,S.ld,S.lg] gs/\H' lk=some (.lst ((kn kl).map V.str))/\∀dd∈ds,GU dd
theorem CQ(a b:List (Str×Kk)):iU (a++b)=iU a++iU b:=by unfold iU;rw[Nt]
theorem Gs(a b:List (Str×List (Str×Kk)×Tm)):bO (a++b)=bO a++bO b:=by unfold bO;rw[Ma]
end
theorem Kk.yC{ns:List Str}:∀{k:Kk},k.ok ns->k.pG=none
 |.num,_=>rfl
 |.kd _,_=>rfl
 |.op _,h=>absurd h id
 |.row k,h=>yC (k:=k) h
theorem zH{S:eM}{v:V}(h:S.ex=[(ky "opens",v)]):dU (iJ S) (ky "opens")=some v:=by
 unfold iJ;rw[h]
 kernel_rfl
section
variable {K:bA}{H H':Hp}{f p d:Addr}{S:eM}{kl:Kl}{xs:List Addr}{dvs:List V}
theorem iq.xm(a:iq K H f S kl xs dvs p)(fr:bH [S.x1,S.x2] f H H')(v:S.x1∈xs)(u:S.x2∈xs):iq K H' f S kl xs dvs p:=by
 obtain⟨w,m,l,k,B,i,J,y,A,ok,kd,e,C,G,hd,⟨L,o⟩,t,E,D,j,g⟩:=a;have P:m≠S.x1:=fun z=>j (z▸v);have O:m≠S.x2:=fun z=>j (z▸u);have N:l≠S.x1:=fun z=>g (z▸v);have M:l≠S.x2:=fun z=>g (z▸u);obtain⟨r,I,hr⟩:=e.aa;exact⟨w,m,l,k,B,i,J,y.kt fr.kt,A.kt fr.kt,ok,kd,⟨⟨r,fr.eK P O e.nf I,hr.kt fr.kt⟩,e.nf,e.ng,e.na,e.pk,e.pl⟩,C,G,fr.eK N M t hd,⟨L.go (fun b Q z h=>fr.eK (fX (fun q=>z (.tail _ q))).2.2.2.1 (fX (fun q=>z (.tail _ q))).2.2.2.2 (fX (fun q=>z (.tail _ q))).1 h) fr.kt,o⟩,t,E,D,j,g⟩
theorem lG.xm{l:List Int}(a:lG K H f S kl xs l)(fr:bH [S.x1,S.x2] f H H')(r:S.x1∈xs)(q:S.x2∈xs)(j:NN S d S.x1)(g:NN S d S.x2)(n:S.ld≠f/\S.la≠f):lG K H' f S kl xs l:=by
 obtain⟨dvs,e,w,v,u,t⟩:=a;exact⟨dvs,e,fr.eK j.2.2.2.2.1.symm g.2.2.2.2.1.symm n.1 w,fr.eK j.2.2.2.2.2.2.symm g.2.2.2.2.2.2.symm n.2 v,u,fun m o=>by obtain⟨p,z,y⟩:=t m o;exact⟨p,z,y.xm fr r q⟩⟩
end
noncomputable def qo(K:bA):Sp:=fun u H Q _=>∃(f d:Addr) (e:Int) (S:eM) (q:List Str) (l:Kl),u=[.ref f,.ref d,.int e,.int 2]/\bx K H f d S q l [] []/\0<=e/\e<=1000/\S.ex=[(ky "opens",.ref S.x2)]/\H S.x2=some (.lst [])/\NN S d S.x2/\S.x2≠f/\20<=S.pb /\
 ∀(p a:Addr) (r t v:V) (g:Hp) (j:List (Str×List (Str×Kk)×Tm)) (m:List (Int×Kk)) (w:List (Str×List Kk×Kk)) (o:List Int),bH [S.x2,S.lg,S.la,S.ld] f H g->H a=none->bx K g f d {S with x1:=a} q l w o->g p=some (.tup [r,t,v])->Rp K g (jz (fR l) j) r->1<=j.length->j.length<=3->(∀y∈j,GU y)->vh K g S.x2 m->qA (kn l) m->bO j=m.map (·.1)->(bE j).Sublist o->lG K g f {S with x1:=a} l [a,S.x2,S.ld,S.lg] o->Q (.ref p) g
section
variable {P:FG}{w:Lk}{K:bA}{mg:Str->Option j3}{base:Heap}{gT gA gE gH:Addr}{tfd afd efd hfd:zo}
theorem ay:Nm ["_law_feed_here","_law_scene_here","_law_room","_law_hides","_law_known","_law_defs","_law_opens_here","_law_wants","_law_goal","_law_many","_law_k","_law_params","_law_term_here","_law_shown"] (aj cF):=by decide +kernel
theorem br:Lm ["_law_feed_here","_law_scene_here","_law_room","_law_hides","_law_known","_law_defs","_law_opens_here","_law_wants","_law_goal","_law_many","_law_k","_law_params","_law_term_here","_law_shown"] (aj cF):=by decide +kernel
theorem bh:aI ["_law_feed_here","_law_scene_here","_law_room","_law_hides","_law_known","_law_defs","_law_opens_here","_law_wants","_law_goal","_law_many","_law_k","_law_params","_law_term_here","_law_shown"] ["_law_feed_here","_law_scene_here","_law_room","_law_hides"] (aj cF):=⟨rfl,rfl,rfl,by decide +kernel,rfl,by decide +kernel,by decide +kernel⟩
theorem sS{f:Addr}{fd:zo}{j ja jh:Nat}(hj:1<=j)(h1:ja<=j)(h2:jh<=j)(F:gX K "_law_program_of" "_law_program_of" cF f fd)(TK:bY P w K mg base "_law_take" 1 ["_law_feed_here","_law_many"] eJ gT tfd)(AK:bY P w K mg base "_law_any_kind" ja ["_law_feed_here","_law_known","_law_down"] (fW K 3) gA afd)(HE:bY P w K mg base "_law_held" j ["_law_feed_here","_law_scene_here","_law_around","_law_kind","_law_room"] (CP K) gE efd)(HI:bY P w K mg base "_law_hidden" jh ["_law_feed_here","_law_kind","_law_opens_here","_law_few"] (xg K) gH hfd)(z_range:mg "range"=none)(M:mg "tuple"=none):bK P w K mg base eL (j+1) f fd ["_law_feed_here","_law_scene_here","_law_room","_law_hides"] (qo K):=by
 refine F.ok bh (fun vs H Q E h=>?_) (fun j1 A hf s H vs Q E hr h=>?_)
 ·obtain⟨_,_,_,_,_,_,rfl,_⟩:=h;rfl
 obtain⟨C,d,d4,S0,xs,kl,rfl,ag,i8,i7,il,bl,n2,U,ha,k⟩:=h;refine⟨_,(Z6 (Z2 bh.nd br 4 (Za (aj cF) ["_law_feed_here","_law_scene_here","_law_room","_law_hides","_law_known","_law_defs","_law_opens_here","_law_wants","_law_goal","_law_many","_law_k","_law_params","_law_term_here","_law_shown"] ["_law_name","_law_tags"] [] (@dh _ _ _ _ (Zk (va ay 1))) (fun _ _ _ _=>(Zc (Zh (Z3 (i:=0) (show(["_law_name","_law_tags"]:List Str).Nodup by decide +kernel)) (aG (Z3 (i:=1) (show(["_law_name","_law_tags"]:List Str).Nodup by decide +kernel)) aZ)))) (fun _ _ _ _=>(va (show Nm ["_law_name","_law_tags"] _ by show _=_;kernel_rfl) 0)))) (Z6 (sa bh.nd br 5 (bg ak)) (Z6 (Z2 bh.nd br 6 (Zk (va ay 1))) (Z6 (sa bh.nd br 7 (bg ak)) (Z6 (sa bh.nd br 8 az) (Z6 (Z2 bh.nd br 9 (Zm cR ao (Z0 TK (cT (va ay 0) (Zb ao))))) (Z6 (Zj (Zp (Zb (va ay 9))) (ga bh.nd br 10) (Z6 (Zi (aj cF) ["_law_feed_here","_law_scene_here","_law_room","_law_hides","_law_known","_law_defs","_law_opens_here","_law_wants","_law_goal","_law_many","_law_k","_law_params","_law_term_here","_law_shown"] ["_law_x"] [0,4] (@cX _ _ _ _ (@cK _ _ _ _ _ _ _ _ _ _ gu (Zk (va ay 1)) dQ (@cy _ _ _ (Z0 TK (cT (va ay 0) (Zb ao)))))) (fun _ _ _ _=>(Z3 (i:=0) (show(["_law_x","_law_feed_here","_law_known"]:List Str).Nodup by decide +kernel))) (fun _ _ _ _=>dW) (fun _ _ _ _=>(Ze (Z1 (va (show Nm ["_law_x","_law_feed_here","_law_known"] _ by show _=_;kernel_rfl) 0) (Z1 (Z0 AK (Z1 (va (show Nm ["_law_x","_law_feed_here","_law_known"] _ by show _=_;kernel_rfl) 1) (cT (va (show Nm ["_law_x","_law_feed_here","_law_known"] _ by show _=_;kernel_rfl) 2) (Zb ao)))) ak)))) (ga bh.nd br 11)) (Z6 (Zi (aj cF) ["_law_feed_here","_law_scene_here","_law_room","_law_hides","_law_known","_law_defs","_law_opens_here","_law_wants","_law_goal","_law_many","_law_k","_law_params","_law_term_here","_law_shown"] ["_law_x","_law_kind"] [] (cX (va ay 11)) (fun _ _ _ _=>(Zc (Zh (Z3 (i:=0) (show(["_law_x","_law_kind"]:List Str).Nodup by decide +kernel)) (aG (Z3 (i:=1) (show(["_law_x","_law_kind"]:List Str).Nodup by decide +kernel)) aZ)))) (fun _ _ _ _=>dW) (fun _ _ _ _=>(va (show Nm ["_law_x","_law_kind"] _ by show _=_;kernel_rfl) 1)) (ga bh.nd br 7)) (Z6 (Z2 bh.nd br 8 (Z0 AK (Z1 (va ay 0) (cT (va ay 4) (Zb ao))))) (Z6 (Z2 bh.nd br 12 (Z0 HE (Z1 (va ay 0) (Z1 (va ay 1) (Z1 (va ay 11) (Z1 (va ay 8) (Zb (va ay 2)))))))) (Z6 (Z2 bh.nd br 13 (Z4 aH M Le (Zb (va ay 11)))) (Z6 (Zd (PW.pt (@sX _ _ _ _ _ _ _ (Zq bJ (va ay 3) ao) (@qM _ _ _ _ (PW.pt (@gY _ _ _ _ _ _ _ (Zq bJ (va ay 3) ao) (@gm _ _ _ _ (Zf lY (va ay 10) (aX bL (va ay 9) ao)))))))) (Zg (Z2 bh.nd br 13 (Z4 aH M Le (Z1 (Za (aj cF) ["_law_feed_here","_law_scene_here","_law_room","_law_hides","_law_known","_law_defs","_law_opens_here","_law_wants","_law_goal","_law_many","_law_k","_law_params","_law_term_here","_law_shown"] ["_law_x","_law_kind"] [0,3,6] (cX (va ay 11)) (fun _ _ _ _=>(Zc (Zh (Z3 (i:=0) (show(["_law_x","_law_kind","_law_feed_here","_law_hides","_law_opens_here"]:List Str).Nodup by decide +kernel)) (aG (Z3 (i:=1) (show(["_law_x","_law_kind","_law_feed_here","_law_hides","_law_opens_here"]:List Str).Nodup by decide +kernel)) aZ)))) (fun _ _ _ _=>(Ze (Z1 (va (show Nm ["_law_x","_law_kind","_law_feed_here","_law_hides","_law_opens_here"] _ by show _=_;kernel_rfl) 0) (Z1 (Z0 HI (Z1 (va (show Nm ["_law_x","_law_kind","_law_feed_here","_law_hides","_law_opens_here"] _ by show _=_;kernel_rfl) 2) (Z1 (va (show Nm ["_law_x","_law_kind","_law_feed_here","_law_hides","_law_opens_here"] _ by show _=_;kernel_rfl) 1) (Z1 (va (show Nm ["_law_x","_law_kind","_law_feed_here","_law_hides","_law_opens_here"] _ by show _=_;kernel_rfl) 4) (Z1 (Zm cR ao (aX hU (va (show Nm ["_law_x","_law_kind","_law_feed_here","_law_hides","_law_opens_here"] _ by show _=_;kernel_rfl) 3) ao)) ak))))) ak))))) ak))))) (Z6 (@cu _ _ _ _ (Z7 Ll Ln cz (va ay 5) (Z1 (Ze (Z1 (Zl aW (Zk (va ay 1)) (va ay 10)) (Z1 (va ay 13) (Zb (va ay 12))))) ak)) (by rfl)) (Zg (@cu _ _ _ _ (Z7 Ll Ln cz (Zk (va ay 1)) (Z1 (Ze (Z1 (Zl aW (Zk (va ay 1)) (va ay 10)) (Z1 (va ay 7) (Zb (va ay 8))))) ak)) (by rfl))))))))))) (Zg (Zn (Ze (Z1 (Ze (Z1 (Zk (va ay 1)) (Z1 (Z4 aH M Le (Zb (va ay 5))) ak))) (Z1 (va ay 7) (Zb (va ay 8)))))))))))))),?_⟩
 try dsimp only[bM]
 try dsimp only[bM]
 have ju:=ag.get (lF S0);obtain⟨ka,ew,ek,jm,jb⟩:=ag.kd.aY
 cases ek
 fail "R";refine qJ ag fun lk H1 s1 dc h1=>?_;have ct:=ag.same s1;fail "R";intro X aa;have s2:=ae aa (.lst []);have h2:upd H1 X (.lst []) X=some (.lst []):=af;generalize upd H1 X (.lst [])=H2 at s2 h2⊢;have jt:=(ct.same s2).get (zH il);have fj:=s2 _ _ (s1 _ _ bl);have c6:X≠S0.x2:=(aq (s1 _ _ bl) aa).symm;fail "R";intro hs fl;have s4:=ae fl (.lst []);generalize upd H2 hs (.lst [])=H4 at s4⊢;have n1:NN S0 d X:=ct.nn aa;have hq:lk≠X:=aq h1 aa;have ep:lk≠S0.x2:=(aq bl dc).symm;have l:=s1.trans (s2.trans s4);have cc:H X=none:=s1.free aa;have ih:=s4 _ _ h2;have fr:=s4 _ _ fj;have ig:=s4 _ _ (s2 _ _ h1);obtain⟨S,eS⟩:∃S:eM,S={S0 with x1:=X}:=⟨_,rfl⟩;have d0:bx K H4 C d S xs kl [] []:=by rw[eS];exact(ag.same l).gh X S0.x2
 have eg:S.lg=S0.lg/\S.la=S0.la/\S.ld=S0.ld/\S.x1=X/\S.x2=S0.x2/\S.pb=S0.pb:=by rw[eS];exact⟨rfl,rfl,rfl,rfl,rfl,rfl⟩
 have m1:NN S d S.x1:=by rw[eS];exact n1
 have m2:NN S d S.x2:=by rw[eS];exact n2
 obtain⟨e1,e2,e3,rfl,e4,e5⟩:=eg;rw[←e4]at U ep c6 fr;rw[←e4];have jn:20<=S.pb:=by rw[e5];exact ha
 have h7:=d0.ff;have G:S.x1≠C:=(ct.no aa).1;have ax:S.x1∈[S.x1,S.x2,S.ld,S.lg]:=.head _;have aw:S.x2∈[S.x1,S.x2,S.ld,S.lg]:=.tail _ (.head _);have bf:lk≠C:=(ag.no dc).1;have c5:NN S0 d lk:=ag.nn dc;fail "R";intro m H5 m0 jg x5;have cs:=d0.ext x5;have f5:bH [S.x1,S.x2,S.lg,S.la,S.ld] C H4 H5:=(bH.refl h7).ext x5
 have iv:lG K H5 C S kl [S.x1,S.x2,S.ld,S.lg] []:=by
  obtain⟨dv,a0,_⟩:=cs.ld;obtain⟨ew,h5,l0,_⟩:=cs.la;have:ew=[]:=Mh.mp (Nat.le_zero.mp l0);subst this;exact⟨dv,[],a0,h5,rfl,fun _ h=>nomatch h⟩
 have ie:=x5.1 _ _ G ih;have ib:=x5.1 _ _ U fr;have ic:=x5.1 _ _ bf ig;fail "R";refine fU (n:=(1+m).toNat) (fun i σ H6=>(∃(w g:V) (g2 g1 gz gy:Option V),σ=[some (.ref C),some (.ref d),some (.int d4),some (.int 2),some (.ref lk),some (.ref S.x1),some (.ref S.x2),some w,some g,some (.int (1+m)),g2,g1,gz,gy])/\PI K C d S xs kl lk H4 i H6) ⟨⟨_,_,_,_,_,_,rfl⟩,⟨[],[],[],[],[],f5,cs,ie,.nil,rfl,rfl,⟨[],ib,.nil⟩,⟨Ld _,rfl,fun _ h=>nomatch h⟩,rfl,.slnil,iv,ic,fun dd h=>nomatch h⟩⟩ ?_ ?_
 ·rintro i σ H6 hi ⟨⟨w6,g6,_,_,_,_,rfl⟩,⟨ds,vs,os,dl,bu,f6,eW,bm,r6,es,et,⟨bq,a2,cx⟩,c0,c7,cr,du,bt,dn⟩⟩;have js:=eW.get (CD S);have jp:=eW.lp;have fo:=eW.ff;have GR:=eW.GR;have lx:=eW.lx;have jd:=eW.nf.2.2.2.1;fail "R";intro m7 H7 jf je x7;have dz:=eW.ext x7;have i0:=dz.lp;fail "R";intro l8 fm
  have e8:gq (((xs.drop 21).take 3).map V.str) none (some m7)=(((xs.drop 21).take 3).take m7.toNat).map V.str:=by
   rw[show m7=((m7.toNat:Nat):Int) by omega,jc,Mv];exact M0.symm
  rw[e8];have s8:=ae fm (.lst ((((xs.drop 21).take 3).take m7.toNat).map V.str));have h8:upd H7 l8 (.lst ((((xs.drop 21).take 3).take m7.toNat).map V.str)) l8=some (.lst ((((xs.drop 21).take 3).take m7.toNat).map V.str)):=af;generalize upd H7 l8 (.lst ((((xs.drop 21).take 3).take m7.toNat).map V.str))=H8 at s8 h8⊢;have hw:(((xs.drop 21).take 3).take m7.toNat).length<=3:=by rw[Lb,Lb];omega
  have dx:∀y∈(((xs.drop 21).take 3).take m7.toNat),Wd y:=fun y hy=>eW.un.2 y (Ou (Ly (Ly hy)));generalize(((xs.drop 21).take 3).take m7.toNat)=ns at h8 hw dx;have cp:Ext C H6 H8:=x7.same s8;have ia:=cp.1 _ _ bf bt;have hn:=(dz.no fm).1;fail "R";refine fg (K:=K) (xs:=ns.map V.str) (fun i9 σ us H9=>(∃y,σ=[y,some (.ref C),some (.ref lk)])/\PC K C ns (kn kl) H8 i9 us H9) ⟨⟨_,rfl⟩,⟨[],bH.refl cp.2,.nil,rfl,fun p h=>nomatch h⟩⟩ ?_ (small (by rw[bC];omega)) ?_ ?_ ?_
  ·rintro i9 σ us H9 h9 ⟨_,⟨ps,_,r,e,_⟩⟩;have:=congrArg NP e;rw[bC,Lb]at this;rw[r.length,bC,this];exact PZ _ _
  ·rintro i9 σ us H9 h9 ⟨_,⟨ps,f9,_⟩⟩;exact bz.of (f9.rO hn h8)
  ·rintro i9 xv σ us H9 hxv ⟨⟨_,rfl⟩,⟨ps,f9,r9,e9,o9⟩⟩;rw[rz]at hxv;obtain⟨y9,db,rfl⟩:=FA.mp hxv;have j0:=f9.rO bf ia;have fn:=f9.ff;have c9:(kn kl).length<=100:=by omega
   fail "R";intro cq gw L dw ba hl dt;fail "R";intro he al;have J:=ae al (.tup [.str y9,cq]);have df:=(ko.mp db).1;have gi:L.dep<=1:=dt;fail "R";refine⟨ps++[(y9,L)],(f9.ext dw).same J,?_,?_,fun p hp=>(Li.mp hp).elim (o9 p) (fun h=>by rw[nt.mp h];exact⟨hl,gi,dx _ (we db)⟩)⟩
   ·rw[nq];exact((r9.kt (dw.kt fn)).same J).snoc (Rp.new (K:=K) (xs:=[.s y9,bW L]) al (.cons .s (.one ba)))
   ·rw[nq,e9,Lc df,(ko.mp db).2];rfl
  rintro σ us H9 ⟨_,⟨ps,f9,r9,e9,o9⟩⟩ lpa hlpa;rw[bC,Lv]at e9;have hu:ps.length<=3:=by have:=congrArg NP e9;rw[bC]at this;omega
  have cw:=ae hlpa (.lst us);have dj:upd H9 lpa (.lst us) lpa=some (.lst us):=af;have ba:=r9.same cw;generalize upd H9 lpa (.lst us)=gw at cw dj ba⊢;have co:Ext C H6 H9:=cp.trans f9.ex;have ad:=co.same cw;have bp:=eW.ext co;have I:=bp.no hlpa;fail "R";refine ik (e:=sA) (φ:=fun p=>[bW p.2]) (fun σ=>∃x y,σ=[x,y]) dj ba (by omega) (fun _=>lj _) ⟨_,_,rfl⟩ ?_ ?_
  ·rintro p hp x _ gv N J ⟨_,_,rfl⟩ rx kN;obtain⟨xa,x1,x2,rfl,g3,r1,r2⟩:=(show Rp K gv (.t [.s p.1,bW p.2]) x from rx).t2;fail "R";exact kN _ _ _ ⟨⟨_,_,rfl⟩,aF.refl _,.one r2⟩
  intro lw gv ws J bs ii ej;rw[iL (fun p:Str×Kk=>bW p.2),show(ps.map fun p=>bW p.2)=(ps.map (·.2)).map bW from by rw[Nd];rfl]at ej;have ar:=ad.same J;have ix:=eW.ext ar;have ap:=(eW.ext ad).no bs;have eo:=(eW.ext ad).nn bs;have i5:=ar.1 _ _ bf bt;have cb:=ar.2;have c9:(kn kl).length<=100:=by omega
  have be:lw≠S.x1:=(aq (ad.1 _ _ G bm) bs).symm;have bc:lw≠S.x2:=(aq (ad.1 _ _ U a2) bs).symm;fail "R";intro vg gt kg a3 g9 hh iu;have i6:kg.dep<=1:=iu;have v:=ar.trans a3;have q:=eW.ext v;have ck:=a3.1 _ _ I.1 (J _ _ dj);have f3:=a3.1 _ _ ap.1 ii;have b6:=(ba.same J).kt (a3.kt cb);have ei:=ej.kt (a3.kt cb);have ai:wY K gt C S kl lpa ps:=⟨⟨us,ck,b6⟩,I.1,I.2.1,I.2.2,fun p hp=>⟨(o9 p hp).1,by have:=(o9 p hp).2.1;omega,(o9 p hp).2.2⟩,by omega⟩;have dr:kg.dep<=2:=by omega
  have iy:ps.length<=8:=by omega
  fail "R";intro a4 bv Z cl Y bw g8 a5 it gx;have er:S.ld≠S.lg/\S.ld≠C:=⟨q.ng.2.2.2,q.nf.2.2.2.2.1⟩;have bi:S.ld≠C/\S.la≠C:=⟨q.nf.2.2.2.2.1,q.nf.2.2.2.2.2.2⟩
  have gs:lG K gt C S kl [S.x1,S.x2,S.ld,S.lg] bu:=by
   obtain⟨kv,hk,_⟩:=eW.la;exact du.go (eW.ni.ext v) ((v.1 _ _ eW.nf.2.2.2.2.2.2 hk).trans hk.symm) er
  have gr:lG K bv C S kl [S.x1,S.x2,S.ld,S.lg] cl:=by
   obtain⟨iq,fq,ir⟩:=q.ld;refine gs.gg a5.g q.lg Y er (fun x hx=>?_) ⟨iq,dl,fq,ir,q.dl⟩;simp only[ri,Lp,or_false]at hx;rcases hx with rfl|rfl|rfl|rfl
   ·exact⟨_,v.1 _ _ G bm⟩
   ·exact⟨_,v.1 _ _ U a2⟩
   ·obtain⟨dv,a0,_⟩:=q.ld;exact⟨_,a0⟩
   ·exact⟨_,q.lg⟩
  have gb:bH [S.x1,S.x2] C bv bv:=bH.refl bw.ff;have cj:=Y.eK I.2.1 I.2.2 I.1 ck;have f2:=Y.eK ap.2.1 ap.2.2 ap.1 f3;have eh:=b6.kt Y.kt;have ef:=ei.kt Y.kt;have d7:=g9.kt Y.kt;fail "R";refine .inl ⟨bz.of cj,fun hb fi=>?_⟩;have l:=ae fi (.tup us);generalize upd bv hb (.tup us)=H14 at l⊢;have a8:=bw.same l;have fy:=l _ _ cj;have fx:=l _ _ f2;have ee:=eh.same l;have ed:=ef.same l;have d6:=d7.same l;have d3:=g8.same l;have gp:=gr.xm (gb.same l) ax aw m1 m2 bi;have f0:H14 S.x2=some (.lst bq):=l _ _ (Y.eK m2.2.2.2.2.2.1 m2.2.2.2.2.2.2 U (v.1 _ _ U a2));have f1:H14 S.x1=some (.lst vs):=l _ _ (Y.eK m1.2.2.2.2.2.1 m1.2.2.2.2.2.2 G (v.1 _ _ G bm));have b8:Kt H6 H14:=((v.kt fo).trans Y.kt).trans (Kt.same l);have fp:=a8.ff;have c4:lpa≠S.x2:=(aq (co.1 _ _ U a2) hlpa).symm;fail "R";refine fg (K:=K) (xs:=us) (fun i9 σ O H9=>(∃y z,σ=[y,z,some (.ref C),some (.int 2),some (.ref S.x2)])/\HC K C S.x2 H14 (kn kl) ps os i9 O H9) ⟨⟨_,_,rfl⟩,⟨[],os,bH.refl fp,.nil,rfl,⟨bq,f0,cx.kt b8⟩,c0,(LH _).symm,fun p h=>nomatch h⟩⟩ ?_ (small (by rw[r9.length,bC];omega)) ?_ ?_ ?_
  ·rintro i9 σ O H9 h9 ⟨_,⟨qs,an,_,r,e,_⟩⟩;have:=congrArg NP e;rw[bC,bC,Lb]at this;rw[r.length,bC,this];exact PZ _ _
  ·rintro i9 σ O H9 h9 ⟨_,⟨qs,an,f9,_⟩⟩;exact bz.of (f9.fF c4 I.1 fy)
  ·rintro i9 xv σ O H9 hxv ⟨⟨_,_,rfl⟩,⟨qs,an,f9,g5,io,jx,c8,im,d9⟩⟩;obtain⟨yv,e0,g4⟩:=ee.get' hxv;rw[rz]at e0;obtain⟨p9,bk,rfl⟩:=FA.mp e0;obtain⟨xa,x1,x2,rfl,g3,q1,q2⟩:=(show Rp K H9 (.t [.s p9.1,bW p9.2]) xv from g4.kt f9.kt).t2;obtain rfl:=q1.aR;obtain⟨c1,en,w9⟩:=o9 p9 (we bk);have bl:p9.2.pG=none:=Kk.yC c1;have l9:=c8.1;have fn:=f9.ff;fail "R";intro cq gw L bb gd f4 el h3
   have hv:qA (kn kl) bb/\bb.map (·.1)=an.map (·.1)++L.pG.toList/\L.dep<=1/\KWd L:=by
    rcases h3 with⟨rfl,rfl⟩|⟨l3,rfl,rfl⟩
    ·exact⟨c8,by rw[bl];exact(LH _).symm,en,Kk.kwd (fun _ h=>a8.Jz h) c1⟩
    ·exact⟨c8.snoc l3 c1 en,by rw[nq];rfl,Ld _,by show 0<=5*((an.length:Nat):Int)+2/\5*((an.length:Nat):Int)+2<1000;omega⟩
   obtain⟨h0,ip,dt,ev⟩:=hv;fail "R";intro he al;have J:=ae al (.tup [.str p9.1,cq]);have df:=(ko.mp bk).1;fail "R";refine⟨qs++[(p9.1,L)],bb,(f9.trans gd).same J,?_,?_,?_,h0,?_,fun p hp=>(Li.mp hp).elim (d9 p) (fun h=>by rw[nt.mp h];exact⟨dt,w9,ev⟩)⟩
   ·rw[nq];exact((g5.kt gd.kt).same J).snoc (Rp.new (K:=K) (xs:=[.s p9.1,bW L]) al (.cons .s (.one el)))
   ·rw[nq,io,Lc df,(ko.mp bk).2,nq];rfl
   ·obtain⟨ov,ho,ro⟩:=f4;exact⟨ov,J _ _ ho,ro.same J⟩
   ·rw[ip,im,CQ,LM];have:iU [(p9.1,L)]=L.pG.toList:=by unfold iU;rw[Mg];cases L.pG<;>rfl
    rw[this]
  rintro σ O H15 ⟨_,⟨qs,an,bo,g7,gf,⟨b7,fw,d5⟩,eu,ge,is⟩⟩ l16 hl16;have ht:us.length=ps.length:=by rw[r9.length,bC]
  rw[ht,Lv]at gf;have jj:qs.length=ps.length:=by have:=congrArg NP gf;rw[bC,bC]at this;exact this
  have cv:=ae hl16 (.lst O);have fv:upd H15 l16 (.lst O) l16=some (.lst O):=af;have ec:=g7.same cv;generalize upd H15 l16 (.lst O)=H16 at cv fv ec⊢;fail "R";refine .inl ⟨bz.of fv,fun au ca=>?_⟩;have d2:=ae ca (.tup O);have eb:=Rp.new (K:=K) ca ec;generalize upd H16 au (.tup O)=H17 at d2 eb⊢;have u:=cv.trans d2;have gc:bH [S.x1,S.x2] C H14 H17:=bo.more.same u;have as:=a8.JQ gc m1 m2;have gn:=gp.xm gc ax aw m1 m2 bi;have ft:=u _ _ fw;have fu:=u _ _ (bo.fF c6 G f1);have fs:=u _ _ (bo.fF bc ap.1 fx);have ab:Kt H14 H17:=bo.kt.trans (Kt.same u);have jv:=as.get (wQ S);have jq:=as.lc;have jr:i<3:=by omega
  have h6:i<((xs.drop 18).take 3).length:=by rw[Lb,Nk];omega
  obtain⟨W,fk⟩:∃W,((xs.drop 18).take 3)[i]?=some W:=⟨_,m3 h6⟩;have dy:Wd W:=eW.un.2 W (Ou (Ly (we fk)))
  have jw:jM (((xs.drop 18).take 3).map V.str) (0+(i:Int))=some (.str W):=by
   rw[RI];exact bD (by rw[rz,fk];rfl)
  fail "R";intro D b9;have T:=ae b9 (.tup [.str W,.ref au,a4]);have ea:Rp K (upd H17 D (.tup [.str W,.ref au,a4])) (mD (W,qs,Z)) (.ref D):=Rp.new (K:=K) (xs:=[.s W,.t (qs.map sA),enc Z]) b9 (.cons .s (.cons eb (.one (d3.kt ab))));have bn:=T _ _ fu;have ch:=T _ _ fs;have ci:=T _ _ ft;have a7:=as.same T;have f8:bH [S.x1,S.x2] C H17 H17:=bH.refl as.ff;have cn:=gn.xm (f8.same T) ax aw m1 m2 bi;have b3:=(d5.same u).same T;have ez:Kt H6 (upd H17 D (.tup [.str W,.ref au,a4])):=(b8.trans ab).trans (Kt.same T);have b1:=(ed.kt ab).same T;have b5:=(d6.kt ab).same T
  have fa:bH [S.x1,S.x2,S.lg,S.la,S.ld] C H6 (upd H17 D (.tup [.str W,.ref au,a4])):=by
   have a1:bH [S.x1,S.x2,S.lg,S.la,S.ld] C H6 H14:=((Ext.tX fo v).trans (bH.sub Y (fun z hz=>by simp only[ri,Lp,or_false]at hz⊢;rcases hz with h|h<;>simp[h]))).same l
   exact((a1.trans (bH.sub bo (fun z hz=>by simp only[ri,Lp,or_false]at hz⊢;simp[hz]))).same u).same T
  generalize upd H17 D (.tup [.str W,.ref au,a4])=H18 at T ea bn ch ci a7 cn b3 ez b1 b5 fa⊢;have ji:vs.length<nk:=bj (by rw[r6.length,bC];omega);have am:bH [S.x1,S.x2] C H18 (upd H18 S.x1 (.lst (vs++[.ref D]))):=(bH.refl a7.ff).upd (.head _) G bn;have R:=a7.JQ am m1 m2;have cm:=cn.xm am ax aw m1 m2 bi;have b2:=b3.kt am.kt;have cf:upd H18 S.x1 (.lst (vs++[.ref D])) S.x1=some (.lst (vs++[.ref D])):=af;have cd:upd H18 S.x1 (.lst (vs++[.ref D])) lw=some (.lst ws):=by rw[av be];exact ch
  have ce:upd H18 S.x1 (.lst (vs++[.ref D])) S.x2=some (.lst b7):=by rw[av c6.symm];exact ci
  have fb:=fa.upd (o:=.lst (vs++[.ref D])) (.head _) G bn;have d8:=(r6.kt (ez.trans am.kt)).snoc (ea.kt am.kt);have b0:=b1.kt am.kt;have b4:=b5.kt am.kt;have di:=R.get (wQ S);have de:=R.lc;have dg:=R.get (uV S);obtain⟨dk,a0,dq⟩:=R.ld;have jk:=dq.len;have iz:dk.length<nk:=bj (by omega);fail "R";generalize upd H18 S.x1 (.lst (vs++[.ref D]))=H19 at am R cm b2 cf cd ce fb d8 b0 b4 di de dg a0 dq⊢;intro ah fh;have B:=ae fh (.tup [.str W,.ref lw,vg]);have em:=bN.of (K:=K) (show upd H19 ah (.tup [.str W,.ref lw,vg]) ah=some (.tup [.str W,.ref lw,vg])from af);generalize upd H19 ah (.tup [.str W,.ref lw,vg])=H20 at B em⊢;have a6:=R.same B;have f7:bH [S.x1,S.x2] C H19 H19:=bH.refl R.ff;have gl:=cm.xm (f7.same B) ax aw m1 m2 bi;have ac:=B _ _ a0;have dp:=dq.go (fun b ws _ h=>B _ _ h) (Kt.same B)
  have h4:lw∉S.nn C:=by
   unfold eM.nn;simp only[ri,Lp,or_false,not_or];exact⟨ap.1,ap.2.1,eo.2.2.2.2.1,be,bc⟩
  have da:AJ K H20 (S.nn C) (W,ps.map (·.2),kg) (.ref ah):=⟨ah,lw,vg,ws,rfl,em,B _ _ cd,b0.same B,b4.same B,h4⟩
  have hg:yr (kn kl) (dl++[(W,ps.map (·.2),kg)]):=by
   refine⟨by rw[lu];show dl.length+1<=8;omega,fun dd hd=>?_⟩;rcases Li.mp hd with h|h
   ·exact a6.dl.2 dd h
   ·rw[nt.mp h];refine⟨by rw[bC];exact hu,fun c hc=>?_,hh,dr,dy⟩;obtain⟨p,hp,rfl⟩:=L8.mp hc;exact⟨(o9 p hp).1,by have:=(o9 p hp).2.1;omega⟩
  have d1:=a6.yw ac dp da hg;have gk:=gl.yw (.tail _ (.tail _ (.head _))) ac (.ref ah);have hm:=a6.nf.2.2.2.2.1;have c3:S.x1≠S.ld:=m1.2.2.2.2.1;have c2:S.x2≠S.ld:=m2.2.2.2.2.1;have ey:Kt H20 (upd H20 S.ld (.lst (dk++[.ref ah]))):=Kt.lst ac _;have fc:=(fb.same B).upd (o:=.lst (dk++[.ref ah])) (by simp) hm ac
  have eq:lk∉[S.x1,S.x2,S.lg,S.la,S.ld]:=by
   simp only[ri,Lp,or_false,not_or];rw[e1,e2,e3];exact⟨hq,ep,c5.2.2.2.2.2.1,c5.2.2.2.2.2.2,c5.2.2.2.2.1⟩
  fail "R";refine⟨ds++[(W,qs,Z)],vs++[.ref D],an,dl++[(W,ps.map (·.2),kg)],cl,f6.trans fc,d1,?_,?_,by rw[lu,es];rfl,by rw[lu,et];rfl,⟨b7,?_,(b2.same B).kt ey⟩,eu,?_,?_,gk,?_,fun dd hd=>?_⟩
  ·rw[av c3];exact B _ _ cf
  ·rw[nq];exact(d8.same B).kt ey
  ·rw[av c2];exact B _ _ ce
  ·rw[ge,Gs,c7];have:bO [(W,qs,Z)]=iU qs:=by unfold bO;simp
   rw[this]
  ·have:bE (ds++[(W,qs,Z)])=bE ds++lU Z:=by unfold bE;simp;rfl
   rw[this];obtain⟨g0,mr,jl,mk,i1,i2,i3,_⟩:=a5.g;have e1:g0=bu:=jF (by have:=i1.symm.trans q.lg;injection this with this;injection this);rw[i2,e1];exact cr.append i3
  ·exact fc.oth lk _ eq bf bt
  ·rcases Li.mp hd with h|h
   ·exact dn dd h
   ·rw[nt.mp h];exact⟨a5.tk,gx,it,by show qs.length<=3;omega,is,dy⟩
 ·rintro σ H6 ⟨⟨w6,g6,_,_,_,_,rfl⟩,⟨ds,vs,os,dl,bu,f6,eW,bm,r6,es,et,⟨bq,a2,cx⟩,c0,c7,cr,du,bt,dn⟩⟩;have i4:=eW.get (lF S);fail "R";refine .inl ⟨bz.of bm,fun p7 e7=>?_⟩;have s7:=ae e7 (.tup vs);have r7:=Rp.new (K:=K) e7 r6;generalize upd H6 p7 (.tup vs)=H7 at s7 r7⊢;fail "R";intro p8 e6;have s8:=ae e6 (.tup [.ref S.kd,.ref p7]);have r8:Rp K (upd H7 p8 (.tup [.ref S.kd,.ref p7])) (jz (fR kl) ds) (.ref p8):=Rp.new (K:=K) e6 (.cons (eW.kd.same s7) (.one r7));generalize upd H7 p8 (.tup [.ref S.kd,.ref p7])=H8 at s8 r8⊢;fail "R";intro p9 bk;have s9:=ae bk (.tup [.ref p8,w6,g6]);have a9:=(s7.trans s8).trans s9;have fz:=(((bH.refl ag.ff).same l).trans f6).same a9;have bp:=eW.same a9;have ij:bH [S.x1,S.x2] C H6 H6:=bH.refl eW.ff;have gj:=du.xm (ij.same a9) ax aw m1 m2 ⟨eW.nf.2.2.2.2.1,eW.nf.2.2.2.2.2.2⟩;refine k p9 S.x1 (.ref p8) w6 g6 _ ds os dl bu ?_ cc ?_ af (r8.same s9) (by omega) (by omega) dn ?_ c0 c7 cr ?_
  ·rw[←e1,←e2,←e3,←e4];exact fz.drop cc
  ·rw[eS]at bp⊢;exact bp
  ·rw[←e4];exact⟨bq,a9 _ _ a2,cx.same a9⟩
  ·rw[eS]at gj⊢;exact gj
end
structure FS(K:bA) (H:Hp) (f d:Addr) (S:eM) (xs:List Str) (kl:Kl) (dl:List (Str×List Kk×Kk)) (dvs:List V) (g0 gs:List Int):Prop where
 sc:bx K H f d S xs kl dl gs
 hd:H S.ld=some (.lst dvs)
 sub:∀n∈g0,n∈gs
 as:∀n∈g0,∃kvs p,H S.la=some (.dK kvs)/\dU kvs (Sum.inl n)=some (.ref p)/\iq K H f S kl [S.lg] dvs p
 kb:S.kb=13
 pb:S.pb=24
 ex:∃v,S.ex=[(ky "opens",v)]
section
variable {K:bA}{H H':Hp}{f d p:Addr}{S:eM}{xs:List Str}{kl:Kl}{dl:List (Str×List Kk×Kk)}{gs gs' g0:List Int}{dvs:List V}
theorem xn{S:eM}{v:V}(h:S.ex=[(ky "opens",v)])(a:Addr):putK (iJ S) (ky "defs") (.ref a)=iJ {S with ld:=a}:=by
 obtain⟨_,_,_,_,_,_,_,_,_,_,_,_,_,_⟩:=S;dsimp only at h;subst h
 kernel_rfl
theorem CS{S:eM}{v:V}(h:S.ex=[(ky "opens",v)])(m:Int):putK (iJ S) (ky "most") (.int m)=iJ {S with mo:=m}:=by
 obtain⟨_,_,_,_,_,_,_,_,_,_,_,_,_,_⟩:=S;dsimp only at h;subst h
 kernel_rfl
theorem CT{kvs mk:List (Key×V)}{k:Key}{v:V}(h:dU kvs k=some v):dU (kvs++mk) k=some v:=by
 unfold dU at h⊢;obtain⟨x,g,e⟩:=FA.mp h;rw[List.find?_append,g];exact congrArg some e
theorem bx.sub(s:bx K H f d S xs kl dl gs)(fr:bH [d] f H H'){ld:Addr}{o:List V}{w:List (Str×List Kk×Kk)}{m:Int}(h:H' d=some (.dK (iJ {S with ld:=ld,mo:=m})))(A:H ld=some (.lst o))(P:cW K H (ld::S.nn f) w o)(v:yr (kn kl) w)(y:ld≠f)(n2:ld≠S.lg)(r:ld≠S.ln/\ld≠S.lc/\ld≠S.lp)(I:(gs.length:Int)<=m)(mo:m<=14):bx K H' f d {S with ld:=ld,mo:=m,kb:=17,pb:=32} xs kl w gs:=by
 have g:∀{b j},H b=some (.lst j)->b≠f->H' b=some (.lst j):=fun h n=>fr.fF (cD h s.sd (fun z=>nomatch z)) n h
 obtain⟨t,J,u⟩:=s.la;obtain⟨O,G,E,D,R,C,B⟩:=s.nf;obtain⟨N,M,L,Q⟩:=s.ng;refine⟨h,s.kd.kt fr.kt,s.ok,s.k3,s.lx,s.un,g s.ln G,g s.lc E,g s.lp D,⟨o,g A y,?_⟩,v,g s.lg C,⟨t,fr.fF s.na.symm B J,u⟩,I,mo,s.gn,s.tn,fr.ff,⟨O,G,E,D,y,C,B⟩,⟨N,M,L,n2⟩,⟨r.1.symm,r.2.1.symm,r.2.2.symm⟩,s.na,⟨(by decide:17<=20),(by decide:32<=40),(by decide:13<=17)⟩⟩;refine(P.nn (n2:=[f,S.lg,ld,S.x1,S.x2]) fun l j z A q=>?_).go (fun b j z h=>g h (fun e=>z (e▸.head _))) fr.kt;obtain⟨Z,Y,X,W,U⟩:=fX (fun q=>z (.tail _ q));have T:l≠ld:=fun e=>z (e▸.head _);simp only[ri,Lp,or_false]at q;rcases q with q|q|q|q|q<;>contradiction
theorem bH.get3{M:List Addr}{l m n:Addr}(a:bH [l,m,n] f H H'){b:Addr}{o:HO}(j:b≠l)(n2:b≠m)(g:b≠n)(e:b≠f)(h:H b=some o):H' b=some o:=a.oth b o (fun z=>by simp only[ri,Lp,or_false]at z;rcases z with z|z|z<;>contradiction) e h
theorem bx.back(s:bx K H f d S xs kl dl gs)(fr:bH [d,S.lg,S.la] f H H'){m:Int}(h:H' d=some (.dK (iJ {S with mo:=m})))(q:H' S.lg=some (.lst (gs'.map V.int)))(r:∃kvs,H' S.la=some (.dK kvs)/\kvs.length<=gs'.length/\∀kv∈kvs,∃n∈gs',kv.1=Sum.inl n)(o:(gs'.length:Int)<=m)(mo:m<=14)(w:∀(k:Nat) (n:Int),gs'[k]?=some n->n=rT S.tn k):bx K H' f d {S with mo:=m} xs kl dl gs':=by
 obtain⟨kvs,v,t⟩:=s.la;have e:∀{b g},H b=some (.lst g)->b≠S.lg->b≠f->H' b=some (.lst g):=fun h n l=>bH.get3 (M:=[]) fr (cD h s.sd (fun z=>nomatch z)) n (cD h v (fun z=>nomatch z)) l h
 obtain⟨O,I,G,E,D,N,L⟩:=s.nf;obtain⟨C,B,A,y⟩:=s.ng;obtain⟨j,u,J⟩:=s.ld;exact⟨h,s.kd.kt fr.kt,s.ok,s.k3,s.lx,s.un,e s.ln C I,e s.lc B G,e s.lp A E,⟨j,e u y D,J.go (fun b g z h=>e h (fX z).2.1 (fX z).1) fr.kt⟩,s.dl,q,r,o,mo,w,s.tn,fr.ff,s.nf,s.ng,s.nd,s.na,s.bb⟩
theorem iq.JC{ys:List Addr}(a:iq K H f S kl ys dvs p)(fr:bH [d,S.lg,S.la] f H H'){kvs E:List (Key×V)}(J:H S.la=some (.dK kvs))(hd:H d=some (.dK E)):iq K H' f S kl ys dvs p:=by
 obtain⟨u,D,C,k,y,i,L,v,w,ok,kd,e,A,I,G,⟨N,o⟩,t,g,B⟩:=a;have m:∀{b j},H b=some (.lst j)->b≠S.lg->b≠f->H' b=some (.lst j):=fun h n g=>bH.get3 (M:=[]) fr (cD h hd (fun z=>nomatch z)) n (cD h J (fun z=>nomatch z)) g h
 obtain⟨r,l,hr⟩:=e.aa;exact⟨u,D,C,k,y,i,L,v.kt fr.kt,w.kt fr.kt,ok,kd,⟨⟨r,m l e.ng e.nf,hr.kt fr.kt⟩,e.nf,e.ng,e.na,e.pk,e.pl⟩,A,I,m G g t,⟨N.go (fun b j z h=>m h (fX (fun q=>z (.tail _ q))).2.1 (fX (fun q=>z (.tail _ q))).1) fr.kt,o⟩,t,g,B⟩
theorem iq.mo{ys:List Addr}(a:iq K H f S kl ys dvs p)(m:Int):iq K H f {S with mo:=m} kl ys dvs p:=by
 obtain⟨g,t,q,k,o,i,u,j,l,ok,kd,e,r⟩:=a;exact⟨g,t,q,k,o,i,u,j,l,ok,kd,⟨e.aa,e.nf,e.ng,e.na,e.pk,e.pl⟩,r⟩
structure qp(H0 H:Hp) (d:Addr) (S:eM) (g0:List Int) (m:Int) (gs:List Int):Prop where
 sd:H d=some (.dK (iJ {S with mo:=m}))
 lg:H S.lg=some (.lst (gs.map V.int))
 la:∃kvs,H S.la=some (.dK kvs)/\(kvs.length<=gs.length/\∀kv∈kvs,∃n∈gs,kv.1=Sum.inl n)/\∀n∈g0,∀kv0 v,H0 S.la=some (.dK kv0)->dU kv0 (Sum.inl n)=some v->dU kvs (Sum.inl n)=some v
 mm:(gs.length:Int)<=m
 mo:m<=14
 gn:∀(k:Nat) (n:Int),gs[k]?=some n->n=rT S.tn k
 sub:∀n∈g0,n∈gs
theorem FS.cur(fs:FS K H f d S xs kl dl dvs g0 gs):qp H H d S g0 S.mo gs:=by
 obtain⟨e,g,l⟩:=fs.sc.la;exact⟨fs.sc.sd,fs.sc.lg,⟨e,g,l,fun n q j v o m=>by have:=o.symm.trans g;injection this with this;injection this with this;rw[←this];exact m⟩,fs.sc.mm,fs.sc.mo,fs.sc.gn,fs.sub⟩
theorem FS.at_{m:Int}(fs:FS K H f d S xs kl dl dvs g0 gs)(fr:bH [d,S.lg,S.la] f H H')(c:qp H H' d S g0 m gs'):FS K H' f d {S with mo:=m} xs kl dl dvs g0 gs':=by
 obtain⟨e,o,v,u⟩:=c.la;obtain⟨t,j,_⟩:=fs.sc.la;refine⟨fs.sc.back fr c.sd c.lg ⟨e,o,v⟩ c.mm c.mo c.gn,?_,c.sub,fun n l=>?_,fs.kb,fs.pb,fs.ex⟩
 ·exact bH.get3 (M:=[]) fr (cD fs.hd fs.sc.sd (fun z=>nomatch z)) fs.sc.ng.2.2.2 (cD fs.hd j (fun z=>nomatch z)) fs.sc.nf.2.2.2.2.1 fs.hd
 ·obtain⟨g,r,q,y,w⟩:=fs.as n l;exact⟨e,r,o,u n l g _ q y,(w.JC fr q fs.sc.sd).mo m⟩
theorem qp.trans{q:Hp}{m l:Int}(a:qp q H d S g0 m gs)(b:qp H H' d {S with mo:=m} g0 l gs'):qp q H' d S g0 l gs':=by
 obtain⟨g,y,B,w⟩:=a.la;obtain⟨e,u,t,r⟩:=b.la;exact⟨b.sd,b.lg,⟨e,u,t,fun n o j v A z=>r n o g v y (w n o j v A z)⟩,b.mm,b.mo,b.gn,b.sub⟩
theorem qp.go{g:Hp}{m:Int}(a:qp g H d S g0 m gs)(h:∀b o,b=d\/b=S.lg\/b=S.la->H b=some o->H' b=some o):qp g H' d S g0 m gs:=by
 obtain⟨e,l,j⟩:=a.la;exact⟨h _ _ (.inl rfl) a.sd,h _ _ (.inr (.inl rfl)) a.lg,⟨e,h _ _ (.inr (.inr rfl)) l,j⟩,a.mm,a.mo,a.gn,a.sub⟩
theorem qp.ext{e:Hp}{m:Int}(a:qp e H d S g0 m gs)(x:Ext f H H')(n:d≠f/\S.lg≠f/\S.la≠f):qp e H' d S g0 m gs:=a.go fun b o g h=>x.1 _ _ (by rcases g with rfl|rfl|rfl;exact n.1;exact n.2.1;exact n.2.2) h
theorem qp.same{e:Hp}{m:Int}(a:qp e H d S g0 m gs)(s:aF H H'):qp e H' d S g0 m gs:=a.go fun b o _ h=>s _ _ h
theorem qp.put{e:Hp}{m:Int}{q:Addr}{o:HO}(a:qp e H d S g0 m gs)(n:q≠d/\q≠S.lg/\q≠S.la):qp e (upd H q o) d S g0 m gs:=a.go fun b o g h=>by rw[av (by rcases g with rfl|rfl|rfl;exact n.1.symm;exact n.2.1.symm;exact n.2.2.symm)];exact h
end
noncomputable def uc(K:bA):Sp:=fun t H Q _=>∃(f d:Addr) (n e more:Int) (S:eM) (r:List Str) (u:Kl) (w:List (Str×List Kk×Kk)) (q:List V) (p o:List Int),t=[.ref f,.ref d,.int n,.int e,.int more]/\FS K H f d S r u w q p o/\n∈p/\0<=e/\e<=1000/\0<=more/\more<=1/\(o.length:Int)+more<=14 /\
 ∀(v:V) (j:Hp) (g:Tm) (l:List Int) (m:Int),bH [d,S.lg,S.la] f H j->qp H j d S p m (o++l)->Rp K j (enc g) v->Tok g->g.size<=12->((lU g).Sublist l\/lU g=[n])->(l.length:Int)<=more->Q v j
section
variable {P:FG}{w:Lk}{K:bA}{mg:Str->Option j3}{base:Heap}{gS gE gN:Addr}{sfd efd nfd:zo}
theorem aT:Nm ["_law_feed_here","_law_scene_here","_law_n","_law_room","_law_more","_law_kind","_law_around","_law_defs","_law_kept","_law_term_here"] (aj iI):=by decide +kernel
theorem eE:Lm ["_law_feed_here","_law_scene_here","_law_n","_law_room","_law_more","_law_kind","_law_around","_law_defs","_law_kept","_law_term_here"] (aj iI):=by decide +kernel
theorem dG:aI ["_law_feed_here","_law_scene_here","_law_n","_law_room","_law_more","_law_kind","_law_around","_law_defs","_law_kept","_law_term_here"] ["_law_feed_here","_law_scene_here","_law_n","_law_room","_law_more"] (aj iI):=⟨rfl,rfl,rfl,by decide +kernel,rfl,by decide +kernel,by decide +kernel⟩
theorem yD{f:Addr}{fd:zo}{j jn:Nat}(h1:3<=j)(h2:jn<=j)(F:gX K "_law_filling" "_law_filling" iI f fd)(cc:bY P w K mg base "parts" 3 ["term"] (oH K) gS sfd)(TE:bY P w K mg base "_law_term" j ["_law_feed_here","_law_scene_here","_law_around","_law_kind","_law_room","_law_down"] (nT K 4) gE efd)(NU:bY P w K mg base "_law_number" jn ["_law_feed_here"] oX gN nfd)(z_len:mg "len"=none)(T:mg "int"=none):bK P w K mg base eL (j+1) f fd ["_law_feed_here","_law_scene_here","_law_n","_law_room","_law_more"] (uc K):=by
 refine F.ok dG (fun vs H Q E h=>?_) (fun c3 A bh s H vs Q E hr h=>?_)
 ·obtain⟨_,_,_,_,_,_,_,_,_,_,_,_,rfl,_⟩:=h;rfl
 obtain⟨N,d,n,ag,more,S,xs,kl,dl,c2,g0,gs,rfl,fs,hn,ck,cj,cq,cp,cw,k⟩:=h;refine⟨_,(Z6 (Zo (@uB _ _ _ _ _ _ (jo hr) (Zk (va aT 1)) (va aT 2) (fun _ _=>rfl)) (@fO _ _ _ _ _ (3) K rfl rfl (Zh (ga dG.nd eE 5) (Zh (ga dG.nd eE 6) (aG (ga dG.nd eE 7) aZ))) (by rfl) (by rfl))) (Z6 (Z2 dG.nd eE 8 (Zk (va aT 1))) (Z6 (jN (jo hr) (va aT 1) az (va aT 7) (by rfl)) (Z6 (@jN _ _ _ _ _ _ _ _ _ (jo hr) (va aT 1) az (Zm cR (Z5 aB (Z1 (Zk (va aT 1)) ak)) (va aT 4)) (by rfl)) (Z6 (Z2 dG.nd eE 9 (Z0 TE (Z1 (va aT 0) (Z1 (va aT 1) (Z1 (va aT 6) (Z1 (va aT 5) (cT (va aT 3) (Zb ao)))))))) (Z6 (Zd (Zf nu (Z5 aB (Z1 (Z0 cc (Zb (va aT 9))) ak)) ao) (Z6 (Z2 dG.nd eE 9 (Zl aW (@bg _ _ _ _ (Z1 (Ze (Z1 az (Z1 (Z0 NU (Zb (va aT 0))) ak))) (Z1 (Ze (Z1 az (Zb (dm ak)))) ak))) (Z4 iY T MT (Z1 (@kW _ _ _ _ _ _ _ _ bJ (Z9 jm (va aT 5)) az (nG _)) ak)))) (Zg (Zd (Zf bJ (Z9 jm (va aT 5)) az) (Zg (Z2 dG.nd eE 9 (Ze (Z1 az (Zb (va aT 2)))))))))) (Z6 (jN (jo hr) (va aT 1) az (va aT 8) (by rfl)) (Zg (cB (va aT 9)))))))))),?_⟩
 try dsimp only[bM]
 try dsimp only[bM]
 have e:=fs.sc;obtain⟨bm,pa,X,bp,cb⟩:=fs.as n hn;obtain⟨ex,B⟩:=fs.ex;obtain⟨vk,la,ld,kk,ps,i,dk,sq,rk,ok,cr,ar,pl,hi,hl,⟨df,b9⟩,n1,n2,n3,_⟩:=cb;have cz:=e.get (zD S)
 have cv:j4 H S.la (.int n) (some (.ref pa)):=by
  have:=j4.k (k:=(Sum.inl n:Key)) X;rw[bp]at this;exact this
 have cy:=e.get (uV S);have cx:=e.get (uW S);have cu:=e.lg;have n0:=e.nf.1;have ax:{S with ld:=ld}.ex=[(ky "opens",ex)]:=B;have sl:(iJ S).length=10:=by unfold iJ;rw[B];rfl
 have a6:(iJ {S with ld:=ld}).length=10:=by unfold iJ;rw[B];rfl
 obtain⟨m,em⟩:∃m:Int,m=((gs.map V.int).length:Int)+more:=⟨_,rfl⟩
 obtain⟨O,cn,f1,Z⟩:∃O,kY H d (.str "defs") (.ref ld) O/\bH [d] N H O/\O d=some (.dK (iJ {S with ld:=ld})):=by
  refine⟨upd H d (.dK (iJ {S with ld:=ld})),?_,(bH.refl e.ff).sL (.head _) n0 e.sd,af⟩;rw[←xn B ld];exact kY.k (k:=ky "defs") e.sd (by rw[sl];exact bj (by omega))
 have ap:=f1.fF (cD e.lg e.sd (fun z=>nomatch z)) e.nf.2.2.2.2.2.1 e.lg
 have ch:j4 O d (.str "gaps") (some (.ref S.lg)):=by
  have:=j4.k (k:=ky "gaps") Z;rw[uW]at this;exact this
 have cf:bz K O S.lg (gs.map V.int)\/bN K O S.lg (gs.map V.int):=.inl (bz.of ap)
 obtain⟨H2,cm,f2,b1⟩:∃H2,kY O d (.str "most") (.int (((gs.map V.int).length:Int)+more)) H2/\bH [d] N H H2/\H2 d=some (.dK (iJ {S with ld:=ld,mo:=m})):=by
  refine⟨upd O d (.dK (iJ {S with ld:=ld,mo:=m})),?_,f1.sL (.head _) n0 Z,af⟩;rw[←em,←CS ax m];exact kY.k (k:=ky "most") Z (by rw[a6];exact bj (by omega))
 rw[bC]at em;have a7:=e.sub f2 b1 hl df b9 n1 n2 n3 (by omega) (by omega);have a3:∀{b ws},H b=some (.lst ws)->b≠N->H2 b=some (.lst ws):=fun h n=>f2.fF (cD h e.sd (fun z=>nomatch z)) n h
 obtain⟨D,eS⟩:∃D:eM,D={S with ld:=ld,mo:=m,kb:=17,pb:=32}:=⟨_,rfl⟩;rw[←eS]at a7;have eg:D.lg=S.lg/\D.la=S.la/\D.kb=17/\D.pb=32/\D.mo=m/\D.tn=S.tn:=by rw[eS];exact⟨rfl,rfl,rfl,rfl,rfl,rfl⟩
 obtain⟨e1,e2,e3,e4,e5,e6⟩:=eg
 have c4:wY K H2 N D kl la ps:=by
  obtain⟨ca,b2,hr⟩:=ar.aa;exact⟨⟨ca,a3 b2 ar.nf,hr.kt f2.kt⟩,ar.nf,by rw[e1];exact ar.ng,by rw[e2];exact ar.na,ar.pk,ar.pl⟩
 have ba:=rk.kt f2.kt;have cs:kk.dep+4<=D.kb:=by have:=fs.kb;omega
 have ci:-1<=ag:=by omega
 have co:ps.length+2*4<=D.pb:=by have:=fs.pb;omega
 fail "R";intro v3 H3 tm c0 f3 q r3 G d3;have a9:=ba.kt f3.kt;have w3:=G.tk.wf;have c1:=d3.few G.tk (by omega);fail "R";intro p4 H4 U s4 ct h4 be;have ce:bz K H4 p4 U\/bN K H4 p4 U:=.inl (bz.of h4);have l4:=be.length;rw[bC,Tm.cY]at l4;have x4:Ext N H3 H4:=(Ext.refl q.ff).same s4;obtain⟨L,mr,u,mk,i1,i2,i3,i4,i5,_⟩:=G.g;rw[e1]at i1;rw[e2]at i4 i5;have eg:L=gs:=jF (by have:=i1.symm.trans (a3 e.lg e.nf.2.2.2.2.2.1);injection this with this;injection this);subst eg;have ek:u=bm:=by have:=i4.symm.trans (f2.fF e.na.symm e.nf.2.2.2.2.2.2 X);injection this with this;injection this
 subst ek;subst i2;have aj:=q.mm;rw[e5,lu]at aj
 have M:∀(v6:V) (p:Hp) (l:Tm),Ext N H3 p->Rp K p (enc l) v6->Tok l->l.size<=12->((lU l).Sublist mr\/lU l=[n])->∃H7,kY p d (.str "defs") (.ref S.ld) H7/\Q v6 H7:=fun v6 p l x6 r6 a4 z6 g6=>by
  have aw:{S with ld:=ld,mo:=m}.ex=[(ky "opens",ex)]:=B;have a5:(iJ {S with ld:=ld,mo:=m}).length=10:=by unfold iJ;rw[B];rfl
  have b0:H3 d=some (.dK (iJ {S with ld:=ld,mo:=m})):=by rw[q.sd,eS];rfl
  have Y:=x6.1 _ _ n0 b0;refine⟨upd p d (.dK (iJ {S with mo:=m})),?_,?_⟩
  ·have pe:putK (iJ {S with ld:=ld,mo:=m}) (ky "defs") (.ref S.ld)=iJ {S with mo:=m}:=xn aw S.ld;rw[←pe];exact kY.k (k:=ky "defs") Y (by rw[a5];exact bj (by omega))
  have b7:bH [d,S.lg,S.la] N H H3:=(f2.sub (fun z hz=>by rw[nt.mp hz];exact .head _)).trans (by rw[e1,e2]at f3;exact f3.more);have b6:=(b7.ext x6).sL (o:=.dK (iJ {S with mo:=m})) (.head _) n0 Y;have au:=x6.1 _ _ e.nf.2.2.2.2.2.2 i5;have aq:upd p d (.dK (iJ {S with mo:=m})) S.la=some (.dK (u++mk)):=by rw[av e.na.symm];exact au
  have R:=q.lg;rw[e1]at R;have an:upd p d (.dK (iJ {S with mo:=m})) S.lg=some (.lst ((L++mr).map V.int)):=by rw[av (cD e.lg e.sd (fun z=>nomatch z))];exact x6.1 _ _ e.nf.2.2.2.2.2.1 R
  have bl:(u++mk).length<=(L++mr).length/\∀kv∈u++mk,∃n∈L++mr,kv.1=Sum.inl n:=by
   obtain⟨kq,v,bq⟩:=q.la;rw[e2,i5]at v;have:kq=u++mk:=by injection v with v;injection v with v;exact v.symm
   subst this;exact bq
  have a0:=q.gn;rw[e6]at a0;have bo:Kt p (upd p d (.dK (iJ {S with mo:=m}))):=((bH.refl x6.2:bH [d] N p p).sL (.head _) n0 Y).kt;refine k v6 _ l mr m b6 ⟨af,an,⟨_,aq,bl,fun n' am bn v' a1 a2=>?_⟩,by rw[lu];exact aj,by omega,a0,fun n' am=>LD _ (fs.sub n' am)⟩ (r6.kt bo) a4 z6 g6 (by omega);have:bn=u:=by have:=a1.symm.trans X;injection this with this;injection this
  subst this;exact CT a2
 fail "R";refine cH (fun c=>?_) (fun c=>?_)
 ·have bx:=x4.2;fail "R";intro nn H5 bk bi x5;have a8:=(a9.same s4).kt (x5.kt bx);fail "R";intro r bu;have s6:=ae bu (.tup [.str "num",.int nn]);have r6:Rp K (upd H5 r (.tup [.str "num",.int nn])) (enc (.mk (.num nn) [])) (.ref r):=by rw[bw];exact Rp.t (bN.of af) (.cons .s (.one .i))
  generalize upd H5 r (.tup [.str "num",.int nn])=p at s6 r6⊢;fail "R";intro p7 bt;have s7:=ae bt (.tup []);have r7:Rp K (upd p p7 (.tup [])) (.t []) (.ref p7):=Rp.t (bN.of af) .nil;generalize upd p p7 (.tup [])=H7 at s7 r7⊢;fail "R";intro C bs;have s8:=ae bs (.tup [.str "row",.ref p7]);have r8:Rp K (upd H7 C (.tup [.str "row",.ref p7])) (enc (.mk .row [])) (.ref C):=by rw[bw];exact Rp.t (bN.of af) (.cons .s (.one (r7.same s8)))
  generalize upd H7 C (.tup [.str "row",.ref p7])=H8 at s8 r8⊢;fail "R";intro p9 br;have s9:=ae br (.lst [.ref r,.ref C]);have h9:upd H8 p9 (.lst [.ref r,.ref C]) p9=some (.lst [.ref r,.ref C]):=af;generalize upd H8 p9 (.lst [.ref r,.ref C])=H9 at s9 h9⊢;have ac:=(s6.trans s7).trans (s8.trans s9);have x9:Ext N H3 H9:=(x4.trans x5).same ac;have I:=a8.same ac;have bc:=r6.same ((s7.trans s8).trans s9);have bb:=r8.same s9;have b5:lU (.mk (.num nn) [])=[]:=by rw[fJ rfl];rfl
  have b4:lU (.mk .row [])=[]:=by rw[fJ rfl];rfl
  fail "R";refine jA I ?_;fail "R"
  cases kk with
  |num =>
   rw[show decide (V.str (kw Kk.num)=V.str (Lj "row"))=false from rfl];refine .inr ⟨_,rfl,?_⟩;have ay:jM [V.ref r,.ref C] 0=some (.ref r):=bD (j:=0) rfl;fail "R";refine jA I ?_;obtain⟨ab,ai,W⟩:=M (.ref r) H9 (.mk (.num nn) []) x9 bc (.mk rfl (Ld _) (fun k hk=>nomatch hk) ⟨bk,bi⟩) (Mx rfl) (.inl (by rw[b5];exact Pj _))
   fail "R";exact W
  |kd y =>
   rw[show decide (V.str (kw (Kk.kd y))=V.str (Lj "row"))=false from rfl];refine .inr ⟨_,rfl,?_⟩;have ay:jM [V.ref r,.ref C] 0=some (.ref r):=bD (j:=0) rfl;fail "R";refine jA I ?_;fail "R";intro J al;have ad:=ae al (.tup [.str "gap",.int n]);have ah:Rp K (upd H9 J (.tup [.str "gap",.int n])) (enc (.mk (.gap n) [])) (.ref J):=by rw[bw];exact Rp.t (bN.of af) (.cons .s (.one .i))
   generalize upd H9 J (.tup [.str "gap",.int n])=ab at ad ah⊢
   have b3:0<=n/\n<1000:=by
    obtain⟨i0,bv,b8⟩:=PD.mp (fs.sub n hn);have:=e.gn i0 n (by rw[m3 bv,b8]);unfold rT at this
    split at this<;>omega
   obtain⟨c5,cd,bf⟩:=M (.ref J) ab (.mk (.gap n) []) (x9.same ad) ah (.mk rfl (Ld _) (fun k hk=>nomatch hk) b3) (Mx rfl) (.inr rfl)
   fail "R";exact bf
  |row y =>
   rw[show decide (V.str (kw (Kk.row y))=V.str (Lj "row"))=true from rfl];refine .inr ⟨_,rfl,?_⟩;have ay:jM [V.ref r,.ref C] 1=some (.ref C):=bD (j:=1) rfl;fail "R";refine jA I ?_;obtain⟨ab,ai,W⟩:=M (.ref C) H9 (.mk .row []) x9 bb (.mk rfl (Ld _) (fun k hk=>nomatch hk)) (Mx rfl) (.inl (by rw[b4];exact Pj _))
   fail "R";exact W
  |op y=>exact absurd ok id
 ·have c':¬(12:Int)<(U.length:Int):=fun z=>c (decide_eq_true z);obtain⟨H7,cl,q7⟩:=M v3 H4 tm x4 (r3.same s4) G.tk (by omega) (.inl i3);fail "R";exact q7
end
noncomputable def zI(K:bA):Sp:=fun m H Q _=>∃(f g:Addr) (n:Int) (l:V) (k:Kk) (fs:List Int),m=[.ref f,.int n,l,.ref g]/\cE H f/\Rp K H (bW k) l/\H g=some (.lst (fs.map V.int))/\g≠f/\fs.length<=3 /\
 ∀(v:V) (j:Hp) (e:Kk) (d:List Int),bH [g] f H j->j g=some (.lst (d.map V.int))->Rp K j (nQ bW (n,e)) v->(d=fs/\(e=k\/e=.row k\/e=.op n)\/d=fs++[60+(fs.length:Int)]/\(e=.op (60+(fs.length:Int))\/e=.row (.op (60+(fs.length:Int)))))->Q v j
section
variable {P:FG}{w:Lk}{K:bA}{mg:Str->Option j3}{base:Heap}{gT:Addr}{tfd:zo}
theorem aM:Nm ["_law_feed_here","_law_n","_law_kind","_law_fresh","_law_form"] (aj dX):=by decide +kernel
theorem pA:Lm ["_law_feed_here","_law_n","_law_kind","_law_fresh","_law_form"] (aj dX):=by decide +kernel
theorem jW:aI ["_law_feed_here","_law_n","_law_kind","_law_fresh","_law_form"] ["_law_feed_here","_law_n","_law_kind","_law_fresh"] (aj dX):=⟨rfl,rfl,rfl,by decide +kernel,rfl,by decide +kernel,by decide +kernel⟩
theorem CU{f:Addr}{fd:zo}(F:gX K "_law_open_filling" "_law_open_filling" dX f fd)(TK:bY P w K mg base "_law_take" 1 ["_law_feed_here","_law_many"] eJ gT tfd)(z_len:mg "len"=none):bK P w K mg base eL 2 f fd ["_law_feed_here","_law_n","_law_kind","_law_fresh"] (zI K):=by
 refine F.ok jW (fun vs H Q E h=>?_) (fun aj A aa s H vs Q E hr h=>?_)
 ·obtain⟨_,_,_,_,_,_,rfl,_⟩:=h;rfl
 obtain⟨fe,J,n,B,L,fs,rfl,hf,rk,ac,R,ai,k⟩:=h;refine⟨_,(Z6 (Z2 jW.nd pA 4 (Z0 TK (cT (va aM 0) (Zb ao)))) (Z6 (Zd (Zq lY (va aM 4) ao) (Zg (Zn (Ze (Z1 (va aM 1) (Z1 (Zl aW (@bg _ _ _ _ (Z1 (va aM 2) (Z1 (Ze (Z1 az (Zb (va aM 2)))) ak))) (va aM 4)) ak)))))) (Z6 (Zd (Zq bJ (va aM 4) ao) (Zg (Zn (Ze (Z1 (va aM 1) (Z1 (Ze (Z1 az (Zb (va aM 1)))) ak)))))) (Z6 (@cu _ _ _ _ (Z7 Ll Ln cz (va aM 3) (Z1 (Zm cR ao (Z5 aB (Zb (va aM 3)))) ak)) (by rfl)) (Zg (Zn (Ze (Z1 (va aM 1) (Z1 (Zl aW (@bg _ _ _ _ (Z1 (Ze (Z1 az (Z1 (iO aW (va aM 3) (nj jZ ao) (fun _ _=>rfl)) ak))) (Z1 (Ze (Z1 az (Z1 (Ze (Z1 az (Z1 (iO aW (va aM 3) (nj jZ ao) (fun _ _=>rfl)) ak))) ak))) ak))) (aX bL (va aM 4) ao)) ak))))))))),?_⟩
 try dsimp only[bM]
 try dsimp only[bM]
 have ag:bH [J] fe H H:=bH.refl hf;refine jy ?_;intro N1 N2 N3 N4 c1 c2 c3 c4;fail "R";intro y M m0 m1 Z;have f1:=ag.ext Z;have O:=rk.kt (Z.kt hf);have h1:=Z.1 _ _ R ac
 have Y:∀(v2:V) (l:Hp) (e:Kk),aF M l->Rp K l (bW e) v2->(e=L\/e=.row L\/e=.op n)->∀p,l p=none->Q (.ref p) (upd l p (.tup [.int n,v2])):=fun v2 l e D r2 W p hp =>
  k _ _ e fs (f1.same (D.trans (ae hp _))) ((D.trans (ae hp _)) _ _ h1) (Rp.new (K:=K) (xs:=[.i n,bW e]) hp (.cons .i (.one r2))) (.inl ⟨rfl,W⟩)
 fail "R";refine cH (fun c=>?_) (fun c=>?_)
 ·have c':y<2:=of_decide_eq_true c;fail "R";intro r q;have D:=ae q (.tup [.str "row",B]);have r2:=Rp.new (K:=K) (xs:=[.s "row",bW L]) q (.cons .s (.one O));generalize upd M r (.tup [.str "row",B])=l at D r2⊢;fail "R";intro m v;have C:=ae v (.lst [B,.ref r]);have h3:upd l m (.lst [B,.ref r]) m=some (.lst [B,.ref r]):=af;generalize upd l m (.lst [B,.ref r])=H3 at C h3⊢;have N:=D.trans C
  obtain⟨u,hu,e,ru,W⟩:∃u,jM [B,.ref r] y=some u/\∃e,Rp K H3 (bW e) u/\(e=L\/e=.row L\/e=.op n):=by
   rcases(show y=0\/y=1 by omega)with rfl|rfl
   ·exact⟨B,bD (j:=0) rfl,L,O.same N,.inl rfl⟩
   ·exact⟨.ref r,bD (j:=1) rfl,.row L,r2.same C,.inr (.inl rfl)⟩
  fail "R";exact Y u H3 e N ru W
 have c':¬y<2:=fun z=>c (decide_eq_true z);fail "R";refine cH (fun d=>?_) (fun d=>?_)
 ·fail "R";intro r q;have D:=ae q (.tup [.str "open",.int n]);have r2:=Rp.new (K:=K) (xs:=[.s "open",.i n]) q (.cons .s (.one .i));generalize upd M r (.tup [.str "open",.int n])=l at D r2⊢;fail "R";exact Y (.ref r) l (.op n) D r2 (.inr (.inr rfl))
 have d':y≠2:=fun z=>d (decide_eq_true (by rw[z]));have ah:bz K M J (fs.map V.int)\/bN K M J (fs.map V.int):=.inl (bz.of h1);have hz:(fs.map V.int).length<nk:=bj (by rw[bC];omega);have f2:=f1.upd (o:=.lst (fs.map V.int++[.int (60+((fs.map V.int).length:Int))])) (.head _) R h1;have X:upd M J (.lst (fs.map V.int++[.int (60+((fs.map V.int).length:Int))])) J=some (.lst (fs.map V.int++[.int (60+((fs.map V.int).length:Int))])):=af;have al:jM (fs.map V.int++[V.int (60+((fs.map V.int).length:Int))]) (-1)=some (.int (60+((fs.map V.int).length:Int))):=wK _ _;fail "R";generalize upd M J (.lst (fs.map V.int++[.int (60+((fs.map V.int).length:Int))]))=l at f2 X⊢;rw[bC]at al X⊢;generalize hg:60+(fs.length:Int)=g at al X⊢;have ad:l J=some (.lst ((fs++[g]).map V.int)):=by rw[nq];exact X
 intro m v;have C:=ae v (.tup [.str "open",.int g]);have r3:=Rp.new (K:=K) (xs:=[.s "open",.i g]) v (.cons .s (.one .i));generalize upd l m (.tup [.str "open",.int g])=H3 at C r3⊢;have h3:=C _ _ X;fail "R";intro p4 U;have s4:=ae U (.tup [.str "open",.int g]);have r4:=Rp.new (K:=K) (xs:=[.s "open",.i g]) U (.cons .s (.one .i));generalize upd H3 p4 (.tup [.str "open",.int g])=H4 at s4 r4⊢;fail "R";intro I T;have s5:=ae T (.tup [.str "row",.ref p4]);have r5:=Rp.new (K:=K) (xs:=[.s "row",.t [.s "open",.i g]]) T (.cons .s (.one r4));generalize upd H4 I (.tup [.str "row",.ref p4])=H5 at s5 r5⊢;fail "R";intro p6 ab;have s6:=ae ab (.lst [.ref m,.ref I]);have h6:upd H5 p6 (.lst [.ref m,.ref I]) p6=some (.lst [.ref m,.ref I]):=af;generalize upd H5 p6 (.lst [.ref m,.ref I])=H6 at s6 h6⊢;have G:=(s4.trans s5).trans s6
 obtain⟨u,hu,e,ru,W⟩:∃u,jM [.ref m,.ref I] (y-3)=some u/\∃e,Rp K H6 (bW e) u/\(e=.op g\/e=.row (.op g)):=by
  rcases(show y=3\/y=4 by omega)with rfl|rfl
  ·exact⟨.ref m,bD (j:=0) rfl,.op g,r3.same G,.inl rfl⟩
  ·exact⟨.ref I,bD (j:=1) rfl,.row (.op g),r5.same s6,.inr rfl⟩
 fail "R";intro p7 S;have s7:=ae S (.tup [.int n,u]);refine k _ _ e (fs++[g]) (f2.same ((C.trans G).trans s7)) (((C.trans G).trans s7) _ _ ad) (Rp.new (K:=K) (xs:=[.i n,bW e]) S (.cons .i (.one ru))) (.inr ?_);rw[hg];exact⟨rfl,W⟩
end
theorem xo:∀{kvs acc:List (Key×V)},((acc++kvs).map (·.1)).Nodup->dH acc kvs=acc++kvs
 | [],acc,_=>(LH acc).symm
 |kv::r,acc,h=>by
  have g:∀q∈acc,q.1≠kv.1:=by
   intro q d e;rw[nq,Me]at h;exact h.2.2 q.1 (LC d) kv.1 (LC (.head _)) e
  show dH (putK acc kv.1 kv.2) r=_;rw[zE g,xo (by rw[LM];exact h),LM];rfl
theorem qt{X:Cx}(K:bA)(g:X.K=K)(e:X.calm=true):iN X (.type "dict") (fun xs H Q=>∃p ys kvs,xs=[.ref p]/\(H p=some (.lst ys)\/bN K H p ys)/\rE K H kvs ys/\∀d,H d=none->Q (.ref d) (upd H d (.dK (dH [] kvs)))):=by
 subst g;exact nL e
noncomputable def jJ{d:Type}(e:List (Int×d))(n:Int):Option d:=(e.find? fun p=>decide (p.1=n)).map (·.2)
theorem xq{j:Type}{K:bA}{H:Hp}{tr:j->T}:∀{d:List (Int×j)}{us:List V},bI K H (d.map (nQ tr)) us->∃kvs:List (Key×V),rE K H kvs us/\kvs.map (·.1)=d.map (fun p=>(Sum.inl p.1:Key))/\∀n,(∀y,jJ d n=some y->∃v,dU kvs (Sum.inl n)=some v/\Rp K H (tr y) v)/\(jJ d n=none->dU kvs (Sum.inl n)=none)
 | [],us,h=>by
  obtain rfl:=h.fE;exact⟨[],.nil,rfl,fun n=>⟨fun y e=>(by cases e),fun _=>rfl⟩⟩
 |p::d,us,h=>by
  obtain⟨u,q,rfl,m,o⟩:=h.inv;obtain⟨a,D,g,rfl,l,B,A⟩:=(show Rp K H (.t [.i p.1,tr p.2]) u from m).t2;obtain rfl:=B.cV;obtain⟨kvs,C,w,r⟩:=xq o;refine⟨(Sum.inl p.1,g)::kvs,.cons ⟨a,rfl,l⟩ C,by rw[Lh,w];rfl,fun n=>?_⟩
  by_cases e:p.1=n
  ·have l1:jJ (p::d) n=some p.2:=by unfold jJ;rw[RJ (by simpa using e)];rfl
   have l2:dU ((Sum.inl p.1,g)::kvs) (Sum.inl n)=some g:=by unfold dU;rw[RJ (by simpa using e)];rfl
   rw[l1,l2];exact⟨fun y z=>by cases z;exact⟨g,rfl,A⟩,fun z=>by cases z⟩
  ·have l1:jJ (p::d) n=jJ d n:=by unfold jJ;rw[RK (by simpa using e)]
   have l2:dU ((Sum.inl p.1,g)::kvs) (Sum.inl n)=dU kvs (Sum.inl n):=by unfold dU;rw[RK (by simpa using e)]
   rw[l1,l2];exact r n
theorem qK{g:Type}{K:bA}{H:Hp}{tr:g->T}{j:List (Int×g)}{v:V}(r:Rp K H (.t (j.map (nQ tr))) v)(w:(j.map (·.1)).Nodup):∃p ys kvs,v=.ref p/\(H p=some (.lst ys)\/bN K H p ys)/\rE K H kvs ys/\∀d,H d=none->jC K tr (upd H d (.dK (dH [] kvs))) d (jJ j):=by
 obtain⟨a,m,rfl,o,q⟩:=r.aY;obtain⟨kvs,D,A,l⟩:=xq q
 have z:dH [] kvs=kvs:=by
  have:=xo (acc:=[]) (kvs:=kvs) (by
   rw[PR,A,show(fun p:Int×g=>(Sum.inl p.1:Key))=Sum.inl ∘ (·.1)from rfl,←Nd];exact(List.pairwise_map.mpr (w.imp fun h e=>h (S6 e))))
  simpa using this
 refine⟨a,m,kvs,rfl,.inr o,D,fun d hd=>⟨kvs,by rw[z];exact af,fun n=>⟨fun y e=>?_,(l n).2⟩⟩⟩;obtain⟨u,C,B⟩:=(l n).1 y e;exact⟨u,C,B.same (ae hd _)⟩
noncomputable def putD(pt:Int->Option Tm)(e:Int->Option Kk)(d:Str×List (Str×Kk)×Tm):Str×List (Str×Kk)×Tm:=(d.1,d.2.1.map (fun p=>(p.1,jB e p.2)),dY pt d.2.2)
noncomputable def IU(t:Tm):Prop:=Wf t/\t.size<=900
noncomputable def vz(k:Kk):List Int:=k.pG.toList
noncomputable def xr(K:bA)(Pt:Addr):Sp:=fun r H Q _=>∃(v m o:V) (kt:T) (e:List (Str×List (Str×Kk)×Tm)) (j:List (Int×Tm)) (l:List (Int×Kk)),r=[v,m,o]/\Rp K H (jz kt e) v/\pV e/\(∀d∈e,∀p∈d.2.1,p.2.dep<=100)/\Rp K H (.t (j.map (nQ enc))) m/\Rp K H (.t (l.map (nQ bW))) o/\wJ lU IU (bE e) j/\wJ vz (fun _=>True) (bO e) l/\mK H Pt uS mL /\
 ∀q g,wG Pt H g->mK g Pt uS mL->Rp K g (jz kt (e.map (putD (jJ j) (jJ l)))) q->Q q g
theorem iC{H e:Hp}{Pt:Addr}{d:Pos}{q:Str}(g:mK H Pt d q)(s:aF H e):mK e Pt d q:=by
 rcases g with h|⟨c,h1,h2⟩
 ·exact .inl (s _ _ h)
 ·exact .inr ⟨c,s _ _ h1,s _ _ h2⟩
theorem Ii{H:Hp}{Pt d:Addr}{g:Pos}{q:Str}(j:mK H Pt g q)(h:H d=none):Pt≠d:=by
 rcases j with e|⟨c,e,_⟩<;>exact aq e h
theorem EO{H:Hp}{Pt d:Addr}{g:Pos}{q:Str}{xs:List V}(j:mK H Pt g q)(h:H d=some (.lst xs)):d≠Pt:=fun z=>by
 subst z;rcases j with e|⟨c,e,_⟩<;>(rw[h]at e;cases e)
theorem Gu{H:Hp}{Pt d:Addr}{g:Pos}{q:Str}{xs:List V}(j:mK H Pt g q)(h:H d=some (.lst xs))(ys:List V):mK (upd H d (.lst ys)) Pt g q:=by
 have n:=EO j h;rcases j with e|⟨c,e1,e2⟩
 ·exact .inl (by rw[av n.symm];exact e)
 ·refine .inr ⟨c,by rw[av n.symm];exact e1,?_⟩;rw[av (fun z=>by subst z;rw[h]at e2;unfold nC at e2;cases e2)];exact e2
theorem xu(pt:Int->Option Tm)(e:Int->Option Kk)(d:Str×List (Str×Kk)×Tm):mD (putD pt e d)=.t [.s d.1,.t (d.2.1.map fun p=>.t [.s p.1,bW (jB e p.2)]),enc (dY pt d.2.2)]:=by
 unfold mD putD;rw[Nd];rfl
structure FI(K:bA) (Pt:Addr) (H:Hp) (ld:Addr) (ts:List T) (H':Hp):Prop where
 g:wG Pt H H'
 tb:mK H' Pt uS mL
 l:∃us,H' ld=some (.lst us)/\bI K H' ts us
section
variable {P:FG}{w:Lk}{K:bA}{mg:Str->Option j3}{base:Heap}{gA gO gG gL gP gW Pt:Addr}{afd ofd gfd lfd kfd pfd wfd:zo}
theorem cQ:Nm ["program","terms","kinds","of_terms","of_kinds","defs","name","params","term","put_params"] (aj kA):=by decide +kernel
theorem ir:Lm ["program","terms","kinds","of_terms","of_kinds","defs","name","params","term","put_params"] (aj kA):=by decide +kernel
theorem fZ:aI ["program","terms","kinds","of_terms","of_kinds","defs","name","params","term","put_params"] ["program","terms","kinds"] (aj kA):=⟨rfl,rfl,rfl,by decide +kernel,rfl,by decide +kernel,by decide +kernel⟩
theorem AS{f:Addr}{fd:zo}(F:gX K "filled" "filled" kA f fd)(GS:bY P w K mg base "gaps" 5 ["program"] (BQ K) gG gfd)(mA:mg "gaps_in"=some (.ref gA))(mO:mg "opens_in"=some (.ref gO))(bx:bY P w K mg base "look_fillings" 5 ["fillings","there","gaps_of"] (yq K bW vz (fun _=>True) gO) gL lfd)(bw:bY P w K mg base "look_fillings" 5 ["fillings","there","gaps_of"] (yq K enc lU IU gA) gL lfd)(b0:bY P w K mg base "kind_put" 2 ["kind","puts"] (BS K) gP pfd)(bv:bY P w K mg base "with_gaps_put" 6 ["term","puts"] (Co K Pt) gW wfd)(j:mg "tuple"=none)(m:mg "dict"=none) :
  bK P w K mg base eL 7 f fd ["program","terms","kinds"] (xr K Pt):=by
 refine F.ok fZ (fun vs H Q E h=>?_) (fun cp A bf s H vs Q E hr h=>?_)
 ·obtain⟨_,_,_,_,_,_,_,rfl,_⟩:=h;rfl
 obtain⟨v,vt,vk,kt,ds,ft,U,rfl,rv,a6,bl,ad,ag,bs,bt,tb,k⟩:=h;refine⟨_,(Z6 (Zo (Z0 GS (Zb (va cQ 0))) (Zc (Zh (ga fZ.nd ir 3) (aG (ga fZ.nd ir 4) aZ)))) (Z6 (@cu _ _ _ _ (Z0 bx (Z1 (va cQ 2) (Z1 (va cQ 4) (Zb (iQ (v:=.ref gO) (by show _=_;kernel_rfl) mO rfl))))) (by rfl)) (Z6 (@cu _ _ _ _ (Z0 bw (Z1 (va cQ 1) (Z1 (va cQ 3) (Zb (iQ (v:=.ref gA) (by show _=_;kernel_rfl) mA rfl))))) (by rfl)) (Z6 (sa fZ.nd ir 5 (bg ak)) (Z6 (Zj (@dh _ _ _ _ (Z9 aQ (va cQ 0))) (@fO _ _ _ _ _ (3) K rfl rfl (Zh (ga fZ.nd ir 6) (Zh (ga fZ.nd ir 7) (aG (ga fZ.nd ir 8) aZ))) (by rfl) (by rfl)) (Z6 (Z2 fZ.nd ir 9 (Z4 aH j Le (Z1 (Za (aj kA) ["program","terms","kinds","of_terms","of_kinds","defs","name","params","term","put_params"] ["param","kind"] [2] (dh (va cQ 7)) (fun _ _ _ _=>(Zc (Zh (Z3 (i:=0) (show(["param","kind","kinds"]:List Str).Nodup by decide +kernel)) (aG (Z3 (i:=1) (show(["param","kind","kinds"]:List Str).Nodup by decide +kernel)) aZ)))) (fun _ _ _ _=>(Ze (Z1 (va (show Nm ["param","kind","kinds"] _ by show _=_;kernel_rfl) 0) (Z1 (Z0 b0 (Z1 (va (show Nm ["param","kind","kinds"] _ by show _=_;kernel_rfl) 1) (Z1 (Z4 (qt K rfl rfl) m NW (Zb (va (show Nm ["param","kind","kinds"] _ by show _=_;kernel_rfl) 2))) ak))) ak))))) ak))) (Zg (@cu _ _ _ _ (Z7 Ll Ln cz (va cQ 5) (Z1 (Ze (Z1 (va cQ 6) (Z1 (va cQ 9) (Z1 (Z0 bv (Z1 (va cQ 8) (Z1 (Z4 (nL rfl) m NW (Zb (va cQ 1))) ak))) ak)))) ak)) (by rfl))))) (Zg (Zn (Ze (Z1 (Z9 aQ (va cQ 0)) (Z1 (Z4 aH j Le (Zb (va cQ 5))) ak)))))))))),?_⟩
 try dsimp only[bM]
 try dsimp only[bM]
 refine oG ?_;intro N1 N2 N3 N4 N5 c1 c2 c3 c4 c5;fail "R";intro p1 l1 l2 H1 s1 ci ch cd bq bp cm;have cl:=bN.of (K:=K) bq;have b4:=ag.same s1;fail "R";intro H2 s2;have ac:=s1.trans s2;have b3:=ad.same ac;have ck:=s2 _ _ bp;fail "R";intro H3 s3;have ab:=ac.trans s3;fail "R";intro M ay;have s4:=ab.trans (ae ay (.lst []));have h4:upd H3 M (.lst []) M=some (.lst []):=af;have ax:=ab.free ay;generalize upd H3 M (.lst [])=H4 at s4 h4⊢;obtain⟨pa,v0,v1,rfl,am,a9,ba⟩:=(show Rp K H (.t [kt,.t (ds.map mD)]) v from rv).t2;obtain⟨da,bu,rfl,a4,a5⟩:=ba.aY;have ap:=a5.length;rw[bC]at ap;have b6:=am.same s4;have b7:=a4.same s4;fail "R";refine mV (K:=K) (xs:=bu) (fun i R H5=>(∃o6 o7 o8 o9,R=[some (.ref pa),some vt,some vk,some (.ref l1),some (.ref l2),some (.ref M),o6,o7,o8,o9])/\FI K Pt H M (((ds.take i).map (putD (jJ ft) (jJ U))).map mD) H5) ⟨⟨_,_,_,_,rfl⟩,⟨fun b o _ e=>s4 _ _ e,iC tb s4,[],h4,.nil⟩⟩ ?_ ?_ ?_
 ·rintro i R H5 _ ⟨_,fi⟩;exact a4.kt (jU tb fi.g)
 ·rintro i xv R H5 hx ⟨⟨_,_,_,_,rfl⟩,fi⟩;have C:=jU tb fi.g;obtain⟨X,h5,r5⟩:=fi.l;obtain⟨tx,as,rx⟩:=a5.get' hx;rw[rz]at as;obtain⟨d,hd,rfl⟩:=FA.mp as;have a0:=we hd;obtain⟨b2,b9,cc⟩:=a6.2 d a0;obtain⟨xa,x1,x2,x3,rfl,a7,e1,e2,e3⟩:=(show Rp K H (.t [.s d.1,.t (d.2.1.map sA),enc d.2.2]) xv from rx).t3;obtain rfl:=e1.aR;obtain⟨qa,cb,rfl,bc,be⟩:=e2.aY;have b1:=a7.kt C;have al:=bc.kt C;fail "R";refine fB (K:=K) (e:=sA) (φ:=fun p=>[.t [.s p.1,bW (jB (jJ U) p.2)]]) (fun R=>∃y0 y1,R=[y0,y1,some vk]) al (be.kt C) (by omega) (fun _=>lj _) ⟨_,_,rfl⟩ ?_ ?_
  ·rintro p hp yv _ H6 N G ⟨_,_,rfl⟩ ry kN;obtain⟨ya,y1,y2,rfl,b8,g1,g2⟩:=(show Rp K H6 (.t [.s p.1,bW p.2]) yv from ry).t2;obtain rfl:=g1.aR;obtain⟨ka,bk,r,rfl,bn,bm,u⟩:=qK ((ag.kt C).same G) bt.nd;have cj:=bl d a0 p hp;fail "R";intro d7 a1;have S:=u d7 a1;have z:=ae a1 (.dK (dH [] r));have br:=g2.same z;generalize upd H6 d7 (.dK (dH [] r))=H7 at S z br⊢;fail "R"
   try refine⟨jJ U,?_⟩
   fail "R";intro v8 H8 D r8;fail "R";intro p9 au;exact kN _ _ _ ⟨⟨_,_,rfl⟩,(z.trans D).trans (ae au _),.one (Rp.new (K:=K) (xs:=[.s p.1,bW (jB (jJ U) p.2)]) au (.cons .s (.one r8)))⟩
  intro l6 H6 W G cf h6 r6;rw[iL]at r6;fail "R";refine .inl ⟨bz.of h6,fun S y=>?_⟩;have z:=ae y (.tup W);have r7:=Rp.new (K:=K) y r6;generalize upd H6 S (.tup W)=H7 at z r7⊢;have B:=G.trans z;have Z:=iC fi.tb B;obtain⟨ka,bk,r,rfl,bn,bm,u⟩:=qK ((ad.kt C).same B) bs.nd;have a2:=B _ _ h5;fail "R";intro d8 O;have p8:=u d8 O;have n8:=Ii Z O;have D:=ae O (.dK (dH [] r));generalize upd H7 d8 (.dK (dH [] r))=H8 at p8 D⊢;have L:=B.trans D;have cn:=(e3.kt C).same L;have Y:=iC Z D;have ca:d.2.2.size<=400:=by omega
  fail "R"
  try refine⟨jJ ft,?_⟩
  fail "R";intro v9 H9 g9 a8 r9;have k9:=jU Y g9;have bh:M≠Pt:=EO Y (D _ _ a2);have bo:=g9 _ _ bh (D _ _ a2);have bb:=(r7.same D).kt k9;fail "R";intro an I;have q:=ae I (.tup [.str d.1,.ref S,v9]);have ai:=Rp.new (K:=K) (xs:=[.s d.1,.t (d.2.1.map fun p=>.t [.s p.1,bW (jB (jJ U) p.2)]),enc (dY (jJ ft) d.2.2)]) I (.cons .s (.cons bb (.one r9)));generalize upd H9 an (.tup [.str d.1,.ref S,v9])=H10 at q ai⊢;have J:=q _ _ bo;have aa:=iC a8 q;have ah:=((r5.same L).kt k9).same q;have bi:=r5.length;have co:=a6.1;have ce:X.length<nk:=bj (by rw[bi,bC,bC,Lb];omega);have a3:wG Pt H H10:=fun b o T e=>q _ _ (g9 _ _ T (L _ _ (fi.g _ _ T e)));fail "R";have ar:Kt H10 (upd H10 M (.lst (X++[V.ref an]))):=Kt.lst J _;refine⟨fun b o T e=>by rw[av (aq e ax)];exact a3 _ _ T e,Gu aa J _,_,af,?_⟩;rw[iA hd,nq,nq,NV,NV,xu];exact(ah.kt ar).snoc (ai.kt ar)
 rintro R H5 ⟨⟨_,_,_,_,rfl⟩,fi⟩;rw[ap,Lv]at fi;obtain⟨X,h5,r5⟩:=fi.l;have C:=jU tb fi.g;have b5:=am.kt C;fail "R";refine .inl ⟨bz.of h5,fun p6 aw=>?_⟩;have G:=ae aw (.tup X);have r6:=Rp.new (K:=K) aw r5;generalize upd H5 p6 (.tup X)=H6 at G r6⊢;fail "R";intro S y;have z:=ae y (.tup [v0,.ref p6]);exact k _ _ (fun b o T e=>z _ _ (G _ _ (fi.g _ _ T e))) (iC (iC fi.tb G) z) (Rp.new (K:=K) (xs:=[kt,.t ((ds.map (putD (jJ ft) (jJ U))).map mD)]) y (.cons ((a9.kt C).same G) (.one r6)))
end
end G33
namespace L2
open PySem PySem.Spec PyProof.Rows
noncomputable def JD(d:Obj)(e:Array OS)(g:Nat)(h:Heap)(l:Addr):Prop:=h.get? l=some d/\d.ExactDict/\d.data=.dict e g/\(l == MC)=false
noncomputable def JE(d:Array OS)(e:Nat)(h:Heap)(i l:Addr)(k:Nat):Prop:=h.IsKeyIter i l k d.size e
section
variable {ob:Obj}{es:Array OS}{ep:Nat}
theorem JD.at{h h':Heap}{l:Addr}(x:JD ob es ep h l)(k:∀o,h.get? l=some o->h'.get? l=some o):JD ob es ep h' l:=⟨k _ x.1,x.2⟩
theorem JE.at{h h':Heap}{i l:Addr}{n:Nat}(x:JE es ep h i l n)(k:∀o,h.get? i=some o->h'.get? i=some o):JE es ep h' i l n:=by
 obtain⟨o,e,r⟩:=x;exact⟨o,k o e,r⟩
variable {prog:FG}{w:Lk}{A:Lz}{E:j3->mu->Prop}{s:mu}
end
section
variable {prog:FG}{w:Lk}{A:Lz}{E:j3->mu->Prop}{s:mu}{b2:Bool}{ob:Obj}{es:Array OS}{ep:Nat}
end
section
variable {g:TG}{tt:TT}{te:TE}{Q:VK}{σ0:St}{H0:Hp}
end
section
variable {prog:FG}{w:Lk}{A:Lz}{R:Ss->mu->Prop}{s:mu}
end
theorem KV.get{kvs:List (Key×V)}{d:List (Key×j3)}(r:KV kvs d):∀{i:Nat}{e:Key×V},kvs[i]?=some e->∃u,d[i]?=some (e.1,u)/\RelV e.2 u:=by
 induction r with
 |nil=>intro i e h;simp at h
 |@cons a b l1 l2 q t ih =>
  intro i e h
  cases i with
  |zero =>
   simp only[Ru,O2]at h;subst h;refine⟨b.2,?_,q.2⟩;simp only[Ru,O2];exact Prod.ext q.1.symm rfl
  |succ n=>exact ih (by simpa using h)
section
variable {g:TG}{tt:TT}{tk tv:TE}{Q:VK}{σ0:St}{H0:Hp}
end
section
variable {X:Cx}
end
section
variable {X:Cx}
theorem Gv(l:X.A.units+1<OA):mW X (ML .In) (fun y x H Q=>∃a o,x=.ref a/\j4 H a y o/\Q (.bl o.isSome) H):=by
 intro d s p H y x t u Q I e j h;obtain⟨a,o,rfl,g,q⟩:=h;obtain rfl:u=Value.ref a:=j;exact Jk l I g e fun r m=>⟨.bl o.isSome,H,m,rfl,q⟩
end
end L2
namespace G33
open PySem L2
theorem AU{K:bA}{Q:VK}{H o:Hp}{g:Tm}{p:Addr}{r:List V}(E:aF H o)(R:o p=some (.lst r))(J:bI K o (g.parts.map enc) r)(N:g.size<=900)(k:∀(p:Addr) (C:Hp),aF H C->H p=none->C p=some (.lst ((g.parts.filterMap dD).map V.int))->Q (.ref p) C) :
  jP (Dm K p) (iD 0) (EA (Dn JJ (Dn (Ae K) (nX 0) (tC (.int 0))) (tC (.str "gap")))) (Dn (Ae K) (nX 0) (tC (.int 1))) Q [none] o:=by
 have l1:=J.length;rw[bC,Tm.cY]at l1;refine fg (xs:=r) (fun i j l m=>(∃x,j=[x])/\m=o/\l=((g.parts.take i).filterMap dD).map V.int) ⟨⟨none,rfl⟩,rfl,rfl⟩ ?_ (small (by omega)) ?_ ?_ ?_
 ·rintro i j l m hi ⟨_,_,rfl⟩;rw[bC];exact I0 (Mk _ _) (by rw[Lb];omega)
 ·rintro i j l m hi ⟨_,rfl,_⟩;exact bz.of R
 ·rintro i x j l m hx ⟨⟨Z,rfl⟩,rfl,rfl⟩;obtain⟨y,L,G⟩:=J.get' hx;rw[rz]at L;obtain⟨pt,M,rfl⟩:=FA.mp L;have w:i<g.parts.length:=(ko.mp M).1;have X:g.parts[i]=pt:=(ko.mp M).2;obtain⟨d,B⟩:=pU pt;rw[B]at G;obtain⟨I,O,rfl,D,P⟩:=G.aY;obtain⟨t1,q1,rfl,U,v⟩:=P.inv;obtain rfl:=U.aR;refine⟨_,rfl,I,_,0,_,rfl,rfl,D,uG _ _,rfl,_,rfl,?_⟩;rw[Lc w,Nt,nq,X];rw[ze pt]
  cases e:dD pt with
  |none =>
   refine lQ rfl ⟨⟨_,rfl⟩,rfl,?_⟩;simp[e]
  |some n =>
   refine Al rfl ?_
   cases pt with
   |mk hh ks =>
   have Y:hh=.gap n:=by
    cases hh<;>simp[dD]at e
    rw[e]
   subst Y;rw[bw]at B
   have A:d=[.i n]:=by
    have z:T.t [.s "gap",.i n]=T.t (.s (hdS (Hd.gap n))::d):=B;injection z with z;injection z with _ z;exact z.symm
   subst A;obtain⟨t2,q2,rfl,S,u⟩:=v.inv;obtain rfl:=u.fE;obtain rfl:=S.cV;refine⟨_,rfl,I,_,1,_,rfl,rfl,D,rfl,⟨_,rfl⟩,rfl,?_⟩;simp[e]
 ·rintro j l m ⟨_,rfl,rfl⟩ q hq;rw[l1,←Tm.cY,Lv];exact k q _ (E.trans (ae hq _)) (E.free hq) af
noncomputable def qL(K:bA)(n:Nat):Sp:=fun l H Q _=>∃(v:V) (d:Addr) (k:Kk) (j:Int->Option Kk),l=[v,.ref d]/\Rp K H (bW k) v/\jC K bW H d j/\k.dep<n/\∀g e,aF H e->Rp K e (bW (jB j k)) g->Q g e
noncomputable def pB(K:bA)(n:Nat):Sp:=fun e H Q _=>∃(v:V) (k:Kk),e=[v]/\Rp K H (bW k) v/\k.dep<n/\∀l d,aF H d->H l=none->d l=some (.lst (k.pG.toList.map V.int))->Q (.ref l) d
noncomputable def zJ(K:bA):Sp:=fun j H Q _=>∃(v:V) (kt:T) (e:List (Str×List (Str×Kk)×Tm)),j=[v]/\Rp K H (jz kt e) v/\pV e/\(∀d∈e,∀p∈d.2.1,p.2.dep<=100) /\
 ∀(p l1 l2:Addr) (g:Hp),aF H g->H l1=none->H l2=none->l1≠l2->g p=some (.tup [.ref l1,.ref l2])->g l1=some (.lst ((bE e).map V.int))->g l2=some (.lst ((bO e).map V.int))->Q (.ref p) g
noncomputable def ER(K:bA):Sp:=fun r H Q _=>∃(v m o:V) (kt:T) (e:List (Str×List (Str×Kk)×Tm)) (g:List (Int×Tm)) (j:List (Int×Kk)),r=[v,m,o]/\Rp K H (jz kt e) v/\pV e/\(∀d∈e,∀p∈d.2.1,p.2.dep<=100)/\(∀d∈e,d.2.2.depth<26)/\Rp K H (.t (g.map (nQ enc))) m/\Rp K H (.t (j.map (nQ bW))) o/\(g.map (·.1)).Nodup/\(j.map (·.1)).Nodup /\
 ∀q l,aF H l->Rp K l (jz kt (e.map (putD (jJ g) (jJ j)))) q->Q q l
structure DI(K:bA) (H:Hp) (ld:Addr) (ts:List T) (H':Hp):Prop where
 s:aF H H'
 l:∃us,H' ld=some (.lst us)/\bI K H' ts us
section
variable {P:FG}{w:Lk}{K:bA}{mg:Str->Option j3}{base:Heap}{gP gK gO gG gU:Addr}{pfd kfd ofd gfd ufd:zo}
theorem AV:Nm ["_law_term_here"] (aj mw):=by decide +kernel
theorem AW:aI ["_law_term_here"] ["_law_term_here"] (aj mw):=⟨rfl,rfl,rfl,by decide +kernel,rfl,by decide +kernel,by decide +kernel⟩
theorem CV{f:Addr}{j:zo}(F:gX K "_law_gaps" "_law_gaps" mw f j)(g:bY P w K mg base "parts" 3 ["term"] (oH K) gP pfd):bK P w K mg base eL 4 f j ["_law_term_here"] (oJ K):=by
 refine F.ok AW (fun l H Q E h=>?_) (fun u A e s H l Q E hr h=>?_)
 ·obtain⟨v,m,rfl,_⟩:=h;rfl
 obtain⟨v,m,rfl,z,wf,d,k⟩:=h;have r:=HL.of d;refine⟨_,(Zg (Zn (@fG _ _ _ _ _ _ _ _ _ _ _ (aj mw) ["_law_term_here"] ["_law_one"] [] rfl rfl rfl (by decide +kernel) (@cX _ _ _ _ (Z0 g (Zb (va AV 0)))) (fun _ _ _ _=>(Z3 (i:=0) (show(["_law_one"]:List Str).Nodup by decide +kernel))) (fun _ _ _ _=>(@gz _ _ _ (Zf bJ (Z9 (fP K rfl) (va (show Nm ["_law_one"] _ by show _=_;kernel_rfl) 0)) az))) (fun _ _ _ _=>(Z9 (fP K rfl) (va (show Nm ["_law_one"] _ by show _=_;kernel_rfl) 0))) (by intro _;rfl)))),?_⟩
 try dsimp only[bM]
 try dsimp only[bM]
 fail "R";intro p C y o B t q;fail "R";exact AU o t q d k
theorem b9:Nm ["_law_kind","_law_put_here"] (aj gM):=by decide +kernel
theorem sU:aI ["_law_kind","_law_put_here"] ["_law_kind","_law_put_here"] (aj gM):=⟨rfl,rfl,rfl,by decide +kernel,rfl,by decide +kernel,by decide +kernel⟩
theorem CW{f:Addr}{L:zo}{n j:Nat}(X:1<=j)(hn:n<=100)(F:gX K "_law_kind_put" "_law_kind_put" gM f L)(D:bY P w K mg base "_law_kind_put" j ["_law_kind","_law_put_here"] (qL K n) gK kfd) :
  bK P w K mg base eL (j+1) f L ["_law_kind","_law_put_here"] (qL K (n+1)):=by
 refine F.ok sU (fun M H Q E h=>?_) (fun T A q s H M Q E hr h=>?_)
 ·obtain⟨_,_,_,_,rfl,_⟩:=h;rfl
 obtain⟨v,d,r,p,rfl,e,R,hd,k⟩:=h;refine⟨_,(Z6 (Zd (Zq (rm hr.qy) (va b9 0) az) (Zg (cB (va b9 0)))) (Z6 (Zd (Zf bJ (Z9 aQ (va b9 0)) az) (Zg (Zn (Ze (Z1 az (Z1 (Z0 D (Z1 (Z9 aQ (va b9 0)) (Zb (va b9 1)))) ak)))))) (Z6 (Zd (PW.pt (@gY _ _ _ _ _ _ _ (Zf bJ (Z9 aQ (va b9 0)) az) (@gm _ _ _ _ (@eX _ _ _ _ _ _ _ _ (Gv (jo hr)) (Z9 aQ (va b9 0)) (va b9 1) (by with_unfolding_all rfl))))) (Zg (Zn (@uB _ _ _ _ _ _ (jo hr) (va b9 1) (Z9 aQ (va b9 0)) (fun _ _=>rfl))))) (Zg (cB (va b9 0)))))),?_⟩
 try dsimp only[bM]
 try dsimp only[bM]
 refine mz ?_;intro N1 N2 N3 c1 c2 c3;have Z:(bW r).dep<=150:=I0 (iz r) (by omega);have V:Rp K H (.s "num") (.str "num"):=.s;fail "R"
 cases r with
 |num =>
  refine Al (decide_eq_true rfl) ?_;fail "R";exact k _ _ (aF.refl _) e
 |kd x =>
  refine lQ (decide_eq_false nofun) ?_;obtain⟨a,I,G,rfl,J,l,C⟩:=(show Rp K H (.t [.s "kind",.s x]) v from e).t2;obtain rfl:=l.aR;fail "R";exact k _ _ (aF.refl _) e
 |row j =>
  refine lQ (decide_eq_false nofun) ?_;obtain⟨a,I,G,rfl,J,l,C⟩:=(show Rp K H (.t [.s "row",bW j]) v from e).t2;obtain rfl:=l.aR;have S:j.dep<n:=RL hd;fail "R"
  try refine⟨p,?_⟩
  fail "R";intro U H3 N r3;fail "R";intro W g;exact k _ _ (N.trans (ae g _)) (Rp.new (K:=K) (xs:=[.s "row",bW (jB p j)]) g (.cons .s (.one r3)))
 |op m =>
  refine lQ (decide_eq_false nofun) ?_;obtain⟨a,I,G,rfl,J,l,C⟩:=(show Rp K H (.t [.s "open",.i m]) v from e).t2;obtain rfl:=l.aR;obtain rfl:=C.cV;obtain⟨o,Y,B,z⟩:=R.here m;fail "R"
  cases ep:p m with
  |none =>
   refine lQ (by rw[B,ep];rfl) ?_;fail "R";exact k _ _ (aF.refl _) (by rw[jB,ep];exact e)
  |some y =>
   obtain⟨u,rfl,O⟩:=z y ep;refine Al rfl ?_;fail "R";exact k _ _ (aF.refl _) (by rw[jB,ep];exact O)
theorem jG:Nm ["_law_kind"] (aj kE):=by decide +kernel
theorem yE:aI ["_law_kind"] ["_law_kind"] (aj kE):=⟨rfl,rfl,rfl,by decide +kernel,rfl,by decide +kernel,by decide +kernel⟩
theorem AX{f:Addr}{R:zo}{n j:Nat}(Z:1<=j)(hn:n<=100)(F:gX K "_law_opens" "_law_opens" kE f R)(M:bY P w K mg base "_law_opens" j ["_law_kind"] (pB K n) gO ofd)(o:mg "int"=none) :
  bK P w K mg base eL (j+1) f R ["_law_kind"] (pB K (n+1)):=by
 refine F.ok yE (fun S H Q E h=>?_) (fun X A D s H S Q E hr h=>?_)
 ·obtain⟨_,_,rfl,_⟩:=h;rfl
 obtain⟨v,G,rfl,B,hd,k⟩:=h;refine⟨_,(Z6 (Zd (Zq (rm hr.qy) (va jG 0) az) (Zg (cB (bg ak)))) (Z6 (Zd (Zf bJ (Z9 aQ (va jG 0)) az) (Zg (Zn (Z0 M (Z1 (Z9 aQ (va jG 0)) ak))))) (Zg (Zn (Zm Fz (@bg _ _ _ _ (Z1 (Z9 aQ (va jG 0)) ak)) (Z4 iY o MT (Z1 (@kW _ _ _ _ _ _ _ _ bJ (Z9 aQ (va jG 0)) az (nG _)) ak))))))),?_⟩
 try dsimp only[bM]
 try dsimp only[bM]
 have dp:(bW G).dep<=150:=I0 (iz G) (by omega);have Y:Rp K H (.s "num") (.str "num"):=.s;fail "R"
 cases G with
 |num =>
  refine Al (decide_eq_true rfl) ?_;fail "R";intro l O;exact k _ _ (ae O _) O af
 |row j =>
  refine lQ (decide_eq_false nofun) ?_;obtain⟨a,N,p,rfl,y,u,L⟩:=(show Rp K H (.t [.s "row",bW j]) v from B).t2;obtain rfl:=u.aR;have U:j.dep<n:=RL hd;fail "R";intro l3 H3 T I W;exact k _ _ T I W
 |kd x =>
  refine lQ (decide_eq_false nofun) ?_;obtain⟨a,N,p,rfl,y,u,L⟩:=(show Rp K H (.t [.s "kind",.s x]) v from B).t2;obtain rfl:=u.aR;fail "R";intro q r;have g:=ae r (.lst [p]);have J:upd H q (.lst [p]) q=some (.lst [p]):=af;generalize upd H q (.lst [p])=H1 at g J⊢;have z:=y.same g;fail "R";refine .inr ⟨_,rfl,?_⟩;fail "R";intro C d;have e:(LB (if decide (V.str "kind"=V.str "open")=true then 1 else 0:Int).toNat [p]).flatten=[]:=by rw[if_neg (by decide +kernel)];rfl
  exact k C _ (g.trans (ae d _)) (g.free d) (by rw[e];exact af)
 |op m =>
  refine lQ (decide_eq_false nofun) ?_;obtain⟨a,N,p,rfl,y,u,L⟩:=(show Rp K H (.t [.s "open",.i m]) v from B).t2;obtain rfl:=u.aR;obtain rfl:=L.cV;fail "R";intro q r;have g:=ae r (.lst [V.int m]);have J:upd H q (.lst [V.int m]) q=some (.lst [V.int m]):=af;generalize upd H q (.lst [V.int m])=H1 at g J⊢;have z:=y.same g;fail "R";refine .inr ⟨_,rfl,?_⟩;fail "R";intro C d;have e:(LB (if decide (V.str "open"=V.str "open")=true then 1 else 0:Int).toNat [V.int m]).flatten=[V.int m]:=by rw[if_pos (by decide +kernel)];rfl
  exact k C _ (g.trans (ae d _)) (g.free d) (by rw[e];exact af)
theorem eU:Nm ["_law_program","_law_own","_law_opens_here","_law_f","_law_params","_law_term_here","_law_x","_law_kind"] (aj kH):=by decide +kernel
theorem fT:Lm ["_law_program","_law_own","_law_opens_here","_law_f","_law_params","_law_term_here","_law_x","_law_kind"] (aj kH):=by decide +kernel
theorem eV:aI ["_law_program","_law_own","_law_opens_here","_law_f","_law_params","_law_term_here","_law_x","_law_kind"] ["_law_program"] (aj kH):=⟨rfl,rfl,rfl,by decide +kernel,rfl,by decide +kernel,by decide +kernel⟩
theorem CY{f:Addr}{fd:zo}(F:gX K "_law_there" "_law_there" kH f fd)(Z:bY P w K mg base "_law_gaps" 4 ["_law_term_here"] (oJ K) gG gfd)(aw:bY P w K mg base "_law_opens" 105 ["_law_kind"] (pB K 101) gO ofd) :
  bK P w K mg base eL 106 f fd ["_law_program"] (zJ K):=by
 refine F.ok eV (fun vs H Q E h=>?_) (fun bm A ai s H vs Q E hr h=>?_)
 ·obtain⟨_,_,_,rfl,_⟩:=h;rfl
 obtain⟨v,kt,g,rfl,rv,C,aj,k⟩:=h;refine⟨_,(Z6 (sa eV.nd fT 1 (bg ak)) (Z6 (sa eV.nd fT 2 (bg ak)) (Z6 (Zj (@dh _ _ _ _ (Z9 aQ (va eU 0))) (@fO _ _ _ _ _ (3) K rfl rfl (Zh (ga eV.nd fT 3) (Zh (ga eV.nd fT 4) (aG (ga eV.nd fT 5) aZ))) (by rfl) (by rfl)) (Z6 (@cu _ _ _ _ (Z7 Mz MA i8 (va eU 1) (Z1 (Z0 Z (Zb (va eU 5))) ak)) (by rfl)) (Zg (Zj (dh (va eU 4)) (Zc (Zh (ga eV.nd fT 6) (aG (ga eV.nd fT 7) aZ))) (Zg (@cu _ _ _ _ (Z7 Mz MA i8 (va eU 2) (Z1 (Z0 aw (Zb (va eU 7))) ak)) (by rfl))))))) (Zg (Zn (Ze (Z1 (va eU 1) (Zb (va eU 2))))))))),?_⟩
 try dsimp only[bM]
 try dsimp only[bM]
 refine mz ?_;intro N1 N2 N3 c1 c2 c3;obtain⟨pa,v0,v1,rfl,ah,a4,ad⟩:=(show Rp K H (.t [kt,.t (g.map mD)]) v from rv).t2;obtain⟨da,au,rfl,X,Y⟩:=ad.aY;have L:=Y.length;rw[bC]at L;fail "R";intro l1 B;have s1:=ae B (.lst []);have h1:upd H l1 (.lst []) l1=some (.lst []):=af;generalize upd H l1 (.lst [])=H1 at s1 h1⊢;fail "R";intro l2 z;have s2:=ae z (.lst []);have h2:upd H1 l2 (.lst []) l2=some (.lst []):=af;have y:l1≠l2:=aq h1 z;have W:=s2 _ _ h1;generalize upd H1 l2 (.lst [])=H2 at s2 h2 W⊢;have p:=s1.free z;have u:=s1.trans s2;have a1:=ah.same u;have a2:=X.same u;fail "R";refine mV (K:=K) (xs:=au) (fun i o H3=>(∃o3 o4 o5 o6 o7,o=[some (.ref pa),some (.ref l1),some (.ref l2),o3,o4,o5,o6,o7])/\GI H l1 l2 (bE (g.take i)) (bO (g.take i)) H3) ⟨⟨_,_,_,_,_,rfl⟩,⟨u,W,h2⟩⟩ ?_ ?_ ?_
 ·rintro i o H3 _ ⟨_,l⟩;exact X.same l.s
 ·rintro i xv o H3 hx ⟨⟨_,_,_,_,_,rfl⟩,l⟩;obtain⟨tx,N,rx⟩:=Y.get' hx;rw[rz]at N;obtain⟨d,hd,rfl⟩:=FA.mp N;have O:=we hd;obtain⟨a0,ac,a5⟩:=C.2 d O;obtain⟨xa,x1,x2,x3,rfl,ab,e1,e2,e3⟩:=(show Rp K H (.t [.s d.1,.t (d.2.1.map sA),enc d.2.2]) xv from rx).t3;obtain rfl:=e1.aR;obtain⟨qa,ag,rfl,G,I⟩:=e2.aY;have ay:=ab.same l.s;have bl:=e3.same l.s;have g1:=l.h1;have a3:d.2.2.size<=900:=by omega
  fail "R";intro l4 H4 r bh h4;have bj:=r _ _ g1;have R:=(ko.mp hd).1;have S:=(ko.mp hd).2;have ar:=uK R S;have as:=uL R S;have a7:=tU (C.take i);have ba:=BP (C.take i);have a6:(d.2.2.parts.filterMap dD).length<=100:=I0 (Mk _ _) (by rw[Tm.cY];exact ac);have bc:((bE (g.take i)).map V.int).length+((d.2.2.parts.filterMap dD).map V.int).length<=nk:=small (by rw[bC,bC];omega);have s5:=(l.s.trans r).rG B (.lst ((bE (g.take i)).map V.int++(d.2.2.parts.filterMap dD).map V.int));have U:upd H4 l1 (.lst ((bE (g.take i)).map V.int++(d.2.2.parts.filterMap dD).map V.int)) l1=some (.lst ((bE (g.take (i+1))).map V.int)):=by rw[ar,nq];exact af
  have T:upd H4 l1 (.lst ((bE (g.take i)).map V.int++(d.2.2.parts.filterMap dD).map V.int)) l2=some (.lst ((bO (g.take i)).map V.int)):=by rw[av y.symm];exact r _ _ l.h2
  have D:=G.same s5;fail "R";generalize upd H4 l1 (.lst ((bE (g.take i)).map V.int++(d.2.2.parts.filterMap dD).map V.int))=H5 at s5 U T D⊢;have J:=I.length;rw[bC]at J;refine mV (K:=K) (xs:=ag) (fun j o H6=>(∃o6 o7,o=[some (.ref pa),some (.ref l1),some (.ref l2),some (.str d.1),some (.ref qa),some x3,o6,o7])/\GI H l1 l2 (bE (g.take (i+1))) (bO (g.take i)++iU (d.2.1.take j)) H6) ⟨⟨_,_,rfl⟩,⟨s5,U,by rw[O3];simpa[iU]using T⟩⟩ ?_ ?_ ?_
  ·rintro j o H6 _ ⟨_,m⟩;exact G.same m.s
  ·rintro j yv o H6 hy ⟨⟨_,_,rfl⟩,m⟩;obtain⟨ty,M,ry⟩:=I.get' hy;rw[rz]at M;obtain⟨q,hq,rfl⟩:=FA.mp M;have al:=we hq;obtain⟨ya,y1,y2,rfl,aa,f1,f2⟩:=(show Rp K H (.t [.s q.1,bW q.2]) yv from ry).t2;obtain rfl:=f1.aR;have ax:=aa.same m.s;have bk:=f2.same m.s;have an:=m.h2;have be:q.2.dep<101:=SQ (aj d O q al);fail "R";intro l7 H7 s7 bf h7;have bi:=s7 _ _ an;have a8:(iU (d.2.1.take j)).length<=8:=I0 (Mk _ _) (by rw[Lb];omega);have a9:q.2.pG.toList.length<=1:=by cases q.2.pG<;>simp
   have bb:((bO (g.take i)++iU (d.2.1.take j)).map V.int).length+(q.2.pG.toList.map V.int).length<=nk:=small (by rw[bC,bC,lu];omega)
   have eo:iU (d.2.1.take (j+1))=iU (d.2.1.take j)++q.2.pG.toList:=by
    unfold iU;rw[iA hq,Nt]
    cases e:q.2.pG<;>simp[e]
   have ap:GI H l1 l2 (bE (g.take (i+1))) (bO (g.take i)++iU (d.2.1.take (j+1))) (upd H7 l2 (.lst ((bO (g.take i)++iU (d.2.1.take j)).map V.int++q.2.pG.toList.map V.int))):=⟨(m.s.trans s7).rG p _,by rw[av y];exact s7 _ _ m.h1,by rw[af,eo,←LM,nq (l₁:=bO (g.take i)++iU (d.2.1.take j))]⟩;fail "R";exact ap
  ·rintro o H6 ⟨⟨_,_,rfl⟩,m⟩;rw[J,Lv,←as]at m;exact⟨⟨_,_,_,_,_,rfl⟩,m⟩
 rintro o H3 ⟨⟨_,_,_,_,_,rfl⟩,l⟩;rw[L,Lv]at l;fail "R";intro p4 am;have r:=ae am (.tup [.ref l1,.ref l2]);exact k p4 l1 l2 _ (l.s.trans r) B p y af (r _ _ l.h1) (r _ _ l.h2)
theorem gQ:Nm ["_law_program","_law_fresh","_law_kinds_here","_law_defs","_law_f","_law_params","_law_term_here","_law_shown"] (aj mZ):=by decide +kernel
theorem mU:Lm ["_law_program","_law_fresh","_law_kinds_here","_law_defs","_law_f","_law_params","_law_term_here","_law_shown"] (aj mZ):=by decide +kernel
theorem kT:aI ["_law_program","_law_fresh","_law_kinds_here","_law_defs","_law_f","_law_params","_law_term_here","_law_shown"] ["_law_program","_law_fresh","_law_kinds_here"] (aj mZ):=⟨rfl,rfl,rfl,by decide +kernel,rfl,by decide +kernel,by decide +kernel⟩
theorem Gw{f:Addr}{fd:zo}(F:gX K "_law_due" "_law_due" mZ f fd)(bf:bY P w K mg base "_law_kind_put" 105 ["_law_kind","_law_put_here"] (qL K 101) gK kfd)(PU:bY P w K mg base "_law_put" 30 ["_law_term_here","_law_put_here"] (uU K 26) gU ufd)(g:mg "tuple"=none)(j:mg "dict"=none) :
  bK P w K mg base eL 106 f fd ["_law_program","_law_fresh","_law_kinds_here"] (ER K):=by
 refine F.ok kT (fun vs H Q E h=>?_) (fun b1 A a4 s H vs Q E hr h=>?_)
 ·obtain⟨_,_,_,_,_,_,_,rfl,_⟩:=h;rfl
 obtain⟨v,vt,vk,kt,ds,ft,J,rfl,rv,ar,a9,au,aw,ax,a5,a6,k⟩:=h;refine⟨_,(Z6 (sa kT.nd mU 3 (bg ak)) (Z6 (Zj (@dh _ _ _ _ (Z9 aQ (va gQ 0))) (@fO _ _ _ _ _ (3) K rfl rfl (Zh (ga kT.nd mU 4) (Zh (ga kT.nd mU 5) (aG (ga kT.nd mU 6) aZ))) (by rfl) (by rfl)) (Z6 (Zi (aj mZ) ["_law_program","_law_fresh","_law_kinds_here","_law_defs","_law_f","_law_params","_law_term_here","_law_shown"] ["_law_x","_law_kind"] [2] (dh (va gQ 5)) (fun _ _ _ _=>(Zc (Zh (Z3 (i:=0) (show(["_law_x","_law_kind","_law_kinds_here"]:List Str).Nodup by decide +kernel)) (aG (Z3 (i:=1) (show(["_law_x","_law_kind","_law_kinds_here"]:List Str).Nodup by decide +kernel)) aZ)))) (fun _ _ _ _=>dW) (fun _ _ _ _=>(Ze (Z1 (va (show Nm ["_law_x","_law_kind","_law_kinds_here"] _ by show _=_;kernel_rfl) 0) (Z1 (Z0 bf (Z1 (va (show Nm ["_law_x","_law_kind","_law_kinds_here"] _ by show _=_;kernel_rfl) 1) (Z1 (Z4 (qt K rfl rfl) j NW (Zb (va (show Nm ["_law_x","_law_kind","_law_kinds_here"] _ by show _=_;kernel_rfl) 2))) ak))) ak)))) (ga kT.nd mU 7)) (Zg (@cu _ _ _ _ (Z7 Ll Ln cz (va gQ 3) (Z1 (Ze (Z1 (va gQ 4) (Z1 (Z4 aH g Le (Zb (va gQ 7))) (Z1 (Z0 PU (Z1 (va gQ 6) (Z1 (Z4 (nL rfl) j NW (Zb (va gQ 1))) ak))) ak)))) ak)) (by rfl))))) (Zg (Zn (Ze (Z1 (Z9 aQ (va gQ 0)) (Z1 (Z4 aH g Le (Zb (va gQ 3))) ak))))))),?_⟩
 try dsimp only[bM]
 try dsimp only[bM]
 refine oF ?_;intro N1 N2 c1 c2;obtain⟨pa,v0,v1,rfl,Z,ay,a0⟩:=(show Rp K H (.t [kt,.t (ds.map mD)]) v from rv).t2;obtain⟨da,be,rfl,ap,aq⟩:=a0.aY;have ab:=aq.length;rw[bC]at ab;fail "R";intro I ai;have s4:=ae ai (.lst []);have h4:upd H I (.lst []) I=some (.lst []):=af;generalize upd H I (.lst [])=H4 at s4 h4⊢;have bl:=Z.same s4;have bm:=ap.same s4;fail "R";refine mV (K:=K) (xs:=be) (fun i D H5=>(∃o6 o7 o8 o9,D=[some (.ref pa),some vt,some vk,some (.ref I),o6,o7,o8,o9])/\DI K H I (((ds.take i).map (putD (jJ ft) (jJ J))).map mD) H5) ⟨⟨_,_,_,_,rfl⟩,⟨s4,[],h4,.nil⟩⟩ ?_ ?_ ?_
 ·rintro i D H5 _ ⟨_,fi⟩;exact ap.same fi.s
 ·rintro i xv D H5 hx ⟨⟨_,_,_,_,rfl⟩,fi⟩;have B:=fi.s;obtain⟨M,h5,r5⟩:=fi.l;obtain⟨tx,ad,rx⟩:=aq.get' hx;rw[rz]at ad;obtain⟨d,hd,rfl⟩:=FA.mp ad;have C:=we hd;obtain⟨bi,bo,br⟩:=ar.2 d C;obtain⟨xa,x1,x2,x3,rfl,as,e1,e2,e3⟩:=(show Rp K H (.t [.s d.1,.t (d.2.1.map sA),enc d.2.2]) xv from rx).t3;obtain rfl:=e1.aR;obtain⟨qa,bq,rfl,a2,a3⟩:=e2.aY;have bh:=as.same B;have Y:=a2.same B;fail "R";refine fB (K:=K) (e:=sA) (φ:=fun p=>[.t [.s p.1,bW (jB (jJ J) p.2)]]) (fun D=>∃y0 y1,D=[y0,y1,some vk]) Y (a3.same B) (by omega) (fun _=>lj _) ⟨_,_,rfl⟩ ?_ ?_
  ·rintro p hp yv _ H6 N y ⟨_,_,rfl⟩ ry kN;obtain⟨ya,y1,y2,rfl,bn,g1,g2⟩:=(show Rp K H6 (.t [.s p.1,bW p.2]) yv from ry).t2;obtain rfl:=g1.aR;obtain⟨ka,a8,o,rfl,bb,ba,q⟩:=qK ((ax.same B).same y) a6;have bu:p.2.dep<101:=SQ (a9 d C p hp);fail "R";intro d7 am;have G:=q d7 am;have u:=ae am (.dK (dH [] o));have bc:=g2.same u;generalize upd H6 d7 (.dK (dH [] o))=H7 at G u bc⊢;fail "R"
   try refine⟨jJ J,?_⟩
   fail "R";intro v8 H8 O r8;fail "R";intro p9 ag;exact kN _ _ _ ⟨⟨_,_,rfl⟩,(u.trans O).trans (ae ag _),.one (Rp.new (K:=K) (xs:=[.s p.1,bW (jB (jJ J) p.2)]) ag (.cons .s (.one r8)))⟩
  intro l6 H6 L y bt h6 U;rw[iL]at U;have bv:=y _ _ h5;fail "R";refine .inl ⟨bz.of h6,fun G r=>?_⟩;have u:=ae r (.tup L);have r7:=Rp.new (K:=K) r U;generalize upd H6 G (.tup L)=H7 at u r7⊢;have S:=y.trans u;obtain⟨ka,a8,o,rfl,bb,ba,q⟩:=qK ((aw.same B).same S) a5;fail "R";intro d8 al;have p8:=q d8 al;have O:=ae al (.dK (dH [] o));generalize upd H7 d8 (.dK (dH [] o))=H8 at p8 O⊢;have R:=S.trans O;have bw:=(e3.same B).same R;have bp:d.2.2.size<=900:=by omega
  have bx:d.2.2.depth<26:=au d C;fail "R"
  try refine⟨jJ ft,?_⟩
  fail "R";intro v9 H9 s9 r9;have a1:=r7.same (O.trans s9);fail "R";intro aa z;have T:=ae z (.tup [.str d.1,.ref G,v9]);have X:=Rp.new (K:=K) (xs:=[.s d.1,.t (d.2.1.map fun p=>.t [.s p.1,bW (jB (jJ J) p.2)]),enc (dY (jJ ft) d.2.2)]) z (.cons .s (.cons a1 (.one r9)));generalize upd H9 aa (.tup [.str d.1,.ref G,v9])=H10 at T X⊢;have m:=(R.trans s9).trans T;have an:=m _ _ h5;have W:=r5.same m;have a7:=r5.length;have b0:=ar.1;have bs:M.length<nk:=bj (by rw[a7,bC,bC,Lb];omega);fail "R";have ac:Kt H10 (upd H10 I (.lst (M++[V.ref aa]))):=Kt.lst an _;refine⟨(B.trans m).rG ai _,_,af,?_⟩;rw[iA hd,nq,nq,NV,NV,xu];exact(W.kt ac).snoc (X.kt ac)
 rintro D H5 ⟨⟨_,_,_,_,rfl⟩,fi⟩;rw[ab,Lv]at fi;obtain⟨M,h5,r5⟩:=fi.l;have bk:=Z.same fi.s;fail "R";refine .inl ⟨bz.of h5,fun p6 ah=>?_⟩;have y:=ae ah (.tup M);have U:=Rp.new (K:=K) ah r5;generalize upd H5 p6 (.tup M)=H6 at y U⊢;fail "R";intro G r;have u:=ae r (.tup [v0,.ref p6]);exact k _ _ ((fi.s.trans y).trans u) (Rp.new (K:=K) (xs:=[kt,.t ((ds.map (putD (jJ ft) (jJ J))).map mD)]) r (.cons ((ay.same fi.s).same y) (.one U)))
end
noncomputable def Ij(d:List (Int×Tm)):Prop:=d.length<=4/\∀p∈d,Tok p.2/\p.2.size<=12
noncomputable def Ik(d:List (Int×Kk)):Prop:=d.length<=3/\∀p∈d,p.2.dep<=2/\KWd p.2
noncomputable def rW(K:bA):Sp:=fun B H Q _=>∃(f d:Addr) (w:V) (S:eM) (A:List Str) (r:Kl) (D:List (Str×List Kk×Kk)) (v:List V) (e:List (Str×List (Str×Kk)×Tm)) (q:List (Int×Kk)) (u:List Int),B=[.ref f,w,.ref d]/\FS K H f d S A r D v (bE e) u/\Rp K H (jz (fR r) e) w/\pV e/\(∀d∈e,∀p∈d.2.1,p.2.dep<=100)/\vh K H S.x2 q/\qA (kn r) q/\bO e=q.map (·.1)/\(bE e).Nodup/\u.length<=10/\S.ex=[(ky "opens",.ref S.x2)]/\S.x2≠f/\S.x2≠S.lg /\
 ∀(p:Addr) (z y:V) (j:Hp) (l:List (Int×Tm)) (o:List (Int×Kk)) (m:Int) (g C:List Int),bH [d,S.lg,S.la] f H j->qp H j d S (bE e) m g->g.length<=u.length+4->j p=some (.tup [z,y])->Rp K j (.t (l.map (nQ enc))) z->Rp K j (.t (o.map (nQ bW))) y->Ij l->Ik o->wN lU (bE e) g l->(l.map (·.1)).Nodup->wN vz (bO e) C o->(o.map (·.1)).Nodup->Q (.ref p) j
structure L1(K:bA) (f d:Addr) (S:eM) (g0:List Int) (n0:Nat) (H:Hp) (lt lf lo:Addr) (gk:List V) (i:Nat) (H':Hp):Prop where
 x:∃(ft:List (Int×Tm)) (us:List V) (L:List Int) (m:Int) (gs:List Int),bH [d,S.lg,S.la] f H H'/\qp H H' d S g0 m gs/\gs.Nodup/\gs.length<=n0+i/\H' lt=some (.lst (L.map V.int))/\H' lf=some (.lst us)/\H' lo=some (.lst gk)/\bI K H' (ft.map (nQ enc)) us/\ft.length=i/\L.length+i=g0.length/\(L.map id++ft.map (·.1)).Nodup/\(∀x∈L,x∈g0)/\wN lU g0 gs ft/\∀p∈ft,Tok p.2/\p.2.size<=12
theorem pD{i:Int}{n:Nat}(d:0<=i)(h:i.toNat<n):Qd i n=some i.toNat:=by
 unfold Qd;have e:¬i<0:=by omega
 have g:i<(n:Int):=by omega
 simp[e,d,g]
theorem ud{d e:Type}(f:d->e)(L:List d)(k:Nat):(L.map f).eraseIdx k=(L.eraseIdx k).map f:=by
 rw[Mn,Mn,nq,M0,Pq]
theorem AY{K:bA}{H:Hp}{xs:List T}{d:List V}(k:Nat)(h:bI K H xs d):bI K H (xs.eraseIdx k) (d.eraseIdx k):=by
 rw[Mn,Mn];exact(h.take k).append (h.drop (k+1))
theorem ES{n:Nat}(hn:n<=3)(l:Nat):((LU n).map (lS 4)++(LU l).map (fun j:Nat=>60+(j:Int))).Nodup:=by
 refine Me.mpr ⟨?_,?_,fun x g y d e=>?_⟩
 ·rcases(show n=0\/n=1\/n=2\/n=3 by omega)with e|e|e|e<;>rw[e]<;>decide
 ·exact Sl.map _ (fun a b h e=>h (by omega)) List.nodup_range
 ·subst e;obtain⟨a,m,rfl⟩:=L8.mp g;obtain⟨b,o,e⟩:=L8.mp d;have:=Oj.mp m;rw[show lS 4 a=5*(a:Int)+2 from rfl]at e;omega
theorem AZ{ns:List Str}{m y:List (Int×Kk)}{l:Nat}{o:Int×Kk}{g:Kk}{p:List Int}(d:qA ns m)(t:∀x∈ns,Wd x)(G:l<=3)(B:o∈m)(nn:o.1∉y.map (·.1))(C:wN vz (m.map (·.1)) (m.map (·.1)++(LU l).map (fun j:Nat=>60+(j:Int))) y)(h:p=(LU l).map (fun j:Nat=>60+(j:Int))/\(g=o.2\/g=.row o.2\/g=.op o.1)\/p=(LU l).map (fun j:Nat=>60+(j:Int))++[60+(((LU l).map (fun j:Nat=>60+(j:Int))).length:Int)]/\(g=.op (60+(((LU l).map (fun j:Nat=>60+(j:Int))).length:Int))\/g=.row (.op (60+(((LU l).map (fun j:Nat=>60+(j:Int))).length:Int))))):∃v,v<=l+1/\p=(LU v).map (fun j:Nat=>60+(j:Int))/\wN vz (m.map (·.1)) (m.map (·.1)++(LU v).map (fun j:Nat=>60+(j:Int))) (y++[(o.1,g)])/\g.dep<=2/\KWd g:=by
 obtain⟨ok,I⟩:=d.2.2 o B;have no:o.2.pG=none:=Kk.yC ok;have sub:∀x∈m.map (fun o:Int×Kk=>o.1),x∈m.map (fun o:Int×Kk=>o.1)++(LU l).map (fun j:Nat=>60+(j:Int)):=fun x D=>LD _ D;have r:o.1∈m.map (·.1):=LC B;rcases h with⟨e,hk⟩|⟨e,hk⟩
 ·have u:((m.map (fun o:Int×Kk=>o.1)++(LU l).map (fun j:Nat=>60+(j:Int)))++[]).Nodup:=by
   rw[LH,d.2.1];exact ES d.1 l
  have w:(vz g).Sublist []\/vz g=[o.1]:=by
   rcases hk with rfl|rfl|rfl
   ·exact .inl (by unfold vz;rw[no];exact .slnil)
   ·exact .inl (by unfold vz;rw[show(Kk.row o.2).pG=o.2.pG from rfl,no];exact .slnil)
   ·exact .inr rfl
  have q:=C.snoc r nn sub u w;rw[LH]at q;refine⟨l,by omega,e,q,?_⟩;have A:KWd o.2:=Kk.kwd t ok;rcases hk with rfl|rfl|rfl
  ·exact⟨by omega,A⟩
  ·exact⟨by show o.2.dep+1<=2;omega,A⟩
  ·refine⟨Ld _,?_⟩;rw[d.2.1]at r;obtain⟨a,H,e⟩:=L8.mp r;have E:=Oj.mp H;have l3:=d.1;rw[show lS 4 a=5*(a:Int)+2 from rfl]at e;show 0<=o.1/\o.1<1000;omega
 ·rw[bC,SR]at e hk;have z:(LU (l+1)).map (fun j:Nat=>60+(j:Int))=(LU l).map (fun j:Nat=>60+(j:Int))++[60+(l:Int)]:=by rw[List.range_succ,nq];rfl
  have u:((m.map (fun o:Int×Kk=>o.1)++(LU l).map (fun j:Nat=>60+(j:Int)))++[60+(l:Int)]).Nodup:=by
   rw[LM,←z,d.2.1];exact ES d.1 (l+1)
  have w:(vz g).Sublist [60+(l:Int)]\/vz g=[o.1]:=by
   rcases hk with rfl|rfl
   ·exact .inl (O4 _)
   ·exact .inl (O4 _)
  have q:=C.snoc r nn sub u w;rw[LM,←z]at q;refine⟨l+1,lj _,by rw[z];exact e,q,?_⟩;rcases hk with rfl|rfl
  ·exact⟨Ld _,by show 0<=60+(l:Int)/\60+(l:Int)<1000;omega⟩
  ·exact⟨(by decide:1<=2),by show 0<=60+(l:Int)/\60+(l:Int)<1000;omega⟩
structure K1(K:bA) (f:Addr) (H:Hp) (os:List (Int×Kk)) (ln lk lm:Addr) (i:Nat) (H':Hp):Prop where
 x:∃(fk:List (Int×Kk)) (us:List V) (O:List (Int×Kk)) (ov:List V) (l:Nat),bH [] f H H'/\H' ln=some (.lst ov)/\bI K H' (O.map (nQ bW)) ov/\H' lk=some (.lst us)/\bI K H' (fk.map (nQ bW)) us/\H' lm=some (.lst (((LU l).map (fun j:Nat=>60+(j:Int))).map V.int))/\l<=i/\fk.length=i/\O.length+i=os.length/\(O.map (·.1)++fk.map (·.1)).Nodup/\(∀o∈O,o∈os)/\wN vz (os.map (·.1)) (os.map (·.1)++(LU l).map (fun j:Nat=>60+(j:Int))) fk/\∀p∈fk,p.2.dep<=2/\KWd p.2
section
variable {P:FG}{w:Lk}{K:bA}{mg:Str->Option j3}{base:Heap}{gT gH gF gO:Addr}{tfd hfd ffd ofd:zo}
theorem aD:Nm ["_law_feed_here","_law_program","_law_scene_here","_law_left","_law_opens_here","_law_found","_law_k","_law_n","_law_known","_law_kinds_here","_law_more","_law_kind"] (aj fu):=by decide +kernel
theorem cf:Lm ["_law_feed_here","_law_program","_law_scene_here","_law_left","_law_opens_here","_law_found","_law_k","_law_n","_law_known","_law_kinds_here","_law_more","_law_kind"] (aj fu):=by decide +kernel
theorem bR:aI ["_law_feed_here","_law_program","_law_scene_here","_law_left","_law_opens_here","_law_found","_law_k","_law_n","_law_known","_law_kinds_here","_law_more","_law_kind"] ["_law_feed_here","_law_program","_law_scene_here"] (aj fu):=⟨rfl,rfl,rfl,by decide +kernel,rfl,by decide +kernel,by decide +kernel⟩
theorem xw{f:Addr}{fd:zo}{j jn:Nat}(h1:2<=j)(h2:jn<=j)(F:gX K "_law_fillings" "_law_fillings" fu f fd)(TK:bY P w K mg base "_law_take" 1 ["_law_feed_here","_law_many"] eJ gT tfd)(f0:bY P w K mg base "_law_there" jn ["_law_program"] (zJ K) gH hfd)(f2:bY P w K mg base "_law_filling" j ["_law_feed_here","_law_scene_here","_law_n","_law_room","_law_more"] (uc K) gF ffd)(f1:bY P w K mg base "_law_open_filling" 2 ["_law_feed_here","_law_n","_law_kind","_law_fresh"] (zI K) gO ofd)(z_len:mg "len"=none)(b5:mg "min"=none)(z_range:mg "range"=none)(W:mg "tuple"=none):bK P w K mg base eL (j+1) f fd ["_law_feed_here","_law_program","_law_scene_here"] (rW K):=by
 refine F.ok bR (fun vs H Q E h=>?_) (fun g1 A e1 s H vs Q E hr h=>?_)
 ·obtain⟨_,_,_,_,_,_,_,_,_,_,_,rfl,_⟩:=h;rfl
 obtain⟨U,d,vp,S,xs,kl,dl,g0,ds,os,gs,rfl,fs,rp,fy,EI,⟨ov,ck,et⟩,cd,ek,er,gv,fl,dc,db,k⟩:=h;refine⟨_,(Z6 (Zo (Z0 f0 (Zb (va aD 1))) (Zc (Zh (ga bR.nd cf 3) (aG (ga bR.nd cf 4) aZ)))) (Z6 (sa bR.nd cf 5 (bg ak)) (Z6 (Zj (Zp (Z1 (@dS _ _ _ _ _ _ _ _ _ (zY rfl) (by show _=_;kernel_rfl) b5 PyProof.Rows.boot_min (Z1 ao (Z1 (Z0 TK (Z1 (va aD 0) (Z1 (Zm cR (Z5 aB (Zb (va aD 3))) ao) ak))) ak)) (by decide) (by decide) (by rfl) (by rfl)) ak)) (ga bR.nd cf 6) (Z6 (Z2 bR.nd cf 7 (Z7 Na Oe vK (va aD 3) (Z1 (Z0 TK (Z1 (va aD 0) (Z1 (Z5 aB (Zb (va aD 3))) ak))) ak))) (Zg (@cu _ _ _ _ (Z7 Ll Ln cz (va aD 5) (Z1 (Ze (Z1 (va aD 7) (Z1 (Z0 f2 (Z1 (va aD 0) (Z1 (va aD 2) (Z1 (va aD 7) (Z1 (Zm cR ao (Z0 TK (cT (va aD 0) (Zb ao)))) (Z1 (Z0 TK (cT (va aD 0) (Zb ao))) ak)))))) ak))) ak)) (by rfl))))) (Z6 (Zi (aj fu) ["_law_feed_here","_law_program","_law_scene_here","_law_left","_law_opens_here","_law_found","_law_k","_law_n","_law_known","_law_kinds_here","_law_more","_law_kind"] ["_law_one"] [4] (@cX _ _ _ _ (Zk (va aD 2))) (fun _ _ _ _=>(Z3 (i:=0) (show(["_law_one","_law_opens_here"]:List Str).Nodup by decide +kernel))) (fun _ _ _ _=>(@gz _ _ _ (@eX _ _ _ _ _ _ _ _ (xV K rfl) (Z9 (fP K rfl) (va (show Nm ["_law_one","_law_opens_here"] _ by show _=_;kernel_rfl) 0)) (va (show Nm ["_law_one","_law_opens_here"] _ by show _=_;kernel_rfl) 1) (by with_unfolding_all rfl)))) (fun _ _ _ _=>(va (show Nm ["_law_one","_law_opens_here"] _ by show _=_;kernel_rfl) 0)) (ga bR.nd cf 8)) (Z6 (sa bR.nd cf 9 (bg ak)) (Z6 (sa bR.nd cf 10 (bg ak)) (Z6 (Zj (Zp (Z1 (Z0 TK (Z1 (va aD 0) (Z1 (Zm cR (Z5 aB (Zb (va aD 8))) ao) ak))) ak)) (ga bR.nd cf 6) (Z6 (Zo (Z7 Na Oe vK (va aD 8) (Z1 (Z0 TK (Z1 (va aD 0) (Z1 (Z5 aB (Zb (va aD 8))) ak))) ak)) (Zc (Zh (ga bR.nd cf 7) (aG (ga bR.nd cf 11) aZ)))) (Zg (@cu _ _ _ _ (Z7 Ll Ln cz (va aD 9) (Z1 (Z0 f1 (Z1 (va aD 0) (Z1 (va aD 7) (Z1 (va aD 11) (Zb (va aD 10)))))) ak)) (by rfl))))) (Zg (Zn (Ze (Z1 (Z4 aH W Le (Zb (va aD 5))) (Z1 (Z4 aH W Le (Zb (va aD 9))) ak)))))))))))),?_⟩
 try dsimp only[bM]
 try dsimp only[bM]
 have sc:=fs.sc;have d0:=sc.ff;have gg:=tU fy;fail "R";intro p1 lt lo H1 s1 a3 bu e3 go dq dt;fail "R";intro Y as;have s2:=ae as (.lst []);have d7:upd H1 Y (.lst []) Y=some (.lst []):=af;generalize upd H1 Y (.lst [])=H2 at s2 d7 ⊢;have c0:=s1.trans s2;have gw:=sc.ff.same c0;have bt:=s2 _ _ dq;have dr:=s2 _ _ dt;have gc:bz K H2 lt ((bE ds).map V.int)\/bN K H2 lt ((bE ds).map V.int):=.inl (bz.of bt);have gm:((bE ds).map V.int).length=(bE ds).length:=bC _;fail "R";intro r H3 r0 r1 x3;obtain⟨mn,bp⟩:∃mn:Int,mn=if r<4 then r else 4:=⟨_,rfl⟩;have fi:0<=mn/\mn<=4/\mn<=(bE ds).length:=by rw[bp];split<;>omega
 obtain⟨gr,gq,gp⟩:=fi;have b1:-(2 ^ 62)<=(if r<4 then r else 4:Int):=by rw[←bp];omega
 have b2:(if r<4 then r else 4:Int)<2 ^ 62:=by rw[←bp];omega
 have gf:Ext U H2 H3:=x3;have cw:Ext U H H3:=((Ext.refl d0).same c0).trans x3;have ay:NN S d lt:=sc.nn a3;have a0:NN S d Y:=(sc.same s1).nn as;have X:lt≠U:=(sc.no a3).1;have ai:lo≠U:=(sc.no bu).1;have J:Y≠U:=((sc.same s1).no as).1;have du:H Y=none:=s1.free as;have a1:lt≠Y:=aq dq as;have ch:lo≠Y:=aq dt as;have bi:lt≠d/\lt≠S.lg/\lt≠S.la:=⟨ay.1,ay.2.2.2.2.2.1,ay.2.2.2.2.2.2⟩;have bk:Y≠d/\Y≠S.lg/\Y≠S.la:=⟨a0.1,a0.2.2.2.2.2.1,a0.2.2.2.2.2.2⟩;have cb:lo≠d/\lo≠S.lg/\lo≠S.la:=by have:=sc.nn bu;exact⟨this.1,this.2.2.2.2.2.1,this.2.2.2.2.2.2⟩
 have bl:d≠U/\S.lg≠U/\S.la≠U:=⟨sc.nf.1,sc.nf.2.2.2.2.2⟩;fail "R";rw[←bp];refine fU (n:=mn.toNat) (fun i σ H6=>(∃(y6 y7:Option V),σ=[some (.ref U),some vp,some (.ref d),some (.ref lt),some (.ref lo),some (.ref Y),y6,y7,none,none,none,none])/\L1 K U d S (bE ds) gs.length H lt Y lo ((bO ds).map V.int) i H6) ⟨⟨_,_,rfl⟩,⟨[],[],bE ds,S.mo,gs,Ext.tX d0 cw,fs.cur.ext cw bl,sc.Jx,lj _,x3.1 _ _ X bt,x3.1 _ _ J d7,x3.1 _ _ ai dr,.nil,rfl,rfl,by rw[List.map_id,Nc,LH];exact er,fun x hx=>hx,.nil,fun _ h=>nomatch h⟩⟩ ?_ ?_
 ·rintro i σ H6 hi ⟨⟨_,_,rfl⟩,⟨ft,us,L,m,cp,f6,c6,eg,fr,cn,co,bn,r6,dh,lL,bm,hL,cq,ce⟩⟩;have au:=f6.ff;have e7:(L.map V.int).length=L.length:=bC _;have dp:bz K H6 lt (L.map V.int)\/bN K H6 lt (L.map V.int):=.inl (bz.of cn);fail "R";intro T H7 ev gj x7;have d6:=x7.1 _ _ X cn;have cj:T.toNat<L.length:=by omega
  obtain⟨n,hn⟩:∃n,L[T.toNat]?=some n:=⟨_,m3 cj⟩
  have fb:Qd T (L.map V.int).length=some T.toNat:=by
   rw[e7];exact pD ev cj
  have gx:(L.map V.int)[T.toNat]?=some (.int n):=by rw[rz,hn];rfl
  have fp:=x7.1 _ _ J co;have fn:=x7.1 _ _ ai bn;have f8:=(f6.ext x7).yk (o:=.lst ((L.map V.int).eraseIdx T.toNat)) a3 X d6;have c8:=(c6.ext x7 bl).put (o:=.lst ((L.map V.int).eraseIdx T.toNat)) bi;have k8:Kt H7 (upd H7 lt (.lst ((L.map V.int).eraseIdx T.toNat))):=Kt.lst d6 _;have d4:upd H7 lt (.lst ((L.map V.int).eraseIdx T.toNat)) lt=some (.lst ((L.eraseIdx T.toNat).map V.int)):=by rw[ud];exact af
  have cm:upd H7 lt (.lst ((L.map V.int).eraseIdx T.toNat)) Y=some (.lst us):=by rw[av a1.symm];exact fp
  have d5:upd H7 lt (.lst ((L.map V.int).eraseIdx T.toNat)) lo=some (.lst ((bO ds).map V.int)):=by rw[av e3.symm];exact fn
  have dx:=f8.ff;have q8:bz K (upd H7 lt (.lst ((L.map V.int).eraseIdx T.toNat))) Y us:=bz.of cm;fail "R";generalize upd H7 lt (.lst ((L.map V.int).eraseIdx T.toNat))=H8 at f8 c8 k8 d4 cm d5 dx q8⊢;intro r9 H9 gi gh x9;have dw:=x9.2;fail "R";intro bh cs da c9 ab;have I:=x9.trans ab;have ej:=f8.ext I;have eo:=c8.ext I bl;have ge:=fs.at_ ej eo;have e4:n∈bE ds:=hL n (we hn);fail "R";intro b7 aa tm mr e6 eh em ey cx ep fw f5;have D:bH [d,S.lg,S.la] U cs aa:=eh;have ac:=ej.trans D;have en:=eo.trans em;have bb:=(fs.at_ ac en).sc.Jx;have ee:=bH.get3 (M:=[]) D bi.1 bi.2.1 bi.2.2 X (I.1 _ _ X d4);have ba:=bH.get3 (M:=[]) D bk.1 bk.2.1 bk.2.2 J (I.1 _ _ J cm);have ef:=bH.get3 (M:=[]) D cb.1 cb.2.1 cb.2.2 ai (I.1 _ _ ai d5);have c5:=(((r6.kt (x7.kt au)).kt k8).kt (I.kt dx)).kt D.kt;fail "R";intro C Z;have q:=ae Z (.tup [.int n,b7]);have g:Rp K (upd aa C (.tup [.int n,b7])) (nQ enc (n,tm)) (.ref C):=Rp.new (K:=K) (xs:=[.i n,enc tm]) Z (.cons .i (.one ey));generalize upd aa C (.tup [.int n,b7])=B at q g⊢;have b3:=q _ _ ba;have eb:=q _ _ ee;have ec:=q _ _ ef;have gk:us.length<nk:=bj (by rw[r6.length,bC];omega);have be:=(ac.same q).yk (o:=.lst (us++[.ref C])) du J b3;have fz:=(en.same q).put (o:=.lst (us++[.ref C])) bk;have ar:Kt B (upd B Y (.lst (us++[.ref C]))):=Kt.lst b3 _;have e2:n∉ft.map (·.1):=fun z=>(Me.mp bm).2.2 n (by rw[List.map_id];exact we hn) n z rfl;fail "R";refine⟨ft++[(n,tm)],us++[.ref C],L.eraseIdx T.toNat,e6,cp++mr,be,fz,bb,by rw[lu];omega,by rw[av a1];exact eb,af,by rw[av ch];exact ec,?_,by rw[lu,dh];rfl,by rw[Qx cj];omega,?_,fun x hx=>hL x (Q3 hx),cq.snoc e4 e2 c6.sub bb fw,fun p hp=>?_⟩
  ·rw[nq];exact((c5.same q).kt ar).snoc (g.kt ar)
  ·rw[nq];exact Cz hn bm
  ·rcases Li.mp hp with z|z
   ·exact ce p z
   ·rw[nt.mp z];exact⟨cx,ep⟩
 ·rintro σ H6 ⟨⟨_,_,rfl⟩,⟨ft,us,L,m,cp,f6,c6,eg,fr,cn,co,bn,r6,dh,lL,bm,hL,cq,ce⟩⟩;have au:=f6.ff;have eW:=(fs.at_ f6 c6).sc;have d1:{S with mo:=m}.ex=[(ky "opens",.ref S.x2)]:=fl;have gu:=eW.get (zH d1);obtain⟨gn,dv,_⟩:=sc.la;have fq:=bH.get3 (M:=[]) f6 (cD ck sc.sd (fun z=>nomatch z)) db (cD ck dv (fun z=>nomatch z)) dc ck
  have eu:=et.kt f6.kt;have gl:=cd.1;have gy:=kQ (bO ds);have dp:bz K H6 lo ((bO ds).map V.int)\/bN K H6 lo ((bO ds).map V.int):=.inl (bz.of bn);fail "R";refine ik (e:=nQ bW) (φ:=fun o=>[nQ bW o]) (fun σ=>∃x,σ=[x,some (.ref lo)]) fq eu (by omega) (fun _=>lj _) ⟨_,rfl⟩ ?_ ?_
  ·rintro o ho x _ H7 N s7 ⟨_,rfl⟩ rx kN;obtain⟨xa,x1,x2,rfl,ct,q1,q2⟩:=(show Rp K H7 (.t [.i o.1,bW o.2]) x from rx).t2;obtain rfl:=q1.cV
   have fj:vJ (.int o.1) ((bO ds).map V.int)=true:=by
    rw[ek];exact(mQ (n:=o.1) (ns:=os.map (·.1))).trans (decide_eq_true (LC ho))
   have gb:bz K H7 lo ((bO ds).map V.int)\/bN K H7 lo ((bO ds).map V.int):=.inl (bz.of (s7 _ _ bn));have fo:lJ (.int o.1)=true:=rfl;fail "R";rw[if_neg (by decide),fj];fail "R";exact kN _ _ _ ⟨⟨_,rfl⟩,aF.refl _,.one rx⟩
  intro u H7 ws s7 bv h7 T;rw[iL (nQ bW)]at T;fail "R";intro y a6;have s8:=ae a6 (.lst []);have cl:upd H7 y (.lst []) y=some (.lst []):=af;generalize upd H7 y (.lst [])=H8 at s8 cl⊢;fail "R";intro G ap;have s9:=ae ap (.lst []);have d3:upd H8 G (.lst []) G=some (.lst []):=af;generalize upd H8 G (.lst [])=H9 at s9 d3⊢;have b8:=s8.trans s9;have cy:=s7.trans b8;have d2:=b8 _ _ h7;have fm:=s9 _ _ cl;have c1:=T.same b8;have e8:=c1.length;rw[bC]at e8;have dw:=au.same cy;have f9:bz K H9 u ws\/bN K H9 u ws:=.inl (bz.of d2);have df:u≠y:=aq h7 a6;have dd:u≠G:=aq (s8 _ _ h7) ap;have dg:y≠G:=aq cl ap;have a5:H6 y=none:=s7.free a6;have a4:H6 G=none:=(s7.trans s8).free ap;have al:u≠U:=(eW.no bv).1;have am:y≠U:=(eW.no a5).1;have bq:G≠U:=(eW.no a4).1;fail "R";intro bh cs da c9 ab;have cv:Ext U H6 cs:=((Ext.refl au).same cy).trans ab;have b1:-(2 ^ 62)<=bh:=by omega
  have b2:bh<2 ^ 62:=by omega
  have e5:(os.map (fun o:Int×Kk=>o.1)++[]).Nodup:=by rw[LH];exact cd.nodup
  fail "R";refine fU (n:=bh.toNat) (fun i σ f3=>(∃(y6 y7 eq:Option V),σ=[some (.ref U),some vp,some (.ref d),some (.ref lt),some (.ref lo),some (.ref Y),y6,y7,some (.ref u),some (.ref y),some (.ref G),eq])/\K1 K U H6 os u y G i f3) ⟨⟨_,_,_,rfl⟩,⟨[],[],os,ws,0,Ext.tX au cv,ab.1 _ _ al d2,c1.kt (ab.kt dw),ab.1 _ _ am fm,.nil,ab.1 _ _ bq d3,lj _,rfl,rfl,e5,fun o h=>h,.nil,fun _ h=>nomatch h⟩⟩ ?_ ?_
  ·rintro i σ aa hi ⟨⟨_,_,_,rfl⟩,⟨fk,R,O,v,l,ac,a8,ag,a9,ah,b4,hl,di,lO,an,hO,bc,bf⟩⟩;have dz:=ac.ff;have e9:=ag.length;rw[bC]at e9;have fh:bz K aa u v\/bN K aa u v:=.inl (bz.of a8);fail "R";intro g B c4 f4 aw;have b0:=aw.1 _ _ al a8;have br:g.toNat<O.length:=by omega
   obtain⟨o,ho⟩:∃o,O[g.toNat]?=some o:=⟨_,m3 br⟩;obtain⟨ou,fc⟩:∃ou,v[g.toNat]?=some ou:=⟨_,m3 (by omega)⟩;have fb:Qd g v.length=some g.toNat:=pD c4 (by omega);have dj:=aw.kt dz;obtain⟨ty,dk,es⟩:=ag.get' fc;rw[rz,ho]at dk;obtain rfl:nQ bW o=ty:=by injection dk
   have ar:Kt B (upd B u (.lst (v.eraseIdx g.toNat))):=Kt.lst b0 _;obtain⟨xa,x1,x2,rfl,ct,q1,q2⟩:=(show Rp K _ (.t [.i o.1,bW o.2]) ou from(es.kt dj).kt ar).t2;obtain rfl:=q1.cV;have be:=(ac.ext aw).yk (o:=.lst (v.eraseIdx g.toNat)) bv al b0;have bx:upd B u (.lst (v.eraseIdx g.toNat)) u=some (.lst (v.eraseIdx g.toNat)):=af;have a7:upd B u (.lst (v.eraseIdx g.toNat)) y=some (.lst R):=by rw[av df.symm];exact aw.1 _ _ am a9
   have ea:upd B u (.lst (v.eraseIdx g.toNat)) G=some (.lst (((LU l).map (fun j:Nat=>60+(j:Int))).map V.int)):=by rw[av dd.symm];exact aw.1 _ _ bq b4
   have dy:=be.ff;have ez:bz K (upd B u (.lst (v.eraseIdx g.toNat))) y R:=bz.of a7;have ll:((LU l).map (fun j:Nat=>60+(j:Int))).length<=3:=by rw[bC,SR];omega
   fail "R";generalize upd B u (.lst (v.eraseIdx g.toNat))=H13 at ar ct q1 q2 be bx a7 ea dy ez⊢;intro b6 cr fa gd bo d9 ew fg;have de:o.1∉fk.map (·.1):=fun z=>(Me.mp an).2.2 o.1 (LC (we ho)) o.1 z rfl;obtain⟨l',gt,rfl,ei,el⟩:=AZ cd (fun _ h=>sc.Jz h) (by omega) (hO o (we ho)) de bc fg;have fv:bH [] U H6 cr:=(be.more.trans bo).drop a4;have d8:=bo.fF dd al bx;have bw:=bo.fF dg am a7;have a2:=(dj.trans ar).trans bo.kt;have f7:R.length<nk:=bj (by rw[ah.length,bC];omega);have fx:=fv.yk (o:=.lst (R++[b6])) a5 am bw;have ci:Kt cr (upd cr y (.lst (R++[b6]))):=Kt.lst bw _;have c2:=(AY g.toNat ag).kt (a2.trans ci);rw[ud]at c2;fail "R";refine⟨fk++[(o.1,fa)],R++[b6],O.eraseIdx g.toNat,v.eraseIdx g.toNat,l',fx,by rw[av df];exact d8,c2,af,?_,by rw[av dg.symm];exact d9,by omega,by rw[lu,di];rfl,by rw[Qx br];omega,?_,fun x hx=>hO x (Q3 hx),ei,fun p hp=>?_⟩
   ·rw[nq];exact(ah.kt (a2.trans ci)).snoc (ew.kt ci)
   ·rw[nq];exact Cz (f:=fun o:Int×Kk=>o.1) (n:=o) ho an
   ·rcases Li.mp hp with z|z
    ·exact bf p z
    ·rw[nt.mp z];exact el
  ·rintro σ aa ⟨⟨_,_,_,rfl⟩,⟨fk,R,O,v,l,ac,a8,ag,a9,ah,b4,hl,di,lO,an,hO,bc,bf⟩⟩;have ad:=ac.ex;have ba:=ad.1 _ _ J co;have c7:=r6.kt (ad.kt au);fail "R";refine .inl ⟨bz.of ba,fun C Z=>?_⟩;have q:=ae Z (.tup us);have g:=Rp.new (K:=K) Z c7;generalize upd aa C (.tup us)=B at q g⊢;have ed:=q _ _ a9;fail "R";refine .inl ⟨bz.of ed,fun cc bs=>?_⟩;have ca:=ae bs (.tup R);have c3:=Rp.new (K:=K) bs (ah.same q);generalize upd B cc (.tup R)=H13 at ca c3⊢;fail "R";intro e0 dn;have b9:=ae dn (.tup [.ref C,.ref cc]);have ax:=(q.trans ca).trans b9;refine k e0 (.ref C) (.ref cc) _ ft fk m cp _ ((f6.ext ad).same ax) ((c6.ext ad bl).same ax) (by omega) af (g.same (ca.trans b9)) (c3.same b9) ⟨by omega,ce⟩ ⟨by omega,bf⟩ cq ?_ (by rw[ek];exact bc) ?_
   ·exact(Me.mp bm).2.1
   ·exact(Me.mp an).2.1
end
end G33
namespace L2
open PySem
theorem CZ{X:Cx}{d:Pos}{E D C B A z o m l j g e:Expr}{t1 t2 t3 t4 q p y w v u t r:TE}(S:PE X E t1)(M:PE X o y)(R:PE X D t2)(L:PE X m w)(Q:PE X C t3)(J:PE X l v)(P:PE X B t4)(I:PE X j u)(O:PE X A q)(H:PE X g t)(N:PE X z p)(G:PE X e r) :
  PE X (.Dict [some E,some D,some C,some B,some A,some z] [o,m,l,j,g,e] d) (EF [(t1,y),(t2,w),(t3,v),(t4,u),(q,t),(p,r)]) :=
 DA (ki S M (ki R L (ki Q J (ki P I (ki O H (ki N G Dz)))))) rfl rfl (List.cons_ne_nil _ _) (by show 6<=15;decide)
end L2
namespace G33
open PySem L2
noncomputable def zK(K:bA):Sp:=fun j H Q _=>∃(f:Addr) (mo:Int),j=[.ref f,.int mo]/\cE H f/\0<=mo/\mo<=5 /\
 ∀(d:Addr) (e:Hp) (S:eM) (g:List Str) (l:Kl),Ext f H e->(S.mo=mo/\S.ex=[]/\S.kb=13/\S.pb=24)->bx K e f d S g l [] []->H S.lg=none->H S.la=none->H S.ld=none->H d=none->Q (.ref d) e
noncomputable def eW(kd g d e j:Addr)(mo:Int):List (Key×V):=[(.inr "kinds",.ref kd),(.inr "defs",.ref g),(.inr "names",.ref d),(.inr "gaps",.ref e),(.inr "most",.int mo),(.inr "asked",.ref j)]
theorem Gx(kd g d e j:Addr)(mo:Int):dH [] (eW kd g d e j mo)=eW kd g d e j mo:=by kernel_rfl
theorem K2(kd g d e j:Addr)(mo:Int)(v:V):putK (eW kd g d e j mo) (ky "turn") v=eW kd g d e j mo++[(ky "turn",v)]:=by kernel_rfl
theorem K3(kd j e g l:Addr)(mo:Int)(d v:V):putK (eW kd j e g l mo++[(ky "turn",d)]) (ky "called") v=eW kd j e g l mo++[(ky "turn",d),(ky "called",v)]:=by kernel_rfl
theorem K4(kd l g j m:Addr)(mo:Int)(e d v:V):putK (eW kd l g j m mo++[(ky "turn",e),(ky "called",d)]) (ky "params") v=eW kd l g j m mo++[(ky "turn",e),(ky "called",d),(ky "params",v)]:=by kernel_rfl
section
variable {P:FG}{w:Lk}{K:bA}{mg:Str->Option j3}{base:Heap}{gT gN gK:Addr}{tfd nfd kfd:zo}
theorem cG:Nm ["_law_feed_here","_law_most_gaps","_law_names_here","_law_kinds_here","_law_scene_here"] (aj kD):=by decide +kernel
theorem nU:Lm ["_law_feed_here","_law_most_gaps","_law_names_here","_law_kinds_here","_law_scene_here"] (aj kD):=by decide +kernel
theorem lH:aI ["_law_feed_here","_law_most_gaps","_law_names_here","_law_kinds_here","_law_scene_here"] ["_law_feed_here","_law_most_gaps"] (aj kD):=⟨rfl,rfl,rfl,by decide +kernel,rfl,by decide +kernel,by decide +kernel⟩
theorem C0{f:Addr}{fd:zo}{j:Nat}(hj:2<=j)(F:gX K "_law_scene" "_law_scene" kD f fd)(TK:bY P w K mg base "_law_take" 1 ["_law_feed_here","_law_many"] eJ gT tfd)(NM:bY P w K mg base "_law_names" 2 ["_law_feed_here","_law_many"] zB gN nfd)(KI:bY P w K mg base "_law_kinds" j ["_law_feed_here","_law_names_here","_law_tags"] (zC K) gK kfd):bK P w K mg base eL (j+1) f fd ["_law_feed_here","_law_most_gaps"] (zK K):=by
 refine F.ok lH (fun vs H Q E h=>?_) (fun ck A bq s H vs Q E hr h=>?_)
 ·obtain⟨_,_,rfl,_⟩:=h;rfl
 obtain⟨X,mo,rfl,hf,b2,b1,k⟩:=h;refine⟨_,(Z6 (Z2 lH.nd nU 2 (Z0 NM (cT (va cG 0) (Zb ao)))) (Z6 (Z2 lH.nd nU 3 (Z0 KI (Z1 (va cG 0) (Z1 (cK gu (va cG 2) dQ (cy ao)) (Z1 (cK gu (va cG 2) (cy ao) (cy ao)) ak))))) (Z6 (Z2 lH.nd nU 4 (@CZ _ _ _ _ _ _ _ _ _ _ _ _ _ _ _ _ _ _ _ _ _ _ _ _ _ _ az (va cG 3) az (bg ak) az (cK gu (va cG 2) (cy ao) (cy ao)) az (bg ak) az (va cG 1) az (@Bp _ _))) (Z6 (@jN _ _ _ _ _ _ _ _ _ (jo hr) (va cG 4) az (Z0 TK (cT (va cG 0) (Zb ao))) (by rfl)) (Z6 (@jN _ _ _ _ _ _ _ _ _ (jo hr) (va cG 4) az (cK gu (va cG 2) (cy ao) (cy ao)) (by rfl)) (Z6 (@jN _ _ _ _ _ _ _ _ _ (jo hr) (va cG 4) az (cK gu (va cG 2) (cy ao) (cy ao)) (by rfl)) (Zg (cB (va cG 4))))))))),?_⟩
 try dsimp only[bM]
 try dsimp only[bM]
 fail "R";intro bs H1 g x1 bf b0 lx lo un
 replace lx:g.length=26:=lx
 have cj:=x1.2;have as:bs≠X:=bX hf bf;have cc:(g.map V.str).length=26:=by rw[bC];exact lx
 have e1:gq (g.map V.str) none (some 3)=(g.take 3).map V.str:=by rw[show(some (3:Int))=some ((3:Nat):Int)from rfl,jc,M0]
 have e2:gq (g.map V.str) (some 3) (some 12)=((g.drop 3).take 9).map V.str:=by
  rw[show(some (3:Int))=some ((3:Nat):Int)from rfl,show(some (12:Int))=some ((12:Nat):Int)from rfl,oU _ _ _ (by omega) (by omega),M0,Pq]
 have e3:gq (g.map V.str) (some 12) (some 18)=((g.drop 12).take 6).map V.str:=by
  rw[show(some (12:Int))=some ((12:Nat):Int)from rfl,show(some (18:Int))=some ((18:Nat):Int)from rfl,oU _ _ _ (by omega) (by omega),M0,Pq]
 have e4:gq (g.map V.str) (some 18) (some 21)=((g.drop 18).take 3).map V.str:=by
  rw[show(some (18:Int))=some ((18:Nat):Int)from rfl,show(some (21:Int))=some ((21:Nat):Int)from rfl,oU _ _ _ (by omega) (by omega),M0,Pq]
 have e5:gq (g.map V.str) (some 21) (some 24)=((g.drop 21).take 3).map V.str:=by
  rw[show(some (21:Int))=some ((21:Nat):Int)from rfl,show(some (24:Int))=some ((24:Nat):Int)from rfl,oU _ _ _ (by omega) (by omega),M0,Pq]
 fail "R";intro l2 b4;rw[e1];have s2:=ae b4 (.lst ((g.take 3).map V.str));have h2:upd H1 l2 (.lst ((g.take 3).map V.str)) l2=some (.lst ((g.take 3).map V.str)):=af;generalize upd H1 l2 (.lst ((g.take 3).map V.str))=H2 at s2 h2⊢;have bx:=s2 _ _ b0;fail "R";intro l3 b3;rw[e2];have s3:=ae b3 (.lst (((g.drop 3).take 9).map V.str));have h3:upd H2 l3 (.lst (((g.drop 3).take 9).map V.str)) l3=some (.lst (((g.drop 3).take 9).map V.str)):=af;have b6:=s3 _ _ h2;generalize upd H2 l3 (.lst (((g.drop 3).take 9).map V.str))=H3 at s3 h3 b6⊢;have x3:Ext X H H3:=(x1.same s2).same s3;have ci:=x3.2;have ce:(g.take 3).length=3:=by rw[Lb];omega
 have cd:((g.drop 3).take 9).length=9:=by rw[Lb,Nk];omega
 fail "R";intro v4 H4 kl x4 br bt r4;have bw:=x4.1 _ _ as (s3 _ _ bx);have C:=x3.trans x4;fail "R";intro d hd;have T:=ae hd (.dK []);have h5:upd H4 d (.dK []) d=some (.dK []):=af;generalize upd H4 d (.dK [])=H5 at T h5⊢;have bv:=T _ _ bw;have r5:=r4.same T;obtain⟨kd,cf,rfl,ch,cb⟩:=r4.aY;fail "R";intro m aw;have Y:=ae aw (.lst []);have h6:upd H5 m (.lst []) m=some (.lst []):=af;generalize upd H5 m (.lst [])=H6 at Y h6⊢;have bu:=Y _ _ bv;fail "R";intro p au;rw[e3];have S:=ae au (.lst (((g.drop 12).take 6).map V.str));have h7:upd H6 p (.lst (((g.drop 12).take 6).map V.str)) p=some (.lst (((g.drop 12).take 6).map V.str)):=af;generalize upd H6 p (.lst (((g.drop 12).take 6).map V.str))=H7 at S h7⊢;fail "R";intro l U;have Z:=ae U (.lst []);have h8:upd H7 l (.lst []) l=some (.lst []):=af;generalize upd H7 l (.lst [])=H8 at Z h8⊢;fail "R";intro q N;have s9:=ae N (.dK []);have h9:upd H8 q (.dK []) q=some (.dK []):=af;have ax:=s9 _ _ (Z _ _ (S _ _ (Y _ _ h5)));have y:=s9 _ _ (Z _ _ (S _ _ h6));have ai:=s9 _ _ (Z _ _ h7);have u:=s9 _ _ h8;have W:=s9 _ _ (Z _ _ (S _ _ bu));have ap:aF H4 _:=(((T.trans Y).trans S).trans Z).trans s9;have r9:=r4.same ap;have be:d≠q:=fun z=>by rw[←z]at N;rw[Z _ _ (S _ _ (Y _ _ h5))]at N;cases N
 generalize upd H8 q (.dK [])=H9 at s9 h9 ax y ai u W ap r9⊢;have a4:=C.same ap;have b5:=a4.2;have nl:∀{c:Addr}{us:List V},H9 c=some (.lst us)->c≠d:=fun e=>cD e ax (fun z=>nomatch z)
 have M:d≠X:=bX C.2 hd;have free:∀{c:Addr},H4 c=none->H c=none:=fun e=>Ext.free C e;have I:m≠X:=bX ((C.same T).2) aw;have ad:p≠X:=bX ((C.same (T.trans Y)).2) au;have G:l≠X:=bX ((C.same ((T.trans Y).trans S)).2) U;have ah:q≠X:=bX ((C.same (((T.trans Y).trans S).trans Z)).2) N;have a8:p≠l:=aq h7 U;have a9:m≠l:=aq (S _ _ h6) U;fail "R"
 ·exact(show _=(eW kd m p l q mo).map (fun kv=>(kV kv.1,kv.2))from rfl)
 refine⟨by show 6<=15;decide,?_⟩;rw[Gx];have a2:bH [d] X H9 (upd H9 d (.dK (eW kd m p l q mo))):=(bH.refl b5).sL (.head _) M ax;have bm:upd H9 d (.dK (eW kd m p l q mo)) d=some (.dK (eW kd m p l q mo)):=af;generalize upd H9 d (.dK (eW kd m p l q mo))=H10 at a2 bm⊢;have ca:=a2.ff;fail "R";intro t bp t0 t1 a3;have b7:=a2.ext a3;have bl:=a3.1 _ _ M bm;have pp:=kY.k (k:=ky "turn") (v:=.int t) bl (bj (by show 6<=1000;decide));rw[K2]at pp;have R:=b7.sL (o:=.dK (eW kd m p l q mo++[(ky "turn",.int t)])) (.head _) M bl;have bk:upd bp d (.dK (eW kd m p l q mo++[(ky "turn",.int t)])) d=some (.dK (eW kd m p l q mo++[(ky "turn",.int t)])):=af;generalize upd bp d (.dK (eW kd m p l q mo++[(ky "turn",.int t)]))=H12 at pp R bk;have b9:=R.fF (nl W) as W;fail "R";intro r ac;rw[e4];have ar:=ae ac (.lst (((g.drop 18).take 3).map V.str));have a0:upd H12 r (.lst (((g.drop 18).take 3).map V.str)) r=some (.lst (((g.drop 18).take 3).map V.str)):=af;have L:=ar _ _ bk;have bo:=R.same ar;generalize upd H12 r (.lst (((g.drop 18).take 3).map V.str))=H13 at ar a0 L bo⊢;have pq:=kY.k (k:=ky "called") (v:=.ref r) L (bj (by show 7<=1000;decide));rw[K3]at pq;have O:=bo.sL (o:=.dK (eW kd m p l q mo++[(ky "turn",.int t),(ky "called",.ref r)])) (.head _) M L;have bi:upd H13 d (.dK (eW kd m p l q mo++[(ky "turn",.int t),(ky "called",.ref r)])) d=some (.dK (eW kd m p l q mo++[(ky "turn",.int t),(ky "called",.ref r)])):=af;have ag:r≠d:=cD a0 L (fun z=>nomatch z)
 have an:upd H13 d (.dK (eW kd m p l q mo++[(ky "turn",.int t),(ky "called",.ref r)])) r=some (.lst (((g.drop 18).take 3).map V.str)):=by rw[av ag];exact a0
 generalize upd H13 d (.dK (eW kd m p l q mo++[(ky "turn",.int t),(ky "called",.ref r)]))=H14 at pq O bi an;have b8:=O.fF (nl W) as W;fail "R";intro B ab;rw[e5];have aa:=ae ab (.lst (((g.drop 21).take 3).map V.str));have ay:upd H14 B (.lst (((g.drop 21).take 3).map V.str)) B=some (.lst (((g.drop 21).take 3).map V.str)):=af;have J:=aa _ _ bi;have am:=aa _ _ an;have bn:=O.same aa;generalize upd H14 B (.lst (((g.drop 21).take 3).map V.str))=H15 at aa ay J am bn⊢;have pr:=kY.k (k:=ky "params") (v:=.ref B) J (bj (by show 8<=1000;decide));rw[K4]at pr;have D:=bn.sL (o:=.dK (iJ ⟨kd,m,p,l,q,r,B,mo,t,d,d,[],13,24⟩)) (.head _) M J;have bh:upd H15 d (.dK (iJ ⟨kd,m,p,l,q,r,B,mo,t,d,d,[],13,24⟩)) d=some (.dK (iJ ⟨kd,m,p,l,q,r,B,mo,t,d,d,[],13,24⟩)):=af;have al:upd H15 d (.dK (iJ ⟨kd,m,p,l,q,r,B,mo,t,d,d,[],13,24⟩)) r=some (.lst (((g.drop 18).take 3).map V.str)):=by rw[av ag];exact am
 have aj:upd H15 d (.dK (iJ ⟨kd,m,p,l,q,r,B,mo,t,d,d,[],13,24⟩)) B=some (.lst (((g.drop 21).take 3).map V.str)):=by rw[av (cD ay J (fun z=>nomatch z))];exact ay
 replace pr:kY H15 d (kV (ky "params")) (.ref B) (upd H15 d (.dK (iJ ⟨kd,m,p,l,q,r,B,mo,t,d,d,[],13,24⟩))):=pr
 generalize upd H15 d (.dK (iJ ⟨kd,m,p,l,q,r,B,mo,t,d,d,[],13,24⟩))=H16 at pr D bh al aj;fail "R";have a1:∀{c:Addr}{us:List V},c≠X->H9 c=some (.lst us)->H16 c=some (.lst us):=fun n e=>D.fF (nl e) n e;have bc:r≠X:=bX R.ff ac;have a7:B≠X:=bX O.ff ab;have bb:r≠l:=(aq (R.fF (nl u) G u) ac).symm;have a6:B≠l:=(aq (O.fF (nl u) G u) ab).symm;have ba:r≠m:=(aq (R.fF (nl y) I y) ac).symm;have a5:B≠m:=(aq (O.fF (nl y) I y) ab).symm;refine k d H16 ⟨kd,m,p,l,q,r,B,mo,t,d,d,[],13,24⟩ g kl ?_ ⟨rfl,rfl,rfl,rfl⟩ ⟨bh,r9.kt D.kt,br,bt,lx,⟨un,lo⟩,a1 ad ai,al,aj,⟨[],a1 I y,rfl⟩,⟨Ld _,fun d h=>nomatch h⟩,a1 G u,⟨[],D.fF be.symm ah h9,lj _,fun _ h=>nomatch h⟩,b2,Int.le_trans b1 (by decide),fun _ _ h=>by simp at h,?_,D.ff,⟨M,ad,bc,a7,I,G,ah⟩,⟨a8,bb,a6,a9⟩,⟨(aq h6 au).symm,ba,a5⟩,be,by show 13<=20/\24<=40/\13<=13;decide⟩ (free (((T.trans Y).trans S).free U)) (free ((((T.trans Y).trans S).trans Z).free N)) (free (T.free aw)) (free hd)
 ·refine⟨fun b o n e=>?_,D.ff⟩;have e9:=a4.1 b o n e;exact D.fF (fun z=>by rw[z]at e;rw[free hd]at e;cases e) n e9
 ·show t=0\/t=1;omega
end
theorem A0{S:eM}(h:S.ex=[])(lo:Addr):putK (iJ S) (ky "opens") (.ref lo)=iJ {S with ex:=[(ky "opens",.ref lo)],x2:=lo}:=by
 obtain⟨_,_,_,_,_,_,_,_,_,_,_,_,_,_⟩:=S;dsimp only at h;subst h
 kernel_rfl
section
variable {K:bA}{H H1 H2 H':Hp}{f d p:Addr}{S:eM}{xs:List Str}{kl:Kl}{dl:List (Str×List Kk×Kk)}{gs gs' g0:List Int}{dvs:List V}
theorem bx.opens(s:bx K H f d S xs kl [] [])(fr:bH [d] f H H'){lo:Addr}{e:List (Key×V)}(h:H' d=some (.dK (iJ {S with ex:=e,x2:=lo}))):bx K H' f d {S with ex:=e,x2:=lo} xs kl [] []:=by
 have g:∀{b ws},H b=some (.lst ws)->b≠f->H' b=some (.lst ws):=fun h n=>fr.fF (cD h s.sd (fun z=>nomatch z)) n h
 obtain⟨j,q,l⟩:=s.la;obtain⟨B,y,w,v,u,t,r⟩:=s.nf;obtain⟨m,o,A⟩:=s.ld;exact⟨h,s.kd.kt fr.kt,s.ok,s.k3,s.lx,s.un,g s.ln y,g s.lc w,g s.lp v,⟨m,g o u,A⟩,s.dl,g s.lg t,⟨j,fr.fF s.na.symm r q,l⟩,s.mm,s.mo,s.gn,s.tn,fr.ff,s.nf,s.ng,s.nd,s.na,s.bb⟩
theorem bH.new{M:List Addr}(s:aF H H1)(fr:bH M f H1 H2)(g:∀m∈M,H m=none)(e:H f=none):aF H H2:=fun b o h=>fr.oth b o (fun z=>by rw[g b z]at h;cases h) (fun z=>by rw[z,e]at h;cases h) (s b o h)
theorem iq.less{ys e:List Addr}(a:iq K H f S kl ys dvs p)(h:∀z∈e,z∈ys):iq K H f S kl e dvs p:=by
 obtain⟨g,y,w,k,m,i,C,j,l,ok,kd,E,o,B,A,D,t,r,q,v,u⟩:=a;exact⟨g,y,w,k,m,i,C,j,l,ok,kd,E,o,B,A,D,t,r,q,fun z=>v (h _ z),fun z=>u (h _ z)⟩
theorem FS.mk'{ys:List Addr}(o:bx K H f d S xs kl dl gs)(as:lG K H f S kl ys gs)(r:S.lg∈ys)(sub:∀n∈g0,n∈gs)(kb:S.kb=13)(pb:S.pb=24)(ex:∃v,S.ex=[(ky "opens",v)]):∃dvs,FS K H f d S xs kl dl dvs g0 gs:=by
 obtain⟨dvs,g,C,B,A,y⟩:=as;refine⟨dvs,o,C,sub,fun n t=>?_,kb,pb,ex⟩;have u:(Sum.inl n:Key)∈g.map (·.1):=by rw[A];exact LC (sub n t)
 obtain⟨l,w,e⟩:=L8.mp u
 obtain⟨j,m⟩:∃j,g.find? (fun l=>decide (l.1=Sum.inl n))=some j:=by
  cases hc:g.find? (fun l=>decide (l.1=Sum.inl n))with
  |some z=>exact⟨z,rfl⟩
  |none=>exact absurd (decide_eq_true e) (List.find?_eq_none.mp hc l w)
 obtain⟨p,D,E⟩:=y j (QC m);exact⟨g,p,B,by unfold dU;rw[m];exact congrArg some D,E.less (fun z q=>by rw[nt.mp q];exact r)⟩
end
structure K5(K:bA) (H:Hp) (f d:Addr) (vp:V) (S:eM) (xs:List Str) (kl:Kl) (dl:List (Str×List Kk×Kk)) (dvs:List V) (ds:List (Str×List (Str×Kk)×Tm)) (os:List (Int×Kk)) (gs:List Int):Prop where
 fs:FS K H f d S xs kl dl dvs (bE ds) gs
 rp:Rp K H (jz (fR kl) ds) vp
 d1:1<=ds.length
 d3:ds.length<=3
 dok:∀dd∈ds,GU dd
 op:vh K H S.x2 os
 oso:qA (kn kl) os
 kg:bO ds=os.map (·.1)
 nd:(bE ds).Nodup
 ex:S.ex=[(ky "opens",.ref S.x2)]
 nf:S.x2≠f
 ng:S.x2≠S.lg
noncomputable def zL(K:bA):Sp:=fun r H Q _=>∃(a:Addr) (l:List Int) (n:Int),r=[.ref a,.int n]/\bz K H a (l.map V.int)/\l.length<=63/\0<=n/\n<=3 /\
 ∀(p d f:Addr) (j:V) (e:Hp) (S:eM) (q:List Str) (u:Kl) (w:List (Str×List Kk×Kk)) (g:List V) (v:List (Str×List (Str×Kk)×Tm)) (t:List (Int×Kk)) (o:List Int),aF H e->e p=some (.tup [j,.ref d])->K5 K e f d j S q u w g v t o->o.length<=5->(∀m∈[d,S.lg,S.la],H m=none)->H f=none->Q (.ref p) e
section
variable {P:FG}{w:Lk}{K:bA}{mg:Str->Option j3}{base:Heap}{gF gT gS gP:Addr}{ffd tfd sfd pfd:zo}
theorem dO:Nm ["_law_script","_law_at","_law_feed_here","_law_scene_here","_law_program","_law_wants","_law_goal"] (aj kI):=by decide +kernel
theorem jH:Lm ["_law_script","_law_at","_law_feed_here","_law_scene_here","_law_program","_law_wants","_law_goal"] (aj kI):=by decide +kernel
theorem iu:aI ["_law_script","_law_at","_law_feed_here","_law_scene_here","_law_program","_law_wants","_law_goal"] ["_law_script","_law_at"] (aj kI):=⟨rfl,rfl,rfl,by decide +kernel,rfl,by decide +kernel,by decide +kernel⟩
theorem C1{f:Addr}{fd:zo}{j js:Nat}(h1:1<=j)(h2:js<=j)(F:gX K "_law_drawn" "_law_drawn" kI f fd)(FD:bY P w K mg base "_law_feed" 1 ["_law_script","_law_k"] (xY K) gF ffd)(TK:bY P w K mg base "_law_take" 1 ["_law_feed_here","_law_many"] eJ gT tfd)(SN:bY P w K mg base "_law_scene" js ["_law_feed_here","_law_most_gaps"] (zK K) gS sfd)(PO:bY P w K mg base "_law_program_of" j ["_law_feed_here","_law_scene_here","_law_room","_law_hides"] (qo K) gP pfd):bK P w K mg base eL (j+1) f fd ["_law_script","_law_at"] (zL K):=by
 refine F.ok iu (fun vs H Q E h=>?_) (fun bv A ag s H vs Q E hr h=>?_)
 ·obtain⟨_,_,_,rfl,_⟩:=h;rfl
 obtain⟨a,ns,n,rfl,hS,bm,n0,n3,k⟩:=h;refine⟨_,(Z6 (Z2 iu.nd jH 2 (Z0 FD (Z1 (va dO 0) (Zb (va dO 1))))) (Z6 (Z2 iu.nd jH 3 (Z0 SN (Z1 (va dO 2) (Z1 (Zm cR ao (Z0 TK (cT (va dO 2) (Zb ao)))) ak)))) (Z6 (jN (jo hr) (va dO 3) az (bg ak) (by rfl)) (Z6 (Zo (Z0 PO (Z1 (va dO 2) (Z1 (va dO 3) (Z1 (Zm cR ao (Z0 TK (cT (va dO 2) (Zb ao)))) (Zb ao))))) (@fO _ _ _ _ _ (3) K rfl rfl (Zh (ga iu.nd jH 4) (Zh (ga iu.nd jH 5) (aG (ga iu.nd jH 6) aZ))) (by rfl) (by rfl))) (Zg (Zn (Ze (Z1 (va dO 4) (Zb (va dO 3)))))))))),?_⟩
 try dsimp only[bM]
 try dsimp only[bM]
 fail "R";intro M H1 Y u bq;fail "R";intro r2 H2 bf be x2;have bp:=x2.2;fail "R";intro d H3 S xs kl x3 ⟨bt,N,ay,ax⟩ sc3 hlg hla hld hdn;have bo:=sc3.ff;fail "R";intro t B;have X:=ae B (.lst []);have h4:upd H3 t (.lst []) t=some (.lst []):=af;have y:=sc3.nn B;have p:=(sc3.no B).1;generalize upd H3 t (.lst [])=H4 at X h4⊢;have v:=sc3.same X;have am:=v.nf.1;have sl:(iJ S).length=9:=by unfold iJ;rw[N];rfl
 obtain⟨O,bh,f5,ar⟩:∃O,kY H4 d (.str "opens") (.ref t) O/\bH [d] M H4 O/\O d=some (.dK (iJ {S with ex:=[(ky "opens",.ref t)],x2:=t})):=by
  refine⟨upd H4 d (.dK (iJ {S with ex:=[(ky "opens",.ref t)],x2:=t})),?_,(bH.refl v.ff).sL (.head _) am v.sd,af⟩;rw[←A0 N t];exact kY.k (k:=ky "opens") v.sd (by rw[sl];exact bj (by omega))
 have C:=v.opens f5 ar;have as:=f5.fF y.1 p h4;have bn:=C.ff;obtain⟨e,T⟩:∃e:eM,e={S with ex:=[(ky "opens",.ref t)],x2:=t}:=⟨_,rfl⟩;rw[←T]at C;have e5:e.x2=t/\e.ex=[(ky "opens",.ref t)]/\e.lg=S.lg/\e.la=S.la/\e.ld=S.ld/\e.kb=13/\e.pb=24/\e.mo=S.mo:=by rw[T];exact⟨rfl,rfl,rfl,rfl,rfl,ay,ax,rfl⟩
 obtain⟨rfl,e6,e7,e8,e9,a1,a0,bu⟩:=e5;have al:NN e d e.x2:=by rw[T];rw[T]at y;exact y
 have V:Ext M H1 H4:=((x2.trans x3).same X)
 have l:∀q,H2 q=none->H q=none:=fun q hq=>by
  cases hc:H q with
  |none=>rfl
  |some o =>
   have au:=Y _ _ hc
   by_cases c:q=M
   ·subst c;rw[u]at hc;cases hc
   ·have:=x2.1 _ _ c au;rw[hq]at this;cases this
 have ac:aF H H4:=fun b o I=>V.1 b o (fun z=>by rw[z,u]at I;cases I) (Y b o I);have bi:20<=e.pb:=by omega
 fail "R";intro r6 H6 bc bb U;have eW:=C.ext U;have bs:=U.1 _ _ p as;have ba:0<=4+r6:=by omega
 have a9:4+r6<=1000:=by omega
 fail "R";intro p7 a7 R wv gv H7 ds os dl gs f7 br g bl ad a5 a4 a3 aj ah ap J a8;fail "R";intro p8 aq;have D:=ae aq (.tup [R,.ref d]);have W:=g.same D
 have a6:lG K (upd H7 p8 (.tup [R,.ref d])) M {e with x1:=a7} kl [a7,e.x2,e.ld,e.lg] gs:=by
  obtain⟨kv,hk,_⟩:=g.la;exact a8.go (g.ni.same D) ((D _ _ hk).trans hk.symm) ⟨g.ng.2.2.2,g.nf.2.2.2.2.1⟩
 obtain⟨a2,aw⟩:=FS.mk' (g0:=bE ds) W a6 (.tail _ (.tail _ (.tail _ (.head _)))) (fun n hn=>J.subset hn) a1 a0 ⟨_,e6⟩;have ab:aF H O:=bH.new ac f5 (fun m G=>by rw[nt.mp G];exact l _ hdn) u;have aa:aF H H6:=fun b o I=>U.1 b o (fun z=>by rw[z,u]at I;cases I) (ab b o I)
 have L:H e.x2=none:=by
  cases hc:H e.x2 with
  |none=>rfl
  |some o =>
   have:=(x2.trans x3).1 _ _ p (Y _ _ hc);rw[B]at this;cases this
 have Z:aF H H7:=bH.new aa f7 (fun m G=>by
  simp only[ri,Lp,or_false]at G;rcases G with rfl|rfl|rfl|rfl
  ·exact L
  ·rw[e7];exact l _ hlg
  ·rw[e8];exact l _ hla
  ·rw[e9];exact l _ hld) u
 have ai:vh K (upd H7 p8 (.tup [R,.ref d])) e.x2 os:=by
  obtain⟨ov,h,r⟩:=aj;exact⟨ov,D _ _ h,r.same D⟩
 have an:=g.mm;have bk:(gs.length:Int)<=e.mo:=an;refine k p8 d M R _ {e with x1:=a7} xs kl dl a2 ds os gs (Z.trans D) af ⟨aw,ad.same D,a5,a4,a3,ai,ah,ap,g.Jx.sublist J,e6,p,al.2.2.2.2.2.1⟩ (by omega) (fun m G=>?_) u;simp only[ri,Lp,or_false]at G;rcases G with rfl|rfl|rfl
 ·exact l _ hdn
 ·show H e.lg=none;rw[e7];exact l _ hlg
 ·show H e.la=none;rw[e8];exact l _ hla
end
end G33
namespace L2
open PySem PySem.Spec PyProof.Rows
section
variable {X:Cx}
end
end L2
namespace G33
open PySem L2
theorem A1{n:Int}(h:n.natAbs<2 ^ 20):n.natAbs.log2<20:=by
 by_cases z:n.natAbs=0
 ·rw[z];decide
 ·rw[Nat.log2_lt z];exact h
mutual
noncomputable def Gy:T->Prop
 |.s x=>Lo x
 |.i n=>n.natAbs<2 ^ 20
 |.n=>True
 |.t xs=>rX xs
noncomputable def rX:List T->Prop
 | []=>True
 |x::r=>Gy x/\rX r
end
mutual
noncomputable def tW:T->Nat
 |.s x=>x.length
 |.i _=>20
 |.n=>0
 |.t xs=>nV xs
noncomputable def nV:List T->Nat
 | []=>0
 |x::r=>tW x+1+nV r
end
structure Sh(d:RE) (w p:Nat):Prop where
 sh:d.showable=true
 nd:d.hasDict=false
 dp:d.depth<=p
 lf:d.leavesShort 13=true
 wt:d.weight<=w
structure K6(d:List RE) (w p:Nat):Prop where
 sh:Qy d=true
 nd:QS d=false
 dp:RO d<=p
 lf:Pb 13 d=true
 wt:Rv d<=w
theorem yF:∀{xs:List T},(∀x∈xs,Gy x->Sh x.py (tW x) x.dep)->rX xs->K6 (T.EH xs) (nV xs) (T.dB xs)
 | [],_,_=>by rw[T.EH];exact⟨rfl,rfl,Ld _,rfl,lj _⟩
 |x::r,h,ok=>by
  have a:=h x (.head _) ok.1;have b:=yF (xs:=r) (fun y d=>h y (.tail _ d)) ok.2;rw[T.EH,nV,T.dB];refine⟨?_,?_,?_,?_,?_⟩
  ·rw[Qy,a.sh,b.sh];rfl
  ·rw[QS,a.nd,b.nd];rfl
  ·rw[RO];have:=a.dp;have:=b.dp;omega
  ·rw[Pb,a.lf,b.lf];rfl
  ·rw[Rv];have:=a.wt;have:=b.wt;omega
theorem C2(t:T):Gy t->Sh t.py (tW t) t.dep:=by
 refine T.induct (P:=fun t=>Gy t->Sh t.py (tW t) t.dep) ?_ ?_ ?_ ?_ t
 ·intro x ok;rw[T.py,tW];refine⟨rfl,rfl,lj _,?_,lj _⟩;show(x.cps.toList.all fun c=>decide (c<16 ^ 8))=true;rw[MG];intro c j;have:=ok c j;have e:(16:Nat) ^ 8=4294967296:=by decide
  exact decide_eq_true (by omega)
 ·intro n ok;have l:=A1 ok;have e:(10:Nat) ^ 12=1000000000000:=by decide
  have o:(2:Nat) ^ 20=1048576:=by decide
  have d:n.natAbs<2 ^ 20:=ok;rw[T.py,tW];refine⟨decide_eq_true (by omega),rfl,lj _,decide_eq_true (RE.shown_int_le (by omega)),?_⟩;simp only[PyData.weight]
  split<;>omega
 ·intro _;rw[T.py,tW];exact⟨rfl,rfl,lj _,rfl,lj _⟩
 ·intro m g ok;have b:=yF g ok;rw[T.py,tW,T.dep];exact⟨b.sh,b.nd,by rw[PyData.depth];have:=b.dp;omega,b.lf,b.wt⟩
theorem Et{t:T}(ok:Gy t)(hd:t.dep<=100)(d:tW t<=2 ^ 20):qf t.py:=by
 have a:=C2 t ok;exact⟨a.sh,a.nd,I0 a.dp hd,SS (B:=13) (by decide) (by decide) a.lf (I0 a.wt d)⟩
structure Tb(t:T) (w d:Nat):Prop where
 ok:Gy t
 w:tW t<=w
 d:t.dep<=d
theorem Il(x:Str)(h:(x.cps.toList.all (· < 1000))=true):Lo x:=fun c d=>by
 have:=MG.mp h c d
 simpa using this
structure lT(ts:List T) (w d:Nat):Prop where
 ok:rX ts
 w:nV ts<=w
 d:T.dB ts<=d
theorem C3{w d:Nat}:∀{ts:List T},(∀t∈ts,Tb t w d)->lT ts (ts.length*(w+1)) d
 | [],_=>⟨trivial,by simp[nV],by simp[T.dB]⟩
 |t::r,h=>by
  have a:=h t (.head _);have b:=C3 (ts:=r) (fun x e=>h x (.tail _ e));refine⟨⟨a.ok,b.ok⟩,?_,?_⟩
  ·rw[nV,Lu,RB];have:=a.w;have:=b.w;omega
  ·rw[T.dB];have:=a.d;have:=b.d;omega
theorem vm:∀(a b:List T),nV (a++b)=nV a+nV b
 | [],b=>by simp[nV]
 |x::r,b=>by simp only[MU,nV,vm r b];omega
theorem Im(arms:List (Str×List Str))(a:Tm)(ks:List Tm):enc (.mk (.mat arms) (a::ks))=.t [.s "match",enc a,.t (LK gw arms (ks.map enc))]:=by rw[bw];rfl
theorem Gz(x y:Str)(a b c:Tm):enc (.mk (.fold x y) [a,b,c])=.t [.s "fold",enc a,.s x,.s y,enc b,enc c]:=by rw[bw];rfl
structure Io(tm:Tm):Prop where
 ok:Gy (enc tm)
 w:tW (enc tm)+100<=400*tm.size
 d:(enc tm).dep<=3*tm.depth+3
structure C4(ks:List Tm):Prop where
 ok:rX (ks.map enc)
 w:nV (ks.map enc)<=400*Tm.sizes ks
 d:ks=[]\/T.dB (ks.map enc)<=3*Tm.dI ks+3
theorem C5:∀{ks:List Tm},(∀k∈ks,Io k)->C4 ks
 | [],_=>⟨trivial,by simp[nV],.inl rfl⟩
 |k::r,h=>by
  have a:=h k (.head _);have b:=C5 (ks:=r) (fun x e=>h x (.tail _ e));have:=a.w;have:=b.w;have:=a.d;have b4:=b.d;refine⟨⟨a.ok,b.ok⟩,?_,.inr ?_⟩
  ·rw[Lh,nV,Tm.sizes];omega
  ·rw[Lh,T.dB,Tm.dI];rcases b4 with rfl|b4
   ·simp only[Nc,T.dB,Tm.dI];omega
   ·omega
theorem C4.at_{ks:List Tm}(a:C4 ks)(h:Hd):T.dB (ks.map enc)<=3*(Tm.mk h ks).depth:=by
 cases ks with
 |nil=>simp[T.dB]
 |cons k r =>
  rcases a.d with e|e
  ·cases e
  ·rw[Tm.depth];omega
theorem C6:∀{xs:List Str},(∀x∈xs,Wd x)->rX (xs.map T.s)/\nV (xs.map T.s)<=21*xs.length/\T.dB (xs.map T.s)<=0
 | [],_=>⟨trivial,by simp[nV],by simp[T.dB]⟩
 |x::r,h=>by
  obtain⟨e,j,g⟩:=C6 (xs:=r) (fun y d=>h y (.tail _ d));have a:=h x (.head _);have:=a.1;refine⟨⟨a.2,e⟩,?_,?_⟩
  ·rw[Lh,nV,tW,Lu];omega
  ·rw[Lh];simp only[T.dB,T.dep];omega
structure JF(ts:List T) (n m:Nat):Prop where
 ok:rX ts
 w:nV ts<=400*n
 d:T.dB ts<=3*m+4
theorem zM:∀{arms:List (Str×List Str)}{ks:List Tm},(∀a∈arms,Wd a.1/\a.2.length<=2/\∀x∈a.2,Wd x)->(∀k∈ks,Io k)->JF (LK gw arms (ks.map enc)) (Tm.sizes ks) (Tm.dI ks)
 | [],_,_,_=>by rw[List.zipWith_nil_left];exact⟨trivial,by simp[nV],by simp[T.dB]⟩
 |_::_,[],_,_=>by rw[Nc,List.zipWith_nil_right];exact⟨trivial,by simp[nV],by simp[T.dB]⟩
 |a::r,k::q,h,g=>by
  have b:=zM (arms:=r) (ks:=q) (fun x e=>h x (.tail _ e)) (fun x e=>g x (.tail _ e));have c:=g k (.head _);obtain⟨j,t,m⟩:=h a (.head _);obtain⟨l,p,o⟩:=C6 m;have:=j.1;have:=c.w;have:=b.w;have:=c.d;have:=b.d;rw[Lh,NT];refine⟨⟨⟨j.2,l,c.ok,trivial⟩,b.ok⟩,?_,?_⟩
  ·simp only[nV,gw,tW,Tm.sizes];omega
  ·simp only[T.dB,gw,T.dep,Tm.dI];omega
theorem vn:∀{a b:List T},rX a->rX b->rX (a++b)
 | [],_,_,h=>h
 |_::_,_,⟨x,y⟩,h=>⟨x,vn y h⟩
theorem rY:∀(a b:List T),T.dB (a++b)=max (T.dB a) (T.dB b)
 | [],b=>by simp[T.dB]
 |x::r,b=>by simp only[MU,T.dB,rY r b];omega
structure C7(pre:List T):Prop where
 ok:rX pre
 w:nV pre<=250
 d:T.dB pre<=0
theorem j9{h:Hd}{ks:List Tm}{pre:List T}(e:enc (.mk h ks)=.t (pre++ks.map enc))(p:C7 pre)(g:C4 ks):Io (.mk h ks):=by
 have:=p.w;have:=p.d;have:=g.w;have:=g.at_ h;refine⟨?_,?_,?_⟩<;>rw[e]
 ·exact vn p.ok g.ok
 ·simp only[tW,vm,Tm.size];omega
 ·simp only[T.dep,rY];omega
theorem C8{h:Hd}{ks:List Tm}{pre:List T}(e:enc (.mk h ks)=.t (pre++[.t (ks.map enc)]))(p:C7 pre)(g:C4 ks):Io (.mk h ks):=by
 have:=p.w;have:=p.d;have:=g.w;have:=g.at_ h;refine⟨?_,?_,?_⟩<;>rw[e]
 ·exact vn p.ok ⟨g.ok,trivial⟩
 ·simp only[tW,nV,vm,Tm.size];omega
 ·simp only[T.dep,T.dB,rY];omega
noncomputable def kwOk(x:Str):Bool:=decide (x.length<=20)&&x.cps.toList.all (· < 1000)
theorem gc{x:Str}(h:kwOk x=true):Wd x:=by
 unfold kwOk at h;rw[Mj]at h;exact⟨of_decide_eq_true h.1,Il x h.2⟩
theorem A2{x:Str}(h:Wd x):C7 [.s x]:=⟨⟨h.2,trivial⟩,by simp only[nV,tW];have:=h.1;omega,by simp[T.dB,T.dep]⟩
theorem C9{x y:Str}(h:Wd x)(g:Wd y):C7 [.s x,.s y]:=⟨⟨h.2,g.2,trivial⟩,by simp only[nV,tW];have:=h.1;have:=g.1;omega,by simp[T.dB,T.dep]⟩
theorem ET{x:Str}{n:Int}(h:Wd x)(g:n.natAbs<2 ^ 20):C7 [.s x,.i n]:=⟨⟨h.2,g,trivial⟩,by simp only[nV,tW];have:=h.1;omega,by simp[T.dB,T.dep]⟩
theorem nil_of{ks:List Tm}(h:(ks.length == 0)=true):ks=[]:=by simpa using h
theorem vo{n b:Int}(h:0<=n/\n<b)(d:b<=1000000):n.natAbs<2 ^ 20:=by
 have e:(2:Nat) ^ 20=1048576:=by decide
 omega
theorem EU:∀{g:Tm},Tok g->Io g:=by
 intro g t
 induction t with
 |@mk h ks ar _ _ hl kk =>
 have e:=C5 kk
 cases h with
 |num n=>obtain rfl:=nil_of ar;exact j9 (pre:=[.s "num",.i n]) (by rw[bw];rfl) (ET (gc (by decide +kernel)) (vo hl (by decide))) e
 |name x=>obtain rfl:=nil_of ar;exact j9 (pre:=[.s "name",.s x]) (by rw[bw];rfl) (C9 (gc (by decide +kernel)) hl) e
 |gap n=>obtain rfl:=nil_of ar;exact j9 (pre:=[.s "gap",.i n]) (by rw[bw];rfl) (ET (gc (by decide +kernel)) (vo hl (by decide))) e
 |op s=>exact j9 (pre:=[.s "op",.s s]) (by rw[bw];rfl) (C9 (gc (by decide +kernel)) hl) e
 |row=>exact C8 (pre:=[.s "row"]) (by rw[bw];rfl) (A2 (gc (by decide +kernel))) e
 |more=>exact j9 (pre:=[.s "more"]) (by rw[bw];rfl) (A2 (gc (by decide +kernel))) e
 |first=>exact j9 (pre:=[.s "first"]) (by rw[bw];rfl) (A2 (gc (by decide +kernel))) e
 |others=>exact j9 (pre:=[.s "others"]) (by rw[bw];rfl) (A2 (gc (by decide +kernel))) e
 |long=>exact j9 (pre:=[.s "long"]) (by rw[bw];rfl) (A2 (gc (by decide +kernel))) e
 |tag t=>exact C8 (pre:=[.s "tag",.s t]) (by rw[bw];rfl) (C9 (gc (by decide +kernel)) hl) e
 |call t=>exact C8 (pre:=[.s "call",.s t]) (by rw[bw];rfl) (C9 (gc (by decide +kernel)) hl) e
 |ife=>exact j9 (pre:=[.s "if"]) (by rw[bw];rfl) (A2 (gc (by decide +kernel))) e
 |lt x=>exact j9 (pre:=[.s "let",.s x]) (by rw[bw];rfl) (C9 (gc (by decide +kernel)) hl) e
 |mat arms =>
  cases ks with
  |nil=>simp[cM]at ar
  |cons k q =>
   have a:=zM (arms:=arms) (ks:=q) hl (fun x o=>kk x (.tail _ o));have b:=kk k (.head _);have c:Wd ("match":Str):=gc (by decide +kernel);have:=a.w;have:=a.d;have:=b.w;have:=b.d;have:=c.1;refine⟨?_,?_,?_⟩<;>rw[Im]
   ·exact⟨c.2,b.ok,a.ok,trivial⟩
   ·simp only[tW,nV,Tm.size,Tm.sizes];omega
   ·simp only[T.dep,T.dB,Tm.depth,Tm.dI];omega
 |fold x y =>
  match ks,ar,kk with
  | [k1,k2,k3],_,kk =>
   have m:=kk k1 (.head _);have l:=kk k2 (.tail _ (.head _));have j:=kk k3 (.tail _ (.tail _ (.head _)));have c:Wd ("fold":Str):=gc (by decide +kernel);have:=m.w;have:=m.d;have:=l.w;have:=l.d;have:=j.w;have:=j.d;have:=c.1;have:=hl.1.1;have:=hl.2.1;refine⟨?_,?_,?_⟩<;>rw[Gz]
   ·exact⟨c.2,m.ok,hl.1.2,hl.2.2,l.ok,j.ok,trivial⟩
   ·simp only[tW,nV,Tm.size,Tm.sizes];omega
   ·simp only[T.dep,T.dB,Tm.depth,Tm.dI];omega
end G33
namespace L2
open PySem PySem.Spec PyProof.Rows
noncomputable def yG(t:T)(ts:List T):RE:=.tuple [t.py,.list (T.EH ts)]
@[irreducible] noncomputable def Dc (t:T) (ts:List T):Str:=(yG t ts).shown
section
variable {X:Cx}
theorem qu(W:X.A.guards=some [])(hu:X.A.units+150<OA):iN X (.builtin "repr") (fun xs H Q=>∃(p l:Addr) (v:V) (t:T) (ts:List T) (us:List V),xs=[.ref p]/\bN X.K H p [v,.ref l]/\Rp X.K H t v/\H l=some (.lst us)/\bI X.K H ts us/\qf (yG t ts)/\Q (.str (Dc t ts)) H):=by
 intro E s Z H xs us Q I r h;obtain⟨p,l,v,t,ts,us,rfl,P,L,R,j,S,q⟩:=h;obtain⟨u,rfl,J⟩:=vals1 r
 cases J
 obtain⟨C,y⟩:∃G,Reads s.heap (.ref l) (.list (T.EH ts)) G:=by
  obtain⟨w,g,m,_⟩:=I.list (bz.of (K:=X.K) R);obtain⟨o,e,c,n,d⟩:=m.isList;obtain⟨G,Y⟩:=rA (s:=s) (fun x _=>uE I x) j g;exact⟨_,.list e c d (by simpa using Y)⟩
 obtain⟨w,g,m,_⟩:=I.tuple P;obtain⟨o,e,c,n,d⟩:=m;obtain⟨u1,u2,rfl,N,r2⟩:=vals2 g;obtain⟨D,B⟩:=uE I _ L N
 cases r2
 have M:Reads s.heap (.ref p) (yG t ts) (D++(C++[])):=.tuple e c d (.cons B (.cons y .nil));refine repr_of_reads' M S.sh (fun z=>by rw[S.nd]at z;cases z) W (by have:=S.dp;omega) (fun _ _ e=>e) (fun h' u tk U=>?_) S.sz;have O:Q (.str (yG t ts).shown) H:=by unfold Dc at q;exact q
 exact⟨.str _,H,I.kept U,⟨_,rfl⟩,O⟩
end
end L2
namespace G33
open PySem L2
theorem rZ(d:Int->Option Tm)(h:Hd)(ks:List Tm):(∃n t,h=.gap n/\d n=some t/\Di d h ks=t)\/Di d h ks=.mk h ks:=by
 cases h
 case gap n =>
  cases e:d n with
  |none=>exact .inr (by show(d n).getD (.mk (.gap n) ks)=_;rw[e];rfl)
  |some t=>exact .inl ⟨n,t,rfl,e,by show(d n).getD (.mk (.gap n) ks)=_;rw[e];rfl⟩
 all_goals exact .inr rfl
section
variable {pf:Int->Option Tm}{b:Nat}
theorem Eu(o:∀n t,pf n=some t->Tok t){j:Tm}(h:Tok j):Tok (dY pf j):=by
 induction h with
 |@mk h ks ar l _ g ih =>
  rw[iB];rcases rZ pf h (ks.map (dY pf))with⟨n,t,rfl,e1,e2⟩|e
  ·rw[e2];exact o n t e1
  ·rw[e];exact .mk (by rw[bC];exact ar) (by rw[bC];exact l) (fun k p=>by obtain⟨m,d,rfl⟩:=L8.mp p;exact ih m d) g
theorem ue:∀{ks:List Tm},(∀k∈ks,(dY pf k).size<=b*k.size)->Tm.sizes (ks.map (dY pf))<=b*Tm.sizes ks
 | [],_=>by rw[Nc,Tm.sizes];exact Ld _
 |k::r,h=>by
  have a:=h k (.head _);have c:=ue (ks:=r) (fun x d=>h x (.tail _ d));rw[Lh,Tm.sizes,Tm.sizes,Nat.mul_add];omega
theorem Dd(l:1<=b)(j:∀n t,pf n=some t->t.size<=b)(d:Tm):(dY pf d).size<=b*d.size:=by
 refine Tm.induct (P:=fun d=>(dY pf d).size<=b*d.size) (fun h ks g=>?_) d;rw[iB,Tm.fN];rcases rZ pf h (ks.map (dY pf))with⟨n,t,rfl,e1,e2⟩|e
 ·rw[e2];exact I0 (j n t e1) (Rc _ (by omega))
 ·rw[e,Tm.fN,Nat.mul_add];have:=ue g;omega
theorem se:∀{ks:List Tm},(∀k∈ks,(dY pf k).depth<=k.depth+b)->Tm.dI (ks.map (dY pf))<=Tm.dI ks+b
 | [],_=>by rw[Nc,Tm.dI];exact Ld _
 |k::r,h=>by
  have a:=h k (.head _);have c:=se (ks:=r) (fun x d=>h x (.tail _ d));rw[Lh,Tm.dI,Tm.dI];omega
theorem A3(j:∀n t,pf n=some t->t.depth<=b)(d:Tm):(dY pf d).depth<=d.depth+b:=by
 refine Tm.induct (P:=fun d=>(dY pf d).depth<=d.depth+b) (fun h ks g=>?_) d;rw[iB];rcases rZ pf h (ks.map (dY pf))with⟨n,t,rfl,e1,e2⟩|e
 ·rw[e2];have:=j n t e1;omega
 ·rw[e]
  cases ks with
  |nil=>rw[Nc,Tm.depth];exact Ld _
  |cons k r =>
   have:=se g;rw[Lh]at this⊢;rw[Tm.depth,Tm.depth];omega
end
theorem uf:∀{ks:List Tm},(∀k∈ks,k.depth+1<=k.size)->ks≠[]->Tm.dI ks+1<=Tm.sizes ks
 | [],_,h=>absurd rfl h
 |k::r,h,_=>by
  have a:=h k (.head _);rw[Tm.dI,Tm.sizes]
  cases r with
  |nil=>rw[Tm.dI,Tm.sizes];omega
  |cons k2 r2 =>
   have c:=uf (ks:=k2::r2) (fun x d=>h x (.tail _ d)) (by simp);omega
theorem xx(d:Tm):d.depth+1<=d.size:=by
 refine Tm.induct (P:=fun d=>d.depth+1<=d.size) (fun h ks e=>?_) d;rw[Tm.fN]
 cases ks with
 |nil=>rw[Tm.depth,Tm.sizes];omega
 |cons k r =>
  have:=uf e (by simp);rw[Tm.depth];omega
theorem zN{d:Int->Option Kk}(g:∀n k,d n=some k->KWd k):∀{k:Kk},KWd k->KWd (jB d k)
 |.num,h=>h
 |.kd _,h=>h
 |.op n,h=>by
  unfold jB
  cases e:d n with
  |none=>exact h
  |some k=>exact g n k e
 |.row k,h=>zN g (k:=k) h
theorem xy{d:Int->Option Kk}{b:Nat}(g:∀n k,d n=some k->k.dep<=b):∀k:Kk,(jB d k).dep<=k.dep+b
 |.num=>Ld _
 |.kd _=>Ld _
 |.op n=>by
  unfold jB
  cases e:d n with
  |none=>exact Ld _
  |some k=>have:=g n k e;show k.dep<=_;omega
 |.row k=>by have:=xy g k;show(jB d k).dep+1<=k.dep+1+b;omega
theorem lT.t{ts:List T}{w d:Nat}(h:lT ts w d):Tb (.t ts) w (d+1):=⟨h.ok,h.w,by rw[T.dep];have:=h.d;omega⟩
theorem Tb.mono{t:T}{w d w2 d2:Nat}(h:Tb t w d)(e:w<=w2)(hd:d<=d2):Tb t w2 d2:=⟨h.ok,I0 h.w e,I0 h.d hd⟩
theorem lT.nil{d:Nat}:lT [] 0 d:=⟨trivial,lj _,by simp[T.dB]⟩
theorem lT.cons{t:T}{ts:List T}{e w2 d:Nat}(a:Tb t e d)(b:lT ts w2 d):lT (t::ts) (e+1+w2) d:=by
 have:=a.w;have:=b.w;have:=a.d;have:=b.d;exact⟨⟨a.ok,b.ok⟩,by rw[nV];omega,by rw[T.dB];omega⟩
theorem pF{x:Str}(h:Wd x)(d:Nat):Tb (.s x) 20 d:=⟨h.2,h.1,Ld _⟩
theorem GB{n:Int}(h:0<=n/\n<1000)(d:Nat):Tb (.i n) 20 d:=⟨vo h (by decide),lj _,Ld _⟩
theorem zO:∀{k:Kk},KWd k->Tb (bW k) (50+30*k.dep) (k.dep+1)
 |.num,_=>(pF (gc (by decide +kernel)) _).mono (by omega) (lj _)
 |.kd _,h=>(lT.cons (d:=0) (pF (gc (by decide +kernel)) _) (lT.cons (pF h _) .nil)).t.mono (by omega) (lj _)
 |.op _,h=>(lT.cons (d:=0) (pF (gc (by decide +kernel)) _) (lT.cons (GB h _) .nil)).t.mono (by omega) (lj _)
 |.row k,h=>(lT.cons (pF (gc (by decide +kernel)) _) (lT.cons (zO (k:=k) h) .nil)).t.mono (by show _<=50+30*(k.dep+1);omega) (lj _)
theorem jX{e:Type}{f:e->T}{l:List e}{w d n:Nat}(h:∀x∈l,Tb (f x) w d)(m:l.length<=n):lT (l.map f) (n*(w+1)) d:=by
 have a:=C3 (ts:=l.map f) (w:=w) (d:=d) (fun t j=>by obtain⟨x,g,rfl⟩:=L8.mp j;exact h x g);rw[bC]at a;exact⟨a.ok,I0 a.w (R7 _ m),a.d⟩
theorem GC{t:Str×List Kk}(w:Wd t.1)(l:t.2.length<=2)(h:∀c∈t.2,KWd c/\c.dep<=2):Tb (nR t) 300 5 :=
 (lT.cons (pF w _) (lT.cons (jX (w:=110) (d:=3) (fun c e=>(zO (h c e).1).mono (by have:=(h c e).2;omega) (by have:=(h c e).2;omega)) l).t .nil)).t.mono (by decide) (by decide)
theorem xA{K:bA}{H:Hp}{f d:Addr}{S:eM}{xs:List Str}{j:Kl}{q:List (Str×List Kk×Kk)}{p:List Int}(s:bx K H f d S xs j q p):Tb (fR j) 3000 8:=by
 refine(jX (w:=950) (d:=7) (fun k g=>?_) s.k3).t.mono (by decide) (by decide);obtain⟨i,o⟩:=MI g;obtain⟨_,l3,e⟩:=s.ok.pt i k o;refine(lT.cons (pF (s.Jz (LC g)) _) (lT.cons (jX (w:=300) (d:=5) (fun t h=>GC (s.IS g h) (e t h).1 (fun c l=>⟨Kk.kwd (fun x m=>s.un.2 x (Ly (Ly m))) ((e t h).2 c l).1,((e t h).2 c l).2⟩)) l3).t .nil)).t.mono (by decide) (by decide)
structure DB(Z D:Nat) (dd:Str×List (Str×Kk)×Tm):Prop where
 nm:Wd dd.1
 pl:dd.2.1.length<=3
 ps:∀p∈dd.2.1,Wd p.1/\KWd p.2/\p.2.dep<=4
 tk:Tok dd.2.2
 sz:dd.2.2.size<=Z
 dp:dd.2.2.depth<=D
theorem GD{Z D:Nat}{dd:Str×List (Str×Kk)×Tm}(h:DB Z D dd)(j:2<=D):Tb (mD dd) (400*Z+700) (3*D+4):=by
 have t:=EU h.tk;have g:Tb (enc dd.2.2) (400*Z) (3*D+3):=⟨t.ok,by have:=t.w;have:=P6 400 h.sz;omega,by have:=t.d;have:=h.dp;omega⟩;have p:lT (dd.2.1.map sA) (3*(200+1)) 6:=jX (w:=200) (d:=6) (fun p e=>(lT.cons (pF (h.ps p e).1 _) (lT.cons ((zO (h.ps p e).2.1).mono (w2:=170) (d2:=5) (by have:=(h.ps p e).2.2;omega) (by have:=(h.ps p e).2.2;omega)) .nil)).t.mono (by decide) (by decide)) h.pl;exact(lT.cons (pF h.nm _) (lT.cons (p.t.mono (d2:=3*D+3) (lj _) (by omega)) (lT.cons g .nil))).t.mono (by omega) (lj _)
theorem zP{Z D:Nat}{kt:T}{ds:List (Str×List (Str×Kk)×Tm)}(k:Tb kt 3000 8)(h:∀dd∈ds,DB Z D dd)(l:ds.length<=3)(d:2<=D):Tb (jz kt ds) (1200*Z+6000) (3*D+6) :=
 (lT.cons (k.mono (d2:=3*D+5) (lj _) (by omega)) (lT.cons (jX (fun dd hd=>GD (h dd hd) d) l).t .nil)).t.mono (by omega) (lj _)
theorem De{t:T}{ts:List T}{e w2:Nat}(a:Tb t e 90)(b:lT ts w2 90)(h:e+w2+10<=2 ^ 20):qf (yG t ts):=by
 have p:=C2 t a.ok;have q:=yF (xs:=ts) (fun x _=>C2 x) b.ok;have:=a.w;have:=b.w;have:=a.d;have:=b.d;have:=p.dp;have:=q.dp;have:=p.wt;have:=q.wt;unfold yG;refine⟨?_,?_,?_,SS (B:=13) (by decide) (by decide) ?_ ?_⟩
 ·simp only[RE.showable,Qy,p.sh,q.sh,Bool.and_true]
 ·simp only[RE.hasDict,QS,p.nd,q.nd,QX]
 ·simp only[PyData.depth,RO];omega
 ·simp only[RE.leavesShort,Pb,p.lf,q.lf,Bool.and_true]
 ·simp only[PyData.weight,Rv];omega
theorem Tb.Ip{t:T}{w d:Nat}(a:Tb t w d)(hd:d<=100)(e:w<=2 ^ 20):qf t.py:=Et a.ok (I0 a.d hd) (I0 a.w e)
section
variable {K:bA}{H H1 H2 H':Hp}{f f2 d p:Addr}{S:eM}{xs:List Str}{kl:Kl}{dl:List (Str×List Kk×Kk)}{gs g0:List Int}{dvs:List V}
theorem cW.feed{ys:List Addr}{m:List (Str×List Kk×Kk)}{g:List V}(r:cW K H (ys++S.nn f) m g)(e:aF H H2)(hn:H f2=none):cW K H2 (ys++S.nn f2) m g:=by
 refine(r.nn (n2:=ys++S.nn f2) fun l o z j q=>?_).go (fun b o z h=>e _ _ h) (Kt.same e);rcases Li.mp q with q|q
 ·exact z (LD _ q)
 ·rcases ri.mp q with q|q
  ·rw[q,hn]at j;cases j
  ·exact z (FT _ (.tail _ q))
theorem bx.feed(s:bx K H f d S xs kl dl gs)(e:aF H H2)(hn:H f2=none)(q:cE H2 f2):bx K H2 f2 d S xs kl dl gs:=by
 have g:=s.same e;obtain⟨m,l,t⟩:=s.ld;obtain⟨o,r,_⟩:=s.la;have j:=cW.feed (ys:=[]) t e hn;exact⟨g.sd,g.kd,s.ok,s.k3,s.lx,s.un,g.ln,g.lc,g.lp,⟨m,e _ _ l,j⟩,s.dl,g.lg,g.la,s.mm,s.mo,s.gn,s.tn,q,⟨aq s.sd hn,aq s.ln hn,aq s.lc hn,aq s.lp hn,aq l hn,aq s.lg hn,aq r hn⟩,s.ng,s.nd,s.na,s.bb⟩
theorem iq.feed{ys:List Addr}(a:iq K H f S kl ys dvs p)(e:aF H H2)(hn:H f2=none):iq K H2 f2 S kl ys dvs p:=by
 obtain⟨t,B,q,k,w,i,D,u,v,ok,kd,j,y,C,r,⟨E,l⟩,G,A,z⟩:=a;obtain⟨o,g,hr⟩:=j.aa;have m:=cW.feed (ys:=[q]) E e hn;exact⟨t,B,q,k,w,i,D,u.same e,v.same e,ok,kd,⟨⟨o,e _ _ g,hr.same e⟩,aq g hn,j.ng,j.na,j.pk,j.pl⟩,y,C,e _ _ r,⟨m,l⟩,aq r hn,A,z⟩
theorem FS.feed(s:FS K H f d S xs kl dl dvs g0 gs)(e:aF H H2)(hn:H f2=none)(j:cE H2 f2):FS K H2 f2 d S xs kl dl dvs g0 gs :=
 ⟨s.sc.feed e hn j,e _ _ s.hd,s.sub,fun n h=>by obtain⟨g,p,o,m,l⟩:=s.as n h;exact⟨g,p,e _ _ o,m,l.feed e hn⟩,s.kb,s.pb,s.ex⟩
theorem bH.swap{M:List Addr}(a:bH M f H H1)(s:aF H1 H2)(hn:H1 f2=none)(b:bH M f2 H2 H')(j:f∉M):bH M f H H':=by
 refine⟨fun c o g l h=>?_,(a.kt.trans (Kt.same s)).trans b.kt,?_⟩
 ·have e:=a.oth c o g l h;exact b.oth c o g (aq e hn) (s _ _ e)
 ·obtain⟨p,q,e⟩:=a.ff;exact⟨p,q,b.oth f _ j (aq e hn) (s _ _ e)⟩
theorem qp.swap{j:Hp}{m g:Int}{e:List Int}(a:qp j H1 d S g0 m gs)(s:aF H1 H2)(b:qp H2 H' d {S with mo:=m} g0 g e):qp j H' d S g0 g e:=(a.same s).trans b
end
noncomputable abbrev GF(n:Int):Tm:=.mk (.gap n) []
noncomputable abbrev zQ(x:Tm):Tm:=.mk (.op "+") [x,.mk (.num 1) []]
noncomputable abbrev yH:Tm:=.mk (.num 7) []
theorem K7:Gm enc GF zQ yH "gap" false:=⟨rfl,fun n=>by rw[bw];rfl,fun x=>by rw[bw];show T.t [.s "op",.s "+",enc x,enc (.mk (.num 1) [])]=_;rw[bw (.num 1)];rfl,by rw[bw];rfl⟩
theorem K8:Gm bW Kk.op Kk.row Kk.num "open" true:=⟨rfl,fun _=>rfl,fun _=>rfl,rfl⟩
theorem Df(x:Tm):lU (zQ x)=lU x:=by
 rw[fJ rfl];simp only[LN,Ri,LH];rw[show lU (.mk (.num 1) [])=[] by rw[fJ rfl];rfl,LH]
theorem GH(t:Tm):(lU t).length<=t.size:=by
 unfold lU;exact I0 (Mk _ _) (by rw[Tm.cY];exact lj _)
structure A4(ds:List (Str×List (Str×Kk)×Tm)) (c:List (Int×Tm)×List (Int×Kk)):Prop where
 t:wJ lU IU (bE ds) c.1
 k:wJ vz (fun _=>True) (bO ds) c.2
 tl:c.1.length<=4
 kl:c.2.length<=3
 tk:∀p∈c.1,Tok p.2/\p.2.size<=12
 kk:∀p∈c.2,p.2.dep<=2/\KWd p.2
noncomputable def EV(c:List (Int×Tm)×List (Int×Kk)):T:=.t [.t (c.1.map (nQ enc)),.t (c.2.map (nQ bW))]
theorem xB{d:Type}{G:Int->d}{m:d->d}{N:d}{j g:List (Int×d)}(e:Cv G m N j g){Pr:d->Prop}(h:∀p∈j,Pr p.2)(l:∀p∈j,Pr (G p.1))(o:∀p∈j,Pr (m (G p.1)))(t:Pr N):∀p∈g,Pr p.2:=by
 rcases e with rfl|⟨p,q,rest,a,b,rfl,rfl,ha,hb⟩
 ·exact h
 intro r hr;rcases ri.mp hr with rfl|hr
 ·rcases ha with rfl|rfl
  ·exact l q (.tail _ (.head _))
  ·exact o q (.tail _ (.head _))
 rcases ri.mp hr with rfl|hr
 ·rcases hb with rfl|rfl
  ·exact l p (.head _)
  ·exact t
 exact h r (.tail _ (.tail _ hr))
theorem Iq{ds:List (Str×List (Str×Kk)×Tm)}{u D:List Int}{m g:List (Int×Tm)}{o j:List (Int×Kk)}(ok:pV ds)(tn:(bE ds).Nodup)(tr:∀n∈bE ds,0<=n/\n<1000)(kn:(bO ds).Nodup)(w:∀n∈bO ds,0<=n/\n<1000)(J:(bO ds).length<=3)(a:Ij m)(b:Ik o)(q:wN lU (bE ds) u m)(E:(m.map (·.1)).Nodup)(r:wN vz (bO ds) D o)(G:(o.map (·.1)).Nodup)(y:Cv GF zQ yH m g)(z:Cv Kk.op Kk.row Kk.num o j):A4 ds (g,j):=by
 obtain⟨C,l1⟩:=q.Ia E y (fun n=>rfl) Df (by rw[fJ rfl];rfl);obtain⟨B,l2⟩:=r.Ia G z (fun n=>rfl) (fun x=>rfl) rfl;have I:=a.1;have H:=b.1
 have l:∀p∈g,Tok p.2/\p.2.size<=12:=by
  refine xB y (Pr:=fun t=>Tok t/\t.size<=12) a.2 (fun p d=>?_) (fun p d=>?_) ?_
  ·exact⟨.mk rfl (Ld _) (fun k e=>nomatch e) (tr _ (q.at_ p d)),Mx rfl⟩
  ·refine⟨.mk rfl (Mx rfl) (fun k e=>?_) (gc (by decide +kernel)),Mx rfl⟩;simp only[ri,Lp,or_false]at e;rcases e with rfl|rfl
   ·exact .mk rfl (Ld _) (fun k e=>nomatch e) (tr _ (q.at_ p d))
   ·exact .mk rfl (Ld _) (fun k e=>nomatch e) (show(0:Int)<=1/\(1:Int)<1000000 by decide)
  ·exact⟨.mk rfl (Ld _) (fun k e=>nomatch e) (show(0:Int)<=7/\(7:Int)<1000000 by decide),Mx rfl⟩
 have A:∀p∈j,p.2.dep<=2/\KWd p.2:=xB z (Pr:=fun k=>k.dep<=2/\KWd k) b.2 (fun p d=>⟨Ld _,w _ (r.at_ p d)⟩) (fun p d=>⟨(by decide:1<=2),w _ (r.at_ p d)⟩) ⟨Ld _,True.intro⟩;have v:∀k:Kk,(vz k).length<=50:=fun k=>by unfold vz;cases k.pG<;>simp
 exact⟨C.ok tn (by omega) (tU ok) (fun p d=>⟨⟨(l p d).1.wf,by have:=(l p d).2;omega⟩,by have:=GH p.2;have:=(l p d).2;omega⟩),B.ok kn (by omega) (by omega) (fun p d=>⟨True.intro,v _⟩),by show g.length<=4;omega,by show j.length<=3;omega,l,A⟩
end G33
namespace L2
open PySem
section
variable {K:bA}{σ:St}{H:Hp}
end
@[irreducible] noncomputable def JR (t:T):Str:=t.py.shown
theorem sf{X:Cx}(g:X.A.guards=some [])(e:X.A.units+150<OA):iN X (.builtin "repr") (fun xs H Q=>∃x d ,xs=[x]/\Rp X.K H (.t d) x/\qf (T.t d).py/\Q (.str (JR (.t d))) H):=by
 unfold JR;exact xX g e
end L2
namespace G33
open PySem L2
theorem Dg{d:Type}{g:List (Int×d)}{n:Int}{y:d}(h:jJ g n=some y):∃p∈g,p.2=y:=by
 unfold jJ at h;obtain⟨p,j,e⟩:=FA.mp h;exact⟨p,QC j,e⟩
theorem GU.db{dd:Str×List (Str×Kk)×Tm}(h:GU dd):DB 40 9 dd:=⟨h.2.2.2.2.2,h.2.2.2.1,fun p d=>⟨(h.2.2.2.2.1 p d).2.1,(h.2.2.2.2.1 p d).2.2,by have:=(h.2.2.2.2.1 p d).1;omega⟩,h.1,h.2.1,h.2.2.1⟩
theorem GJ{ds:List (Str×List (Str×Kk)×Tm)}{c:List (Int×Tm)×List (Int×Kk)}(ok:A4 ds c){dd:Str×List (Str×Kk)×Tm}(h:GU dd):DB 480 20 (putD (jJ c.1) (jJ c.2) dd):=by
 have g:∀n t,jJ c.1 n=some t->Tok t/\t.size<=12:=fun n t e=>by obtain⟨p,d,rfl⟩:=Dg e;exact ok.tk p d
 have j:∀n k,jJ c.2 n=some k->k.dep<=2/\KWd k:=fun n k e=>by obtain⟨p,d,rfl⟩:=Dg e;exact ok.kk p d
 refine⟨h.2.2.2.2.2,by show(dd.2.1.map _).length<=3;rw[bC];exact h.2.2.2.1,fun p d=>?_,Eu (fun n t e=>(g n t e).1) h.1,?_,?_⟩
 ·obtain⟨q,l,rfl⟩:=L8.mp d;obtain⟨r,o,m⟩:=h.2.2.2.2.1 q l;exact⟨o,zN (fun n k e=>(j n k e).2) m,by have:=xy (fun n k e=>(j n k e).1) q.2;show(jB _ q.2).dep<=4;omega⟩
 ·have:=Dd (b:=12) (by decide) (fun n t e=>(g n t e).2) dd.2.2;have:=h.2.1;show(dY _ dd.2.2).size<=480;omega
 ·have:=A3 (b:=11) (fun n t e=>by have:=(g n t e).2;have:=xx t;omega) dd.2.2;have:=h.2.2.1;show(dY _ dd.2.2).depth<=20;omega
theorem Ir{ds:List (Str×List (Str×Kk)×Tm)}{c:List (Int×Tm)×List (Int×Kk)}(ok:A4 ds c)(tr:∀n∈bE ds,0<=n/\n<1000)(g:∀n∈bO ds,0<=n/\n<1000):Tb (EV c) 25000 45:=by
 have a:lT (c.1.map (nQ enc)) (4*(5000+1)) 40:=jX (w:=5000) (d:=40) (fun p e=>(lT.cons (GB (tr _ (ok.t.at_ p e)) 39) (lT.cons (by
  have t:=EU (ok.tk p e).1;have z:=(ok.tk p e).2;have j:=xx p.2;exact(⟨t.ok,by have:=t.w;omega,by have:=t.d;omega⟩:Tb (enc p.2) 4800 39)) .nil)).t.mono (by decide) (by decide)) ok.tl
 have b:lT (c.2.map (nQ bW)) (3*(200+1)) 40:=jX (w:=200) (d:=40) (fun p e=>(lT.cons (GB (g _ (ok.k.at_ p e)) 39) (lT.cons ((zO (ok.kk p e).2).mono (w2:=110) (d2:=39) (by have:=(ok.kk p e).1;omega) (by have:=(ok.kk p e).1;omega)) .nil)).t.mono (by decide) (by decide)) ok.kl;exact(lT.cons a.t (lT.cons b.t .nil)).t.mono (by decide) (by decide)
theorem GK{ds:List (Str×List (Str×Kk)×Tm)}(ok:pV ds)(tn:(bE ds).Nodup)(kn:(bO ds).Nodup)(j:(bO ds).length<=3):A4 ds ([],[]):=by
 have f:∀{g:Type}(d:g->List Int) (e:List Int),HZ d e []:=fun d e=>⟨fun _ h=>(nomatch h),Qv,fun _ h=>(nomatch h),Qv⟩
 exact⟨(f lU _).ok tn (Ld _) (tU ok) (fun _ h=>(nomatch h)),(f vz _).ok kn (Ld _) (by omega) (fun _ h=>(nomatch h)),Ld _,Ld _,fun _ h=>(nomatch h),fun _ h=>(nomatch h)⟩
noncomputable def zR(Pt:Addr)(K:bA):Sp:=fun e H Q _=>∃(a:Addr) (d:List Int),e=[.ref a]/\bz K H a (d.map V.int)/\d.length<=63/\mK H Pt uS mL/\∀g,Q (.bl true) g
structure LW(K:bA) (H1:Hp) (fe d:Addr) (S:eM) (ds:List (Str×List (Str×Kk)×Tm)) (lc:Addr) (i:Nat) (H':Hp):Prop where
 x:∃(cs:List (List (Int×Tm)×List (Int×Kk))) (us:List V) (m:Int) (gs:List Int),bH [d,S.lg,S.la] fe H1 H'/\qp H1 H' d S (bE ds) m gs/\gs.length<=5+4*i/\H' lc=some (.lst us)/\bI K H' (cs.map EV) us/\cs.length=i/\∀c∈cs,A4 ds c
theorem Dh{H:Hp}{Pt p:Addr}{us:List V}(d:mK H Pt uS mL)(h:H p=some (.lst us)):p≠Pt:=fun z=>by
 subst z;rcases d with t|⟨c,t,_⟩<;>rw[h]at t<;>cases t
structure JS(Pt:Addr) (H H':Hp):Prop where
 g:wG Pt H H'
 tb:mK H' Pt uS mL
section
variable {P:FG}{w:Lk}{K:bA}{mg:Str->Option j3}{base:Heap}{Pt gF gD gL gE gU gI:Addr}{ffd dfd lfd efd ufd ifd:zo}
theorem cU:Nm ["_law_script","_law_program","_law_scene_here","_law_cases","_law_k","_law_feed_here","_law_found","_law_kinds_here","_law_kept","_law_due_here"] (aj qh):=by decide +kernel
theorem jI:Lm ["_law_script","_law_program","_law_scene_here","_law_cases","_law_k","_law_feed_here","_law_found","_law_kinds_here","_law_kept","_law_due_here"] (aj qh):=by decide +kernel
theorem iM:aI ["_law_script","_law_program","_law_scene_here","_law_cases","_law_k","_law_feed_here","_law_found","_law_kinds_here","_law_kept","_law_due_here"] ["_law_script"] (aj qh):=⟨rfl,rfl,rfl,by decide +kernel,rfl,by decide +kernel,by decide +kernel⟩
theorem GL{f:Addr}{fd:zo}{j jd ju ji:Nat}(h1:2<=j)(fq:jd<=j)(fl:ju<=j)(fo:ji<=j)(F:gX K "law" "law" qh f fd)(FD:bY P w K mg base "_law_feed" 1 ["_law_script","_law_k"] (xY K) gF ffd)(em:bY P w K mg base "_law_drawn" jd ["_law_script","_law_at"] (zL K) gD dfd)(el:bY P w K mg base "_law_fillings" j ["_law_feed_here","_law_program","_law_scene_here"] (rW K) gL lfd)(ct:bY P w K mg base "_law_exchanged" 2 ["_law_feed_here","_law_found","_law_sort"] (Cw K) gE efd)(cv:bY P w K mg base "_law_due" ju ["_law_program","_law_fresh","_law_kinds_here"] (ER K) gU ufd)(eo:bY P w K mg base "filled" ji ["program","terms","kinds"] (xr K Pt) gI ifd)(z_range:mg "range"=none)(y:mg "repr"=none):bK P w K mg base eL (j+1) f fd ["_law_script"] (zR Pt K):=by
 refine F.ok iM (fun vs H Q E h=>?_) (fun f3 A dn s H vs Q E hr h=>?_)
 ·obtain⟨_,_,rfl,_⟩:=h;rfl
 obtain⟨a,ns,rfl,hS,fm,tb,k⟩:=h;refine⟨_,(Z6 (Zo (Z0 em (cT (va cU 0) (Zb ao))) (Zc (Zh (ga iM.nd jI 1) (aG (ga iM.nd jI 2) aZ)))) (Z6 (sa iM.nd jI 3 (bg ak)) (Z6 (Zj (sY (by show _=_;kernel_rfl) z_range (Zb ao)) (ga iM.nd jI 4) (Z6 (Z2 iM.nd jI 5 (Z0 FD (Z1 (va cU 0) (Z1 (aX cR ao (va cU 4)) ak)))) (Z6 (Zo (Z0 el (Z1 (va cU 5) (Z1 (va cU 1) (Zb (va cU 2))))) (Zc (Zh (ga iM.nd jI 6) (aG (ga iM.nd jI 7) aZ)))) (Zg (@cu _ _ _ _ (Z7 Ll Ln cz (va cU 3) (Z1 (Ze (Z1 (Z0 ct (Z1 (va cU 5) (cT (va cU 6) (Zb az)))) (Z1 (Z0 ct (Z1 (va cU 5) (cT (va cU 7) (Zb az)))) ak))) ak)) (by rfl)))))) (Z6 (Z2 iM.nd jI 8 (@dS _ _ _ _ _ _ _ _ _ (qu hr.gd hr.qy) (by show _=_;kernel_rfl) y NX (Z1 (Ze (Z1 (va cU 1) (Zb (va cU 3)))) ak) (by decide) (by decide) (by rfl) (by rfl))) (Z6 (Zj (@cX _ _ _ _ (Zm qS (Zm qS (va cU 3) (@bg _ _ _ _ (Z1 (Ze (Z1 (dm ak) (Zb (dm ak)))) ak))) (cK gu (va cU 3) dQ (cy ao)))) (Zc (Zh (ga iM.nd jI 6) (aG (ga iM.nd jI 7) aZ))) (Z6 (Z2 iM.nd jI 9 (Z0 cv (Z1 (va cU 1) (Z1 (va cU 6) (Zb (va cU 7)))))) (Zg (Zd (Zf Ez (@dS _ _ _ _ _ _ _ _ _ (sf hr.gd hr.qy) (by show _=_;kernel_rfl) y NX (Z1 (Z0 eo (Z1 (va cU 1) (Z1 (va cU 6) (Zb (va cU 7))))) ak) (by decide) (by decide) (by rfl) (by rfl)) (@dS _ _ _ _ _ _ _ _ _ (sf hr.gd hr.qy) (by show _=_;kernel_rfl) y NX (Zb (va cU 9)) (by decide) (by decide) (by rfl) (by rfl))) (cg (cB yK)))))) (Zg (Zn (@kW _ _ _ _ _ _ _ _ bJ (@dS _ _ _ _ _ _ _ _ _ (qu hr.gd hr.qy) (by show _=_;kernel_rfl) y NX (Z1 (Ze (Z1 (va cU 1) (Zb (va cU 3)))) ak) (by decide) (by decide) (by rfl) (by rfl)) (va cU 8) (nG _))))))))),?_⟩
 try dsimp only[bM]
 try dsimp only[bM]
 fail "R";intro p1 d fe vp H1 S xs kl dl f1 ds os gs s1 dz u fp hM cf;obtain⟨pa,e6,rfl,e7,e8⟩:=(show Rp K H1 (.t [fR kl,.t (ds.map mD)]) vp from u.rp).aY;have q1:=bN.of (K:=K) dz;fail "R";intro C am;have s2:=ae am (.lst []);have h2:upd H1 C (.lst []) C=some (.lst []):=af;generalize upd H1 C (.lst [])=H2 at s2 h2⊢;have v:=u.fs.sc;have d4:=v.ff;have b0:C≠fe:=(v.no am).1;have a6:NN S d C:=v.nn am;have al:C≠d/\C≠S.lg/\C≠S.la:=⟨a6.1,a6.2.2.2.2.2.1,a6.2.2.2.2.2.2⟩
 have b1:fe∉[d,S.lg,S.la]:=by
  simp only[ri,Lp,or_false,not_or];exact⟨v.nf.1.symm,v.nf.2.2.2.2.2.1.symm,v.nf.2.2.2.2.2.2.symm⟩
 have fb:d≠fe/\S.lg≠fe/\S.la≠fe:=⟨v.nf.1,v.nf.2.2.2.2.2⟩;have cr:pV ds:=⟨by have:=u.d3;omega,fun X hd=>⟨(u.dok X hd).1.wf,by have:=(u.dok X hd).2.1;omega,by have:=(u.dok X hd).2.2.2.1;omega⟩⟩;have EI:∀X∈ds,∀p∈X.2.1,p.2.dep<=100:=fun X hd p hp=>by have:=((u.dok X hd).2.2.2.2.1 p hp).1;omega
 have f2:∀X∈ds,X.2.2.depth<26:=fun X hd=>by have:=(u.dok X hd).2.2.1;omega
 have b5:(bO ds).length<=3:=by rw[u.kg,bC];exact u.oso.1
 have b7:(bO ds).Nodup:=by rw[u.kg];exact u.oso.nodup
 have b6:∀n∈bO ds,0<=n/\n<1000:=fun n hn=>by
  rw[u.kg,u.oso.2.1]at hn;obtain⟨b,hb,e⟩:=L8.mp hn;have h3:=u.oso.1;have:=Oj.mp hb;rw[show lS 4 b=5*(b:Int)+2 from rfl]at e;omega
 have bi:∀n∈bE ds,0<=n/\n<1000:=fun n hn=>by
  obtain⟨i0,d1,ef⟩:=PD.mp (u.fs.sub n hn);have:=v.gn i0 n (by rw[m3 d1,ef]);unfold rT at this
  split at this<;>omega
 have ec:bH [d,S.lg,S.la] fe H1 H2:=(bH.refl d4).same s2
 have gl:∀{b:Addr}{l:List V}{Hx:Hp},bH [d,S.lg,S.la] fe H1 Hx->H1 b=some (.lst l)->b≠S.lg->b≠fe->Hx b=some (.lst l):=fun fr h n n2=>by
  obtain⟨fj,ha,_⟩:=v.la;exact bH.get3 (M:=[]) fr (cD h v.sd (fun z=>nomatch z)) n (cD h ha (fun z=>nomatch z)) n2 h
 fail "R";refine fU (n:=(Int.toNat 2)) (fun i σ H6=>(∃(y4 y5 y6 y7:Option V),σ=[some (.ref a),some (.ref pa),some (.ref d),some (.ref C),y4,y5,y6,y7,none,none])/\LW K H1 fe d S ds C i H6) ⟨⟨_,_,_,_,rfl⟩,⟨[],[],S.mo,gs,ec,u.fs.cur.same s2,by omega,h2,.nil,rfl,fun _ h=>nomatch h⟩⟩ ?_ ?_
 ·rintro i σ H6 hi ⟨⟨_,_,_,_,rfl⟩,⟨cs,l,m,cl,f6,c6,d9,an,r6,a7,ag⟩⟩;have fn:i<2:=hi;have fu:=(bH.new s1 f6 hM cf).seq hS;fail "R";intro f7 H7 Y I d2;have ea:=u.fs.at_ f6 c6;have co:=ea.feed Y I d2;have bc:=f6.same Y;have bs:Rp K H7 (jz (fR kl) ds) (.ref pa):=u.rp.kt bc.kt
  have fa:vh K H7 S.x2 os:=by
   obtain⟨ov,h,r⟩:=u.op;exact⟨ov,gl bc h u.ng u.nf,r.kt bc.kt⟩
  have fw:cl.length<=10:=by omega
  have ew:S.x2≠f7:=by
   obtain⟨ov,h,r⟩:=u.op;exact aq (gl f6 h u.ng u.nf) I
  have e9:=u.oso;have fz:=u.kg;have cw:=u.nd;have ev:=u.ng;have f0:=u.ex;fail "R";intro p8 v1 v2 H8 ft fk m8 d8 g2 eb eg fv a8 c8 de cn cp dp dt dq du;have N:bH [d,S.lg,S.la] f7 H7 H8:=eb;have cq:=bH.swap f6 Y I N b1;have eh:=c6.swap Y eg;have q8:=bN.of (K:=K) a8;have as:C≠f7:=aq an I;have ci:=bH.get3 (M:=[]) N al.1 al.2.1 al.2.2 as (Y _ _ an);have r8:=(r6.same Y).kt N.kt;have a9:=N.ff;have e4:bz K H8 C l:=bz.of ci;have fx:=cn.1;have fy:=cp.1;fail "R";refine⟨enc,GF,zQ,yH,_,false,f7,v1,ft,rfl,K7,a9,c8,by omega,?_⟩;intro v9 H9 bb x9 c7 et;have ch:=x9.2;have dc:=de.kt (x9.kt a9);fail "R";refine⟨bW,Kk.op,Kk.row,Kk.num,_,true,f7,v2,fk,rfl,K8,ch,dc,by omega,?_⟩;intro ax aj ai bh bt ek;have bf:=x9.trans bh;have br:=c7.kt (bh.kt ch);have O:=Iq cr cw bi b7 b6 b5 cn cp dp dt dq du et ek;fail "R";intro B U;have aa:=ae U (.tup [v9,ax]);have bv:Rp K (upd aj B (.tup [v9,ax])) (EV (bb,ai)) (.ref B):=Rp.new (K:=K) (xs:=[.t (bb.map (nQ enc)),.t (ai.map (nQ bW))]) U (.cons br (.one bt));generalize upd aj B (.tup [v9,ax])=H11 at aa bv⊢;have n7:d≠f7/\S.lg≠f7/\S.la≠f7:=⟨co.sc.nf.1,co.sc.nf.2.2.2.2.2⟩;have J:=bf.same aa;have W:=J.1 _ _ as ci;have au:=J.kt a9
  have ee:bH [d,S.lg,S.la] fe H1 H11:=⟨fun b o n1 n2 h=>J.1 b o (fun z=>by
   have h6:=f6.oth b o n1 n2 h;rw[z,I]at h6;cases h6) (cq.oth b o n1 n2 h),cq.kt.trans au,by
   obtain⟨q1,q2,e⟩:=f6.ff;have b2:fe≠f7:=aq e I;exact⟨q1,q2,J.1 _ _ b2 (N.oth fe _ b1 b2 (Y _ _ e))⟩⟩
  have ej:=eh.ext J n7;have b3:l.length<nk:=bj (by rw[r6.length,bC];omega);have ed:=ee.yk (o:=.lst (l++[.ref B])) am b0 W;have ei:=ej.put (o:=.lst (l++[.ref B])) al;have b8:Kt H11 (upd H11 C (.lst (l++[.ref B]))):=Kt.lst W _;fail "R";refine⟨cs++[(bb,ai)],l++[.ref B],m8,d8,ed,ei,by omega,af,?_,by rw[lu,a7];rfl,fun c hc=>?_⟩
  ·rw[nq];exact((r8.kt au).kt b8).snoc (bv.kt b8)
  ·rcases Li.mp hc with z|z
   ·exact ag c z
   ·rw[nt.mp z];exact O
 ·rintro σ H6 ⟨⟨_,_,_,_,rfl⟩,⟨cs,l,m,cl,f6,c6,d9,an,r6,a7,ag⟩⟩;have b4:cs.length=2:=a7;have b3:=r6.length;rw[bC,b4]at b3;have da:Rp K H6 (jz (fR kl) ds) (.ref pa):=u.rp.kt f6.kt;have c2:=iC tb (bH.new s1 f6 hM cf);fail "R";intro p7 dy;have Y:=ae dy (.tup [.ref pa,.ref C]);have q7:=bN.of (K:=K) (show upd H6 p7 (.tup [.ref pa,.ref C]) p7=some (.tup [.ref pa,.ref C])from af);generalize upd H6 p7 (.tup [.ref pa,.ref C])=H7 at Y q7⊢;have ba:=Y _ _ an;have r7:=r6.same Y;have bs:=da.same Y;have bk:=iC c2 Y;have cx:=zP (xA v) (fun X hd=>(u.dok X hd).db) u.d3 (by decide);have c1:lT (cs.map EV) (2*(25000+1)) 90:=jX (w:=25000) (d:=90) (fun c hc=>(Ir (ag c hc) bi b6).mono (lj _) (by decide)) (by omega);have ep:qf (yG (jz (fR kl) ds) (cs.map EV)):=De (cx.mono (lj _) (by decide)) c1 (by decide);fail "R";intro p8 a8;have s8:=ae a8 (.tup []);have r8:Rp K (upd H7 p8 (.tup [])) (.t []) (.ref p8):=Rp.t (bN.of af) .nil;generalize upd H7 p8 (.tup [])=H8 at s8 r8⊢;fail "R";intro p9 dx;have s9:=ae dx (.tup []);have r9:Rp K (upd H8 p9 (.tup [])) (.t []) (.ref p9):=Rp.t (bN.of af) .nil;generalize upd H8 p9 (.tup [])=H9 at s9 r9⊢;fail "R";intro q aw;have bo:=ae aw (.tup [.ref p8,.ref p9]);have bw:Rp K (upd H9 q (.tup [.ref p8,.ref p9])) (EV ([],[])) (.ref q):=Rp.new (K:=K) (xs:=[.t [],.t []]) aw (.cons (r8.same s9) (.one r9));generalize upd H9 q (.tup [.ref p8,.ref p9])=aj at bo bw⊢;fail "R";intro B U;have aa:=ae U (.lst [.ref q]);have d7:upd aj B (.lst [.ref q]) B=some (.lst [.ref q]):=af;generalize upd aj B (.lst [.ref q])=H11 at aa d7⊢;have ap:=(s8.trans s9).trans (bo.trans aa);have W:=ap _ _ ba;have fi:l.length+[V.ref q].length<=nk:=small (by show l.length+1<=1000;omega);fail "R";intro a5 ce;have a0:=ae ce (.lst (l++[.ref q]));have ck:upd H11 a5 (.lst (l++[.ref q])) a5=some (.lst (l++[.ref q])):=af;generalize upd H11 a5 (.lst (l++[.ref q]))=H12 at a0 ck⊢;have cj:=a0 _ _ W;have e5:bz K H12 C l:=bz.of cj;fail "R";intro a4 cd;rw[show gq l none (some 1)=l.take 1 from jc l 1];have ay:=ae cd (.lst (l.take 1));have d6:upd H12 a4 (.lst (l.take 1)) a4=some (.lst (l.take 1)):=af;generalize upd H12 a4 (.lst (l.take 1))=H13 at ay d6⊢;have ez:=ay _ _ ck;have fh:(l++[V.ref q]).length+(l.take 1).length<=nk:=small (by rw[lu,Lb];show l.length+1+_<=1000;omega);fail "R";intro ac cc;have bn:=ae cc (.lst ((l++[.ref q])++l.take 1));have ah:upd H13 ac (.lst ((l++[.ref q])++l.take 1)) ac=some (.lst ((l++[.ref q])++l.take 1)):=af;generalize upd H13 ac (.lst ((l++[.ref q])++l.take 1))=H14 at bn ah⊢;have ab:=(a0.trans ay).trans bn;have L:=ap.trans ab
  have a2:bI K H14 ((cs++[([],[])]++cs.take 1).map EV) ((l++[.ref q])++l.take 1):=by
   have ra:=r7.same L;rw[nq,nq,M0];exact(ra.append (.one (bw.same (aa.trans ab)))).append (ra.take 1)
  have ad:∀c∈cs++[([],[])]++cs.take 1,A4 ds c:=fun c hc=>by
   rcases Li.mp hc with hc|hc
   ·rcases Li.mp hc with hc|hc
    ·exact ag c hc
    ·rw[nt.mp hc];exact GK cr u.nd b7 b5
   ·exact ag c (Ly hc)
  have ar:=bs.same L;have R:=iC bk L;have dj:bz K H14 ac ((l++[.ref q])++l.take 1):=bz.of ah;generalize cs++[([],[])]++cs.take 1=ca at a2 ad;generalize(l++[V.ref q])++l.take 1=ua at ah a2 dj;have bx:ac≠Pt:=Dh R ah;fail "R";refine nZ (K:=K) (xs:=ua) (fun i σ Hx=>(∃(y4 y5 y6 y7 y9:Option V),σ=[some (.ref a),some (.ref pa),some (.ref d),some (.ref C),y4,y5,y6,y7,some (.str (Dc (jz (fR kl) ds) (cs.map EV))),y9])/\JS Pt H14 Hx) ⟨⟨_,_,_,_,_,rfl⟩,fun b o _ h=>h,R⟩ ?_ ?_ ?_
  ·rintro i σ Hx hi ⟨_,gi⟩;exact bz.of (gi.g _ _ bx ah)
  ·rintro i xv σ Hx hxv ⟨⟨_,_,_,_,_,rfl⟩,gi⟩;obtain⟨yv,b9,c4⟩:=a2.get' hxv;rw[rz]at b9;obtain⟨c,hc,rfl⟩:=FA.mp b9;have O:=ad c (we hc);have kx:=jU R gi.g;obtain⟨xa,x1,x2,rfl,e2,dk,dh⟩:=(show Rp K Hx (.t [.t (c.1.map (nQ enc)),.t (c.2.map (nQ bW))]) xv from c4.kt kx).t2;have a1:=ar.kt kx;have fg:=O.t.nd;have fc:=O.k.nd;fail "R";intro vd en G bq;have c9:=a1.same G;have eu:=dk.same G;have es:=dh.same G;have bm:=iC gi.tb G;have e0:=O.t;have e1:=O.k;fail "R";intro vf be cm bl bu;have dv:=jU bm cm;have bp:=bq.kt dv
   have c0:=zP (Z:=480) (D:=20) (ds:=ds.map (putD (jJ c.1) (jJ c.2))) (xA v) (fun X hd=>by
    obtain⟨d0,d5,rfl⟩:=L8.mp hd;exact GJ O (u.dok d0 d5)) (by rw[bC];exact u.d3) (by decide)
   have c3:=c0.Ip (by decide) (by decide);have df:Rp K be (.t [fR kl,.t ((ds.map (putD (jJ c.1) (jJ c.2))).map mD)]) vf:=bu;have c5:Rp K be (.t [fR kl,.t ((ds.map (putD (jJ c.1) (jJ c.2))).map mD)]) vd:=bp;have eq:qf (T.t [fR kl,.t ((ds.map (putD (jJ c.1) (jJ c.2))).map mD)]).py:=c3;have gx:JS Pt H14 be:=⟨fun b o n h=>cm b o n (G _ _ (gi.g b o n h)),bl⟩;fail "R";refine cH (fun c=>?_) (fun c=>?_)
   ·rw[decide_eq_true rfl]at c
    cases c
   ·fail "R";exact gx
  ·rintro σ Hx ⟨⟨_,_,_,_,_,rfl⟩,gi⟩;have kx:=jU R gi.g;have a1:=ar.kt kx;have dw:=gi.g _ _ (Dh bk ba) (L _ _ ba);have dg:=(r7.same L).kt kx;fail "R";intro a3 cb;have G:=ae cb (.tup [.ref pa,.ref C]);have di:=bN.of (K:=K) (show upd Hx a3 (.tup [.ref pa,.ref C]) a3=some (.tup [.ref pa,.ref C])from af);generalize upd Hx a3 (.tup [.ref pa,.ref C])=en at G di⊢;have ey:=G _ _ dw;have e3:=dg.same G;have er:=a1.same G;fail "R";rw[decide_eq_true rfl];exact k _
end
noncomputable def pR:Kk->Prop
 |.row k2=>bW k2≠T.s "num"
 |_=>False
section
variable {P:FG}{w:Lk}{K:bA}{mg:Str->Option j3}{base:Heap}{gT gB gE gG gA gL:Addr}{tfd bfd efd gfd afd lfd:zo}
theorem ah:Nm ["_law_feed_here","_law_scene_here","_law_around","_law_kind","_law_room","_law_down","_law_form","_law_share","_law_x","_law_goal","_law_one","_law_more","_law_test","_law_y","_law_rows","_law_begin","_law_some","_law_f","_law_wants","_law_terms"] (aj cZ):=by decide +kernel
theorem bf:Lm ["_law_feed_here","_law_scene_here","_law_around","_law_kind","_law_room","_law_down","_law_form","_law_share","_law_x","_law_goal","_law_one","_law_more","_law_test","_law_y","_law_rows","_law_begin","_law_some","_law_f","_law_wants","_law_terms"] (aj cZ):=by decide +kernel
theorem aU:aI ["_law_feed_here","_law_scene_here","_law_around","_law_kind","_law_room","_law_down","_law_form","_law_share","_law_x","_law_goal","_law_one","_law_more","_law_test","_law_y","_law_rows","_law_begin","_law_some","_law_f","_law_wants","_law_terms"] ["_law_feed_here","_law_scene_here","_law_around","_law_kind","_law_room","_law_down"] (aj cZ):=⟨rfl,rfl,rfl,by decide +kernel,rfl,by decide +kernel,by decide +kernel⟩
theorem yI{f:Addr}{fd:zo}{n j ja jl jk je:Nat}(hn:n<=10)(hj:1<=j)(h1:ja<=j)(h2:jl<=j)(h3:jk<=j)(h4:je<=j)(F:gX K "_law_generic" "_law_generic" cZ f fd)(TK:bY P w K mg base "_law_take" 1 ["_law_feed_here","_law_many"] eJ gT tfd)(AK:bY P w K mg base "_law_any_kind" jk ["_law_feed_here","_law_known","_law_down"] (fW K 3) gG gfd)(BD:bY P w K mg base "_law_bound" 1 ["_law_around","_law_more"] (qH K) gB bfd)(TE:bY P w K mg base "_law_term" je ["_law_feed_here","_law_scene_here","_law_around","_law_kind","_law_room","_law_down"] (nT K n) gE efd)(AR:bY P w K mg base "_law_arms" ja ["_law_feed_here","_law_scene_here","_law_around","_law_kind","_law_goal","_law_share","_law_down"] (CH K n) gA afd)(LF:bY P w K mg base "_law_leaf" jl ["_law_feed_here","_law_scene_here","_law_around","_law_kind"] (ve K) gL lfd)(z_len:mg "len"=none)(ad:mg "tuple"=none)(a4:mg "max"=none):bK P w K mg base eL (j+1) f fd ["_law_feed_here","_law_scene_here","_law_around","_law_kind","_law_room","_law_down"] (tZ K (n+1)):=by
 refine F.ok aU (fun vs H Q E h=>?_) (fun gt A cx s H vs Q E hr h=>?_)
 ·obtain⟨_,_,_,_,_,_,_,_,_,_,_,_,_,rfl,_⟩:=h;rfl
 obtain⟨fe,d,ar,vk,p,as,S,xs,kl,dl,gs,ps,U,rfl,sc,ai,rk,ok,fu,gl,gk,e7,e6,fx,k⟩:=h;refine⟨_,(Z6 (Z2 aU.nd bf 6 (Z0 TK (cT (va ah 0) (Zb ao)))) (Z6 (Z2 aU.nd bf 7 (Zm jK (aX bL (va ah 4) ao) ao)) (Z6 (Z2 aU.nd bf 8 (Zl aW (Zk (va ah 1)) (Z0 TK (cT (va ah 0) (Zb ao))))) (Z6 (Zd (Zq bJ (va ah 6) ao) (Z6 (Z2 aU.nd bf 9 (Z0 AK (Z1 (va ah 0) (Z1 (Za (aj cZ) ["_law_feed_here","_law_scene_here","_law_around","_law_kind","_law_room","_law_down","_law_form","_law_share","_law_x","_law_goal","_law_one","_law_more","_law_test","_law_y","_law_rows","_law_begin","_law_some","_law_f","_law_wants","_law_terms"] ["_law_name","_law_tags"] [] (@dh _ _ _ _ (Zk (va ah 1))) (fun _ _ _ _=>(Zc (Zh (Z3 (i:=0) (show(["_law_name","_law_tags"]:List Str).Nodup by decide +kernel)) (aG (Z3 (i:=1) (show(["_law_name","_law_tags"]:List Str).Nodup by decide +kernel)) aZ)))) (fun _ _ _ _=>(va (show Nm ["_law_name","_law_tags"] _ by show _=_;kernel_rfl) 0))) (Zb ao))))) (Z6 (Z2 aU.nd bf 10 (Z0 TE (Z1 (va ah 0) (Z1 (va ah 1) (Z1 (va ah 2) (Z1 (va ah 9) (Z1 (va ah 7) (Z1 (aX bL (va ah 5) ao) ak)))))))) (Z6 (Z2 aU.nd bf 11 (Z0 BD (Z1 (va ah 2) (Z1 (@bg _ _ _ _ (Z1 (Ze (Z1 (va ah 8) (Zb (va ah 9)))) ak)) ak)))) (Zg (Zn (Ze (Z1 az (Z1 (va ah 8) (Z1 (va ah 10) (Z1 (Z0 TE (Z1 (va ah 0) (Z1 (va ah 1) (Z1 (va ah 11) (Z1 (va ah 3) (Z1 (va ah 7) (Z1 (aX bL (va ah 5) ao) ak))))))) ak))))))))))) (Z6 (Zd (PW.pt (@sX _ _ _ _ _ _ _ (Zq bJ (va ah 6) ao) (@qM _ _ _ _ (PW.pt (@gY _ _ _ _ _ _ _ (Zq bJ (va ah 6) ao) (@gm _ _ _ _ (Zf bJ (Z5 aB (Z1 (Zk (va ah 1)) ak)) ao))))))) (Z6 (Z2 aU.nd bf 12 (Z0 TE (Z1 (va ah 0) (Z1 (va ah 1) (Z1 (va ah 2) (Z1 az (Z1 (va ah 7) (Z1 (aX bL (va ah 5) ao) ak)))))))) (Z6 (Z2 aU.nd bf 10 (Z0 TE (Z1 (va ah 0) (Z1 (va ah 1) (Z1 (va ah 2) (Z1 (va ah 3) (Z1 (va ah 7) (Z1 (aX bL (va ah 5) ao) ak)))))))) (Zg (Zn (Ze (Z1 az (Z1 (va ah 12) (Z1 (va ah 10) (Z1 (Z0 TE (Z1 (va ah 0) (Z1 (va ah 1) (Z1 (va ah 2) (Z1 (va ah 3) (Z1 (va ah 7) (Z1 (aX bL (va ah 5) ao) ak))))))) ak)))))))))) (Z6 (Zd (Zq bJ (va ah 6) ao) (Z6 (Z2 aU.nd bf 9 (Ze (Z1 az (Z1 (Zl aQ (Zl aQ (Zk (va ah 1)) (Z0 TK (Z1 (va ah 0) (Z1 (Z5 aB (Z1 (Zk (va ah 1)) ak)) ak)))) ao) ak)))) (Z6 (Z2 aU.nd bf 10 (Z0 TE (Z1 (va ah 0) (Z1 (va ah 1) (Z1 (va ah 2) (Z1 (va ah 9) (Z1 (va ah 7) (Z1 (aX bL (va ah 5) ao) ak)))))))) (Zg (Zn (Ze (Z1 az (Z1 (va ah 10) (Z1 (Z0 AR (Z1 (va ah 0) (Z1 (va ah 1) (Z1 (va ah 2) (Z1 (va ah 3) (Z1 (va ah 9) (Z1 (Zm jK (aX bL (va ah 4) ao) ao) (Z1 (aX bL (va ah 5) ao) ak)))))))) ak))))))))) (Z6 (Zd (Zq bJ (va ah 6) ao) (Z6 (Z2 aU.nd bf 9 (Z0 AK (Z1 (va ah 0) (Z1 (Za (aj cZ) ["_law_feed_here","_law_scene_here","_law_around","_law_kind","_law_room","_law_down","_law_form","_law_share","_law_x","_law_goal","_law_one","_law_more","_law_test","_law_y","_law_rows","_law_begin","_law_some","_law_f","_law_wants","_law_terms"] ["_law_name","_law_tags"] [] (@dh _ _ _ _ (Zk (va ah 1))) (fun _ _ _ _=>(Zc (Zh (Z3 (i:=0) (show(["_law_name","_law_tags"]:List Str).Nodup by decide +kernel)) (aG (Z3 (i:=1) (show(["_law_name","_law_tags"]:List Str).Nodup by decide +kernel)) aZ)))) (fun _ _ _ _=>(va (show Nm ["_law_name","_law_tags"] _ by show _=_;kernel_rfl) 0))) (Zb ao))))) (Z6 (Z2 aU.nd bf 13 (Zl aW (Zk (va ah 1)) ao)) (Z6 (Z2 aU.nd bf 14 (Z0 TE (Z1 (va ah 0) (Z1 (va ah 1) (Z1 (va ah 2) (Z1 (Ze (Z1 az (Zb (va ah 9)))) (Z1 (va ah 7) (Z1 (aX bL (va ah 5) ao) ak)))))))) (Z6 (Z2 aU.nd bf 15 (Z0 TE (Z1 (va ah 0) (Z1 (va ah 1) (Z1 (va ah 2) (Z1 (va ah 3) (Z1 (va ah 7) (Z1 (aX bL (va ah 5) ao) ak)))))))) (Z6 (Z2 aU.nd bf 11 (Z0 BD (Z1 (va ah 2) (Z1 (@bg _ _ _ _ (Z1 (Ze (Z1 (va ah 8) (Zb (va ah 9)))) (Z1 (Ze (Z1 (va ah 13) (Zb (va ah 3)))) ak))) ak)))) (Zg (Zn (Ze (Z1 az (Z1 (va ah 14) (Z1 (va ah 8) (Z1 (va ah 13) (Z1 (va ah 15) (Z1 (Z0 TE (Z1 (va ah 0) (Z1 (va ah 1) (Z1 (va ah 11) (Z1 (va ah 3) (Z1 (va ah 7) (Z1 (aX bL (va ah 5) ao) ak))))))) ak))))))))))))))) (Z6 (Zi (aj cZ) ["_law_feed_here","_law_scene_here","_law_around","_law_kind","_law_room","_law_down","_law_form","_law_share","_law_x","_law_goal","_law_one","_law_more","_law_test","_law_y","_law_rows","_law_begin","_law_some","_law_f","_law_wants","_law_terms"] ["_law_one"] [3] (@cX _ _ _ _ (Zk (va ah 1))) (fun _ _ _ _=>(Z3 (i:=0) (show(["_law_one","_law_kind"]:List Str).Nodup by decide +kernel))) (fun _ _ _ _=>(@gz _ _ _ (Zf (zf K rfl hr.qy) (Z9 (fP K rfl) (va (show Nm ["_law_one","_law_kind"] _ by show _=_;kernel_rfl) 0)) (va (show Nm ["_law_one","_law_kind"] _ by show _=_;kernel_rfl) 1)))) (fun _ _ _ _=>(va (show Nm ["_law_one","_law_kind"] _ by show _=_;kernel_rfl) 0)) (ga aU.nd bf 16)) (Z6 (Zd (PW.pt (@gY _ _ _ _ _ _ _ (Zq bJ (va ah 6) ao) (@gm _ _ _ _ (Zf nu (Z5 aB (Zb (va ah 16))) ao)))) (Z6 (Zo (Zl aW (va ah 16) (Z0 TK (Z1 (va ah 0) (Z1 (Z5 aB (Zb (va ah 16))) ak)))) (@fO _ _ _ _ _ (3) K rfl rfl (Zh (ga aU.nd bf 17) (Zh (ga aU.nd bf 18) (aG (ga aU.nd bf 9) aZ))) (by rfl) (by rfl))) (Z6 (Zi (aj cZ) ["_law_feed_here","_law_scene_here","_law_around","_law_kind","_law_room","_law_down","_law_form","_law_share","_law_x","_law_goal","_law_one","_law_more","_law_test","_law_y","_law_rows","_law_begin","_law_some","_law_f","_law_wants","_law_terms"] ["_law_one"] [0,1,2,4,5,18] (cX (va ah 18)) (fun _ _ _ _=>(Z3 (i:=0) (show(["_law_one","_law_feed_here","_law_scene_here","_law_around","_law_room","_law_down","_law_wants"]:List Str).Nodup by decide +kernel))) (fun _ _ _ _=>dW) (fun _ _ _ _=>(Z0 TE (Z1 (va (show Nm ["_law_one","_law_feed_here","_law_scene_here","_law_around","_law_room","_law_down","_law_wants"] _ by show _=_;kernel_rfl) 1) (Z1 (va (show Nm ["_law_one","_law_feed_here","_law_scene_here","_law_around","_law_room","_law_down","_law_wants"] _ by show _=_;kernel_rfl) 2) (Z1 (va (show Nm ["_law_one","_law_feed_here","_law_scene_here","_law_around","_law_room","_law_down","_law_wants"] _ by show _=_;kernel_rfl) 3) (Z1 (va (show Nm ["_law_one","_law_feed_here","_law_scene_here","_law_around","_law_room","_law_down","_law_wants"] _ by show _=_;kernel_rfl) 0) (Z1 (Zm jK (aX bL (va (show Nm ["_law_one","_law_feed_here","_law_scene_here","_law_around","_law_room","_law_down","_law_wants"] _ by show _=_;kernel_rfl) 4) ao) (@dS _ _ _ _ _ _ _ _ _ (pK rfl) (by show _=_;kernel_rfl) a4 Pa (Z1 ao (Z1 (Z5 (sG K rfl) (Zb (va (show Nm ["_law_one","_law_feed_here","_law_scene_here","_law_around","_law_room","_law_down","_law_wants"] _ by show _=_;kernel_rfl) 6))) ak)) (by decide) (by decide) (by rfl) (by rfl))) (Z1 (aX bL (va (show Nm ["_law_one","_law_feed_here","_law_scene_here","_law_around","_law_room","_law_down","_law_wants"] _ by show _=_;kernel_rfl) 5) ao) ak)))))))) (ga aU.nd bf 19)) (Zg (Zn (Ze (Z1 az (Z1 (va ah 17) (Z1 (Z4 aH ad Le (Zb (va ah 19))) ak))))))))) (Z6 (Zd (PW.pt (@gY _ _ _ _ _ _ _ (Zq (Bw hr.qy) (va ah 3) az) (@gY _ _ _ _ _ _ _ (Zf bJ (Z9 aQ (va ah 3)) az) (@gm _ _ _ _ (Zf (Bw hr.qy) (Z9 aQ (va ah 3)) az))))) (Zg (Zn (Z0 LF (Z1 (va ah 0) (Z1 (va ah 1) (Z1 (va ah 2) (Zb (va ah 3))))))))) (Zg (Zn (Ze (Z1 az (Z1 (Z0 TE (Z1 (va ah 0) (Z1 (va ah 1) (Z1 (va ah 2) (Z1 (Ze (Z1 az (Zb (va ah 3)))) (Z1 (aX bL (va ah 4) ao) (Z1 (aX bL (va ah 5) ao) ak))))))) ak))))))))))))))),?_⟩
 try dsimp only[bM]
 try dsimp only[bM]
 have ei:ps.length+2*n<=S.pb:=by omega
 have gb:=sc.ff;obtain⟨gw,gv,gu⟩:=sc.bb;have ee:U.dep+n<=S.kb:=by omega
 have ex:-1<=(p-1) / 3:=by omega
 have ew:(p-1) / 3<=1000:=by omega
 have gr:0<=as-1:=by omega
 have gq:as-1<n:=by omega
 refine vX ?_;intro N1 N2 N3 N4 N5 N6 N7 N8 c1 c2 c3 c4 c5 c6 c7 c8;fail "R";intro fm H1 gh gf x1;have w1:Wk K fe d S xs kl dl H (n+3) [] [] gs H1:=(Wk.nil sc).ext x1;have f8:=w1.sc.get (qG S);have gc:=w1.sc.ff;fail "R";intro r2 H2 cv fh x2;have w2:=w1.ext x2;have em:=w2.sc.ln;obtain⟨x,hx,wx⟩:=w2.sc.name cv (by omega);obtain⟨y,hy,wy⟩:=w2.sc.name (r:=5) (by decide) (by decide);have o:=w2.sc;have b6:=o.ff;have g0:=w2.qI ai;have fc:=w2.rp rk;have fz:=o.get (lF S);have GR:=o.GR;obtain⟨ka,G,ek,al,a0⟩:=o.kd.aY
 cases ek
 have br:=a0.length;rw[bC]at br;have k3:=o.k3;fail "R"
 have W:∀(h:Hd) (v:V) (H':Hp) (ts:List Tm) (J:List V) (g':List Int),Wk K fe d S xs kl dl H (n+3) ts J g' H'->cM h ts.length=true/\wV h->ts.length<=9->Rp K H' (kZ h (ts.map enc)) v->Q v H':=fun h v H' ts J g' w' ca l' r' =>
  k v H' (.mk h ts) g' w'.fr w'.sc (by rw[bw];exact r') (w'.tok ca l' (by omega)).1 (w'.tok ca l' (by omega)).2
 refine cH (fun c=>?_) (fun c=>?_)
 ·fail "R";refine qJ o fun l3 Z s3 dk h3=>?_;have w3:=w2.same s3;have dp:=w3.sc.ff;have bs:(kn kl).length<=100:=by omega
  fail "R";intro v4 H4 M x4 r4 o4 d4;have B:=w3.ext x4;have R:=B.sc;have ay:=B.qI ai;have db:M.dep+n<=S.kb:=by have:(1:Int).toNat=1:=rfl;omega
  fail "R";intro v5 H5 ag g5 f5 L r5 O d5;have u:=B.snoc f5 L r5 O d5;have bn:=r4.kt f5.kt;fail "R";intro p6 b0;have s6:=ae b0 (.tup [.str x,v4]);have h6:=Rp.new (K:=K) (xs:=[.s x,bW M]) b0 (.cons .s (.one bn));generalize upd H5 p6 (.tup [.str x,v4])=H6 at s6 h6⊢;have N:=u.same s6;fail "R";intro p7 ac;have s7:=ae ac (.lst [.ref p6]);have h7:wX K (upd H6 p7 (.lst [.ref p6])) p7 [(x,M)]:=⟨_,af,.one (h6.same s7)⟩;generalize upd H6 p7 (.lst [.ref p6])=H7 at s7 h7⊢;have w7:=N.same s7;have cb:=w7.qI ai;have g8:=cb.aa;fail "R"
  ·show ps.length+1<=900;omega
  intro p8 H8 s8 Y a8;have w8:=w7.same s8;have fy:=oZ ps [(x,M)];have gx:=cb.near (H6:=H8) w7.sc (fun q hq=>by rw[nt.mp hq];exact⟨o4,by show M.dep<=60;omega,wx⟩) (by show ps.length+1<=60;omega) Y a8;have e8:=w8.rp rk;have ey:=w8.sc;have eg:(oY ps [(x,M)]).length+2*n<=S.pb:=by have:[(x,M)].length=1:=rfl;omega
  fail "R";intro v9 H9 et g9 f9 ck r9 ch d9;have w9:=w8.snoc f9 ck r9 ch d9;fail "R";intro ab m;have I:=ae m (.tup [.str "let",.str x,v5,v9]);exact W (.lt x) _ _ _ _ _ (w9.same I) ⟨rfl,wx⟩ (by show 2<=9;decide) (Rp.new (K:=K) m (.cons .s (.cons .s w9.r)))
 refine c4 _ _ ?_;refine zg (fm=1\/fm=2/\kl.length=0) (fun C hA hB=>?_) (fun p1=>?_) (fun p1=>?_)
 ·clear c4 c5 c6 c7 c8;have b3:bz K H2 S.kd G\/bN K H2 S.kd G:=.inr al;fail "R";refine cH (fun c1=>?_) (fun c1=>?_)
  ·exact hA (.inl (by injection(of_decide_eq_true c1)))
  ·fail "R";refine cH (fun c2=>?_) (fun c2=>?_)
   ·fail "R";have e2:fm=2:=by injection(of_decide_eq_true c2)
    generalize hb:decide (V.int (G.length:Int)=V.int 0)=b
    cases b with
    |true =>
     have e3:=of_decide_eq_true hb;injection e3 with e3;exact hA (.inr ⟨e2,by omega⟩)
    |false =>
     refine hB fun z=>?_;rcases z with z|z
     ·rw[z]at e2;cases e2
     ·exact absurd (by rw[br,z.2];rfl) (of_decide_eq_false hb)
   ·refine hB fun z=>?_;rcases z with z|z
    ·exact c1 (decide_eq_true (by rw[z]))
    ·exact c2 (decide_eq_true (by rw[z.1]))
 ·clear c4 c5 c6 c7 c8;have rN:Rp K H2 (bW .num) (.str "num"):=.s;have oN:Kk.ok (kn kl) .num:=True.intro;have dN:Kk.dep .num+n<=S.kb:=by show 0+n<=S.kb;omega
  fail "R";intro v3 Z ev g3 f3 bc r3 cj d3;have w3:=w2.snoc f3 bc r3 cj d3;have gy:=w3.qI ai;have fb:=w3.rp rk;fail "R";intro v4 H4 eu g4 f4 R r4 ci d4;have B:=w3.snoc f4 R r4 ci d4;have ay:=B.qI ai;have aw:=B.rp rk;fail "R";intro v5 H5 ag g5 f5 L r5 O d5;have u:=B.snoc f5 L r5 O d5;fail "R";intro ab m;have I:=ae m (.tup [.str "if",v3,v4,v5]);exact W .ife _ _ _ _ _ (u.same I) ⟨rfl,True.intro⟩ (by show 3<=9;decide) (Rp.new (K:=K) m (.cons .s u.r))
 clear c4;fail "R";refine cH (fun c=>?_) (fun c=>?_)
 ·have e2:fm=2:=by injection(of_decide_eq_true c)
  have ft:(0:Int)<(G.length:Int):=by
   have:kl.length≠0:=fun z=>p1 (.inr ⟨e2,z⟩);omega
  have b3:bz K H2 S.kd G\/bN K H2 S.kd G:=.inr al;have fs:(G.length:Int)<1073741824:=by omega
  clear c5 c6 c7 c8;fail "R";intro r3 Z cu ct x3;have w3:=w2.ext x3;have bc:=w3.sc;have ec:=al.kt (x3.kt b6);obtain⟨v3,de,_⟩:=mj (xs:=G) cu ct
  have bu:G[r3.toNat]?=some v3:=by
   have:=bD (xs:=G) (j:=r3.toNat) (v:=G[r3.toNat]'(by omega)) (m3 (by omega));rw[show((r3.toNat:Nat):Int)=r3 by omega,de]at this;rw[m3 (by omega)];exact this.symm
  obtain⟨t3,bx,co⟩:=a0.get' bu;rw[rz]at bx;obtain⟨q3,dg,rfl⟩:=FA.mp bx;obtain⟨qa,q1,q2,rfl,fi,g1,g2⟩:=(show Rp K Z (.t [.s q3.1,.t (q3.2.map nR)]) v3 from co.kt (x3.kt b6)).t2;obtain rfl:=g1.aR;have hq:q3.1∈kn kl:=LC (we dg);have f2:=bc.get (lF S);fail "R";intro p4 b1;have s4:=ae b1 (.tup [.str "kind",.str q3.1]);have r4:Rp K (upd Z p4 (.tup [.str "kind",.str q3.1])) (bW (.kd q3.1)) (.ref p4):=Rp.new (K:=K) b1 (.cons .s (.one .s));generalize upd Z p4 (.tup [.str "kind",.str q3.1])=H4 at s4 r4⊢;have B:=w3.same s4;have R:=B.sc;have ay:=B.qI ai;have oK:Kk.ok (kn kl) (.kd q3.1):=hq;have dK:Kk.dep (.kd q3.1)+n<=S.kb:=by show 0+n<=S.kb;omega
  fail "R";intro v5 H5 ag g5 f5 L r5 O d5;have u:=B.snoc f5 L r5 O d5;have cc:=u.qI ai;have fa:=u.rp rk;have bn:=r4.kt f5.kt;have eh:ps.length+2*n+2<=S.pb:=by omega
  have e5:-1<=(p-1) / 4:=by omega
  have cp:(p-1) / 4<=1000:=by omega
  fail "R";intro v6 H6 a2 au g6 f6 eW r6 c0 fn cd bo dt;fail "R";intro p7 ac;have s7:=ae ac (.tup [.str "match",v5,v6]);refine k _ _ (.mk (.mat a2) (ag::au)) g6 ((u.fr.trans f6).same s7) (eW.same s7) ?_ ⟨.mk ?_ (by show au.length+1<=9;omega) ?_ cd,?_⟩ (Dp.mk (by omega) ?_ (by show au.length+1<=9;omega))
  ·rw[bw];exact Rp.new (K:=K) ac (.cons .s (.cons (r5.kt f6.kt) (.one r6)))
  ·show(au.length+1 == a2.length+1)=true;rw[c0];exact beq_self_eq_true _
  ·intro t ht;rcases ri.mp ht with rfl|h
   ·exact O.tk
   ·exact(bo t h).1
  ·obtain⟨fq,b5,_⟩:=eW.la;have:=(u.gg.trans u.sc (fun _ h=>u.new h) u.Ic f6 dt).go (eW.ni.same s7) ((s7 _ _ b5).trans b5.symm);rw[fJ rfl]
   simpa using this
  ·intro t ht;rcases ri.mp ht with rfl|h
   ·exact d5
   ·exact(bo t h).2
 fail "R";refine cH (fun c=>?_) (fun c=>?_)
 ·clear c6 c7 c8;have en:=o.get (qG S);have bs:(kn kl).length<=100:=by omega
  fail "R";refine qJ o fun l3 Z s3 dk h3=>?_;have w3:=w2.same s3;have dp:=w3.sc.ff;fail "R";intro v4 H4 M x4 r4 o4 d4;have B:=w3.ext x4;have R:=B.sc;have ay:=B.qI ai;have f1:=R.get (qG S);have el:=R.ln;have db:Kk.dep (.row M)+n<=S.kb:=by have:(0:Int).toNat=0:=rfl;show M.dep+1+n<=S.kb;omega
  have fl:Kk.ok (kn kl) (.row M):=o4;fail "R";intro p5 an;have s5:=ae an (.tup [.str "row",v4]);have r5:Rp K (upd H4 p5 (.tup [.str "row",v4])) (bW (.row M)) (.ref p5):=Rp.new (K:=K) an (.cons .s (.one r4));generalize upd H4 p5 (.tup [.str "row",v4])=H5 at s5 r5⊢;have u:=B.same s5;have L:=u.sc;have cc:=u.qI ai;fail "R";intro v6 H6 bj g6 f6 eW r6 a9 d6;have N:=u.snoc f6 eW r6 a9 d6;have dz:=N.qI ai;have e9:=N.rp rk;fail "R";intro v7 H7 bi g7 f7 ba r7 a7 d7;have w7:=N.snoc f7 ba r7 a7 d7;have cs:=((r4.same s5).kt f6.kt).kt f7.kt;fail "R";intro p8 Y;have s8:=ae Y (.tup [.str x,v4]);have h8:=Rp.new (K:=K) (xs:=[.s x,bW M]) Y (.cons .s (.one cs));generalize upd H7 p8 (.tup [.str x,v4])=H8 at s8 h8⊢;have w8:=w7.same s8;fail "R";intro p9 am;have s9:=ae am (.tup [.str y,vk]);have h9:=Rp.new (K:=K) (xs:=[.s y,bW U]) am (.cons .s (.one (w8.rp rk)));have b7:=h8.same s9;generalize upd H8 p9 (.tup [.str y,vk])=H9 at s9 h9 b7⊢;have w9:=w8.same s9;fail "R";intro ab m;have I:=ae m (.lst [.ref p8,.ref p9]);have ds:wX K (upd H9 ab (.lst [.ref p8,.ref p9])) ab [(x,M),(y,U)]:=⟨_,af,.cons (b7.same I) (.one (h9.same I))⟩;generalize upd H9 ab (.lst [.ref p8,.ref p9])=H10 at I ds⊢;have a6:=w9.same I;have a3:=a6.qI ai;have eq:=a3.aa;fail "R"
  ·show ps.length+2<=900;omega
  intro fk d1 cm b2 d0;have a5:=a6.same cm
  have ep:=a3.near (H6:=d1) a6.sc (fun q hq=>by
   rcases ri.mp hq with rfl|hq
   ·exact⟨o4,by show M.dep<=60;have:(0:Int).toNat=0:=rfl;omega,wx⟩
   ·rw[nt.mp hq];exact⟨ok,by show U.dep<=60;omega,wy⟩) (by show ps.length+2<=60;omega) b2 d0
  have eb:=a5.rp rk;have d8:=a5.sc;have ej:=oZ ps [(x,M),(y,U)];have di:(oY ps [(x,M),(y,U)]).length+2*n<=S.pb:=by have:[(x,M),(y,U)].length=2:=rfl;omega
  fail "R";intro cf hc d2 ge du bl cw bk dy;have bh:=a5.snoc du bl cw bk dy;fail "R";intro fj a1;have cl:=ae a1 (.tup [.str "fold",v6,.str x,.str y,v7,cf]);refine W (.fold x y) _ _ _ _ _ (bh.same cl) ⟨rfl,wx,wy⟩ (by show 3<=9;decide) ?_;obtain⟨_,_,ez,q1,q2⟩:=bI.inv (K:=K) (x:=enc bj) bh.r
  cases ez
  exact Rp.new (K:=K) a1 (.cons .s (.cons q1 (.cons .s (.cons .s q2))))
 have f0:=o.get (uV S);obtain⟨dw,dr,b8⟩:=o.ld;fail "R";have ed:(bW U).dep<=150:=I0 (iz U) (by omega);have fo:=b8.len;have gn:=o.dl.1;refine fg (K:=K) (xs:=dw) (fun i σ J Z=>(∃y,σ=[y,some vk])/\Z=H2/\J.length<=i/\∀v∈J,∃dd∈dl,AJ K H2 (S.nn fe) dd v) ⟨⟨_,rfl⟩,rfl,lj _,fun v h=>nomatch h⟩ ?_ (small (by omega)) ?_ ?_ ?_
 ·rintro i σ J Z hi ⟨_,_,h,_⟩;exact h
 ·rintro i σ J Z hi ⟨_,rfl,_⟩;exact bz.of dr
 ·rintro i v σ J Z hv ⟨⟨_,rfl⟩,rfl,hl,hu⟩;obtain⟨dd,aq,da⟩:=b8.get hv;have dx:=da;obtain⟨a,l,g,X,rfl,b9,b4,be,rg,bp⟩:=da;have gd:(bW dd.2.2).dep<=150:=I0 (iz _) (by have:=(o.dl.2 dd aq).2.2.2.1;omega);fail "R";refine cH (fun c=>?_) (fun c=>?_)
  ·fail "R"
   ·rw[lu];show J.length+1<=i+1;omega
   ·exact fun v hv=>(Li.mp hv).elim (hu v) (fun h=>by rw[nt.mp h];exact⟨dd,aq,dx⟩)
  ·fail "R";exact hu
 rintro σ J Z ⟨_,rfl,hl,hu⟩ ls hls;have s4:=ae hls (.lst J);have h4:upd Z ls (.lst J) ls=some (.lst J):=af;generalize upd Z ls (.lst J)=H4 at s4 h4⊢;have B:=w2.same s4;have n4:=o.no hls;have R:=B.sc;have ay:=B.qI ai;have aw:=B.rp rk;have dn:=R.ff;clear c5 c6;refine c8 _ _ ?_;refine oF ?_;intro N9 ha c9 ax;clear c7 c8;refine zg (fm=4/\0<J.length) (fun C hA hB=>?_) (fun p1=>?_) (fun p1=>?_)
 ·clear c9 ax;fail "R";refine cH (fun c1=>?_) (fun c1=>?_)
  ·fail "R";have e4:fm=4:=by injection(of_decide_eq_true c1)
   generalize hb:decide ((0:Int)<(J.length:Int))=b
   cases b with
   |true=>exact hA ⟨e4,by have:=of_decide_eq_true hb;omega⟩
   |false=>exact hB fun z=>absurd (by have:=z.2;omega) (of_decide_eq_false hb)
  ·exact hB fun z=>c1 (decide_eq_true (by rw[z.1]))
 ·clear c9 ax;have es:(0:Int)<(J.length:Int):=by have:=p1.2;omega
  have er:(J.length:Int)<1073741824:=by omega
  fail "R";intro r5 H5 cr cq x5;have u:=B.ext x5;have h5:=x5.1 _ _ n4.1 h4;obtain⟨v5,fw,dj⟩:=mj (xs:=J) cr cq;obtain⟨dd,aq,a,l,g,X,rfl,b9,b4,be,rg,bp⟩:=hu v5 dj;obtain⟨n1,n2,_⟩:=fX bp;obtain⟨gi,dv,_⟩:=o.dl.2 dd aq;have bt:Kt Z H5:=(Kt.same s4).trans (x5.kt dn);have eo:=b9.kt bt;have bm:=be.kt bt;have cz:=be.length;rw[bC]at cz;have ap:=x5.1 _ _ n1 (s4 _ _ b4);obtain⟨fp,dc,_⟩:=u.sc.la;have cy:l≠S.la:=cD ap dc (fun z=>nomatch z)
  have ef:=bz.of (K:=K) ap;fail "R";refine fg (K:=K) (xs:=X) (fun i σ D H6=>(∃y,σ=[y,some (.ref fe),some (.ref d),some (.ref ar),some (.int p),some (.int as),some (.ref l)])/\H6 l=some (.lst X)/\Kt H5 H6/\CI K fe d S xs kl dl H (n+3) i D H6) ⟨⟨_,rfl⟩,ap,Kt.refl,⟨[],gs,u,rfl⟩⟩ ?_ (small (by omega)) ?_ ?_ ?_
  ·rintro i σ D H6 hi ⟨_,_,_,⟨ts,g6,N,e⟩⟩;rw[N.r.length,bC,e];exact lj _
  ·rintro i σ D H6 hi ⟨_,h6,_⟩;exact bz.of h6
  ·rintro i yv σ D H6 hyv ⟨⟨_,rfl⟩,h6,k6,⟨ts,g6,N,bq⟩⟩;obtain⟨t6,bv,cn⟩:=bm.get' hyv;rw[rz]at bv;obtain⟨q6,df,rfl⟩:=FA.mp bv;obtain⟨oq,dq⟩:=dv q6 (we df);have eW:=N.sc;have dz:=N.qI ai;have ea:=cn.kt k6;have gj:q6.dep+n<=S.kb:=by omega
   have b3:bz K H6 l X\/bN K H6 l X:=.inl (bz.of h6);have e0:1<=(if(X.length:Int)>1 then(X.length:Int)else 1):=by split<;>omega
   have cp:-1<=(p-1) / (if(X.length:Int)>1 then(X.length:Int)else 1):=by
    have:=RN (a:=p-1) (b:=if(X.length:Int)>1 then(X.length:Int)else 1) (by omega) (by omega);omega
   have e1:(p-1) / (if(X.length:Int)>1 then(X.length:Int)else 1)<=1000:=by
    have:=Rt (a:=p-1) (if(X.length:Int)>1 then(X.length:Int)else 1) (by omega);omega
   fail "R";intro v7 H7 bi g7 f7 ba r7 a7 d7;fail "R"
   ·exact f7.eK n2 cy n1 h6
   ·exact⟨k6.trans f7.kt,⟨ts++[bi],g7,N.snoc f7 ba r7 a7 d7,by rw[lu,bq];rfl⟩⟩
  ·rintro σ D H6 ⟨_,_,_,⟨ts,g6,N,bq⟩⟩ p7 ac;have s7:=ae ac (.lst D);have h7:upd H6 p7 (.lst D) p7=some (.lst D):=af;have r7:=N.r.same s7;have w7:=N.same s7;generalize upd H6 p7 (.lst D)=H7 at s7 h7 r7 w7⊢;fail "R";refine .inl ⟨bz.of h7,fun p8 Y=>?_⟩;have s8:=ae Y (.tup D);have r8:=Rp.new (K:=K) Y r7;have w8:=w7.same s8;generalize upd H7 p8 (.tup D)=H8 at s8 r8 w8⊢;fail "R";intro p9 am;have s9:=ae am (.tup [.str "call",.str dd.1,.ref p8]);exact W (.call dd.1) _ _ _ _ _ (w8.same s9) ⟨rfl,(o.dl.2 dd aq).2.2.2.2⟩ (by omega) (Rp.new (K:=K) am (.cons .s (.cons .s (.one r8))))
 refine c9 _ _ ?_;clear c9;have rN:Rp K H4 (T.s "num") (.str "num"):=.s;refine zg (pR U) (fun C hA hB=>?_) (fun _=>?_) (fun _=>?_)
 ·clear ax;fail "R";refine cH (fun c1=>?_) (fun c1=>?_)
  ·cases U with
   |num=>exact absurd c1 (by decide +kernel)
   |op n=>exact absurd ok id
   |kd x1 =>
    obtain⟨va,v1,v2,rfl,ce,g1,g2⟩:=(show Rp K H4 (.t [.s "kind",.s x1]) vk from aw).t2;obtain rfl:=g1.aR;fail "R";exact hB id
   |row k2 =>
    obtain⟨va,v1,v2,rfl,ce,g1,g2⟩:=(show Rp K H4 (.t [.s "row",bW k2]) vk from aw).t2;obtain rfl:=g1.aR;have gp:(bW k2).dep<=150:=I0 (iz _) (by have:Kk.dep (.row k2)=k2.dep+1:=rfl;omega);fail "R";generalize hb:decide (bW k2=T.s "num")=b
    cases b with
    |true=>exact hB fun z=>z (of_decide_eq_true hb)
    |false=>exact hA (of_decide_eq_false hb)
  ·refine hB fun z=>?_
   cases U with
   |row k2=>exact c1 (by rw[show decide (bW (.row k2)=T.s "num")=false from decide_eq_false (fun z=>nomatch z)];rfl)
   |num=>exact z
   |kd _=>exact z
   |op _=>exact z
 ·clear ax;have fv:U.dep<=60:=by omega
  fail "R";intro v5 H5 ag g5 f5 L r5 O d5;exact k v5 H5 ag g5 (B.fr.trans f5) L r5 (B.Gq f5 O) (d5.mono (by omega))
 ·fail "R";intro p5 an;have s5:=ae an (.tup [.str "row",vk]);have r5:Rp K (upd H4 p5 (.tup [.str "row",vk])) (bW (.row U)) (.ref p5):=Rp.new (K:=K) an (.cons .s (.one aw));generalize upd H4 p5 (.tup [.str "row",vk])=H5 at s5 r5⊢;have u:=B.same s5;have L:=u.sc;have cc:=u.qI ai;have oR:Kk.ok (kn kl) (.row U):=ok;have dR:Kk.dep (.row U)+n<=S.kb:=by show U.dep+1+n<=S.kb;omega
  fail "R";intro v6 H6 bj g6 f6 eW r6 a9 d6;have N:=u.snoc f6 eW r6 a9 d6;fail "R";intro ab m;have I:=ae m (.tup [.str "first",v6]);exact W .first _ _ _ _ _ (N.same I) ⟨rfl,True.intro⟩ (by show 1<=9;decide) (Rp.new (K:=K) m (.cons .s N.r))
end
theorem pZ{d:Type}{P:List d->Prop}(h:∀a,P [a]):∀us:List d,us.length=1->P us
 | [a],_=>h a
theorem qb{d:Type}{P:List d->Prop}(h:∀a b,P [a,b]):∀us:List d,us.length=2->P us
 | [a,b],_=>h a b
theorem vq{d:Type}{P:List d->Prop}(h:∀a b c,P [a,b,c]):∀us:List d,us.length=3->P us
 | [a,b,c],_=>h a b c
theorem Ew{e:Type}{P:List e->Prop}(h:∀a b c d,P [a,b,c,d]):∀us:List e,us.length=4->P us
 | [a,b,c,d],_=>h a b c d
theorem Iu{g:Type}{P:List g->Prop}(h:∀a b c d e,P [a,b,c,d,e]):∀us:List g,us.length=5->P us
 | [a,b,c,d,e],_=>h a b c d e
theorem Iv{g:Type}{P:List g->Prop}(h:∀a b c d e f,P [a,b,c,d,e,f]):∀us:List g,us.length=6->P us
 | [a,b,c,d,e,f],_=>h a b c d e f
theorem JG{j:Type}{P:List j->Prop}(h:∀a b c d e f g,P [a,b,c,d,e,f,g]):∀us:List j,us.length=7->P us
 | [a,b,c,d,e,f,g],_=>h a b c d e f g
section
variable {P:FG}{w:Lk}{K:bA}{mg:Str->Option j3}{base:Heap}{gA gB gC gW gN gT gS gK gL:Addr}{afd bfd cfd wfd nfd tfd sfd kfd lfd:zo}
theorem zS(F:gX K "_law_any_kind" "_law_any_kind" fq gA afd)(e:mg "_law_any_kind"=some (.ref gA))(g:Binds K afd ["_law_feed_here","_law_known","_law_down"] [])(l:bY P w K mg base "_law_take" 1 ["_law_feed_here","_law_many"] eJ gT tfd)(z_len:mg "len"=none):∀n,bK P w K mg base eL (n+1) gA afd ["_law_feed_here","_law_known","_law_down"] (fW K n)
 |0=>mX fun o H Q E ⟨_,_,d,_,_,_,_,_,p,m,_⟩=>by have:d<0:=m;omega
 |n+1=>wO (j:=n+1) (by omega) F l ⟨zS F e g l z_len n,e,F.kp,g⟩ z_len
theorem sj(F:gX K "_law_nought" "_law_nought" fQ gA afd)(e:mg "_law_nought"=some (.ref gA))(g:Binds K afd ["_law_feed_here","_law_scene_here","_law_kind"] [])(l:bY P w K mg base "_law_number" 2 ["_law_feed_here"] oX gN nfd)(TG:bY P w K mg base "_law_tags_of" 1 ["_law_scene_here","_law_kind"] (kR K) gT tfd)(d:mg "tuple"=none):∀n,bK P w K mg base eL (n+2) gA afd ["_law_feed_here","_law_scene_here","_law_kind"] (mS K n)
 |0=>mX fun m H Q E ⟨_,_,_,_,_,_,_,_,_,_,_,_,_,_,_,h,_⟩=>by omega
 |n+1=>AM (j:=n+2) (by omega) F l TG ⟨sj F e g l TG d n,e,F.kp,g⟩ d
theorem sr(q:gX K "_law_term" "_law_term" gJ gA afd)(y:gX K "_law_generic" "_law_generic" cZ gB bfd)(z:gX K "_law_arms" "_law_arms" jx gC cfd)(r:mg "_law_term"=some (.ref gA))(t:Binds K afd ["_law_feed_here","_law_scene_here","_law_around","_law_kind","_law_room","_law_down"] [])(D:mg "_law_generic"=some (.ref gB))(I:Binds K bfd ["_law_feed_here","_law_scene_here","_law_around","_law_kind","_law_room","_law_down"] [])(C:mg "_law_arms"=some (.ref gC))(G:Binds K cfd ["_law_feed_here","_law_scene_here","_law_around","_law_kind","_law_goal","_law_share","_law_down"] [])(u:bY P w K mg base "_law_take" 1 ["_law_feed_here","_law_many"] eJ gT tfd)(B:bY P w K mg base "_law_any_kind" 4 ["_law_feed_here","_law_known","_law_down"] (fW K 3) gK kfd)(TG:bY P w K mg base "_law_tags_of" 1 ["_law_scene_here","_law_kind"] (kR K) gS sfd)(A:bY P w K mg base "_law_bound" 1 ["_law_around","_law_more"] (qH K) gN nfd)(v:bY P w K mg base "_law_leaf" 7 ["_law_feed_here","_law_scene_here","_law_around","_law_kind"] (ve K) gL lfd)(z_len:mg "len"=none)(m:mg "list"=none)(e:mg "tuple"=none)(o:mg "zip"=none)(z_range:mg "range"=none)(l:mg "max"=none)(g:mg "reversed"=none)(p:mg "int"=none):∀n,n<=10->bK P w K mg base eL (3*n+8) gA afd ["_law_feed_here","_law_scene_here","_law_around","_law_kind","_law_room","_law_down"] (nT K n)
 |0,_=>mX fun N H Q E ⟨_,_,_,_,_,d,_,_,_,_,_,_,_,_,_,_,_,_,_,O,J,_⟩=>by have:d<0:=J;omega
 |n+1,hn=>by
  have TE:=sr q y z r t D I C G u B TG A v z_len m e o z_range l g p n (by omega);have M:=Er (j:=3*n+8) (n:=n) (by omega) z u TG A ⟨TE,r,q.kp,t⟩ z_len m e o z_range g;have L:=yI (j:=3*n+9) (ja:=3*n+9) (jl:=7) (jk:=4) (je:=3*n+8) (n:=n) (by omega) (by omega) (by omega) (by omega) (by omega) (by omega) y u B A ⟨TE,r,q.kp,t⟩ ⟨M,C,z.kp,G⟩ v z_len e l;exact El (j:=3*n+10) (n:=n) (jg:=3*n+10) (jl:=7) (jk:=4) (je:=3*n+8) (by omega) (by omega) (by omega) (by omega) (by omega) (by omega) q u B TG ⟨TE,r,q.kp,t⟩ ⟨L,D,y.kp,I⟩ v z_len e l z_range p
theorem xC(F:gX K "_law_put" "_law_put" jQ gA afd)(g:mg "_law_put"=some (.ref gA))(l:Binds K afd ["_law_term_here","_law_put_here"] [])(e:mg "tuple"=none)(d:mg "isinstance"=none):∀n,bK P w K mg base eL (n+4) gA afd ["_law_term_here","_law_put_here"] (uU K n)
 |0=>mX fun m H Q E ⟨_,_,_,_,_,_,_,_,h,_⟩=>by omega
 |n+1=>Ed (j:=n+4) (by omega) F ⟨xC F g l e d n,g,F.kp,l⟩ e d
theorem ug(F:gX K "_law_kind_put" "_law_kind_put" gM gA afd)(d:mg "_law_kind_put"=some (.ref gA))(e:Binds K afd ["_law_kind","_law_put_here"] []):∀n,n<=101->bK P w K mg base eL (n+4) gA afd ["_law_kind","_law_put_here"] (qL K n)
 |0,_=>mX fun g H Q E ⟨_,_,_,_,_,_,_,h,_⟩=>by omega
 |n+1,hn=>CW (j:=n+4) (by omega) (by omega) F ⟨ug F d e n (by omega),d,F.kp,e⟩
theorem su(F:gX K "_law_opens" "_law_opens" kE gA afd)(e:mg "_law_opens"=some (.ref gA))(g:Binds K afd ["_law_kind"] [])(d:mg "int"=none):∀n,n<=101->bK P w K mg base eL (n+4) gA afd ["_law_kind"] (pB K n)
 |0,_=>mX fun l H Q E ⟨_,_,_,_,h,_⟩=>by omega
 |n+1,hn=>AX (j:=n+4) (by omega) (by omega) F ⟨su F e g d n (by omega),e,F.kp,g⟩ d
end
end G33
namespace G33
open PySem L2 PySem.W
structure FnAt(K:Frag) (x qual:Str) (st:Stmt) (f:Addr) (fd:zo):Prop where
 ex:∃(od:Option Addr) (kV doc pm:j3) (an:Option Addr) (cdv ct:j3) (osl:Array (Option j3)),
  fd=fnOf x qual (eY st) (bS st) (aj st) .none kV doc pm an cdv ct/\K.lookup f=some ⟨.type "function",od,.func fd,osl⟩/\Pd K cdv qual=true
 kp:MO K (.ref f)=true
theorem FnAt.f{K:Frag}{x d:Str}{st:Stmt}{f:Addr}{o:zo}(F:FnAt K x d st f o):gX K x d st f o:=by
 obtain⟨q,kV,j,p,t,m,r,g,e,l,c⟩:=F.ex;exact⟨⟨_,q,kV,j,p,t,m,r,g,e,l,c⟩,F.kp⟩
theorem aV{K:Frag}{x d:Str}{st:Stmt}{f:Addr}{p o:Option Addr}{j:Array (Option j3)}{kV g m e ct:j3}(l:K.lookup f=some ⟨.type "function",p,.func (fnOf x d (eY st) (bS st) (aj st) .none kV g m o e ct),j⟩)
  (c:Pd K e d=true) (k:MO K (.ref f)=true):FnAt K x d st f (fnOf x d (eY st) (bS st) (aj st) .none kV g m o e ct):=⟨⟨p,kV,g,m,o,e,ct,j,rfl,l,c⟩,k⟩
noncomputable def sy(K:Frag)(a:Addr)(ns:List Nat):Bool:=match K.lookup a with
 |some ⟨.type "tuple",none,.seq its _,_⟩=>its.toList.length == ns.length&&(its.toList.zip ns).all (fun p=>match p.1 with|.int i _=>i == (p.2:Int)|_=>false)
 |_=>false
theorem lI{K:Frag}{a:Addr}{ns:List Nat}(h:sy K a ns=true)(hn:ns.length<=10):∀H,bN K H a (ns.map fun(j:Nat)=>V.int (j:Int)):=by
 intro H;unfold sy at h
 split at h
 ·rename_i d n A e
  rw[Mj]at h;obtain⟨g,p⟩:=h
  replace g:=NJ g
  have u:d.size<=nk:=by
   have z:d.toList.length=d.size:=by simp
   exact small (by omega)
  refine .inr ⟨_,d,n,e,rfl,rfl,u,?_,rfl⟩;clear u e;generalize d.toList=l at g p;clear hn
  induction l generalizing ns with
  |nil=>cases ns with
   |nil=>exact .nil
   |cons _ _=>simp at g
  |cons v r ih =>
   cases ns with
   |nil=>simp at g
   |cons m q =>
    rw[Nq,Pn,Mj]at p;obtain⟨o,w⟩:=p;refine .cons ?_ (ih (by simpa using g) w)
    split at o
    ·rename_i i t y
     have:i=(m:Int):=NJ o;subst this;exact⟨t,y⟩
    ·cases o
 ·cases h
theorem all_mk{l:P4}{w:Lk}{K:Frag}{h:Heap}{mg:Str->Option j3}{g1 g2 g3 g4 g5 g6 g7 g8 g9 bh bg bf N be bc bb ba a0 ay ax aw au as ar aq bx bw L ap am al ai ah ag ae ad ac ab aa Z Y W U bv fa cd Pt dP dM t0 t1 t2 t3 t4 t5 t6 t7 t8:Addr}{e1 e2 e3 e4 e5 e6 e7 e8 e9 cx cw cv bl cu cs cr cq cp co cn cm cl ck cj ci d5 d4 bk ch cf ce cb ca b9 b8 b7 b6 b5 b4 b3 b2 b1 b0 d3:zo}{bi bj:Array OS}{nP nM:Nat}(X:K.In h)(G:h.Ns ur mg)(d2:mg "law"=some (.ref fa))
  (a1:nsIn K ur "from_below"=some (some (.ref g1)))
  (a2:nsIn K ur "kind_deep"=some (some (.ref g2)))
  (a3:nsIn K ur "innermost"=some (some (.ref g3)))
  (a4:nsIn K ur "in_rows"=some (some (.ref g4)))
  (a5:nsIn K ur "right_in"=some (some (.ref g5)))
  (a6:nsIn K ur "inner_terms"=some (some (.ref g6)))
  (a7:nsIn K ur "with_inner"=some (some (.ref g7)))
  (a8:nsIn K ur "parts"=some (some (.ref g8)))
  (a9:nsIn K ur "gaps_in"=some (some (.ref g9)))
  (a10:nsIn K ur "with_gaps_put"=some (some (.ref bh)))
  (a11:nsIn K ur "gaps"=some (some (.ref bg)))
  (a12:nsIn K ur "opens_in"=some (some (.ref bf)))
  (a13:nsIn K ur "look_fillings"=some (some (.ref N)))
  (a14:nsIn K ur "kind_put"=some (some (.ref be)))
  (a15:nsIn K ur "filled"=some (some (.ref bc)))
  (a16:nsIn K ur "_law_feed"=some (some (.ref bb)))
  (a17:nsIn K ur "_law_take"=some (some (.ref ba)))
  (a18:nsIn K ur "_law_names"=some (some (.ref a0)))
  (a19:nsIn K ur "_law_number"=some (some (.ref ay)))
  (a20:nsIn K ur "_law_any_kind"=some (some (.ref ax)))
  (a21:nsIn K ur "_law_kinds"=some (some (.ref aw)))
  (a22:nsIn K ur "_law_tags_of"=some (some (.ref au)))
  (a23:nsIn K ur "_law_nought"=some (some (.ref as)))
  (a24:nsIn K ur "_law_leaf"=some (some (.ref ar)))
  (a25:nsIn K ur "_law_bound"=some (some (.ref aq)))
  (a26:nsIn K ur "_law_arms"=some (some (.ref bx)))
  (a27:nsIn K ur "_law_generic"=some (some (.ref bw)))
  (a28:nsIn K ur "_law_term"=some (some (.ref L)))
  (a29:nsIn K ur "_law_scene"=some (some (.ref ap)))
  (a30:nsIn K ur "_law_held"=some (some (.ref am)))
  (a31:nsIn K ur "_law_hidden"=some (some (.ref al)))
  (a32:nsIn K ur "_law_program_of"=some (some (.ref ai)))
  (a33:nsIn K ur "_law_filling"=some (some (.ref ah)))
  (a34:nsIn K ur "_law_gaps"=some (some (.ref ag)))
  (a35:nsIn K ur "_law_kind_put"=some (some (.ref ae)))
  (a36:nsIn K ur "_law_opens"=some (some (.ref ad)))
  (a37:nsIn K ur "_law_there"=some (some (.ref ac)))
  (a38:nsIn K ur "_law_due"=some (some (.ref ab)))
  (a39:nsIn K ur "_law_open_filling"=some (some (.ref aa)))
  (a40:nsIn K ur "_law_put"=some (some (.ref Z)))
  (a41:nsIn K ur "_law_drawn"=some (some (.ref Y)))
  (a42:nsIn K ur "_law_fillings"=some (some (.ref W)))
  (a43:nsIn K ur "_law_exchanged"=some (some (.ref U)))
  (a44:nsIn K ur "law"=some (some (.ref bv)))
  (F1:FnAt K "from_below" "from_below" fh g1 e1)
  (F2:FnAt K "kind_deep" "kind_deep" iF g2 e2)
  (F3:FnAt K "innermost" "innermost" iG g3 e3)
  (F4:FnAt K "in_rows" "in_rows" ku g4 e4)
  (F5:FnAt K "right_in" "right_in" ie g5 e5)
  (F6:FnAt K "inner_terms" "inner_terms" iy g6 e6)
  (F7:FnAt K "with_inner" "with_inner" fj g7 e7)
  (F8:FnAt K "parts" "parts" uF g8 e8)
  (F9:FnAt K "gaps_in" "gaps_in" mY g9 e9)
  (F10:yo K "with_gaps_put" "with_gaps_put" bQ bh cx cd)
  (F11:FnAt K "gaps" "gaps" nJ bg cw)
  (F12:FnAt K "opens_in" "opens_in" jt bf cv)
  (F13:FnAt K "look_fillings" "look_fillings" cS N bl)
  (F14:FnAt K "kind_put" "kind_put" jv be cu)
  (F15:FnAt K "filled" "filled" kA bc cs)
  (F16:FnAt K "_law_feed" "_law_feed" rB bb cr)
  (F17:FnAt K "_law_take" "_law_take" rC ba cq)
  (F18:FnAt K "_law_names" "_law_names" cI a0 cp)
  (F19:FnAt K "_law_number" "_law_number" jw ay co)
  (F20:FnAt K "_law_any_kind" "_law_any_kind" fq ax cn)
  (F21:FnAt K "_law_kinds" "_law_kinds" jb aw cm)
  (F22:FnAt K "_law_tags_of" "_law_tags_of" iH au cl)
  (F23:FnAt K "_law_nought" "_law_nought" fQ as ck)
  (F24:FnAt K "_law_leaf" "_law_leaf" kB ar cj)
  (F25:FnAt K "_law_bound" "_law_bound" ig aq ci)
  (F26:FnAt K "_law_arms" "_law_arms" jx bx d5)
  (F27:FnAt K "_law_generic" "_law_generic" cZ bw d4)
  (F28:FnAt K "_law_term" "_law_term" gJ L bk)
  (F29:FnAt K "_law_scene" "_law_scene" kD ap ch)
  (F30:FnAt K "_law_held" "_law_held" mq am cf)
  (F31:FnAt K "_law_hidden" "_law_hidden" lC al ce)
  (F32:FnAt K "_law_program_of" "_law_program_of" cF ai cb)
  (F33:FnAt K "_law_filling" "_law_filling" iI ah ca)
  (F34:FnAt K "_law_gaps" "_law_gaps" mw ag b9)
  (F35:FnAt K "_law_kind_put" "_law_kind_put" gM ae b8)
  (F36:FnAt K "_law_opens" "_law_opens" kE ad b7)
  (F37:FnAt K "_law_there" "_law_there" kH ac b6)
  (F38:FnAt K "_law_due" "_law_due" mZ ab b5)
  (F39:FnAt K "_law_open_filling" "_law_open_filling" dX aa b4)
  (F40:FnAt K "_law_put" "_law_put" jQ Z b3)
  (F41:FnAt K "_law_drawn" "_law_drawn" kI Y b2)
  (F42:FnAt K "_law_fillings" "_law_fillings" fu W b1)
  (F43:FnAt K "_law_exchanged" "_law_exchanged" fH U b0)
  (F44:FnAt K "law" "law" qh bv d3)
  (pP:nsIn K ur "PLACES"=some (some (.ref dP)))
  (lP:K.lookup dP=some {cls:=.type "dict",dict:=none,data:=.dict bi nP,slots:=#[]})
  (kP:EG w bi.toList [("num",V.ref t0),("name",V.ref t1),("gap",V.ref t2),("op",V.ref t3),("more",V.ref t4),("first",V.ref t5),("others",V.ref t6),("long",V.ref t7),("if",V.ref t8)])
  (sP:(dP == MC)=false)
  (pM:nsIn K ur "PLACE_OF_MANY"=some (some (.ref dM)))
  (lM:K.lookup dM=some {cls:=.type "dict",dict:=none,data:=.dict bj nM,slots:=#[]})
  (kM:EG w bj.toList pS)
  (sM:(dM == MC)=false)
  (q0:sy K t0 []=true)
  (q1:sy K t1 []=true)
  (q2:sy K t2 []=true)
  (q3:sy K t3 [2,3]=true)
  (q4:sy K t4 [1,2]=true)
  (q5:sy K t5 [1]=true)
  (q6:sy K t6 [1]=true)
  (q7:sy K t7 [1]=true)
  (q8:sy K t8 [1,2,3]=true)
  (z0:nsIn K ur "len"=some none)
  (z1:nsIn K ur "range"=some none)
  (z2:nsIn K ur "int"=some none)
  (z3:nsIn K ur "tuple"=some none)
  (z4:nsIn K ur "list"=some none)
  (z5:nsIn K ur "zip"=some none)
  (z6:nsIn K ur "dict"=some none)
  (z7:nsIn K ur "repr"=some none)
  (z8:nsIn K ur "max"=some none)
  (z9:nsIn K ur "min"=some none)
  (z10:nsIn K ur "isinstance"=some none)
  (z11:nsIn K ur "reversed"=some none)
  (z12:nsIn K ur "enumerate"=some none) :
  ∃fd:zo,(∀(s:mu) (v:j3),SE s fd ⟨[v],[]⟩ [("_law_script",v)])/\∀g:Heap,K.In g->g.Ns ur mg->CodeHd g cd Pt->sN g mg->bK l.prog w K mg g eL 109 fa fd ["_law_script"] (zR Pt K):=by
 have e:=d2.symm.trans (Mq X G a44)
 cases e
 have B1:=F1.f.binds (ps:=["root","inner_of","make"]) fun _ _ _ _ _ _=>vq fun _ _ _=>rfl;have u1:=Mq X G a1;have B2:=F2.f.binds (ps:=["kind"]) fun _ _ _ _ _ _=>pZ fun _=>rfl;have u2:=Mq X G a2;have B3:=F3.f.binds (ps:=["kind"]) fun _ _ _ _ _ _=>pZ fun _=>rfl;have u3:=Mq X G a3;have B4:=F4.f.binds (ps:=["kind","depth"]) fun _ _ _ _ _ _=>qb fun _ _=>rfl;have u4:=Mq X G a4;have B5:=F5.f.binds (ps:=["term"]) fun _ _ _ _ _ _=>pZ fun _=>rfl;have u5:=Mq X G a5;have B6:=F6.f.binds (ps:=["term"]) fun _ _ _ _ _ _=>pZ fun _=>rfl;have u6:=Mq X G a6;have B7:=F7.f.binds (ps:=["term","inner"]) fun _ _ _ _ _ _=>qb fun _ _=>rfl;have u7:=Mq X G a7;have B8:=F8.f.binds (ps:=["term"]) fun _ _ _ _ _ _=>pZ fun _=>rfl;have u8:=Mq X G a8;have B9:=F9.f.binds (ps:=["term"]) fun _ _ _ _ _ _=>pZ fun _=>rfl;have u9:=Mq X G a9;have fp:=F10.f.binds (ps:=["term","puts"]) fun _ _ _ _ _ _=>qb fun _ _=>rfl;have d0:=Mq X G a10;have fo:=F11.f.binds (ps:=["program"]) fun _ _ _ _ _ _=>pZ fun _=>rfl;have dz:=Mq X G a11;have da:=F12.f.binds (ps:=["kind"]) fun _ _ _ _ _ _=>pZ fun _=>rfl;have bu:=Mq X G a12;have c9:=F13.f.binds (ps:=["fillings","there","gaps_of"]) fun _ _ _ _ _ _=>vq fun _ _ _=>rfl;have bt:=Mq X G a13;have fn:=F14.f.binds (ps:=["kind","puts"]) fun _ _ _ _ _ _=>qb fun _ _=>rfl;have dy:=Mq X G a14;have fm:=F15.f.binds (ps:=["program","terms","kinds"]) fun _ _ _ _ _ _=>vq fun _ _ _=>rfl;have dx:=Mq X G a15;have fl:=F16.f.binds (ps:=["_law_script","_law_k"]) fun _ _ _ _ _ _=>qb fun _ _=>rfl;have dw:=Mq X G a16;have fk:=F17.f.binds (ps:=["_law_feed_here","_law_many"]) fun _ _ _ _ _ _=>qb fun _ _=>rfl;have dv:=Mq X G a17;have fi:=F18.f.binds (ps:=["_law_feed_here","_law_many"]) fun _ _ _ _ _ _=>qb fun _ _=>rfl;have du:=Mq X G a18;have fg:=F19.f.binds (ps:=["_law_feed_here"]) fun _ _ _ _ _ _=>pZ fun _=>rfl;have dt:=Mq X G a19;have c8:=F20.f.binds (ps:=["_law_feed_here","_law_known","_law_down"]) fun _ _ _ _ _ _=>vq fun _ _ _=>rfl;have bs:=Mq X G a20;have ff:=F21.f.binds (ps:=["_law_feed_here","_law_names_here","_law_tags"]) fun _ _ _ _ _ _=>vq fun _ _ _=>rfl;have ds:=Mq X G a21;have fe:=F22.f.binds (ps:=["_law_scene_here","_law_kind"]) fun _ _ _ _ _ _=>qb fun _ _=>rfl;have dr:=Mq X G a22;have c7:=F23.f.binds (ps:=["_law_feed_here","_law_scene_here","_law_kind"]) fun _ _ _ _ _ _=>vq fun _ _ _=>rfl;have br:=Mq X G a23;have fc:=F24.f.binds (ps:=["_law_feed_here","_law_scene_here","_law_around","_law_kind"]) fun _ _ _ _ _ _=>Ew fun _ _ _ _=>rfl;have dq:=Mq X G a24;have fb:=F25.f.binds (ps:=["_law_around","_law_more"]) fun _ _ _ _ _ _=>qb fun _ _=>rfl;have dp:=Mq X G a25;have c6:=F26.f.binds (ps:=["_law_feed_here","_law_scene_here","_law_around","_law_kind","_law_goal","_law_share","_law_down"]) fun _ _ _ _ _ _=>JG fun _ _ _ _ _ _ _=>rfl;have bq:=Mq X G a26;have c5:=F27.f.binds (ps:=["_law_feed_here","_law_scene_here","_law_around","_law_kind","_law_room","_law_down"]) fun _ _ _ _ _ _=>Iv fun _ _ _ _ _ _=>rfl;have bp:=Mq X G a27;have S:=F28.f.binds (ps:=["_law_feed_here","_law_scene_here","_law_around","_law_kind","_law_room","_law_down"]) fun _ _ _ _ _ _=>Iv fun _ _ _ _ _ _=>rfl;have J:=Mq X G a28;have e0:=F29.f.binds (ps:=["_law_feed_here","_law_most_gaps"]) fun _ _ _ _ _ _=>qb fun _ _=>rfl;have dn:=Mq X G a29;have ez:=F30.f.binds (ps:=["_law_feed_here","_law_scene_here","_law_around","_law_kind","_law_room"]) fun _ _ _ _ _ _=>Iu fun _ _ _ _ _=>rfl;have dl:=Mq X G a30;have ey:=F31.f.binds (ps:=["_law_feed_here","_law_kind","_law_opens_here","_law_few"]) fun _ _ _ _ _ _=>Ew fun _ _ _ _=>rfl;have dk:=Mq X G a31;have ew:=F32.f.binds (ps:=["_law_feed_here","_law_scene_here","_law_room","_law_hides"]) fun _ _ _ _ _ _=>Ew fun _ _ _ _=>rfl;have dj:=Mq X G a32;have ev:=F33.f.binds (ps:=["_law_feed_here","_law_scene_here","_law_n","_law_room","_law_more"]) fun _ _ _ _ _ _=>Iu fun _ _ _ _ _=>rfl;have di:=Mq X G a33;have eu:=F34.f.binds (ps:=["_law_term_here"]) fun _ _ _ _ _ _=>pZ fun _=>rfl;have dh:=Mq X G a34;have c4:=F35.f.binds (ps:=["_law_kind","_law_put_here"]) fun _ _ _ _ _ _=>qb fun _ _=>rfl;have bo:=Mq X G a35;have c3:=F36.f.binds (ps:=["_law_kind"]) fun _ _ _ _ _ _=>pZ fun _=>rfl;have bn:=Mq X G a36;have et:=F37.f.binds (ps:=["_law_program"]) fun _ _ _ _ _ _=>pZ fun _=>rfl;have dg:=Mq X G a37;have es:=F38.f.binds (ps:=["_law_program","_law_fresh","_law_kinds_here"]) fun _ _ _ _ _ _=>vq fun _ _ _=>rfl;have df:=Mq X G a38;have er:=F39.f.binds (ps:=["_law_feed_here","_law_n","_law_kind","_law_fresh"]) fun _ _ _ _ _ _=>Ew fun _ _ _ _=>rfl;have de:=Mq X G a39;have c2:=F40.f.binds (ps:=["_law_term_here","_law_put_here"]) fun _ _ _ _ _ _=>qb fun _ _=>rfl;have bm:=Mq X G a40;have eq:=F41.f.binds (ps:=["_law_script","_law_at"]) fun _ _ _ _ _ _=>qb fun _ _=>rfl;have dd:=Mq X G a41;have ep:=F42.f.binds (ps:=["_law_feed_here","_law_program","_law_scene_here"]) fun _ _ _ _ _ _=>vq fun _ _ _=>rfl;have dc:=Mq X G a42;have eo:=F43.f.binds (ps:=["_law_feed_here","_law_found","_law_sort"]) fun _ _ _ _ _ _=>vq fun _ _ _=>rfl;have db:=Mq X G a43;have ft:=F44.f.binds (ps:=["_law_script"]) fun _ _ _ _ _ _=>pZ fun _=>rfl;have fr:=Mq X G a44;have z_len:=M8 X G z0;have z_range:=M8 X G z1;have t:=M8 X G z2;have m:=M8 X G z3;have z:=M8 X G z4;have B:=M8 X G z5;have C:=M8 X G z6;have I:=M8 X G z7;have E:=M8 X G z8;have T:=M8 X G z9;have A:=M8 X G z10;have u:=M8 X G z11;have q:=M8 X G z12
 have TB:FP K w mg dP dM [("num",V.ref t0),("name",V.ref t1),("gap",V.ref t2),("op",V.ref t3),("more",V.ref t4),("first",V.ref t5),("others",V.ref t6),("long",V.ref t7),("if",V.ref t8)]:={
  mP:=Mq X G pP,mM:=Mq X G pM,kP:=⟨bi,nP,lP,kP,(show(["num","name","gap","op","more","first","others","long","if"]:List Str).Nodup by decide +kernel),sP⟩,kM:=⟨bj,nM,lM,kM,by decide +kernel,sM⟩,
  at_:=fun f ps hm=>by
   unfold placesOf at hm;simp only[ri,Lp,or_false,Prod.mk.injEq]at hm;rcases hm with⟨rfl,rfl⟩|⟨rfl,rfl⟩|⟨rfl,rfl⟩|⟨rfl,rfl⟩|⟨rfl,rfl⟩|⟨rfl,rfl⟩|⟨rfl,rfl⟩|⟨rfl,rfl⟩|⟨rfl,rfl⟩
   ·exact⟨t0,rfl,lI q0 (by decide)⟩
   ·exact⟨t1,rfl,lI q1 (by decide)⟩
   ·exact⟨t2,rfl,lI q2 (by decide)⟩
   ·exact⟨t3,rfl,lI q3 (by decide)⟩
   ·exact⟨t4,rfl,lI q4 (by decide)⟩
   ·exact⟨t5,rfl,lI q5 (by decide)⟩
   ·exact⟨t6,rfl,lI q6 (by decide)⟩
   ·exact⟨t7,rfl,lI q7 (by decide)⟩
   ·exact⟨t8,rfl,lI q8 (by decide)⟩}
 obtain⟨od,kV,cy,pm,an,cz,ct,d1,rfl,lk,cc⟩:=F44.ex;refine⟨fnOf "law" "law" (eY qh) (bS qh) (aj qh) .none kV cy pm an cz ct,fun s v=>.of_eq rfl,fun g _ _ hC hB=>?_⟩;have IM:bY l.prog w K mg g "innermost" 1 _ _ g3 e3:=⟨uN F3.f,u3,F3.kp,B3⟩;have d9:∀p:Heap,bY l.prog w K mg p "right_in" 1 _ _ g5 e5:=fun p=>⟨wd F5.f TB,u5,F5.kp,B5⟩;have c0:∀p:Heap,bY l.prog w K mg p "inner_terms" 2 _ _ g6 e6:=fun p=>⟨BF F6.f (d9 p),u6,F6.kp,B6⟩;have O:bY l.prog w K mg g "parts" 3 _ _ g8 e8:=⟨BG F8.f (c0 g),u8,F8.kp,B8⟩;have c1:bY l.prog w K mg g "gaps_in" 4 _ _ g9 e9:=⟨yf F9.f O,u9,F9.kp,B9⟩;have GS:bY l.prog w K mg g "gaps" 5 _ _ bg cw:=⟨DW F11.f IM c1,dz,F11.kp,fo⟩;have el:bY l.prog w K mg g "kind_deep" 1 _ _ g2 e2:=⟨BX F2.f,u2,F2.kp,B2⟩;have IR:bY l.prog w K mg g "in_rows" 1 _ _ g4 e4:=⟨DY F4.f z_range,u4,F4.kp,B4⟩;have ea:bY l.prog w K mg g "opens_in" 2 _ _ bf cv:=⟨BY F12.f IM,bu,F12.kp,da⟩;have ek:bY l.prog w K mg g "kind_put" 2 _ _ be cu:=⟨DZ F14.f IM el IR,dy,F14.kp,fn⟩;have d6:∀p:Heap,bY l.prog w K mg p "with_inner" 1 _ _ g7 e7:=fun p=>⟨D5 F7.f TB B m z,u7,F7.kp,B7⟩;have d7:bY l.prog w K mg g "with_gaps_put" 6 _ _ bh cx:=⟨Ea F10 hC hB u1 F1.kp B1 u6 d6 (fun p fM c fs qq d pf M=>Cn F1.f (c0 p) M z_len),d0,F10.kp,fp⟩;have eh:bY l.prog w K mg g "look_fillings" 5 _ _ N bl:=⟨zy (gf:=vz) (okA:=fun _=>True) (tr:=bW) F13.f (ea.ok.mono (by decide)) F12.kp da (fun v y H Q r _ k=>⟨v,y,rfl,r,k⟩) q,bt,F13.kp,c9⟩;have eg:bY l.prog w K mg g "look_fillings" 5 _ _ N bl:=⟨zy (gf:=lU) (okA:=IU) (tr:=enc) F13.f c1.ok F9.kp B9 (fun v y H Q r o k=>⟨v,y,rfl,r,o.1,o.2,k⟩) q,bt,F13.kp,c9⟩;have em:bY l.prog w K mg g "filled" 7 _ _ bc cs:=⟨AS F15.f GS u9 bu eh eg ek d7 m C,dx,F15.kp,fm⟩;have FD:bY l.prog w K mg g "_law_feed" 1 _ _ bb cr:=⟨DO F16.f z_len,dw,F16.kp,fl⟩;have D:bY l.prog w K mg g "_law_take" 1 _ _ ba cq:=⟨DN F17.f,dv,F17.kp,fk⟩;have NM:bY l.prog w K mg g "_law_names" 2 _ _ a0 cp:=⟨CM F18.f D z_range z_len t,du,F18.kp,fi⟩;have NU:bY l.prog w K mg g "_law_number" 2 _ _ ay co:=⟨AL F19.f D,dt,F19.kp,fg⟩;have AK:bY l.prog w K mg g "_law_any_kind" 4 _ _ ax cn:=⟨zS F20.f bs c8 D z_len 3,bs,F20.kp,c8⟩;have KI:bY l.prog w K mg g "_law_kinds" 5 _ _ aw cm:=⟨CC (j:=4) (by decide) F21.f D AK z_range m,ds,F21.kp,ff⟩;have TG:bY l.prog w K mg g "_law_tags_of" 1 _ _ au cl:=⟨yt F22.f,dr,F22.kp,fe⟩;have NO:bY l.prog w K mg g "_law_nought" 6 _ _ as ck:=⟨sj F23.f br c7 NU TG m 4,br,F23.kp,c7⟩;have LF:bY l.prog w K mg g "_law_leaf" 7 _ _ ar cj:=⟨Ek (j:=6) F24.f (by decide) D NO z_len z,dq,F24.kp,fc⟩;have BD:bY l.prog w K mg g "_law_bound" 1 _ _ aq ci:=⟨CG F25.f,dp,F25.kp,fb⟩;have TE:bY l.prog w K mg g "_law_term" 26 _ _ L bk:=⟨sr F28.f F27.f F26.f J S bp c5 bq c6 D AK TG BD LF z_len z m B z_range E u t 6 (by decide),J,F28.kp,S⟩;have d8:bY l.prog w K mg g "_law_term" 20 _ _ L bk:=⟨sr F28.f F27.f F26.f J S bp c5 bq c6 D AK TG BD LF z_len z m B z_range E u t 4 (by decide),J,F28.kp,S⟩;have SN:bY l.prog w K mg g "_law_scene" 6 _ _ ap ch:=⟨C0 (j:=5) (by decide) F29.f D NM KI,dn,F29.kp,e0⟩;have HE:bY l.prog w K mg g "_law_held" 27 _ _ am cf:=⟨Es (j:=26) (jn:=6) (by decide) (by decide) F30.f O TE NO z_len,dl,F30.kp,ez⟩;have HI:bY l.prog w K mg g "_law_hidden" 2 _ _ al ce:=⟨AO F31.f D z_len,dk,F31.kp,ey⟩;have PO:bY l.prog w K mg g "_law_program_of" 28 _ _ ai cb:=⟨sS (j:=27) (ja:=4) (jh:=2) (by decide) (by decide) (by decide) F32.f D AK HE HI z_range m,dj,F32.kp,ew⟩;have ej:bY l.prog w K mg g "_law_drawn" 29 _ _ Y b2:=⟨C1 (j:=28) (js:=6) (by decide) (by decide) F41.f FD D SN PO,dd,F41.kp,eq⟩;have R:bY l.prog w K mg g "_law_filling" 21 _ _ ah ca:=⟨yD (j:=20) (jn:=2) (by decide) (by decide) F33.f O d8 NU z_len t,di,F33.kp,ev⟩;have ed:bY l.prog w K mg g "_law_open_filling" 2 _ _ aa b4:=⟨CU F39.f D z_len,de,F39.kp,er⟩;have ef:bY l.prog w K mg g "_law_gaps" 4 _ _ ag b9:=⟨CV F34.f O,dh,F34.kp,eu⟩;have ec:bY l.prog w K mg g "_law_opens" 105 _ _ ad b7:=⟨su F36.f bn c3 t 101 (by decide),bn,F36.kp,c3⟩;have eb:bY l.prog w K mg g "_law_there" 106 _ _ ac b6:=⟨CY F37.f ef ec,dg,F37.kp,et⟩;have P:bY l.prog w K mg g "_law_fillings" 107 _ _ W b1:=⟨xw (j:=106) (jn:=106) (by decide) (by decide) F42.f D eb ⟨R.ok.mono (by decide),R.at',R.kp,R.bd⟩ ed z_len T z_range m,dc,F42.kp,ep⟩;have ee:bY l.prog w K mg g "_law_kind_put" 105 _ _ ae b8:=⟨ug F35.f bo c4 101 (by decide),bo,F35.kp,c4⟩;have PU:bY l.prog w K mg g "_law_put" 30 _ _ Z b3:=⟨xC F40.f bm c2 m A 26,bm,F40.kp,c2⟩;have en:bY l.prog w K mg g "_law_due" 106 _ _ ab b5:=⟨Gw F38.f ee PU m C,df,F38.kp,es⟩;have ei:bY l.prog w K mg g "_law_exchanged" 2 _ _ U b0:=⟨Ef F43.f D z_len t,db,F43.kp,eo⟩;exact GL (j:=108) (jd:=29) (ju:=106) (ji:=7) (by decide) (by decide) (by decide) (by decide) ⟨⟨_,od,kV,cy,pm,an,cz,ct,d1,rfl,lk,cc⟩,F44.kp⟩ FD ej ⟨P.ok.mono (by decide),P.at',P.kp,P.bd⟩ ei en em z_range I
theorem GP{K:Frag}{x:Str}{f c P:Addr}{p j:j3}{o g:Option Addr}{e d:Array (Option j3)}{m:zo}{l:Array j3}(v:nsIn K ur x=some (some (.ref f)))(u:K.lookup f=some ⟨p,o,.func m,e⟩)(t:m.code=.ref c)(r:K.lookup c=some ⟨j,g,.fields l,d⟩)(q:(l[11]? == some (.ref P))=true):S4 K x=some (c,P):=by
 unfold S4;rw[v];simp only[u,t,r,NJ q]
theorem walk{l:P4}{q:FG}{j:List Str}{B:(Str->Option j3)->Heap->Prop}{r:Lk->Heap->Prop}{d:DefRec}{K:Params->bA}{c Pt:Addr}(hn:l.most=some 63)(m:d.params.defaults=[])
  (hY:∀(w:Lk) (h:Heap),r w h->(K w.params).In h)
  (ht1:((PyProof.Rows.recsOf q).find? (fun e=>e.name == ("with_gaps_put":Str))).isSome=true) (ht2:∀w:Lk,S4 (K w.params) "with_gaps_put"=some (c,Pt)) (ht3:∀w:Lk,(K w.params).lookup Pt=none)
  (F:∀(w:Lk) (mg:Str->Option j3) (p:Addr) (h:Heap),(K w.params).In h->h.Ns ur mg->mg d.name=some (.ref p) ->
   ∃o:zo,(∀(s:mu) (u:j3),SE s o ⟨[u],[]⟩ [("_law_script",u)])/\∀g:Heap,(K w.params).In g->g.Ns ur mg->M3 g c Pt->sN g mg->bK l.prog w (K w.params) mg g eL 109 p o ["_law_script"] (zR Pt (K w.params))) :
  Tj q j B r l.row.toRowW d [] (fun f t=>Th f t) :=
 let⟨_,ht1⟩:=QV.mp ht1
 L2.Cm (n:=63) (k:=109) (x:="_law_script") (tn:="with_gaps_put") (c:=c) (Pt:=Pt) (sp:=zR Pt) hn (by decide) m ⟨rfl,by decide,by decide,rfl⟩ hY ht1 ht2 ht3 F (fun _ _ a v y _ z A=>⟨a,v,rfl,A,y,.inl z,fun _=>rfl⟩)
end G33
theorem PySem.W.Fast.tw8277017428768867893:True:=⟨⟩
theorem PySem.W.Fast.tw6958011508164197505:True:=⟨⟩
theorem PySem.W.Fast.tw341581301973230160:True:=⟨⟩
theorem PySem.W.Fast.tw1628524405368760314:True:=⟨⟩
theorem PySem.W.Fast.tw1839106692293565760:True:=⟨⟩
theorem PySem.W.Fast.tw18226117676986732366:True:=⟨⟩
theorem PySem.W.Fast.tw5670012596755673590:True:=⟨⟩
theorem PySem.W.Fast.tw1091569337973166516:True:=⟨⟩
theorem PySem.W.Fast.tw6113032516227530343:True:=⟨⟩
theorem PySem.W.Fast.tw5282634222555237654:True:=⟨⟩
theorem PySem.W.Fast.tw6403651538955957804:True:=⟨⟩
theorem PySem.W.Fast.tw14342705083532872302:True:=⟨⟩
theorem PySem.W.Fast.tw18397337121608310277:True:=⟨⟩
theorem PySem.W.Fast.tw11582921168133410953:True:=⟨⟩
theorem PySem.W.Fast.tw8707834380320374130:True:=⟨⟩
theorem PySem.W.Fast.tw8946042020962452716:True:=⟨⟩
theorem PySem.W.Fast.tw16556410093557867212:True:=⟨⟩
theorem PySem.W.Fast.tw7545245551031321433:True:=⟨⟩
theorem PySem.W.Fast.tw12044088109285510464:True:=⟨⟩
theorem PySem.W.Fast.tw15615647954009870181:True:=⟨⟩
theorem PySem.W.Fast.tw7963300339578619734:True:=⟨⟩
theorem PySem.W.Fast.tw8776125336550791607:True:=⟨⟩
theorem PySem.W.Fast.tw1868472956350254371:True:=⟨⟩
theorem PySem.W.Fast.tw11225799338372470634:True:=⟨⟩
theorem PySem.W.Fast.tw5269235586346113042:True:=⟨⟩
theorem PySem.W.Fast.tw16710917605379258767:True:=⟨⟩
theorem PySem.W.Fast.tw4699889775553906516:True:=⟨⟩
theorem PySem.W.Fast.tw1130350996454895964:True:=⟨⟩
theorem PySem.W.Fast.tw14742371058804719826:True:=⟨⟩
theorem PySem.W.Fast.tw16053102749646345007:True:=⟨⟩
theorem PySem.W.Fast.tw16653497816653428629:True:=⟨⟩
theorem PySem.W.Fast.tw13700546331003137691:True:=⟨⟩
theorem PySem.W.Fast.tw8378692152752986492:True:=⟨⟩
theorem PySem.W.Fast.tw17390760651845684665:True:=⟨⟩
theorem PySem.W.Fast.tw8672433341674052081:True:=⟨⟩
theorem PySem.W.Fast.tw6751084028619543342:True:=⟨⟩
theorem PySem.W.Fast.tw12992254157921218313:True:=⟨⟩
theorem PySem.W.Fast.tw7746123904851409438:True:=⟨⟩
theorem PySem.W.Fast.tw845899714147811512:True:=⟨⟩
theorem PySem.W.Fast.tw9945528656265710845:True:=⟨⟩
theorem PySem.W.Fast.tw14257785928588888989:True:=⟨⟩
theorem PySem.W.Fast.tw4584682342130454168:True:=⟨⟩
theorem PySem.W.Fast.tw10805002839216757246:True:=⟨⟩
theorem PySem.W.Fast.tw8778915164226909243:True:=⟨⟩
theorem PySem.W.Fast.tw16828040551909163245:True:=⟨⟩
open PySem PySem.W PyProof.Rows
set_option maxRecDepth 100000 in
set_option maxHeartbeats 0 in
theorem PySem.Challenge.cw_gapwork_k33_programs_filled_holds : PySem.Challenge.rw_gapwork_k33_programs_filled.Holds := by
  w_on; o_law; k_head; (case hw => w_witness2)
  k_fill
  refine' G33.walk (l := PySem.Challenge.rw_gapwork_k33_programs_filled) rfl rfl (fun w h Y => PySem.W.km_in_of Y) (Pt := 131) ?h1 ?h2 ?h3 ?F
  case h2 => intro w; exact G33.GP (by k_is) (by k_is) (by rfl) (by k_is) (by kernel_rfl)
  case h1 => kernel_rfl
  case h3 => intro w; kernel_rfl
  case F =>
    intro w mg fa h KX G hmg
    refine' G33.all_mk KX G hmg ?a1 ?a2 ?a3 ?a4 ?a5 ?a6 ?a7 ?a8 ?a9 ?a10 ?a11 ?a12 ?a13 ?a14 ?a15 ?a16 ?a17 ?a18 ?a19 ?a20 ?a21 ?a22 ?a23 ?a24 ?a25 ?a26 ?a27 ?a28 ?a29 ?a30 ?a31 ?a32 ?a33 ?a34 ?a35 ?a36 ?a37 ?a38 ?a39 ?a40 ?a41 ?a42 ?a43 ?a44 ?F1 ?F2 ?F3 ?F4 ?F5 ?F6 ?F7 ?F8 ?F9 ?F10 ?F11 ?F12 ?F13 ?F14 ?F15 ?F16 ?F17 ?F18 ?F19 ?F20 ?F21 ?F22 ?F23 ?F24 ?F25 ?F26 ?F27 ?F28 ?F29 ?F30 ?F31 ?F32 ?F33 ?F34 ?F35 ?F36 ?F37 ?F38 ?F39 ?F40 ?F41 ?F42 ?F43 ?F44 ?pP ?lP ?kP ?sP ?pM ?lM ?kM ?sM ?q0 ?q1 ?q2 ?q3 ?q4 ?q5 ?q6 ?q7 ?q8 ?z0 ?z1 ?z2 ?z3 ?z4 ?z5 ?z6 ?z7 ?z8 ?z9 ?z10 ?z11 ?z12
    (case a1 => k_is)
    (case a2 => k_is)
    (case a3 => k_is)
    (case a4 => k_is)
    (case a5 => k_is)
    (case a6 => k_is)
    (case a7 => k_is)
    (case a8 => k_is)
    (case a9 => k_is)
    (case a10 => k_is)
    (case a11 => k_is)
    (case a12 => k_is)
    (case a13 => k_is)
    (case a14 => k_is)
    (case a15 => k_is)
    (case a16 => k_is)
    (case a17 => k_is)
    (case a18 => k_is)
    (case a19 => k_is)
    (case a20 => k_is)
    (case a21 => k_is)
    (case a22 => k_is)
    (case a23 => k_is)
    (case a24 => k_is)
    (case a25 => k_is)
    (case a26 => k_is)
    (case a27 => k_is)
    (case a28 => k_is)
    (case a29 => k_is)
    (case a30 => k_is)
    (case a31 => k_is)
    (case a32 => k_is)
    (case a33 => k_is)
    (case a34 => k_is)
    (case a35 => k_is)
    (case a36 => k_is)
    (case a37 => k_is)
    (case a38 => k_is)
    (case a39 => k_is)
    (case a40 => k_is)
    (case a41 => k_is)
    (case a42 => k_is)
    (case a43 => k_is)
    (case a44 => k_is)
    (case F1 => exact G33.aV (by k_is) (by k_is) (by k_is))
    (case F2 => exact G33.aV (by k_is) (by k_is) (by k_is))
    (case F3 => exact G33.aV (by k_is) (by k_is) (by k_is))
    (case F4 => exact G33.aV (by k_is) (by k_is) (by k_is))
    (case F5 => exact G33.aV (by k_is) (by k_is) (by k_is))
    (case F6 => exact G33.aV (by k_is) (by k_is) (by k_is))
    (case F7 => exact G33.aV (by k_is) (by k_is) (by k_is))
    (case F8 => exact G33.aV (by k_is) (by k_is) (by k_is))
    (case F9 => exact G33.aV (by k_is) (by k_is) (by k_is))
    (case F10 => exact L2.D7 (by k_is) (by k_is) (by k_is))
    (case F11 => exact G33.aV (by k_is) (by k_is) (by k_is))
    (case F12 => exact G33.aV (by k_is) (by k_is) (by k_is))
    (case F13 => exact G33.aV (by k_is) (by k_is) (by k_is))
    (case F14 => exact G33.aV (by k_is) (by k_is) (by k_is))
    (case F15 => exact G33.aV (by k_is) (by k_is) (by k_is))
    (case F16 => exact G33.aV (by k_is) (by k_is) (by k_is))
    (case F17 => exact G33.aV (by k_is) (by k_is) (by k_is))
    (case F18 => exact G33.aV (by k_is) (by k_is) (by k_is))
    (case F19 => exact G33.aV (by k_is) (by k_is) (by k_is))
    (case F20 => exact G33.aV (by k_is) (by k_is) (by k_is))
    (case F21 => exact G33.aV (by k_is) (by k_is) (by k_is))
    (case F22 => exact G33.aV (by k_is) (by k_is) (by k_is))
    (case F23 => exact G33.aV (by k_is) (by k_is) (by k_is))
    (case F24 => exact G33.aV (by k_is) (by k_is) (by k_is))
    (case F25 => exact G33.aV (by k_is) (by k_is) (by k_is))
    (case F26 => exact G33.aV (by k_is) (by k_is) (by k_is))
    (case F27 => exact G33.aV (by k_is) (by k_is) (by k_is))
    (case F28 => exact G33.aV (by k_is) (by k_is) (by k_is))
    (case F29 => exact G33.aV (by k_is) (by k_is) (by k_is))
    (case F30 => exact G33.aV (by k_is) (by k_is) (by k_is))
    (case F31 => exact G33.aV (by k_is) (by k_is) (by k_is))
    (case F32 => exact G33.aV (by k_is) (by k_is) (by k_is))
    (case F33 => exact G33.aV (by k_is) (by k_is) (by k_is))
    (case F34 => exact G33.aV (by k_is) (by k_is) (by k_is))
    (case F35 => exact G33.aV (by k_is) (by k_is) (by k_is))
    (case F36 => exact G33.aV (by k_is) (by k_is) (by k_is))
    (case F37 => exact G33.aV (by k_is) (by k_is) (by k_is))
    (case F38 => exact G33.aV (by k_is) (by k_is) (by k_is))
    (case F39 => exact G33.aV (by k_is) (by k_is) (by k_is))
    (case F40 => exact G33.aV (by k_is) (by k_is) (by k_is))
    (case F41 => exact G33.aV (by k_is) (by k_is) (by k_is))
    (case F42 => exact G33.aV (by k_is) (by k_is) (by k_is))
    (case F43 => exact G33.aV (by k_is) (by k_is) (by k_is))
    (case F44 => exact G33.aV (by k_is) (by k_is) (by k_is))
    (case pP => k_is)
    (case lP => k_is)
    (case kP => exact ⟨_, _, _, rfl, ⟨_, rfl⟩, rfl, rfl, ⟨_, _, _, rfl, ⟨_, rfl⟩, rfl, rfl, ⟨_, _, _, rfl, ⟨_, rfl⟩, rfl, rfl, ⟨_, _, _, rfl, ⟨_, rfl⟩, rfl, rfl, ⟨_, _, _, rfl, ⟨_, rfl⟩, rfl, rfl, ⟨_, _, _, rfl, ⟨_, rfl⟩, rfl, rfl, ⟨_, _, _, rfl, ⟨_, rfl⟩, rfl, rfl, ⟨_, _, _, rfl, ⟨_, rfl⟩, rfl, rfl, ⟨_, _, _, rfl, ⟨_, rfl⟩, rfl, rfl, rfl⟩⟩⟩⟩⟩⟩⟩⟩⟩)
    (case sP => kernel_rfl)
    (case pM => k_is)
    (case lM => k_is)
    (case kM => exact ⟨_, _, _, rfl, ⟨_, rfl⟩, rfl, ⟨_, rfl⟩, ⟨_, _, _, rfl, ⟨_, rfl⟩, rfl, ⟨_, rfl⟩, ⟨_, _, _, rfl, ⟨_, rfl⟩, rfl, ⟨_, rfl⟩, rfl⟩⟩⟩)
    (case sM => kernel_rfl)
    (case q0 => kernel_rfl)
    (case q1 => kernel_rfl)
    (case q2 => kernel_rfl)
    (case q3 => kernel_rfl)
    (case q4 => kernel_rfl)
    (case q5 => kernel_rfl)
    (case q6 => kernel_rfl)
    (case q7 => kernel_rfl)
    (case q8 => kernel_rfl)
    (case z0 => k_is)
    (case z1 => k_is)
    (case z2 => k_is)
    (case z3 => k_is)
    (case z4 => k_is)
    (case z5 => k_is)
    (case z6 => k_is)
    (case z7 => k_is)
    (case z8 => k_is)
    (case z9 => k_is)
    (case z10 => k_is)
    (case z11 => k_is)
    (case z12 => k_is)
#print axioms PySem.Challenge.cw_gapwork_k33_programs_filled_holds

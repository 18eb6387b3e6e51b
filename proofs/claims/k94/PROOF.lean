import PyProof.Rows.All
import Wide.All
import Wide.FinOn
import Lean
import KE.KDictList
import KE.KEqDat
import KE.KIntText
import KE.KIsAll
import KE.KRevSl
import PySem.Challenge.RW_vesselhall_k94_deeds_undone
set_option compiler.extract_closed false
set_option Elab.async false
set_option linter.all false
set_option maxRecDepth 100000
set_option maxHeartbeats 0
local macro_rules | `(tactic| get_elem_tactic_extensible)=>`(tactic| omega)
open PySem in
local macro_rules | `(tactic| wp_step)=>`(tactic| first|(with_reducible first|refine wpAny_pure ?_|refine wpAny_bind ?_|refine wpAny_holding ?_|refine wpAny_standAt ?_|refine wpAny_point ?_|refine wpAny_rule ?_|refine wpAny_letGo ?_|refine wpAny_mkInt' ?_|(refine wpAny_mkStr' ?_ ?a;(case a=>size_fits))|refine wpAny_fresh' ?_|refine wpAny_alloc' ?_|refine wpAny_attempt ?_|refine wpAny_throw ?_|refine wpAny_of_eq (by assumption) ?_|refine wpAny_typeOf (by assumption) ?_|refine wpAny_specialOf_val (by assumption) (by assumption) ?_|refine wpAny_specialOf (by assumption) (by assumption) ?_|refine wpAny_isInstance_val (by assumption) (by assumption) ?_|refine wpAny_isInstance (by assumption) (by assumption) ?_|refine wpAny_call ?_|refine wpAny_runValue ?_|refine wpAny_run ?_)|((with_reducible apply wpAny_load');focus (heap_get;done))|((with_reducible apply wpAny_update');focus (heap_get;done))|((with_reducible apply wpAny_loadPart');focus (heap_get;done))|((with_reducible apply wpAny_updatePart');focus (heap_get;done))|((with_reducible apply wpAny_handled_none);focus (assumption;done))|((with_reducible apply wpAny_ite_false);focus (rfl;done))|((with_reducible apply wpAny_ite_true);focus (rfl;done))|((with_reducible apply wpAny_ite_false);focus (simp[*];done))|((with_reducible apply wpAny_ite_true);focus (simp[*];done))|wp_delta)
local macro_rules | `(tactic| walk_at "o") => `(tactic| first|exact Or.inl rfl|exact Or.inr rfl)
local macro_rules | `(tactic| walk_at "c") => `(tactic| exact ⟨rfl,by decide +kernel,by decide +kernel,by decide +kernel,by decide +kernel,rfl,by decide +kernel,by decide +kernel,by decide +kernel⟩)
local macro_rules | `(tactic| walk_at "s") => `(tactic| exact ⟨rfl,rfl,rfl,by decide +kernel,rfl,by decide +kernel,by decide +kernel⟩)
open PySem.Challenge renaming pw_vesselhall_k94_deeds_undone->PW94
open PySem renaming wpAny_bind->Ms,Value->Mu,wpAny_pure->Mz,Shared->MA,Program->MP,strLen_append->M0,World->M4,importedModules->Nh,wpAny_mono->Nj,wpAny_field->Nn,Around->No,wpAny_seqItems->Nz,wpAny_callSpecial?_slot->NF,wpAny_setField_rec->NI,wpAny_holding->NQ,wpAny_getItem_str_slice->NT,wpAny_newObj_type->NW,SetTable->NX,treeTable->N4,wpAny_call_entry->N5,wpAny_pyIter_tuple->N8,wpAny_Call_Name_kw->Oa,World->Og,sizeLine_eq->Oi,wpAny_truthy_bool->Oy,OsState->OC,Builtin->OK,wpAny_onRaise->OL,wpAny_pyIter_list->ON,wpAny_loadPart_at->OP,wpAny_execs_nil->OS,wpAny_attempt->O7,wpAny_typeNameOfWhole_keyiter->Pb,call_meets->Pf,FuncData->Ph,IsPair->Pk,wpAny_passesOwn->PH,codeAny_mono->PN,codeAny_call_builtin->PR,Reads->PU,wpAny_setState_of->P1,mem_of_lookup->P7,wpAny_execs_cons->Qb,wpAny_setField->Qc,wpAny_letGo->Qh,typeIs_str->Qk,codeAny_builtin->Qv,IsZip->Qw,wpAny_standAt->Qy,ClassData->Qz,wpAny_call->QM,wpAny_isInstance->QZ,wpAny_pyIter_zip->Q0,wpAny_isSubtype_exc->Q4,wpAny_comprehension_free->Q7,wpAny_updateSeq->Re,plainObj_wpAny_Assign_Attribute->RC,PassesOwn->RF,wpAny_forIn_list->RK,wpAny_specialOf->R7,isSubtype_stop->SD,wpAny_rule->SE,wpAny_letOwnedTupleGo_zip->SL,wpAny_binaryOp_repeat_ref->SN,wpAny_assign_Name->SR,slot_list_getitem->SW,wpAny_dictEntries->SZ,evalPart_none->Tb,wpAny_getItem_list_slice->Tc,DictEntry->Tt,NameKind->Tu,noFill_tuple_add->Tv,Shared->TQ,Within->TR,Result->TU,wpAny_typeOf->TX,typeIs_int->TZ,wpAny_Call_method_late->T0,meets_dict_get_default->T2,ExcBaseFacts->T_,PyData->Uc,codeAny_compStart_list->Ud,wpAny_dictEpoch->Ut,wpAny_loadPart'->Uu,codeAny_handlers_test->Uy,exec_Assign_Name_used->Uz,wpAny_isOneOf_keyiter->UB,wpAny_isSame_ref_self->UD,toDigits_len_ge->UG,builtinLookup_eq_fast->UI,wpAny_loadPart->US,ReadsAll->UX,wpAny_newFunctionEnv->UY,wpAny_newTuple->UZ,OsState->Vl,Keyword->Vn,OwnTail->Vo,wpAny_Tuple_spliced->Vt,wpAny_handleBy_cons->Vx,seq_tuple_add->VF,hashStr->VI,plainId_quiet->VM,call->VT,IsPart->VX,tupleKind_room_in1->V0,BindsTo->Wi,concat_meets->Wj,seqIndex_neg->Wk,call_meetsIn->Wn,seqSlot_of->WT,wpAny_Slice->WZ,seqIndex_of->W0,intText?->Xp
open PySem.Heap renaming get?_push_of_some->Mt,lt_size->MG,get?_push_size->ML,get?_update_other->Nt,get?_update_self->NB,size_push->OO,SameBut->PL,ExtBut->QN,IsTuple->Ry,get?_none_of_le->RS,get?_push_cases->RU,IsList->U0,get?_update_ne->Vy,NotedW->W5,SlotsOnly->Xk
open List renaming length_map->Mv,getElem?_eq_getElem->Mw,getElem?_eq_some_iff->My,mem_cons->MD,getElem?_map->ME,not_mem_nil->MF,mem_of_getElem?->MH,mem_singleton->MK,mem_cons_self->MM,mem_cons_of_mem->MO,mem_map->MR,size_toArray->MU,take_of_length_le->MV,exists_cons_of_length_eq_add_one->MW,length_append->M3,mem_append_right->M5,map_append->M8,length_take->Ng,mem_append->Ni,length_cons->Nl,map_cons->Nm,replicate->Nq,getElem?_append_right->Nr,getElem?_append_left->Nu,take_add_one->Nx,nodup_cons->NE,all_eq_true->NK,append_assoc->N6,range->N7,mem_filterMap->N9,length_drop->Oe,filterMap_cons->Oh,length_replicate->Oj,length_eq_zero_iff->On,getD_eq_getElem?_getD->Op,mem_filter->Oq,drop_of_length_le->Ov,pairwise_iff_getElem->Ow,eq_nil_of_length_eq_zero->OA,forIn_cons->OG,mem_append_left->OJ,getElem?_set_self->OM,map_eq_nil_iff->OR,append_nil->OT,of_mem_zip->OU,getElem?_zip_eq_some->OV,length_singleton->OW,getElem?_eq_none->OX,contains_iff_mem->OY,mem_iff_getElem?->OZ,mem_range->O9,nodup_nil->Pa,lookup_cons->Pu,map_map->PX,length_pos_iff->P_,getElem_mem->Qf,lookup->Qg,find?_cons->Qs,length_nil->Qt,length_range->QG,length->QI,getElem?_set_ne->QL,forIn_nil->QP,filter_cons->QY,length_filterMap_le->Q_,length_zip->Rf,pairwise_cons->Ri,getElem?_cons_succ->Ro,pairwise_lt_range->RA,zipIdx_cons->RJ,take_length->RL,eq_nil_iff_forall_not_mem->RM,all_cons->RQ,mem_of_mem_drop->RV,nil_append->RW,zipIdx_nil->R5,map_congr_left->R_,length_reverse->Sa,map_nil->Se,drop_zero->SA,getElem?_drop->SH,zip->SK,take_sublist->SV,reverse_cons->SY,getElem?_take_of_lt->Ta,any_cons->Td,length_erase_of_mem->Tj,cons_append->To,any_eq_true->TD,append_cancel_left->TN,length_pos_of_mem->Uh,length_set->Uq,getElem?_toArray->UE,length_filter_le->UF,cons_lt_cons_iff->UJ,filterMap_append->UL,eq_nil_or_concat->UM,concat_eq_append->UN,mem_erase_of_ne->Va,mem_of_mem_take->Vb,mem_iff_getElem->Vc,take_left->Vh,drop_left->Vi,getElem?_of_mem->Vj,dropLast_concat->Vk,drop->Vp,getElem?_range->Vz,Pairwise->VH,forIn_toArray->V4,map_inj_right->V5,mem_replicate->V7,any_eq_false->Wa,ext_getElem?->Wo,getElem?_inj->Wu,drop_sublist->Wv,pairwise_map->Ww,foldl_append->WB,mem_reverse->WJ,range'_succ->WS,cons_ne_nil->WV,range'->W8,drop_drop->Xo,map_take->XA,map_drop->XB
open Nat renaming le_refl->MB,ne_of_lt->MC,lt_trans->MJ,lt_of_lt_of_le->Nc,lt_of_le_of_lt->Nk,le_trans->Np,ne_of_gt->NG,zero_le->NH,le_of_lt->NS,lt_or_ge->OI,lt_irrefl->Pn,lt_succ_self->Pq,min_eq_right->Pw,min_eq_left->PK,le_succ->PP,lt_trichotomy->PZ,add_le_add_left->P8,pow_le_pow_right->QR,min_le_right->QX,not_lt_zero->R6,zero_add->Sb,isDigit_of_mem_toDigits->Si,succ_pos->Ug,sub_self->Ui,add_zero->Um,mod_lt->V2,lt_succ_of_lt->Wy,div_eq_of_lt->WN,log2_lt->W4
open Option renaming map_eq_some_iff->MI,bind_eq_some_iff->Qa,map_some->RY,isSome_iff_exists->S_,isSome->VJ,getD_none->WH,getD_some->WO,map->Xm,toList->Xz
open PySem.W renaming kitCls->MN,kitOne->MZ,mg_of->Nd,findIn->Ny,view->NA,keepIn->NU,fnOf->Ob,kia_one->Os,emptyDict->Oz,boot_heap->OB,nsIn->OE,kqd_lay->OF,codeIn->O_,instObj->Pe,recOk->P2,xlAt->Qj,hideAll->Qq,methodCall_KW->QC,hasDictIn->QE,openSeen->QV,plainGet->QW,excIn->Q6,callWith_K->Rg,isFn->Ru,kqd_layL->RH,kHook->RP,makesIn->RX,plainGet_of->R9,of_hideAll->Sr,lookIn->Sv,notCls->Sy,methodObj->SQ,plainOver->SS,specialIn->SU,openGood->Tq,cellsFrom_some->TW,looks_findIn->Ua,takerIn->Uo,kqd_eqv->Ur,looks_findIn->UT,recFacts_of->Vq,hideAll_get->Vr,callWith_K0->Vu,LeftO->VC,WalkO->VD,mroIn->VE,boot_drawn->VQ,holds_open->VR,mg_none_of->V8,Frag->V9,kitx_list->We,kitx_dict->Wf,boot_toks->WC,handedIn->WG,Looks->W6,looks_mroIn->W7,takesIn->W_,OpenLaw->Xa,kqd_any->Xb,SharedT->Xe,XL->Xh,xl_of->Xq,clsIn->Xs
open PySem.F renaming plainAttrs_list->MQ,slot_list_append->MS,type_list_append->MT,excBase_ValueError->ND,plainAttrs_str->Oc,slot_zip_next->Od,slot_dict_keyiterator_next->OH,slot_tuple_iterator_next->Px,slot_str_partition->Py,slot_dict_get->Pz,plain_extend_loop->PF,args_zip_next_1->PY,entry_zip_next->Qe,called_set->Ql,slot_str_split->Qn,slot_tuple_mul->Qo,slot_int_rmul->QD,type_str_partition->QU,args_tuple_add_2->Q5,args_str_split_2->Q9,entry_tuple_add->Rm,args_dict_get_3->Rn,entry_str_split->Rr,slot_tuple_add->Rv,entry_dict_get->Rx,args_dict_keyiterator_next_1->RI,entry_dict_keyiterator_next->RT,args_tuple_iterator_next_1->R0,entry_tuple_iterator_next->Sg,slot_str_rpartition->Sh,slot_str_getitem->SB,entry_extend_loop->SO,args_tuple_mul_2->Tk,plainAttrs_dict->Tx,slot_tuple_rmul->TK,args_int_rmul_2->TL,entry_tuple_mul->TM,slot_int_index->Uj,entry_int_rmul->Uk,type_dict_get->Uw,fills_int_mul->UH,slot_str_join->UO,type_str_join->UP,slot_list_pop->UQ,type_list_pop->UR,excAttr_ValueError->UV,excBase_ValueError->UW,slot_tuple_hash->Wx,slot_dict_iter->WK
open PySem.Value renaming ref->MX,none->NJ,type->O0,str->Sj,bool->So,int->Ts,float->WX,isStrOf->Xr
open Option.some renaming inj->MY
open PySem.Builtin.SmallTypes renaming ownedTupleIsFree->M6,nextOf->M7,ownedTupleHandOut->Ox
open PySem.Builtin.Str renaming strSliceIndices->M9,strKind->PD,occurrences->Rt
open Bool renaming false_ne_true->M_,false_eq_true->Na,and_eq_true->Ou,true_and->Pp,not_true->P4,eq_false_iff->QF,and_eq_true_iff->QK,eq_iff_iff->Rc,false_and->Su,not_false->Vd,and_false->Ve,or_false->VG,noConfusion->WI
open PySem.Str renaming length_append->Nb,empty->NC,ofString->Om,join->OD,empty_append->O6,cps_append->RB,append_assoc->WU,length->Xj
open PySem.W.Dat renaming str->Nw,int->PV,bool->Rb,bool->TC,tuple->XC
open PySem.StrLaws renaming partsFrom->NL,strSub_toList->RD,sub_whole->S0,partsBetween_eq->TH,glued_eq_join->UK,last_spec->WA,occ_head->WR,occBody->Xc
open Array renaming getElem?_toList->NM,getElem?_eq_getElem->NO,length_toList->NP,getElem?_eq_some_iff->NR,all_eq_true_iff_forall_mem->NY,mem_toList_iff->PM,toList_append->P9,getElem?_setIfInBounds->Qx,forIn_toList->Rj,getD->SG,getElem?_eq_none->Ue,append_empty->VP,append_assoc->VV,size_push->Xd,mk->Xg
open False renaming elim->NZ
open Int renaming emod_lt_of_pos->N0,toNat_natCast->Ol,emod_nonneg->Ot,zero_add->Pl,mul_fdiv_cancel_left->Q8,eq_ofNat_of_zero_le->Rs,pos_of_mul_pos_right->Th,fmod_nonneg_of_pos->Uf,fdiv->U8,neg_dvd->U_,toNat_of_nonneg->VB,fmod_lt_of_pos->V1,fmod->Wr,fmod_def->Ws,gcd_dvd_right->Wt,gcd_dvd_left->WM
open Ne renaming symm->N1
open PyProof.Rows renaming callWith_type1->N2,callWith_builtin1->O4,slot_tuple_getitem->P5,toString_length_le->P6,AllBare->RO,intBits_le->Tz,subscriptTail_builtinR->TY,FormattedValue_plain->U6,Subscript_->VY,IntsAre->Xf,tail_any->Xi
open Nat.succ renaming inj->N3
open PySem.Calls renaming spliced_cons->N_,spliced_nil->Pc,callWith_builtin->Pj,evalArgs_plain->PQ,Name_function_global->Ss
open PySem.Obj renaming mapFields->Of,mapSeq->Oo,data_mapFields->O5,isFreed_of_fields->PB,putSet->SI,cls_mapFields->SX
open PySem.SetTable renaming insertAt->OQ,advance->Q1,sizeAbove->Rl,grown->SJ,sameMemory->VA,fill->VL,tooFull->WP,probe->Xn,slot->Xw,laid->Xx
open True renaming intro->O1
open PySem.PyData renaming strOk->O8,eqv->RG,depthAll->RZ,int->V6,canLayAll0->Wz
open PySem.SetTable.probe renaming go->Pd
open PySem.Heap.SameBut renaming update->Pi
open PySem.Paired renaming length->Pm
open List.cons renaming inj->Po,injEq->Uv
open PySem.Builtin.Slice renaming slicePlaces->PC,sliceAdjust->Q2,sliceApplied->Sw
open PySem.Builtin.Tuple renaming tupleExact->P3,tupleItemsOf->Sx,tupleHashOf->SM
open PySem.Txt renaming slice->Qd,join->Wp
open PySem.Shared renaming heap->Qi,TypeIs->Xy
open PySem.SeqAt renaming readOf->Qm,EqAt->VU,readsAll_map->V3,items_eqAt->WQ
open Prod renaming ext->Qp
open PySem.PassesOwn renaming never->Qu
open PySem.Builtin.List renaming listExtendWith->QH,listSameRef->Tl,listItems->Ul
open Prod.mk renaming inj->QJ
open PySem.Around renaming under_plainId->QT,under->Wg
open Classical renaming byContradiction->Q3
open PySem.Code renaming quiet_builtin->Rh,isFrame->Wh
open PyProof.Rows.F renaming plain_set_update_loop->Rq,entry_set_update_loop->TF
open PySem.W.KIN renaming signs_num->RE,signs_num->VN
open Rat renaming divInt->RN
open PySem.Builtin.Frozenset renaming updateFrom->R8
open Sum renaming inl->Sc,inr->Vm
open PySem.Data renaming cell->Sk,seq->Wm,fields->WY
open PySem.NameKind renaming cell->Tf,free->Xv
open Std.Legacy renaming Range->TJ
open PySem.W.Looks renaming here->Ub,here->VW
open ForInStep renaming yield->Us
open PySem.Builtin.Int renaming intTooBig->Ux,intBits->Vv
open PySem.Builtin.Dict renaming showsAll->UA
open List.Pairwise renaming sublist->UC,nil->Wl
open PySem.Heap.UpToSlots renaming trans->UU
open PyProof.Rows.Reads renaming keeps->Vf
open PySem.W.Dat.str renaming inj->Vg
open PySem.EntryCells renaming newEntry->Vw
open PySem.W.Dat.tuple renaming inj->VO
open PySem.W.Hook renaming keeps->VS,says->V_,obs->WD,val->WE,of->W9
open PySem.Heap.IsSliceOf renaming new->VZ
open PySem.Within renaming cons->Wb
open PySem.Heap.Ns1 renaming of_empty->Wc
open PySem.W.XL renaming keeps->WF
open PySem.IsiPair renaming tupleOfB->WL
open Sum.inr renaming inj->WW
open PySem.Bind renaming checkArgs->Xl
open PySem.Value.ref renaming inj->Xu
abbrev Fg := V9
local macro_rules | `(tactic| walk_at "t")=>`(tactic| simp only[List.map,QI,Nq,To,RW,Sb,Nat.reduceAdd,Nat.reduceSub])
namespace HdT
open PySem PySem.W
def Dp:BT->Nat->List Obj->BT
 |T,_,[]=>T
 |T,n,o :: os=>Dp (T.ins n o) (n+1) os
def mS:BT->Nat->List Obj->Bool
 |_,_,[]=>true
 |T,n,o :: os=>match ((T.ins n o).get n).isSome with
  |true=>mS (T.ins n o) (n+1) os
  |false=>false
theorem v_:∀(os:List Obj) (T:BT) (n:Nat) (life:Life),mS T n os=true->absHeap (Dp T n os) (n+os.length) life=⟨(absHeap T n life).objs++os.toArray,life⟩
 |[],T,n,life,_=>by
  show absHeap T n life=_;rw[show([]:List Obj).toArray = #[] from rfl,VP];rfl
 |o :: os,T,n,life,h=>by
  unfold mS at h;split at h
  ·rename_i e;have ih:=v_ os (T.ins n o) (n+1) life h;rw[absHeap_ins e] at ih;show absHeap (Dp (T.ins n o) (n+1) os) (n+(os.length+1)) life=_;rw[show n+(os.length+1)=n+1+os.length by lia,ih];show Heap.mk ((absHeap T n life).objs.push o++os.toArray) life=Heap.mk ((absHeap T n life).objs++(o :: os).toArray) life;congr 1;simp
  ·cases h
def B0(tb:String->Option OK)(p:MP)(w:M4)(n₀:Nat)(ann:Option Mu):Nat->Xe->Thread->Option Xe
 |0,_,_=>none
 |n+1,s,t=>match through t with
  |true=>some s
  |false=>match stepOk n₀ ann t with
   |false=>none
   |true=>match stepT (denote tb) p w s t with
    |some (s',t')=>B0 tb p w n₀ ann n s' t'
    |none=>none
theorem yN{tb:String->Option OK}{p:MP}{w:M4}{n₀:Nat}{ann:Option Mu}:∀{n:Nat} {s r:Xe} {t:Thread},B0 tb p w n₀ ann n s t=some r->topRun tb p w n₀ ann n s.abs t=some r.abs
 |0,_,_,_,h=>by cases h
 |n+1,s,r,t,h=>by
  unfold B0 at h;unfold topRun;cases he:through t with
  |true=>rw[he] at h;cases h;rfl
  |false =>
   rw[he] at h;cases hk:stepOk n₀ ann t with
   |false=>rw[hk] at h;cases h
   |true =>
    rw[hk] at h;cases hs:stepT (denote tb) p w s t with
    |none=>rw[hs] at h;cases h
    |some x=>obtain⟨s₂,t₂⟩:=x;rw[hs] at h;rw[stepT_spec hs];exact yN h
noncomputable def yh (P:Params) (os:Vl):Xe:=⟨Dp .nil 0 (OB P).objs.toList,(OB P).objs.toList.length,(OB P).life,Xg [],VQ,WC,os⟩
theorem wE{os:Vl}(h:mS .nil 0 (OB P).objs.toList=true):(yh P os).abs=⟨OB P,Xg [],VQ,WC,os⟩:=by
 have e:=v_ (OB P).objs.toList .nil 0 (OB P).life h;rw[Sb] at e;unfold Xe.abs yh;simp only;rw[e];congr 1
noncomputable def ends (tb:String->Option OK) (mods:List Str) (p:MP) (w:M4) (N:Nat) (os:Vl):Option MA :=
 match (OB w.params).isNs mainGlobals with
 |true=>(B0 tb p w (OB w.params).objs.size ((OB w.params).nsMap mainGlobals "__annotations__") N (yh w.params os) (topStub p)).bind fun r =>
   match staticsOk mods (OB w.params) r.abs.heap && namesBound p r.abs.heap && gensDone r.abs && laidKept (OB w.params) r.abs.heap with
   |true=>some r.abs
   |false=>none
 |false=>none
theorem Hf{p:MP}{w:M4}{os:Vl}{r:MA}(g:mS .nil 0 (OB w.params).objs.toList=true)(h:ends treeTable (importedModules p.main.body) p w N os=some r):topFrom treeTable p w N ⟨OB w.params,Xg [],VQ,WC,os⟩=some r:=by
 unfold ends at h;unfold topFrom;cases hi:(OB w.params).isNs mainGlobals with
 |false=>rw[hi] at h;cases h
 |true =>
  rw[hi] at h;simp only at h ⊢;obtain⟨x,hx,hr⟩:=Qa.mp h
  have:=yN hx
  rw[wE g] at this;show(topRun treeTable p w (OB w.params).objs.size ((OB w.params).nsMap mainGlobals "__annotations__") N ⟨OB w.params,Xg [],VQ,WC,os⟩ (topStub p)).bind _=_;rw[this];exact hr
theorem left{α:Type}{Yf:MA->α}{Ya:M4->α}
  (e:opening p=plainProg p.main.scope.names) (hN:Nat.ble 600 N=true) (f:∀s,fenceModules? p s=some s) (g:∀w:M4,mS .nil 0 (OB w.params).objs.toList=true)
  (h:∀w os,(ends treeTable (importedModules p.main.body) p w N os).map (fun s=>(openSeen q loose (importedModules p.main.body) Xt true s,Yf s))=some (openGood q loose,Ya w)):LeftO p q loose Xt Yf Ya N:=fun w=>by
 obtain⟨s,hs,hv⟩:=MI.mp (boot_open e hN f w);unfold openEnds;rw[hs];obtain⟨heap,gens,drawn,toks,os⟩:=s;obtain⟨h1,h2⟩:=QJ hv;obtain⟨h2,h3⟩:=QJ h2;obtain⟨h3,h4⟩:=QJ h3;subst h1 h2 h3 h4;obtain⟨r,hr,hv⟩:=MI.mp (h w os);show(topFrom treeTable p w N _).map _=_;rw[Hf (g w) hr];exact congrArg some hv
theorem cut4{α β γ δ ε ζ η θ ι:Type}{o:Option MA}{F:MA->α×β×γ×δ×ε×ζ×η×θ×ι}{a:α}{b:β}{c:γ}{d:δ}{e:ε}{f:ζ}{g:η}{h:θ}{i:ι}(h1:o.map (fun s=>((F s).1,(F s).2.1))=some (a,b))(h2:o.map (fun s=>(F s).2.2.1)=some c)(h3:o.map (fun s=>((F s).2.2.2.1,(F s).2.2.2.2.1))=some (d,e))
  (h4:o.map (fun s=>((F s).2.2.2.2.2.1,(F s).2.2.2.2.2.2.1,(F s).2.2.2.2.2.2.2.1,(F s).2.2.2.2.2.2.2.2))=some (f,g,h,i)):o.map F=some (a,b,c,d,e,f,g,h,i):=by
 cases o with
 |none=>cases h1
 |some s =>
  have k1:=QJ (MY h1);have k3:=QJ (MY h3);have k4:=QJ (MY h4);have k5:=QJ k4.2;have k6:=QJ k5.2;exact congrArg some (Qp k1.1 (Qp k1.2 (Qp (MY h2) (Qp k3.1 (Qp k3.2 (Qp k4.1 (Qp k5.1 (Qp k6.1 k6.2))))))))
end HdT
namespace K94H
open PySem
abbrev ν:List Nat:=[1,2,3,4,5,6,7,8,9,10,11,12,13,14,15,17,18,19,20,22,23,24,25,26,27,28,29,30,31,32,33,34,36,37,38,39,40,41,42,43,44,46,47,49,51,52,53,54,55,56,57,58,59,60,61,62,63,64,65,66,67,68,69,70,71,72]
def qv:PySem.Program:=NA PW94 ν
theorem said(h:PySem.Challenge.rw_vesselhall_k94_deeds_undone.row.Holds):PySem.Challenge.rw_vesselhall_k94_deeds_undone.Holds:=by
 w_on;o_law;exact h
theorem booted{α:Type}{Yf:TQ->α}{Ya:Og->α}(h:∀w os,(HdT.ends N4 (Nh PW94.main.body) PW94 w 10712 os).map (fun s=>(QV q loose (Nh PW94.main.body) Xt true s,Yf s))=some (Tq q loose,Ya w)):VC PW94 q loose Xt Yf Ya 10712 :=
 HdT.left (by kernel_rfl) (by decide) (fun s=>by kernel_rfl) (fun w=>by kernel_rfl) h
local macro_rules | `(tactic| o_head $H)=>`(tactic| refine VR (q:=K94H.qv) (loose:=["PIECES_WRITTEN"]) (Xt:=fun s=>Qj K94H.qv [] s && P2 [] s) (XP:=Xh K94H.qv []) (Yf:=WD $H) (Ya:=WE $H) (YP:=V_ $H) (N:=10712) ?_ (W9 $H) (VS $H) (fun s e=>Xq s (QK.mp e).1) WF (by rfl) (by rfl) (by rfl) (fun s e=>Vq (QK.mp e).2) (by rfl) (by first|assumption|decide +kernel) (by decide +kernel) ⟨rfl,rfl,rfl,rfl,rfl,by decide +kernel⟩ ?_ ?_)
open PySem.W PyProof.Rows in
theorem pre(hL:∀(α:Type) (Yf:TQ->α) (Ya:Og->α),VC PW94 qv ["PIECES_WRITTEN"] (fun s=>Qj qv [] s && P2 [] s) Yf Ya 10712) (hP:PySem.Challenge.rw_vesselhall_k94_deeds_undone.row.toRowW.promised) (hC:∀(YP:Og->PySem.Heap->Prop) (d:DefRec),VD qv ["PIECES_WRITTEN"] (Xh qv []) YP PySem.Challenge.rw_vesselhall_k94_deeds_undone.row.toRowW d [] (fun f vs=>VT f vs)):PySem.Challenge.rw_vesselhall_k94_deeds_undone.row.Holds:=by
 w_on;k_head
 ·exact hL _ _ _
 ·exact hP
 ·exact hC _ _
def asl:List Nat:=[2,3,15,22,23,24,25,28,35,36,37,40,47,48,49,52,59,60,61,64,71,72,73,76,83,84,85,88,95,96,97,100,107,109,110,112,113,114,115,116,119,126,128,129,131,132,133,134,135,138,145,147,148,150,151,152,153,154,157,164,165,166,169,176,177,178,181,188,189,190,193,200,201,202,205,212,213,214,217,219,220,222,223,224,226,227,229,230,231,233,234,236,237,238,240,241,243,244,245,246,249,250,251,254,255,256,259,260,261,264,265,266,269,270,271,273,274,276,277,278,280,281,283,284,285,286,288,289,291,292,293,296,297,298,300,301,303,304,305,307,308,310,311,312,315,316,317,320,321,322,324,325,327,328,329,331,332,334,335,336,339,340,341,344,345,353,355,356,358,359,360,362,363,365,366,367,369,370,372,373,374,376,377,379,380,381,383,384,386,387,388,391,392,393,395,396,398,399,400,402,403,405,406,407,409,410,412,413,414,416,417,419,420,421,423,424,426,427,428,429,430,431,432,435,437,438,440,441,442,444,445,447,448,449,451,452,454,455,456,458,459,461,462,463,465,466,468,469,470,472,473,475,476,477,479,480,482,483,484,486,487,489,490,491,493,494,496,497,498,500,501,503,504,505,507,508,510,511,512,514,515,517,518,519,521,522,524,525,526,528,529,531,532,533,535,536,538,539,540,542,543,545,546,547,549,550,552,553,554,556,557,559,560,561,563,564,566,567,568,570,571,573,574,575,577,578,580,581,582,585,586]
theorem asl_ok(P:PySem.Params):asl=(pre.heap_1 P).map (·.1):=by kernel_rfl
abbrev bZ (w:Og) (s:TQ):=QV (NA PW94 ν) ["PIECES_WRITTEN"] (Nh PW94.main.body) (fun s=>Qj (NA PW94 ν) [] s && P2 [] s) true s
open PySem.W PyProof.Rows in
theorem yF(w:Og) (os:OC):(HdT.ends N4 (Nh PW94.main.body) PW94 (w.withFollow "special-get-raises" false) 10712 os).map (fun s=>((bZ w s).1,(bZ w s).2.1))=some (expectedOf (NA PW94 ν),bltViewBooted):=by
 unfold bZ;rw[PySem.W.Fast.te4187177175401517315,PySem.W.Fast.te5923862056798008813,PySem.W.Fast.te14364793385576792824,PySem.W.Fast.te10993166754833329216];kernel_rfl
open PySem.W PyProof.Rows in
theorem yE(w:Og) (os:OC):(HdT.ends N4 (Nh PW94.main.body) PW94 (w.withFollow "special-get-raises" false) 10712 os).map (fun s=>(bZ w s).2.2.1)=some true:=by
 unfold bZ;rw[PySem.W.Fast.te4187177175401517315,PySem.W.Fast.te5923862056798008813,PySem.W.Fast.te14364793385576792824,PySem.W.Fast.te10993166754833329216];kernel_rfl
open PySem.W PyProof.Rows in
theorem yD(w:Og) (os:OC):(HdT.ends N4 (Nh PW94.main.body) PW94 (w.withFollow "special-get-raises" false) 10712 os).map (fun s=>((bZ w s).2.2.2.1,(bZ w s).2.2.2.2.1))=some (true,pinGoodD (drecsOf (NA PW94 ν))):=by
 unfold bZ;rw[PySem.W.Fast.te4187177175401517315,PySem.W.Fast.te5923862056798008813,PySem.W.Fast.te14364793385576792824,PySem.W.Fast.te10993166754833329216];kernel_rfl
open PySem.W PyProof.Rows in
theorem yC(w:Og) (os:OC):(HdT.ends N4 (Nh PW94.main.body) PW94 (w.withFollow "special-get-raises" false) 10712 os).map (fun s=>((bZ w s).2.2.2.2.2.1,(bZ w s).2.2.2.2.2.2.1,(bZ w s).2.2.2.2.2.2.2.1,(bZ w s).2.2.2.2.2.2.2.2))=some (plainGoodE (NA PW94 ν) (looseW (NA PW94 ν) ["PIECES_WRITTEN"]),plainGoodD (NA PW94 ν) ["PIECES_WRITTEN"],wideGood (NA PW94 ν),clsGoodW (NA PW94 ν) ["PIECES_WRITTEN"]):=by
 unfold bZ;rw[PySem.W.Fast.te4187177175401517315,PySem.W.Fast.te5923862056798008813,PySem.W.Fast.te14364793385576792824,PySem.W.Fast.te10993166754833329216];kernel_rfl
theorem seenfalse(w:Og) (os:OC):(HdT.ends N4 (Nh PW94.main.body) PW94 (w.withFollow "special-get-raises" false) 10712 os).map (fun s=>QV (NA PW94 ν) ["PIECES_WRITTEN"] (Nh PW94.main.body) (fun s=>Qj (NA PW94 ν) [] s && P2 [] s) true s)=some (Tq (NA PW94 ν) ["PIECES_WRITTEN"]):=HdT.cut4 (F:=fun s=>bZ w s) (yF w os) (yE w os) (yD w os) (yC w os)
theorem hookfalse(w:Og) (os:OC):(HdT.ends N4 (Nh PW94.main.body) PW94 (w.withFollow "special-get-raises" false) 10712 os).map (fun s=>asl.map s.heap.get?)=some ((pre.heap_1 (w.withFollow "special-get-raises" false).params).map fun p=>some p.2):=by
 unfold asl;rw[PySem.W.Fast.te5923862056798008813,PySem.W.Fast.te14364793385576792824,PySem.W.Fast.te10993166754833329216];kernel_rfl
abbrev cD (w:Og) (s:TQ):=QV (NA PW94 ν) ["PIECES_WRITTEN"] (Nh PW94.main.body) (fun s=>Qj (NA PW94 ν) [] s && P2 [] s) true s
open PySem.W PyProof.Rows in
theorem BV(w:Og) (os:OC):(HdT.ends N4 (Nh PW94.main.body) PW94 (w.withFollow "special-get-raises" true) 10712 os).map (fun s=>((cD w s).1,(cD w s).2.1))=some (expectedOf (NA PW94 ν),bltViewBooted):=by
 unfold cD;rw[PySem.W.Fast.te4187177175401517315,PySem.W.Fast.te5923862056798008813,PySem.W.Fast.te14364793385576792824,PySem.W.Fast.te10993166754833329216];kernel_rfl
open PySem.W PyProof.Rows in
theorem BU(w:Og) (os:OC):(HdT.ends N4 (Nh PW94.main.body) PW94 (w.withFollow "special-get-raises" true) 10712 os).map (fun s=>(cD w s).2.2.1)=some true:=by
 unfold cD;rw[PySem.W.Fast.te4187177175401517315,PySem.W.Fast.te5923862056798008813,PySem.W.Fast.te14364793385576792824,PySem.W.Fast.te10993166754833329216];kernel_rfl
open PySem.W PyProof.Rows in
theorem BS(w:Og) (os:OC):(HdT.ends N4 (Nh PW94.main.body) PW94 (w.withFollow "special-get-raises" true) 10712 os).map (fun s=>((cD w s).2.2.2.1,(cD w s).2.2.2.2.1))=some (true,pinGoodD (drecsOf (NA PW94 ν))):=by
 unfold cD;rw[PySem.W.Fast.te4187177175401517315,PySem.W.Fast.te5923862056798008813,PySem.W.Fast.te14364793385576792824,PySem.W.Fast.te10993166754833329216];kernel_rfl
open PySem.W PyProof.Rows in
theorem BR(w:Og) (os:OC):(HdT.ends N4 (Nh PW94.main.body) PW94 (w.withFollow "special-get-raises" true) 10712 os).map (fun s=>((cD w s).2.2.2.2.2.1,(cD w s).2.2.2.2.2.2.1,(cD w s).2.2.2.2.2.2.2.1,(cD w s).2.2.2.2.2.2.2.2))=some (plainGoodE (NA PW94 ν) (looseW (NA PW94 ν) ["PIECES_WRITTEN"]),plainGoodD (NA PW94 ν) ["PIECES_WRITTEN"],wideGood (NA PW94 ν),clsGoodW (NA PW94 ν) ["PIECES_WRITTEN"]):=by
 unfold cD;rw[PySem.W.Fast.te4187177175401517315,PySem.W.Fast.te5923862056798008813,PySem.W.Fast.te14364793385576792824,PySem.W.Fast.te10993166754833329216];kernel_rfl
theorem seentrue(w:Og) (os:OC):(HdT.ends N4 (Nh PW94.main.body) PW94 (w.withFollow "special-get-raises" true) 10712 os).map (fun s=>QV (NA PW94 ν) ["PIECES_WRITTEN"] (Nh PW94.main.body) (fun s=>Qj (NA PW94 ν) [] s && P2 [] s) true s)=some (Tq (NA PW94 ν) ["PIECES_WRITTEN"]):=HdT.cut4 (F:=fun s=>cD w s) (BV w os) (BU w os) (BS w os) (BR w os)
theorem hooktrue(w:Og) (os:OC):(HdT.ends N4 (Nh PW94.main.body) PW94 (w.withFollow "special-get-raises" true) 10712 os).map (fun s=>asl.map s.heap.get?)=some ((pre.heap_1 (w.withFollow "special-get-raises" true).params).map fun p=>some p.2):=by
 unfold asl;rw[PySem.W.Fast.te5923862056798008813,PySem.W.Fast.te14364793385576792824,PySem.W.Fast.te10993166754833329216];kernel_rfl
theorem hooks:VC PW94 qv ["PIECES_WRITTEN"] (fun s=>Qj qv [] s && P2 [] s) (fun s=>asl.map s.heap.get?) (fun w=>(pre.heap_1 w.params).map fun p=>some p.2) 10712 :=
 booted (PySem.W.byRow2 "special-get-raises" (fun w=>fun os=>by
  obtain⟨s,e,a⟩:=MI.mp (seenfalse w os)
  have b:=hookfalse w os
  rw[e] at b ⊢
  exact congrArg some (Qp a (MY b))) (fun w=>fun os=>by
  obtain⟨s,e,a⟩:=MI.mp (seentrue w os)
  have b:=hooktrue w os
  rw[e] at b ⊢
  exact congrArg some (Qp a (MY b))))
end K94H
namespace L2
open PySem PySem.Spec PyProof.Rows
abbrev Key:=Sum Int Str
def w_:Key->Mu->Bool
 |.inl k,v=>Mu.isInt k v
 |.inr x,v=>Xr x v
def K8(w:M4):Key->Int
 |.inl k=>hashInt k
 |.inr x=>hashStr w x
theorem bW:∀{k:Key} {v:Mu},w_ k v=true->(∃i t,k=Sc i/\v=Ts i t)\/(∃x t,k=Vm x/\v=Sj x t)
 |.inl i,v,h=>by
  obtain⟨t,e⟩:=Mu.isInt_shape (k:=i) (v:=v) h;exact .inl ⟨i,t,rfl,e⟩
 |.inr x,v,h=>by
  obtain⟨t,e⟩:=Mu.isStrOf_shape (x:=x) (v:=v) h;exact .inr ⟨x,t,rfl,e⟩
theorem Ah(i:Int)(t:Tok):w_ (.inl i) (.int i t)=true:=by simp[w_,Mu.isInt]
theorem Ag(x:Str)(t:Tok):w_ (.inr x) (.str x t)=true:=by simp[w_,Xr]
theorem Ja(a b:Int):decide ((Sc a:Key)=Sc b)=(a == b):=by
 by_cases e:a=b
 ·subst e;simp
 ·have h : ¬ (Sc a:Key)=Sc b:=fun q=>e (Sc.inj q)
  rw[decide_eq_false h];exact(beq_eq_false_iff_ne.mpr e).symm
theorem IY(a b:Str):decide ((Vm a:Key)=Vm b)=decide (a=b):=by
 by_cases e:a=b
 ·subst e;simp
 ·have h : ¬ (Vm a:Key)=Vm b:=fun q=>e (WW q)
  rw[decide_eq_false h,decide_eq_false e]
theorem I_(a:Int)(b:Str):decide ((Sc a:Key)=Vm b)=false:=decide_eq_false (fun q=>nomatch q)
theorem IZ(a:Str)(b:Int):decide ((Vm a:Key)=Sc b)=false:=decide_eq_false (fun q=>nomatch q)
def b9(prog:MP)(w:M4):PySem.KeyKind prog w Key where
 is:=w_
 hash:=K8 w
 inj:=fun v a b ha hb=>by
  rcases bW ha with⟨i,t,rfl,rfl⟩|⟨x,t,rfl,rfl⟩
  ·rcases bW hb with⟨j,u,rfl,e⟩|⟨y,u,rfl,e⟩
   ·injection e with e1 _;rw[e1]
   ·exact nomatch e
  ·rcases bW hb with⟨j,u,rfl,e⟩|⟨y,u,rfl,e⟩
   ·exact nomatch e
   ·injection e with e1 _;rw[e1]
 byValue:=fun k v h=>by
  rcases bW h with⟨i,t,rfl,rfl⟩|⟨x,t,rfl,rfl⟩ <;> rfl
 pyHash:=fun hv h=>by
  rcases bW hv with⟨i,t,rfl,rfl⟩|⟨x,t,rfl,rfl⟩
  ·exact wpAny_pyHash_int h
  ·exact wpAny_pyHash_str h
 eqBool:=fun hu hv h=>by
  rcases bW hu with⟨i,t,rfl,rfl⟩|⟨x,t,rfl,rfl⟩
  ·rcases bW hv with⟨j,u,rfl,rfl⟩|⟨y,u,rfl,rfl⟩
   ·rw[Ja] at h;exact wpAny_eqBool_int h
   ·rw[I_] at h;exact VU.int_str i t y u _ _ _ _ h
  ·rcases bW hv with⟨j,u,rfl,rfl⟩|⟨y,u,rfl,rfl⟩
   ·rw[IZ] at h;exact VU.str_int x t j u _ _ _ _ h
   ·rw[IY] at h;exact wpAny_eqBool_str h
 «strs»:=fun k x t v h=>by
  rcases bW h with⟨i,u,rfl,e⟩|⟨y,u,rfl,e⟩
  ·exact nomatch e
  ·injection e with e1 _
   subst e1;cases v <;> rfl
theorem uG(prog:MP)(w:M4)(i:Int)(t:Tok):(b9 prog w).is (.inl i) (.int i t)=true:=Ah i t
theorem cw(prog:MP)(w:M4)(x:Str)(t:Tok):(b9 prog w).is (.inr x) (.str x t)=true:=Ag x t
inductive V where
 |non|bl (b:Bool)|int (i:Int)|str (x:Str)|byt (b:Array UInt8)|flt (b:UInt64)|ref (a:Addr)|ty (n:String)
 deriving DecidableEq
def RelV:V->Mu->Prop
 |.non,u=>u=NJ
 |.bl b,u=>u=So b
 |.int i,u=>∃t,u=Ts i t
 |.str x,u=>∃t,u=Sj x t
 |.byt b,u=>∃t,u=Mu.bytes b t
 |.flt b,u=>∃t,u=WX b t
 |.ref a,u=>u=MX a
 |.ty n,u=>u=O0 n
abbrev Vals:List V->List Mu->Prop:=Paired RelV
theorem Vals.length(r:Vals xs us):xs.length=us.length:=Pm r
theorem Vals.get:∀{xs:List V} {us:List Mu} {i:Nat} {x:V},Vals xs us->xs[i]?=some x->∃u,us[i]?=some u/\RelV x u
 |_,_,_,_,.nil,e=>by simp at e
 |_,_,0,_,.cons r _,e=>by simp at e;subst e;exact⟨_,rfl,r⟩
 |_,_,i+1,x,.cons _ t,e=>by
  obtain⟨u,h1,h2⟩:=Vals.get (i:=i) (x:=x) t (by simpa using e);exact⟨u,by simpa using h1,h2⟩
theorem Vals.set{x:V}{u:Mu}(r:RelV x u):∀{xs:List V} {us:List Mu} (i:Nat),Vals xs us->Vals (xs.set i x) (us.set i u)
 |_,_,_,.nil=>.nil
 |_,_,0,.cons _ t=>.cons r t
 |_,_,i+1,.cons q t=>.cons q (Vals.set r i t)
theorem Vals.append:∀{xs ys:List V} {us ws:List Mu},Vals xs us->Vals ys ws->Vals (xs++ys) (us++ws)
 |_,_,_,_,.nil,s=>s
 |_,_,_,_,.cons r t,s=>.cons r (Vals.append t s)
theorem Vals.take:∀{xs:List V} {us:List Mu} (n:Nat),Vals xs us->Vals (xs.take n) (us.take n)
 |_,_,0,_=>.nil
 |_,_,_+1,.nil=>.nil
 |_,_,n+1,.cons r t=>.cons r (Vals.take n t)
theorem Vals.drop:∀{xs:List V} {us:List Mu} (n:Nat),Vals xs us->Vals (xs.drop n) (us.drop n)
 |_,_,0,r=>r
 |_,_,_+1,.nil=>.nil
 |_,_,n+1,.cons _ t=>Vals.drop n t
def RelO:Option V->Option Mu->Prop
 |some v,some u=>RelV v u
 |none,none=>True
 |_,_=>False
def KV{κ:Type}:List (κ×V)->List (κ×Mu)->Prop:=Paired fun(p:κ×V) (q:κ×Mu)=>p.1=q.1/\RelV p.2 q.2
def kV:Key->V
 |.inl i=>.int i
 |.inr x=>.str x
inductive HO where
 |lst (xs:List V)
 |tup (xs:List V)
 |dK (fx:List (Key×V))|dT (fx:List (List Key×V))
 |set (S:Int->Bool) (n:Nat)
 |ins (C dx:Addr) (fs:List (Str×V))
 |own (x:Addr)
 |xd (fs:List (Str×V))
 |met (f x:Addr)
 |rng (lo hi:Int)
 |frz (o:Obj) (u:HO)
 |tbl (ps:Array Mu)
 |ext (φ:Heap->Prop)
abbrev Hp:=Addr->Option HO
def upd(H:Hp)(a:Addr)(o:HO):Hp:=fun b=>if b=a then some o else H b
theorem ak:upd H a o a=some o:=by unfold upd;rw[if_pos rfl]
theorem av{a b:Addr}(h:b≠a):upd H a o b=H b:=by unfold upd;rw[if_neg h]
theorem E5:upd (upd H a o) a u=upd H a u:=by
 funext b;unfold upd;split <;> rfl
theorem CT{H:Hp}{o u:HO}(h:H a=some o)(h':H b=some u)(d:o≠u):a≠b:=by
 intro e;subst e;rw[h] at h';exact d (MY h')
theorem aC{H:Hp}{o:HO}(h:H a=some o)(h':H b=none):a≠b:=by
 intro e;subst e;rw[h] at h';cases h'
def TupD (h:Heap) (a:Addr) (items:Array Mu):Prop:=∃o,h.get? a=some o/\(o.cls=.type "tuple"/\∃n,o.data=.seq items n)/\o.dict=none
theorem TupD.tup{h:Heap}{a:Addr}{items:Array Mu}(t:TupD h a items):IsTup h a items:=let ⟨o,e,c,_⟩:=t;⟨o,e,c⟩
theorem TupD.lt(t:TupD h a items):a<h.objs.size:=t.tup.lt
theorem TupD.new(h:Heap) (items:Array Mu):TupD (h.push {cls:=.type "tuple",data:=.seq items}) h.objs.size items:=⟨_,ML _ rfl,⟨rfl,_,rfl⟩,rfl⟩
section
variable(P:MP)(w:M4)
def bX(H:Hp)(h:Heap)(a:Addr):HO->Prop
 |.lst xs=>xs.length<=sizeLine/\∃(fm:List Mu) (n:Nat),Vals xs fm/\h.get? a=some {cls:=.type "list",data:=.seq fm.toArray n}
 |.tup xs=>xs.length<=sizeLine/\∃fm:List Mu,Vals xs fm/\TupD h a fm.toArray
 |.dK fx=>fx.length<=sizeLine/\(a == sysModules)=false/\∃vs,KV fx vs/\h.DictOf (b9 P w) a vs
 |.dT fx=>fx.length<=sizeLine/\(a == sysModules)=false/\∃xs:List (List Key×Addr×Mu),
   Paired (fun(p:List Key×V) (q:List Key×Addr×Mu)=>p.1=q.1/\H q.2.1=some (.tup (p.1.map kV))/\RelV p.2 q.2.2) fx xs /\
   ∃o es ep,h.get? a=some o/\o.ExactDict/\o.data=.dict es ep/\es.toList=xs.map (entryOfKey (tupleKind (b9 P w)))/\(xs.map (·.1)).Nodup
 |.set S n=>h.SetOf (intKind P w) a S n
 |.ins C dx fs=>H dx=some (.own a)/\fs.length<=1000/\dx≠a/\h.get? a=some (Pe C dx) /\
   ∃mA,h.Ns1 dx mA/\(∀f,RelO (fs.lookup f) (mA f))/\TR mA (fs.map (·.1))
 |.own _=>∃o,h.get? a=some o
 |.xd fs=>∃mA,h.Ns1 a mA/\∀f,RelO (fs.lookup f) (mA f)
 |.rng lo hi=>∃t u v,h.get? a=some {cls:=.type "range",data:=.fields #[.int lo t,.int hi u,.int 1 v]}
 |.frz o u=>h.get? a=some o/\bX H h a u
 |.tbl ps=>h.get? a=some {cls:=.none,data:=.fields ps}
 |.met f x=>h.get? a=some (SQ (.ref f) (.ref x))
 |.ext φ=>φ h/\(∃o,h.get? a=some o)/\∀h1 h2:Heap,φ h1->(∀o,h1.get? a=some o->h2.get? a=some o)->φ h2
def HOk(H:Hp)(h:Heap):Prop:=∀a o,H a=some o->bX P w H h a o
end
section
variable{P:MP}{w:M4}{H H':Hp}{h h':Heap}{a:Addr}{o:HO}
theorem bX.lt(x:bX P w H h a o):a<h.objs.size:=by
 cases o with
 |lst xs=>obtain⟨_,_,_,_,e⟩:=x;exact MG e
 |tup xs=>obtain⟨_,_,_,p⟩:=x;exact p.lt
 |dK fx=>obtain⟨_,_,_,_,o,_,_,e,_⟩:=x;exact MG e
 |dT fx=>obtain⟨_,_,_,_,o,_,_,e,_⟩:=x;exact MG e
 |set S n=>obtain⟨o,_,_,_,e,_⟩:=x;exact MG e
 |ins C dx fs=>obtain⟨_,_,_,e,_⟩:=x;exact MG e
 |own y=>obtain⟨_,e⟩:=x;exact MG e
 |xd fs=>obtain⟨_,⟨_,_,_,e,_⟩,_⟩:=x;exact MG e
 |rng lo hi=>obtain⟨_,_,_,e⟩:=x;exact MG e
 |frz ob u=>obtain⟨e,_⟩:=x;exact MG e
 |tbl ps=>exact MG (show h.get? a=some _ from x)
 |met f y=>exact MG (show h.get? a=some _ from x)
 |ext φ=>obtain⟨_,⟨_,e⟩,_⟩:=x;exact MG e
theorem Paired.mapP{α β:Type}{F G:α->β->Prop}:∀{l₁:List α} {l₂:List β},Paired F l₁ l₂->(∀a b,F a b->G a b)->Paired G l₁ l₂
 |_,_,.nil,_=>.nil
 |_,_,.cons r t,f=>.cons (f _ _ r) (Paired.mapP t f)
theorem bX.stay(x:bX P w H h a o)(k:∀b u,(b=a\/H b=some (.own a))->h.get? b=some u->h'.get? b=some u)
  (ho:∀b,H b=some (.own a)->H' b=some (.own a)) (ht:∀b xs,H b=some (.tup xs)->H' b=some (.tup xs)):bX P w H' h' a o:=by
 induction o with
 |lst xs=>obtain⟨z,fm,n,r,e⟩:=x;exact⟨z,fm,n,r,k _ _ (.inl rfl) e⟩
 |tup xs=>obtain⟨z,fm,r,ob,e,c⟩:=x;exact⟨z,fm,r,ob,k _ _ (.inl rfl) e,c⟩
 |dK fx=>obtain⟨z,y,vs,r,ob,es,ep,e,c⟩:=x;exact⟨z,y,vs,r,ob,es,ep,k _ _ (.inl rfl) e,c⟩
 |dT fx =>
  obtain⟨z,y,xs,r,ob,es,ep,e,c⟩:=x;exact⟨z,y,xs,Paired.mapP r fun p q z=>⟨z.1,ht _ _ z.2.1,z.2.2⟩,ob,es,ep,k _ _ (.inl rfl) e,c⟩
 |set S n=>obtain⟨ob,es,ep,t,e,c⟩:=x;exact⟨ob,es,ep,t,k _ _ (.inl rfl) e,c⟩
 |ins C dx fs =>
  obtain⟨d,z,ne,e,mA,⟨od,es,ep,e2,c⟩,r⟩:=x;exact⟨ho _ d,z,ne,k _ _ (.inl rfl) e,mA,⟨od,es,ep,k _ _ (.inr d) e2,c⟩,r⟩
 |own y=>obtain⟨ob,e⟩:=x;exact⟨ob,k _ _ (.inl rfl) e⟩
 |xd fs=>obtain⟨mA,⟨od,es,ep,e,c⟩,r⟩:=x;exact⟨mA,⟨od,es,ep,k _ _ (.inl rfl) e,c⟩,r⟩
 |rng lo hi=>obtain⟨t,u,v,e⟩:=x;exact⟨t,u,v,k _ _ (.inl rfl) e⟩
 |frz ob u ih=>obtain⟨e,q⟩:=x;exact⟨k _ _ (.inl rfl) e,ih q⟩
 |tbl ps =>
  have e:h.get? a=some {cls:=.none,data:=.fields ps}:=x;show h'.get? a=some {cls:=.none,data:=.fields ps};exact k a _ (.inl rfl) e
 |met f y =>
  have e:h.get? a=some (SQ (.ref f) (.ref y)):=x;show h'.get? a=some (SQ (.ref f) (.ref y));exact k a _ (.inl rfl) e
 |ext φ=>obtain⟨p,⟨o,e⟩,st⟩:=x;exact⟨st _ _ p fun o q=>k _ _ (.inl rfl) q,⟨o,k _ _ (.inl rfl) e⟩,st⟩
theorem HOk.lt(x:HOk P w H h)(e:H a=some o):a<h.objs.size:=(x a o e).lt
theorem HOk.fresh(x:HOk P w H h)(e:h.objs.size<=a):H a=none:=by
 cases q:H a with
 |none=>rfl
 |some u=>exact absurd (Nc (x.lt q) e) (Pn _)
theorem HOk.kept(x:HOk P w H h)(k:∀b u,h.get? b=some u->h'.get? b=some u):HOk P w H h':=fun a o e =>
 (x a o e).stay (fun b u _ q=>k b u q) (fun _ q=>q) fun _ _ q=>q
theorem HOk.laid(x:HOk P w H h)(k:∀b u,h.get? b=some u->h'.get? b=some u)(hp:h.objs.size<=a)(new:bX P w (upd H a o) h' a o):HOk P w (upd H a o) h':=fun b u e=>by
 have hn:=x.fresh hp;by_cases hb:b=a
 ·subst hb;rw[ak] at e;cases e;exact new
 ·rw[av hb] at e;exact(x b u e).stay (fun c v _ q=>k c v q) (fun c q=>by rw[av (aC q hn)];exact q) fun c xs q=>by rw[av (aC q hn)];exact q
end
def Rd(H:Hp)(a:Addr)(u:HO):Prop:=H a=some u\/∃o,H a=some (.frz o u)
theorem Rd.ok(r:Rd H a u)(x:HOk P w H h):bX P w H h a u:=by
 rcases r with r|⟨o,r⟩
 ·exact x a u r
 ·obtain⟨_,q⟩:=x a _ r;exact q
def Kc:Option HO->Prop
 |some (.lst _)=>True
 |some (.dK _)=>True
 |some (.dT _)=>True
 |some (.set _ _)=>True
 |some (.ins _ _ _)=>True
 |some (.ext _)=>True
 |_=>False
section
variable{P:MP}{w:M4}{H:Hp}{h h':Heap}{x e:Addr}{o':HO}
theorem HOk.write(ok:HOk P w H h)(mu:Kc (H x))(he:e=x\/H e=some (.own x))(k:∀b u,b≠e->h.get? b=some u->h'.get? b=some u)(heo:∃u,h'.get? e=some u)
  (new:bX P w (upd H x o') h' x o'):HOk P w (upd H x o') h':=fun b u q=>by
 have nown:∀c y,H c=some (.own y)->c≠x:=fun c y r z=>by subst z;rw[r] at mu;exact mu
 have ntup:∀c xs,H c=some (.tup xs)->c≠x:=fun c xs r z=>by subst z;rw[r] at mu;exact mu
 by_cases hb:b=x
 ·subst hb;rw[ak] at q;cases q;exact new
 ·rw[av hb] at q;by_cases Zn:b=e
  ·have q':H b=some (.own x):=by
    rcases he with z|z
    ·exact absurd (Zn.trans z) hb
    ·rw[Zn];exact z
   rw[q] at q';cases q';obtain⟨v,hv⟩:=heo;exact⟨v,by rw[Zn];exact hv⟩
  ·refine(ok b u q).stay (fun c v hc r=>k c v ?_ r) (fun c r=>by rw[av (nown c b r)];exact r) fun c xs r=>by rw[av (ntup c xs r)];exact r
   rcases hc with rfl|hc
   ·exact Zn
   ·rintro rfl;rcases he with z|z
    ·exact nown c b hc z
    ·rw[hc] at z;cases z;exact hb rfl
end
structure Un (fs ex:List Addr) (H H':Hp) (h h':Heap):Prop where
 keep:∀b o,h.get? b=some o->H b=none->b∉fs->b∉ex->h'.get? b=some o
 slot:∀b o,h.get? b=some o->H b=none->b∈fs->b∉ex->∃sl,h'.get? b=some {o with slots:=sl}
 free:∀b o,h.get? b=some o->H b=none->b∉ex->H' b=none
 there:∀b o,h.get? b=some o->b∉ex->∃o',h'.get? b=some o'
 tups:∀b xs,H b=some (.tup xs)->H' b=some (.tup xs)
 frzs:∀b o u,H b=some (.frz o u)->H' b=some (.frz o u)
 tbls:∀b ps,H b=some (.tbl ps)->∃more,H' b=some (.tbl (ps++more))
section
variable{fs fs' ex ex':List Addr}{H H1 H2:Hp}{h h1 h2 h':Heap}{a x e:Addr}{o:HO}
theorem Un.any(u:Un fs ex H H1 h h1){b:Addr}{ob:Obj}(q:h.get? b=some ob)(n:H b=none)(hx:b∉ex):∃sl,h1.get? b=some {ob with slots:=sl}:=by
 by_cases hb:b∈fs
 ·exact u.slot b ob q n hb hx
 ·exact⟨ob.slots,u.keep b ob q n hb hx⟩
theorem Un.kept(k:∀b u,h.get? b=some u->h'.get? b=some u):Un fs ex H H h h' :=
 ⟨fun b ob q _ _ _=>k b ob q,fun b ob q _ _ _=>⟨ob.slots,k b ob q⟩,fun _ _ _ n _=>n,fun b ob q _=>⟨ob,k b ob q⟩,fun _ _ q=>q,fun _ _ _ q=>q,fun _ ps q=>⟨#[],by rw[q];simp⟩⟩
theorem Un.refl:Un fs ex H H h h:=Un.kept fun _ _ q=>q
theorem Un.laid(k:∀b u,h.get? b=some u->h'.get? b=some u)(hp:h.objs.size<=a)(hn:H a=none):Un fs ex H (upd H a o) h h' where
 keep:=fun b u q _ _ _=>k b u q
 slot:=fun b u q _ _ _=>⟨u.slots,k b u q⟩
 free:=fun b u q n _=>by rw[av (MC (Nc (MG q) hp))];exact n
 there:=fun b u q _=>⟨u,k b u q⟩
 tups:=fun b xs q=>by rw[av (aC q hn)];exact q
 frzs:=fun b u xs q=>by rw[av (aC q hn)];exact q
 tbls:=fun b ps q=>⟨#[],by rw[av (aC q hn),q];simp⟩
theorem Un.write(mu:Kc (H x))(he:e=x\/H e=some (.own x))(k:∀b u,b≠e->h.get? b=some u->h'.get? b=some u)(heo:∃u,h'.get? e=some u):Un fs ex H (upd H x o) h h':=by
 have hx:∀b,H b=none->b≠x:=fun b n z=>by subst z;rw[n] at mu;exact mu
 have hb:∀b,H b=none->b≠e:=fun b n z=>by
  subst z;rcases he with r|r
  ·exact hx b n r
  ·rw[n] at r;cases r
 have hm:∀b u,H b=some u->¬ Kc (some u)->b≠x:=fun b u q nm z=>by subst z;rw[q] at mu;exact nm mu
 refine⟨fun b u q n _ _=>k b u (hb b n) q,fun b u q n _ _=>⟨u.slots,k b u (hb b n) q⟩,fun b u q n _=>by rw[av (hx b n)];exact n,fun b u q _=>?_,
  fun b xs q=>by rw[av (hm b _ q fun z=>z)];exact q,fun b u xs q=>by rw[av (hm b _ q fun z=>z)];exact q,fun b ps q=>⟨#[],by rw[av (hm b _ q fun z=>z),q];simp⟩⟩
 by_cases Zn:b=e
 ·subst Zn;exact heo
 ·exact⟨u,k b u Zn q⟩
end
def Kq(h:Heap)(H:Hp):List Addr:=(N7 h.objs.size).filter fun a=>(H a).isSome
def pU(h:Heap)(H:Hp):Heap:=Qq h (Kq h H)
theorem AB(h:Heap)(H:Hp):(pU h H).objs.size=h.objs.size:=PySem.W.hideAll_size _ _
theorem Dm{h:Heap}{H:Hp}{b:Addr}{o:Obj}(e:h.get? b=some o)(n:H b=none):(pU h H).get? b=some o :=
 Vr _ e fun hm=>by
  have q:(H b).isSome=true:=(Oq.mp hm).2;rw[n] at q;simp at q
theorem GD{b:Addr}{o:Obj}(e:(pU h H).get? b=some o):h.get? b=some o/\H b=none:=by
 have e':h.get? b=some o:=Sr (Kq h H) e;refine⟨e',?_⟩;cases q:H b with
 |none=>rfl
 |some x =>
  have hm:b∈Kq h H:=Oq.mpr ⟨O9.mpr (MG e'),by simp[q]⟩;have z:(pU h H).get? b=none:=PySem.W.hideAll_none (Kq h H) hm;rw[z] at e;cases e
structure Mod (K:Fg) (mg:Str->Option Mu) (base:Heap):Prop where
 kin:K.In base
 glob:base.Ns mainGlobals mg
 blt:∃mb,base.Ns builtinsNs mb/\∀x:Str,x≠"__name__"->mb x=bootBuiltins x
 nolimit:base.NoLimit
structure Cx where
 prog:MP
 w:M4
 K:Fg
 mg:Str->Option Mu
 base:Heap
 A:No
 N:List Str
 s₀:MA
 H₀:Hp
 env:Env
 outer:List Env
 stack:List Env
 ex:List Addr
 fn:Str->Bool
 calm:Bool
 pn:List (Addr×Obj)
 xe:Mu->MA->Prop
def frs(l:List Env):List Addr:=l.filterMap (·.frame)
abbrev Cx.fs(X:Cx):List Addr:=frs X.outer
def Kt(sc:Scope)(x:Str):Prop:=sc.names.lookup x=some .local\/sc.names.lookup x=some .cell\/sc.names.lookup x=some .free
def Loc(sc:Scope)(x:Str):Prop:=sc.names.lookup x=some .local\/sc.names.lookup x=some .cell
def Look(env:Env)(h:Heap)(m:Str->Option Mu)(x:Str)(u:Mu):Prop :=
 (env.kindOf x=some .local/\m x=some u)\/((env.kindOf x=some .cell\/env.kindOf x=some .free)/\∃c,env.cells.lookup x=some c/\h.IsCell c (some u))
structure Cx.Ok (X:Cx):Prop where
 mod:Mod X.K X.mg X.base
 kind:X.env.scope.kind=.function
 glob:X.env.globals=mainGlobals
 blt:X.env.builtins=builtinsNs
 above:X.s₀.heap.objs.size<=X.env.locals
 inj:∀x y c,X.env.cells.lookup x=some c->X.env.cells.lookup y=some c->x=y
 has:∀x,(X.env.kindOf x=some .cell\/X.env.kindOf x=some .free)->∃c,X.env.cells.lookup x=some c
 cab:∀x c,X.fn x=true->X.env.cells.lookup x=some c->X.s₀.heap.objs.size<=c
 hd:X.calm=true->X.A.handled=none
 frames:X.A.frames=some X.stack
 stk:X.stack=X.outer\/(X.stack=X.env :: X.outer/\X.env.frame=some X.env.locals)
 exf:∀b∈X.ex,b≠X.env.locals/\∀x c,X.env.cells.lookup x=some c->c≠b
 bs:∀b o,X.base.get? b=some o->X.s₀.heap.get? b=some o/\X.H₀ b=none
 bsz:X.base.objs.size<=X.s₀.heap.objs.size
 noex:∀b o,X.base.get? b=some o->b∉X.ex
 exfs:∀b∈X.ex,b∉X.fs
 funs:X.s₀.heap.FunFrames X.base X.outer
 frf:∀b∈X.fs,X.H₀ b=none
structure Inv (X:Cx) (ξ:List (Addr×Obj)) (σ:List (Option V)) (H:Hp) (s:MA):Prop where
 ok:X.Ok
 os:s.os=X.s₀.os
 bare:RO s.gens
 base:Un X.fs X.ex X.H₀ H X.s₀.heap s.heap
 loc:∃m,s.heap.Ns X.env.locals m/\∀(i:Nat) (x:Str) (v:V),X.N[i]?=some x->σ[i]?=some (some v)->Kt X.env.scope x->∃u,RelV v u/\Look X.env s.heap m x u
 cell:∀x c,X.env.cells.lookup x=some c->∃v,s.heap.IsCell c v
 free:H X.env.locals=none
 freeC:∀x c,X.env.cells.lookup x=some c->H c=none
 pin:∀p∈X.pn++ξ,s.heap.get? p.1=some p.2/\H p.1=none/\p.1≠X.env.locals/\p.1∉X.fs/\∀v,p.2.data≠.cell v
 hok:HOk X.prog X.w H s.heap
 len:σ.length=X.N.length
section
variable{X:Cx}{ξ:List (Addr×Obj)}{σ:List (Option V)}{H H':Hp}{s:MA}{h':Heap}
theorem Cx.Ok.nofr(ok:X.Ok){b:Addr}{o:Obj}(e:X.base.get? b=some o):b∉X.fs:=fun hb=>by
 have:=(ok.funs.mem hb).1
 rw[e] at this;cases this
theorem Inv.bs(I:Inv X ξ σ H s):∀b o,X.base.get? b=some o->s.heap.get? b=some o/\H b=none:=fun b o e =>
 ⟨I.base.keep b o (I.ok.bs b o e).1 (I.ok.bs b o e).2 (I.ok.nofr e) (I.ok.noex b o e),I.base.free b o (I.ok.bs b o e).1 (I.ok.bs b o e).2 (I.ok.noex b o e)⟩
theorem Inv.bk(I:Inv X ξ σ H s):∀b o,X.base.get? b=some o->s.heap.get? b=some o:=fun b o e=>(I.bs b o e).1
theorem Inv.mod(I:Inv X ξ σ H s):Mod X.K X.mg X.base:=I.ok.mod
theorem Inv.kIn(I:Inv X ξ σ H s):X.K.In s.heap:=I.ok.mod.kin.keeps I.bk
theorem Inv.lt(I:Inv X ξ σ H s):X.env.locals<s.heap.objs.size:=let ⟨_,hn,_⟩:=I.loc;hn.lt
theorem Inv.sz(I:Inv X ξ σ H s):X.s₀.heap.objs.size<=s.heap.objs.size:=Np I.ok.above (NS I.lt)
theorem Inv.nofs(I:Inv X ξ σ H s){a:Addr}(h:s.heap.objs.size<=a):a∉X.fs:=fun hb=>by
 obtain⟨_,o,ho,_⟩:=I.ok.funs.mem hb;exact absurd (Nc (MG ho) (Np I.sz h)) (Pn _)
theorem Inv.cne(I:Inv X ξ σ H s):∀x c,X.env.cells.lookup x=some c->c≠X.env.locals:=fun x c e z=>by
 obtain⟨v,o,ho,hd⟩:=I.cell x c e;obtain⟨m,⟨o',es,ep,Zb,Zy,_⟩,_⟩:=I.loc;rw[z,Zb] at ho;cases ho;rw[Zy] at hd;cases hd
theorem Inv.funs(I:Inv X ξ σ H s):s.heap.FunFrames X.base X.outer:=by
 have all:∀(l:List Env),(∀b∈frs l,b∈X.fs)->X.s₀.heap.FunFrames X.base l->s.heap.FunFrames X.base l:=by
  intro l
  induction l with
  |nil=>intro _ _;trivial
  |cons env r ih =>
   intro hs hl;obtain⟨hk,⟨L,o,hf,hn,ho,hd⟩,hr⟩:=hl;have hL:L∈X.fs:=hs L (by unfold frs;rw[Oh,hf];exact MM);obtain⟨sl,e⟩:=I.base.slot L o ho (I.ok.frf L hL) hL fun z=>I.ok.exfs L z hL
   exact⟨hk,⟨L,_,hf,hn,e,hd⟩,ih (fun b hb=>hs b (by unfold frs;rw[Oh,hf];exact MO _ hb)) hr⟩
 exact all X.outer (fun _ hb=>hb) I.ok.funs
theorem Inv.stack(I:Inv X ξ σ H s):s.heap.FunFrames X.base X.stack:=by
 rcases I.ok.stk with e|⟨e,hf⟩
 ·rw[e];exact I.funs
 ·rw[e];obtain⟨m,hn,_⟩:=I.loc;refine .cons (by rw[I.ok.kind];decide) hf hn ?_ I.funs;exact RS (Np I.ok.bsz I.ok.above)
theorem Inv.yg(I:Inv X ξ σ H s):∀b∈frs X.stack,b∈X.env.locals :: X.fs:=fun b hb=>by
 rcases I.ok.stk with e|⟨e,hf⟩
 ·rw[e] at hb;exact MO _ hb
 ·rw[e] at hb;unfold frs at hb;rw[Oh,hf] at hb;exact hb
theorem Inv.j_(I:Inv X ξ σ H s):∀b∈frs X.stack,H b=none:=fun b hb=>by
 rcases MD.mp (I.yg b hb) with e|hb
 ·rw[e];exact I.free
 ·obtain⟨_,o,ho,_⟩:=I.ok.funs.mem hb;exact I.base.free b o ho (I.ok.frf b hb) fun z=>I.ok.exfs b z hb
theorem Inv.step{t':Nat}{d':Drawn}{ch:List Addr}(I:Inv X ξ σ H s)
  (hch:∀b∈ch,(b∈X.ex\/X.s₀.heap.objs.size<=b)/\b≠X.env.locals/\(∀x c,X.env.cells.lookup x=some c->c≠b)/\∀p∈X.pn++ξ,p.1≠b)
  (keep:∀b o,b≠X.env.locals->b∉X.fs->b∉ch->s.heap.get? b=some o->H b=none->h'.get? b=some o)
  (slot:∀b o,b≠X.env.locals->b∈X.fs->b∉ch->s.heap.get? b=some o->H b=none->∃sl,h'.get? b=some {o with slots:=sl}) (free:∀b o,b∉ch->s.heap.get? b=some o->H b=none->H' b=none)
  (there:∀b o,b∉ch->s.heap.get? b=some o->∃o',h'.get? b=some o')
  (tups:∀b xs,H b=some (.tup xs)->H' b=some (.tup xs)) (frzs:∀b o u,H b=some (.frz o u)->H' b=some (.frz o u)) (tbls:∀b ps,H b=some (.tbl ps)->∃more,H' b=some (.tbl (ps++more)))
  (ns:∀m,s.heap.Ns X.env.locals m->h'.Ns X.env.locals m) (hok:HOk X.prog X.w H' h') (hg:RO g') :
  Inv X ξ σ H' {s with heap:=h',gens:=g',drawn:=d',toks:=t'}:=by
 have neL:∀b o,X.s₀.heap.get? b=some o->b≠X.env.locals:=fun b o e=>MC (Nc (MG e) I.ok.above)
 have neC:∀b o,X.s₀.heap.get? b=some o->b∉X.ex->b∉ch:=fun b o e hx hb=>by
  rcases (hch b hb).1 with z|z
  ·exact hx z
  ·exact absurd (Nc (MG e) z) (Pn _)
 have cellK:∀x c,X.env.cells.lookup x=some c->∀v,s.heap.IsCell c v->h'.IsCell c v:=fun x c e v ⟨o,ho,hd⟩=>by
  have nch:c∉ch:=fun z=>(hch c z).2.2.1 x c e rfl
  by_cases hc:c∈X.fs
  ·obtain⟨sl,q⟩:=slot c o (I.cne x c e) hc nch ho (I.freeC x c e);exact⟨_,q,hd⟩
  ·exact⟨o,keep c o (I.cne x c e) hc nch ho (I.freeC x c e),hd⟩
 refine⟨I.ok,I.os,hg,⟨fun b o e n hb hx=>?_,fun b o e n hb hx=>?_,fun b o e n hx=>?_,fun b o e hx=>?_,fun b xs e=>tups b xs (I.base.tups b xs e),fun b o xs e=>frzs b o xs (I.base.frzs b o xs e),fun b ps e=>?_⟩,?_,fun x c e=>?_,?_,fun x c e=>?_,fun p hp=>?_,hok,I.len⟩
 ·exact keep b o (neL b o e) hb (neC b o e hx) (I.base.keep b o e n hb hx) (I.base.free b o e n hx)
 ·obtain⟨sl,e1⟩:=I.base.slot b o e n hb hx;obtain⟨Zk,e2⟩:=slot b _ (neL b o e) hb (neC b o e hx) e1 (I.base.free b o e n hx);exact⟨Zk,e2⟩
 ·obtain⟨o',e1⟩:=I.base.there b o e hx;exact free b o' (neC b o e hx) e1 (I.base.free b o e n hx)
 ·obtain⟨o',e1⟩:=I.base.there b o e hx;exact there b o' (neC b o e hx) e1
 ·obtain⟨m1,e1⟩:=I.base.tbls b ps e;obtain⟨m2,e2⟩:=tbls b _ e1;exact⟨m1++m2,by rw[e2,VV]⟩
 ·obtain⟨m,hn,hl⟩:=I.loc;refine⟨m,ns m hn,fun i x v e1 e2 e3=>?_⟩;obtain⟨u,r,l⟩:=hl i x v e1 e2 e3;refine⟨u,r,?_⟩;rcases l with l|⟨k,c,e,z⟩
  ·exact .inl l
  ·exact .inr ⟨k,c,e,cellK x c e _ z⟩
 ·obtain⟨v,z⟩:=I.cell x c e;exact⟨v,cellK x c e v z⟩
 ·obtain⟨m,⟨o,_,_,ho,_⟩,_⟩:=I.loc;exact free _ o (fun z=>(hch _ z).2.1 rfl) ho I.free
 ·obtain⟨v,o,ho,hd⟩:=I.cell x c e;exact free c o (fun z=>(hch c z).2.2.1 x c e rfl) ho (I.freeC x c e)
 ·obtain⟨e,n,ne,nf,d⟩:=I.pin p hp;have nch:p.1∉ch:=fun z=>(hch p.1 z).2.2.2 p hp rfl
  exact⟨keep p.1 p.2 ne nf nch e n,free p.1 p.2 nch e n,ne,nf,d⟩
theorem Inv.un{t':Nat}(I:Inv X ξ σ H s)(u:Un X.fs [] H H' s.heap h')(hok:HOk X.prog X.w H' h'):Inv X ξ σ H' {s with heap:=h',toks:=t'}:=by
 obtain⟨m,⟨o,es,ep,ho,r⟩,_⟩:=id I.loc;obtain⟨sl,hL⟩:=u.any ho I.free (by simp)
 exact I.step (g':=s.gens) (d':=s.drawn) (ch:=[]) (fun _ z=>nomatch z) (fun b o _ hb _ e n=>u.keep b o e n hb (by simp)) (fun b o _ hb _ e n=>u.slot b o e n hb (by simp)) (fun b o _ e n=>u.free b o e n (by simp)) (fun b o _ e=>u.there b o e (by simp)) u.tups u.frzs u.tbls (fun m' hm=>by
  obtain⟨o',YC,ep',Zb,r'⟩:=hm
  rw[ho] at Zb;cases Zb
  exact⟨_,YC,ep',hL,r'⟩) hok I.bare
theorem Inv.call{t':Nat}{d':Drawn}(I:Inv X ξ σ H s)(u:Un (frs X.stack) ch H H' s.heap h')(hok:HOk X.prog X.w H' h')(hg:RO g')
  (hch:∀b∈ch,(b∈X.ex\/X.s₀.heap.objs.size<=b)/\b≠X.env.locals/\(∀x c,X.env.cells.lookup x=some c->c≠b)/\∀p∈X.pn++ξ,p.1≠b) :
  Inv X ξ σ H' {s with heap:=h',gens:=g',drawn:=d',toks:=t'}:=by
 obtain⟨m,⟨o,es,ep,ho,r⟩,_⟩:=id I.loc;obtain⟨sl,hL⟩:=u.any ho I.free fun z=>(hch _ z).2.1 rfl
 exact I.step (ch:=ch) hch (fun b o hL hb hc e n=>u.keep b o e n (fun z=>(MD.mp (I.yg b z)).elim hL hb) hc) (fun b o _ _ hc e n=>u.any e n hc) (fun b o hc e n=>u.free b o e n hc) (fun b o hc e=>u.there b o e hc) u.tups u.frzs u.tbls (fun m' hm=>by
  obtain⟨o',YC,ep',Zb,r'⟩:=hm
  rw[ho] at Zb;cases Zb
  exact⟨_,YC,ep',hL,r'⟩) hok hg
theorem Inv.turned{t':Nat}{it:Addr}(I:Inv X ξ σ H s)(k:∀b o,b≠it->s.heap.get? b=some o->h'.get? b=some o)(hn:H it=none)(hL:it≠X.env.locals)
  (h1:it∈X.ex\/X.s₀.heap.objs.size<=it) (h2:∀x c,X.env.cells.lookup x=some c->c≠it) (h3:∀p∈X.pn++ξ,p.1≠it):Inv X ξ σ H {s with heap:=h',toks:=t'}:=by
 have nit:∀b u,H b=some u->b≠it:=fun b u e z=>by rw[z,hn] at e;cases e
 refine I.step (g':=s.gens) (d':=s.drawn) (ch:=[it]) (fun b hb=>?_) (fun b o _ _ hc e _=>k b o (fun z=>hc (by simp[z])) e) (fun b o _ _ hc e _=>⟨o.slots,k b o (fun z=>hc (by simp[z])) e⟩) (fun _ _ _ _ n=>n)
  (fun b o hc e=>⟨o,k b o (fun z=>hc (by simp[z])) e⟩) (fun _ _ e=>e) (fun _ _ _ e=>e) (fun b ps e=>⟨#[],by rw[e];simp⟩) (fun m hm=>?_) (fun b u e=>?_) I.bare
 ·have e:b=it:=by simpa using hb
  subst e;exact⟨h1,hL,h2,h3⟩
 ·obtain⟨o,es,ep,ho,r⟩:=hm;exact⟨o,es,ep,k _ o (N1 hL) ho,r⟩
 ·refine(I.hok b u e).stay (fun c v hc q=>k c v ?_ q) (fun _ q=>q) fun _ _ q=>q
  rcases hc with z|z
  ·rw[z];exact nit b u e
  ·exact nit c _ z
theorem Inv.tok(I:Inv X ξ σ H s)(t:Nat):Inv X ξ σ H {s with toks:=t}:=I.un (h':=s.heap) (t':=t) Un.refl I.hok
theorem Inv.kept{t':Nat}(I:Inv X ξ σ H s)(k:∀b u,s.heap.get? b=some u->h'.get? b=some u):Inv X ξ σ H {s with heap:=h',toks:=t'}:=I.un (Un.kept k) (I.hok.kept k)
theorem Inv.laid{a:Addr}{t':Nat}(I:Inv X ξ σ H s)(k:∀b u,s.heap.get? b=some u->h'.get? b=some u)(hp:s.heap.objs.size<=a)(new:bX X.prog X.w (upd H a o) h' a o) :
  Inv X ξ σ (upd H a o) {s with heap:=h',toks:=t'}:=I.un (Un.laid k hp (I.hok.fresh hp)) (I.hok.laid k hp new)
theorem Inv.write{e:Addr}{t':Nat}(I:Inv X ξ σ H s)(mu:Kc (H x))(he:e=x\/H e=some (.own x))(k:∀b u,b≠e->s.heap.get? b=some u->h'.get? b=some u)(heo:∃u,h'.get? e=some u)
  (new:bX X.prog X.w (upd H x o) h' x o):Inv X ξ σ (upd H x o) {s with heap:=h',toks:=t'}:=I.un (Un.write mu he k heo) (I.hok.write mu he k heo new)
theorem Inv.zp{Zw:List (Addr×Obj)}(I:Inv X ξ σ H s)(h:∀p∈Zw,s.heap.get? p.1=some p.2/\H p.1=none/\p.1≠X.env.locals/\p.1∉X.fs/\∀v,p.2.data≠.cell v):Inv X Zw σ H s :=
 ⟨I.ok,I.os,I.bare,I.base,I.loc,I.cell,I.free,I.freeC,fun p hp=>(Ni.mp hp).elim (fun z=>I.pin p (OJ _ z)) (h p),I.hok,I.len⟩
theorem jN{N:List Str}(hN:N.Nodup){i j:Nat}{x:Str}(a:N[i]?=some x)(b:N[j]?=some x):i=j:=by
 obtain⟨h1,e1⟩:=My.mp a;obtain⟨h2,e2⟩:=My.mp b;exact(List.getElem_inj hN).mp (e1.trans e2.symm)
theorem j9{i:Nat}{x:Str}{Q:Unit->MA->Prop}(I:Inv X ξ σ H s)(hN:X.N.Nodup)(hi:X.N[i]?=some x)(hx:Loc X.env.scope x)(r:RelV v u)
  (h:∀s',Inv X ξ (σ.set i (some v)) H s'->(∃a,PL a s.heap s'.heap/\(a=X.env.locals\/X.env.cells.lookup x=some a))->Q () s') (hf:X.fn x=true\/X.env.scope.names.lookup x=some .local:=by first|exact .inl rfl|exact .inr rfl|assumption):wpAny M A (storeName X.env x u) Q E s:=by
 obtain⟨m,hn,hl⟩:=id I.loc;have hcls:(X.env.scope.kind == .class || (X.env.scope.kind == .module && X.env.locals != X.env.globals))=false:=by rw[I.ok.kind];rfl
 have Y2:i<σ.length:=by rw[I.len];exact(My.mp hi).1
 have cne:=I.cne
 have tracked:∀{a:Addr} {h':Heap},(∃o,s.heap.get? a=some o/\H a=none)->PL a s.heap h'->HOk X.prog X.w H h':=fun {a h'} ha hs b ob e=>by
  obtain⟨_,_,YV⟩:=ha;refine(I.hok b ob e).stay (fun c w' hc q=>(hs.2 c ?_).trans q) (fun _ q=>q) fun _ _ q=>q
  rintro rfl;rcases hc with rfl|hc
  ·rw[YV] at e;cases e
  ·rw[YV] at hc;cases hc
 rcases hx with hk|hk
 ·refine wpAny_storeName_local hk hn (fun h' hn' hs=>?_) hcls;obtain⟨oL,_,_,hoL,_⟩:=id hn;refine h _ ⟨I.ok,I.os,I.bare,⟨fun b o e n hb hx=>?_,fun b o e n hb hx=>?_,I.base.free,fun b o e hx=>?_,I.base.tups,I.base.frzs,I.base.tbls⟩,⟨_,hn',fun j y v' e1 e2 e3=>?_⟩,fun y c e=>?_,I.free,I.freeC,fun p hp=>?_,tracked ⟨oL,hoL,I.free⟩ hs,by simpa using I.len⟩ ⟨_,hs,.inl rfl⟩
  ·exact(hs.2 b (MC (Nc (MG e) I.ok.above))).trans (I.base.keep b o e n hb hx)
  ·obtain⟨sl,e1⟩:=I.base.slot b o e n hb hx;exact⟨sl,(hs.2 b (MC (Nc (MG e) I.ok.above))).trans e1⟩
  ·obtain⟨o',e1⟩:=I.base.there b o e hx;exact⟨o',(hs.2 b (MC (Nc (MG e) I.ok.above))).trans e1⟩
  ·by_cases hj:j=i
   ·subst hj;rw[hi] at e1;cases e1;rw[OM Y2] at e2;cases e2;exact⟨u,r,.inl ⟨hk,by simp⟩⟩
   ·rw[QL (N1 hj)] at e2;obtain⟨u',r',q⟩:=hl j y v' e1 e2 e3;refine⟨u',r',?_⟩;rcases q with⟨k,e⟩|⟨k,c,e,z⟩
    ·refine .inl ⟨k,?_⟩
     have:y≠x:=fun e=>hj (jN hN e1 (e ▸ hi))
     simp[this,e]
    ·exact .inr ⟨k,c,e,z.sameBut hs (cne y c e)⟩
  ·obtain⟨w',z⟩:=I.cell y c e;exact⟨w',z.sameBut hs (cne y c e)⟩
  ·obtain⟨e,n,ne,nf,d⟩:=I.pin p hp;exact⟨(hs.2 p.1 ne).trans e,n,ne,nf,d⟩
 ·have hfn:X.fn x=true:=by
   rcases hf with z|z
   ·exact z
   ·rw[z] at hk;cases hk
  obtain⟨c,hc⟩:=I.ok.has x (.inl hk);obtain⟨w',z⟩:=I.cell x c hc;refine wpAny_storeName_cell I.ok.kind hk hc z (fun h' XR hs=>?_);obtain⟨oc,hoc,hocd⟩:=id z;refine h {s with heap:=h'} ⟨I.ok,I.os,I.bare,⟨fun b o e n hb hx=>?_,fun b o e n hb hx=>?_,I.base.free,fun b o e hx=>?_,I.base.tups,I.base.frzs,I.base.tbls⟩,⟨m,hn.sameBut hs (N1 (cne x c hc)),fun j y v' e1 e2 e3=>?_⟩,fun y c' e=>?_,I.free,I.freeC,fun p hp=>?_,tracked ⟨oc,hoc,I.freeC x c hc⟩ hs,by simpa using I.len⟩ ⟨c,hs,.inr hc⟩
  ·exact(hs.2 b (MC (Nc (MG e) (I.ok.cab x c hfn hc)))).trans (I.base.keep b o e n hb hx)
  ·obtain⟨sl,e1⟩:=I.base.slot b o e n hb hx;exact⟨sl,(hs.2 b (MC (Nc (MG e) (I.ok.cab x c hfn hc)))).trans e1⟩
  ·obtain⟨o',e1⟩:=I.base.there b o e hx;exact⟨o',(hs.2 b (MC (Nc (MG e) (I.ok.cab x c hfn hc)))).trans e1⟩
  ·by_cases hj:j=i
   ·subst hj;rw[hi] at e1;cases e1;rw[OM Y2] at e2;cases e2;exact⟨u,r,.inr ⟨.inl hk,c,hc,XR⟩⟩
   ·rw[QL (N1 hj)] at e2;obtain⟨u',r',q⟩:=hl j y v' e1 e2 e3;refine⟨u',r',?_⟩;rcases q with q|⟨k,c',e,z'⟩
    ·exact .inl q
    ·refine .inr ⟨k,c',e,z'.sameBut hs ?_⟩;rintro rfl;exact hj (jN hN e1 (I.ok.inj _ _ _ e hc ▸ hi))
  ·by_cases hcc:c'=c
   ·subst hcc;exact⟨_,XR⟩
   ·obtain⟨w2,z2⟩:=I.cell y c' e;exact⟨w2,z2.sameBut hs hcc⟩
  ·obtain⟨e,n,ne,nf,d⟩:=I.pin p hp;refine⟨(hs.2 p.1 ?_).trans e,n,ne,nf,d⟩;intro q;rw[q,hoc] at e;have q':oc=p.2:=MY e;exact d w' (by rw[<- q'];exact hocd)
theorem gW{i:Nat}{x:Str}{Q:Unit->MA->Prop}(I:Inv X ξ σ H s)(hN:X.N.Nodup)(hi:X.N[i]?=some x)(hx:Loc X.env.scope x)(r:RelV v u)
  (h:∀s',Inv X ξ (σ.set i (some v)) H s'->Q () s') (hf:X.fn x=true\/X.env.scope.names.lookup x=some .local:=by first|exact .inl rfl|exact .inr rfl|assumption):wpAny M A (storeName X.env x u) Q E s :=
 j9 I hN hi hx r (fun s' I' _=>h s' I') hf
theorem Inv.call'{s':MA}(I:Inv X ξ σ H s)(ho:s'.os=s.os)(u:Un (frs X.stack) ch H H' s.heap s'.heap)(hok:HOk X.prog X.w H' s'.heap)(hg:RO s'.gens)
  (hch:∀b∈ch,(b∈X.ex\/X.s₀.heap.objs.size<=b)/\b≠X.env.locals/\(∀x c,X.env.cells.lookup x=some c->c≠b)/\∀p∈X.pn++ξ,p.1≠b):Inv X ξ σ H' s':=by
 obtain⟨h',g',d',t',o'⟩:=s';have e:o'=s.os:=ho;subst e;exact I.call (g':=g') (t':=t') (d':=d') u hok hg hch
end
abbrev XK:=Mu->Option Addr->Hp->Prop
abbrev St:=List (Option V)
abbrev VK:=V->Hp->Prop
abbrev TE:=St->Hp->VK->Prop
abbrev TT:=St->Hp->(Bool->Hp->Prop)->Prop
abbrev TA:=St->Hp->(List V->Hp->Prop)->Prop
structure bJ where
 nx:St->Hp->Prop
 rt:VK
 bk:St->Hp->Prop:=fun _ _=>False
 ct:St->Hp->Prop:=fun _ _=>False
abbrev TS:=bJ->St->Hp->Prop
def EP(X:Cx)(ξ:List (Addr×Obj))(σ:St)(Q:VK)(u:Mu)(s':MA):Prop:=∃v H',Inv X ξ σ H' s'/\RelV v u/\Q v H'
def TP(X:Cx)(ξ:List (Addr×Obj))(σ:St)(Q:Bool->Hp->Prop)(b:Bool)(s':MA):Prop:=∃H',Inv X ξ σ H' s'/\Q b H'
def AP(X:Cx)(ξ:List (Addr×Obj))(σ:St)(Q:List V->Hp->Prop)(us:List Mu)(s':MA):Prop:=∃vs H',Inv X ξ σ H' s'/\Vals vs us/\Q vs H'
def SP(X:Cx)(ξ:List (Addr×Obj))(D:bJ)(f:Flow)(s':MA):Prop :=
 match f with
 |.next=>∃σ' H',Inv X ξ σ' H' s'/\D.nx σ' H'
 |.brk=>∃σ' H',Inv X ξ σ' H' s'/\D.bk σ' H'
 |.cont=>∃σ' H',Inv X ξ σ' H' s'/\D.ct σ' H'
 |.ret u=>∃v σ' H',Inv X ξ σ' H' s'/\RelV v u/\D.rt v H'
def PE(X:Cx)(e:Expr)(t:TE):Prop :=
 ∀(ξ:List (Addr×Obj)) (s:MA) (σ:St) (H:Hp) (Q:VK),Inv X ξ σ H s->t σ H Q->wpAny (model X.prog X.w) X.A (eval e X.env) (EP X ξ σ Q) X.xe s
def PT(X:Cx)(e:Expr)(t:TT):Prop :=
 ∀(ξ:List (Addr×Obj)) (s:MA) (σ:St) (H:Hp) (Q:Bool->Hp->Prop),Inv X ξ σ H s->t σ H Q->wpAny (model X.prog X.w) X.A (isTrue e X.env (eval e X.env)) (TP X ξ σ Q) X.xe s
def PW(X:Cx)(e:Expr)(t:TT):Prop :=
 ∀(whole:Sem Mu) (ξ:List (Addr×Obj)) (s:MA) (σ:St) (H:Hp) (Q:Bool->Hp->Prop),Inv X ξ σ H s->t σ H Q->wpAny (model X.prog X.w) X.A (isTrue e X.env whole) (TP X ξ σ Q) X.xe s
theorem PW.pt(h:PW X e t):PT X e t:=h _
def PA(X:Cx)(es:List Expr)(t:TA):Prop :=
 ∀(pos:Pos) (ξ:List (Addr×Obj)) (s:MA) (σ:St) (H:Hp) (Q:List V->Hp->Prop),Inv X ξ σ H s->t σ H Q->wpAny (model X.prog X.w) X.A (spliced (backTo pos (starEach es X.env))) (AP X ξ σ Q) X.xe s
def PS(X:Cx)(st:Stmt)(t:TS):Prop :=
 ∀(ξ:List (Addr×Obj)) (s:MA) (σ:St) (H:Hp) (D:bJ),Inv X ξ σ H s->t D σ H->wpAny (model X.prog X.w) X.A (exec st X.env) (SP X ξ D) X.xe s
def PSs(X:Cx)(st:List Stmt)(t:TS):Prop :=
 ∀(ξ:List (Addr×Obj)) (s:MA) (σ:St) (H:Hp) (D:bJ),Inv X ξ σ H s->t D σ H->wpAny (model X.prog X.w) X.A (execs st X.env) (SP X ξ D) X.xe s
theorem bj{α:Type}{t:Sem α}{Q Q':α->MA->Prop}(h:wpAny M A t Q E s)(hQ:∀a s,Q a s->Q' a s):wpAny M A t Q' E s:=Nj h hQ fun _ _ x=>x
section
variable{X:Cx}
def ac(i:Nat):TE:=fun σ H Q=>∃v,σ[i]?=some (some v)/\Q v H
def tC(v:V):TE:=fun _ H Q=>Q v H
theorem Ep{i:Nat} {x:Str} {pos:Pos} (hN:X.N[i]?=some x) (hv:Kt X.env.scope x) (hd:(x == ("__debug__":Str))=false:=by decide) (hcd:(x == ("__classdict__":Str))=false:=by decide):PE X (.Name x pos) (ac i):=by
 intro ξ s σ H Q I h;obtain⟨v,e,h⟩:=h;obtain⟨m,hn,hl⟩:=I.loc;obtain⟨u,r,l⟩:=hl i x v hN e hv;have fin:EP X ξ σ Q u s:=⟨v,H,I,r,h⟩
 rcases l with⟨hk,hm⟩|⟨hk,c,hc,Z1⟩
 ·exact wpAny_Name (wpAny_loadName_local I.ok.kind hk hn hm fin) hd
 ·rcases hk with hk|hk
  ·exact wpAny_Name (wpAny_loadName_cell I.ok.kind hk hc Z1 fin) hd
  ·exact wpAny_Name (wpAny_loadName_free I.ok.kind hk hc Z1 fin hcd) hd
theorem ai{i j pos}:PE X (.Constant (.int i) j pos) (tC (.int i)):=fun _ _ _ H _ I h=>wpAny_Constant_int ⟨.int i,H,I.tok _,⟨_,rfl⟩,h⟩
theorem gb{b j pos}:PE X (.Constant (.bool b) j pos) (tC (.bl b)):=fun _ _ _ H _ I h=>Constant_bool ⟨.bl b,H,I,rfl,h⟩
theorem dF{j pos}:PE X (.Constant .none j pos) (tC .non):=fun _ _ _ H _ I h=>Constant_none ⟨.non,H,I,rfl,h⟩
theorem aP{x j pos}:PE X (.Constant (.str x) j pos) (tC (.str x)):=fun _ _ _ H _ I h=>Calls.Constant_str ⟨.str x,H,I.tok _,⟨_,rfl⟩,h⟩
def Gl(X:Cx)(x:Str):Prop:=X.env.kindOf x=some .globalImplicit
theorem eV{H:Hp}{u:Mu}{pos:Pos}{Q:Mu->MA->Prop}(I:Inv X ξ σ H s)(hg:Gl X x)(hm:X.mg x=some u)(h:Q u s)
  (hd:(x == ("__debug__":Str))=false:=by decide):wpAny (model X.prog X.w) X.A (eval (.Name x pos) X.env) Q E s :=
 Ss I.ok.kind hg (Calls.loadGlobal_global (by rw[I.ok.glob];exact I.mod.glob.keeps I.bk) hm h) hd
theorem fE{H:Hp}{u:Mu}{pos:Pos}{Q:Mu->MA->Prop}(I:Inv X ξ σ H s)(hg:Gl X x)(hm:X.mg x=none)(hv:bootBuiltins x=some u)(h:Q u s)
  (hn:x≠"__name__":=by decide) (hd:(x == ("__debug__":Str))=false:=by decide):wpAny (model X.prog X.w) X.A (eval (.Name x pos) X.env) Q E s:=by
 obtain⟨mb,h1,h2⟩:=I.mod.blt;exact Ss I.ok.kind hg (Calls.loadGlobal_builtin (by rw[I.ok.glob];exact I.mod.glob.keeps I.bk) hm (by rw[I.ok.blt];exact h1.keeps I.bk) ((h2 x hn).trans hv) h) hd
theorem cj{u:Mu} {pos:Pos} (hg:Gl X x) (hm:X.mg x=some u) (r:RelV v u) (hd:(x == ("__debug__":Str))=false:=by decide):PE X (.Name x pos) (tC v) :=
 fun _ _ _ H _ I h=>eV I hg hm ⟨v,H,I,r,h⟩ hd
theorem bp{u:Mu} {pos:Pos} (hg:Gl X x) (hm:X.mg x=none) (hv:bootBuiltins x=some u) (r:RelV v u) (hn:x≠"__name__":=by decide) (hd:(x == ("__debug__":Str))=false:=by decide):PE X (.Name x pos) (tC v) :=
 fun _ _ _ H _ I h=>fE I hg hm hv ⟨v,H,I,r,h⟩ hn hd
variable{a b:Expr}{ta tb:TE}{pos:Pos}
def tB(t:TE):TT:=fun σ H Q=>t σ H fun x H1=>∃c,x=.bl c/\Q c H1
theorem a9(h:PE X e t)(he:∀whole,isTrue e X.env whole=(do let v <- whole;standAt e.pos;holding [v] (truthy v)):=by intro _;rfl):PT X e (tB t):=by
 intro ξ s σ H Q I hw;refine isTrue_plain (bj (h ξ s σ H _ I hw) fun v s1 ⟨x,H1,I1,r1,q1⟩=>?_) (he _);obtain⟨d,rfl,q⟩:=q1;cases r1;exact Oy ⟨H1,I1,q⟩
variable{tA tB':TT}{rest:List Expr}
def ye(t u:TT):TT:=fun σ H Q=>t σ H fun c H1=>if c=true then u σ H1 Q else Q false H1
def xr(t u:TT):TT:=fun σ H Q=>t σ H fun c H1=>if c=true then Q true H1 else u σ H1 Q
def dA(t:TT):TT:=fun σ H Q=>t σ H fun c H1=>Q (!c) H1
theorem pw_and1(ha:PT X a tA):PW X (.BoolOp .And [a] pos) tA:=by
 intro wh ξ s σ H Q I h;refine isTrue_and (bj (ha ξ s σ H Q I h) fun c s1 e=>?_);cases c with
 |true=>exact isTrue_and_nil e
 |false=>exact e
theorem pw_or1(ha:PT X a tA):PW X (.BoolOp .Or [a] pos) tA:=by
 intro wh ξ s σ H Q I h;refine isTrue_or (bj (ha ξ s σ H Q I h) fun c s1 e=>?_);cases c with
 |false=>exact isTrue_or_nil e
 |true=>exact e
theorem pw_and(ha:PT X a tA)(hb:PW X (.BoolOp .And (b :: rest) pos) tB'):PW X (.BoolOp .And (a :: b :: rest) pos) (ye tA tB'):=by
 intro wh ξ s σ H Q I h;refine isTrue_and (bj (ha ξ s σ H _ I h) fun c s1 ⟨H1,I1,q1⟩=>?_);cases c with
 |true=>exact hb wh ξ s1 σ H1 Q I1 q1
 |false=>exact⟨H1,I1,q1⟩
theorem pw_or(ha:PT X a tA)(hb:PW X (.BoolOp .Or (b :: rest) pos) tB'):PW X (.BoolOp .Or (a :: b :: rest) pos) (xr tA tB'):=by
 intro wh ξ s σ H Q I h;refine isTrue_or (bj (ha ξ s σ H _ I h) fun c s1 ⟨H1,I1,q1⟩=>?_);cases c with
 |true=>exact⟨H1,I1,q1⟩
 |false=>exact hb wh ξ s1 σ H1 Q I1 q1
theorem cG(ha:PT X a tA):PT X (.UnaryOp .Not a pos) (dA tA):=by
 intro ξ s σ H Q I h;exact isTrue_not (ha ξ s σ H (fun c H1=>Q (!c) H1) I h)
def j6(ta tb:TE):TE:=fun σ H Q=>ta σ H fun x H1=>∃c,x=.bl c/\if c=true then tb σ H1 Q else Q (.bl false) H1
def Fm(ta tb:TE):TE:=fun σ H Q=>ta σ H fun x H1=>∃c,x=.bl c/\if c=true then Q (.bl true) H1 else tb σ H1 Q
def BL(ta:TE):TE:=fun σ H Q=>ta σ H fun x H1=>∃c,x=.bl c/\Q (.bl (!c)) H1
theorem eL{op}(h:PE X a t):PE X (.BoolOp op [a] pos) t:=fun ξ s σ H Q I hw=>BoolOp_one (h ξ s σ H Q I hw)
theorem dX(ha:PE X a ta)(hb:PE X (.BoolOp .And (b :: rest) pos) tb):PE X (.BoolOp .And (a :: b :: rest) pos) (j6 ta tb):=by
 intro ξ s σ H Q I h;refine BoolOp_and (bj (ha ξ s σ H _ I h) fun v s1 ⟨x,H1,I1,r1,q1⟩=>?_);obtain⟨c,rfl,q1⟩:=q1;cases r1;refine Oy ?_;cases c with
 |true=>exact hb ξ s1 σ H1 Q I1 q1
 |false=>exact⟨.bl false,H1,I1,rfl,q1⟩
theorem K0(ha:PE X a ta)(hb:PE X (.BoolOp .Or (b :: rest) pos) tb):PE X (.BoolOp .Or (a :: b :: rest) pos) (Fm ta tb):=by
 intro ξ s σ H Q I h;refine BoolOp_or (bj (ha ξ s σ H _ I h) fun v s1 ⟨x,H1,I1,r1,q1⟩=>?_);obtain⟨c,rfl,q1⟩:=q1;cases r1;refine Oy ?_;cases c with
 |false=>exact hb ξ s1 σ H1 Q I1 q1
 |true=>exact⟨.bl true,H1,I1,rfl,q1⟩
theorem zr(ha:PE X a ta):PE X (.UnaryOp .Not a pos) (BL ta):=by
 intro ξ s σ H Q I h;refine UnaryOp_ (bj (ha ξ s σ H _ I h) fun v s1 ⟨x,H1,I1,r1,q1⟩=>?_);obtain⟨c,rfl,q1⟩:=q1;cases r1;exact not_of (Oy ⟨.bl (!c),H1,I1,rfl,q1⟩)
def Kz(t:TT)(ta tb:TE):TE:=fun σ H Q=>t σ H fun c H1=>if c=true then ta σ H1 Q else tb σ H1 Q
theorem CD(hc:PT X c tA)(ha:PE X a ta)(hb:PE X b tb):PE X (.IfExp c a b pos) (Kz tA ta tb):=by
 intro ξ s σ H Q I h;refine wpAny_IfExp (bj (hc ξ s σ H _ I h) fun d s1 ⟨H1,I1,q1⟩=>?_);cases d with
 |true=>exact ha ξ s1 σ H1 Q I1 q1
 |false=>exact hb ξ s1 σ H1 Q I1 q1
end
def SqL(K:Fg)(H:Hp)(a:Addr)(xs:List V):Prop :=
 Rd H a (.lst xs) \/
  ∃(o:Obj) (fm:Array Mu) (n:Nat),K.lookup a=some o/\o.cls=.type "list"/\o.dict=none/\o.data=.seq fm n/\fm.size<=sizeLine/\Vals xs fm.toList
def SqT(K:Fg)(H:Hp)(a:Addr)(xs:List V):Prop :=
 Rd H a (.tup xs) \/
  ∃(o:Obj) (fm:Array Mu) (n:Nat),K.lookup a=some o/\o.cls=.type "tuple"/\o.data=.seq fm n/\fm.size<=sizeLine/\Vals xs fm.toList
def LW:Mu->Option V
 |.none=>some .non
 |.bool b=>some (.bl b)
 |.int i _=>some (.int i)
 |.str x _=>some (.str x)
 |.bytes b _=>some (.byt b)
 |.float b _=>some (.flt b)
 |.ref a=>some (.ref a)
 |.type n=>some (.ty n)
 |_=>none
theorem RelV.abs(r:RelV x u):LW u=some x:=by
 cases x with
 |non=>cases r;rfl
 |bl _=>cases r;rfl
 |int _=>obtain⟨t,rfl⟩:=r;rfl
 |str _=>obtain⟨t,rfl⟩:=r;rfl
 |byt _=>obtain⟨t,rfl⟩:=r;rfl
 |flt _=>obtain⟨t,rfl⟩:=r;rfl
 |ref _=>cases r;rfl
 |ty _=>cases r;rfl
theorem RelV.inj(r:RelV x u)(q:RelV y u):x=y:=MY (r.abs.symm.trans q.abs)
theorem Vals.inj:∀{xs ys:List V} {us:List Mu},Vals xs us->Vals ys us->xs=ys
 |_,_,_,.nil,.nil=>rfl
 |_,_,_,.cons r t,.cons r' t'=>by rw[r.inj r',Vals.inj t t']
section
variable{X:Cx}{ξ:List (Addr×Obj)}{σ:St}{H:Hp}{s:MA}{a:Addr}{xs ys:List V}
theorem SqL.of{K:Fg}(h:H a=some (.lst xs)):SqL K H a xs:=.inl (.inl h)
theorem SqT.of{K:Fg}(h:H a=some (.tup xs)):SqT K H a xs:=.inl (.inl h)
theorem Inv.list(I:Inv X ξ σ H s)(h:SqL X.K H a xs):∃fm:List Mu,Vals xs fm/\PlainL s.heap a fm.toArray/\xs.length<=sizeLine:=by
 rcases h with h|⟨o,fm,n,hk,hc,hd,hs,hz,r⟩
 ·obtain⟨z,fm,n,r,e⟩:=h.ok I.hok;exact⟨fm,r,⟨_,n,e,rfl,rfl,rfl⟩,z⟩
 ·refine⟨fm.toList,r,⟨o,n,I.kIn a o hk,hc,hd,by simpa using hs⟩,?_⟩;have e:=r.length;simp only[NP] at e;lia
theorem Inv.tuple(I:Inv X ξ σ H s)(h:SqT X.K H a xs):∃fm:List Mu,Vals xs fm/\IsTup s.heap a fm.toArray/\xs.length<=sizeLine:=by
 rcases h with h|⟨o,fm,n,hk,hc,hs,hz,r⟩
 ·obtain⟨z,fm,r,p⟩:=h.ok I.hok;exact⟨fm,r,p.tup,z⟩
 ·refine⟨fm.toList,r,⟨o,I.kIn a o hk,hc,n,by simpa using hs⟩,?_⟩;have e:=r.length;simp only[NP] at e;lia
theorem Inv.vR(I:Inv X ξ σ H s)(h:SqL X.K H a xs)(h':SqL X.K H a ys):xs=ys:=by
 obtain⟨fm,r,⟨o,n,e,_,_,d⟩,_⟩:=I.list h;obtain⟨its',r',⟨o',n',e',_,_,d'⟩,_⟩:=I.list h';rw[e] at e';cases e';rw[d] at d';injection d' with d1 _
 have:fm=its':=by simpa using congrArg Array.toList d1
 subst this;exact r.inj r'
theorem Inv.qr(I:Inv X ξ σ H s)(h:SqT X.K H a xs)(h':SqT X.K H a ys):xs=ys:=by
 obtain⟨fm,r,⟨o,e,_,n,d⟩,_⟩:=I.tuple h;obtain⟨its',r',⟨o',e',_,n',d'⟩,_⟩:=I.tuple h';rw[e] at e';cases e';rw[d] at d';injection d' with d1 _
 have:fm=its':=by simpa using congrArg Array.toList d1
 subst this;exact r.inj r'
end
abbrev Cx.wish(X:Cx)(E:Mu->MA->Prop):Cx:={X with xe:=E}
abbrev Cx.nox(X:Cx):Cx:=X.wish fun _ _=>False
theorem Cx.Ok.wish{X:Cx}(ok:X.Ok)(E:Mu->MA->Prop):(X.wish E).Ok :=
 ⟨ok.mod,ok.kind,ok.glob,ok.blt,ok.above,ok.inj,ok.has,ok.cab,ok.hd,ok.frames,ok.stk,ok.exf,ok.bs,ok.bsz,ok.noex,ok.exfs,ok.funs,ok.frf⟩
theorem Cx.Ok.dU{X:Cx}(ok:(X.wish E).Ok):X.Ok :=
 ⟨ok.mod,ok.kind,ok.glob,ok.blt,ok.above,ok.inj,ok.has,ok.cab,ok.hd,ok.frames,ok.stk,ok.exf,ok.bs,ok.bsz,ok.noex,ok.exfs,ok.funs,ok.frf⟩
section
variable{X:Cx}{ξ:List (Addr×Obj)}{σ:St}{H:Hp}{s:MA}{E:Mu->MA->Prop}
theorem Inv.wish(I:Inv X ξ σ H s)(E:Mu->MA->Prop):Inv (X.wish E) ξ σ H s:=⟨I.ok.wish E,I.os,I.bare,I.base,I.loc,I.cell,I.free,I.freeC,I.pin,I.hok,I.len⟩
theorem Inv.dU(I:Inv (X.wish E) ξ σ H s):Inv X ξ σ H s:=⟨I.ok.dU,I.os,I.bare,I.base,I.loc,I.cell,I.free,I.freeC,I.pin,I.hok,I.len⟩
theorem SP.dU{D:bJ}(h:SP (X.wish E) ξ D f s'):SP X ξ D f s':=by
 cases f with
 |next=>obtain⟨σ',H',I,q⟩:=h;exact⟨σ',H',I.dU,q⟩
 |brk=>obtain⟨σ',H',I,q⟩:=h;exact⟨σ',H',I.dU,q⟩
 |cont=>obtain⟨σ',H',I,q⟩:=h;exact⟨σ',H',I.dU,q⟩
 |ret u=>obtain⟨v,σ',H',I,r,q⟩:=h;exact⟨v,σ',H',I.dU,r,q⟩
theorem PSs.nox{st:List Stmt}(h:PSs X.nox st t):PSs X st t:=fun ξ s σ H D I hw =>
 Nj (h ξ s σ H D (I.wish _) hw) (fun _ _ q=>q.dU) fun _ _ z=>NZ z
end
section
variable{X:Cx}{st:Stmt}{rest:List Stmt}{t u:TS}{e:Expr}{te:TE}{pos:Pos}
def bc:TS:=fun D σ H=>D.nx σ H
def ar(t u:TS):TS:=fun D σ H=>t {D with nx:=u D} σ H
theorem aB:PSs X [] bc:=fun _ _ σ H _ I h=>OS ⟨σ,H,I,h⟩
theorem ae(h1:PS X st t)(h2:PSs X rest u):PSs X (st :: rest) (ar t u):=by
 intro ξ s σ H D I h;refine Qb (bj (h1 ξ s σ H {D with nx:=u D} I h) fun f s1 q=>?_);cases f with
 |next =>
  obtain⟨σ',H',I',q⟩:=q;exact h2 ξ s1 σ' H' D I' q
 |ret v=>exact q
 |brk=>exact q
 |cont=>exact q
theorem aj(h1:PS X st t):PSs X [st] t:=by
 intro ξ s σ H D I h;refine Qb (bj (h1 ξ s σ H D I h) fun f s1 q=>?_);cases f with
 |next=>exact OS q
 |ret v=>exact q
 |brk=>exact q
 |cont=>exact q
theorem Inv.quiet{H:Hp}(I:Inv X ξ σ H s):interactive X.env=false:=by simp[interactive,I.ok.kind]
def dS(te:TE):TS:=fun D σ H=>te σ H fun _ H1=>D.nx σ H1
theorem a5(he:PE X e te)(hs:swapsWith e none pos.line X.env=pure false:=by rfl):PS X (.Expr e pos) (dS te):=by
 intro ξ s σ H D I h;exact wpAny_Expr_any (bj (he ξ s σ H _ I h) fun v s1 ⟨x,H1,I1,r1,q1⟩=>⟨σ,H1,I1,q1⟩) I.quiet hs
def aU(te:TE):TS:=fun D σ H=>te σ H D.rt
theorem aI(he:PE X e te):PS X (.Return (some e) pos) (aU te):=by
 intro ξ s σ H D I h;exact wpAny_Return_some (bj (he ξ s σ H _ I h) fun v s1 ⟨x,H1,I1,r1,q1⟩=>⟨x,σ,H1,I1,r1,q1⟩)
def a_(c:TT)(t u:TS):TS:=fun D σ H=>c σ H fun b H1=>if b=true then t D σ H1 else u D σ H1
theorem aY(hc:PT X c tc)(ha:PSs X a t)(hb:PSs X b u):PS X (.If c a b pos) (a_ tc t u):=by
 intro ξ s σ H D I h;refine wpAny_If (bj (hc ξ s σ H _ I h) fun d s1 ⟨H1,I1,q1⟩=>?_);cases d with
 |true=>exact ha ξ s1 σ H1 D I1 q1
 |false=>exact hb ξ s1 σ H1 D I1 q1
def gT:TS:=fun _ _ _=>False
theorem cW:PSs X sts gT:=fun _ _ _ _ _ _ h=>h.elim
end
abbrev TG:=V->St->Hp->(St->Hp->Prop)->Prop
abbrev DV:=List V->St->Hp->(St->Hp->Prop)->Prop
def PG(X:Cx)(target:Expr)(t:TG):Prop :=
 ∀(ξ:List (Addr×Obj)) (s:MA) (σ:St) (H:Hp) (v:V) (u:Mu) (Q:St->Hp->Prop),Inv X ξ σ H s->RelV v u->t v σ H Q ->
  wpAny (model X.prog X.w) X.A (assign target X.env u) (fun _ s'=>∃σ' H',Inv X ξ σ' H' s'/\Q σ' H') X.xe s
def Kv(X:Cx)(ts:List Expr)(t:DV):Prop :=
 ∀(ξ:List (Addr×Obj)) (s:MA) (σ:St) (H:Hp) (vs:List V) (us:List Mu) (Q:St->Hp->Prop),Inv X ξ σ H s->Vals vs us->t vs σ H Q ->
  wpAny (model X.prog X.w) X.A (assignInOrder ((assignEach ts X.env).map (·.2)) us) (fun _ s'=>∃σ' H',Inv X ξ σ' H' s'/\Q σ' H') X.xe s
abbrev DU:=V->V->V->Hp->(Hp->Prop)->Prop
def Kb(X:Cx)(t:DU):Prop :=
 ∀(ξ:List (Addr×Obj)) (s:MA) (σ:St) (H:Hp) (o i v:V) (ov iv u:Mu) (Q:Hp->Prop),Inv X ξ σ H s->RelV o ov->RelV i iv->RelV v u->t o i v H Q ->
  wpAny (model X.prog X.w) X.A (setItem ov iv u) (fun _ s'=>∃H',Inv X ξ σ H' s'/\Q H') X.xe s
section
variable{X:Cx}{pos:Pos}
def aJ(i:Nat):TG:=fun v σ H Q=>Q (σ.set i (some v)) H
theorem bE{i:Nat}{x:Str}(hN:X.N.Nodup)(hi:X.N[i]?=some x)(hx:Loc X.env.scope x)(hf:X.fn x=true\/X.env.scope.names.lookup x=some .local:=by first|exact .inl rfl|exact .inr rfl|assumption):PG X (.Name x pos) (aJ i):=by
 intro ξ s σ H v u Q I r h;exact SR (gW I hN hi hx r (fun s' I'=>⟨_,H,I',h⟩) hf)
def AI:DV:=fun vs σ H Q=>vs=[]/\Q σ H
def pW(t:TG)(u:DV):DV:=fun vs σ H Q=>∃v r,vs=v :: r/\t v σ H fun σ' H'=>u r σ' H' Q
theorem uk:Kv X [] AI:=by
 intro ξ s σ H vs us Q I r h;obtain⟨e,h⟩:=h;subst e;cases r;exact assignInOrder_nil ⟨σ,H,I,h⟩
theorem eS(h1:PG X e t)(h2:Kv X es u)
  (hs:(assignEach (e :: es) X.env).map (·.2)=assign e X.env :: (assignEach es X.env).map (·.2):=by rfl):Kv X (e :: es) (pW t u):=by
 intro ξ s σ H vs us Q I r h;obtain⟨v,vr,e1,h⟩:=h;subst e1;cases r with
 |cons r rr =>
  rw[hs];refine assignInOrder_cons (bj (h1 ξ s σ H _ _ _ I r h) fun _ s1 ⟨σ1,H1,I1,q1⟩=>?_);exact h2 ξ s1 σ1 H1 _ _ Q I1 rr q1
def AH(K:Fg)(n:Nat)(t:DV):TG:=fun v σ H Q=>∃a xs,v=.ref a/\SqT K H a xs/\xs.length=n/\t xs σ H Q
theorem zq{n:Nat}(hc:X.calm=true)(h:Kv X es t)
  (hn:(assignEach es X.env).length=n:=by rfl) (hst:(assignEach es X.env).findIdx? (·.1)=none:=by rfl):PG X (.Tuple es k pos) (AH X.K n t):=by
 intro ξ s σ H v u Q I r hw;obtain⟨a,xs,e1,hq,hl,hw⟩:=hw;subst e1;cases r;obtain⟨fm,rv,ht,hz⟩:=I.tuple hq;refine assign_Tuple_tuple (I.ok.hd hc) ht (by simp[hn,<- hl,rv.length]) hst fun h' hx=>?_
 have I1:Inv X ξ σ H {s with heap:=h'}:=I.kept (t':=s.toks) fun b o e=>hx b o (MC (MG e)) e
 exact h ξ _ σ H xs _ Q I1 (by simpa using rv) hw
def Dw(to ti:TE)(t:DU):TG:=fun v σ H Q=>to σ H fun o H1=>ti σ H1 fun i H2=>t o i v H2 fun H3=>Q σ H3
theorem Eo(ho:PE X o to)(hi:PE X i ti)(hs:Kb X t)
  (ha:∀v,assign (.Subscript o i pos) X.env v=(do
   let ov <- holding [v] (eval o X.env)
   let iv <- holding [v,ov] (eval i X.env)
   standAt pos
   holding [v,ov,iv] (setItem ov iv v)
   release [v,ov,iv] []):=by intro _;rfl):PG X (.Subscript o i pos) (Dw to ti t):=by
 intro ξ s σ H v u Q I r h;rw[ha];refine Ms (NQ (bj (ho ξ s σ H _ I h) fun ov s1 ⟨x,H1,I1,r1,q1⟩=>?_));refine Ms (NQ (bj (hi ξ s1 σ H1 _ I1 q1) fun iv s2 ⟨y,H2,I2,r2,q2⟩=>?_));refine Ms (Qy (Ms (NQ (bj (hs ξ s2 σ H2 x y v ov iv u _ I2 r1 r2 r q2) fun _ s3 ⟨H3,I3,q3⟩=>?_))));exact wpAny_release ⟨σ,H3,I3,q3⟩
def aQ(te:TE)(g:TG):TS:=fun D σ H=>te σ H fun x H1=>g x σ H1 D.nx
theorem Ek(he:PE X e te)(hg:PG X tg g)(hs:swapsWithSole [tg] e pos.line X.env=pure false:=by rfl)(hw:swappedStores [tg] e X.env=pure none:=by rfl)
  (h1:(assignEach [tg] X.env).map (·.2)=[assign tg X.env]:=by rfl):PS X (.Assign [tg] e pos) (aQ te g):=by
 intro ξ s σ H D I h;refine wpAny_Assign_stores (bj (he ξ s σ H _ I h) fun v s1 ⟨x,H1,I1,r1,q1⟩=>?_) hs hw;rw[h1];exact bj (hg ξ s1 σ H1 x v _ I1 r1 q1) fun _ s2 q=>q
theorem aG{i:Nat}{x:Str}(hN:X.N.Nodup)(hi:X.N[i]?=some x)(hx:Loc X.env.scope x)(he:PE X e te)(hs:swapsWith e (some (.Name x pos')) pos.line X.env=pure false:=by rfl)(hf:X.fn x=true\/X.env.scope.names.lookup x=some .local:=by first|exact .inl rfl|exact .inr rfl|assumption) :
  PS X (.Assign [.Name x pos'] e pos) (aQ te (aJ i)):=by
 intro ξ s σ H D I h;refine wpAny_Assign_Name (bj (he ξ s σ H _ I h) fun v s1 ⟨y,H1,I1,r1,q1⟩=>?_) hs;exact gW I1 hN hi hx r1 (fun s2 I2=>⟨_,H1,I2,q1⟩) hf
end
section
variable{X:Cx}{pos:Pos}
def qu(c:TT)(tb:TS):TS:=fun D σ H=>∃W:Nat->St->Hp->Prop,(∃m,W m σ H)/\∀m σ H,W m σ H ->
 c σ H fun b H1=>if b=true then ∃N:St->Hp->Prop,(∀σ' H',N σ' H'->∃m',m'<m/\W m' σ' H')/\tb {D with nx:=N,ct:=N,bk:=D.nx} σ H1 else D.nx σ H1
theorem o8(hp:RF (model X.prog X.w) X.A X.env X.xe)(hc:PT X c tc)(hb:PSs X body tb):PS X (.While c body [] pos) (qu tc tb):=by
 intro ξ s σ H D I h;obtain⟨W,⟨m0,w0⟩,turn⟩:=h;refine wpAny_While (codeAny_whileLoop (fun n s'=>∃σ' H',Inv X ξ σ' H' s'/\W n σ' H') ?_ m0 ⟨σ,H,I,w0⟩);rintro n s1 ⟨σ1,H1,I1,w1⟩;refine PH hp (bj (hc ξ s1 σ1 H1 _ I1 (turn n σ1 H1 w1)) fun b s2 ⟨H2,I2,q2⟩=>?_);cases b with
 |true =>
  obtain⟨N,hN,q2⟩:=q2;rw[if_pos rfl];refine PH hp (bj (hb ξ s2 σ1 H2 _ I2 q2) fun f s3 q3=>?_);cases f with
  |next =>
   obtain⟨σ3,H3,I3,n3⟩:=q3;obtain⟨m',hm,w3⟩:=hN σ3 H3 n3;exact⟨m',hm,σ3,H3,I3,w3⟩
  |cont =>
   obtain⟨σ3,H3,I3,n3⟩:=q3;obtain⟨m',hm,w3⟩:=hN σ3 H3 n3;exact⟨m',hm,σ3,H3,I3,w3⟩
  |brk=>exact q3
  |ret v=>exact q3
 |false =>
  rw[if_neg M_];exact OS ⟨σ1,H2,I2,q2⟩
end
structure It where
 go:Nat->Hp->Prop
 yld:Nat->Hp->V->Hp->Prop
 stop:Nat->Hp->Prop
def fq(X:Cx)(ξ:List (Addr×Obj))(H:Hp)(b:Addr):Prop :=
 H b=none/\b≠X.env.locals/\b∉X.fs/\(b∈X.ex\/X.s₀.heap.objs.size<=b)/\(∀x c,X.env.cells.lookup x=some c->c≠b)/\∀p∈X.pn++ξ,p.1≠b
theorem Inv.fpOk{H H':Hp}{b:Addr}(I:Inv X ξ σ H s)(hb:s.heap.objs.size<=b)(hn:H' b=none):fq X ξ H' b:=by
 refine⟨hn,NG (Nc I.lt hb),I.nofs hb,.inr (Np I.sz hb),fun x c e z=>?_,fun p hp z=>?_⟩
 ·obtain⟨v,q⟩:=I.cell x c e;exact absurd (Nc q.lt (by rw[z];exact hb)) (Pn _)
 ·exact absurd (Nc (MG (I.pin p hp).1) (by rw[z];exact hb)) (Pn _)
structure qj (P:MP) (w:M4) (K:Fg) (tg:Expr) (J:It) (fp:List Addr) (it:Addr) (tn:Nat->Heap->Prop):Prop where
 mem:it∈fp
 obj:∀i h,tn i h->∀b∈fp,∃o,h.get? b=some o/\∀v,o.data≠.cell v
 keep:∀i h h',tn i h->(∀b∈fp,∀o,h.get? b=some o->h'.get? b=some o)->tn i h'
 item:∀(X:Cx),X.prog=P->X.w=w->X.K=K->X.calm=true->∀(i:Nat) (ξ:List (Addr×Obj)) (s:MA) (σ:St) (H:Hp) (E:Mu->MA->Prop),Inv X ξ σ H s->(∀b∈fp,fq X ξ H b)->tn i s.heap->J.go i H ->
  wpAny (model P w) X.A (pyNext (.ref it)) (fun r s1=>∃u,r=some u /\
   wpAny (model P w) X.A (letOwnedTupleGo tg (.ref it) u) (fun _ s2=>∃x H',Inv X ξ σ H' s2/\RelV x u/\J.yld i H x H'/\tn (i+1) s2.heap/\∀b∈fp,H' b=none) E s1) E s
 done:∀(X:Cx),X.prog=P->X.w=w->X.K=K->X.calm=true->∀(i:Nat) (ξ:List (Addr×Obj)) (s:MA) (σ:St) (H:Hp) (E:Mu->MA->Prop),Inv X ξ σ H s->(∀b∈fp,fq X ξ H b)->tn i s.heap->J.stop i H ->
  wpAny (model P w) X.A (pyNext (.ref it)) (fun r s1=>r=none/\Inv X ξ σ H s1) E s
 self:∀(A:No) (i:Nat) (s:MA) (Q:Mu->MA->Prop) (E:Mu->MA->Prop),tn i s.heap->Q (.ref it) s->wpAny (model P w) A (pyIter (.ref it)) Q E s
abbrev TI:=St->Hp->(It->Hp->Prop)->Prop
def Ml(X:Cx)(ξ:List (Addr×Obj))(σ:St)(tg:Expr)(R:It->Hp->Prop)(Z5:Mu)(s2:MA):Prop :=
 ∃(it:Addr) (fp:List Addr) (tn:Nat->Heap->Prop) (J:It) (H':Hp),Z5=.ref it/\Inv X ξ σ H' s2/\qj X.prog X.w X.K tg J fp it tn/\tn 0 s2.heap/\(∀b∈fp,fq X ξ H' b)/\R J H'
def PI(X:Cx)(tg iter:Expr)(wi:TI):Prop :=
 ∀(ξ:List (Addr×Obj)) (s:MA) (σ:St) (H:Hp) (R:It->Hp->Prop),Inv X ξ σ H s->wi σ H R ->
  wpAny (model X.prog X.w) X.A (eval iter X.env) (fun v s1=>wpAny (model X.prog X.w) X.A (pyIter v) (Ml X ξ σ tg R) X.xe s1) X.xe s
theorem Dr{E:Mu->MA->Prop} {s:MA}  {it:Addr}  {o:Obj}   {Q:Unit->MA->Prop} (ho:s.heap.get? it=some o) (hc:o.cls=.type n) (hd:o.data=.fields vs)
    (hn:["enumerate", "zip", "dict_itemiterator", "dict_reverseitemiterator", "odict_iterator", "itertools.zip_longest", "itertools.pairwise"].contains n=false) (hQ:Q () s):wpAny M A (letOwnedTupleGo tg (.ref it) u) Q E s := by
  unfold letOwnedTupleGo
  cases tg <;> first
    |exact Mz hQ
    | (cases u <;> first
        |exact Mz hQ
        | (refine Ms (wpAny_load ho ?_)
           rw[hc, hd]
           show wpAny M A (if (["enumerate", "zip", "dict_itemiterator", "dict_reverseitemiterator", "odict_iterator", "itertools.zip_longest", "itertools.pairwise"].contains n && vs[0]? == some (rawInt _))=true then _ else _) Q E s
           rw[if_neg (by intro h; rw[hn, Su] at h; cases h)]
           exact Mz hQ))
def vd(K:Fg)(a:Addr):It :=
 ⟨fun i H=>∃xs x,SqL K H a xs/\xs[i]?=some x,fun i H x H'=>H'=H/\∀xs,SqL K H a xs->xs[i]?=some x,fun i H=>∃xs,SqL K H a xs/\xs.length<=i⟩
def sQ(K:Fg)(a:Addr):It :=
 ⟨fun i H=>∃xs x,SqT K H a xs/\xs[i]?=some x,fun i H x H'=>H'=H/\∀xs,SqT K H a xs->xs[i]?=some x,fun i H=>∃xs,SqT K H a xs/\xs.length<=i⟩
def wu(lo:Int)(n:Nat):It:=⟨fun i _=>i<n,fun i H x H'=>H'=H/\x=.int (lo+i),fun i _=>n<=i⟩
theorem qq{K:Fg}(a it:Addr):qj P w K tg (vd K a) [it] it (fun i h=>h.IsListIter it a i) where
 mem:=by simp
 obj:=fun i h st b hb=>by
  have e:b=it:=by simpa using hb
  subst e;obtain⟨o,e,c,d⟩:=st;exact⟨o,e,fun v z=>by rw[d] at z;cases z⟩
 keep:=fun i h h' st k=>st.at fun o e=>k it (by simp) o e
 item:=by
  intro X hP hw hK hc i ξ s σ H E I hf st hg;subst hP hw hK;obtain⟨xs,x,hq,hx⟩:=hg;obtain⟨fm,rv,p,hz⟩:=I.list hq;obtain⟨u,hu,ru⟩:=rv.get hx;obtain⟨f0,f1,f2,f3,f4,f5⟩:=hf it (by simp);refine wpAny_pyNext_list_item st p.isList (x:=u) (by simpa using hu) fun h' Y6 sb=>?_
  have I1:Inv X ξ σ H {s with heap:=h'}:=I.turned (t':=s.toks) (fun b o hb e=>(sb.2 b hb).trans e) f0 f1 f3 f4 f5;obtain⟨o,e,c,d⟩:=id Y6;exact⟨u,rfl,Dr (s:={s with heap:=h'}) e c d (by decide) ⟨x,H,I1,ru,⟨rfl,fun ys hy=>by rw[I.vR hy hq];exact hx⟩,Y6,fun b hb=>(hf b hb).1⟩⟩
 done:=by
  intro X hP hw hK hc i ξ s σ H E I hf st hg;subst hP hw hK;obtain⟨xs,hq,hx⟩:=hg;obtain⟨fm,rv,p,hz⟩:=I.list hq;obtain⟨f0,f1,f2,f3,f4,f5⟩:=hf it (by simp);have hl:=rv.length;exact wpAny_pyNext_list_end (I.ok.hd hc) st p.isList (by simp;lia) fun h' eb=>⟨rfl,I.turned (t':=s.toks) (fun b o hb e=>eb b o hb e) f0 f1 f3 f4 f5⟩
 self:=fun _ _ _ _ _ st h=>wpAny_pyIter_listiter st h
theorem mE{K:Fg}(a it:Addr):qj P w K tg (sQ K a) [it] it (fun i h=>h.IsTupleIter it a i) where
 mem:=by simp
 obj:=fun i h st b hb=>by
  have e:b=it:=by simpa using hb
  subst e;obtain⟨o,e,c,d⟩:=st;exact⟨o,e,fun v z=>by rw[d] at z;cases z⟩
 keep:=fun i h h' st k=>st.at fun o e=>k it (by simp) o e
 item:=by
  intro X hP hw hK hc i ξ s σ H E I hf st hg;subst hP hw hK;obtain⟨xs,x,hq,hx⟩:=hg;obtain⟨fm,rv,p,hz⟩:=I.tuple hq;obtain⟨u,hu,ru⟩:=rv.get hx;obtain⟨f0,f1,f2,f3,f4,f5⟩:=hf it (by simp);refine wpAny_pyNext_tuple_item st (show s.heap.IsTuple a fm.toArray from p) (x:=u) (by simpa using hu) fun h' Y6 sb=>?_
  have I1:Inv X ξ σ H {s with heap:=h'}:=I.turned (t':=s.toks) (fun b o hb e=>(sb.2 b hb).trans e) f0 f1 f3 f4 f5;obtain⟨o,e,c,d⟩:=id Y6;exact⟨u,rfl,Dr (s:={s with heap:=h'}) e c d (by decide) ⟨x,H,I1,ru,⟨rfl,fun ys hy=>by rw[I.qr hy hq];exact hx⟩,Y6,fun b hb=>(hf b hb).1⟩⟩
 done:=by
  intro X hP hw hK hc i ξ s σ H E I hf st hg;subst hP hw hK;obtain⟨xs,hq,hx⟩:=hg;obtain⟨fm,rv,p,hz⟩:=I.tuple hq;obtain⟨f0,f1,f2,f3,f4,f5⟩:=hf it (by simp);have hl:=rv.length;exact wpAny_pyNext_tuple_end (I.ok.hd hc) st (show s.heap.IsTuple a fm.toArray from p) (by simp;lia) fun h' eb=>⟨rfl,I.turned (t':=s.toks) (fun b o hb e=>eb b o hb e) f0 f1 f3 f4 f5⟩
 self:=fun _ _ _ _ _ st h=>wpAny_pyIter_tupleiter st h
theorem wz{K:Fg}(it:Addr)(lo:Int)(n:Nat):qj P w K tg (wu lo n) [it] it (fun i h=>IsRangeIter h it (lo+(i:Nat)*1) ((n:Int)-(i:Nat)) 1) where
 mem:=by simp
 obj:=fun i h st b hb=>by
  have e:b=it:=by simpa using hb
  subst e
  exact⟨_,st,fun v z=>by
   have z':WY _=Sk v:=z
   cases z'⟩
 keep:=fun i h h' st k=>k it (by simp) _ st
 item:=by
  intro X hP hw hK hc i ξ s σ H E I hf st hg;subst hP hw hK;obtain⟨f0,f1,f2,f3,f4,f5⟩:=hf it (by simp);have W:=Walks.range (prog:=X.prog) (w:=X.w) (I.ok.hd hc) it lo 1 n;refine W.item i s _ _ hg st fun v h' tk hv Y6 kk=>?_
  obtain⟨t,rfl⟩:=hv;have I1:Inv X ξ σ H {s with heap:=h',toks:=tk}:=I.turned (fun b o hb e=>kk b o (by simpa using hb) e) f0 f1 f3 f4 f5;refine⟨_,rfl,Dr (s:={s with heap:=h',toks:=tk}) (n:="range_iterator") Y6 rfl rfl (by decide) ⟨.int (lo+i),H,I1,⟨t,?_⟩,⟨rfl,rfl⟩,Y6,fun b hb=>(hf b hb).1⟩⟩;rw[Int.mul_one]
 done:=by
  intro X hP hw hK hc i ξ s σ H E I hf st hg;subst hP hw hK;obtain⟨f0,f1,f2,f3,f4,f5⟩:=hf it (by simp);exact wpAny_pyNext_range_end (I.ok.hd hc) st (by have:n<=i:=hg;lia) fun h' eb=>⟨rfl,I.turned (t':=s.toks) (fun b o hb e=>eb b o hb e) f0 f1 f3 f4 f5⟩
 self:=fun _ _ _ _ _ st h=>wpAny_pyIter_rangeiter st h
section
variable{X:Cx}{tg:Expr}
def k9(K:Fg)(tl:TE):TI:=fun σ H R=>tl σ H fun x H1=>∃a,x=.ref a/\(∃xs,SqL K H1 a xs)/\R (vd K a) H1
def mr(K:Fg)(tl:TE):TI:=fun σ H R=>tl σ H fun x H1=>∃a,x=.ref a/\(∃xs,SqT K H1 a xs)/\R (sQ K a) H1
theorem gz(hl:PE X l tl):PI X tg l (k9 X.K tl):=by
 intro ξ s σ H R I h;refine bj (hl ξ s σ H _ I h) fun v s1 ⟨x,H1,I1,r1,q1⟩=>?_
 obtain⟨a,e,⟨xs,hq⟩,q⟩:=q1;subst e;cases r1;obtain⟨fm,rv,p,hz⟩:=I1.list hq;refine ON p.isList ?_;refine⟨s1.heap.objs.size,[s1.heap.objs.size],_,_,H1,rfl,I1.kept (t':=s1.toks) fun b o e=>Mt _ e,qq a _,⟨_,ML _ rfl,rfl,rfl⟩,fun b hb=>?_,q⟩;have e:b=s1.heap.objs.size:=by simpa using hb
 subst e;exact I1.fpOk (MB _) (I1.hok.fresh (MB _))
theorem ja(hl:PE X l tl):PI X tg l (mr X.K tl):=by
 intro ξ s σ H R I h;refine bj (hl ξ s σ H _ I h) fun v s1 ⟨x,H1,I1,r1,q1⟩=>?_
 obtain⟨a,e,⟨xs,hq⟩,q⟩:=q1;subst e;cases r1;obtain⟨fm,rv,p,hz⟩:=I1.tuple hq;refine N8 (show s1.heap.IsTuple a fm.toArray from p) ?_;refine⟨s1.heap.objs.size,[s1.heap.objs.size],_,_,H1,rfl,I1.kept (t':=s1.toks) fun b o e=>Mt _ e,mE a _,⟨_,ML _ rfl,rfl,rfl⟩,fun b hb=>?_,q⟩;have e:b=s1.heap.objs.size:=by simpa using hb
 subst e;exact I1.fpOk (MB _) (I1.hok.fresh (MB _))
theorem Cq{H:Hp}{R:It->Hp->Prop}{lo hi:Int}{t u v:Tok}{tk:Nat}(I:Inv X ξ σ H s)(h1 : -(2 ^ 62)<=lo)(h2:lo<2 ^ 62)(h3 : -(2 ^ 62)<=hi)(h4:hi<2 ^ 62)
  (q:R (wu lo (hi-lo).toNat) H):wpAny (model X.prog X.w) X.A (pyIter (.ref s.heap.objs.size)) (Ml X ξ σ tg R) E {s with heap:=s.heap.push {cls:=.type "range",data:=.fields #[.int lo t,.int hi u,.int 1 v]},toks:=tk}:=by
 refine wpAny_pyIter_range (IsRange.new ..) (small_one h1 h2 h3 h4) ?_;have I1:Inv X ξ σ H {s with heap:=s.heap.push {cls:=.type "range",data:=.fields #[.int lo t,.int hi u,.int 1 v]},toks:=tk}:=I.kept fun b o e=>Mt _ e
 refine⟨(s.heap.push {cls:=.type "range",data:=.fields #[.int lo t,.int hi u,.int 1 v]}).objs.size,[(s.heap.push {cls:=.type "range",data:=.fields #[.int lo t,.int hi u,.int 1 v]}).objs.size],_,_,H,rfl,
  I1.kept (t':=tk) fun b o e=>Mt _ e,wz _ lo (hi-lo).toNat,?_,fun b hb=>?_,q⟩
 ·have e1:lo+((0:Nat):Int)*1=lo:=by simp
  have e2:(((hi-lo).toNat:Nat):Int)-((0:Nat):Int)=OK.Range.rangeSize lo hi 1:=by rw[rangeSize_one];split <;> lia
  show IsRangeIter _ _ (lo+((0:Nat):Int)*1) ((((hi-lo).toNat:Nat):Int)-((0:Nat):Int)) 1;rw[e1,e2];exact ML _ rfl
 ·have e:b=(s.heap.push {cls:=.type "range",data:=.fields #[.int lo t,.int hi u,.int 1 v]}).objs.size:=by simpa using hb
  subst e;exact I1.fpOk (MB _) (I1.hok.fresh (MB _))
def k8(ta:TA):TI:=fun σ H R=>ta σ H fun vs H1=>∃j:Int,vs=[.int j]/\-(2 ^ 62)<=j/\j<2 ^ 62/\R (wu 0 j.toNat) H1
theorem cH{a:Expr} {ta:TA} {p pos:Pos} (hg:Gl X "range") (hm:X.mg "range"=none) (ha:PA X [a] ta) (hs:starEach [a] X.env=[(false,eval a X.env)]:=by rfl):PI X tg (.Call (.Name "range" p) [a] [] pos) (k8 ta):=by
 intro ξ s σ H R I h;refine Call_ (fE I hg hm boot_range (N2 (bj (ha pos ξ s σ H _ I h) fun us s1 ⟨vs,H1,I1,r1,q1⟩=>?_) hs rfl));obtain⟨j,e,q1,q2,q⟩:=q1;subst e;cases r1 with
 |cons r rr =>
  cases rr;obtain⟨t,rfl⟩:=r;exact call_range_1 (Cq I1 (by lia) (by lia) q1 q2 (by simpa using q))
def fw(wi:TI)(g:TG)(tb:TS):TS:=fun D σ H=>wi σ H fun J H1=>∃W:Nat->Nat->St->Hp->Prop,(∃m,W 0 m σ H1)/\∀i m σ H,W i m σ H ->
 (J.stop i H/\D.nx σ H)\/(J.go i H/\∃N:St->Hp->Prop,(∀σ' H',N σ' H'->∃m',m'<m/\W (i+1) m' σ' H')/\∀x H',J.yld i H x H'->g x σ H' fun σ2 H2=>tb {D with nx:=N,ct:=N,bk:=D.nx} σ2 H2)
def vK(fp:List Addr)(h:Heap):List (Addr×Obj):=fp.filterMap fun b=>(h.get? b).map fun o=>(b,o)
theorem cy{fp:List Addr}{h:Heap}{b:Addr}{o:Obj}(hb:b∈fp)(e:h.get? b=some o):(b,o)∈vK fp h:=N9.mpr ⟨b,hb,by rw[e];rfl⟩
theorem zF{p:Addr×Obj}(hp:p∈vK fp h):p.1∈fp/\h.get? p.1=some p.2:=by
 obtain⟨b,hb,e⟩:=N9.mp hp;cases q:h.get? b with
 |none=>rw[q] at e;cases e
 |some o =>
  rw[q] at e;have e':(b,o)=p:=MY e;subst e';exact⟨hb,q⟩
theorem Inv.pinned{H:Hp}{fp:List Addr}(I:Inv X ξ σ H s)(hf:∀b∈fp,fq X ξ H b)(ho:∀b∈fp,∃o,s.heap.get? b=some o/\∀v,o.data≠.cell v):Inv X (ξ++vK fp s.heap) σ H s :=
 I.zp fun p hp=>(Ni.mp hp).elim (fun z=>I.pin p (M5 _ z)) fun z=>by
  obtain⟨hb,e⟩:=zF z;obtain⟨f0,f1,f2,_⟩:=hf p.1 hb;obtain⟨o,e',d⟩:=ho p.1 hb;rw[e] at e';cases e';exact⟨e,f0,f1,f2,d⟩
theorem Inv.fV{ξ pl:List (Addr×Obj)}{H:Hp}(I:Inv X (ξ++pl) σ H s):Inv X ξ σ H s:=I.zp fun p hp=>I.pin p (M5 _ (OJ _ hp))
theorem dB{iter:Expr}{pos:Pos}(hp:RF (model X.prog X.w) X.A X.env X.xe)(hc:X.calm=true)(hi:PI X tg iter wi)(hg:PG X tg g)(hb:PSs X body tb)
  (hs:∀x,foldedSetIterable iter X.env x=pure x:=by intro _;rfl):PS X (.For tg iter body [] pos) (fw wi g tb):=by
 intro ξ s σ H D I h;refine wpAny_For (bj (hi ξ s σ H _ I h) fun v s1 h1=>bj h1 fun Z5 s2 h2=>?_) hs;obtain⟨it,fp,tn,J,H2,e,I2,T,ZW,f2,W,⟨m0,w0⟩,turn⟩:=h2;subst e;have YL:∀{H':Hp},(∀b∈fp,H' b=none)->∀b∈fp,fq X ξ H' b:=fun hn b hb=>⟨hn b hb,(f2 b hb).2⟩
 refine codeAny_forLoop_any (fun n s'=>∃i σ' H',Inv X ξ σ' H' s'/\tn i s'.heap/\(∀b∈fp,H' b=none)/\W i n σ' H') ?_ m0 ⟨0,σ,H2,I2,ZW,fun b hb=>(f2 b hb).1,w0⟩;rintro n s3 ⟨i,σ3,H3,I3,st3,fr3,w3⟩;rcases turn i n σ3 H3 w3 with⟨stop,qn⟩|⟨go,N,hN,step⟩
 ·refine PH hp (bj (T.done X rfl rfl rfl hc i ξ s3 σ3 H3 X.xe I3 (YL fr3) st3 stop) fun r s4 ⟨hr,I4⟩=>?_);subst hr;exact OS ⟨σ3,H3,I4,qn⟩
 ·refine PH hp (bj (T.item X rfl rfl rfl hc i ξ s3 σ3 H3 X.xe I3 (YL fr3) st3 go) fun r s4 ⟨u,hr,h4⟩=>?_);subst hr;refine PH hp (bj h4 fun _ s5 ⟨x,H5,I5,r5,y5,ZX,fr5⟩=>?_);have I5':=I5.pinned (YL fr5) (T.obj _ _ ZX);refine PH hp (bj (hg _ s5 σ3 H5 x u _ I5' r5 (step x H5 y5)) fun _ s6 ⟨σ6,H6,I6,q6⟩=>?_);refine PH hp (bj (hb _ s6 σ6 H6 _ I6 q6) fun f s7 q7=>?_)
  have again:∀{σ7:St} {H7:Hp},Inv X (ξ++vK fp s5.heap) σ7 H7 s7->N σ7 H7->∃m,m<n/\∃i σ' H',Inv X ξ σ' H' s7/\tn i s7.heap/\(∀b∈fp,H' b=none)/\W i m σ' H':=fun {σ7 H7} I7 n7=>by
   obtain⟨m',hm,w7⟩:=hN σ7 H7 n7;refine⟨m',hm,i+1,σ7,H7,I7.fV,T.keep _ _ _ ZX fun b hb o e=>(I7.pin (b,o) (M5 _ (M5 _ (cy hb e)))).1,fun b hb=>?_,w7⟩;obtain⟨o,e,d⟩:=T.obj _ _ ZX b hb;exact(I7.pin (b,o) (M5 _ (M5 _ (cy hb e)))).2.1
  cases f with
  |next=>obtain⟨σ7,H7,I7,n7⟩:=q7;exact again I7 n7
  |cont=>obtain⟨σ7,H7,I7,n7⟩:=q7;exact again I7 n7
  |brk=>obtain⟨σ7,H7,I7,q7⟩:=q7;exact⟨σ7,H7,I7.fV,q7⟩
  |ret v=>obtain⟨x7,σ7,H7,I7,r7,q7⟩:=q7;exact⟨x7,σ7,H7,I7.fV,r7,q7⟩
end
theorem Dz{K:Fg}{xs:List V}{g:TG}{tb:TS}{D:bJ}{H:Hp}(Pv:Nat->St->Hp->Prop)(h0:Pv 0 σ H)(hl:∀i σ H,i<=xs.length->Pv i σ H->SqL K H a xs)
  (hs:∀i x σ H,xs[i]?=some x->Pv i σ H->g x σ H fun σ2 H2=>tb {D with nx:=Pv (i+1),ct:=Pv (i+1),bk:=D.nx} σ2 H2) (hd:∀σ H,Pv xs.length σ H->D.nx σ H) :
  ∃W:Nat->Nat->St->Hp->Prop,(∃m,W 0 m σ H)/\∀i m σ H,W i m σ H ->
   ((vd K a).stop i H/\D.nx σ H)\/((vd K a).go i H/\∃N:St->Hp->Prop,(∀σ' H',N σ' H'->∃m',m'<m/\W (i+1) m' σ' H')/\∀x H',(vd K a).yld i H x H'->g x σ H' fun σ2 H2=>tb {D with nx:=N,ct:=N,bk:=D.nx} σ2 H2):=by
 refine⟨fun i m σ H=>m=xs.length-i/\i<=xs.length/\Pv i σ H,⟨xs.length,by simp,NH _,h0⟩,?_⟩;rintro i m σ H ⟨rfl,hi,p⟩;have q:=hl i σ H hi p;by_cases X6:i<xs.length
 ·refine .inr ⟨⟨xs,xs[i],q,by simp[X6]⟩,Pv (i+1),fun σ' H' p'=>⟨xs.length-(i+1),by lia,rfl,X6,p'⟩,fun x H' y=>?_⟩;obtain⟨e,y⟩:=y;subst e;exact hs i x σ _ (y xs q) p
 ·have e:i=xs.length:=by lia
  subst e;exact .inl ⟨⟨xs,q,MB _⟩,hd σ H p⟩
theorem Hb{K:Fg}{xs:List V}{g:TG}{tb:TS}{D:bJ}{H:Hp}(Pv:Nat->St->Hp->Prop)(h0:Pv 0 σ H)(hl:∀i σ H,i<=xs.length->Pv i σ H->SqT K H a xs)
  (hs:∀i x σ H,xs[i]?=some x->Pv i σ H->g x σ H fun σ2 H2=>tb {D with nx:=Pv (i+1),ct:=Pv (i+1),bk:=D.nx} σ2 H2) (hd:∀σ H,Pv xs.length σ H->D.nx σ H) :
  ∃W:Nat->Nat->St->Hp->Prop,(∃m,W 0 m σ H)/\∀i m σ H,W i m σ H ->
   ((sQ K a).stop i H/\D.nx σ H)\/((sQ K a).go i H/\∃N:St->Hp->Prop,(∀σ' H',N σ' H'->∃m',m'<m/\W (i+1) m' σ' H')/\∀x H',(sQ K a).yld i H x H'->g x σ H' fun σ2 H2=>tb {D with nx:=N,ct:=N,bk:=D.nx} σ2 H2):=by
 refine⟨fun i m σ H=>m=xs.length-i/\i<=xs.length/\Pv i σ H,⟨xs.length,by simp,NH _,h0⟩,?_⟩;rintro i m σ H ⟨rfl,hi,p⟩;have q:=hl i σ H hi p;by_cases X6:i<xs.length
 ·refine .inr ⟨⟨xs,xs[i],q,by simp[X6]⟩,Pv (i+1),fun σ' H' p'=>⟨xs.length-(i+1),by lia,rfl,X6,p'⟩,fun x H' y=>?_⟩;obtain⟨e,y⟩:=y;subst e;exact hs i x σ _ (y xs q) p
 ·have e:i=xs.length:=by lia
  subst e;exact .inl ⟨⟨xs,q,MB _⟩,hd σ H p⟩
theorem AL{lo:Int}{n:Nat}{g:TG}{tb:TS}{D:bJ}{H:Hp}(Pv:Nat->St->Hp->Prop)(h0:Pv 0 σ H)
  (hs:∀i σ H,i<n->Pv i σ H->g (.int (lo+i)) σ H fun σ2 H2=>tb {D with nx:=Pv (i+1),ct:=Pv (i+1),bk:=D.nx} σ2 H2) (hd:∀σ H,Pv n σ H->D.nx σ H) :
  ∃W:Nat->Nat->St->Hp->Prop,(∃m,W 0 m σ H)/\∀i m σ H,W i m σ H ->
   ((wu lo n).stop i H/\D.nx σ H)\/((wu lo n).go i H/\∃N:St->Hp->Prop,(∀σ' H',N σ' H'->∃m',m'<m/\W (i+1) m' σ' H')/\∀x H',(wu lo n).yld i H x H'->g x σ H' fun σ2 H2=>tb {D with nx:=N,ct:=N,bk:=D.nx} σ2 H2):=by
 refine⟨fun i m σ H=>m=n-i/\i<=n/\Pv i σ H,⟨n,by simp,NH _,h0⟩,?_⟩;rintro i m σ H ⟨rfl,hi,p⟩;by_cases X6:i<n
 ·refine .inr ⟨X6,Pv (i+1),fun σ' H' p'=>⟨n-(i+1),by lia,rfl,X6,p'⟩,fun x H' y=>?_⟩;obtain⟨e,y⟩:=y;subst e y;exact hs i σ _ X6 p
 ·have e:i=n:=by lia
  subst e;exact .inl ⟨MB _,hd σ H p⟩
theorem BB{c:TT}{tb:TS}{D:bJ}{H:Hp}(Pv:St->Hp->Prop)(μ:St->Hp->Nat)(h0:Pv σ H)
  (hs:∀σ H,Pv σ H->c σ H fun b H1=>if b=true then tb {D with nx:=fun σ' H'=>Pv σ' H'/\μ σ' H'<μ σ H,ct:=fun σ' H'=>Pv σ' H'/\μ σ' H'<μ σ H,bk:=D.nx} σ H1 else D.nx σ H1)
  (mono:∀σ H Q Q',(∀b H1,Q b H1->Q' b H1)->c σ H Q->c σ H Q'):qu c tb D σ H:=by
 refine⟨fun m σ H=>m=μ σ H/\Pv σ H,⟨_,rfl,h0⟩,?_⟩;rintro m σ H ⟨rfl,p⟩;refine mono σ H _ _ (fun b H1 q=>?_) (hs σ H p);cases b with
 |true=>exact⟨_,fun σ' H' ⟨p',l⟩=>⟨_,l,rfl,p'⟩,q⟩
 |false=>exact q
abbrev R2:=V->V->Hp->VK->Prop
def ft(X:Cx)(f:Mu->Mu->Sem Mu)(r:R2):Prop :=
 ∀(ξ:List (Addr×Obj)) (s:MA) (σ:St) (H:Hp) (x y:V) (v u:Mu) (Q:VK),Inv X ξ σ H s->RelV x v->RelV y u->r x y H Q ->
  wpAny (model X.prog X.w) X.A (f v u) (EP X ξ σ Q) X.xe s
def LY(X:Cx)(f:Mu->Sem Mu)(r:V->Hp->VK->Prop):Prop :=
 ∀(ξ:List (Addr×Obj)) (s:MA) (σ:St) (H:Hp) (x:V) (v:Mu) (Q:VK),Inv X ξ σ H s->RelV x v->r x H Q ->
  wpAny (model X.prog X.w) X.A (f v) (EP X ξ σ Q) X.xe s
def gN(X:Cx)(f:Mu)(r:List V->Hp->VK->Prop):Prop :=
 ∀(ξ:List (Addr×Obj)) (s:MA) (σ:St) (H:Hp) (xs:List V) (us:List Mu) (Q:VK),Inv X ξ σ H s->Vals xs us->r xs H Q ->
  wpAny (model X.prog X.w) X.A (call f us) (EP X ξ σ Q) X.xe s
def aA(r:R2)(ta tb:TE):TE:=fun σ H Q=>ta σ H fun x H1=>tb σ H1 fun y H2=>r x y H2 Q
def x_(r:V->Hp->VK->Prop)(ta:TE):TE:=fun σ H Q=>ta σ H fun x H1=>r x H1 Q
def rI(C:Int->Int->Prop)(g:Int->Int->V):R2:=fun x y H Q=>∃i j,x=.int i/\y=.int j/\C i j/\Q (g i j) H
def wN(g:Int->Int->V):R2:=fun x y H Q=>∃i j,x=.int i/\y=.int j/\Q (g i j) H
def rU(g:Int->V):V->Hp->VK->Prop:=fun x H Q=>∃i,x=.int i/\Q (g i) H
section
variable{X:Cx}{a b c:Expr}{ta tb tc:TE}{pos:Pos}
theorem Hq(ha:PE X a ta)(hb:PE X b tb){H:Hp}{R:V->V->Hp->Prop}(I:Inv X ξ σ H s)
  (h:ta σ H fun x H1=>tb σ H1 fun y H2=>R x y H2)  {f:Mu->Mu->Sem Mu}
  (hf:∀v u s2 x y H2,Inv X ξ σ H2 s2->RelV x v->RelV y u->R x y H2->wpAny (model X.prog X.w) X.A (f v u) Q X.xe s2) :
  wpAny (model X.prog X.w) X.A (eval a X.env) (fun v s₁=>wpAny (model X.prog X.w) X.A (eval b X.env) (fun u s₂=>wpAny (model X.prog X.w) X.A (f v u) Q X.xe s₂) X.xe s₁) X.xe s:=by
 refine bj (ha ξ s σ H _ I h) fun v s1 ⟨x,H1,I1,r1,q1⟩=>?_
 refine bj (hb ξ s1 σ H1 _ I1 q1) fun u s2 ⟨y,H2,I2,r2,q2⟩=>?_
 exact hf v u s2 x y H2 I2 r1 r2 q2
theorem aM(ho:ft X (binaryOp op) r)(ha:PE X a ta)(hb:PE X b tb):PE X (.BinOp a op b pos) (aA r ta tb):=by
 intro ξ s σ H Q I h;exact wpAny_BinOp (Hq ha hb I h fun v u s2 x y H2 I2 rx ry q=>ho ξ s2 σ H2 x y v u Q I2 rx ry q)
theorem ul(ho:LY X (unaryOp op) r)(ha:PE X a ta):PE X (.UnaryOp op a pos) (x_ r ta):=by
 intro ξ s σ H Q I h;exact UnaryOp_ (bj (ha ξ s σ H _ I h) fun v s1 ⟨x,H1,I1,r1,q1⟩=>ho ξ s1 σ H1 x v Q I1 r1 q1)
theorem Gw{f:Mu->Mu->Sem Mu}{C:Int->Int->Prop}{g:Int->Int->Int}
  (rule:∀(i j:Int) (t u:Tok) (s:MA) (Q:Mu->MA->Prop) (E:Mu->MA->Prop),C i j->Q (.int (g i j) s.toks) {s with toks:=s.toks+1}->wpAny (model X.prog X.w) X.A (f (.int i t) (.int j u)) Q E s) :
  ft X f (rI C fun i j=>.int (g i j)):=by
 intro ξ s σ H x y v u Q I rx ry h;obtain⟨i,j,rfl,rfl,hc,q⟩:=h;obtain⟨t,rfl⟩:=rx;obtain⟨t',rfl⟩:=ry;exact rule i j t t' s _ _ hc ⟨.int (g i j),H,I.tok _,⟨_,rfl⟩,q⟩
theorem IE{f:Mu->Mu->Sem Mu}{g:Int->Int->Int}
  (rule:∀(i j:Int) (t u:Tok) (s:MA) (Q:Mu->MA->Prop) (E:Mu->MA->Prop),Q (.int (g i j) s.toks) {s with toks:=s.toks+1}->wpAny (model X.prog X.w) X.A (f (.int i t) (.int j u)) Q E s) :
  ft X f (wN fun i j=>.int (g i j)):=by
 intro ξ s σ H x y v u Q I rx ry h;obtain⟨i,j,rfl,rfl,q⟩:=h;obtain⟨t,rfl⟩:=rx;obtain⟨t',rfl⟩:=ry;exact rule i j t t' s _ _ ⟨.int (g i j),H,I.tok _,⟨_,rfl⟩,q⟩
theorem Gx{f:Mu->Mu->Sem Mu}{g:Int->Int->Bool}
  (rule:∀(i j:Int) (t u:Tok) (s:MA) (Q:Mu->MA->Prop) (E:Mu->MA->Prop),Q (.bool (g i j)) s->wpAny (model X.prog X.w) X.A (f (.int i t) (.int j u)) Q E s) :
  ft X f (wN fun i j=>.bl (g i j)):=by
 intro ξ s σ H x y v u Q I rx ry h;obtain⟨i,j,rfl,rfl,q⟩:=h;obtain⟨t,rfl⟩:=rx;obtain⟨t',rfl⟩:=ry;exact rule i j t t' s _ _ ⟨.bl (g i j),H,I,rfl,q⟩
def HK(i j:Int):Prop:=0<j/\j<1073741824
def Kk(i j:Int):Prop:=0<=j/\j<=1000000/\i.natAbs<2 ^ 64
def CMul(i j:Int):Prop:=(-(2 ^ 64)<i/\i<2 ^ 64)\/(-(2 ^ 64)<j/\j<2 ^ 64)
theorem CMul.ok(h:CMul i j):IntMulOk i j:=by
 rcases h with⟨h1,h2⟩|⟨h1,h2⟩
 ·exact .of_left (intBits_le_64 h1 h2)
 ·exact .of_right (intBits_le_64 h1 h2)
theorem b5:ft X (binaryOp .Add) (wN fun i j=>.int (i+j)):=IE fun _ _ _ _ _ _ _ q=>add_int q
theorem vN:ft X (binaryOp .Sub) (wN fun i j=>.int (i-j)):=IE fun _ _ _ _ _ _ _ q=>sub_int q
theorem jb:ft X (binaryOp .Mult) (rI CMul fun i j=>.int (i*j)):=Gw fun _ _ _ _ _ _ _ hc q=>mul_int q hc.ok
theorem gA:ft X (binaryOp .FloorDiv) (rI HK fun i j=>.int (i / j)):=Gw fun i j _ _ _ _ _ hc q=>by
 have h1:(0:Int)<j:=hc.1;have h2:j<1073741824:=hc.2;exact floordiv_int (by lia) (by rw[Int.fdiv_eq_ediv_of_nonneg i (by lia)];exact q) (.inl (PyProof.noPylong_small (by lia)))
theorem bn:ft X (binaryOp .Mod) (rI (fun _ j=>0<j) fun i j=>.int (i % j)):=Gw fun i j _ _ _ _ _ hc q=>by
 have h1:(0:Int)<j:=hc;exact mod_int' (by lia) (by rw[Int.fmod_eq_emod_of_nonneg i (by lia)];exact q)
theorem zx:ft X (binaryOp .Mod) (rI (fun _ j=>j≠0) fun i j=>.int (i.fmod j)):=Gw fun _ _ _ _ _ _ _ hc q=>mod_int' hc q
theorem IC:ft X (binaryOp .Pow) (rI Kk fun i j=>.int (i ^ j.toNat)):=Gw fun _ _ _ _ _ _ _ hc q=>pow_int_small hc.1 hc.2.1 hc.2.2 q
theorem Mo{f:Mu->Sem Mu}{g:Int->Int}
  (rule:∀(i:Int) (t:Tok) (s:MA) (Q:Mu->MA->Prop) (E:Mu->MA->Prop),Q (.int (g i) s.toks) {s with toks:=s.toks+1}->wpAny (model X.prog X.w) X.A (f (.int i t)) Q E s) :
  LY X f (rU fun i=>.int (g i)):=by
 intro ξ s σ H x v Q I rx h;obtain⟨i,rfl,q⟩:=h;obtain⟨t,rfl⟩:=rx;exact rule i t s _ _ ⟨.int (g i),H,I.tok _,⟨_,rfl⟩,q⟩
theorem jS:LY X (unaryOp .USub) (rU fun i=>.int (-i)):=Mo fun _ _ _ _ _ q=>neg_int q
end
def Ia:V->V->Bool
 |.non,.non=>true|.non,.int _=>true|.int _,.non=>true|.non,.bl _=>true|.bl _,.non=>true|.non,.str _=>true|.str _,.non=>true
 |.int _,.int _=>true|.bl _,.bl _=>true|.str _,.str _=>true|.byt _,.byt _=>true
 |.int _,.str _=>true|.str _,.int _=>true|.bl _,.str _=>true|.str _,.bl _=>true
 |_,_=>false
def jL:R2:=fun x y H Q=>Ia x y=true/\Q (.bl (decide (x=y))) H
def Bp:R2:=fun x y H Q=>Ia x y=true/\Q (.bl (!decide (x=y))) H
theorem AR:decide (V.int i=V.int j)=(i == j):=by
 rw[Rc];simp
theorem EO:decide (V.bl i=V.bl j)=(i == j):=by
 rw[Rc];simp
theorem AQ:decide (V.str i=V.str j)=(i == j):=by
 rw[Rc];simp
theorem AS:decide (V.byt i=V.byt j)=(i.toList == j.toList):=by
 rw[Rc];cases i;cases j;simp
section
variable{X:Cx}{a b c:Expr}{ta tb tc:TE}{pos:Pos}
theorem bw{H:Hp}{Q:VK}{k':Bool}(I:Inv X ξ σ H s)(q:Q (.bl k) H)(e:k=k'):EP X ξ σ Q (.bool k') s:=by
 subst e;exact⟨.bl k,H,I,rfl,q⟩
theorem dG:ft X (compareOp .Eq) jL:=by
 intro ξ s σ H x y v u Q I rx ry h;obtain⟨hs,q⟩:=h;cases x with
 |non =>
  cases rx;cases y with
  |non=>cases ry;exact PySem.EqNone.eq_none_none (bw I q (by simp))
  |bl j=>cases ry;exact PySem.EqNone.eq_none_bool (bw I q (by simp))
  |int j=>obtain⟨t',rfl⟩:=ry;exact PySem.EqNone.eq_none_int (bw I q (by simp))
  |str j=>obtain⟨t',rfl⟩:=ry;exact PySem.EqNone.eq_none_str (bw I q (by simp))
  |_=>exact absurd (show false=true from hs) M_
 |bl i =>
  cases rx;cases y with
  |non=>cases ry;exact PySem.EqNone.eq_bool_none (bw I q (by simp))
  |bl j=>cases ry;exact eq_bool (bw I q EO)
  |str j=>obtain⟨t',rfl⟩:=ry;exact PySem.EqMixed.eq_bool_str (bw I q (by simp))
  |_=>exact absurd (show false=true from hs) M_
 |int i =>
  obtain⟨t,rfl⟩:=rx;cases y with
  |non=>cases ry;exact PySem.EqNone.eq_int_none (bw I q (by simp))
  |int j=>obtain⟨t',rfl⟩:=ry;exact eq_int (bw I q AR)
  |str j=>obtain⟨t',rfl⟩:=ry;exact PySem.EqMixed.eq_int_str (bw I q (by simp))
  |_=>exact absurd (show false=true from hs) M_
 |str i =>
  obtain⟨t,rfl⟩:=rx;cases y with
  |non=>cases ry;exact PySem.EqNone.eq_str_none (bw I q (by simp))
  |bl j=>cases ry;exact PySem.EqMixed.eq_str_bool (bw I q (by simp))
  |int j=>obtain⟨t',rfl⟩:=ry;exact PySem.EqMixed.eq_str_int (bw I q (by simp))
  |str j=>obtain⟨t',rfl⟩:=ry;exact eq_str (bw I q AQ)
  |_=>exact absurd (show false=true from hs) M_
 |byt i =>
  obtain⟨t,rfl⟩:=rx;cases y with
  |byt j=>obtain⟨t',rfl⟩:=ry;exact PySem.W.eq_bytes (bw I q AS)
  |_=>exact absurd (show false=true from hs) M_
 |_=>cases y <;> exact absurd (show false=true from hs) M_
theorem um:ft X (compareOp .NotEq) Bp:=by
 intro ξ s σ H x y v u Q I rx ry h;obtain⟨hs,q⟩:=h;cases x with
 |non =>
  cases rx;cases y with
  |non=>cases ry;exact PySem.EqNone.ne_none_none (bw I q (by simp))
  |bl j=>cases ry;exact PySem.EqNone.ne_none_bool (bw I q (by simp))
  |int j=>obtain⟨t',rfl⟩:=ry;exact PySem.EqNone.ne_none_int (bw I q (by simp))
  |str j=>obtain⟨t',rfl⟩:=ry;exact PySem.EqNone.ne_none_str (bw I q (by simp))
  |_=>exact absurd (show false=true from hs) M_
 |bl i =>
  cases rx;cases y with
  |non=>cases ry;exact PySem.EqNone.ne_bool_none (bw I q (by simp))
  |bl j=>cases ry;exact ne_bool (bw I q (congrArg not EO))
  |str j=>obtain⟨t',rfl⟩:=ry;exact PySem.EqMixed.ne_bool_str (bw I q (by simp))
  |_=>exact absurd (show false=true from hs) M_
 |int i =>
  obtain⟨t,rfl⟩:=rx;cases y with
  |non=>cases ry;exact PySem.EqNone.ne_int_none (bw I q (by simp))
  |int j=>obtain⟨t',rfl⟩:=ry;exact ne_int (bw I q (congrArg not AR))
  |str j=>obtain⟨t',rfl⟩:=ry;exact PySem.EqMixed.ne_int_str (bw I q (by simp))
  |_=>exact absurd (show false=true from hs) M_
 |str i =>
  obtain⟨t,rfl⟩:=rx;cases y with
  |non=>cases ry;exact PySem.EqNone.ne_str_none (bw I q (by simp))
  |bl j=>cases ry;exact PySem.EqMixed.ne_str_bool (bw I q (by simp))
  |int j=>obtain⟨t',rfl⟩:=ry;exact PySem.EqMixed.ne_str_int (bw I q (by simp))
  |str j=>obtain⟨t',rfl⟩:=ry;exact ne_str (bw I q (congrArg not AQ))
  |_=>exact absurd (show false=true from hs) M_
 |byt i =>
  obtain⟨t,rfl⟩:=rx;cases y with
  |byt j=>obtain⟨t',rfl⟩:=ry;exact PySem.W.ne_bytes (bw I q (congrArg not AS))
  |_=>exact absurd (show false=true from hs) M_
 |_=>cases y <;> exact absurd (show false=true from hs) M_
theorem ju:ft X (compareOp .Lt) (wN fun i j=>.bl (decide (i<j))):=Gx fun _ _ _ _ _ _ _ q=>lt_int q
theorem pd:ft X (compareOp .LtE) (wN fun i j=>.bl (decide (i<=j))):=Gx fun _ _ _ _ _ _ _ q=>le_int q
theorem uq:ft X (compareOp .Gt) (wN fun i j=>.bl (decide (j<i))):=Gx fun _ _ _ _ _ _ _ q=>gt_int q
theorem gh:ft X (compareOp .Is) (fun x y H Q=>y=.non/\Q (.bl (decide (x=.non))) H):=by
 intro ξ s σ H x y v u Q I rx ry h;obtain⟨rfl,q⟩:=h;cases ry;refine is_none_gen (bw I q ?_)
 cases x <;> first
  |(cases rx;rfl)
  |(obtain⟨t,rfl⟩:=rx;rfl)
theorem Gs:ft X (compareOp .IsNot) (fun x y H Q=>y=.non/\Q (.bl (!decide (x=.non))) H):=by
 intro ξ s σ H x y v u Q I rx ry h;obtain⟨rfl,q⟩:=h;cases ry;refine isnot_none_gen (bw I q ?_)
 cases x <;> first
  |(cases rx;rfl)
  |(obtain⟨t,rfl⟩:=rx;rfl)
theorem aN(b:Expr){op:CmpOp}(h:op≠.In:=by decide)(h2:op≠.NotIn:=by decide):behindInMarks op b=false:=by
 have e1:(op == CmpOp.In)=false:=by cases op <;> first|rfl|exact absurd rfl h
 have e2:(op == CmpOp.NotIn)=false:=by cases op <;> first|rfl|exact absurd rfl h2
 cases b <;> simp[behindInMarks,e1,e2]
theorem bO(ho:ft X (compareOp op) r)(ha:PE X a ta)(hb:PE X b tb)(hm:behindInMarks op b=false):PE X (.Compare a [op] [b] pos) (aA r ta tb):=by
 intro ξ s σ H Q I h;exact wpAny_Compare1 (Hq ha hb I h fun v u s2 x y H2 I2 rx ry q=>ho ξ s2 σ H2 x y v u Q I2 rx ry q) hm
def bq(t:TE):TT:=fun σ H Q=>t σ H fun x H'=>∃k,x=.bl k/\Q k H'
theorem aO(ho:ft X (compareOp op) r)(ha:PE X a ta)(hb:PE X b tb)(hm:behindInMarks op b=false):PT X (.Compare a [op] [b] pos) (bq (aA r ta tb)):=by
 intro ξ s σ H Q I h
 refine wpAny_isTrue_Compare1 (bj (ha ξ s σ H _ I h) fun v s1 ⟨x,H1,I1,r1,q1⟩=>bj (hb ξ s1 σ H1 _ I1 q1) fun u s2 ⟨y,H2,I2,r2,q2⟩ =>
  bj (ho ξ s2 σ H2 x y v u _ I2 r1 r2 q2) fun c s3 ⟨z,H3,I3,r3,k,e,q3⟩=>?_) hm
 subst e;cases r3;exact Oy ⟨H3,I3,q3⟩
def gU(r r':R2)(ta tb tc:TE):TE:=fun σ H Q=>ta σ H fun x H1=>tb σ H1 fun y H2=>r x y H2 fun z H3=>∃k,z=.bl k /\
 (if k=true then tc σ H3 fun w' H4=>r' y w' H4 Q else Q (.bl false) H3)
theorem pb(ho:ft X (compareOp op) r)(Zb:ft X (compareOp op') r')(ha:PE X a ta)(hb:PE X b tb)(hc:PE X c tc)
  (hm:lastMarks [op,op'] [b,c]=false:=by with_unfolding_all rfl):PE X (.Compare a [op,op'] [b,c] pos) (gU r r' ta tb tc):=by
 intro ξ s σ H Q I h
 refine Compare_chain (bj (ha ξ s σ H _ I h) fun v s1 ⟨x,H1,I1,r1,q1⟩=>chain_link (bj (hb ξ s1 σ H1 _ I1 q1) fun u s2 ⟨y,H2,I2,r2,q2⟩ =>
  bj (ho ξ s2 σ H2 x y v u _ I2 r1 r2 q2) fun d s3 ⟨z,H3,I3,r3,k,e,q3⟩=>?_)) hm
 subst e;cases r3;refine Oy ?_;cases k with
 |false=>exact ite_ff ⟨.bl false,H3,I3,rfl,q3⟩
 |true=>exact ite_tt (chain_last (bj (hc ξ s3 σ H3 _ I3 q3) fun w' s4 ⟨z',H4,I4,r4,q4⟩=>Zb ξ s4 σ H4 y z' u w' Q I4 r2 r4 q4))
theorem o7(ho:ft X (compareOp op) r)(Zb:ft X (compareOp op') r')(ha:PE X a ta)(hb:PE X b tb)(hc:PE X c tc)
  (hm:lastMarks [op,op'] [b,c]=false:=by with_unfolding_all rfl):PT X (.Compare a [op,op'] [b,c] pos) (bq (gU r r' ta tb tc)):=by
 intro ξ s σ H Q I h
 refine isTrue_chain (bj (ha ξ s σ H _ I h) fun v s1 ⟨x,H1,I1,r1,q1⟩=>test_link (bj (hb ξ s1 σ H1 _ I1 q1) fun u s2 ⟨y,H2,I2,r2,q2⟩ =>
  bj (ho ξ s2 σ H2 x y v u _ I2 r1 r2 q2) fun d s3 ⟨z,H3,I3,r3,k,e,q3⟩=>?_)) hm
 subst e;cases r3;refine Oy ?_;cases k with
 |false =>
  obtain⟨k',e',q'⟩:=q3;cases e';exact ite_ff ⟨H3,I3,q'⟩
 |true =>
  refine ite_tt (test_last (bj (hc ξ s3 σ H3 _ I3 q3) fun w' s4 ⟨z',H4,I4,r4,q4⟩=>bj (Zb ξ s4 σ H4 y z' u w' _ I4 r2 r4 q4) fun d' s5 ⟨z2,H5,I5,r5,k2,e2,q5⟩=>?_));subst e2;cases r5;exact Oy ⟨H5,I5,q5⟩
theorem mL:(sizeLine:Nat)<2 ^ 63:=by rw[Oi];decide
theorem bC:ft X (binaryOp .Add) (fun x y H Q=>∃i j,x=.str i/\y=.str j/\i.length+j.length<=sizeLine/\Q (.str (i++j)) H):=by
 intro ξ s σ H x y v u Q I rx ry h;obtain⟨i,j,rfl,rfl,hz,q⟩:=h;obtain⟨t,rfl⟩:=rx;obtain⟨t',rfl⟩:=ry;exact add_str (fun t' tk=>⟨.str (i++j),H,I.tok _,⟨_,rfl⟩,q⟩) hz
theorem vals1{x:V}{us:List Mu}(r:Vals [x] us):∃u,us=[u]/\RelV x u:=by
 cases r with
 |cons r1 r2=>cases r2;exact⟨_,rfl,r1⟩
theorem vals2{x y:V}{us:List Mu}(r:Vals [x,y] us):∃u w',us=[u,w']/\RelV x u/\RelV y w':=by
 cases r with
 |cons r1 r2 =>
  cases r2 with
  |cons r3 r4=>cases r4;exact⟨_,_,rfl,r1,r3⟩
theorem wq:gN X (.builtin "abs") (fun xs H Q=>∃i,xs=[.int i]/\Q (.int (if i<0 then -i else i)) H):=by
 intro ξ s σ H xs us Q I r h;obtain⟨i,rfl,q⟩:=h;obtain⟨u,rfl,t,rfl⟩:=vals1 r;exact call_abs_int fun u tk=>⟨.int (if i<0 then -i else i),H,I.tok _,⟨_,rfl⟩,q⟩
theorem sA:gN X (.type "int") (fun xs H Q=>(∃i,xs=[.int i]/\Q (.int i) H)\/∃k,xs=[.bl k]/\Q (.int (if k then 1 else 0)) H):=by
 intro ξ s σ H xs us Q I r h;rcases h with⟨i,rfl,q⟩|⟨k,rfl,q⟩
 ·obtain⟨u,rfl,t,rfl⟩:=vals1 r;exact call_int_int ⟨.int i,H,I,⟨_,rfl⟩,q⟩
 ·obtain⟨u,rfl,r1⟩:=vals1 r;cases r1;exact call_int_bool ⟨.int (if k then 1 else 0),H,I.tok _,⟨_,rfl⟩,q⟩
end
structure ObjM (h:Heap) (x dx C:Addr) (mA:Str->Option Mu):Prop where
 obj:h.get? x=some (Pe C dx)
 ns:h.Ns1 dx mA
 ne:dx≠x
theorem zW{h:Heap}(n:h.Ns1 dx mA):∃od,h.get? dx=some od/\∀name,Sv name od=some (mA name):=by
 obtain⟨o,es,ep,ho,hd,hk,_,hm⟩:=n;refine⟨o,ho,fun name=>?_⟩;have e:=hm name;unfold nsFind findBy at e;rw[<- Array.find?_toList] at e;unfold Sv;rw[hd];dsimp only;split
 ·rename_i y q;rw[q] at e;exact congrArg some e
 ·rename_i q;rw[q] at e
  have a:es.toList.any (·.refKey)=false:=by
   rw[Wa];intro y hy;obtain⟨z,t,hkey⟩:=hk y (PM.mp hy);simp[Tt.refKey,hkey]
  have a' : ¬ es.toList.any (·.refKey)=true:=by rw[a];exact M_
  rw[if_neg a'];exact congrArg some e
theorem ObjM.look(I:ObjM h x dx C mA):∃od,PySem.W.InstAt h x (Pe C dx) C (some od)/\∀name,Sv name od=some (mA name) :=
 let ⟨od,ho,hl⟩:=zW I.ns
 ⟨od,⟨I.obj,rfl,rfl,ho⟩,hl⟩
section
variable{prog:MP}{w:M4}{A:No}{E:Mu->MA->Prop}{s:MA}{K:Fg}{x dx C f:Addr}{mA:Str->Option Mu}{name:Str}{v:Mu}
theorem Du{Q:Mu->MA->Prop}(X:K.In s.heap)(I:ObjM s.heap x dx C mA)(hg:QW K C name=true)(hh:QE K C=true)
  (ha:Ny K (.ref C) name=some none) (hv:mA name=some v) (hv':WG v=true) (h:Q v {s with toks:=s.toks+1}) :
  wpAny (model prog w) A (getAttr (.ref x) name expr) Q E s:=by
 obtain⟨od,J,hl⟩:=I.look;exact PySem.W.get_value X J (R9 hg).1 (PySem.W.findObj_own hh ha rfl (by rw[hl,hv])) hv' h
theorem Dt{Q:Mu×List Mu->MA->Prop}(X:K.In s.heap)(I:ObjM s.heap x dx C mA)(hg:QW K C name=true)
  (hf:Ny K (.ref C) name=some (some (.ref f))) (ht:Ru K (.ref f)=true) (hv:mA name=none) (h:Q (.ref f,[.ref x]) s) :
  wpAny (model prog w) A (getMethod (.ref x) name pl) Q E s:=by
 obtain⟨od,J,hl⟩:=I.look;exact PySem.W.method_fn X J (R9 hg).1 (R9 hg).2 hf (beq_iff_eq.mp ht) (by show(Sv name od).map (·.isSome)=some false;rw[hl,hv];rfl) h
theorem Fz{Q:Unit->MA->Prop}(X:K.In s.heap)(I:ObjM s.heap x dx C mA)
  (hs:Ny K (.ref C) "__setattr__"=some (some (.builtin "object.__setattr__"))) (hp:SS K C=true) (ht:Uo K C name=some none) (hh:QE K C=true)
  (hw:TR mA ns) (hsz:ns.length<=sizeLine)
  (h:∀h',ObjM h' x dx C (fun y=>if y=name then some v else mA y)->PL dx s.heap h'->Q () {s with heap:=h',toks:=s.toks+2}) :
  wpAny (model prog w) A (setAttr (.ref x) name v) Q E s:=by
 obtain⟨od,J,hl⟩:=I.look;refine PySem.W.set_plain X J hs (PySem.W.osa_open (s:={s with toks:=s.toks+1}) (r:=none) X J hp ht fun b=>?_);obtain⟨cd,hc,Zy⟩:=PySem.W.any_some hh;have hx:s.heap.get? x=some ⟨.ref C,some dx,.plain,#[]⟩:=I.obj;refine Ms (Mz (Ms (Ms (US hx (Ms (VW (s:={s with toks:=s.toks+1}) (PySem.W.looks_clsIn X hc) ?_))))));rw[Zy];refine Mz (a:=some dx) (Ms (Mz (Ms ?_)));refine wpAny_nsSet1 (s:={s with toks:=s.toks+1}) I.ns fun h' hn2 hs2=>?_
 obtain⟨oD,esD,epD,hoD,hdD,hcD⟩:=hn2.count (Wb name v hw);refine Ms (wpAny_lookBehind hoD (by rw[hdD];exact pastItsLine_dict (Np hcD (by rw[Nl];lia))) ?_);exact Mz (h _ ⟨(hs2.2 _ (N1 I.ne)).trans I.obj,hn2,I.ne⟩ hs2)
theorem CW{vs:List Mu}{kw:List (Str×Mu)}(X:K.In s.heap)(hm:RX K C=true)
  (hi:Ny K (.ref C) "__init__"=some (some (.ref f))) (hf:PySem.W.typeIn K (.ref f)=some (.type "function"))
  (h:codeAny (model prog w) (A.under (.builtin "type.__call__" ⟨.ref C :: vs,kw⟩)) (.call (.ref f) ⟨.ref (s.heap.objs.size+1) :: vs,kw⟩) (PySem.W.InitBack (s.heap.objs.size+1) R)
   {s with heap:=(s.heap.push Oz).push (Pe C s.heap.objs.size)}) :
  codeAny (model prog w) A (.call (.ref C) ⟨vs,kw⟩) R s:=by
 obtain⟨hh,g,d,t,os⟩:=s;exact PySem.W.make_core (PySem.W.makes_of X hm) (UT X hi) (fun self=>PySem.W.bind_fn X self hf) (.inl rfl) h
end
def bD(f:Str)(v:V):List (Str×V)->List (Str×V)
 |[]=>[(f,v)]
 |(g,x) :: r=>if g=f then (g,v) :: r else (g,x) :: bD f v r
theorem kM(f g:Str)(v:V):∀fs:List (Str×V),(bD f v fs).lookup g=if g=f then some v else fs.lookup g
 |[]=>by
  show Qg g [(f,v)]=_;by_cases h:g=f
  ·have hb:(g == f)=true:=beq_iff_eq.mpr h;simp only[Qg,hb,if_pos h]
  ·have hb:(g == f)=false:=beq_eq_false_iff_ne.mpr h;simp only[Qg,hb,if_neg h]
 |(k,x) :: r=>by
  have ih:=kM f g v r;rw[show bD f v ((k,x) :: r)=(if k=f then (k,v) :: r else (k,x) :: bD f v r) from rfl];by_cases hk:k=f
  ·rw[if_pos hk];by_cases h:g=k
   ·have hb:(g == k)=true:=beq_iff_eq.mpr h;simp only[Qg,hb,if_pos (h.trans hk)]
   ·have hb:(g == k)=false:=beq_eq_false_iff_ne.mpr h;simp only[Qg,hb,if_neg (fun e:g=f=>h (e.trans hk.symm))]
  ·rw[if_neg hk];by_cases h:g=k
   ·have hb:(g == k)=true:=beq_iff_eq.mpr h;simp only[Qg,hb,if_neg (fun e:g=f=>hk (h.symm.trans e))]
   ·have hb:(g == k)=false:=beq_eq_false_iff_ne.mpr h;simp only[Qg,hb];exact ih
theorem kU(f:Str)(v:V):∀fs:List (Str×V),f∈(bD f v fs).map (·.1)/\∀g,g∈fs.map (·.1)->g∈(bD f v fs).map (·.1)
 |[]=>⟨by simp[bD],fun g h=>by simp at h⟩
 |(k,x) :: r=>by
  obtain⟨i1,i2⟩:=kU f v r;rw[show bD f v ((k,x) :: r)=(if k=f then (k,v) :: r else (k,x) :: bD f v r) from rfl];by_cases hk:k=f
  ·rw[if_pos hk];subst hk;exact⟨by simp,fun g h=>by simpa using h⟩
  ·rw[if_neg hk];refine⟨?_,fun g h=>?_⟩
   ·rw[Nm];exact MO _ i1
   ·rw[Nm] at h ⊢;rcases MD.mp h with e|e
    ·exact MD.mpr (.inl e)
    ·exact MO _ (i2 g e)
theorem kN(f:Str)(v:V):∀fs:List (Str×V),(bD f v fs).length<=fs.length+1
 |[]=>by simp[bD]
 |(k,x) :: r=>by
  have ih:=kN f v r;rw[show bD f v ((k,x) :: r)=(if k=f then (k,v) :: r else (k,x) :: bD f v r) from rfl];by_cases hk:k=f
  ·rw[if_pos hk,Nl,Nl];lia
  ·rw[if_neg hk,Nl,Nl];lia
theorem RelO.some_of{v:V}(r:RelO (some v) o):∃u,o=some u/\RelV v u:=by
 cases o with
 |none=>exact(show False from r).elim
 |some u=>exact⟨u,rfl,r⟩
theorem RelO.none_of(r:RelO none o):o=none:=by
 cases o with
 |none=>rfl
 |some u=>exact(show False from r).elim
theorem AG(r:RelV v u):WG u=true:=by
 cases v with
 |non=>cases (show u=NJ from r);rfl
 |bl b=>cases (show u=So b from r);rfl
 |int i=>obtain⟨t,e⟩:=(show ∃t,u=Ts i t from r);cases e;rfl
 |str x=>obtain⟨t,e⟩:=(show ∃t,u=Sj x t from r);cases e;rfl
 |byt b=>obtain⟨t,e⟩:=(show ∃t,u=Mu.bytes b t from r);cases e;rfl
 |flt b=>obtain⟨t,e⟩:=(show ∃t,u=WX b t from r);cases e;rfl
 |ref a=>cases (show u=MX a from r);rfl
 |ty n=>cases (show u=O0 n from r);rfl
section
variable{P:MP}{w:M4}{H H':Hp}{h h':Heap}{a C dx:Addr}{fs fs':List (Str×V)}
theorem pS(hok:HOk P w H h)(e:H a=some (.ins C dx fs)):∃mA,ObjM h a dx C mA/\(∀f,RelO (fs.lookup f) (mA f))/\TR mA (fs.map (·.1))/\fs.length<=1000/\H dx=some (.own a):=by
 obtain⟨d,z,ne,ob,mA,n,r,q⟩:=(show bX P w H h a (.ins C dx fs) from hok a _ e)
 exact⟨mA,⟨ob,n,ne⟩,r,q,z,d⟩
end
structure Cls (K:Fg) (C:Addr):Prop where
 pg:QW K C NC=true
 hd:QE K C=true
 po:SS K C=true
 sa:Ny K (.ref C) "__setattr__"=some (some (.builtin "object.__setattr__"))
theorem Cls.get{K:Fg}(c:Cls K C)(f:Str):QW K C f=true:=c.pg
def dh(K:Fg)(C:Addr)(f:Str):Prop:=Ny K (.ref C) f=some none
theorem dh.taker{K:Fg}(n:dh K C f):Uo K C f=some none:=by
 unfold Uo;rw[show Ny K (.ref C) f=some none from n];rfl
structure Bj (K:Fg) (C:Addr) (m:Str) (f:Addr):Prop where
 at_:Ny K (.ref C) m=some (some (.ref f))
 fn:Ru K (.ref f)=true
 kp:NU K (.ref f)=true
section
variable{X:Cx}{ξ:List (Addr×Obj)}{σ:St}{H:Hp}{s:MA}{a C dx:Addr}{fs:List (Str×V)}{f:Str}{v:V}{A:No}{E:Mu->MA->Prop}
theorem xb{Q:Mu->MA->Prop}(I:Inv X ξ σ H s)(e:H a=some (.ins C dx fs))(c:Cls X.K C)(n:dh X.K C f)(l:fs.lookup f=some v)
  (h:∀u s',Inv X ξ σ H s'->RelV v u->Q u s'):wpAny (model X.prog X.w) A (getAttr (.ref a) f b) Q E s:=by
 obtain⟨mA,O,r,_,_,_⟩:=pS I.hok e;obtain⟨u,hu,ru⟩:=RelO.some_of (v:=v) (o:=mA f) (by rw[<- l];exact r f);exact Du I.kIn O (c.get f) c.hd n hu (AG ru) (h u _ (I.tok _) ru)
theorem fZ{Q:Mu×List Mu->MA->Prop}(I:Inv X ξ σ H s)(e:H a=some (.ins C dx fs))(c:Cls X.K C)(k:Bj X.K C m g)(l:fs.lookup m=none)
  (h:Q (.ref g,[.ref a]) s):wpAny (model X.prog X.w) A (getMethod (.ref a) m pl) Q E s:=by
 obtain⟨mA,O,r,_,_,_⟩:=pS I.hok e;have hn:mA m=none:=RelO.none_of (by rw[<- l];exact r m);exact Dt I.kIn O (c.get m) k.at_ k.fn hn h
theorem wG{Q:Unit->MA->Prop}(I:Inv X ξ σ H s)(e:H a=some (.ins C dx fs))(c:Cls X.K C)(n:dh X.K C f)(hl:fs.length<1000)(ry:RelV y u)
  (h:∀s',Inv X ξ σ (upd H a (.ins C dx (bD f y fs))) s'->Q () s'):wpAny (model X.prog X.w) A (setAttr (.ref a) f u) Q E s:=by
 obtain⟨mA,O,r,wi,_,ho⟩:=pS I.hok e;have hz:(fs.map (·.1)).length<=sizeLine:=by rw[Mv,Oi];lia
 refine Fz I.kIn O c.sa c.po n.taker c.hd wi hz fun h' O' sb=>h _ ?_
 have hd:∃o,h'.get? dx=some o:=let ⟨o,_,_,e',_⟩:=O'.ns;⟨o,e'⟩
 refine I.write (x:=a) (e:=dx) (by rw[e];exact O1) (.inr ho) (fun b q hb z=>(sb.2 b hb).trans z) hd ?_;refine⟨by rw[av O.ne];exact ho,?_,O.ne,O'.obj,_,O'.ns,fun g=>?_,fun g hg=>?_⟩
 ·have:=kN f y fs;lia
 ·show RelO ((bD f y fs).lookup g) (if g=f then some u else mA g);rw[kM];by_cases q:g=f
  ·rw[if_pos q,if_pos q];exact ry
  ·rw[if_neg q,if_neg q];exact r g
 ·by_cases q:g=f
  ·rw[q];exact(kU f y fs).1
  ·refine(kU f y fs).2 g (wi g fun z=>hg ?_);show(if g=f then some u else mA g)=none;rw[if_neg q];exact z
theorem Inv.made(I:Inv X ξ σ H s):Inv X ξ σ (upd (upd H s.heap.objs.size (.own (s.heap.objs.size+1))) (s.heap.objs.size+1) (.ins C s.heap.objs.size []))
  {s with heap:=(s.heap.push Oz).push (Pe C s.heap.objs.size)}:=by
 have e1:(s.heap.push Oz).get? s.heap.objs.size=some Oz:=ML s.heap rfl
 have e2:((s.heap.push Oz).push (Pe C s.heap.objs.size)).get? (s.heap.objs.size+1)=some (Pe C s.heap.objs.size):=by
  have:=ML (s.heap.push Oz) (o:=Pe C s.heap.objs.size) rfl
  rwa [OO] at this
 have e3:(s.heap.push Oz).Ns s.heap.objs.size (fun _=>none):=⟨Oz,#[],_,e1,rfl,(fun e he=>absurd he (by simp)),fun _=>rfl⟩
 have I1:=I.laid (a:=s.heap.objs.size) (o:=.own (s.heap.objs.size+1)) (h':=s.heap.push Oz) (t':=s.toks) (fun b u q=>Mt _ q) (MB _) ⟨_,e1⟩;refine I1.laid (a:=s.heap.objs.size+1) (o:=.ins C s.heap.objs.size []) (t':=s.toks) (fun b u q=>Mt _ q) (Nat.le_of_eq (OO _ _)) ?_;have ne:s.heap.objs.size≠s.heap.objs.size+1:=MC (Pq _);refine⟨by rw[av ne,ak],NH _,ne,e2,fun _=>none,(Wc e3).at fun o q=>Mt _ q,fun _=>O1,fun y hy=>absurd rfl hy⟩
theorem Ht{f:Str}{pos:Pos}{s:MA}(hb:attributeBase e f env (eval e env)=eval e env)
  (h:wpAny (model prog w) A (eval e env) (fun o s₁=>wpAny (model prog w) A (getAttr o f true) Q E s₁) E s):wpAny (model prog w) A (eval (.Attribute e f pos) env) Q E s :=
 Attribute_any_ h (by rw[arm_eval_Attribute,hb])
end
def cP(K:Fg)(ta:TE)(f:Str):TE:=fun σ H Q=>ta σ H fun x H1=>∃a C dx fs v,x=.ref a/\H1 a=some (.ins C dx fs)/\Cls K C/\dh K C f/\fs.lookup f=some v/\Q v H1
def l7(K:Fg)(ta tv:TE)(f:Str):TS:=fun D σ H=>tv σ H fun y H1=>ta σ H1 fun x H2=>∃a C dx fs,x=.ref a/\H2 a=some (.ins C dx fs)/\Cls K C/\dh K C f/\fs.length<1000 /\
 D.nx σ (upd H2 a (.ins C dx (bD f y fs)))
section
variable{X:Cx}{o e value:Expr}{f:Str}{pos pos' tpos:Pos}{ta tv:TE}
theorem bT(he:PE X e ta)(hb:attributeBase e f X.env (eval e X.env)=eval e X.env):PE X (.Attribute e f pos) (cP X.K ta f):=by
 intro ξ s σ H Q I h;refine Ht hb (bj (he ξ s σ H _ I h) fun u s1 ⟨x,H1,I1,rx,a,C,dx,fs,v,ex,ea,c,n,l,q⟩=>?_);subst ex;obtain rfl:u=MX a:=rx;exact xb I1 ea c n l fun u' s2 I2 ru=>⟨v,H1,I2,ru,q⟩
theorem i_(ha:PE X o ta)(hv:PE X value tv)(hs:swapsWith value (some (.Attribute o f pos')) pos.line X.env=pure false):PS X (.Assign [.Attribute o f pos'] value pos) (l7 X.K ta tv f):=by
 intro ξ s σ H D I h;refine RC (bj (hv ξ s σ H _ I h) fun u s1 ⟨y,H1,I1,ry,q⟩=>bj (ha ξ s1 σ H1 _ I1 q) fun ov s2 ⟨x,H2,I2,rx,a,C,dx,fs,ex,ea,c,n,l,q2⟩=>?_) hs;subst ex;obtain rfl:ov=MX a:=rx;exact wG I2 ea c n l ry fun s3 I3=>⟨σ,_,I3,q2⟩
end
section
variable{X:Cx}{ξ:List (Addr×Obj)}{σ:St}{H:Hp}{s:MA}{A:No}{E:Mu->MA->Prop}{Q:Mu->MA->Prop}{c:Mu}{b:Bool}
inductive TyOf (K:Fg) (H:Hp):V->Mu->Prop where
 |non:TyOf K H .non (.type "NoneType")
 |bl (x:Bool):TyOf K H (.bl x) (.type "bool")
 |int (i:Int):TyOf K H (.int i) (.type "int")
 |str (x:Str):TyOf K H (.str x) (.type "str")
 |flt (x:UInt64):TyOf K H (.flt x) (.type "float")
 |lst {a:Addr} {xs:List V} (e:H a=some (.lst xs)):TyOf K H (.ref a) (.type "list")
 |frz {a:Addr} {o:Obj} {xs:List V} (e:H a=some (.frz o (.lst xs))):TyOf K H (.ref a) (.type "list")
 |tup {a:Addr} {xs:List V} (e:H a=some (.tup xs)):TyOf K H (.ref a) (.type "tuple")
 |dK {a:Addr} {fx:List (Key×V)} (e:H a=some (.dK fx)):TyOf K H (.ref a) (.type "dict")
 |dT {a:Addr} {fx:List (List Key×V)} (e:H a=some (.dT fx)):TyOf K H (.ref a) (.type "dict")
 |ins {a C dx:Addr} {fs:List (Str×V)} (e:H a=some (.ins C dx fs)) (cl:Cls K C) (ha:Ny K (.ref C) "__class__"=some (some (.builtin "object.__class__")))
   (hn:SU K (.builtin "object.__class__") "__get__"=some (some (.builtin "getset_descriptor.__get__"))) (htk:W_ K (.builtin "object.__class__")=some true)
   (hm:VE K C (.type "object")=some true):TyOf K H (.ref a) (.ref C)
theorem Ar(I:Inv X ξ σ H s)(rx:RelV x u)(ty:TyOf X.K H x t)(e:MZ X.K t c=some b)(h:∀tk,Q (.bool b) {s with toks:=tk}) :
  wpAny (model X.prog X.w) A (call (.builtin "isinstance") [u,c]) Q E s:=by
 cases ty with
 |non=>cases (show u=NJ from rx);exact Os PySem.W.kitx_none I.kIn O1 e (fun z=>nomatch z) h
 |bl y=>cases (show u=So y from rx);exact Os PySem.W.kitx_bool I.kIn O1 e (fun z=>nomatch z) h
 |int i=>obtain⟨t,q⟩:=(show ∃t,u=Ts i t from rx);cases q;exact Os PySem.W.kitx_int I.kIn O1 e (fun z=>nomatch z) h
 |str y=>obtain⟨t,q⟩:=(show ∃t,u=Sj y t from rx);cases q;exact Os PySem.W.kitx_str I.kIn O1 e (fun z=>nomatch z) h
 |flt y=>obtain⟨t,q⟩:=(show ∃t,u=WX y t from rx);cases q;exact Os PySem.W.kitx_float I.kIn O1 e (fun z=>nomatch z) h
 |@lst a xs ea =>
  cases (show u=MX a from rx);obtain⟨_,_,n,_,h1⟩:=(show bX X.prog X.w H s.heap a (.lst xs) from I.hok a _ ea)
  exact Os We I.kIn ⟨_,h1,rfl⟩ e (fun z=>nomatch z) h
 |@frz a ob xs ea =>
  cases (show u=MX a from rx);obtain⟨_,_,_,n,_,h1⟩:=(show bX X.prog X.w H s.heap a (.frz ob (.lst xs)) from I.hok a _ ea)
  exact Os We I.kIn ⟨_,h1,rfl⟩ e (fun z=>nomatch z) h
 |@tup a xs ea =>
  cases (show u=MX a from rx);obtain⟨_,_,_,p⟩:=(show bX X.prog X.w H s.heap a (.tup xs) from I.hok a _ ea)
  obtain⟨o,h1,⟨h2,_⟩,_⟩:=p;exact Os PySem.W.kitx_tuple I.kIn ⟨o,h1,h2⟩ e (fun z=>nomatch z) h
 |@dK a fx ea =>
  cases (show u=MX a from rx);obtain⟨_,_,vs,_,p⟩:=(show bX X.prog X.w H s.heap a (.dK fx) from I.hok a _ ea)
  obtain⟨o,es,ep,h1,h2,_⟩:=p;exact Os Wf I.kIn ⟨o,h1,h2.1⟩ e (fun z=>nomatch z) h
 |@dT a fx ea =>
  cases (show u=MX a from rx);obtain⟨_,_,xs,_,o,es,ep,h1,h2,_⟩:=(show bX X.prog X.w H s.heap a (.dT fx) from I.hok a _ ea)
  exact Os Wf I.kIn ⟨o,h1,h2.1⟩ e (fun z=>nomatch z) h
 |@ins a C dx fs ea cl ha hn htk hm =>
  cases (show u=MX a from rx);obtain⟨mA,O,_⟩:=pS I.hok ea;obtain⟨od,J,_⟩:=O.look;exact Os (PySem.W.kitx_own (cl.get _) cl.hd ha hn htk hm) I.kIn J e (fun z=>nomatch z) h
end
structure Room (k:Nat) (A:No):Prop where
 hd:A.handled=none
 dp:A.depth+3*k+5<recursionLimit
 un:A.units+16*k+200<cLine
theorem Room.mono{j:Nat}(r:Room k A)(h:j<=k):Room j A:=⟨r.hd,by have:=r.dp;lia,by have:=r.un;lia⟩
theorem Room.deeper{k:Nat}(r:Room (k+1) A)(env:Env):Room k (A.deeper env) :=
 ⟨r.hd,by have:=r.dp;show A.depth+1+3*k+5<_;lia,by have:=r.un;show A.units+3+16*k+200<_;lia⟩
theorem wZ{A:No}  {us:List Mu} {kw:List (Str×Mu)}:(A.under (.builtin "type.__call__" ⟨.ref C :: us,kw⟩)).depth=A.depth+1:=by
 first|rfl|simp[Wg,Code.weight,Code.isCreation,Code.isGuard,Code.isCaller,Code.frames,Wh,guardIds]
theorem wY{A:No}  {us:List Mu} {kw:List (Str×Mu)}:(A.under (.builtin "type.__call__" ⟨.ref C :: us,kw⟩)).units=A.units+1:=by
 first|rfl|simp[Wg,Code.cUnits,Code.frames,Wh]
theorem Room.make{k:Nat}  (r:Room (k+1) A) (C:Addr) (us:List Mu) (kw:List (Str×Mu)):Room k (A.under (.builtin "type.__call__" ⟨.ref C :: us,kw⟩)) :=
 ⟨r.hd,by have:=r.dp;rw[wZ];lia,by have:=r.un;rw[wY];lia⟩
theorem Room.depth(r:Room k A):A.depth<recursionLimit:=by have:=r.dp;lia
theorem Room.units(r:Room k A):A.units+64<cLine:=by have:=r.un;lia
def am:TA:=fun _ H Q=>Q [] H
def ag(ta:TE)(tr:TA):TA:=fun σ H Q=>ta σ H fun x H1=>tr σ H1 fun xs H2=>Q (x :: xs) H2
section
variable{X:Cx}{e:Expr}{es:List Expr}{te:TE}{t:TA}{pos:Pos}
theorem af:PA X [] am:=fun _ _ _ _ H Q I h=>Pc ⟨[],H,I,.nil,h⟩
theorem aa(ha:PE X e te)(hr:PA X es t)(hs:starEach (e :: es) X.env=(false,eval e X.env) :: starEach es X.env:=by rfl):PA X (e :: es) (ag te t):=by
 intro pos ξ s σ H Q I h;rw[hs];show wpAny _ _ (spliced ((false,eval e X.env) :: backTo pos (starEach es X.env))) _ _ s;refine N_ (bj (ha ξ s σ H _ I h) fun u s1 ⟨x,H1,I1,r1,q1⟩=>?_);exact bj (hr pos ξ s1 σ H1 _ I1 q1) fun us s2 ⟨xs,H2,I2,r2,q2⟩=>⟨x :: xs,H2,I2,.cons r1 r2,q2⟩
def f_(t:TA):TE:=fun σ H Q=>t σ H fun xs H1=>xs.length<=sizeLine/\∀p,H1 p=none->Q (.ref p) (upd H1 p (.tup xs))
def cz(t:TA):TE:=fun σ H Q=>t σ H fun xs H1=>xs.length<=sizeLine/\∀p,H1 p=none->Q (.ref p) (upd H1 p (.lst xs))
theorem fB{x1}(h:PA X es t):PE X (.Tuple es x1 pos) (f_ t):=by
 intro ξ s σ H Q I hq;refine Vt (bj (h pos ξ s σ H _ I hq) fun us s1 ⟨xs,H1,I1,r,z,q⟩=>⟨by rw[<- r.length];exact z,?_⟩);have hf:H1 s1.heap.objs.size=none:=I1.hok.fresh (MB _);refine⟨.ref s1.heap.objs.size,upd H1 s1.heap.objs.size (.tup xs),I1.laid (t':=s1.toks) (fun b u e=>Mt _ e) (MB _) ?_,rfl,q _ hf⟩;exact⟨z,us,r,TupD.new _ _⟩
theorem cg(h:PA X es t):PE X (.List es pos) (cz t):=by
 intro ξ s σ H Q I hq;refine wpAny_List_spliced (bj (h pos ξ s σ H _ I hq) fun us s1 ⟨xs,H1,I1,r,z,q⟩=>⟨by rw[<- r.length];exact z,?_⟩);have hf:H1 s1.heap.objs.size=none:=I1.hok.fresh (MB _);refine⟨.ref s1.heap.objs.size,upd H1 s1.heap.objs.size (.lst xs),I1.laid (t':=s1.toks) (fun b u e=>Mt _ e) (MB _) ?_,rfl,q _ hf⟩;exact⟨z,us,0,r,ML _ rfl⟩
end
abbrev Sp:=List V->Hp->VK->XK->Prop
abbrev jF:=List Env->Hp->MA->XK->Mu->MA->Prop
structure Env0 (P:MP) (w:M4) (K:Fg) (mg:Str->Option Mu) (base:Heap) (A:No) (outer:List Env) (s:MA) (H:Hp):Prop where
 frames:A.frames=some outer
 mod:Mod K mg base
 bs:∀b o,base.get? b=some o->s.heap.get? b=some o/\H b=none
 bsz:base.objs.size<=s.heap.objs.size
 funs:s.heap.FunFrames base outer
 frf:∀b∈frs outer,H b=none
 hok:HOk P w H s.heap
 bare:RO s.gens
def CE(outer:List Env)(P:MP)(w:M4)(H:Hp)(s:MA)(Q:VK)(u:Mu)(s':MA):Prop :=
 ∃v H',s'.os=s.os/\RO s'.gens/\Un (frs outer) [] H H' s.heap s'.heap/\HOk P w H' s'.heap/\RelV v u/\Q v H'
def CR(CX:jF)(outer:List Env)(P:MP)(w:M4)(H:Hp)(s:MA)(Q:VK)(E:XK)(r:TU)(s':MA):Prop :=
 match r with
 |.ok (.ret u)=>CE outer P w H s Q u s'
 |.ok _=>False
 |.error e=>CX outer H s E e s'
structure FnOk (P:MP) (w:M4) (K:Fg) (mg:Str->Option Mu) (base:Heap) (CX:jF) (k:Nat) (f:Addr) (fd:Ph) (ps:List Str) (sp:Sp):Prop where
 len:∀vs H Q E,sp vs H Q E->vs.length=ps.length
 run:∀(A:No) (outer:List Env) (s:MA) (H:Hp) (args:Args) (us:List Mu) (vs:List V) (Q:VK) (E:XK),Room k A->Env0 P w K mg base A outer s H->Wi s fd args (ps.zip us)->Vals vs us->sp vs H Q E ->
  codeAny (model P w) A (.call (.ref f) args) (CR CX outer P w H s Q E) s
theorem FnOk.mono{K:Fg}{CX:jF}{k:Nat}(F:FnOk P w K mg base CX j f fd ps sp)(h:j<=k) :
  FnOk P w K mg base CX k f fd ps sp:=⟨F.len,fun A outer s H args us vs Q E hr=>F.run A outer s H args us vs Q E (hr.mono h)⟩
theorem Env0.make{K:Fg}(e:Env0 P w K mg base A outer s H)(C:Addr)(us:List Mu)(kw:List (Str×Mu)) :
  Env0 P w K mg base (A.under (.builtin "type.__call__" ⟨.ref C :: us,kw⟩)) outer s H:=⟨by first|exact e.frames|(simpa[Wg,Code.envs,Wh,pushEnvs] using e.frames),e.mod,e.bs,e.bsz,e.funs,e.frf,e.hok,e.bare⟩
section
variable{X:Cx}{ξ:List (Addr×Obj)}{σ:St}{H:Hp}{s s':MA}
theorem Inv.env0(I:Inv X ξ σ H s):Env0 X.prog X.w X.K X.mg X.base X.A X.stack s H :=
 ⟨I.ok.frames,I.ok.mod,I.bs,Np I.ok.bsz I.sz,I.stack,I.j_,I.hok,I.bare⟩
theorem Inv.after(I:Inv X ξ σ H s)(h:CE X.stack X.prog X.w H s Q u s'):EP X ξ σ Q u s':=by
 obtain⟨v,H',os,bare,un,hok,r,q⟩:=h;obtain⟨hh,g,d,t,os'⟩:=s';obtain rfl:os'=s.os:=os;exact⟨v,H',I.call (h':=hh) (g':=g) (d':=d) (t':=t) (ch:=[]) un hok bare (fun b z=>absurd z (by simp)),r,q⟩
end
def aW(sp:Sp)(Yt:List V)(E:XK)(t:TA):TE:=fun σ H Q=>t σ H fun vs H1=>sp (vs++Yt) H1 Q E
def fg(C:Addr)(m:Str)(sp:Sp)(Yt:List V)(E:XK)(ta:TE)(t:TA):TE:=fun σ H Q=>ta σ H fun x H1=>∃a dx fs,x=.ref a/\H1 a=some (.ins C dx fs)/\fs.lookup m=none /\
 t σ H1 fun vs H2=>sp (x :: (vs++Yt)) H2 Q E
def wC(C:Addr)(sp:Sp)(Yt:List V)(E:XK)(t:TA):TE:=fun σ H Q=>t σ H fun vs H1=>∀x dx,H1 x=none->H1 dx=none->dx≠x ->
 sp (.ref x :: (vs++Yt)) (upd (upd H1 dx (.own x)) x (.ins C dx [])) (fun v H2=>v=.non/\Q (.ref x) H2) E
def Binds(K:Fg)(fd:Ph)(ps:List Str)(ds:List Mu):Prop :=
 ∀(s:MA) (us:List Mu),K.In s.heap->(us++ds).length=ps.length->Wi s fd ⟨us,[]⟩ (ps.zip (us++ds))
theorem Binds.all{K:Fg}{ps:List Str}(h:∀us:List Mu,us.length=ps.length->bindArgs fd ⟨us,[]⟩=pure (ps.zip us)):Binds K fd ps []:=fun s us _ hl=>by
 rw[OT] at hl ⊢;exact .of_eq (h us hl)
def db(CX:jF)(X:Cx)(E:XK):Prop:=∀(ξ:List (Addr×Obj)) (σ:St) (H:Hp) (s:MA) (e:Mu) (s':MA),Inv X ξ σ H s->CX X.stack H s E e s'->X.xe e s'
section
variable{X:Cx}{CX:jF}{k:Nat}{f C:Addr}{fd:Ph}{ps:List Str}{sp:Sp}{Yt:List V}{ds:List Mu}{E:XK}{x m:Str}{p pos apos:Pos}{e o:Expr}{es:List Expr}{ta:TE}{t:TA}
theorem yM{H:Hp}(F:FnOk X.prog X.w X.K X.mg X.base CX k f fd ps sp)(hr:Room k X.A)(hb:Binds X.K fd ps ds)(hd:Vals Yt ds)(hx:db CX X E)
  (I:Inv X ξ σ H s) (r:Vals vs us) (h:sp (vs++Yt) H Q E):wpAny (model X.prog X.w) X.A (call (.ref f) us) (EP X ξ σ Q) X.xe s:=by
 have r2:Vals (vs++Yt) (us++ds):=r.append hd;have hl:(us++ds).length=ps.length:=by rw[<- r2.length];exact F.len _ _ _ _ h
 refine QM (PN (F.run X.A X.stack s H ⟨us,[]⟩ (us++ds) (vs++Yt) Q E hr I.env0 (hb s us I.kIn hl) r2 h) fun r s' hq=>?_);cases r with
 |error e=>exact hx ξ σ H s e s' I hq
 |ok fl =>
  cases fl with
  |ret u=>exact I.after hq
  |next=>exact NZ hq
  |brk=>exact NZ hq
  |cont=>exact NZ hq
theorem Gp(F:FnOk X.prog X.w X.K X.mg X.base CX k f fd ps sp)(hr:Room k X.A)(hg:Gl X x)(hm:X.mg x=some (.ref f))(hk:NU X.K (.ref f)=true)(hb:Binds X.K fd ps ds)(hd:Vals Yt ds)(hx:db CX X E)
  (ha:PA X (e :: es) t) (hdb:(x == ("__debug__":Str))=false:=by decide) (he:starEach (e :: es) X.env=(false,eval e X.env) :: starEach es X.env:=by rfl) (YD:(backTo pos (starEach es X.env)).any (·.1)=false:=by rfl) :
  PE X (.Call (.Name x p) (e :: es) [] pos) (aW sp Yt E t):=by
 intro ξ s σ H Q I h;refine Oa (eV I hg hm ?_ hdb);refine Rg (h₀:=X.base) I.ok.mod.kin hk (bj (ha pos ξ s σ H _ I h) fun us s1 ⟨vs,H1,I1,r,q⟩=>⟨I1.kIn,?_⟩) he YD;exact yM F hr hb hd hx I1 r q
theorem Gk(he:PE X o ta)(c:Cls X.K C)(hm:Bj X.K C m f)(F:FnOk X.prog X.w X.K X.mg X.base CX k f fd ps sp)(hr:Room k X.A)(hb:Binds X.K fd ps ds)(hd:Vals Yt ds)(hx:db CX X E)(ha:PA X (e :: es) t)
  (hst:starEach (e :: es) X.env=(false,eval e X.env) :: starEach es X.env:=by rfl) (YD:(backTo pos (starEach es X.env)).any (·.1)=false:=by rfl)
  (ht:eval (.Call (.Attribute o m apos) (e :: es) [] pos) X.env=(do
   let ov <- eval o X.env
   standAt apos.atName
   let (f,first) <- holding [ov] (getMethod ov m pl)
   callWith pos f first (backTo pos (starEach (e :: es) X.env)) (backToKw pos (keywordEach [] X.env))):=by rfl) :
  PE X (.Call (.Attribute o m apos) (e :: es) [] pos) (fg C m sp Yt E ta t):=by
 intro ξ s σ H Q I h;refine QC (pl:=pl) (bj (he ξ s σ H _ I h) fun u s1 ⟨x,H1,I1,rx,a,dx,fs,ex,ea,l,q⟩=>?_) ht;subst ex;obtain rfl:u=MX a:=rx;refine fZ I1 ea c hm l ?_;refine Rg (first:=[.ref a]) (h₀:=X.base) I.ok.mod.kin hm.kp (bj (ha pos ξ s1 σ H1 _ I1 q) fun us s2 ⟨vs,H2,I2,r,q2⟩=>⟨I2.kIn,?_⟩) hst YD;exact yM (us:=.ref a :: us) (vs:=.ref a :: vs) F hr hb hd hx I2 (.cons rfl r) q2
theorem CB(he:PE X o ta)(c:Cls X.K C)(hm:Bj X.K C m f)(F:FnOk X.prog X.w X.K X.mg X.base CX k f fd ps sp)(hr:Room k X.A)(hb:Binds X.K fd ps ds)(hd:Vals Yt ds)(hx:db CX X E)
  (ht:eval (.Call (.Attribute o m apos) [] [] pos) X.env=(do
   let ov <- eval o X.env
   standAt apos.atName
   let (f,first) <- holding [ov] (getMethod ov m pl)
   callWith pos f first (backTo pos (starEach [] X.env)) (backToKw pos (keywordEach [] X.env))):=by rfl) :
  PE X (.Call (.Attribute o m apos) [] [] pos) (fg C m sp Yt E ta am):=by
 intro ξ s σ H Q I h;refine QC (pl:=pl) (bj (he ξ s σ H _ I h) fun u s1 ⟨x,H1,I1,rx,a,dx,fs,ex,ea,l,q⟩=>?_) ht;subst ex;obtain rfl:u=MX a:=rx;refine fZ I1 ea c hm l ?_;exact Vu (first:=[.ref a]) I1.kIn hm.kp (yM (us:=[.ref a]) (vs:=[.ref a]) F hr hb hd hx I1 (.cons rfl .nil) q)
structure Mk (K:Fg) (C f:Addr):Prop where
 makes:RX K C=true
 init:Ny K (.ref C) "__init__"=some (some (.ref f))
 fn:Ru K (.ref f)=true
 kp:NU K (.ref C)=true
theorem BZ{H:Hp}{Q:VK}(M:Mk X.K C f)(F:FnOk X.prog X.w X.K X.mg X.base CX k f fd ps sp)(hr:Room (k+1) X.A)(hb:Binds X.K fd ps ds)(hd:Vals Yt ds)
  (hx:db CX X E) (I:Inv X ξ σ H s) (r:Vals vs us)
  (h:∀x dx,H x=none->H dx=none->dx≠x->sp (.ref x :: (vs++Yt)) (upd (upd H dx (.own x)) x (.ins C dx [])) (fun v H2=>v=.non/\Q (.ref x) H2) E) :
  wpAny (model X.prog X.w) X.A (call (.ref C) us) (EP X ξ σ Q) X.xe s:=by
 have hq:=h (s.heap.objs.size+1) s.heap.objs.size (I.hok.fresh (PP _)) (I.hok.fresh (MB _)) (MC (Pq _));have I2:=Inv.made (C:=C) I;have r2:Vals (V.ref (s.heap.objs.size+1) :: (vs++Yt)) (MX (s.heap.objs.size+1) :: (us++ds)):=.cons rfl (r.append hd)
 have hl:(MX (s.heap.objs.size+1) :: us++ds).length=ps.length:=by
  have e:=r2.length;rw[F.len _ _ _ _ hq] at e;exact e.symm
 refine QM (CW (f:=f) I.kIn M.makes M.init (beq_iff_eq.mp M.fn) (PN (F.run _ X.stack _ _ ⟨MX (s.heap.objs.size+1) :: us,[]⟩ (MX (s.heap.objs.size+1) :: (us++ds)) _ _ E (hr.make C us [])
  (I2.env0.make C us []) (hb _ (MX (s.heap.objs.size+1) :: us) I2.kIn hl) r2 hq) fun r s' Zs=>?_))
 cases r with
 |error e=>exact hx ξ σ _ _ e s' I2 Zs
 |ok fl =>
  cases fl with
  |ret u =>
   obtain⟨v,H',I3,rv,ev,q3⟩:=I2.after Zs;subst ev;exact⟨rv,⟨V.ref (s.heap.objs.size+1),H',I3,rfl,q3⟩⟩
  |next=>exact NZ Zs
  |brk=>exact NZ Zs
  |cont=>exact NZ Zs
theorem Gm(M:Mk X.K C f)(F:FnOk X.prog X.w X.K X.mg X.base CX k f fd ps sp)(hr:Room (k+1) X.A)(hg:Gl X x)(hm:X.mg x=some (.ref C))(hb:Binds X.K fd ps ds)(hd:Vals Yt ds)(hx:db CX X E)
  (ha:PA X (e :: es) t) (hdb:(x == ("__debug__":Str))=false:=by decide) (he:starEach (e :: es) X.env=(false,eval e X.env) :: starEach es X.env:=by rfl) (YD:(backTo pos (starEach es X.env)).any (·.1)=false:=by rfl) :
  PE X (.Call (.Name x p) (e :: es) [] pos) (wC C sp Yt E t):=by
 intro ξ s σ H Q I h;refine Oa (eV I hg hm ?_ hdb);refine Rg (h₀:=X.base) I.ok.mod.kin M.kp (bj (ha pos ξ s σ H _ I h) fun us s1 ⟨vs,H1,I1,r,q⟩=>⟨I1.kIn,?_⟩) he YD;exact BZ M F hr hb hd hx I1 r q
end
structure aF (N P:List Str) (sc:Scope):Prop where
 kind:sc.kind=.function
 co:sc.isCoroutine=false
 gen:sc.isGenerator=false
 nd:N.Nodup
 pre:N.take P.length=P
 par:∀x∈P,sc.names.lookup x=some .local\/sc.names.lookup x=some .cell
 nofree:∀y∈sc.names,y.2≠.free
theorem sC{kindOf:Str->Option Tu}{x:Str}:∀{binds:List (Str×Mu)} {m:Str->Option Mu},(∀v,(x,v)∉binds)->bindL kindOf binds m x=m x
 |[],_,_=>rfl
 |(n,v) :: r,m,h=>by
  unfold bindL;rw[sC fun w hw=>h w (MO _ hw)];split
  ·have:x≠n:=by rintro rfl;exact h v MM
   simp[this]
  ·rfl
theorem sF{kindOf:Str->Option Tu}{x:Str}:∀{binds:List (Str×Mu)} {m:Str->Option Mu},(∀v,(x,v)∉binds)->bindC kindOf binds m x=m x
 |[],_,_=>rfl
 |(n,v) :: r,m,h=>by
  unfold bindC;rw[sF fun w hw=>h w (MO _ hw)];split
  ·rfl
  ·have:x≠n:=by rintro rfl;exact h v MM
   simp[this]
theorem sE{kindOf:Str->Option Tu}{x:Str}{v:Mu}:∀{P:List Str} {vs:List Mu} {i:Nat} {m:Str->Option Mu},P.Nodup->P[i]?=some x->vs[i]?=some v->kindOf x=some .local ->
  bindL kindOf (P.zip vs) m x=some v
 |[],_,_,_,_,h,_,_=>by simp at h
 |_ :: _,[],_,_,_,_,h,_=>by simp at h
 |p :: P,w :: vs,0,m,nd,h1,h2,hk=>by
  simp at h1 h2;subst h1;subst h2;show bindL kindOf ((p,w) :: P.zip vs) m p=_;unfold bindL;rw[sC fun v hv=>(NE.mp nd).1 (OU hv).1,if_pos hk];simp
 |p :: P,w :: vs,i+1,m,nd,h1,h2,hk=>by
  show bindL kindOf ((p,w) :: P.zip vs) m x=_;unfold bindL;exact sE (i:=i) (NE.mp nd).2 (by simpa using h1) (by simpa using h2) hk
theorem sG{kindOf:Str->Option Tu}{x:Str}{v:Mu}:∀{P:List Str} {vs:List Mu} {i:Nat} {m:Str->Option Mu},P.Nodup->P[i]?=some x->vs[i]?=some v->kindOf x≠some .local ->
  bindC kindOf (P.zip vs) m x=some v
 |[],_,_,_,_,h,_,_=>by simp at h
 |_ :: _,[],_,_,_,_,h,_=>by simp at h
 |p :: P,w :: vs,0,m,nd,h1,h2,hk=>by
  simp at h1 h2;subst h1;subst h2;show bindC kindOf ((p,w) :: P.zip vs) m p=_;unfold bindC;rw[sF fun v hv=>(NE.mp nd).1 (OU hv).1,if_neg hk];simp
 |p :: P,w :: vs,i+1,m,nd,h1,h2,hk=>by
  show bindC kindOf ((p,w) :: P.zip vs) m x=_;unfold bindC;exact sG (i:=i) (NE.mp nd).2 (by simpa using h1) (by simpa using h2) hk
def start(N:List Str)(vs:List V):St:=vs.map some++Nq (N.length-vs.length) none
def cS(CX:jF)(P:MP)(w:M4)(K:Fg)(mg:Str->Option Mu)(base:Heap)(N:List Str)(qual:Str)(scope:Scope)(f:Addr)(cd:Mu)(A:No)(outer:List Env)(s:MA)(H:Hp)(E:XK):Cx where
 prog:=P
 w:=w
 K:=K
 mg:=mg
 base:=base
 A:=A.deeper (envOfC qual scope s.heap.objs.size f cd)
 N:=N
 s₀:=s
 H₀:=H
 env:=envOfC qual scope s.heap.objs.size f cd
 outer:=outer
 stack:=envOfC qual scope s.heap.objs.size f cd :: outer
 ex:=[]
 calm:=true
 fn:=fun _=>true
 pn:=[]
 xe:=fun e s'=>wpAny (model P w) (A.deeper (envOfC qual scope s.heap.objs.size f cd)) (leaving (envOfC qual scope s.heap.objs.size f cd) e) (fun _ Ze=>CX outer H s E e Ze) (fun e' Ze=>CX outer H s E e' Ze) s'
theorem wn{sc:Scope}(h:sc.names.lookup x=some .cell):∃c,(cellsFrom n sc.names []).lookup x=some c:=by
 have q:=TW sc.names n [] (.inl h);exact S_.mp q
theorem Au{CX:jF}{K:Fg}{A:No}{vs:List V}
  (S:aF N ps scope) (hd:A.handled=none) (e0:Env0 P w K mg base A outer s H) (hl:vs.length=ps.length) (r:Vals vs us)
  (x:InCallC s s.heap.objs.size (bindL (envOfC qual scope s.heap.objs.size f cd).kindOf (ps.zip us) fun _=>none) (cellsFrom (s.heap.objs.size+1) scope.names []) (bindC (envOfC qual scope s.heap.objs.size f cd).kindOf (ps.zip us) fun _=>none) s1) :
  Inv (cS CX P w K mg base N qual scope f cd A outer s H E) [] (start N vs) H s1:=by
 have YD:ps.length<=N.length:=by have:=congrArg QI S.pre;rw[Ng] at this;lia
 obtain⟨h1,tk,rfl,hk⟩:=x.done;have noA:∀b:Addr,b∉(cS CX P w K mg base N qual scope f cd A outer s H E).ex:=fun b z=>absurd (show b∈([]:List Addr) from z) (by simp)
 refine⟨⟨e0.mod,S.kind,rfl,rfl,MB _,fun y z c h1 h2=>?_,fun y hy=>?_,fun y c _ h=>?_,fun _=>hd,No.frames_deeper e0.frames,.inr ⟨rfl,rfl⟩,fun b z=>absurd z (noA b),e0.bs,e0.bsz,fun b _ _=>noA b,fun b z=>absurd z (noA b),e0.funs,e0.frf⟩,
  rfl,e0.bare,Un.kept hk,⟨_,x.toInCall.ns,fun i y v h1 h2 h3=>?_⟩,fun y c h=>⟨_,x.cell y c h⟩,e0.hok.fresh (MB _),fun y c h=>?_,fun p hp=>absurd (show p∈([]:List (Addr×Obj)) from hp) (by simp),e0.hok.kept hk,?_⟩
 ·exact name_of_addr x.apart (P7 h1) (P7 h2)
 ·have hy:scope.names.lookup y=some .cell\/scope.names.lookup y=some .free:=hy;rcases hy with hy|hy
  ·exact wn hy
  ·exact absurd rfl (S.nofree _ (P7 hy))
 ·exact NS (x.above y c (P7 h))
 ·have hi:i<vs.length:=by
   unfold start at h2;by_cases hi:i<vs.length
   ·exact hi
   ·rw[Nr (by simpa using hi)] at h2;rw[List.getElem?_replicate] at h2;split at h2 <;> cases h2
  have ha:vs[i]?=some v:=by
   unfold start at h2;rw[Nu (by simpa using hi),ME] at h2;cases e:vs[i]? with
   |none=>rw[e] at h2;cases h2
   |some a=>rw[e] at h2;cases h2;rfl
  obtain⟨u,hu,rv⟩:=r.get ha
  have hp:ps[i]?=some y:=by
   rw[<- S.pre,Ta (by lia)];exact h1
  have ndP:ps.Nodup:=by rw[<- S.pre];exact S.nd.sublist (SV _ _)
  refine⟨u,rv,?_⟩;rcases S.par y (MH hp) with k|k
  ·exact .inl ⟨k,sE ndP hp hu k⟩
  ·obtain⟨c,e⟩:=wn (n:=s.heap.objs.size+1) k;refine .inr ⟨.inl k,c,e,?_⟩;have q:=x.cell y c e;rw[sG ndP hp hu (by show scope.names.lookup y≠_;rw[k];decide)] at q;exact q
 ·exact e0.hok.fresh (NS (x.above y c (P7 h)))
 ·unfold start;show _=N.length;rw[M3,Mv,Oj];lia
theorem Hc{CX:jF}{K:Fg}{dV kV oc:Mu}{od:Option Addr}
  {Zj:Array (Option Mu)}  {sp:Sp} (lk:K.lookup f=some ⟨oc,od,.func (Ob name qual params body scope dV kV doc pm an gV ct),Zj⟩) (hcd:O_ K gV qual=true) (S:aF N ps scope)
  (len:∀vs H Q E,sp vs H Q E->vs.length=ps.length)
  (hbody:∀(A:No) (outer:List Env) (s:MA) (H:Hp) (vs:List V) (Q:VK) (E:XK),Room k (A.deeper (envOfC qual scope s.heap.objs.size f gV))->sp vs H Q E ->
   ∃t,PSs (cS CX P w K mg base N qual scope f gV A outer s H E) body t/\t {nx:=fun _ H'=>Q .non H',rt:=Q} (start N vs) H) :
  FnOk P w K mg base CX (k+1) f (Ob name qual params body scope dV kV doc pm an gV ct) ps sp:=by
 refine⟨len,fun A outer s H args us vs Q E hr e0 hb r hsp=>?_⟩;have hl:=len _ _ _ _ hsp;have KX:K.In s.heap:=e0.mod.kin.keeps fun b o e=>(e0.bs b o e).1
 have lim:s.heap.NoLimit:=e0.mod.nolimit.keeps fun b o e=>(e0.bs b o e).1
 have hkind:∀y∈ps.zip us,scope.names.lookup y.1=some .local\/(scope.names.lookup y.1=some .cell/\((cellsFrom (s.heap.objs.size+1) scope.names []).lookup y.1).isSome=true):=fun⟨n,v⟩ hy=>by
  rcases S.par n (OU hy).1 with q|q
  ·exact .inl q
  ·exact .inr ⟨q,TW _ _ _ (.inl q)⟩
 refine codeAny_call_function hr.depth (KX _ _ lk) rfl S.co S.gen rfl (PySem.W.codeRec_of KX hcd) (hb _ _ _ _ ?_);refine wpAny_newFunctionEnv_cells S.kind hkind fun env he s1 x=>?_
 subst he;refine⟨lim.keeps x.toInCall.keep,codeAny_func ?_⟩;obtain⟨t,ht,hq⟩:=hbody A outer s H vs Q E (hr.deeper _) hsp;have I:Inv (cS CX P w K mg base N qual scope f gV A outer s H E) [] (start N vs) H s1:=Au S hr.hd e0 hl r x;refine Nj (ht [] s1 (start N vs) H _ I hq) (fun fl s' hs=>?_) fun e s' hs=>hs
 have fin:∀{σ':St} {H':Hp} {v:V} {u:Mu},Inv (cS CX P w K mg base N qual scope f gV A outer s H E) [] σ' H' s'->RelV v u->Q v H'->CE outer P w H s Q u s' :=
  fun {σ' H' v u} J rv q=>⟨v,H',J.os,J.bare,J.base,J.hok,rv,q⟩
 cases fl with
 |ret u =>
  obtain⟨v,σ',H',J,rv,q⟩:=hs;exact fin J rv q
 |next =>
  obtain⟨σ',H',J,q⟩:=hs;exact fin (v:=V.non) (u:=NJ) J rfl q
 |brk =>
  obtain⟨_,_,_,q⟩:=hs;exact NZ q
 |cont =>
  obtain⟨_,_,_,q⟩:=hs;exact NZ q
section
variable{X:Cx}{x:Str}{p pos:Pos}{e:Expr}{es:List Expr}{t:TA}{id T:String}{r:List V->Hp->VK->Prop}
def bQ(r:List V->Hp->VK->Prop)(t:TA):TE:=fun σ H Q=>t σ H fun vs H1=>r vs H1 Q
theorem aq(hc:gN X (.builtin id) r) (hg:Gl X x) (hm:X.mg x=none) (hv:bootBuiltins x=some (.builtin id)) (ha:PA X (e :: es) t) (hn:x≠"__name__":=by decide) (hdb:(x == ("__debug__":Str))=false:=by decide)
  (he:starEach (e :: es) X.env=(false,eval e X.env) :: starEach es X.env:=by rfl) (YD:(backTo pos (starEach es X.env)).any (·.1)=false:=by rfl):PE X (.Call (.Name x p) (e :: es) [] pos) (bQ r t):=by
 intro ξ s σ H Q I h;refine Oa (fE I hg hm hv ?_ hn hdb);exact O4 (bj (ha pos ξ s σ H _ I h) fun us s1 ⟨vs,H1,I1,r1,q1⟩=>hc ξ s1 σ H1 vs us Q I1 r1 q1) he YD
theorem bf(hc:gN X (.type T) r) (hg:Gl X x) (hm:X.mg x=none) (hv:bootBuiltins x=some (.type T)) (ha:PA X (e :: es) t) (hn:x≠"__name__":=by decide) (hdb:(x == ("__debug__":Str))=false:=by decide)
  (he:starEach (e :: es) X.env=(false,eval e X.env) :: starEach es X.env:=by rfl) (YD:(backTo pos (starEach es X.env)).any (·.1)=false:=by rfl):PE X (.Call (.Name x p) (e :: es) [] pos) (bQ r t):=by
 intro ξ s σ H Q I h;refine Oa (fE I hg hm hv ?_ hn hdb);exact N2 (bj (ha pos ξ s σ H _ I h) fun us s1 ⟨vs,H1,I1,r1,q1⟩=>hc ξ s1 σ H1 vs us Q I1 r1 q1) he YD
end
end L2
namespace HT
open PySem PyProof.Rows
section
variable{prog:MP}{w:M4}{A:No}{E:Mu->MA->Prop}{s:MA}
theorem Hn{vs ws:List Mu}{Q:Mu->MA->Prop}(ht:IsTup s.heap t vs.toArray)(hb:IsTup s.heap b ws.toArray)(hv:vs≠[])
  (h1:ws=[]->Q (.ref t) s) (h2:ws≠[]->Q (.ref s.heap.objs.size) {s with heap:=s.heap.push {cls:=.type "tuple",data:=.seq (vs++ws).toArray}})
  (hsz:vs.length+ws.length<=sizeLine):wpAny (model prog w) A (binaryOp .Add (.ref t) (.ref b)) Q E s:=by
 obtain⟨⟨cls,dd,data,sl⟩,ho,hc,n,hd⟩:=id ht;obtain⟨⟨cls2,dd2,data2,sl2⟩,ZC,Y8,n2,hd2⟩:=id hb;simp only at hc hd Y8 hd2;subst hc hd Y8 hd2;have e:vs.toArray++ws.toArray=(vs++ws).toArray:=by simp
 by_cases hw:ws=[]
 ·exact Wj ⟨_,ho,rfl⟩ ⟨_,ZC,rfl⟩ Tv VF Rv Rm (Q5 _ _)
   (tuple_addW1 t b vs.toArray ws.toArray n n2 dd dd2 sl sl2 (by simpa using hv) (by simp[hw])) ⟨ho,ZC,h1 hw⟩
 ·refine Wj ⟨_,ho,rfl⟩ ⟨_,ZC,rfl⟩ Tv VF Rv Rm (Q5 _ _)
   (tuple_addW2 t b vs.toArray ws.toArray n n2 dd dd2 sl sl2 (by simpa using hv) (by simpa using hw) (by rw[MU,MU];exact hsz)) ⟨ho,ZC,?_⟩
  rw[e];exact h2 hw
def sIx(n d:Nat):Option Int->Nat
 |none=>d
 |some v=>if v<0 then (v+(n:Int)).toNat else min v.toNat n
theorem vC(n d:Nat):sIx n d none=d:=rfl
theorem oZ(n d k:Nat):sIx n d (some (k:Int))=min k n:=by
 show(if (k:Int)<0 then ((k:Int)+(n:Int)).toNat else min (k:Int).toNat n)=min k n;rw[if_neg (by lia),Ol]
theorem Ib(n d:Nat)(hd:d<=n)(o:Option Int):sIx n d o<=n:=by
 cases o with
 |none=>exact hd
 |some v =>
  show(if v<0 then (v+(n:Int)).toNat else min v.toNat n)<=n;by_cases hv:v<0
  ·rw[if_pos hv];lia
  ·rw[if_neg hv];exact QX _ _
theorem A_(v:Int)(n d:Nat):(if v<0 then max (v+(n:Int)) 0 else min v (n:Int))=((sIx n d (some v):Nat):Int):=by
 show(if v<0 then max (v+(n:Int)) 0 else min v (n:Int))=(((if v<0 then (v+(n:Int)).toNat else min v.toNat n):Nat):Int)
 by_cases hv:v<0
 ·simp only[if_pos hv];lia
 ·simp only[if_neg hv];lia
theorem xl(lo hi:Option Int)(n:Nat):Q2 lo hi 1 (n:Int)=(((sIx n 0 lo:Nat):Int),((sIx n n hi:Nat):Int)):=by
 have h1 : ¬ ((1:Int)<0):=by lia
 unfold Q2;simp only[h1,if_false];refine Qp ?_ ?_
 ·cases lo with
  |none=>rfl
  |some v=>exact A_ v n 0
 ·cases hi with
  |none=>rfl
  |some v=>exact A_ v n n
theorem wR(i j:Nat):PC (i:Int) (j:Int) 1=j-i:=by
 unfold PC;have h1:(1:Int) > 0:=by lia
 simp only[h1,if_true,Int.ediv_one];split <;> lia
theorem mI{Q:Option Int->MA->Prop}(p:VX v o)(h:Q o s):wpAny (model prog w) A (OK.Slice.slicePartIndex v) Q E s:=by
 cases p with
 |none=>exact slicePart_none h
 |int i t=>exact slicePart_int h
theorem jm{lo:Option Int}{Q:Int×Int×Nat->MA->Prop}(hs:s.heap.IsSliceOf sl vl vu .none)(pl:VX vl lo)(pu:VX vu hi)
  (h:Q (((sIx n 0 lo:Nat):Int),1,sIx n n hi-sIx n 0 lo) s):wpAny (model prog w) A (Sw (.ref sl) (pure (n:Int))) Q E s:=by
 obtain⟨os,Zc,hcs,hds⟩:=id hs;unfold Sw OK.Slice.sliceFields;refine Ms (Ms (Nn Zc hds (x:=vl) rfl (Ms (Nn Zc hds (x:=vu) rfl (Ms (Nn Zc hds (x:=.none) rfl (Mz ?_)))))));refine Ms (slicePart_none ?_);show wpAny _ _ (if ((1:Int) == 0)=true then _ else _) _ _ s;rw[if_neg (by decide)];refine Ms (mI pl (Ms (mI pu (Ms (Mz ?_)))));show wpAny _ _ (match Q2 lo hi 1 (n:Int) with|(lo,hi)=>pure (lo,(1:Int),PC lo hi 1)) _ _ s;rw[xl lo hi n];show wpAny _ _ (pure (((sIx n 0 lo:Nat):Int),(1:Int),PC ((sIx n 0 lo:Nat):Int) ((sIx n n hi:Nat):Int) 1)) _ _ s;rw[wR];exact Mz h
theorem CA(xs:Array Mu)(i k:Nat):((N7 k).filterMap fun(m:Nat)=>xs[((i:Int)+(m:Int)*1).toNat]?).toArray=((xs.toList.drop i).take k).toArray:=by
 have e:(fun(m:Nat)=>xs[((i:Int)+(m:Int)*1).toNat]?)=fun m=>xs[i+m]?:=by
  funext m
  have:((i:Int)+(m:Int)*1).toNat=i+m:=by lia
  rw[this]
 rw[e]
 have:=pick_run xs i k
 rw[List.filterMap_map] at this;have e2:((fun x=>xs[x]?)∘fun x=>i+x)=fun m=>xs[i+m]?:=rfl
 rw[e2] at this;rw[this]
theorem i0{lo:Option Int}{Q:Mu->MA->Prop}(ht:IsTup s.heap t items)(hs:s.heap.IsSliceOf sl vl vu .none)(pl:VX vl lo)(pu:VX vu hi)
  (hw : ¬ (sIx items.size 0 lo=0/\sIx items.size items.size hi=items.size))
  (h:Q (.ref s.heap.objs.size) {s with heap:=s.heap.push {cls:=.type "tuple",data:=.seq ((items.toList.drop (sIx items.size 0 lo)).take (sIx items.size items.size hi-sIx items.size 0 lo)).toArray}})
  (hsz:items.size<=sizeLine):wpAny (model prog w) A (getItem (.ref t) (.ref sl)) Q E s:=by
 have Y_:sizeOk (.seq ((items.toList.drop (sIx items.size 0 lo)).take (sIx items.size items.size hi-sIx items.size 0 lo)).toArray):=by
  show((items.toList.drop (sIx items.size 0 lo)).take (sIx items.size items.size hi-sIx items.size 0 lo)).toArray.size<=sizeLine;rw[MU,Ng,Oe,NP];lia
 have hj:sIx items.size items.size hi<=items.size:=Ib _ _ (MB _) hi;obtain⟨os,Zc,hcs,hds⟩:=id hs;have hTs:s.TypeIs (.ref sl) "slice":=⟨os,Zc,hcs⟩
 unfold getItem
 try with_reducible refine NQ ?_
 first|refine Ms (Mz ?_)|skip
 refine Ms (wpAny_sequenceKey ht.typeIs (by decide) ?_)
 refine Ms (NF (name:=Om "__getitem__") ht.typeIs P5
  (N5 P5 ht.typeIs entry_tuple_getitem ?_ (args_tuple_getitem _ _)))
 show wpAny _ _ (Sx (.ref t) >>= _) _ _ s;refine Ms (tupleItemsOf_ ht ?_);refine Ms (TX hTs ?_);rw[if_pos (by decide)];refine Ms (jm hs pl pu ?_)
 have hno : ¬ ((((sIx items.size 0 lo:Nat):Int) == 0 && (1:Int) == 1 && (sIx items.size items.size hi-sIx items.size 0 lo) == items.size)=true):=by
  intro q;rw[Ou,Ou] at q;have q1:((sIx items.size 0 lo:Nat):Int)=0:=eq_of_beq q.1.1;have q2:sIx items.size items.size hi-sIx items.size 0 lo=items.size:=eq_of_beq q.2;exact hw ⟨by lia,by lia⟩
 show wpAny _ _ (if (((sIx items.size 0 lo:Nat):Int) == 0 && (1:Int) == 1 && (sIx items.size items.size hi-sIx items.size 0 lo) == items.size)=true then _ else _) _ _ s;rw[if_neg hno,CA]
 first
  |exact Ms (m:=P3 _) (NW (Mz ⟨_,rfl,Mz h⟩) Y_)
  |exact Ms (m:=P3 _) (NW (Ms (Mz (Mz ⟨_,rfl,Mz h⟩))) Y_)
  |exact Ms (Ms (m:=P3 _) (NW (Mz (Mz ⟨_,rfl,Mz h⟩)) Y_))
  |exact Ms (Ms (m:=P3 _) (NW (Mz ⟨_,rfl,Mz h⟩) Y_))
end
end HT
namespace L2
open PySem PySem.Spec PyProof.Rows
abbrev TO:=St->Hp->(Option Int->Hp->Prop)->Prop
def PO(X:Cx)(e:Option Expr)(t:TO):Prop :=
 ∀(ξ:List (Addr×Obj)) (s:MA) (σ:St) (H:Hp) (Q:Option Int->Hp->Prop),Inv X ξ σ H s->t σ H Q ->
  wpAny (model X.prog X.w) X.A (evalPart e X.env) (fun u s'=>∃o H',Inv X ξ σ H' s'/\VX u o/\Q o H') X.xe s
def eO:TO:=fun _ H Q=>Q none H
def gq(t:TE):TO:=fun σ H Q=>t σ H fun x H1=>∃i,x=.int i/\Q (some i) H1
section
variable{X:Cx}{e:Expr}{te:TE}{lo hi:Option Expr}{tl th:TO}{pos p2:Pos}
theorem iN:PO X none eO:=by
 intro ξ s σ H Q I h;rw[Tb];exact Mz ⟨none,H,I,.none,h⟩
theorem c_(h:PE X e te):PO X (some e) (gq te):=by
 intro ξ s σ H Q I hw;rw[evalPart_some];refine bj (h ξ s σ H _ I hw) fun u s1 ⟨x,H1,I1,r1,q1⟩=>?_
 obtain⟨i,rfl,q⟩:=q1;obtain⟨t,rfl⟩:=r1;exact⟨some i,H1,I1,.int i t,q⟩
def J7(X:Cx)(r:V->Option Int->Option Int->Hp->VK->Prop):Prop :=
 ∀(ξ:List (Addr×Obj)) (s:MA) (σ:St) (H:Hp) (x:V) (v vl vu:Mu) (lo hi:Option Int) (sl:Addr) (Q:VK),Inv X ξ σ H s->RelV x v->s.heap.IsSliceOf sl vl vu .none->VX vl lo->VX vu hi->r x lo hi H Q ->
  ∃T id,typeLookup (.type T) "__getitem__"=pure (some (.builtin id))/\s.TypeIs v T/\wpAny (model X.prog X.w) X.A (getItem v (.ref sl)) (EP X ξ σ Q) X.xe s
def xq(r:V->Option Int->Option Int->Hp->VK->Prop)(te:TE)(tl th:TO):TE:=fun σ H Q=>te σ H fun x H1=>tl σ H1 fun l H2=>th σ H2 fun u H3=>r x l u H3 Q
theorem dq(hr:J7 X r)(he:PE X e te)(hl:PO X lo tl)(hu:PO X hi th):PE X (.Subscript e (.Slice lo hi none p2) pos) (xq r te tl th):=by
 intro ξ s σ H Q I h;refine VY (bj (he ξ s σ H _ I h) fun v s1 ⟨x,H1,I1,r1,q1⟩=>?_);refine WZ (bj (hl ξ s1 σ H1 _ I1 q1) fun vl s2 ⟨l,H2,I2,pl,q2⟩=>bj (hu ξ s2 σ H2 _ I2 q2) fun vu s3 ⟨u,H3,I3,pu,q3⟩=>?_);rw[Tb];refine Mz ?_;have I4:Inv X ξ σ H3 {s3 with heap:=s3.heap.push {cls:=.type "slice",data:=.fields #[vl,vu,.none]}}:=I3.kept (t':=s3.toks) fun b ob q=>Mt _ q
 obtain⟨T,id,hT,ht,hg⟩:=hr ξ {s3 with heap:=s3.heap.push {cls:=.type "slice",data:=.fields #[vl,vu,.none]}} σ H3 x v vl vu l u s3.heap.objs.size Q I4 r1 (VZ ..) pl pu q3;show wpAny (model X.prog X.w) X.A (subscriptTail e (.Slice lo hi none p2) v (.ref s3.heap.objs.size)) (EP X ξ σ Q) X.xe {s3 with heap:=s3.heap.push {cls:=.type "slice",data:=.fields #[vl,vu,.none]}};exact Xi (ops:=[.ref s3.heap.objs.size,v]) ht hT hg (by with_unfolding_all rfl)
def gI(xs:List V)(lo hi:Option Int):List V:=(xs.drop (HT.sIx xs.length 0 lo)).take (HT.sIx xs.length xs.length hi-HT.sIx xs.length 0 lo)
theorem lC(xs:List V)(lo hi:Option Int):(gI xs lo hi).length<=xs.length:=by
 unfold gI;rw[Ng,Oe];lia
def y_(K:Fg):V->Option Int->Option Int->Hp->VK->Prop:=fun x lo hi H Q=>∃a xs,x=.ref a/\SqT K H a xs /\
 ¬ (HT.sIx xs.length 0 lo=0/\HT.sIx xs.length xs.length hi=xs.length)/\∀p,H p=none->Q (.ref p) (upd H p (.tup (gI xs lo hi)))
theorem yw:J7 X (y_ X.K):=by
 intro ξ s σ H x v vl vu lo hi sl Q I rx hs pl pu h;obtain⟨a,xs,rfl,hx,hw,q⟩:=h;cases rx;obtain⟨fm,r,ht,hz⟩:=I.tuple hx;have hlen:fm.toArray.size=xs.length:=by rw[MU];exact r.length.symm
 refine⟨"tuple",_,P5.lookup,ht.typeIs,?_⟩;refine HT.i0 ht hs pl pu (by rw[hlen];exact hw) ?_ (by rw[hlen];exact hz);rw[hlen];refine⟨.ref s.heap.objs.size,_,I.laid (t':=s.toks) (o:=.tup (gI xs lo hi)) (fun b ob q=>Mt _ q) (MB _) ?_,rfl,q _ (I.hok.fresh (MB _))⟩;exact⟨Np (lC xs lo hi) hz,_,(r.drop (HT.sIx xs.length 0 lo)).take (HT.sIx xs.length xs.length hi-HT.sIx xs.length 0 lo),TupD.new _ _⟩
def KQ(K:Fg):R2:=fun x y H Q=>∃a b xs ys,x=.ref a/\y=.ref b/\SqT K H a xs/\SqT K H b ys/\xs≠[]/\xs.length+ys.length<=sizeLine /\
 (ys=[]->Q (.ref a) H)/\(ys≠[]->∀p,H p=none->Q (.ref p) (upd H p (.tup (xs++ys))))
theorem Vals.pE(r:Vals xs us):us=[]↔xs=[]:=by
 cases r with
 |nil=>simp
 |cons _ _=>simp
theorem Gv:ft X (binaryOp .Add) (KQ X.K):=by
 intro ξ s σ H x y v u Q I rx ry h;obtain⟨a,b,xs,ys,rfl,rfl,ha,hb,hx,hz,q1,q2⟩:=h;cases rx;cases ry;obtain⟨fm,r1,p1,_⟩:=I.tuple ha;obtain⟨Zu,r2,p2,_⟩:=I.tuple hb;refine HT.Hn p1 p2 (fun z=>hx (r1.pE.mp z)) (fun z=>⟨.ref a,H,I,rfl,q1 (r2.pE.mp z)⟩) (fun z=>?_) (by rw[<- r1.length,<- r2.length];exact hz);refine⟨.ref s.heap.objs.size,_,I.laid (t':=s.toks) (o:=.tup (xs++ys)) (fun b ob q=>Mt _ q) (MB _) ?_,rfl,q2 (fun w=>z (r2.pE.mpr w)) _ (I.hok.fresh (MB _))⟩;exact⟨by rw[M3];exact hz,_,r1.append r2,TupD.new _ _⟩
end
def Bs(n:Nat)(i:Int):Option Nat:=if 0<=i then (if i<n then some i.toNat else none) else if -(n:Int)<=i then some (i+n).toNat else none
def lG{α:Type}(xs:List α)(i:Int):Option α:=(Bs xs.length i).bind fun j=>xs[j]?
theorem Aq{j:Nat}(h:Bs n i=some j):seqIndex? i n=some j/\j<n/\-(n:Int)<=i/\i<n:=by
 unfold Bs at h;by_cases h0:0<=i
 ·rw[if_pos h0] at h;by_cases h1:i<n
  ·rw[if_pos h1] at h;have e:i.toNat=j:=MY h;exact⟨by rw[W0 h0 h1,e],by lia,by lia,h1⟩
  ·rw[if_neg h1] at h;cases h
 ·rw[if_neg h0] at h;by_cases h1 : -(n:Int)<=i
  ·rw[if_pos h1] at h;have e:(i+n).toNat=j:=MY h;exact⟨by rw[Wk (by lia) h1,e],by lia,h1,by lia⟩
  ·rw[if_neg h1] at h;cases h
theorem uX{α:Type}{xs:List α}{v:α}(h:lG xs i=some v):∃j,seqIndex? i xs.length=some j/\xs[j]?=some v/\j<xs.length/\-(xs.length:Int)<=i/\i<xs.length:=by
 unfold lG at h;cases e:Bs xs.length i with
 |none=>rw[e] at h;cases h
 |some j =>
  rw[e] at h;obtain⟨h1,h2,h3,h4⟩:=Aq e;exact⟨j,h1,h,h2,h3,h4⟩
theorem bz{α:Type}{xs:List α}{j:Nat}{v:α}(h:xs[j]?=some v):lG xs (j:Int)=some v:=by
 have hj:j<xs.length:=(My.mp h).1
 have e:Bs xs.length (j:Int)=some j:=by
  unfold Bs;rw[if_pos (by lia),if_pos (by lia)];simp
 unfold lG;rw[e];exact h
theorem qi{α:Type}(xs:List α)(v:α):lG (xs++[v]) (-1)=some v:=by
 have hl:(xs++[v]).length=xs.length+1:=by simp
 have e:Bs (xs++[v]).length (-1)=some xs.length:=by
  unfold Bs;rw[hl,if_neg (by decide),if_pos (by lia)];congr 1;lia
 unfold lG;rw[e];show(xs++[v])[xs.length]?=some v;simp
def HD(b:Expr):Prop:=∀o i,subscripted b false o i=operate [o,i] (getItem o i)
def IxR(X:Cx)(r:R2):Prop :=
 ∀(value slice:Expr) (ξ:List (Addr×Obj)) (s:MA) (σ:St) (H:Hp) (x y:V) (v u:Mu) (Q:VK),Inv X ξ σ H s->RelV x v->RelV y u->r x y H Q ->
  subscripted slice false v u=operate [v,u] (getItem v u)->wpAny (model X.prog X.w) X.A (subscriptTail value slice v u) (EP X ξ σ Q) X.xe s
def Bv(X:Cx)(id:String)(r:V->List V->Hp->VK->Prop):Prop :=
 ∀(ξ:List (Addr×Obj)) (s:MA) (σ:St) (H:Hp) (x:V) (xs:List V) (v:Mu) (us:List Mu) (Q:VK),Inv X ξ σ H s->RelV x v->Vals xs us->r x xs H Q ->
  wpAny (model X.prog X.w) X.A (call (.builtin id) (v :: us)) (EP X ξ σ Q) X.xe s
section
variable{X:Cx}{a b:Expr}{ta tb:TE}{pos:Pos}
theorem IxR.or(h:IxR X r)(h':IxR X r'):IxR X (fun x y H Q=>r x y H Q\/r' x y H Q):=by
 intro value slice ξ s σ H x y v u Q I rx ry q hs;rcases q with q|q
 ·exact h value slice ξ s σ H x y v u Q I rx ry q hs
 ·exact h' value slice ξ s σ H x y v u Q I rx ry q hs
theorem aK(hr:IxR X r)(ha:PE X a ta)(hb:PE X b tb)(hs:HD b):PE X (.Subscript a b pos) (aA r ta tb):=by
 intro ξ s σ H Q I h;exact VY (Hq ha hb I h fun v u s2 x y H2 I2 rx ry q=>hr a b ξ s2 σ H2 x y v u Q I2 rx ry q (hs _ _))
def aZ(K:Fg):R2:=fun x y H Q=>∃p xs i v,x=.ref p/\y=.int i/\SqL K H p xs/\lG xs i=some v/\Q v H
def bB(K:Fg):R2:=fun x y H Q=>∃p xs i v,x=.ref p/\y=.int i/\SqT K H p xs/\lG xs i=some v/\Q v H
def qU:R2:=fun x y H Q=>∃z i c,x=.str z/\y=.int i/\z.length<=sizeLine/\lG z.cps.toList i=some c/\Q (.str ⟨#[c]⟩) H
theorem aH:IxR X (aZ X.K):=by
 intro value slice ξ s σ H x y v u Q I rx ry h hs;obtain⟨p,xs,i,z,rfl,rfl,hq,he,q⟩:=h;cases rx;obtain⟨t,rfl⟩:=ry;obtain⟨fm,r,pl,hz⟩:=I.list hq;obtain⟨j,h1,h2,h3,h4,h5⟩:=uX he;obtain⟨w,ew,rw'⟩:=r.get h2;have hl:=r.length;have hn:=mL;have fin:EP X ξ σ Q w s:=⟨z,H,I,rw',q⟩
 by_cases h0:0<=i
 ·have hj:i.toNat=j:=by
   rw[W0 h0 h5] at h1;exact MY h1
  exact item_listR pl.isList h0 (by lia) (by rw[hj];simpa using ew) fin hs
 ·have hj:(i+(fm.toArray.size:Int)).toNat=j:=by
   rw[Wk (by lia) h4] at h1;rw[MU,<- hl];exact MY h1
  exact TY (x:=w) pl.isList.typeIs SW.lookup
   (wpAny_getItem_list_neg (Q:=fun r s'=>r=w/\EP X ξ σ Q r s') pl.isList (by lia) (by rw[MU] <;> lia) (by lia) (by rw[hj];simpa using ew) ⟨rfl,fin⟩) hs
theorem a6:IxR X (bB X.K):=by
 intro value slice ξ s σ H x y v u Q I rx ry h hs;obtain⟨p,xs,i,z,rfl,rfl,hq,he,q⟩:=h;cases rx;obtain⟨t,rfl⟩:=ry;obtain⟨fm,r,pl,hz⟩:=I.tuple hq;obtain⟨j,h1,h2,h3,h4,h5⟩:=uX he;obtain⟨w,ew,rw'⟩:=r.get h2;have hl:=r.length;have hn:=mL;have fin:EP X ξ σ Q w s:=⟨z,H,I,rw',q⟩
 exact TY (x:=w) pl.typeIs slot_tuple_getitem.lookup
  (getItem_tuple (j:=j) (Q:=fun r s'=>r=w/\EP X ξ σ Q r s') pl (by lia) (by lia) (by rw[MU,<- hl];exact h1) (by simpa using ew) ⟨rfl,fin⟩) hs
theorem rY:IxR X qU:=by
 intro value slice ξ s σ H x y v u Q I rx ry h hs;obtain⟨z,i,c,rfl,rfl,hz,he,q⟩:=h;obtain⟨t,rfl⟩:=rx;obtain⟨t',rfl⟩:=ry;obtain⟨j,h1,h2,h3,h4,h5⟩:=uX he;have hl:z.cps.toList.length=z.length:=by simp[Xj]
 rw[hl] at h1 h4 h5;have hn:=mL
 exact Xi (Qk s z t) slot_str_getitem.lookup (getItem_str (c:=c) (by
  have e1:decide (i < -(2 ^ 63:Int))=false:=decide_eq_false (by lia)
  have e2:decide (i≥2 ^ 63)=false:=decide_eq_false (by lia)
  rw[e1,e2,VG]) (by rw[h1];simpa using h2) ⟨.str ⟨#[c]⟩,H,I.tok _,⟨_,rfl⟩,q⟩) hs
def Bq(K:Fg):R2:=fun x y H Q=>aZ K x y H Q\/bB K x y H Q\/qU x y H Q
theorem rZ:IxR X (Bq X.K):=aH.or (a6.or rY)
theorem wX(fm:List Mu) (n j:Nat) (u:Mu):Oo (·.setIfInBounds j u) {cls:=.type "list",data:=.seq fm.toArray n} = {cls:=.type "list",data:=.seq (fm.set j u).toArray n}:=by
 simp[Oo]
theorem Inv.lst{ξ:List (Addr×Obj)}{σ:St}{H:Hp}{s:MA}{p:Addr}{xs:List V}(I:Inv X ξ σ H s)(h:H p=some (.lst xs)) :
  ∃(fm:List Mu) (n:Nat),Vals xs fm/\s.heap.get? p=some {cls:=.type "list",data:=.seq fm.toArray n}/\xs.length<=sizeLine:=by
 obtain⟨z,fm,n,r,e⟩:=I.hok p _ h;exact⟨fm,n,r,e,z⟩
theorem Inv.IP{H:Hp}{fm its':List Mu}{f:Obj->Obj}(I:Inv X ξ σ H s)(h:H p=some (.lst xs))
  (ho:s.heap.get? p=some {cls:=.type "list",data:=.seq fm.toArray n}) (hf:f {cls:=.type "list",data:=.seq fm.toArray n} = {cls:=.type "list",data:=.seq its'.toArray n'}) (r:Vals ys its') (hz:ys.length<=sizeLine) (t:Nat) :
  Inv X ξ σ (upd H p (.lst ys)) {s with heap:=s.heap.update p f,toks:=t}:=by
 have e:(s.heap.update p f).get? p=some {cls:=.type "list",data:=.seq its'.toArray n'}:=by
  rw[NB f ho (by rw[hf] <;> rfl),hf]
 refine I.write (x:=p) (e:=p) (by rw[h];trivial) (.inl rfl) (fun b u hb q=>(Nt _ _ (N1 hb)).trans q) ⟨_,e⟩ ?_;exact⟨hz,its',n',r,e⟩
def F4:V->V->V->Hp->(Hp->Prop)->Prop:=fun o i v H Q=>∃p xs k j,o=.ref p/\i=.int k/\H p=some (.lst xs)/\Bs xs.length k=some j/\Q (upd H p (.lst (xs.set j v)))
theorem qF:Kb X F4:=by
 intro ξ s σ H o i v ov iv u Q I ro ri rv h;obtain⟨p,xs,k,j,rfl,rfl,hp,hj,q⟩:=h;cases ro;obtain⟨t,rfl⟩:=ri;obtain⟨fm,n,r,ho,hz⟩:=I.lst hp;obtain⟨h1,h2,h3,h4⟩:=Aq hj;have hl:=r.length;have hn:=mL
 have I':Inv X ξ σ (upd H p (.lst (xs.set j v))) {s with heap:=s.heap.update p (Oo (·.setIfInBounds j u))} :=
  I.IP hp ho (wX fm n j u) (r.set rv j) (by rw[Uq];exact hz) s.toks
 by_cases h0:0<=k
 ·have hk:k.toNat=j:=by
   rw[W0 h0 h4] at h1;exact MY h1
  exact PySem.W.ki_setAt ho h0 (by lia) (by rw[MU,<- hl];exact h4) (by rw[hk];exact⟨_,I',q⟩)
 ·have hk:(k+(fm.toArray.size:Int)).toNat=j:=by
   rw[Wk (by lia) h3] at h1;rw[MU,<- hl];exact MY h1
  exact PySem.W.ki_setBack ho (by lia) (by rw[MU,<- hl];exact h3) (by lia) (by rw[hk];exact⟨_,I',q⟩)
theorem qE(lo hi:Option Int)(n:Nat):(sliceBounds lo hi none n).1=((HT.sIx n 0 lo:Nat):Int)/\(sliceBounds lo hi none n).2.1=((HT.sIx n n hi:Nat):Int)/\(sliceBounds lo hi none n).2.2=1:=by
 refine⟨?_,?_,rfl⟩
 ·cases lo with
  |none=>simp[sliceBounds,HT.sIx]
  |some i =>
   simp only[sliceBounds,HT.sIx,WH,show(1:Int) > 0 by decide,if_true];by_cases h:i<0
   ·simp only[h,if_true] <;> lia
   ·simp only[h,if_false] <;> lia
 ·cases hi with
  |none=>simp[sliceBounds,HT.sIx]
  |some i =>
   simp only[sliceBounds,HT.sIx,WH,show(1:Int) > 0 by decide,if_true];by_cases h:i<0
   ·simp only[h,if_true] <;> lia
   ·simp only[h,if_false] <;> lia
theorem oR(fm:List Mu)(lo hi:Option Int):slicePick fm.toArray lo hi none=((fm.drop (HT.sIx fm.length 0 lo)).take (HT.sIx fm.length fm.length hi-HT.sIx fm.length 0 lo)).toArray:=by
 obtain⟨h1,h2,h3⟩:=qE lo hi fm.toArray.size;unfold slicePick;rw[h1,h2,h3];simp only[sliceRange_one,pick_run,MU] <;> rfl
def F2(K:Fg):V->Option Int->Option Int->Hp->VK->Prop:=fun x lo hi H Q=>∃a xs,x=.ref a/\SqL K H a xs/\∀p,H p=none->Q (.ref p) (upd H p (.lst (gI xs lo hi)))
theorem yy:J7 X (F2 X.K):=by
 intro ξ s σ H x v vl vu lo hi sl Q I rx hs pl pu h;obtain⟨a,xs,rfl,hx,q⟩:=h;cases rx;obtain⟨fm,r,ht,hz⟩:=I.list hx;have hlen:=r.length;refine⟨"list",_,SW.lookup,ht.isList.typeIs,?_⟩;refine Tc ht.isList hs pl pu .none (by simp) ?_ (by rw[MU] <;> lia);rw[oR,<- hlen];refine⟨.ref s.heap.objs.size,_,I.laid (t':=s.toks) (o:=.lst (gI xs lo hi)) (fun b ob q=>Mt _ q) (MB _) ?_,rfl,q _ (I.hok.fresh (MB _))⟩;exact⟨Np (lC xs lo hi) hz,_,0,(r.drop (HT.sIx xs.length 0 lo)).take (HT.sIx xs.length xs.length hi-HT.sIx xs.length 0 lo),ML _ rfl⟩
theorem aE:gN X (.builtin "len") (fun xs H Q=>∃p ys,xs=[.ref p]/\(SqL X.K H p ys\/SqT X.K H p ys)/\Q (.int ys.length) H):=by
 intro ξ s σ H xs us Q I r h;obtain⟨p,ys,rfl,hq,q⟩:=h;obtain⟨u,rfl,rx⟩:=vals1 r;cases rx;have hn:=mL;rcases hq with hq|hq
 ·obtain⟨fm,r',pl,hz⟩:=I.list hq;have hlen:=r'.length;exact Calls.call_len_list pl.isList (by simp only[MU] <;> lia) ⟨.int ys.length,H,I.tok _,⟨s.toks+1,by rw[MU,hlen]⟩,q⟩
 ·obtain⟨fm,r',pl,hz⟩:=I.tuple hq;have hlen:=r'.length;exact len_tuple pl (by simp only[MU] <;> lia) ⟨.int ys.length,H,I.tok _,⟨s.toks+1,by rw[MU,hlen]⟩,q⟩
theorem sy:gN X (.builtin "len") (fun xs H Q=>∃z,xs=[.str z]/\z.length<=sizeLine/\Q (.int z.length) H):=by
 intro ξ s σ H xs us Q I r h;obtain⟨z,rfl,hz,q⟩:=h;obtain⟨u,rfl,t,rfl⟩:=vals1 r;have hn:=mL;exact len_str (by lia) ⟨.int z.length,H,I.tok _,⟨_,rfl⟩,q⟩
theorem dZ:gN X (.type "list") (fun xs H Q=>∃p ys,xs=[.ref p]/\(SqL X.K H p ys\/SqT X.K H p ys)/\∀l,H l=none->Q (.ref l) (upd H l (.lst ys))):=by
 intro ξ s σ H xs us Q I r h;obtain⟨p,ys,rfl,hq,q⟩:=h;obtain⟨u,rfl,rx⟩:=vals1 r;cases rx
 have fin:∀(fm:List Mu),Vals ys fm->ys.length<=sizeLine->∀(h':Heap) (c':Nat),(∀b o',s.heap.get? b=some o'->h'.get? b=some o') ->
   h'.get? s.heap.objs.size=some {cls:=.type "list",dict:=none,data:=.seq fm.toArray c',slots:=#[]}->EP X ξ σ Q (.ref s.heap.objs.size) {s with heap:=h'}:=fun fm r' hz h' c' kp e =>
  ⟨.ref s.heap.objs.size,_,I.laid (t':=s.toks) kp (MB _) (show bX X.prog X.w _ h' _ (.lst ys) from⟨hz,fm,c',r',e⟩),rfl,q _ (I.hok.fresh (MB _))⟩
 rcases hq with hq|hq
 ·obtain⟨fm,r',pl,hz⟩:=I.list hq;have hlen:=r'.length;obtain⟨o,ho,hc,n,hd⟩:=pl.isList;exact call_list_seq p (.inl rfl) ho hc hd (fun h' c' kp e=>fin fm r' hz h' c' kp e) (by simp only[MU] <;> lia)
 ·obtain⟨fm,r',pl,hz⟩:=I.tuple hq;have hlen:=r'.length;obtain⟨o,ho,hc,n,hd⟩:=pl;exact call_list_seq p (.inr rfl) ho hc hd (fun h' c' kp e=>fin fm r' hz h' c' kp e) (by simp only[MU] <;> lia)
theorem bx:gN X (.type "tuple") (fun xs H Q=>∃p ys,xs=[.ref p]/\((SqL X.K H p ys/\∀l,H l=none->Q (.ref l) (upd H l (.tup ys)))\/(SqT X.K H p ys/\Q (.ref p) H))):=by
 intro ξ s σ H xs us Q I r h;obtain⟨p,ys,rfl,h⟩:=h;obtain⟨u,rfl,rx⟩:=vals1 r;cases rx;rcases h with⟨hq,q⟩|⟨hq,q⟩
 ·obtain⟨fm,r',pl,hz⟩:=I.list hq;have hlen:=r'.length;refine call_tuple_list pl.isList (fun h' kp=>?_) (by simp only[MU] <;> lia);have I1:Inv X ξ σ H {s with heap:=h'}:=I.kept (t':=s.toks) kp
  have I2:Inv X ξ σ (upd H h'.objs.size (.tup ys)) {s with heap:=h'.push {cls:=.type "tuple",data:=.seq fm.toArray}} :=
   I1.laid (t':=s.toks) (fun b o e=>Mt _ e) (MB _) (show bX X.prog X.w _ _ _ (.tup ys) from⟨hz,fm,r',TupD.new _ _⟩)
  exact⟨.ref h'.objs.size,_,I2,rfl,q _ (I1.hok.fresh (MB _))⟩
 ·obtain⟨fm,r',pl,hz⟩:=I.tuple hq;exact call_tuple_same pl ⟨.ref p,H,I,rfl,q⟩
def D8(K:Fg)(T:String)(x:V)(H:Hp):Prop:=match x with
 |.str _=>T = "str"
 |.int _=>T = "int"
 |.ref p=>(T = "list"/\∃xs,SqL K H p xs)\/(T = "tuple"/\∃o,K.lookup p=some o/\o.cls=.type "tuple"/\o.dict=none) \/
   (T = "dict"/\((∃fx,H p=some (.dK fx))\/∃fx,H p=some (.dT fx)))\/(T = "set"/\∃S n,H p=some (.set S n))
 |_=>False
theorem D7{H:Hp}(I:Inv X ξ σ H s)(r:RelV x v)(ty:D8 X.K T x H) :
  s.TypeIs v T/\∀a,v=.ref a->∃ob,s.heap.get? a=some ob/\ob.dict=none:=by
 cases x with
 |str z =>
  obtain⟨t,rfl⟩:=r;cases (show T = "str" from ty);exact⟨Qk s z t,fun _ e=>nomatch e⟩
 |int i =>
  obtain⟨t,rfl⟩:=r;cases (show T = "int" from ty);exact⟨TZ s i t,fun _ e=>nomatch e⟩
 |ref p =>
  cases r;rcases ty with⟨rfl,xs,hq⟩|⟨rfl,o,hk,hc,hd⟩|⟨rfl,hk⟩|⟨rfl,S,n,hk⟩
  ·obtain⟨fm,_,pl,_⟩:=I.list hq;refine⟨pl.isList.typeIs,fun a e=>?_⟩;cases e;obtain⟨o,n,e,c,hd,_⟩:=pl;exact⟨o,e,hd⟩
  ·refine⟨⟨o,I.kIn p o hk,hc⟩,fun a e=>?_⟩;cases e;exact⟨o,I.kIn _ o hk,hd⟩
  ·have z:∃o,s.heap.get? p=some o/\o.ExactDict:=by
    rcases hk with⟨fx,hk⟩|⟨fx,hk⟩
    ·obtain⟨_,_,_,_,o,_,_,e,ex,_⟩:=I.hok p _ hk;exact⟨o,e,ex⟩
    ·obtain⟨_,_,_,_,o,_,_,e,ex,_⟩:=I.hok p _ hk;exact⟨o,e,ex⟩
   obtain⟨o,e,ex⟩:=z;refine⟨⟨o,e,ex.1⟩,fun a e2=>?_⟩;cases e2;exact⟨o,e,ex.2.1⟩
  ·obtain⟨o,_,_,_,e,ex,_⟩:=I.hok p _ hk;refine⟨⟨o,e,ex.1⟩,fun a e2=>?_⟩;cases e2;exact⟨o,e,ex.2.1⟩
 |_=>exact NZ ty
def BM(K:Fg)(T:String)(r:V->List V->Hp->VK->Prop)(to:TE):TE:=fun σ H Q=>to σ H fun x H1=>D8 K T x H1/\r x [] H1 Q
def j4(K:Fg)(T:String)(r:V->List V->Hp->VK->Prop)(to:TE)(t:TA):TE:=fun σ H Q=>to σ H fun x H1=>D8 K T x H1/\t σ H1 fun xs H2=>r x xs H2 Q
variable{o e:Expr}{es:List Expr}{to:TE}{t:TA}{name:Str}{apos XH:Pos}{T id:String}{r:V->List V->Hp->VK->Prop}
theorem Et(pa:PlainAttrs T) (slot:Slot T name id) (hty:typeOf (.builtin id)=pure (.type "method_descriptor")) (hm:Bv X id r) (ho:PE X o to)
  (hbase:attributeBase o name X.env (eval o X.env)=eval o X.env:=by rfl) (hline:(apos.endLine == XH.line)=true:=by rfl):PE X (.Call (.Attribute o name apos) [] [] XH) (BM X.K T r to):=by
 intro ξ s σ H Q I h;refine wpAny_Call_method0_late hbase hline (bj (ho ξ s σ H _ I h) fun v s1 ⟨x,H1,I1,r1,ty,q1⟩=>?_);obtain⟨h1,h2⟩:=D7 I1 r1 ty;exact⟨T,id,pa,slot,hty,h1,h2,Pj rfl (PySem.evalArgs_none (hm ξ s1 σ H1 x [] v [] Q I1 r1 .nil q1))⟩
theorem cb(pa:PlainAttrs T) (slot:Slot T name id) (hty:typeOf (.builtin id)=pure (.type "method_descriptor")) (hm:Bv X id r) (ho:PE X o to) (ha:PA X (e :: es) t)
  (hbase:attributeBase o name X.env (eval o X.env)=eval o X.env:=by rfl)
  (hfew:((backTo XH (starEach (e :: es) X.env)).all (fun x=>!x.1) && (backToKw XH (keywordEach [] X.env)).all (fun x=>x.1.isSome)
   && decide ((e :: es).length+([]:List Vn).length+(if ([]:List Vn).isEmpty then 0 else 1)<30))=true:=by rfl)
  (hline:(apos.endLine == XH.line)=true:=by rfl) (hs:starEach (e :: es) X.env=(false,eval e X.env) :: starEach es X.env:=by rfl) (Y3:(backTo XH (starEach es X.env)).any (·.1)=false:=by rfl) :
  PE X (.Call (.Attribute o name apos) (e :: es) [] XH) (j4 X.K T r to t):=by
 intro ξ s σ H Q I h;refine T0 hbase hfew hline rfl (bj (ho ξ s σ H _ I h) fun v s1 ⟨x,H1,I1,r1,ty,q1⟩=>?_);obtain⟨h1,h2⟩:=D7 I1 r1 ty;refine⟨T,id,pa,slot,hty,h1,h2,?_⟩;have hA:=ha XH ξ s1 σ H1 _ I1 q1;rw[hs] at hA ⊢;refine Pj (by show(false || (backTo XH (starEach es X.env)).any (·.1))=false;rw[Y3] <;> rfl) (PQ ?_);exact bj hA fun us s2 ⟨vs,H2,I2,r2,q2⟩=>hm ξ s2 σ H2 x vs v us Q I2 r1 r2 q2
end
def Mm(X:Cx)(id:String)(r:V->List V->Hp->VK->Prop):Prop :=
 ∀(ξ:List (Addr×Obj)) (s:MA) (σ:St) (H:Hp) (x:V) (xs:List V) (v:Mu) (us:List Mu) (Q:VK),Inv X ξ σ H s->RelV x v->Vals xs us->r x xs H Q ->
  wpAny (model X.prog X.w) X.A (call (.builtin id) (v :: us)) (EP X ξ σ Q) X.xe s
theorem Vals.one:∀{x:V} {us:List Mu},Vals [x] us->∃u,us=[u]/\RelV x u
 |_,_,.cons r .nil=>⟨_,rfl,r⟩
theorem Vals.zero:∀{us:List Mu},Vals [] us->us=[]
 |_,.nil=>rfl
theorem Vals.dropLast(h:Vals xs us):Vals xs.dropLast us.dropLast:=by
 induction h with
 |nil=>exact .nil
 |cons r t ih =>
  cases t with
  |nil=>exact .nil
  |cons q t'=>exact .cons r ih
theorem xc{α:Type}(l:List α):l.eraseIdx (l.length-1)=l.dropLast:=by
 induction l with
 |nil=>rfl
 |cons a r ih =>
  cases r with
  |nil=>rfl
  |cons b r =>
   have e:(a :: b :: r).length-1=((b :: r).length-1)+1:=by
    have h1:(a :: b :: r).length=r.length+2:=rfl;have h2:(b :: r).length=r.length+1:=rfl;lia
   rw[e,List.eraseIdx_cons_succ,ih]
   all_goals rfl
section
variable{X:Cx}{ξ:List (Addr×Obj)}{σ:St}{H:Hp}{s:MA}{l b:Addr}{xs ys zs:List V}
theorem Inv.lset{fm its':List Mu}{f:Array Mu->Array Mu}{t':Nat}(I:Inv X ξ σ H s)(hH:H l=some (.lst xs))
  (e:s.heap.get? l=some {cls:=.type "list",data:=.seq fm.toArray n}) (hf:f fm.toArray=its'.toArray) (hv:Vals ys its') (hz:ys.length<=sizeLine) :
  Inv X ξ σ (upd H l (.lst ys)) {s with heap:=s.heap.update l (Oo f),toks:=t'}:=by
 have q:=PySem.IsL.update e f;rw[hf] at q;refine I.write (x:=l) (e:=l) (by rw[hH];exact trivial) (.inl rfl) (fun b' u hb hu=>(Nt s.heap (Oo f) (N1 hb)).trans hu) ⟨_,q⟩ ?_;exact⟨hz,its',_,hv,q⟩
theorem Inv.lnew{t':Nat}(I:Inv X ξ σ H s)(hv:Vals ys fm)(hz:ys.length<=sizeLine) :
  Inv X ξ σ (upd H s.heap.objs.size (.lst ys)) {s with heap:=s.heap.push {cls:=.type "list",data:=.seq fm.toArray},toks:=t'} :=
 I.laid (fun _ _ q=>Mt _ q) (MB _) ⟨hz,fm,0,hv,ML _ rfl⟩
theorem Inv.fresh(I:Inv X ξ σ H s):H s.heap.objs.size=none:=I.hok.fresh (MB _)
theorem Inv.lstM(I:Inv X ξ σ H s) (hH:H l=some (.lst xs)):xs.length<=sizeLine/\∃(fm:List Mu) (n:Nat),Vals xs fm/\xs.length=fm.length/\s.heap.get? l=some {cls:=.type "list",data:=.seq fm.toArray n}:=by
 obtain⟨z,fm,n,r,e⟩:=I.hok l _ hH;exact⟨z,fm,n,r,r.length,e⟩
end
section
variable{X:Cx}
def cE:V->List V->Hp->VK->Prop:=fun x vs H Q=>∃l xs y,x=.ref l/\vs=[y]/\H l=some (.lst xs)/\xs.length<sizeLine/\Q .non (upd H l (.lst (xs++[y])))
theorem aT:Mm X "list.append" cE:=by
 intro ξ s σ H x vs v us Q I rx rv h;obtain⟨l,xs,y,rfl,rfl,hH,hz,q⟩:=h;cases rx;obtain⟨u,rfl,ru⟩:=rv.one;obtain⟨z,fm,n,r,hl,e⟩:=I.lstM hH;refine Pf F.slot_list_append ⟨_,e,rfl⟩ F.entry_list_append (F.args_list_append_2 _ _) (PySem.list_append l fm.toArray n u (by rw[MU];lia)) ⟨e,?_⟩;refine⟨.non,_,I.lset (its':=fm++[u]) hH e (by simp) (r.append (.cons ru .nil)) ?_,rfl,q⟩;rw[M3,OW];lia
def F5:V->List V->Hp->VK->Prop:=fun x vs H Q=>∃l xs y,x=.ref l/\vs=[]/\H l=some (.lst xs)/\xs[xs.length-1]?=some y/\Q y (upd H l (.lst xs.dropLast))
theorem Ez:Mm X "list.pop" F5:=by
 intro ξ s σ H x vs v us Q I rx rv h;obtain⟨l,xs,y,rfl,rfl,hH,hy,q⟩:=h;cases rx;have hus:=rv.zero;subst hus;obtain⟨z,fm,n,r,hl,e⟩:=I.lstM hH;obtain⟨u,hu,ru⟩:=r.get hy
 have hy':fm.toArray[fm.toArray.size-1]?=some u:=by
  show fm.toArray[fm.length-1]?=some u;rw[<- NM,<- hl];exact hu
 refine Pf F.slot_list_pop ⟨_,e,rfl⟩ F.entry_list_pop (F.args_list_pop_1 _) (MeetsSeq.list_pop_last l fm.toArray n u hy' (by rw[MU];lia)) ⟨e,?_⟩;refine⟨y,_,I.lset (its':=fm.dropLast) hH e ?_ r.dropLast ?_,ru,q⟩
 ·show fm.toArray.eraseIdxIfInBounds (fm.toArray.size-1)=fm.dropLast.toArray;rw[MU,List.eraseIdxIfInBounds_toArray,xc]
 ·rw[List.length_dropLast];lia
def Iu:R2:=fun x y H Q=>∃l b xs zs,x=.ref l/\y=.ref b/\H l=some (.lst xs)/\H b=some (.lst zs)/\xs.length+zs.length<=sizeLine/\∀p,H p=none->Q (.ref p) (upd H p (.lst (xs++zs)))
theorem ID:ft X (binaryOp .Add) Iu:=by
 intro ξ s σ H x y v u Q I rx ry h;obtain⟨l,b,xs,zs,rfl,rfl,hH,hB,hz,q⟩:=h;cases rx;cases ry;obtain⟨z,fm,n,r,hl,e⟩:=I.lstM hH;obtain⟨z2,Zu,n2,r2,Zz,e2⟩:=I.lstM hB;refine PySem.P.add_list e e2 ?_ (by rw[MU,MU];lia);have ea:fm.toArray++Zu.toArray=(fm++Zu).toArray:=by simp
 rw[ea];exact⟨.ref _,_,I.lnew (t':=s.toks) (r.append r2) (by rw[M3];lia),rfl,q _ I.fresh⟩
end
end L2
namespace Att
open PySem PySem.W PySem.Calls PyProof.Rows
theorem k7:∀(ns:List Int) (vs:List Mu),WellAll P h vs (ns.map WData.int)->Xf vs ns:=by
 intro ns
 induction ns with
 |nil =>
  intro vs w;rw[Se] at w;cases w;exact .nil
 |cons n ns ih =>
  intro vs w;rw[Nm] at w;cases w with
  |cons a b =>
   cases a;exact .cons _ _ (ih _ b)
theorem yH{l:OpenLaw}{n:Nat}(hn:l.most=some n)
  (hpre:l.row.toRowW.claim.pre args=true) (hwl:WellAll P h vals args) :
  ∃a vs ns,vals=[MX a]/\args=[WData.list (ns.map WData.int)]/\h.get? a=some {cls:=.type "list",data:=.seq vs.toArray}/\Xf vs ns/\ns.length<=n:=by
 have hsh:WShape.hasAll [] args [.list .int]=true:=(pre_splitW hpre).1;have hc:l.pre.holds [] {args:=args}=true:=(pre_splitW hpre).2;obtain⟨d,r,rfl,h1,h2⟩:=hasAllW_cons hsh;obtain rfl:=hasAllW_nil h2;obtain⟨xs,rfl,h3⟩:=hasW_list h1;obtain⟨ns,rfl⟩:=items_int h3
 have hlen:ns.length<=n:=by
  unfold OpenLaw.pre at hc
  have h4:(WTm.not (.lt (.lit (.int (n:Int))) (.len (.arg 0)))).holds [] {args:=[.list (ns.map .int)]}=true:=by
   have h4:=(holds_andW hc).1;rw[hn] at h4;exact h4
  have h5:=condW_of h4 (w_not (w_lt w_lit (w_len_list (w_arg rfl))));rw[Mv] at h5;refine Nat.le_of_not_lt fun q=>?_
  have q':(n:Int)<((ns.length:Nat):Int):=by lia
  first
   |(rw[decide_eq_true q'] at h5;exact absurd h5 (by decide))
   |(simp at h5;omega)
 cases hwl with
 |cons w1 w2 =>
  cases w2;cases w1 with
  |list ho Yz=>exact⟨_,_,ns,rfl,rfl,ho,k7 ns _ Yz,hlen⟩
theorem zl(l:OpenLaw)(args:List WData):l.row.toRowW.claim.post args (.bool true) args=true :=
 postW_of (r:=l.row.toRowW) (X:=(true == true))
  (show WShape.has [] (.bool true) .bool=true by first|rfl|decide|simp[WShape.has,WShape.arms,WShape.armsAll])
  (show(WTm.eq .res (.lit (.bool true))).value [] {args:=args,res:=some (.bool true),after:=args}=some (.bool (true == true)) from w_eq_bool (w_res rfl) w_lit) rfl
theorem uW{l:OpenLaw}{n:Nat}{XP:(Str->Option Mu)->Heap->Prop}{YP:M4->Heap->Prop}{d:DefRec}
  (hn:l.most=some n) (hdf:d.params.defaults=[])
  (call:∀(w:M4) (s₀ s₁:MA) (mg mb:Str->Option Mu) (fa:Addr) (o:Obj) (pm cd doc:Mu) (a:Addr) (vs:List Mu) (ns:List Int),
   Ground q loose [] XP w s₀ mg mb s₁.heap->YP w s₁.heap ->
   s₁.heap.get? fa=some o->o.data=.func (docDef d.name d.params d.body d.scope pm cd doc)->s₁.heap.CodeRec cd d.name->mg d.name=some (.ref fa) ->
   s₁.heap.get? a=some {cls:=.type "list",data:=.seq vs.toArray}->Xf vs ns->ns.length<=n->s₁.gens = #[] ->
   codeAny (model l.prog w) callerA (.call (.ref fa) ⟨[.ref a],[]⟩) (fun r s'=>r=.ok (.ret (.bool true))/\OldK s₁.heap s'.heap/\s'.os=s₁.os/\RO s'.gens) s₁) :
  WalkO q loose XP YP l.row.toRowW d [] (fun f vs=>VT f vs):=by
 intro w s₀ s₁ mg mb G Y fa o pm cd doc dV kV ho hd hcd hD hmg hg args vals as hpre hlay hrd hwl hlo;obtain rfl:dV=.none:=Dflts.none hD hdf;obtain rfl:kV=.none:=Dflts.noKw hD;obtain⟨a,vs,ns,rfl,rfl,hobj,hints,hlen⟩:=yH hn hpre hwl;refine enter_call (PN (call w s₀ s₁ mg mb fa o pm cd doc a vs ns G Y ho (fd_plain hd) hcd hmg hobj hints hlen hg) fun r s' hq=>?_);obtain⟨rfl,h2,h3,h4⟩:=hq;exact⟨.inl ⟨.bool true,.bool true,[],rfl,fun _=>rfl,.bool true,zl l _,fun _=>⟨Wl,fun _ hm=>(nomatch hm)⟩⟩,h2,h3,h4⟩
end Att
namespace L2
open PySem PySem.Spec PyProof.Rows
theorem qo:∀{vs:List Mu} {ns:List Int},Xf vs ns->Vals (ns.map V.int) vs
 |_,_,.nil=>.nil
 |_,_,.cons n t h=>.cons ⟨t,rfl⟩ (qo h)
def HE(H:Hp):Prop:=∀b,H b=none\/∃o xs,H b=some (.frz o (.lst xs))
theorem C0{K:Fg}{CX:jF}{a:Addr}{x:Str}{sp:Sp}{s₁:MA}{vs:List Mu}
  (KX:K.In s₁.heap) (ZB:s₁.heap.Ns mainGlobals mg) (hb:s₁.heap.Ns builtinsNs mb) (hbb:∀x:Str,x≠"__name__"->mb x=bootBuiltins x) (hlim:s₁.heap.NoLimit) (hg:s₁.gens = #[])
  (ha:s₁.heap.get? a=some {cls:=.type "list",data:=.seq vs.toArray}) (hi:Xf vs ns) (hl:ns.length<=sizeLine) (hr:Room k callerA)
  (F:∀base:Heap,K.In base->base.Ns mainGlobals mg->FnOk P w K mg base CX k fa fd [x] sp) (hbind:∀(s:MA) (u:Mu),Wi s fd ⟨[u],[]⟩ [(x,u)])
  (hsp:∀H:Hp,HE H->SqL K H a (ns.map V.int)->sp [.ref a] H (fun v _=>v=.bl true) fun _ _ _=>False)
  (hCX:∀H e s',CX [] H s₁ (fun _ _ _=>False) e s'->False) :
  codeAny (model P w) callerA (.call (.ref fa) ⟨[.ref a],[]⟩) (fun r s'=>r=.ok (.ret (.bool true))/\OldK s₁.heap s'.heap/\s'.os=s₁.os/\RO s'.gens) s₁:=by
 have rv:=qo hi;have lenV:=hi.length
 have core:∀H:Hp,HE H->SqL K H a (ns.map V.int)->HOk P w H s₁.heap->(∀b,H b≠none->b=a)->(H a≠none->K.lookup a=none) ->
   codeAny (model P w) callerA (.call (.ref fa) ⟨[.ref a],[]⟩) (fun r s'=>r=.ok (.ret (.bool true))/\OldK s₁.heap s'.heap/\s'.os=s₁.os/\RO s'.gens) s₁:=by
  intro H hO hS hok hA hK;have Y7:∀{b:Addr} {o:Obj},s₁.heap.get? b=some o->H b=none->(pU s₁.heap H).get? b=some o:=fun e n=>Dm e n
  have noA:∀{b:Addr} {o:Obj} {es:Array Tt} {ep:Nat},s₁.heap.get? b=some o->o.data=.dict es ep->H b=none:=fun {b o es ep} e d=>by
   cases q:H b with
   |none=>rfl
   |some u =>
    have e':b=a:=hA b (by rw[q];simp);subst e';rw[ha] at e;cases e;have d':Wm vs.toArray _=Data.dict es ep:=d;cases d'
  have nsK:∀{b:Addr} {m:Str->Option Mu},s₁.heap.Ns b m->(pU s₁.heap H).Ns b m:=fun {b m} ⟨o,es,ep,e,d,r⟩=>⟨o,es,ep,Y7 e (noA e d),d,r⟩
  have hKb:K.In (pU s₁.heap H):=fun b o e=>Y7 (KX b o e) (by
   cases q:H b with
   |none=>rfl
   |some u =>
    have e':b=a:=hA b (by rw[q];simp)
    subst e'
    rw[hK (by rw[q];simp)] at e;cases e)
  have hM:Mod K mg (pU s₁.heap H):=⟨hKb,nsK ZB,⟨mb,nsK hb,hbb⟩,let ⟨mc,h1,h2⟩:=hlim;⟨mc,nsK h1,h2⟩⟩
  have e0:Env0 P w K mg (pU s₁.heap H) callerA [] s₁ H:=⟨rfl,hM,fun b o e=>GD e,Nat.le_of_eq (AB _ _),trivial,fun b hb=>absurd (show b∈([]:List Addr) from hb) (by simp),hok,.of_eq hg⟩
  refine PN ((F _ hKb (nsK ZB)).run callerA [] s₁ H ⟨[.ref a],[]⟩ [.ref a] [.ref a] _ _ hr e0 (hbind s₁ (.ref a)) (.cons rfl .nil) (hsp H hO hS)) fun r s' h=>?_
  cases r with
  |error e=>exact(hCX H e s' h).elim
  |ok fl =>
   cases fl with
   |next=>exact NZ h
   |brk=>exact NZ h
   |cont=>exact NZ h
   |ret u =>
    obtain⟨v,H',os,bare,un,hok',r',q⟩:=h;have q':v=.bl true:=q;subst q';obtain rfl:u=So true:=r';refine⟨rfl,OldK.of_keep fun b o e=>?_,os,bare⟩;cases q:H b with
    |none=>exact un.keep b o e q (by intro z;exact absurd (show b∈([]:List Addr) from z) (by simp)) (by simp)
    |some u =>
     rcases hO b with z|⟨ob,xs,z⟩
     ·rw[q] at z;cases z
     ·have z2:=un.frzs b ob _ z;obtain⟨e1,_⟩:=hok b _ z;obtain⟨e2,_⟩:=hok' b _ z2;rw[e] at e1;cases e1;exact e2
 cases hk:K.lookup a with
 |some o =>
  have e:=KX a o hk;rw[ha] at e;cases e;refine core (fun _=>none) (fun _=>.inl rfl) (.inr ⟨_,vs.toArray,_,hk,rfl,rfl,rfl,by rw[MU,lenV];exact hl,by simpa using rv⟩) (fun b u z=>by have z':(none:Option HO)=some u:=z;cases z') (fun b z=>absurd rfl z) fun z=>absurd rfl z
 |none =>
  refine core (fun b=>if b=a then some (.frz {cls:=.type "list",data:=.seq vs.toArray} (.lst (ns.map V.int))) else none) (fun b=>?_) (.inl (.inr ⟨{cls:=.type "list",data:=.seq vs.toArray},if_pos rfl⟩)) (fun b u z=>?_) (fun b z=>?_) fun _=>hk
  ·by_cases hb:b=a
   ·exact .inr ⟨_,_,if_pos hb⟩
   ·exact .inl (if_neg hb)
  ·by_cases hb:b=a
   ·have z':=(if_pos hb).symm.trans z;cases z';subst hb;exact⟨ha,by rw[Mv];exact hl,vs,_,rv,ha⟩
   ·have z':=(if_neg hb).symm.trans z;cases z'
  ·by_cases hb:b=a
   ·exact hb
   ·exact absurd (if_neg hb) z
theorem E4{l:Xa}{n:Nat}{XP:(Str->Option Mu)->Heap->Prop}{YP:M4->Heap->Prop}{d:DefRec}{K:Params->V9}{CX:M4->jF}{sp:M4->Sp}{x:Str}
  (hn:l.most=some n) (hn2:n<=sizeLine) (hdf:d.params.defaults=[]) (hr:Room k callerA)
  (hY:∀(w:M4) (h:Heap),YP w h->(K w.params).In h)
  (F:∀(w:M4) (mg:Str->Option Mu) (fa:Addr) (h:Heap),(K w.params).In h->h.Ns mainGlobals mg->mg d.name=some (.ref fa) ->
   ∃fd:Ph,(∀(s:MA) (u:Mu),Wi s fd ⟨[u],[]⟩ [(x,u)]) /\
    ∀base:Heap,(K w.params).In base->base.Ns mainGlobals mg->FnOk l.prog w (K w.params) mg base (CX w) k fa fd [x] (sp w))
  (hsp:∀(w:M4) (H:Hp) (a:Addr) (ns:List Int),ns.length<=n->HE H->SqL (K w.params) H a (ns.map V.int)->sp w [.ref a] H (fun v _=>v=.bl true) fun _ _ _=>False)
  (hCX:∀(w:M4) (H:Hp) (s:MA) (e:Mu) (s':MA),CX w [] H s (fun _ _ _=>False) e s'->False) :
  VD q loose XP YP l.row.toRowW d [] (fun f vs=>VT f vs):=by
 refine Att.uW hn hdf fun w s₀ s₁ mg mb fa o pm cd doc a vs ns G Y ho hd hcd hmg hobj hints hlen hg=>?_
 have KX:=hY w _ Y;obtain⟨fd,hb,hF⟩:=F w mg fa _ KX G.T.g hmg;exact C0 KX G.T.g G.T.b G.T.builtins G.T.nolimit hg hobj hints (Np hlen hn2) hr hF hb (fun H hO hS=>hsp w H a ns hlen hO hS) fun H e s'=>hCX w H s₁ e s'
def cK(s:Stmt):Arguments:=match s with
 |.FunctionDef _ a _ _ _ _ _ _ _ _=>a
 |_=>{posonlyargs:=[],args:=[],vararg:=none,kwonlyargs:=[],kw_defaults:=[],kwarg:=none,defaults:=[]}
def bM(s:Stmt):List Stmt:=match s with
 |.FunctionDef _ _ b _ _ _ _ _ _ _=>b
 |_=>[]
def ah(s:Stmt):Scope:=match s with
 |.FunctionDef _ _ _ _ _ _ sc _ _ _=>sc
 |_=>{kind:=.function,names:=[],isGenerator:=false,isCoroutine:=false}
abbrev b_:jF:=fun _ _ _ _ _ _=>False
abbrev E0:XK:=fun _ _ _=>False
theorem kx:db b_ X E0:=fun _ _ _ _ _ _ _ h=>h.elim
structure Fun (K:Fg) (x qual:Str) (st:Stmt) (f:Addr) (fd:Ph):Prop where
 ex:∃(oc:Mu) (od:Option Addr) (kV doc pm:Mu) (an:Option Addr) (gV ct:Mu) (Zj:Array (Option Mu)),
  fd=Ob x qual (cK st) (bM st) (ah st) .none kV doc pm an gV ct/\K.lookup f=some ⟨oc,od,.func fd,Zj⟩/\O_ K gV qual=true
 kp:NU K (.ref f)=true
section
variable{P:MP}{w:M4}{K:Fg}{mg:Str->Option Mu}{base:Heap}
theorem Fun.ok{st:Stmt}{sp:Sp}(F:Fun K x qual st f fd)(S:aF N ps (ah st))(len:∀vs H Q E,sp vs H Q E->vs.length=ps.length)
  (hbody:∀(gV:Mu) (A:No) (outer:List Env) (s:MA) (H:Hp) (vs:List V) (Q:VK) (E:XK),Room k (A.deeper (envOfC qual (ah st) s.heap.objs.size f gV))->sp vs H Q E ->
   ∃t,PSs (cS b_ P w K mg base N qual (ah st) f gV A outer s H E).nox (bM st) t/\t {nx:=fun _ H'=>Q .non H',rt:=Q} (start N vs) H):FnOk P w K mg base b_ (k+1) f fd ps sp:=by
 obtain⟨oc,od,kV,doc,pm,an,gV,ct,Zj,rfl,lk,hcd⟩:=F.ex;refine Hc lk hcd S len fun A outer s H vs Q E hr hsp=>?_
 obtain⟨t,h,q⟩:=hbody gV A outer s H vs Q E hr hsp;exact⟨t,h.nox,q⟩
theorem Fun.binds{st:Stmt}{ps:List Str}(F:Fun K x qual st f fd)
  (h:∀(kV doc pm:Mu) (an:Option Addr) (gV ct:Mu) (us:List Mu),us.length=ps.length->bindArgs (Ob x qual (cK st) (bM st) (ah st) .none kV doc pm an gV ct) ⟨us,[]⟩=pure (ps.zip us)):Binds K fd ps []:=by
 obtain⟨oc,od,kV,doc,pm,an,gV,ct,Zj,rfl,lk,hcd⟩:=F.ex;exact .all (h kV doc pm an gV ct)
theorem mT{st:Stmt}{oc:Mu}{od:Option Addr}{Zj:Array (Option Mu)}{kV:Mu}(l:K.lookup f=some ⟨oc,od,.func (Ob x qual (cK st) (bM st) (ah st) .none kV doc pm an gV ct),Zj⟩)
  (c:O_ K gV qual=true) (k:NU K (.ref f)=true):Fun K x qual st f (Ob x qual (cK st) (bM st) (ah st) .none kV doc pm an gV ct):=⟨⟨oc,od,kV,doc,pm,an,gV,ct,Zj,rfl,l,c⟩,k⟩
end
theorem aX{n:Nat}(h:n<=1000):n<sizeLine:=Nk h (by decide)
section
variable{X:Cx}
theorem pv(i:Nat) {x:Str} {pos:Pos} (hN:X.N[i]?=some x:=by rfl) (hv:Kt X.env.scope x:=by first|exact Or.inl rfl|exact Or.inr (Or.inl rfl)|exact Or.inr (Or.inr rfl)) (hd:(x == ("__debug__":Str))=false:=by decide)
  (hcd:(x == ("__classdict__":Str))=false:=by decide):PE X (.Name x pos) (ac i):=Ep hN hv hd hcd
end
theorem uP{A B:Prop}(h:B):if false=true then A else B:=by
 rw[if_neg M_];exact h
theorem uO{A B:Prop}(h:A):if true=true then A else B:=by
 rw[if_pos rfl];exact h
def Same(H H':Hp):Prop:=∀b o,H b=some o->H' b=some o
theorem Same.refl(H:Hp):Same H H:=fun _ _ h=>h
theorem Same.trans(a:Same H H1)(b:Same H1 H2):Same H H2:=fun c o h=>b c o (a c o h)
theorem Same.free(e:Same H H')(h:H' l=Option.none):H l=Option.none:=by
 cases q:H l with
 |none=>rfl
 |some o =>
  rw[e l o q] at h;cases h
theorem Same.seq{K:Fg}(e:Same H H')(h:SqL K H a xs):SqL K H' a xs:=by
 rcases h with(h|⟨o,h⟩)|h
 ·exact .inl (.inl (e _ _ h))
 ·exact .inl (.inr ⟨o,e _ _ h⟩)
 ·exact .inr h
section
variable{κ:Type}[DecidableEq κ]
def cq(fx:List (κ×V))(k:κ):Option V:=(fx.find? fun kv=>decide (kv.1=k)).map (·.2)
def dm(fx:List (κ×V))(k:κ)(v:V):List (κ×V) :=
 if (fx.any fun kv=>decide (kv.1=k))=true then fx.map (fun kv=>if kv.1=k then (kv.1,v) else kv) else fx++[(k,v)]
theorem cA{p:κ×V}{r:List (κ×V)}{k:κ}(e:p.1=k):cq (p :: r) k=some p.2:=by simp[cq,Qs,e]
theorem cB{p:κ×V}{r:List (κ×V)}{k:κ}(e : ¬ p.1=k):cq (p :: r) k=cq r k:=by simp[cq,Qs,e]
theorem jG(k:κ):∀fx:List (κ×V),(fx.any fun kv=>decide (kv.1=k))=(cq fx k).isSome
 |[]=>rfl
 |p :: r=>by
  rw[Td];by_cases e:p.1=k
  ·simp only[cA e,decide_eq_true e,Bool.true_or,Option.isSome_some]
  ·rw[cB e,decide_eq_false e,Bool.false_or];exact jG k r
theorem vm(k j:κ)(y:V):∀fx:List (κ×V),cq (fx.map fun kv=>if kv.1=k then (kv.1,y) else kv) j=(cq fx j).map fun x=>if j=k then y else x
 |[]=>rfl
 |p :: r=>by
  have ih:=vm k j y r;rw[Nm];by_cases h:p.1=k
  ·rw[if_pos h];by_cases e:p.1=j
   ·rw[cA (p:=(p.1,y)) e,cA e,RY,if_pos (e.symm.trans h)]
   ·rw[cB (p:=(p.1,y)) e,cB e,ih]
  ·rw[if_neg h];by_cases e:p.1=j
   ·rw[cA (p:=p) e,cA e,RY,if_neg (fun z=>h (e.trans z))]
   ·rw[cB (p:=p) e,cB e,ih]
theorem qp(k j:κ)(y:V):∀fx:List (κ×V),cq fx k=none->cq (fx++[(k,y)]) j=if j=k then some y else cq fx j
 |[],_=>by
  by_cases e:k=j
  ·rw[if_pos e.symm];exact cA (p:=(k,y)) e
  ·rw[if_neg (fun z=>e z.symm)];exact cB (p:=(k,y)) e
 |p :: r,hn=>by
  rw[To];have hk : ¬ p.1=k:=fun z=>by rw[cA z] at hn;cases hn
  rw[cB hk] at hn;have ih:=qp k j y r hn;by_cases e:p.1=j
  ·rw[cA e,cA e,if_neg (fun z=>hk (e.trans z))]
  ·rw[cB e,cB e,ih]
theorem nN(fx:List (κ×V))(k j:κ)(y:V):cq (dm fx k y) j=if j=k then some y else cq fx j:=by
 unfold dm;by_cases a:(fx.any fun kv=>decide (kv.1=k))=true
 ·rw[if_pos a,vm];rw[jG] at a;by_cases e:j=k
  ·obtain⟨x,hx⟩:=S_.mp a;rw[if_pos e,e,hx,RY,if_pos rfl]
  ·rw[if_neg e];cases cq fx j with
   |none=>rfl
   |some x=>rw[RY,if_neg e]
 ·rw[if_neg a];refine qp k j y fx ?_;rw[jG] at a;cases q:cq fx k with
  |none=>rfl
  |some x=>rw[q] at a;exact(a rfl).elim
theorem gF(fx:List (κ×V))(k:κ)(v:V):(dm fx k v).length<=fx.length+1:=by
 unfold dm;split
 ·rw[Mv];lia
 ·rw[M3,Nl,Qt];lia
theorem RelO.As(r:RelO o u):o.isSome=u.isSome:=by
 cases o with
 |none=>cases u with
  |none=>rfl
  |some _=>exact(show False from r).elim
 |some _=>cases u with
  |none=>exact(show False from r).elim
  |some _=>rfl
theorem RelO.getD(r:RelO o u)(rd:RelV d d'):RelV (o.getD d) (u.getD d'):=by
 cases o with
 |none=>cases u with
  |none=>exact rd
  |some _=>exact(show False from r).elim
 |some _=>cases u with
  |none=>exact(show False from r).elim
  |some _=>exact r
theorem KV.val{fx:List (κ×V)}{vs:List (κ×Mu)}(r:KV fx vs)(k:κ):RelO (cq fx k) (valueAt vs k):=by
 unfold KV at r
 induction r with
 |nil=>exact O1
 |@cons p q ps qs h t ih =>
  obtain⟨h1,h2⟩:=h;by_cases e:p.1=k
  ·have e':q.1=k:=h1.symm.trans e;have b:valueAt (q :: qs) k=some q.2:=by simp[valueAt,Qs,e']
   rw[cA e,b];exact h2
  ·have e' : ¬ q.1=k:=fun z=>e (h1.trans z)
   have b:valueAt (q :: qs) k=valueAt qs k:=by simp[valueAt,Qs,e']
   rw[cB e,b];exact ih
theorem KV.any{fx:List (κ×V)}{vs:List (κ×Mu)}(r:KV fx vs)(k:κ):(fx.any fun kv=>decide (kv.1=k))=vs.any fun kv=>decide (kv.1=k):=by
 unfold KV at r
 induction r with
 |nil=>rfl
 |cons h t ih=>rw[Td,Td,ih,h.1]
theorem KV.repl{fx:List (κ×V)}{vs:List (κ×Mu)}(r:KV fx vs)(k:κ)(ry:RelV y u) :
  KV (fx.map fun kv=>if kv.1=k then (kv.1,y) else kv) (vs.map fun kv=>if kv.1=k then (kv.1,u) else kv):=by
 unfold KV at r ⊢
 induction r with
 |nil=>exact .nil
 |@cons p q ps qs h t ih =>
  rw[Nm,Nm];refine .cons ?_ ih;obtain⟨h1,h2⟩:=h;by_cases e:p.1=k
  ·rw[if_pos e,if_pos (h1.symm.trans e)];exact⟨h1,ry⟩
  ·rw[if_neg e,if_neg (fun z=>e (h1.trans z))];exact⟨h1,h2⟩
theorem KV.put{fx:List (κ×V)}{vs:List (κ×Mu)}(r:KV fx vs)(k:κ)(ry:RelV y u):KV (dm fx k y) (stored vs k u):=by
 unfold dm stored;rw[r.any k];by_cases e:(vs.any fun kv=>decide (kv.1=k))=true
 ·rw[if_pos e,if_pos e];exact r.repl k ry
 ·rw[if_neg e,if_neg e];exact Paired.snoc r ⟨rfl,ry⟩
theorem KV.length{fx:List (κ×V)}{vs:List (κ×Mu)}(r:KV fx vs):fx.length=vs.length:=Pm r
end
theorem Dc(r:RelV (kV k) u):(b9 P w).is k u=true:=by
 cases k with
 |inl i=>obtain⟨t,e⟩:=(show ∃t,u=Ts i t from r);subst e;exact uG P w i t
 |inr x=>obtain⟨t,e⟩:=(show ∃t,u=Sj x t from r);subst e;exact cw P w x t
theorem r_{P:MP}{w:M4}:∀{ks:List Key} {us:List Mu},Vals (ks.map kV) us->ItemsAre (b9 P w) ks us
 |[],_,r=>by rw[Se] at r;cases r;exact .nil
 |k :: ks,_,r=>by
  rw[Nm] at r;cases r with
  |cons h t=>exact .cons (Dc h) (r_ t)
abbrev KT(H:Hp):List (List Key×V)->List (List Key×Addr×Mu)->Prop:=Paired fun p q=>p.1=q.1/\H q.2.1=some (.tup (p.1.map kV))/\RelV p.2 q.2.2
theorem KT.val(r:KT H fx xs)(k:List Key):RelO (cq fx k) ((atKey xs k).map (·.2)):=by
 induction r with
 |nil=>exact O1
 |@cons p q ps qs h t ih =>
  obtain⟨h1,_,h2⟩:=h;by_cases e:p.1=k
  ·have e':q.1=k:=h1.symm.trans e;have b:atKey (q :: qs) k=some q.2:=by simp[atKey,Qs,e']
   rw[cA e,b];exact h2
  ·have e' : ¬ q.1=k:=fun z=>e (h1.trans z)
   have b:atKey (q :: qs) k=atKey qs k:=by simp[atKey,Qs,e']
   rw[cB e,b];exact ih
theorem KT.repl(r:KT H fx xs)(k:List Key)(ry:RelV y u) :
  KT H (fx.map fun kv=>if kv.1=k then (kv.1,y) else kv) (xs.map (putAt k u)):=by
 induction r with
 |nil=>exact .nil
 |@cons p q ps qs h t ih =>
  rw[Nm,Nm];refine .cons ?_ ih;obtain⟨h1,h2,h3⟩:=h;unfold putAt;by_cases e:p.1=k
  ·rw[if_pos e,if_pos (h1.symm.trans e)];exact⟨h1,h2,ry⟩
  ·rw[if_neg e,if_neg (fun z=>e (h1.trans z))];exact⟨h1,h2,h3⟩
theorem KT.put(r:KT H fx xs)(k:List Key)(hb:H b=some (.tup (k.map kV)))(ry:RelV y u) :
  KT H (dm fx k y) (storedH xs k b u):=by
 have e:(fx.any fun kv=>decide (kv.1=k))=(atKey xs k).isSome:=by
  rw[jG,(r.val k).As,Option.isSome_map]
 unfold dm storedH;rw[e];by_cases q:(atKey xs k).isSome=true
 ·rw[if_pos q,if_pos q];exact r.repl k ry
 ·rw[if_neg q,if_neg q];exact Paired.snoc r ⟨rfl,hb,ry⟩
theorem KT.keeps{H':Hp}(r:KT H fx xs)(ht:∀b ys,H b=some (.tup ys)->H' b=some (.tup ys)):KT H' fx xs :=
 Paired.mapP r fun _ _ z=>⟨z.1,ht _ _ z.2.1,z.2.2⟩
section
variable{P:MP}{w:M4}{H:Hp}{h:Heap}{a:Addr}
theorem Ih(ok:HOk P w H h)(e:Rd H a u):bX P w H h a u:=e.ok ok
theorem Hk(ok:HOk P w H h)(e:Rd H a (.dK fx)):fx.length<=sizeLine/\(a == sysModules)=false/\∃vs,KV fx vs/\h.DictOf (b9 P w) a vs :=
 show bX P w H h a (.dK fx) from Ih ok e
theorem LU(ok:HOk P w H h)(e:H a=some (.dK fx)):fx.length<=sizeLine/\(a == sysModules)=false/\∃vs,KV fx vs/\h.DictOf (b9 P w) a vs:=Hk ok (.inl e)
theorem Af{ks:List Key}(ok:HOk P w H h)(e:H a=some (.tup (ks.map kV))):(tupleKind (b9 P w)).is h ks a:=by
 obtain⟨_,fm,r,o,h1,⟨h2,n,h3⟩,_⟩:=(show bX P w H h a (.tup (ks.map kV)) from ok a _ e)
 exact⟨o,fm.toArray,n,h1,h2,h3,by simpa using r_ r⟩
theorem Hg(ok:HOk P w H h)(e:Rd H a (.dT fx)):fx.length<=sizeLine/\(a == sysModules)=false /\
  ∃xs,KT H fx xs/\h.DictOfH (tupleKind (b9 P w)) a xs:=by
 obtain⟨z,y,xs,r,o,es,ep,h1,h2,h3,h4,h5⟩:=(show bX P w H h a (.dT fx) from Ih ok e)
 refine⟨z,y,xs,r,o,es,ep,h1,h2,h3,h4,fun x hx=>?_,h5⟩
 have all:∀{l:List (List Key×V)} {m:List (List Key×Addr×Mu)},KT H l m->∀x∈m,(tupleKind (b9 P w)).is h x.1 x.2.1:=by
  intro l m q
  induction q with
  |nil=>intro x hx;exact nomatch hx
  |@cons p q ps qs hq t ih =>
   intro x hx;rcases MD.mp hx with e|hx
   ·subst e;exact Af ok (by rw[<- hq.1];exact hq.2.1)
   ·exact ih x hx
 exact all r x hx
theorem JR(ok:HOk P w H h)(e:H a=some (.dT fx)):fx.length<=sizeLine/\(a == sysModules)=false /\
  ∃xs,KT H fx xs/\h.DictOfH (tupleKind (b9 P w)) a xs:=Hg ok (.inl e)
end
def DGet(H:Hp)(a:Addr)(y:V)(r:Option V):Prop :=
 (∃fx k,Rd H a (.dK fx)/\y=kV k/\r=cq fx k)\/∃fx k b,Rd H a (.dT fx)/\y=.ref b/\H b=some (.tup (k.map kV))/\r=cq fx k
def DPut(H:Hp)(a:Addr)(y v:V)(H':Hp):Prop :=
 (∃fx k,H a=some (.dK fx)/\y=kV k/\fx.length<sizeLine/\H'=upd H a (.dK (dm fx k v))) \/
 ∃fx k b,H a=some (.dT fx)/\y=.ref b/\H b=some (.tup (k.map kV))/\fx.length<sizeLine/\H'=upd H a (.dT (dm fx k v))
theorem DGet.k{H:Hp}{k:Key}(e:H a=some (.dK fx)):DGet H a (kV k) (cq fx k):=.inl ⟨fx,k,.inl e,rfl,rfl⟩
theorem DPut.k{H:Hp}{k:Key}(e:H a=some (.dK fx))(hl:fx.length<sizeLine):DPut H a (kV k) v (upd H a (.dK (dm fx k v))):=.inl ⟨fx,k,e,rfl,hl,rfl⟩
theorem DPut.t{H:Hp}{k:List Key}(e:H a=some (.dT fx))(eb:H b=some (.tup (k.map kV)))(hl:fx.length<sizeLine) :
  DPut H a (.ref b) v (upd H a (.dT (dm fx k v))):=.inr ⟨fx,k,b,e,rfl,eb,hl,rfl⟩
section
variable{X:Cx}{ξ:List (Addr×Obj)}{σ:St}{H:Hp}{s:MA}{a:Addr}{y v:V}{u r:Mu}{o:Option V}{A:No}{E:Mu->MA->Prop}
theorem Inv.big(I:Inv X ξ σ H s):sysModules<s.heap.objs.size:=by
 have h:mainGlobals<s.heap.objs.size:=(I.mod.glob.keeps I.bk).lt;exact MJ (by decide) h
theorem AT{t':Nat}(I:Inv X ξ σ H s)(mu:Kc (H a))(hs:PL a s.heap h')(he:∃q,h'.get? a=some q)(new:bX X.prog X.w (upd H a ob) h' a ob) :
  Inv X ξ σ (upd H a ob) {s with heap:=h',toks:=t'} :=
 I.write (x:=a) (e:=a) mu (.inl rfl) (fun b q hb z=>(hs.2 b hb).trans z) he new
theorem JS{h':Heap}{fx:List (Key×V)}(z:fx.length<=sizeLine)(hd:(a == sysModules)=false)(rel:KV fx vs)(dd:h'.DictOf (b9 P w) a vs) :
  bX P w H' h' a (.dK fx):=⟨z,hd,vs,rel,dd⟩
theorem AU{Q:Unit->MA->Prop}(hu:A.units+1<cLine)(I:Inv X ξ σ H s)(g:DPut H a y v H')(ry:RelV y u)(rv:RelV v r)(h:∀s',Inv X ξ σ H' s'->Q () s') :
  wpAny (model X.prog X.w) A (setItem (.ref a) u r) Q E s:=by
 rcases g with⟨fx,k,e,ey,l,eH⟩|⟨fx,k,b,e,ey,eb,l,eH⟩
 ·subst ey eH;obtain⟨z,hd,vs,rel,dd⟩:=LU I.hok e;have hz:vs.length<=sizeLine:=by rw[<- rel.length];exact z
  have hl:(dm fx k v).length<=sizeLine:=by have:=gF fx k v;lia
  refine wpAny_setItem_pairs (hsz:=hz) (Dc ry) dd fun h' dd' hs=>h _ ?_
  have he:∃q,h'.get? a=some q:=let ⟨q,_,_,hq,_⟩:=dd';⟨q,hq⟩
  exact AT I (by rw[e];exact O1) hs he (JS hl hd (rel.put k rv) dd')
 ·subst ey eH;cases (show u=MX b from ry);obtain⟨z,hd,xs,rel,dd⟩:=JR I.hok e;have hz:xs.length<=sizeLine:=by rw[<- Pm rel];exact z
  have hl:(dm fx k v).length<=sizeLine:=by have:=gF fx k v;lia
  refine wpAny_setItem_heap (hsz:=hz) (V0 hu) (Af I.hok eb) dd fun h' dd' hs=>h _ ?_
  obtain⟨q,es,ep,hq,h2,h3,h4,_,h5⟩:=dd';refine AT I (by rw[e];exact O1) hs ⟨q,hq⟩ ⟨hl,hd,_,(rel.put k eb rv).keeps fun c ys ec=>?_,q,es,ep,hq,h2,h3,h4,h5⟩;rw[av (CT ec e (fun z=>nomatch z))];exact ec
end
def yL(td ty tv:TE):TS:=fun D σ H=>tv σ H fun v H1=>td σ H1 fun x H2=>ty σ H2 fun y H3=>∃a H4,x=.ref a/\DPut H3 a y v H4/\D.nx σ H4
section
variable{X:Cx}{o i e value:Expr}{pos pos' tpos:Pos}{td ty tv:TE}
theorem ui(hu:X.A.units+1<cLine)(ho:PE X o td)(hi:PE X i ty)(hv:PE X value tv)(hs:swapsWith value (some (.Subscript o i pos')) pos.line X.env=pure false) :
  PS X (.Assign [.Subscript o i pos'] value pos) (yL td ty tv):=by
 intro ξ s σ H D I h;refine wpAny_Assign_Subscript (bj (hv ξ s σ H _ I h) fun r s1 ⟨v,H1,I1,rv,q1⟩=>bj (ho ξ s1 σ H1 _ I1 q1) fun u s2 ⟨x,H2,I2,rx,q2⟩=>bj (hi ξ s2 σ H2 _ I2 q2) fun iv s3 ⟨y,H3,I3,ry,a,H4,ex,g,q3⟩=>?_) hs;subst ex;obtain rfl:u=MX a:=rx;exact AU hu I3 g ry rv fun s4 I4=>⟨σ,H4,I4,q3⟩
end
theorem DF(h:Heap) (hb:sysModules<h.objs.size):bX P w H (h.push {cls:=.type "dict",data:=.dict #[]}) h.objs.size (.dK []) :=
 ⟨NH _,beq_eq_false_iff_ne.mpr (N1 (MC hb)),[],.nil,Heap.DictOf.new h⟩
theorem DD(h:Heap) (hb:sysModules<h.objs.size):bX P w H (h.push {cls:=.type "dict",data:=.dict #[]}) h.objs.size (.dT []) :=
 ⟨NH _,beq_eq_false_iff_ne.mpr (N1 (MC hb)),[],.nil,_,#[],0,ML _ rfl,⟨rfl,rfl,rfl⟩,rfl,rfl,Pa⟩
def Eb:TE:=fun _ H Q=>∀p,H p=none->Q (.ref p) (upd H p (.dK []))
def Ea:TE:=fun _ H Q=>∀p,H p=none->Q (.ref p) (upd H p (.dT []))
section
variable{X:Cx}{pos:Pos}
theorem CG:PE X (.Dict [] [] pos) Eb:=fun ξ s σ H Q I h =>
 wpAny_Dict_empty ⟨.ref s.heap.objs.size,_,I.laid (a:=s.heap.objs.size) (o:=.dK []) (t':=s.toks) (fun _ _ q=>Mt _ q) (MB _) (DF s.heap I.big),rfl,h _ (I.hok.fresh (MB _))⟩
theorem CF:PE X (.Dict [] [] pos) Ea:=fun ξ s σ H Q I h =>
 wpAny_Dict_empty ⟨.ref s.heap.objs.size,_,I.laid (a:=s.heap.objs.size) (o:=.dT []) (t':=s.toks) (fun _ _ q=>Mt _ q) (MB _) (DD s.heap I.big),rfl,h _ (I.hok.fresh (MB _))⟩
end
structure M2 (X:Cx) (o:Expr) (m:Str) (apos:Pos) (e f:Expr) (XH:Pos):Prop where
 base:attributeBase o m X.env (eval o X.env)=eval o X.env
 few:((backTo XH (starEach [e,f] X.env)).all (fun x=>!x.1) && (backToKw XH (keywordEach [] X.env)).all (fun x=>x.1.isSome)
  && decide (([e,f]:List Expr).length+([]:List Vn).length+(if ([]:List Vn).isEmpty then 0 else 1)<30))=true
 line:(apos.endLine == XH.line)=true
 trees:backTo XH (starEach [e,f] X.env)=[(false,eval e X.env),(false,eval f X.env)]
def Mn(H:Hp)(a:Addr):Prop:=(∃fx,Rd H a (.dK fx))\/∃fx,Rd H a (.dT fx)
theorem JG{H:Hp}(I:Inv X ξ σ H s)(d:Mn H a) :
  s.TypeIs (.ref a) "dict"/\(∀b,MX a=.ref b->∃ob,s.heap.get? b=some ob/\ob.dict=none)/\(a == sysModules)=false:=by
 rcases d with⟨fx,e⟩|⟨fx,e⟩
 ·obtain⟨_,hd,vs,_,dd⟩:=Hk I.hok e;refine⟨dd.typeIs,fun b q=>?_,hd⟩;cases q;obtain⟨ob,_,_,h1,h2,_⟩:=dd;exact⟨ob,h1,h2.2.1⟩
 ·obtain⟨_,hd,xs,_,dd⟩:=Hg I.hok e;refine⟨dd.typeIs,fun b q=>?_,hd⟩;cases q;obtain⟨ob,_,_,h1,h2,_⟩:=dd;exact⟨ob,h1,h2.2.1⟩
section
variable{X:Cx}{ξ:List (Addr×Obj)}{σ:St}{H:Hp}{s:MA}{a:Addr}{y d:V}{u r:Mu}{o:Option V}{A:No}{E:Mu->MA->Prop}
theorem JU{Q:Mu->MA->Prop}(hu:A.units+1<cLine)(I:Inv X ξ σ H s)(g:DGet H a y o)(ry:RelV y u)(rd:RelV d r)(h:∀w' s',Inv X ξ σ H s'->RelV (o.getD d) w'->Q w' s') :
  wpAny (model X.prog X.w) A (call (.builtin "dict.get") [.ref a,u,r]) Q E s:=by
 rcases g with⟨fx,k,e,ey,l⟩|⟨fx,k,b,e,ey,eb,l⟩
 ·subst ey;obtain⟨z,hd,vs,rel,dd⟩:=Hk I.hok e;refine Wn Pz dd.typeIs Rx (Rn _ _ _) (T2 (b9 X.prog X.w) a (Dc ry) hd r) ⟨_,dd.mapOf,h _ _ (I.tok _) ?_⟩;rw[l];exact(rel.val k).getD rd
 ·subst ey;cases (show u=MX b from ry);obtain⟨z,hd,xs,rel,dd⟩:=Hg I.hok e;refine Wn Pz dd.typeIs Rx (Rn _ _ _) (meetsH_dict_get_default (tupleKind (b9 X.prog X.w)) a b hd r) ⟨V0 hu,k,xs,Af I.hok eb,dd,h _ _ (I.tok _) ?_⟩;rw[l];exact(rel.val k).getD rd
end
def Ec(td ty tx:TE):TE:=fun σ H Q=>td σ H fun x H1=>∃a,x=.ref a/\Mn H1 a/\ty σ H1 fun y H2=>tx σ H2 fun z H3=>∃o,DGet H3 a y o/\Q (o.getD z) H3
section
variable{X:Cx}{o e f:Expr}{apos XH:Pos}{td ty tx:TE}
theorem CH(hu:X.A.units+1<cLine) (ho:PE X o td) (he:PE X e ty) (hf:PE X f tx) (m:M2 X o "get" apos e f XH):PE X (.Call (.Attribute o "get" apos) [e,f] [] XH) (Ec td ty tx):=by
 intro ξ s σ H Q I h;refine wpAny_Call_method m.base m.few m.line Tx Pz Uw (bj (ho ξ s σ H _ I h) fun u s1 ⟨x,H1,I1,rx,a,ex,d,q1⟩=>?_);subst ex;obtain rfl:u=MX a:=rx;obtain⟨t1,t2,_⟩:=JG I1 d;refine⟨t1,t2,?_⟩;rw[m.trees]
 refine Pj rfl (PQ (N_ (bj (he ξ s1 σ H1 _ I1 q1) fun iv s2 ⟨y,H2,I2,ry,q2⟩ =>
  N_ (bj (hf ξ s2 σ H2 _ I2 q2) fun fv s3 ⟨z,H3,I3,rz,ov,g,q3⟩=>Pc ?_))))
 exact JU hu I3 g ry rz fun w' s4 I4 rw'=>⟨_,H3,I4,rw',q3⟩
end
open PySem PySem.W
def Mg(K:Frag):List Str->Prop
 |[]=>True
 |n :: r=>nsIn K mainGlobals n=some none/\Mg K r
def HJ(K:Frag):List (Str×Addr×Qz)->Prop
 |[]=>True
 |(n,q,d) :: r=>(nsIn K mainGlobals n=some (some (.ref q))/\typeIn K (.ref q)=some (.type "type")/\clsIn K q=some d)/\HJ K r
def Kh (K:Frag) (q:Addr):Prop:=findIn K (.ref q) "__getattribute__"=some (some (.builtin "BaseException.__getattribute__"))/\findIn K (.ref q) "__getattr__"=some none/\findIn K (.ref q) "__class__"=some (some (.builtin "object.__class__"))
def J9(K:Frag)(V:Addr):List (Addr×Qz)->Prop
 |[]=>True
 |(q,d) :: r=>(excIn K q [.type "ValueError",.type "Exception",.type "BaseException",.type "object"] "ValueError.__new__"=true/\d.mro=[.ref q,.ref V,.type "ValueError",.type "Exception",.type "BaseException",.type "object"]/\Kh K q)/\J9 K V r
end L2
namespace K94H
open PySem PySem.Spec PyProof.Rows L2
def top(i:Nat):Stmt:=PW94.main.body.getD i (.Pass ⟨0,0,0,0⟩)
def ini(i:Nat):Stmt:=match top i with
 |.ClassDef _ _ _ b _ _ _ _ _ _ _=>b.getD 0 (.Pass ⟨0,0,0,0⟩)
 |_=>.Pass ⟨0,0,0,0⟩
def met(i j:Nat):Stmt:=match top i with
 |.ClassDef _ _ _ b _ _ _ _ _ _ _=>b.getD j (.Pass ⟨0,0,0,0⟩)
 |_=>.Pass ⟨0,0,0,0⟩
def spLaw(K:Fg):Sp:=fun vs H Q _=>∃(a:Addr) (ns:List Int),vs=[.ref a]/\SqL K H a (ns.map V.int)/\ns.length<=63/\∀H',Q (.bl true) H'
def HI(K:Fg)(n:Str)(st:Stmt):Prop:=∃(f:Addr) (od an:Option Addr) (sl:Array (Option Mu)) (oc kV dc pm cd ct:Mu),OE K mainGlobals n=some (some (.ref f))/\K.lookup f=some ⟨oc,od,.func (Ob n n (cK st) (bM st) (ah st) .none kV dc pm an cd ct),sl⟩/\O_ K cd n=true/\NU K (.ref f)=true
theorem fnIn{K:Fg}{st:Stmt}{od:Option Addr}{sl:Array (Option Mu)}{oc kV:Mu}(a:OE K mainGlobals n=some (some (.ref f)))(l:K.lookup f=some ⟨oc,od,.func (Ob n n (cK st) (bM st) (ah st) .none kV dc pm an cd ct),sl⟩)(c:O_ K cd n=true)(k:NU K (.ref f)=true):HI K n st:=⟨f,od,an,sl,oc,kV,dc,pm,cd,ct,a,l,c,k⟩
local macro_rules | `(tactic| fail "f")=>`(tactic| (refine' fnIn ?a ?l ?c ?k;(case a=>k_is);(case l=>k_is);(case c=>k_is);(case k=>k_is)))
def HG(K:Fg)(D:Addr)(n q:Str)(st:Stmt):Prop:=∃(f:Addr) (od an:Option Addr) (sl:Array (Option Mu)) (oc kV dc pm cd ct:Mu),Ny K (.ref D) n=some (some (.ref f))/\K.lookup f=some ⟨oc,od,.func (Ob n q (cK st) (bM st) (ah st) .none kV dc pm an cd ct),sl⟩/\O_ K cd q=true/\NU K (.ref f)=true/\Ru K (.ref f)=true
theorem K4{K:Fg}{st:Stmt}{od:Option Addr}{sl:Array (Option Mu)}{oc kV:Mu}(a:Ny K (.ref D) n=some (some (.ref f)))(l:K.lookup f=some ⟨oc,od,.func (Ob n q (cK st) (bM st) (ah st) .none kV dc pm an cd ct),sl⟩)(c:O_ K cd q=true)(k:NU K (.ref f)=true)(i:Ru K (.ref f)=true):HG K D n q st:=⟨f,od,an,sl,oc,kV,dc,pm,cd,ct,a,l,c,k,i⟩
def Ke(K:Fg)(D:Addr):List (Str×Str×Nat×Nat)->Prop
 |[]=>True
 |(n,q,i,j) :: r=>HG K D n q (met i j)/\Ke K D r
local macro_rules | `(tactic| fail "m")=>`(tactic| (refine' K4 ?a ?l ?c ?k ?i;(case a=>k_is);(case l=>k_is);(case c=>k_is);(case k=>k_is);(case i=>k_is)))
def DX(K:Fg):List (Str×Nat)->Prop
 |[]=>True
 |(n,i) :: r=>HI K n (top i)/\DX K r
local macro_rules | `(tactic| walk_at "all")=>`(tactic| repeat' first|exact trivial|(refine And.intro ?_ ?_)|k_is|k_exc|fail "f"|fail "m"|exact rfl|decide)
theorem walk{l:Xa}{XP:(Str->Option Mu)->Heap->Prop}{YP:M4->Heap->Prop}{d:DefRec}{K:Params->V9}(hn:l.most=some 63)(hdf:d.params.defaults=[])
  (hY:∀(w:M4) (h:Heap),YP w h->(K w.params).In h)
  (F:∀(w:M4) (mg:Str->Option Mu) (fa:Addr) (h:Heap),(K w.params).In h->h.Ns mainGlobals mg->mg d.name=some (.ref fa) ->
   ∃fd:Ph,(∀(s:MA) (u:Mu),Wi s fd ⟨[u],[]⟩ [("_law_script",u)])/\∀base:Heap,(K w.params).In base->base.Ns mainGlobals mg->FnOk l.prog w (K w.params) mg base b_ 9 fa fd ["_law_script"] (spLaw (K w.params))) :
  VD q loose XP YP l.row.toRowW d [] (fun f vs=>VT f vs) :=
 L2.E4 (n:=63) (k:=9) (x:="_law_script") (CX:=fun _=>b_) (sp:=fun w=>spLaw (K w.params)) hn (by decide) hdf ⟨rfl,by decide,by decide⟩ hY F (fun _ _ a ns hl _ hS=>⟨a,ns,rfl,hS,hl,fun _=>rfl⟩) fun _ _ _ _ _ z=>z
open PySem.W in
theorem headed(hW:∀{w:M4} {K:Fg} {h:Heap} {mg:Str->Option Mu} {fa:Addr} (X:K.In h) (G:h.Ns mainGlobals mg) (hfa:mg "law"=some (.ref fa))
  (P0:DX K [("whole",17),("greatest_divisor",18),("fraction",19),("before",20),("is_word",28),("stuffs_of",29),("is_heap",30),("turnings_of",31),("check_turnings",32),("heaps_of",33),("made",34),("stuff_text",37),("heap_text",38),("pace_text",39),("turning_text",40),("heap_guessed",41),("number_guessed",42),("pace_guessed",43),("turning_read",44),("can_be_made",46)]) (P20:DX K [("count_behind",47),("_law_cell_at",51),("_law_mixed",52),("_law_divisor",53),("_law_lowest",54),("_law_base",55),("_law_word",56),("_law_words",57),("_law_heap",58),("_law_same",59),("_law_kinds",60),("_law_heap_text",61),("_law_turning_text",62),("_law_pick",63),("_law_deed_rows",64),("_law_seen",65),("_law_done",66),("_law_undone",67),("_law_rows_told",68),("_law_as_seen",69)]) (P40:DX K [("_law_back",70),("_law_on",71),("law",72)]) (Z:Mg K ["len","abs","range","isinstance","int","bool","tuple","list","str","zip","set","all","any","min","max","sum","sorted","enumerate","reversed","dict","ord","divmod"])
  {V dD q0 q1 q2 q3 q4 q5 q6 q7 q8 q9 q10 q11 q12 q13:Addr} {qd0 qd1 qd2 qd3 qd4 qd5 qd6 qd7 qd8 qd9 qd10 qd11 qd12 qd13:Qz} {qdV:Qz} {fi7 Ni7:Addr} {nmi7 qni7:Str} {bsi7 tli7 sui7:List Mu} {hdi7 abi7:Bool} {sni7:List Str} {coi7:Option Bool} {ddi7 odi7 ani7:Option Addr} {kai7 kbi7 kci7 kdi7 kei7:Option Mu} {oci7 kVi7 dci7 pmi7 cdi7 cti7:Mu} {sli7:Array (Option Mu)} {tk0 tk1 tk2 tk3 tk4 tn0 tn1 tp0 tp1 tp2 tq0 tq1 tq2:Tok} {nq pD:Addr} {nqd:Option Addr} {nqn pDn:Nat} {nqs:Array (Option Mu)} {ph0 ph1 ph2:Int}
  (aV:OE K mainGlobals "VesselError"=some (some (.ref V)))
  (xV:Q6 K V [.type "ValueError",.type "Exception",.type "BaseException",.type "object"] "ValueError.__new__"=true)
  (zVE:OE K mainGlobals "ValueError"=some none)
  (gt:SU K (.builtin "object.__class__") "__get__"=some (some (.builtin "getset_descriptor.__get__")))
  (tk:W_ K (.builtin "object.__class__")=some true)
  (sgV:SU K (.ref V) "__getattribute__"=some (some (.builtin "type.__getattribute__")))
  (rdV:PySem.W.readsIn K V (.type "type")=true)
  (fcV:PySem.W.findCls K (.ref V) (.type "type") "__init__"=some (.val (.builtin "ValueError.__init__")))
  (dV:Xs K V=some qdV)
  (mV:qdV.mro=[.ref V]++[.type "ValueError",.type "Exception",.type "BaseException",.type "object"])
  (cs:HJ K [("NoFraction",q0,qd0),("NoStuffs",q1,qd1),("NoHeap",q2,qd2),("NoPace",q3,qd3),("NoTurnings",q4,qd4),("NoTurning",q5,qd5),("NoText",q6,qd6),("NotNow",q7,qd7),("TooMany",q8,qd8),("NoDrain",q9,qd9),("NotEven",q10,qd10),("NoStuff",q11,qd11),("NoPieces",q12,qd12),("NoDeed",q13,qd13)])
  (nd:[V,q0,q1,q2,q3,q4,q5,q6,q7,q8,q9,q10,q11,q12,q13].Nodup)
  (rs:J9 K V [(q1,qd1),(q4,qd4),(q5,qd5),(q12,qd12),(q13,qd13)])
  (L7:K.lookup q7=some (excClassObj nmi7 qni7 q7 Ni7 bsi7 tli7 hdi7 sni7 sui7 abi7 coi7 ddi7 kai7 kbi7 kci7 kdi7 kei7 "ValueError.__new__"))
  (ni7:Ny K (.ref q7) "__init__"=some (some (.ref fi7)))
  (fn7:Ru K (.ref fi7)=true)
  (kq7:NU K (.ref q7)=true)
  (lf7:K.lookup fi7=some ⟨oci7,odi7,.func (Ob "__init__" "NotNow.__init__" (cK (ini 9)) (bM (ini 9)) (ah (ini 9)) .none kVi7 dci7 pmi7 ani7 cdi7 cti7),sli7⟩)
  (cf7:O_ K cdi7 "NotNow.__init__"=true)
  (kf7:NU K (.ref fi7)=true)
  (sa7:Ny K (.ref q7) "__setattr__"=some (some (.builtin "object.__setattr__")))
  (nf7:Ny K (.ref q7) "at"=some none)
  (hd7:QE K q7=true)
  (mr7:qd7.mro=[.ref q7,.ref V,.type "ValueError",.type "Exception",.type "BaseException",.type "object"])
  (aD:OE K mainGlobals "Desk"=some (some (.ref dD)))
  (gD:QW K dD NC=true)
  (hD:QE K dD=true)
  (pD_:SS K dD=true)
  (sD:Ny K (.ref dD) "__setattr__"=some (some (.builtin "object.__setattr__")))
  (mD:RX K dD=true)
  (kD:NU K (.ref dD)=true)
  (nD0:Ny K (.ref dD) "stuffs"=some none)
  (nD1:Ny K (.ref dD) "turnings"=some none)
  (nD2:Ny K (.ref dD) "pieces"=some none)
  (nD3:Ny K (.ref dD) "deeds"=some none)
  (hcn0:OE K mainGlobals "MOST_STUFFS"=some (some (.int 5 tk0)))
  (hcn1:OE K mainGlobals "MOST_SIGNS"=some (some (.int 8 tk1)))
  (hcn2:OE K mainGlobals "MOST_PIECES"=some (some (.int 3 tk2)))
  (hcn3:OE K mainGlobals "MOST_TURNINGS"=some (some (.int 8 tk3)))
  (hcn4:OE K mainGlobals "MOST_HEAPS"=some (some (.int 8 tk4)))
  (hcnN:OE K mainGlobals "NOUGHT"=some (some (.ref nq)))
  (hcnL:K.lookup nq=some ⟨.type "tuple",nqd,.seq #[.int 0 tn0,.int 1 tn1] nqn,nqs⟩)
  (hpwN:OE K mainGlobals "PIECES_WRITTEN"=some (some (.ref pD)))
  (hpwL:K.lookup pD=some ⟨.type "dict",none,.dict #[⟨ph0,.str "" tp0,.int 1 tq0⟩,⟨ph1,.str "2" tp1,.int 2 tq1⟩,⟨ph2,.str "3" tp2,.int 3 tq2⟩] pDn,#[]⟩)
  (hpw0:ph0=VI w "")
  (hpw1:ph1=VI w "2")
  (hpw2:ph2=VI w "3")
  (hpwS:(pD == PySem.sysModules)=false)
  (ms:Ke K dD [("__init__","Desk.__init__",49,0),("keep","Desk.keep",49,1),("place_of","Desk.place_of",49,2),("put","Desk.put",49,3),("take","Desk.take",49,4),("texts","Desk.texts",49,5),("vessel","Desk.vessel",49,6),("pour","Desk.pour",49,7),("turn","Desk.turn",49,8),("count","Desk.count",49,9),("undo","Desk.undo",49,10)])
  ,∃fd:Ph,(∀(s:MA) (v:Mu),Wi s fd ⟨[v],[]⟩ [("_law_script",v)])/\∀base:Heap,K.In base->base.Ns mainGlobals mg->FnOk PySem.Challenge.rw_vesselhall_k94_deeds_undone.prog w K mg base b_ 9 fa fd ["_law_script"] (spLaw K)):PySem.Challenge.rw_vesselhall_k94_deeds_undone.Holds:=by
 refine said ?_
 w_on
 refine VR (q:=qv) (loose:=["PIECES_WRITTEN"]) (Xt:=fun s=>Qj qv [] s && P2 [] s) (XP:=Xh qv []) (Yf:=WD (RP pre.heap_1 asl asl_ok)) (Ya:=WE (RP pre.heap_1 asl asl_ok)) (YP:=V_ (RP pre.heap_1 asl asl_ok)) (N:=10712) hooks (W9 (RP pre.heap_1 asl asl_ok)) (VS (RP pre.heap_1 asl asl_ok)) (fun s e=>Xq s (QK.mp e).1) WF (by rfl) (by rfl) (by rfl) (fun s e=>Vq (QK.mp e).2) (by rfl) (by first|assumption|decide +kernel) (by decide +kernel) ⟨rfl,rfl,rfl,rfl,rfl,by decide +kernel⟩ ?_ ?_
 ·clear hW;w_witness2
 k_fill
 refine walk (l:=PySem.Challenge.rw_vesselhall_k94_deeds_undone) rfl rfl (fun w h Y=>PySem.W.kIn_of Y) ?F
 case F =>
  intro w mg fa h KX G hmg;refine' hW KX G hmg ?_ ?_ ?_ ?_ ?_ ?_ ?_ ?_ ?_ ?_ ?_ ?_ ?_ ?_ ?_ ?_ ?_ ?_ ?_ ?_ ?_ ?_ ?_ ?_ ?_ ?_ ?_ ?_ ?_ ?_ ?_ ?_ ?_ ?_ ?_ ?_ ?_ ?_ ?_ ?_ ?_ ?_ ?_ ?_ ?_ ?_ ?_ ?_ ?_ ?_ ?_ ?_ ?_
  all_goals try walk_at "all"
end K94H
namespace L2
open PySem PySem.Spec PyProof.Rows
section
variable{X:Cx}{a b c:Expr}{ta tb tc:TE}{pos:Pos}
def Km(_ j:Int):Prop:=j≠0/\j.natAbs<2 ^ 9000
theorem jM:ft X (binaryOp .FloorDiv) (rI Km fun i j=>.int (i.fdiv j)):=Gw fun i j _ _ _ _ _ hc q=>by
 have h0:j.natAbs≠0:=by have:=hc.1;lia
 exact floordiv_int hc.1 q (.inl (PyProof.noPylong_of_log2 ((W4 h0).mpr hc.2)))
def xp(i j:Int):Prop:=i.natAbs<2 ^ 20000/\j.natAbs<2 ^ 20000
theorem xp.ok(h:xp i j):IntMulOk i j:=by
 have h1:=Tz h.1;have h2:=Tz h.2;unfold IntMulOk
 have e:Ux ((Vv i:Int)+(Vv j:Int))=false:=by
  unfold Ux;refine decide_eq_false ?_
  have:(40000:Int)<=bitsLine:=by decide
  lia
 intro q;rw[e] at q;simp at q
theorem zw:ft X (binaryOp .Mult) (rI xp fun i j=>.int (i*j)):=Gw fun _ _ _ _ _ _ _ hc q=>mul_int q hc.ok
theorem a8:gN X (.builtin "isinstance") (fun xs H Q=>∃x n t b,xs=[x,.ty n]/\TyOf X.K H x t/\MZ X.K t (.type n)=some b/\Q (.bl b) H):=by
 intro ξ s σ H xs us Q I r h;obtain⟨x,n,t,b,rfl,ty,e,q⟩:=h;obtain⟨u,u',rfl,rx,ry⟩:=vals2 r;obtain rfl:u'=O0 n:=ry;exact Ar I rx ty e fun tk=>⟨.bl b,H,I.tok tk,rfl,q⟩
end
structure FnC (P:MP) (w:M4) (K:Fg) (mg:Str->Option Mu) (base:Heap) (CX:jF) (k:Nat) (x:Str) (ps:List Str) (sp:Sp):Prop where
 ex:∃(f:Addr) (fd:Ph),FnOk P w K mg base CX k f fd ps sp/\mg x=some (.ref f)/\NU K (.ref f)=true/\Binds K fd ps []
structure bt (K:Fg) (mg:Str->Option Mu) (x:Str) (st:Stmt) (ps:List Str):Prop where
 ex:∃(f:Addr) (fd:Ph),Fun K x x st f fd/\mg x=some (.ref f)/\Binds K fd ps []
section
variable{P:MP}{w:M4}{K:Fg}{mg:Str->Option Mu}{base:Heap}{CX:jF}
theorem Dx{st:Stmt}{ps:List Str}{oc:Mu}{od:Option Addr}{Zj:Array (Option Mu)}{kV:Mu}(X:K.In h)(G:h.Ns mainGlobals mg)
  (a:OE K mainGlobals x=some (some (.ref f))) (l:K.lookup f=some ⟨oc,od,.func (Ob x x (cK st) (bM st) (ah st) .none kV doc pm an gV ct),Zj⟩)
  (c:O_ K gV x=true) (k:NU K (.ref f)=true)
  (hb:∀(kV doc pm:Mu) (an:Option Addr) (gV ct:Mu) (us:List Mu),us.length=ps.length->bindArgs (Ob x x (cK st) (bM st) (ah st) .none kV doc pm an gV ct) ⟨us,[]⟩=pure (ps.zip us)) :
  bt K mg x st ps:=by
 have F:=mT (K:=K) (x:=x) (qual:=x) (st:=st) l c k;exact⟨f,_,F,Nd X G a,F.binds hb⟩
theorem FnC.mono{k:Nat}(F:FnC P w K mg base CX j x ps sp)(h:j<=k):FnC P w K mg base CX k x ps sp :=
 let ⟨f,fd,G,r⟩:=F.ex
 ⟨f,fd,G.mono h,r⟩
theorem bt.ok{st:Stmt}{sp:Sp}(F:bt K mg x st ps)(S:aF N ps (ah st))(len:∀vs H Q E,sp vs H Q E->vs.length=ps.length)
  (hbody:∀(f:Addr) (gV:Mu) (A:No) (outer:List Env) (s:MA) (H:Hp) (vs:List V) (Q:VK) (E:XK),Room k (A.deeper (envOfC x (ah st) s.heap.objs.size f gV))->sp vs H Q E ->
   ∃t,PSs (cS b_ P w K mg base N x (ah st) f gV A outer s H E).nox (bM st) t/\t {nx:=fun _ H'=>Q .non H',rt:=Q} (start N vs) H):FnC P w K mg base b_ (k+1) x ps sp:=by
 obtain⟨f,fd,G,hm,hb⟩:=F.ex;exact⟨f,fd,G.ok S len (hbody f),hm,G.kp,hb⟩
end
section
variable{X:Cx}{CX:jF}{k:Nat}{ps:List Str}{sp:Sp}{E:XK}{x:Str}{p pos:Pos}{e:Expr}{es:List Expr}{t:TA}
theorem g8(F:FnC X.prog X.w X.K X.mg X.base CX k x ps sp)(hr:Room k X.A)(hg:Gl X x)(hx:db CX X E)(ha:PA X (e :: es) t)
  (hdb:(x == ("__debug__":Str))=false:=by decide) (he:starEach (e :: es) X.env=(false,eval e X.env) :: starEach es X.env:=by rfl) (YD:(backTo pos (starEach es X.env)).any (·.1)=false:=by rfl) :
  PE X (.Call (.Name x p) (e :: es) [] pos) (aW sp [] E t):=by
 obtain⟨f,fd,G,hm,kp,hb⟩:=F.ex;exact Gp G hr hg hm kp hb .nil hx ha hdb he YD
theorem aw(F:FnC X.prog X.w X.K X.mg X.base b_ k x ps sp)(hr:Room k X.A)(hg:Gl X x)(ha:PA X (e :: es) t)
  (hdb:(x == ("__debug__":Str))=false:=by decide) (he:starEach (e :: es) X.env=(false,eval e X.env) :: starEach es X.env:=by rfl) (YD:(backTo pos (starEach es X.env)).any (·.1)=false:=by rfl) :
  PE X (.Call (.Name x p) (e :: es) [] pos) (aW sp [] E0 t):=g8 F hr hg kx ha hdb he YD
end
theorem au{H:Hp}(h:H p=none)(o:HO):Same H (upd H p o):=fun b u q=>by rw[av (aC q h)];exact q
theorem Same.seqT{K:Fg}(e:Same H H')(h:SqT K H a xs):SqT K H' a xs:=by
 rcases h with(h|⟨o,h⟩)|h
 ·exact .inl (.inl (e _ _ h))
 ·exact .inl (.inr ⟨o,e _ _ h⟩)
 ·exact .inr h
structure cO (mg:Str->Option Mu):Prop where
 len:mg "len"=none
 abs:mg "abs"=none
 range:mg "range"=none
 isinstance:mg "isinstance"=none
 int:mg "int"=none
 bool:mg "bool"=none
 tuple:mg "tuple"=none
 list:mg "list"=none
 str:mg "str"=none
 zip:mg "zip"=none
 set:mg "set"=none
 all:mg "all"=none
 any:mg "any"=none
 min:mg "min"=none
 max:mg "max"=none
 sum:mg "sum"=none
 sorted:mg "sorted"=none
 enumerate:mg "enumerate"=none
 reversed:mg "reversed"=none
 dict:mg "dict"=none
 ord:mg "ord"=none
 divmod:mg "divmod"=none
theorem bA:bootBuiltins "len"=some (.builtin "len"):=by decide +kernel
theorem ER:bootBuiltins "abs"=some (.builtin "abs"):=by decide +kernel
theorem ao:bootBuiltins "isinstance"=some (.builtin "isinstance"):=by decide +kernel
theorem jg:bootBuiltins "int"=some (.type "int"):=by decide +kernel
theorem gK:bootBuiltins "bool"=some (.type "bool"):=by decide +kernel
theorem b7:bootBuiltins "tuple"=some (.type "tuple"):=by decide +kernel
theorem dM:bootBuiltins "list"=some (.type "list"):=by decide +kernel
theorem qh:bootBuiltins "ValueError"=some (.type "ValueError"):=by decide +kernel
theorem lF:bootBuiltins "str"=some (.type "str"):=by decide +kernel
theorem LO{y z:Int}{A B:Prop}(h1:y≠z->A)(h2:y=z->B):if (!decide (V.int y=V.int z))=true then A else B:=by
 by_cases h:y=z
 ·subst h;rw[decide_eq_true rfl];exact uP (h2 rfl)
 ·rw[decide_eq_false (fun q=>h (V.int.inj q))];exact uO (h1 h)
theorem JE[Decidable c]{A B:Prop}(h1:c->A)(h2 : ¬ c->B):if decide c=true then A else B:=by
 by_cases h:c
 ·rw[decide_eq_true h];exact uO (h1 h)
 ·rw[decide_eq_false h];exact uP (h2 h)
abbrev dj:R2:=wN fun i j=>.int (i+j)
abbrev wP:R2:=wN fun i j=>.int (i-j)
abbrev Io:R2:=rI xp fun i j=>.int (i*j)
abbrev ug:R2:=rI HK fun i j=>.int (i / j)
abbrev wO:R2:=rI Km fun i j=>.int (i.fdiv j)
abbrev bU:R2:=rI (fun _ j=>0<j) fun i j=>.int (i % j)
abbrev KP:R2:=rI (fun _ j=>j≠0) fun i j=>.int (i.fmod j)
abbrev KO:R2:=rI Kk fun i j=>.int (i ^ j.toNat)
abbrev xw:R2:=wN fun i j=>.bl (decide (i<j))
abbrev Cv:R2:=wN fun i j=>.bl (decide (i<=j))
abbrev F_:R2:=wN fun i j=>.bl (decide (j<i))
abbrev o5:R2:=fun x y H Q=>y=.non/\Q (.bl (decide (x=.non))) H
abbrev Im:R2:=fun x y H Q=>y=.non/\Q (.bl (!decide (x=.non))) H
abbrev eK:R2:=fun x y H Q=>∃i j,x=.str i/\y=.str j/\i.length+j.length<=sizeLine/\Q (.str (i++j)) H
abbrev KR:List V->Hp->VK->Prop:=fun xs H Q=>∃i,xs=[.int i]/\Q (.int (if i<0 then -i else i)) H
abbrev b8(K:Fg):List V->Hp->VK->Prop:=fun xs H Q=>∃p ys,xs=[.ref p]/\(SqL K H p ys\/SqT K H p ys)/\Q (.int ys.length) H
abbrev Ip:List V->Hp->VK->Prop:=fun xs H Q=>∃z,xs=[.str z]/\z.length<=sizeLine/\Q (.int z.length) H
abbrev eR(K:Fg):List V->Hp->VK->Prop:=fun xs H Q=>∃x n t b,xs=[x,.ty n]/\TyOf K H x t/\MZ K t (.type n)=some b/\Q (.bl b) H
abbrev F8:List V->Hp->VK->Prop:=fun xs H Q=>(∃i,xs=[.int i]/\Q (.int i) H)\/∃k,xs=[.bl k]/\Q (.int (if k then 1 else 0)) H
abbrev fA(K:Fg):List V->Hp->VK->Prop:=fun xs H Q=>∃p ys,xs=[.ref p]/\((SqL K H p ys/\∀l,H l=none->Q (.ref l) (upd H l (.tup ys)))\/(SqT K H p ys/\Q (.ref p) H))
abbrev gw(K:Fg):List V->Hp->VK->Prop:=fun xs H Q=>∃p ys,xs=[.ref p]/\(SqL K H p ys\/SqT K H p ys)/\∀l,H l=none->Q (.ref l) (upd H l (.lst ys))
theorem IW{K:Fg}:MZ K (.type "int") (.type "int")=some true:=by rfl
theorem IX{K:Fg}:MZ K (.type "int") (.type "bool")=some false:=by
 show MN K (.type "int") (.type "bool")=some false;unfold MN
 kernel_rfl
def D4(φ:Obj->Prop)(e:Addr)(h:Heap):Prop:=∃o,h.get? e=some o/\φ o
def HF(φ:Obj->Prop):Prop:=∀o f,φ o->φ (Of f o)
section
variable{M:Model}{A:No}{E:Mu->MA->Prop}{s:MA}{φ:Obj->Prop}{base:Heap}{env:Env}{outer:List Env}{L e:Addr}{cls a0:Mu}{Q:Unit->MA->Prop}
theorem mW{oe:Obj}(Yu:A.frames=some (env :: outer))(hl:s.heap.FunFrames base (env :: outer))(hf:env.frame=some L)(he:s.heap.get? e=some oe)(hd:oe.data=.fields vs)(hsz:1<vs.size)
  (k:∀(h1:Heap) (ot:Obj) (ts:Array Mu),Xk ((env :: outer).filterMap (·.frame)) s.heap h1->h1.get? e=some oe->ot.data=.fields ts->ts[3]?=some (rawInt L)->Q () {s with heap:=(h1.push ot).update e (Of (·.setIfInBounds 1 (.ref h1.objs.size)))}) :
  wpAny M A (do setField (.ref e) 1 (<- Vw head (<- frameOf env) .none (rawInt L) .none (<- entryPlaceOf L more))) Q E s:=by
 have ne:e∉(env :: outer).filterMap (·.frame):=fun hm=>by
  obtain⟨_,o,ho,z⟩:=hl.mem hm;cases he.symm.trans ho;exact z vs hd
 refine Ms (wpAny_frameOf_fun Yu hl hf fun h1 S=>Ms (wpAny_entryPlaceOf fun pl P=>?_));have e1:h1.get? e=some oe:=(S.2.1 e ne).trans he;unfold Vw newFields;refine Ms (NW (Qc (Mt _ e1) hd hsz (k h1 _ _ S e1 rfl ?_)) (P.sizeOk5 _ _ _ _ _));rcases P with rfl|⟨_,_,_,_,_,_,_,rfl⟩ <;> simp
theorem lA{oe:Obj}{h:Heap}{ot:Obj}(nf:HF φ)(p:φ oe)(hl:h.FunFrames base (env :: outer))(he:h.get? e=some oe)(ZM:base.StaysIn h)(Z2:base.get? e=none)(hd:oe.data=.fields vs)(hsz:1<vs.size)(h0:vs[0]?=some a0)
  (S:Xk ((env :: outer).filterMap (·.frame)) h h1) (e1:h1.get? e=some oe) (dt:ot.data=.fields ts) (t3:ts[3]?=some (rawInt L)) :
  W5 base (env :: outer) e oe.cls a0 (rawInt L) h ((h1.push ot).update e (Of (·.setIfInBounds 1 (.ref h1.objs.size))))/\D4 φ e ((h1.push ot).update e (Of (·.setIfInBounds 1 (.ref h1.objs.size)))):=by
 have Te:h1.objs.size≠e:=NG (MG e1);have d3:=O5 hd (·.setIfInBounds 1 (MX h1.objs.size));have e3:=NB (Of (·.setIfInBounds 1 (MX h1.objs.size))) (Mt ot e1) (PB d3);have keep:∀b o,b≠e->h1.get? b=some o->((h1.push ot).update e (Of (·.setIfInBounds 1 (.ref h1.objs.size)))).get? b=some o:=fun b o n q=>(Nt _ _ (N1 n)).trans (Mt _ q)
 have nr:∀b o,h.get? b=some o->(∀us,o.data≠.fields us)->b≠e:=fun b o q z w=>by
  subst w;cases he.symm.trans q;exact z vs hd
 have kb1:base.StaysIn h1:=fun b o q=>(S.2.1 b fun hm=>by rw[(hl.mem hm).1] at q;cases q).trans (ZM b o q)
 refine⟨⟨fun b o q=>keep b o (fun z=>by rw[z,Z2] at q;cases q) (kb1 b o q),hl.of_keeps fun b o q z=>?_,?_,fun b o q z=>?_⟩,⟨_,e3,nf _ _ p⟩⟩
 ·obtain⟨sl,w⟩:=S.2.2 b o q;exact⟨_,keep b _ (nr b o q z) w,rfl⟩
 ·refine⟨_,_,h1.objs.size,ot,ts,e3,⟨SX _ _,?_⟩,d3,by simp[hsz],kb1.fresh,Te,(Nt _ _ (N1 Te)).trans (ML h1 (PB dt)),dt,t3⟩;rw[Array.getElem?_setIfInBounds_ne (by decide)];exact h0
 ·obtain⟨sl,w⟩:=S.2.2 b o q;exact⟨sl,keep b _ (nr b o q z) w⟩
theorem wV{oe:Obj}(nf:HF φ)(p:φ oe)(Yu:A.frames=some (env :: outer))(hl:s.heap.FunFrames base (env :: outer))(hf:env.frame=some L)(he:s.heap.get? e=some oe)(ZM:base.StaysIn s.heap)(Z2:base.get? e=none)(hd:oe.data=.fields vs)(h1:vs[1]?=some .none)(h0:vs[0]?=some a0)
  (k:∀h',W5 base (env :: outer) e oe.cls a0 (rawInt L) s.heap h'->D4 φ e h'->Q () {s with heap:=h'}):wpAny M A (noteFrame (.ref e) env) Q E s:=by
 have hsz:=(NR.mp h1).1;unfold noteFrame;simp only[hf];refine Ms (Nn he hd h1 ?_);rw[if_neg (by decide)];exact mW Yu hl hf he hd hsz fun g1 ot ts S e1 dt t3=>(lA nf p hl he ZM Z2 hd hsz h0 S e1 dt t3).elim (k _)
theorem rF(nf:HF φ)(p:D4 φ e s.heap)(Yu:A.frames=some (env :: outer))(hl:s.heap.FunFrames base (env :: outer))(hf:env.frame=some L)(ht:s.heap.TracedW base e cls a0)(ZM:base.StaysIn s.heap)(Z2:base.get? e=none)
  (k:∀h',W5 base (env :: outer) e cls a0 (rawInt L) s.heap h'->D4 φ e h'->Q () {s with heap:=h'}):wpAny M A (noteFrame (.ref e) env) Q E s:=by
 obtain⟨oe,vs,T,oT,ts,he,⟨rfl,h0⟩,hd,h1,nT,Te,hT,dT,h3⟩:=ht;obtain⟨o',q',p⟩:=p;cases he.symm.trans q';have hsz:=(NR.mp h1).1;unfold noteFrame;simp only[hf];refine Ms (Nn he hd h1 ?_);rw[if_pos (by simp)];refine Ms (Nn hT dT h3 ?_);rw[if_neg (by simp[rawInt])];refine Ms (Qc hT dT (NR.mp h3).1 ?_);have other:∀b,b≠T->(s.heap.update T (Of (·.setIfInBounds 3 NJ))).get? b=s.heap.get? b:=fun b n=>Nt _ _ (N1 n)
 have nr:∀b o,s.heap.get? b=some o->(∀us,o.data≠.fields us)->b≠T:=fun b o q z w=>by
  subst w;cases hT.symm.trans q;exact z ts dT
 have Zz:Heap.FunFrames (s.heap.update T (Of (·.setIfInBounds 3 NJ))) base (env :: outer):=hl.of_keeps fun b o q z=>⟨o,(other b (nr b o q z)).trans q,rfl⟩
 have he2:=(other e (N1 Te)).trans he;have kb2:base.StaysIn (s.heap.update T (Of (·.setIfInBounds 3 NJ))):=fun b o q=>(other b fun z=>by rw[z,nT] at q;cases q).trans (ZM b o q)
 refine mW (s:={s with heap:=s.heap.update T (Of (·.setIfInBounds 3 NJ))}) Yu Zz hf he2 hd hsz fun g1 ot us S e1 dt t3=>?_
 obtain⟨⟨x1,x2,x3,x4⟩,x5⟩:=lA nf p Zz he2 kb2 Z2 hd hsz h0 S e1 dt t3;exact k _ ⟨x1,x2,x3,fun b o q z=>x4 b o ((other b (nr b o q z)).trans q) z⟩ x5
theorem eY(p:D4 φ e s.heap)(ZM:base.StaysIn s.heap)(hl:s.heap.FunFrames base l)(ht:s.heap.TracedAtW base e cls a0 fl)
  (k:∀h',base.StaysIn h'->h'.FunFrames base l->h'.TracedW base e cls a0->s.heap.UpToSlots h'->D4 φ e h'->Q () {s with heap:=h'}):wpAny M A (setFlight (.ref e) none) Q E s:=by
 obtain⟨oe,vs,T,oT,ts,he,hc,hd,h1,nT,Te,hT,dT,h3⟩:=ht;obtain⟨o',q',p⟩:=p;cases he.symm.trans q';have hsz:=(NR.mp h3).1;have other:∀b,b≠T->(s.heap.update T (Of (·.setIfInBounds 3 ((none:Option Addr).elim NJ fun f=>rawInt f)))).get? b=s.heap.get? b:=fun b n=>Nt _ _ (N1 n)
 have nr:∀b o,s.heap.get? b=some o->(∀us,o.data≠.fields us)->b≠T:=fun b o q z w=>by
  subst w;cases hT.symm.trans q;exact z ts dT
 unfold setFlight;refine Ms (Nn he hd h1 ?_);rw[if_pos (by simp)];refine Qc hT dT hsz (k _ (fun b o q=>(other b fun z=>by rw[z,nT] at q;cases q).trans (ZM b o q)) (hl.of_keeps fun b o q z=>⟨o,(other b (nr b o q z)).trans q,rfl⟩) ?_ (fun b o q z=>⟨o.slots,(other b (nr b o q z)).trans q⟩) ⟨_,(other e (N1 Te)).trans he,p⟩);exact⟨oe,vs,T,_,_,(other e (N1 Te)).trans he,hc,hd,h1,nT,Te,NB _ hT (PB (O5 dT _)),O5 dT _,by simp[hsz]⟩
def sJ(φ:Obj->Prop)(B:Heap)(l:List Env)(e:Addr)(cls a0:Mu)(h:Heap):Prop:=Heap.FlyingW B l e cls a0 h/\D4 φ e h
theorem jd{h:Heap}{oe:Obj}(nf:HF φ)(p:φ oe)(Yu:A.frames=some (env :: outer))(hl:s.heap.FunFrames base (env :: outer))(hf:env.frame=some L)(he:s.heap.get? e=some oe)(ZM:base.StaysIn s.heap)(Z2:base.get? e=none)(hd:oe.data=.fields vs)(h1:vs[1]?=some .none)(h0:vs[0]?=some a0)
  (k:∀h',sJ φ base outer e oe.cls a0 h'->s.heap.UpToSlots h'->Q () {s with heap:=h'}):wpAny M A (leaving env (.ref e)) Q E s:=by
 unfold leaving;refine Ms (wV nf p Yu hl hf he ZM Z2 hd h1 h0 fun g1 ⟨x1,x2,x3,x4⟩ x5=>?_);refine eY (s:={s with heap:=g1}) x5 x1 x2 x3 fun g2 y1 y2 y3 y4 y5=>k g2 ⟨⟨y1,Z2,y2.2.2,y3⟩,y5⟩ (UU (h₂:=g1) x4 y4)
theorem w4(nf:HF φ)(Yu:A.frames=some (env :: outer))(hf:env.frame=some L)(fl:sJ φ base (env :: outer) e cls a0 s.heap)(k:∀h',sJ φ base outer e cls a0 h'->s.heap.UpToSlots h'->Q () {s with heap:=h'}):wpAny M A (leaving env (.ref e)) Q E s:=by
 obtain⟨⟨f1,f2,f3,f4⟩,p⟩:=fl;unfold leaving;refine Ms (rF nf p Yu f3 hf f4 f1 f2 fun g1 ⟨x1,x2,x3,x4⟩ x5=>?_);refine eY (s:={s with heap:=g1}) x5 x1 x2 x3 fun g2 y1 y2 y3 y4 y5=>k g2 ⟨⟨y1,f2,y2.2.2,y3⟩,y5⟩ (UU (h₂:=g1) x4 y4)
theorem rL(nf:HF φ)(Yu:A.frames=some (env :: outer))(hf:env.frame=some L)(fl:sJ φ base (env :: outer) e cls a0 s.heap)(k:∀h',Heap.HeldW base (env :: outer) e cls a0 L h'->D4 φ e h'->s.heap.UpToSlots h'->Q () {s with heap:=h'}):wpAny M A (noteFrame (.ref e) env) Q E s:=by
 obtain⟨⟨f1,f2,f3,f4⟩,p⟩:=fl;exact rF nf p Yu f3 hf f4 f1 f2 fun g1 ⟨x1,x2,x3,x4⟩ x5=>k g1 ⟨x1,f2,x2,x3⟩ x5 x4
theorem ED(hh:Heap.HeldW base l e cls a0 L s.heap)(p:D4 φ e s.heap)(k:∀h',sJ φ base l e cls a0 h'->s.heap.UpToSlots h'->Q () {s with heap:=h'}):wpAny M A (setFlight (.ref e) none) Q E s:=by
 obtain⟨f1,f2,f3,f4⟩:=hh;exact eY p f1 f3 f4 fun g2 y1 y2 y3 y4 y5=>k g2 ⟨⟨y1,f2,y2,y3⟩,y5⟩ y4
theorem je(fl:sJ φ base l e cls a0 s.heap)(k:∀h',sJ φ base l e cls a0 h'->s.heap.UpToSlots h'->Q () {s with heap:=h'}):wpAny M A (setFlight (.ref e) none) Q E s:=by
 obtain⟨⟨f1,f2,f3,f4⟩,p⟩:=fl;exact eY p f1 f3 f4.at fun g2 y1 y2 y3 y4 y5=>k g2 ⟨⟨y1,f2,y2,y3⟩,y5⟩ y4
end
structure Kg (P:MP) (w:M4) (outer:List Env) (H H':Hp) (h B h':Heap):Prop where
 hok:HOk P w H' B
 keep:∀b o,h.get? b=some o->H b=none->b∉frs outer->B.get? b=some o
 slot:∀b o,h.get? b=some o->H b=none->b∈frs outer->∃sl,h'.get? b=some {o with slots:=sl}
 free:∀b o,h.get? b=some o->H b=none->H' b=none
 there:∀b o,h.get? b=some o->b∉frs outer->∃o',B.get? b=some o'
 tups:∀b xs,H b=some (.tup xs)->H' b=some (.tup xs)
 frzs:∀b o u,H b=some (.frz o u)->H' b=some (.frz o u)
 tbls:∀b ps,H b=some (.tbl ps)->∃more,H' b=some (.tbl (ps++more))
def ff(P:MP)(w:M4):jF:=fun outer H s E e s' =>
 ∃(ea C:Addr) (a0:Mu) (B:Heap) (H':Hp) (d:Option Addr),e=.ref ea/\sJ (fun o=>o.dict=d) B outer ea (.ref C) a0 s'.heap/\Kg P w outer H H' s.heap B s'.heap/\s'.os=s.os/\RO s'.gens/\E (.ref C) d H'
theorem hU{d:Option Addr}:HF fun o=>o.dict=d:=fun o f h=>by
 obtain⟨c,dd,da,sl⟩:=o;cases da <;> exact h
structure gL (X:Cx):Prop where
 stk:X.stack=X.env :: X.outer
 frm:X.env.frame=some X.env.locals
 exs:X.ex=[]
section
variable{X:Cx}{ξ:List (Addr×Obj)}{σ:St}{H:Hp}{s:MA}
theorem gL.frs(o:gL X):frs X.stack=X.env.locals :: X.fs:=by
 rw[o.stk];unfold L2.frs;rw[Oh,o.frm];rfl
theorem Inv.old_ne(I:Inv X ξ σ H s){b:Addr}{o:Obj}(e:X.s₀.heap.get? b=some o):b≠X.env.locals:=MC (Nc (MG e) I.ok.above)
theorem Inv.iR(I:Inv X ξ σ H s)(o:gL X){b:Addr}{ob:Obj}(e:X.s₀.heap.get? b=some ob)(h:b∉X.fs):b∉L2.frs X.stack:=by
 rw[o.frs];intro z;rcases MD.mp z with z|z
 ·exact I.old_ne e z
 ·exact h z
theorem Inv.k_(I:Inv X ξ σ H s){b:Addr}{o:Obj}(hb:b∈X.fs)(e:s.heap.get? b=some o):∀vs,o.data≠.fields vs:=by
 obtain⟨_,o',e',d⟩:=I.funs.mem hb;rw[e] at e';cases e';exact d
theorem w6{E:XK}(I:Inv X ξ σ H s)(o:gL X)(hx:Heap.MadeExcOf s.heap h2 e (.ref C) args)(hE:E (.ref C) none H) :
  wpAny M X.A (leaving X.env (.ref e)) (fun _ Ze=>ff X.prog X.w X.outer X.H₀ X.s₀ E (.ref e) Ze) E' {s with heap:=h2}:=by
 have FF:s.heap.FunFrames X.base (X.env :: X.outer):=o.stk ▸ I.stack;have Yu:X.A.frames=some (X.env :: X.outer):=o.stk ▸ I.ok.frames;have hin:∀env∈(X.env :: X.outer),∀b,env.frame=some b->b∈(X.env :: X.outer).filterMap (·.frame):=fun env he b hb=>N9.mpr ⟨env,he,hb⟩
 have eqf:(X.env :: X.outer).filterMap (·.frame)=L2.frs X.stack:=by rw[o.stk];rfl
 have nox:∀b:Addr,b∉X.ex:=fun b z=>by rw[o.exs] at z;cases z
 have Y0:∀{b:Addr} {ob:Obj},s.heap.get? b=some ob->b∉L2.frs X.stack->(Qq s.heap ((X.env :: X.outer).filterMap (·.frame))).get? b=some ob:=fun {b ob} q n=>Vr _ q (by rw[eqf];exact n)
 obtain⟨t,he,_,_⟩:=hx.there;have ZW:Heap.StaysIn (Qq s.heap ((X.env :: X.outer).filterMap (·.frame))) h2:=fun b ob q=>hx.keeps b ob (Sr _ q)
 have ne2:(Qq s.heap ((X.env :: X.outer).filterMap (·.frame))).get? e=none:=by
  cases z:(Qq s.heap ((X.env :: X.outer).filterMap (·.frame))).get? e with
  |none=>rfl
  |some ob=>have:=Sr _ z;rw[hx.new] at this;cases this
 refine jd (s:={s with heap:=h2}) (φ:=fun o=>o.dict=none) (base:=Qq s.heap ((X.env :: X.outer).filterMap (·.frame))) (h:=s.heap) hU rfl Yu ((PySem.W.funFrames_hide FF hin).of_keeps fun b ob q _=>⟨ob,hx.keeps b ob q,rfl⟩) o.frm he ZW ne2 rfl rfl rfl fun h' fl up=>?_
 refine⟨e,C,_,_,H,none,rfl,fl,⟨fun a ob q=>?_,fun b ob q n hb=>?_,fun b ob q n hb=>?_,fun b ob q n=>?_,fun b ob q hb=>?_,I.base.tups,I.base.frzs,I.base.tbls⟩,I.os,I.bare,hE⟩
 ·refine(I.hok a ob q).stay (fun b u hb g=>Y0 g fun z=>?_) (fun _ z=>z) fun _ _ z=>z
  have fz:=I.j_ b z;rcases hb with hb|hb
  ·rw[hb,q] at fz;cases fz
  ·rw[hb] at fz;cases fz
 ·exact Y0 (I.base.keep b ob q n hb (nox b)) (I.iR o q hb)
 ·obtain⟨sl,e1⟩:=I.base.slot b ob q n hb (nox b);obtain⟨Zk,e2⟩:=up b _ (hx.keeps b _ e1) (fun vs=>I.k_ hb e1 vs);exact⟨Zk,e2⟩
 ·exact I.base.free b ob q n (nox b)
 ·obtain⟨o',e1⟩:=I.base.there b ob q (nox b);exact⟨o',Y0 e1 (I.iR o q hb)⟩
theorem CZ(I:Inv X ξ σ H s)(o:gL X)(h:ff X.prog X.w X.stack H s E e s') :
  wpAny M X.A (leaving X.env e) (fun _ Ze=>ff X.prog X.w X.outer X.H₀ X.s₀ E e Ze) E' s':=by
 obtain⟨ea,C,a0,B,H',d,rfl,fl,g,os,bare,hE⟩:=h;have Yu:X.A.frames=some (X.env :: X.outer):=o.stk ▸ I.ok.frames;have nox:∀b:Addr,b∉X.ex:=fun b z=>by rw[o.exs] at z;cases z
 have inS:∀{b:Addr},b∈X.fs->b∈L2.frs X.stack:=fun hb=>by rw[o.frs];exact MO _ hb
 rw[o.stk] at fl;refine w4 hU Yu o.frm fl fun h' fl' up=>?_
 refine⟨ea,C,a0,B,H',d,rfl,fl',⟨g.hok,fun b ob q n hb=>?_,fun b ob q n hb=>?_,fun b ob q n=>?_,fun b ob q hb=>?_,fun b xs q=>g.tups b xs (I.base.tups b xs q),fun b ob u q=>g.frzs b ob u (I.base.frzs b ob u q),fun b ps q=>?_⟩,os.trans I.os,bare,hE⟩
 ·exact g.keep b ob (I.base.keep b ob q n hb (nox b)) (I.base.free b ob q n (nox b)) (I.iR o q hb)
 ·obtain⟨sl,e1⟩:=I.base.slot b ob q n hb (nox b);obtain⟨Zk,e2⟩:=g.slot b _ e1 (I.base.free b ob q n (nox b)) (inS hb);obtain⟨sl'',e3⟩:=up b _ e2 (fun vs=>I.k_ hb e1 vs);exact⟨sl'',e3⟩
 ·obtain⟨o',e1⟩:=I.base.there b ob q (nox b);exact g.free b o' e1 (I.base.free b ob q n (nox b))
 ·obtain⟨o',e1⟩:=I.base.there b ob q (nox b);exact g.there b o' e1 (I.iR o q hb)
 ·obtain⟨m1,e1⟩:=I.base.tbls b ps q;obtain⟨m2,e2⟩:=g.tbls b _ e1;exact⟨m1++m2,by rw[e2,VV]⟩
end
theorem CL{CX:jF}{K:Fg} :
  gL (cS CX P w K mg base N qual sc f cd A outer s H E):=⟨rfl,rfl,rfl⟩
def Lv(X:Cx)(E:XK):Prop:=gL X/\(∀e s',wpAny (model X.prog X.w) X.A (leaving X.env e) (fun _ Ze=>ff X.prog X.w X.outer X.H₀ X.s₀ E e Ze) (fun e' Ze=>ff X.prog X.w X.outer X.H₀ X.s₀ E e' Ze) s'->X.xe e s')
theorem IM{K:Fg} :
  Lv (cS (ff P w) P w K mg base N qual sc f cd A outer s H E) E:=⟨CL,fun _ _ h=>h⟩
theorem EK{CX:jF}{K:Fg} :
  RF (model P w) (cS CX P w K mg base N qual sc f cd A outer s H E).A (cS CX P w K mg base N qual sc f cd A outer s H E).env (cS CX P w K mg base N qual sc f cd A outer s H E).xe:=RF.leaving
theorem Lv.pass(l:Lv X E):db (ff X.prog X.w) X E:=fun _ _ _ _ _ _ I h=>l.2 _ _ (CZ I l.1 h)
theorem bt.okE{K:Fg}{st:Stmt}{sp:Sp}(F:bt K mg x st ps)(S:aF N ps (ah st))(len:∀vs H Q E,sp vs H Q E->vs.length=ps.length)
  (hbody:∀(f:Addr) (gV:Mu) (A:No) (outer:List Env) (s:MA) (H:Hp) (vs:List V) (Q:VK) (E:XK),Room k (A.deeper (envOfC x (ah st) s.heap.objs.size f gV))->sp vs H Q E ->
   ∃t,PSs (cS (ff P w) P w K mg base N x (ah st) f gV A outer s H E) (bM st) t/\t {nx:=fun _ H'=>Q .non H',rt:=Q} (start N vs) H):FnC P w K mg base (ff P w) (k+1) x ps sp:=by
 obtain⟨f,fd,G,hm,hb⟩:=F.ex;obtain⟨oc,od,kV,doc,pm,an,gV,ct,Zj,rfl,lk,hcd⟩:=G.ex;exact⟨f,_,Hc lk hcd S len fun A outer s H vs Q E hr hsp=>hbody f gV A outer s H vs Q E hr hsp,hm,G.kp,hb⟩
structure xo (K:Fg) (mg:Str->Option Mu) (x:Str) (C:Addr) (YU:List Mu) (newId:String):Prop where
 at_:mg x=some (.ref C)
 ok:Q6 K C YU newId=true
theorem lf{K:Fg}(X:K.In h)(ok:Q6 K C YU newId=true) :
  ∃tl N nm q bs hdct sn sub ab col dd k0 k1 k2 k3 k5 mN,h.get? C=some (excClassObj nm q C N bs tl hdct sn sub ab col dd k0 k1 k2 k3 k5 newId)/\h.Ns N mN/\mN "__init__"=none/\Vo h YU tl:=by
 unfold Q6 at ok;split at ok
 ·rename_i dd cd sl lk;split at ok
  ·rename_i C1 tl s0 s1 s2 s3 nw s5 em es;simp only[Ou,beq_iff_eq,Bool.not_eq_true'] at ok;obtain⟨⟨⟨⟨⟨e1,e2⟩,nodel⟩,own⟩,isns⟩,noi⟩:=ok;subst e1 e2;obtain⟨nm,bs,mro,ns,qn,hd,sn,sub,ab,col,Bt⟩:=cd;have em':mro=MX C1 :: tl:=em;have nodel':Bt=false:=nodel;subst em' nodel';obtain⟨sll⟩:=sl;have YC:sll=[s0,s1,s2,s3,some (Mu.builtin nw),s5]:=es;subst YC;exact⟨tl,ns,nm,qn,bs,hd,sn,sub,ab,col,dd,s0,s1,s2,s3,s5,_,X _ _ lk,Heap.Ns.of_isNs (PySem.W.isNs_of_in X isns),PySem.W.nsMap_none_of_in X isns noi,PySem.W.tail_of_in X own⟩
  ·exact absurd ok M_
 ·exact absurd ok M_
def eJ(E:XK)(C:Addr)(te:TE):TS:=fun _ σ H=>te σ H fun x H1=>[x].length=1/\E (.ref C) none H1
theorem cT{XH pos:Pos}{te:TE}(l:Lv X E)(hc:X.calm=true)(hg:Gl X x)(c:xo X.K X.mg x C YU newId)(FB:T_ B newId Yw YU)(he:PE X e₀ te)
  (hst:starEach [e₀] X.env=[(false,eval e₀ X.env)]:=by rfl) (hdb:(x == ("__debug__":Str))=false:=by decide) :
  PS X (.Raise (some (.Call (.Name x np) [e₀] [] XH)) none pos) (eJ E C te):=by
 intro ξ s σ H D I h;obtain⟨tl,N,nm,q,bs,hdct,sn,sub,ab,col,dd,k0,k1,k2,k3,k5,mN,hC,hN,hni,T⟩:=lf I.mod.kin c.ok
 refine wpAny_Raise_call_subT (C:=C) (nm:=nm) (q:=q) (N:=N) (bs:=bs) (bm:=tl) (hdct:=hdct) (sn:=sn) (sub:=sub) (ab:=ab) (col:=col) (dd:=dd) (k0:=k0) (k1:=k1) (k2:=k2) (k3:=k3) (k5:=k5)
  FB (mN:=mN) (T.hasType FB.hasBase) (I.ok.hd hc) (by rw[hst];rfl) hni (eV I hg c.at_ ⟨rfl,?_⟩ hdb)
 have ha:PA X [e₀] (ag te am):=aa he af (by rw[hst];rfl);have r:=ha XH ξ s σ H (fun vs H1=>vs.length=1/\E (.ref C) none H1) I h;rw[hst] at r ⊢;refine PQ (Nj r (fun us s2 ⟨vs,H1,I2,rv,hl,hE⟩=>⟨rfl,by rw[<- rv.length,hl];decide,I2.bk _ _ hC,hN.keeps I2.bk,T.keeps I2.bk,fun h' e hx=>l.2 _ _ (w6 I2 l.1 hx hE)⟩) fun _ _ y=>y)
section
variable{M:Model}{A:No}{E:Mu->MA->Prop}{h:Heap}{g:Array GenState}{d:Drawn}{t:Nat}{os:Vl}
theorem lh{C D:Addr}{sn:List Str}
  {e:Addr} {oe:Obj} {Q:Bool->MA->Prop}
  (hC:h.get? C=some (excClassObj nm q C N bs tl hd sn su ab co dd k0 k1 k2 k3 k5 nw)) (hD:h.get? D=some (excClassObj nm' q' D N' bs' tl' Zy sn' su' ab' co' dd' j0 j1 j2 j3 j5 nw'))
  (he:h.get? e=some oe) (hc:oe.cls=.ref C) (hb:tl'.contains (.type "BaseException")=true) (hs:(MX C :: tl).contains (.ref D)=true)
  (hq:Q true ⟨h,g,d,t,os⟩):wpAny M A (excMatches (.ref e) (.ref D)) Q E ⟨h,g,d,t,os⟩:=by
 have hB:(MX D :: tl').contains (.type "BaseException")=true:=by rw[List.contains_cons,hb,Bool.or_true]
 have nt:=tc_notTuple;unfold excMatches
 repeat (first
  |(with_reducible refine OP he ?_;rw[hc])
  |with_reducible refine OP hD ?_
  |with_reducible refine OP hC ?_
  |(with_reducible refine Q4 hD ?_;rw[hB])
  |(with_reducible refine Q4 hC ?_;rw[hs])
  |wp_step)
 exact hq
end
theorem bX.there(x:bX P w H h a o):∃ob,h.get? a=some ob:=by
 cases o with
 |lst xs=>obtain⟨_,_,_,_,e⟩:=x;exact⟨_,e⟩
 |tup xs=>obtain⟨_,_,_,ob,e,_⟩:=x;exact⟨ob,e⟩
 |dK fx=>obtain⟨_,_,_,_,ob,_,_,e,_⟩:=x;exact⟨ob,e⟩
 |dT fx=>obtain⟨_,_,_,_,ob,_,_,e,_⟩:=x;exact⟨ob,e⟩
 |set S n=>obtain⟨ob,_,_,_,e,_⟩:=x;exact⟨ob,e⟩
 |ins C dx fs=>obtain⟨_,_,_,e,_⟩:=x;exact⟨_,e⟩
 |own y=>exact x
 |xd fs=>obtain⟨_,⟨ob,_,_,e,_⟩,_⟩:=x;exact⟨ob,e⟩
 |rng lo hi=>obtain⟨_,_,_,e⟩:=x;exact⟨_,e⟩
 |frz ob u=>obtain⟨e,_⟩:=x;exact⟨_,e⟩
 |tbl ps=>exact⟨_,(show h.get? a=some _ from x)⟩
 |met f y=>exact⟨_,(show h.get? a=some _ from x)⟩
 |ext φ=>obtain⟨_,e,_⟩:=x;exact e
section
variable{X:Cx}{ξ:List (Addr×Obj)}{σ:St}{H H':Hp}{s s':MA}
theorem Inv.back(I:Inv X ξ σ H s)(o:gL X)(g:Kg X.prog X.w X.stack H H' s.heap B s'.heap)(Zc:s'.os=s.os)(bare:RO s'.gens)(st:B.StaysIn h5)(up:s'.heap.UpToSlots h5) :
  Inv X ξ σ H' {s' with heap:=h5}:=by
 obtain⟨hh,g',d',t',os'⟩:=s';have e:os'=s.os:=Zc;subst e;have inS:∀{b:Addr},b∈X.fs->b∈L2.frs X.stack:=fun hb=>by rw[o.frs];exact MO _ hb
 have inL:X.env.locals∈L2.frs X.stack:=by rw[o.frs];exact MM
 have out:∀{b:Addr},b≠X.env.locals->b∉X.fs->b∉L2.frs X.stack:=fun h1 h2 z=>by
  rw[o.frs] at z;rcases MD.mp z with z|z
  ·exact h1 z
  ·exact h2 z
 have nsL:∀m,s.heap.Ns X.env.locals m->h5.Ns X.env.locals m:=fun m hm=>by
  obtain⟨ob,es,ep,ho,hd,r⟩:=hm;obtain⟨sl,e1⟩:=g.slot _ ob ho I.free inL;obtain⟨Zk,e2⟩:=up _ _ e1 (fun vs z=>by have z':ob.data=.fields vs:=z;rw[hd] at z';cases z');exact⟨_,es,ep,e2,hd,r⟩
 suffices r:Inv X ξ σ H' {s with heap:=h5,gens:=g',drawn:=d',toks:=t'} from r
 refine I.step (ch:=[]) (fun _ z=>nomatch z) (fun b ob nl nf _ e n=>st b ob (g.keep b ob e n (out nl nf))) (fun b ob nl hb _ e n=>?_) (fun b ob _ e n=>g.free b ob e n) (fun b ob _ e=>?_) g.tups g.frzs g.tbls nsL (g.hok.kept st) bare
 ·obtain⟨sl,e1⟩:=g.slot b ob e n (inS hb);obtain⟨Zk,e2⟩:=up b _ e1 (fun vs=>I.k_ hb e vs);exact⟨Zk,e2⟩
 ·by_cases hb:b∈L2.frs X.stack
  ·have hb':=hb;rw[o.frs] at hb';rcases MD.mp hb' with z|z
   ·obtain⟨m,hn,_⟩:=I.loc;obtain⟨o',_,_,Zb,_⟩:=nsL m hn;exact⟨o',by rw[z];exact Zb⟩
   ·obtain⟨sl,e1⟩:=g.slot b ob e (I.j_ b hb) hb;obtain⟨Zk,e2⟩:=up b _ e1 (fun vs=>I.k_ z e vs);exact⟨_,e2⟩
  ·obtain⟨o',e1⟩:=g.there b ob e hb;exact⟨o',st b o' e1⟩
def JO(e C:Addr):HO:=.ext fun h=>∃oe,h.get? e=some oe/\oe.cls=.ref C
theorem Hd{h:Heap}{e:Addr}{oe:Obj}(he:h.get? e=some oe)(hc:oe.cls=.ref C):bX P w H h e (JO e C) :=
 ⟨⟨oe,he,hc⟩,⟨oe,he⟩,fun _ _ ⟨o,h1,h2⟩ k=>⟨o,k o h1,h2⟩⟩
def JP(e C dx:Addr):HO:=.ext fun h=>∃oe,h.get? e=some oe/\oe.cls=.ref C/\oe.dict=some dx/\Sy oe=true
theorem He{h:Heap}{e dx:Addr}{oe:Obj}(he:h.get? e=some oe)(hc:oe.cls=.ref C)(hd:oe.dict=some dx)(hn:Sy oe=true):bX P w H h e (JP e C dx) :=
 ⟨⟨oe,he,hc,hd,hn⟩,⟨oe,he⟩,fun _ _ ⟨o,h1,h2⟩ k=>⟨o,k o h1,h2⟩⟩
@[reducible] def DC (e C:Addr):Option Addr->HO
 |none=>JO e C
 |some dx=>JP e C dx
theorem DB{h:Heap}{e:Addr}{oe:Obj}{d:Option Addr}(he:h.get? e=some oe)(hc:oe.cls=.ref C)(hd:oe.dict=d)(hn:Sy oe=true):bX P w H h e (DC e C d):=by
 cases d with
 |none=>exact Hd he hc
 |some dx=>exact He he hc hd hn
def DZ(H:Hp)(e C:Addr):Prop:=∃d,H e=some (DC e C d)
theorem Inv.track(I:Inv X ξ σ H s)(hn:H e=none)(h0:X.s₀.heap.get? e=none)(hL:e≠X.env.locals)(hc:∀x c,X.env.cells.lookup x=some c->c≠e)(hp:∀p∈X.pn++ξ,p.1≠e)
  (ok:bX X.prog X.w (upd H e o) s.heap e o):Inv X ξ σ (upd H e o) s:=by
 have ne:∀b u,H b=some u->b≠e:=fun b u q z=>by rw[z,hn] at q;cases q
 refine⟨I.ok,I.os,I.bare,⟨I.base.keep,I.base.slot,fun b ob q n hx=>?_,I.base.there,fun b xs q=>?_,fun b ob u q=>?_,fun b ps q=>?_⟩,I.loc,I.cell,?_,fun x c q=>?_,fun p hq=>?_,fun a u q=>?_,I.len⟩
 ·rw[av (fun z=>by rw[z,h0] at q;cases q)];exact I.base.free b ob q n hx
 ·have z:=I.base.tups b xs q;rw[av (ne _ _ z)];exact z
 ·have z:=I.base.frzs b ob u q;rw[av (ne _ _ z)];exact z
 ·obtain⟨m,z⟩:=I.base.tbls b ps q;exact⟨m,by rw[av (ne _ _ z)];exact z⟩
 ·rw[av (N1 hL)];exact I.free
 ·rw[av (hc x c q)];exact I.freeC x c q
 ·obtain⟨q1,q2,q3⟩:=I.pin p hq;exact⟨q1,by rw[av (hp p hq)];exact q2,q3⟩
 ·by_cases z:a=e
  ·subst z;rw[ak] at q;cases q;exact ok
  ·rw[av z] at q;exact(I.hok a u q).stay (fun _ _ _ r=>r) (fun b r=>by rw[av (ne _ _ r)];exact r) fun b xs r=>by rw[av (ne _ _ r)];exact r
theorem BC{i:Nat}{n:Str}{pos:Pos}{Q:Unit->MA->Prop}(I:Inv X ξ σ H s)(hN:X.N.Nodup)(hi:X.N[i]?=some n)(hk:X.env.scope.names.lookup n=some .local)
  (h:∀s',Inv X ξ (σ.set i none) H s'->Q () s'):wpAny M A (do bindName X.env n .none;unbindBehindTheSuite X.env n pos) Q E s:=by
 have hcls:(X.env.scope.kind == .class || (X.env.scope.kind == .module && X.env.locals != X.env.globals))=false:=by rw[I.ok.kind];rfl
 have Y2:i<σ.length:=by rw[I.len];exact(My.mp hi).1
 refine Ms (wpAny_bindName (gW I hN hi (.inl hk) (v:=.non) rfl (fun s1 I1=>?_) (.inr hk)));obtain⟨m,hn,hl⟩:=id I1.loc;obtain⟨u,ru,lu⟩:=hl i n .non hi (by rw[OM Y2]) (.inl hk)
 have hmn:m n=some u:=by
  rcases lu with⟨_,z⟩|⟨z,_⟩
  ·exact z
  ·have k':X.env.kindOf n=some .local:=hk;rcases z with z|z <;> (rw[k'] at z;cases z)
 unfold unbindBehindTheSuite;refine OL (wpAny_unbindName_local hk hn hmn hcls fun h' v hn' hs=>?_);have cne:=I1.cne;obtain⟨oL,_,_,hoL,_⟩:=id hn
 have tracked:HOk X.prog X.w H h':=fun b ob e=>by
  refine(I1.hok b ob e).stay (fun c w' hc q=>(hs.2 c ?_).trans q) (fun _ q=>q) fun _ _ q=>q
  rintro rfl;have fr:=I1.free;rcases hc with hc|hc
  ·rw[hc] at fr;rw[fr] at e;cases e
  ·rw[fr] at hc;cases hc
 refine h _ ⟨I.ok,I1.os,I1.bare,⟨fun b ob e n hb hx=>?_,fun b ob e n hb hx=>?_,I1.base.free,fun b ob e hx=>?_,I1.base.tups,I1.base.frzs,I1.base.tbls⟩,⟨_,hn',fun j y v' e1 e2 e3=>?_⟩,fun y c e=>?_,I1.free,I1.freeC,fun p hp=>?_,tracked,by simpa using I.len⟩
 ·exact(hs.2 b (I.old_ne e)).trans (I1.base.keep b ob e n hb hx)
 ·obtain⟨sl,e1⟩:=I1.base.slot b ob e n hb hx;exact⟨sl,(hs.2 b (I.old_ne e)).trans e1⟩
 ·obtain⟨o',e1⟩:=I1.base.there b ob e hx;exact⟨o',(hs.2 b (I.old_ne e)).trans e1⟩
 ·by_cases hj:j=i
  ·subst hj;rw[OM Y2] at e2;cases e2
  ·rw[QL (N1 hj)] at e2;obtain⟨u',r',q⟩:=hl j y v' e1 (by rw[QL (N1 hj)];exact e2) e3;refine⟨u',r',?_⟩;rcases q with⟨k,e⟩|⟨k,c,e,z⟩
   ·refine .inl ⟨k,?_⟩;have ny:y≠n:=fun z=>hj (jN hN e1 (z ▸ hi))
    simp[ny,e]
   ·exact .inr ⟨k,c,e,z.sameBut hs (cne y c e)⟩
 ·obtain⟨w',z⟩:=I1.cell y c e;exact⟨w',z.sameBut hs (cne y c e)⟩
 ·obtain⟨e,n',ne,nf,d⟩:=I1.pin p hp;exact⟨(hs.2 p.1 ne).trans e,n',ne,nf,d⟩
abbrev Cx.marked(X:Cx)(e:Addr):Cx:={X with A:=X.A.mark (some (.ref e)),calm:=false,xe:=fun _ _=>False}
theorem Inv.marked(I:Inv X ξ σ H s)(e:Addr):Inv (X.marked e) ξ σ H s :=
 ⟨⟨I.ok.mod,I.ok.kind,I.ok.glob,I.ok.blt,I.ok.above,I.ok.inj,I.ok.has,I.ok.cab,fun z=>WI z,I.ok.frames,I.ok.stk,I.ok.exf,I.ok.bs,I.ok.bsz,I.ok.noex,I.ok.exfs,I.ok.funs,I.ok.frf⟩,
  I.os,I.bare,I.base,I.loc,I.cell,I.free,I.freeC,I.pin,I.hok,I.len⟩
theorem Inv.unmarked(I0:X.Ok)(I:Inv (X.marked e) ξ σ H s):Inv X ξ σ H s:=⟨I0,I.os,I.bare,I.base,I.loc,I.cell,I.free,I.freeC,I.pin,I.hok,I.len⟩
end
structure Bl (K:Fg) (mg:Str->Option Mu) (x:Str) (D:Addr):Prop where
 at_:mg x=some (.ref D)
 ok:∃YU newId,Q6 K D YU newId=true/\YU.contains (.type "BaseException")=true
def DY(K:Fg)(C:Addr):Prop:=∀h:Heap,K.In h->∃tl N nm q bs hdct sn sub ab col dd k0 k1 k2 k3 k5 newId,h.get? C=some (excClassObj nm q C N bs tl hdct sn sub ab col dd k0 k1 k2 k3 k5 newId)
theorem ie{K:Fg}(ok:Q6 K C YU newId=true):DY K C:=fun h X=>by
 obtain⟨tl,N,nm,q,bs,hdct,sn,sub,ab,col,dd,k0,k1,k2,k3,k5,mN,hC,_⟩:=lf X ok;exact⟨tl,N,nm,q,bs,hdct,sn,sub,ab,col,dd,k0,k1,k2,k3,k5,newId,hC⟩
def fo(K:Fg)(C D:Addr):Prop:=DY K C/\VE K C (.ref D)=some true
theorem zN{K:Fg}{C:Addr}{sn:List Str}(X:K.In h)
  (hC:h.get? C=some (excClassObj nm q C N bs tl hd sn su ab co dd k0 k1 k2 k3 k5 nw)) (e:VE K C (.ref D)=some true):(MX C :: tl).contains (.ref D)=true:=by
 obtain⟨cd,a,b⟩:=Qa.mp e;unfold Xs at a;split at a
 ·rename_i c1 d1 cd1 s1 lk;cases a;have z:=(X _ _ lk).symm.trans hC;unfold excClassObj at z;cases z;split at b
  ·cases b
  ·exact MY b
 ·cases a
section
variable{X:Cx}{ξ:List (Addr×Obj)}{σ:St}{H:Hp}{s s':MA}
def Bb(K:Fg)(Dv:Addr)(n y:Nat)(D:bJ)(σ:St):XK:=fun c d H2=>∃C,c=.ref C/\fo K C Dv/\∀e,H2 e=none->D.nx (((σ.set n (some (.ref e))).set y (some (.ref e))).set n none) (upd H2 e (DC e C d))
theorem Hm{n y:Nat}{xn xy:Str}{D:bJ}{p3 pos:Pos}(I:Inv X ξ σ H s)(o:gL X)(hg:Gl X v)(V:Bl X.K X.mg v Dv)(hN:X.N.Nodup)(hn:X.N[n]?=some xn)(hy:X.N[y]?=some xy)
  (ln:X.env.scope.names.lookup xn=some .local) (ly:X.env.scope.names.lookup xy=some .local) (hnd:(xn == ("__debug__":Str))=false) (hnc:(xn == ("__classdict__":Str))=false)
  (hsw:swapsWith (.Name xn p2) (some (.Name xy p1)) p3.line X.env=pure false)
  (h:ff X.prog X.w X.stack H s (Bb X.K Dv n y D σ) e s') (hdb:(v == ("__debug__":Str))=false:=by decide) :
  wpAny (model X.prog X.w) X.A (noteFrame e X.env) (fun _ s₂=>wpAny (model X.prog X.w) X.A (setFlight e none) (fun _ s₃ =>
   wpAny (model X.prog X.w) X.A (handleBy e X.env [.ExceptHandler (some (.Name v vp)) (some xn) [.Assign [.Name xy p1] (.Name xn p2) p3] pos]) (SP X ξ D) X.xe s₃) X.xe s₂) X.xe s':=by
 obtain⟨ea,C,a0,B,H',d,rfl,fl,g,Zc,bare,C',eC,⟨okC,mro⟩,k⟩:=h;cases eC;have Yu:X.A.frames=some (X.env :: X.outer):=o.stk ▸ I.ok.frames;rw[o.stk] at fl;have be:B.get? ea=none:=fl.1.2.1;refine rL hU Yu o.frm fl fun h4 Zo at4 up4=>?_
 refine ED (s:={s' with heap:=h4}) Zo at4 fun h5 fl5 up5=>?_
 have Zx:=up4.trans up5;have I5:Inv X ξ σ H' {s' with heap:=h5}:=I.back o g Zc bare fl5.1.1 Zx;obtain⟨oe5,he5,hc5⟩:=fl5.1.there;have I5m:=I5.marked ea;refine Vx (Uy (eV (X:=X.marked ea) I5m hg V.at_ ?_ hdb)) (by intro q;cases q);obtain⟨tl,N,nm,q,bs,hdct,sn,sub,ab,col,dd,k0,k1,k2,k3,k5,nwC,hC⟩:=okC _ I5.kIn;obtain⟨bmV,nwV,okV,hbV⟩:=V.ok;obtain⟨tl',N',nm',q',bs',hdct',sn',sub',ab',col',dd',j0,j1,j2,j3,j5,mN',hV,_,_,TV⟩:=lf I5.kIn okV;refine lh hC hV he5 hc5 (TV.hasType hbV) (zN I5.kIn hC mro) ?_;refine codeAny_handlers_suite_as ?_;refine je (s:={s' with heap:=h5}) fl5 fun h6 fl6 up6=>?_
 have I6:Inv X ξ σ H' {s' with heap:=h6}:=I.back o g Zc bare fl6.1.1 (Zx.trans up6);obtain⟨oe,ws,he,hc,hdat,_⟩:=fl6.1.first
 have Zh:oe.dict=d:=by
  obtain⟨o',q1,q2⟩:=fl6.2;cases he.symm.trans q1;exact q2
 have se:s.heap.get? ea=none:=by
  cases z:s.heap.get? ea with
  |none=>rfl
  |some ob =>
   by_cases hb:ea∈L2.frs X.stack
   ·rw[o.stk] at hb;obtain⟨_,o2,ZC,d2⟩:=fl6.1.2.2.1.mem hb;rw[he] at ZC;cases ZC;exact absurd hdat (d2 _)
   ·obtain⟨o',e1⟩:=g.there ea ob z hb;rw[be] at e1;cases e1
 have s0e:X.s₀.heap.get? ea=none:=by
  cases z:X.s₀.heap.get? ea with
  |none=>rfl
  |some ob =>
   obtain⟨o',e1⟩:=I.base.there ea ob z (fun q=>by rw[o.exs] at q;cases q);rw[se] at e1;cases e1
 have hL:ea≠X.env.locals:=fun z=>by
  obtain⟨m,⟨ob,_,_,ho,_⟩,_⟩:=I.loc;rw[<- z,se] at ho;cases ho
 have ZK:∀x c,X.env.cells.lookup x=some c->c≠ea:=fun x c q z=>by
  obtain⟨v',ob,ho,_⟩:=I.cell x c q;rw[z,se] at ho;cases ho
 have hpn:∀p∈X.pn++ξ,p.1≠ea:=fun p hp z=>by
  have ho:=(I.pin p hp).1;rw[z,se] at ho;cases ho
 have YV:H' ea=none:=by
  cases z:H' ea with
  |none=>rfl
  |some u =>
   obtain⟨ob,e1⟩:=(g.hok ea u z).there;rw[be] at e1;cases e1
 have I7:Inv X ξ σ (upd H' ea (DC ea C d)) {s' with heap:=h6}:=I6.track YV s0e hL ZK hpn (DB he hc Zh (by unfold Sy;rw[hdat]));refine gW (X:=X.marked ea) (I7.marked ea) hN hn (.inl ln) (v:=.ref ea) rfl (fun s8 I8=>?_) (.inr ln);have suite:PSs (X.marked ea) [.Assign [.Name xy p1] (.Name xn p2) p3] (aQ (ac n) (aJ y)):=aj (aG hN hy (.inl ly) (Ep hn (.inl ln) hnd hnc) hsw (.inr ly));have Y2:n<σ.length:=by rw[I.len];exact(My.mp hn).1
 refine Nj (suite ξ s8 _ _ {nx:=fun σ9 H9=>D.nx (σ9.set n none) H9,rt:=fun _ _=>False} I8 ⟨.ref ea,OM Y2,k ea YV⟩) (fun f s9 q9=>?_) fun _ _ z=>z.elim
 cases f with
 |next =>
  obtain⟨σ9,H9,I9,q⟩:=q9;exact BC (I9.unmarked I.ok) hN hn ln fun s10 I10=>⟨_,H9,I10,q⟩
 |ret u=>obtain⟨_,_,_,_,_,z⟩:=q9;exact z.elim
 |brk=>obtain⟨_,_,_,z⟩:=q9;exact z.elim
 |cont=>obtain⟨_,_,_,z⟩:=q9;exact z.elim
end
theorem zt{X:Cx}:db (ff X.prog X.w) X E0:=fun _ _ _ _ _ _ _ h=>by
 obtain⟨_,_,_,_,_,_,_,_,_,_,_,z⟩:=h;exact z.elim
section
variable{P:MP}{w:M4}{K:Fg}{mg:Str->Option Mu}{base:Heap}{x:Str}{st:Stmt}{N ps:List Str}{k:Nat}{sp:Sp}
theorem Fy:0<=sizeLine:=by decide
theorem tP:1<=sizeLine:=by decide
theorem cC:2<=sizeLine:=by decide
theorem iK:3<=sizeLine:=by decide
theorem yz:4<=sizeLine:=by decide
theorem bv{N:List Str}{n:Nat}(hN:N.length=n)(vs:List V):L2.start N vs=vs.map some++Nq (n-vs.length) none:=by
 subst hN;rfl
theorem bt.okN(F:bt K mg x st ps)(S:aF N ps (ah st))(len:∀vs H Q E,sp vs H Q E->vs.length=ps.length)
  (hbody:∀(f:Addr) (gV:Mu) (A:No) (outer:List Env) (s:MA) (H:Hp) (vs:List V) (Q:VK) (E:XK),N.Nodup->Room k (A.deeper (envOfC x (ah st) s.heap.objs.size f gV))->(A.deeper (envOfC x (ah st) s.heap.objs.size f gV)).units+64<cLine->(A.deeper (envOfC x (ah st) s.heap.objs.size f gV)).units+1<cLine->(∀{M:Model} {A:No} {env:Env},RF M A env fun _ _=>False)->gL (cS b_ P w K mg base N x (ah st) f gV A outer s H E).nox->sp vs H Q E ->
   ∃t,PSs (cS b_ P w K mg base N x (ah st) f gV A outer s H E).nox (bM st) t/\t {nx:=fun _ H'=>Q .non H',rt:=Q} (start N vs) H):FnC P w K mg base b_ (k+1) x ps sp :=
 F.ok S len fun f gV A outer s H vs Q E hr h=>hbody f gV A outer s H vs Q E S.nd hr hr.units (Nk (P8 (by decide:1<=64) _) hr.units) Qu ⟨rfl,rfl,rfl⟩ h
theorem bt.okM(F:bt K mg x st ps)(S:aF N ps (ah st))(len:∀vs H Q E,sp vs H Q E->vs.length=ps.length)
  (hbody:∀(f:Addr) (gV:Mu) (A:No) (outer:List Env) (s:MA) (H:Hp) (vs:List V) (Q:VK) (E:XK),N.Nodup->Room k (A.deeper (envOfC x (ah st) s.heap.objs.size f gV))->(A.deeper (envOfC x (ah st) s.heap.objs.size f gV)).units+64<cLine->(A.deeper (envOfC x (ah st) s.heap.objs.size f gV)).units+1<cLine->RF (model P w) (cS (ff P w) P w K mg base N x (ah st) f gV A outer s H E).A (cS (ff P w) P w K mg base N x (ah st) f gV A outer s H E).env (cS (ff P w) P w K mg base N x (ah st) f gV A outer s H E).xe->Lv (cS (ff P w) P w K mg base N x (ah st) f gV A outer s H E) E->sp vs H Q E ->
   ∃t,PSs (cS (ff P w) P w K mg base N x (ah st) f gV A outer s H E) (bM st) t/\t {nx:=fun _ H'=>Q .non H',rt:=Q} (start N vs) H):FnC P w K mg base (ff P w) (k+1) x ps sp :=
 F.okE S len fun f gV A outer s H vs Q E hr h=>hbody f gV A outer s H vs Q E S.nd hr hr.units (Nk (P8 (by decide:1<=64) _) hr.units) EK IM h
end
open PySem PySem.Spec PyProof.Rows PySem.W Builtin Builtin.ObjectAttr Builtin.Getset_descriptor
structure qk (K:Fg) (C:Addr):Prop where
 ga:findIn K (.ref C) "__getattribute__"=some (some (.builtin "BaseException.__getattribute__"))
 hk:findIn K (.ref C) "__getattr__"=some none
 cl:findIn K (.ref C) "__class__"=some (some (.builtin "object.__class__"))
 gt:specialIn K (.builtin "object.__class__") "__get__"=some (some (.builtin "getset_descriptor.__get__"))
 tk:takesIn K (.builtin "object.__class__")=some true
 ob:mroIn K C (.type "object")=some true
 be:mroIn K C (.type "BaseException")=some true
section
variable{prog:MP}{w:M4}{A:No}{E:Mu->MA->Prop}{s:MA}{K:Frag}{x C:Addr}{R:TU->MA->Prop}
def TyLk(h:Heap)(x C:Addr):Prop:=∃o,h.get? x=some o/\o.cls=.ref C
theorem TyLk.look(i:TyLk h x C)(M:Model):W6 M h (typeOf (.ref x)) (.ref C):=by
 obtain⟨o,h1,h2⟩:=i;exact h2 ▸ (W6.ld h1).andThen .now
theorem pY{tp:Mu} (X:K.In s.heap) (i:TyLk s.heap x C) (hm:mroIn K C (.type "object")=some true) (h:R (.ok (.ret (.ref C))) s) :
  codeAny (model prog w) A (.call (.builtin "getset_descriptor.__get__") ⟨[.builtin "object.__class__",.ref x,tp],[]⟩) R s:=by
 obtain⟨hh,g,dr,t,os⟩:=s;have L0:=i.look (model prog w);have L1:=W7 (M:=model prog w) X hm;refine PR KF.slot_gs.plain KF.entry_gs (KF.slot_gs.check _ _ _ _ _ _ _ _ KF.type_class (KF.args_gs _ _ _) ?_);unfold OK.«getset_descriptor.__get__» descrGet;rw[dga_obj];refine Ms (Mz ?_);unfold descrGetter descrCheckInstance descrNameAndClass isInstance;simp only[KF.owner_class]
 repeat lk
 refine⟨Rh _ (by decide +kernel),Qv KF.entry_class ?_⟩;unfold OK.«object.__class__» shownTypeOf
 repeat lk
 exact h
end
section
variable{prog:MP}{w:M4}{A:No}{E:Mu->MA->Prop}{s:MA}{K:Frag}{x C:Addr}
theorem Be{rest:List Mu} {Q:Unit->MA->Prop} (X:K.In s.heap) (i:TyLk s.heap x C) (hb:mroIn K C (.type "BaseException")=some true) (ha:argsOk "BaseException.__getattribute__" ⟨.ref x :: rest,[]⟩) (hq:Q () s) :
  wpAny M A (checkBuiltinCall "BaseException.__getattribute__" ⟨.ref x :: rest,[]⟩) Q E s:=by
 obtain⟨hh,g,d,t,os⟩:=s;have kd:builtinKind "BaseException.__getattribute__"=some .slot:=by decide +kernel
 have sp:splitId "BaseException.__getattribute__"=some ("BaseException","__getattribute__"):=by decide +kernel
 have LI:W6 M hh (isInstance (.ref x) (.type "BaseException")) true:=(i.look M).andThen (W7 X hb);simp only[checkBuiltinCall,kd,sp];refine Ms (LI.at ?_);simp only[P4,Na,if_false];cases sg:Manifest.signature? "BaseException.__getattribute__" with
 |none=>exact Mz hq
 |some v =>
  simp only[argsOk,sg] at ha;have h2:Xl "BaseException.__getattribute__" v ⟨.ref x :: rest,[]⟩=pure ():=ha;show wpAny M A (Xl "BaseException.__getattribute__" v ⟨.ref x :: rest,[]⟩) Q E _;rw[h2];exact Mz hq
theorem DA(X:K.In h) (a:qk K C):W6 M h (find (.ref x) (.ref C) "__class__") (.bind (.builtin "getset_descriptor.__get__") (.builtin "object.__class__")):=by
 have L1:=Ua (M:=M) X a.cl;have L2:W6 M h (getOf (some (.builtin "object.__class__"))) (some (.builtin "getset_descriptor.__get__")):=looks_specialIn X a.gt;have L3:=looks_takesIn (M:=M) X a.tk;refine L1.andThen (L2.andThen ?_);exact(show W6 M h (dataDescriptor? (some (.builtin "object.__class__")) (some (.builtin "getset_descriptor.__get__"))) (some (.builtin "getset_descriptor.__get__",.builtin "object.__class__")) from L3.andThen .now).andThen (W6.tag .now)
theorem JN{tk:Tok}{Q:Fin->MA->Prop}(X:K.In s.heap)(i:TyLk s.heap x C)(a:qk K C)(h:Q (.done (.ret (.ref C))) s) :
  wpAny (model prog w) A (OK.«object.__getattribute__» ⟨[.ref x,.str "__class__" tk],[]⟩) Q E s:=by
 obtain⟨hh,g,d,t,os⟩:=s;have L0:=i.look (model prog w);have L1:=DA (M:=model prog w) (x:=x) X a;unfold OK.«object.__getattribute__»
 repeat lk
 refine wpAny_run (pY X i a.ob ?_)
 repeat lk
 exact h
theorem AN{Q:Option Mu->MA->Prop} (X:K.In s.heap) (i:TyLk s.heap x C) (a:qk K C) (h:Q (some (.ref C)) {s with toks:=s.toks+1}):wpAny (model prog w) A (getAttr? (.ref x) "__class__") Q E s:=by
 obtain⟨hh,g,d,t,os⟩:=s;have L0:=i.look (model prog w);have L1:=Ua (M:=model prog w) X a.ga;have L2:=Ua (M:=model prog w) X a.hk;unfold getAttr? getAttrBy? getAttrBy;refine Ms (wpAny_mkText (Ms (O7 (NQ (Ms (L0.at (Ms (L1.at ?_))))))));show wpAny _ _ (getAttrByItsOwn _ _ _ _ _ _) _ _ _;unfold getAttrByItsOwn hookBefore;refine Ms ?_;rw[if_pos (show onTheHeap (MX C)=true from rfl)];refine L2.at ?_;refine Ms (O7 (NQ ?_));unfold callGetattribute;rw[if_neg (by intro z;cases z)];unfold boundAndCalled;rw[UV.ga.bind (.ref x)];refine Ms (Mz ?_);refine QM (PR UV.ga.plain F.entry_bexc_ga (Be X i a.be (F.args_bexc_ga _ _) (JN X i a ?_)));show wpAny (model prog w) A (handedOut (.ref C)) _ _ _;rw[handedOut_of (v:=.ref C) rfl];exact Mz (Mz h)
theorem ls(X:K.In h)(a:qk K C):∃c d cd sl,h.get? C=some ⟨c,d,.cls cd,sl⟩:=by
 obtain⟨cd,hc,_⟩:=Qa.mp a.ob;unfold clsIn at hc;split at hc
 ·rename_i c1 d1 cd1 s1 lk;exact⟨c1,d1,cd1,s1,X _ _ lk⟩
 ·cases hc
theorem vT(a:qk K C):KitX K (.ref x) (.ref C) (fun h=>TyLk h x C) where
 ty:=fun M h _ p=>p.look M
 it:=fun M h X _=>by
  obtain⟨c1,d1,cd1,s1,ho⟩:=ls X a;intro A' Q' E' s' k q;unfold isType loadHead;exact Ms (US (k _ _ ho) (Mz q))
 ne:=fun h tp dd fm n sl X htp=>by
  obtain⟨c1,d1,cd1,s1,ho⟩:=ls X a;refine QF.mpr fun q=>?_
  have e:C=tp:=Xu (beq_iff_eq.mp q);subst e;have z:=ho.symm.trans htp;cases z
 ca:=fun X p k=>AN X p a k
end
def vc(K:Frag)(C:Addr)(c:V)(b:Bool):Prop:=match c with
 |.ref D=>kitOne K (.ref C) (.ref D)=some b
 |.ty n=>kitOne K (.ref C) (.type n)=some b
 |_=>False
abbrev F6(K:Frag):List V->Hp->VK->Prop:=fun xs H Q=>∃e C c b,xs=[.ref e,c]/\DZ H e C/\qk K C/\vc K C c b/\Q (.bl b) H
theorem bG:gN X (.builtin "isinstance") (F6 X.K):=by
 intro ξ s σ H xs us Q I r h;obtain⟨e,C,c,b,rfl,he,a,k,q⟩:=h;obtain⟨u,u',rfl,rx,ry⟩:=vals2 r;obtain rfl:u=MX e:=rx
 have ty:TyLk s.heap e C:=by
  obtain⟨d,he⟩:=he;cases d with
  |none=>exact(I.hok e _ he).1
  |some dx=>obtain⟨oe,h1,h2,_⟩:=(I.hok e _ he).1;exact⟨oe,h1,h2⟩
 have fin:∀tk,EP X ξ σ Q (.bool b) {s with toks:=tk}:=fun tk=>⟨.bl b,H,I.tok tk,rfl,q⟩
 cases c with
 |ref D =>
  obtain rfl:u'=MX D:=ry;exact kia_one (vT a) I.kIn ty k (fun z=>nomatch z) fin
 |ty n =>
  obtain rfl:u'=O0 n:=ry;exact kia_one (vT a) I.kIn ty k (fun z=>nomatch z) fin
 |non=>exact k.elim
 |bl _=>exact k.elim
 |int _=>exact k.elim
 |str _=>exact k.elim
 |byt _=>exact k.elim
 |flt _=>exact k.elim
theorem GN{K:Frag}  {b:Bool} {cd:Qz} (h:mroIn K C (.ref D)=some b) (hs:mroIn K C (.ref C)=some true) (ht:typeIn K (.ref D)=some (.type "type")) (hc:clsIn K D=some cd):vc K C (.ref D) b:=by
 show kitOne K (.ref C) (.ref D)=some b;unfold kitOne;by_cases e:C=D
 ·subst e;rw[hs] at h;cases h;rw[if_pos (beq_self_eq_true _)]
 ·rw[if_neg (fun z=>e (Xu (beq_iff_eq.mp z)))];unfold kitCls;dsimp only;rw[if_pos (show((clsIn K D).isSome && typeIn K (.ref D) == some (.type "type"))=true by rw[hc,ht];rfl)];exact h
theorem GM{K:Frag}{b:Bool}(h:mroIn K C (.type n)=some b)(hm:kitMeta n=true):vc K C (.ty n) b:=by
 show kitOne K (.ref C) (.type n)=some b;unfold kitOne;rw[if_neg (fun z=>by cases beq_iff_eq.mp z)];unfold kitCls;dsimp only;rw[if_pos hm];exact h
section
variable{prog:MP}{w:M4}{A:No}{E:Mu->MA->Prop}{h:Heap}{g:Array GenState}{d:Drawn}{t:Nat}{os:Vl}
variable{nm q:Str}{C N:Addr}{bs bm YU:List Mu}{hdct:Bool}{sn:List Str}{sub:List Mu}{ab:Bool}{col:Option Bool}{dd:Option Addr}{k0 k1 k2 k3 k5:Option Mu}{B newId Yw:String}
abbrev cY(C t:Addr)(dx:Option Addr):Obj:={cls:=.ref C,dict:=dx,data:=.fields #[.ref t,.none,.none,.none,.bool false,.none]}
theorem xG{K:Fg}(F:T_ B newId Yw YU)(T:Vo h YU bm){rest:List Mu}{oI:Obj}{Q:Fin->MA->Prop}(X:K.In h)
  (hC:h.get? C=some (excClassObj nm q C N bs bm hdct sn sub ab col dd k0 k1 k2 k3 k5 newId)) (hi:Ny K (.ref C) "__init__"=some (some (.ref fI))) (hfI:h.get? fI=some oI) (hfc:oI.cls=.type "function")
  (hq:wpAny (model prog w) A (call (.ref fI) (.ref (h.objs.size+1) :: rest)) (fun r s'=>r=.none/\Q (.done (.ret (.ref (h.objs.size+1)))) s') E ⟨(h.push {cls:=.type "tuple",data:=.seq rest.toArray}).push (cY C h.objs.size none),g,d,t,os⟩) (Y9:rest.length<=sizeLine) :
  wpAny (model prog w) A (OK.«type.__call__» ⟨.ref C :: rest,[]⟩) Q E ⟨h,g,d,t,os⟩:=by
 repeat (first|with_reducible refine OP hC ?_|with_reducible refine wpAny_madeBy_exc hC ?_|wp_step)
 refine codeAny_call_builtin_code (Rh _ F.quiet) (wpAny_check_new_subT F T hC (codeAny_exc_new_subT F T hC (?_:wpAny _ _ _ _ _ _) Y9));have up:∀b o,h.get? b=some o->((h.push {cls:=.type "tuple",data:=.seq rest.toArray}).push {cls:=.ref C,data:=.fields #[.ref h.objs.size,.none,.none,.none,.bool false,.none]}).get? b=some o:=fun b o e=>Mt _ (Mt _ e)
 have hC1:=up _ _ hC;have hfI1:=up _ _ hfI;have X1:=X.keeps up;have Zp:((h.push {cls:=.type "tuple",data:=.seq rest.toArray}).push {cls:=.ref C,data:=.fields #[.ref h.objs.size,.none,.none,.none,.bool false,.none]}).get? (h.objs.size+1)=some {cls:=.ref C,data:=.fields #[.ref h.objs.size,.none,.none,.none,.bool false,.none]}:=by heap_get
 have hcC:(MX C :: bm).contains (.ref C)=true:=by simp
 unfold isInstance
 repeat (first|with_reducible refine OP Zp ?_|(with_reducible refine Q4 hC1 ?_;rw[hcC])|wp_step)
 refine(?_:wpAny _ _ (typeLookup (.ref C) _) _ _ _);refine VW (UT X1 hi) ?_;refine NQ (Ms ?_);unfold bindSpecial;refine Ms (TX (T:="function") ⟨_,hfI1,hfc⟩ ?_);rw[if_pos (by decide)];refine Mz (Ms (Nj hq (fun r s' hr=>?_) fun _ _ x=>x));obtain⟨rfl,hQ⟩:=hr;wp_walk;exact hQ
theorem DN{K:Fg}(F:T_ B newId Yw YU)(T:Vo h YU bm){rest:List Mu}{oI:Obj}{Q:Mu->MA->Prop}(X:K.In h)
  (hC:h.get? C=some (excClassObj nm q C N bs bm hdct sn sub ab col dd k0 k1 k2 k3 k5 newId)) (hi:Ny K (.ref C) "__init__"=some (some (.ref fI))) (hfI:h.get? fI=some oI) (hfc:oI.cls=.type "function")
  (hq:wpAny (model prog w) (A.under (.builtin "type.__call__" ⟨.ref C :: rest,[]⟩)) (call (.ref fI) (.ref (h.objs.size+1) :: rest)) (fun r s'=>r=.none/\Q (.ref (h.objs.size+1)) s') E ⟨(h.push {cls:=.type "tuple",data:=.seq rest.toArray}).push (cY C h.objs.size none),g,d,t,os⟩) (Y9:rest.length<=sizeLine) :
  wpAny (model prog w) A (call (.ref C) rest) Q E ⟨h,g,d,t,os⟩:=by
 have f1:=tc_lookup;have f2:=tc_bind (.ref C);have hT:(⟨h,g,d,t,os⟩:MA).TypeIs (.ref C) "type":=⟨_,hC,rfl⟩
 refine QM (codeAny_of_tree (?_:wpAny _ _ (callAny (.ref C) _) _ _ _))
 repeat (any_goals (first|assumption|with_reducible refine OP hC ?_|wp_step))
 exact⟨rfl,codeAny_call_builtin_at (Rh _ (by decide +kernel)) entry_typeCall (wpAny_check_type_call_sub hC (xG F T X hC hi hfI hfc hq Y9))⟩
end
open PySem PySem.Spec PyProof.Rows PySem.W
section
variable{prog:MP}{w:M4}{A:No}{E:Mu->MA->Prop}{h:Heap}{g:Array GenState}{d:Drawn}{t:Nat}{os:Vl}
variable{nm q:Str}{C N:Addr}{bs bm YU:List Mu}{hdct:Bool}{sn:List Str}{sub:List Mu}{ab:Bool}{col:Option Bool}{dd:Option Addr}{k0 k1 k2 k3 k5:Option Mu}{B newId Yw:String}
theorem Bh(F:T_ B newId Yw YU)(T:Vo h YU bm){rest:List Mu}{e:Addr}{Q:Mu->MA->Prop}
  (hC:h.get? C=some (excClassObj nm q C N bs bm hdct sn sub ab col dd k0 k1 k2 k3 k5 newId)) (he:h.get? e=some (cY C t0 dx))
  (hq:∀h' t1,(∀b o,b≠e->h.get? b=some o->h'.get? b=some o)->h'.get? e=some (cY C t1 dx)->Q .none ⟨h',g,d,t,os⟩) (Y9:rest.length<=sizeLine) :
  wpAny (model prog w) A (call (.builtin Yw) (.ref e :: rest)) Q E ⟨h,g,d,t,os⟩:=by
 refine QM (PR F.init.plain F.initEntry (wpAny_check_init_subT F T hC he rfl ?_));wp_walk;have ne:h.objs.size≠e:=NG (MG he);refine hq _ h.objs.size (fun b o nb hb=>?_) ?_
 ·rw[Nt _ _ (N1 nb)];exact Mt _ hb
 ·rw[NB _ (Mt _ he) rfl];rfl
end
section
variable{prog:MP}{w:M4}{A:No}{E:Mu->MA->Prop}{s:MA}{K:Frag}{x C:Addr}{R:TU->MA->Prop}{name:Str}{v:Mu}
structure sM (K:Frag) (C:Addr) (f:Str):Prop where
 sa:findIn K (.ref C) "__setattr__"=some (some (.builtin "object.__setattr__"))
 no:findIn K (.ref C) f=some none
 hd:hasDictIn K C=true
 mro:∃cd tl,clsIn K C=some cd/\cd.mro=tl++[.type "ValueError",.type "Exception",.type "BaseException",.type "object"]/\tl.all (fun|.ref _=>true|_=>false)=true
 ob:mroIn K C (.type "object")=some true
theorem kq(self:Mu):∀{l r:List Mu},l.all (fun|.ref _=>true|_=>false)=true->refuseLoop self "__setattr__" r=pure ()->refuseLoop self "__setattr__" (l++r)=pure ()
 |[],_,_,e=>e
 |.ref c :: l,r,a,e=>by rw[To,refuseLoop_ref];exact kq self (by simpa using a) e
theorem AM{Q:Unit->MA->Prop}(X:K.In s.heap)(hx:s.heap.get? x=some (cY C t0 none))(a:sM K C name)
  (h:∀h' tk,h'.Ns1 s.heap.objs.size (fun y=>if y=name then some v else none)->h'.get? x=some (cY C t0 (some s.heap.objs.size))->(∀b o,b≠x->s.heap.get? b=some o->h'.get? b=some o)->Q () {s with heap:=h',toks:=tk}) :
  wpAny (model prog w) A (setAttr (.ref x) name v) Q E s:=by
 have SF:=PySem.F.store_ValueError;obtain⟨cd,tl,hc,hm,htl⟩:=a.mro;have I:InstAt s.heap x (cY C t0 none) C none:=⟨hx,rfl,rfl,trivial⟩
 refine set_plain X I a.sa ?_;have sub:W6 (model prog w) s.heap (isInstance (.ref x) (.type "object")) true:=I.type.andThen (W7 X a.ob);refine PR SF.slot.plain SF.entry (@check_slot (model prog w) _ _ {s with toks:=s.toks+1} "object.__setattr__" "object" "__setattr__" (.ref x) [.str name s.toks,v] [] _ SF.kind SF.split sub (SF.args (.ref x) (.str name s.toks) v) ?_);have hmro:W6 (model prog w) s.heap (mroOf (.ref C)) cd.mro:=(looks_clsIn X hc).andThen .now;rw[osa_eq,refuse_eq];refine Ms (Ms (Ub (s:={s with toks:=s.toks+1}) I.type (Ms (Ub (s:={s with toks:=s.toks+1}) hmro ?_))));rw[hm,kq _ htl (SF.passes _)];refine Mz (Ms (Ub (s:={s with toks:=s.toks+1}) I.type (Ms (Ub (s:={s with toks:=s.toks+1}) (Ua X a.no) (Ms (Mz ?_))))));obtain⟨cd',XR,Zy⟩:=any_some a.hd;cases hc.symm.trans XR;have xs:x≠s.heap.objs.size:=MC (MG hx);have hx1:(s.heap.push {cls:=.type "dict",data:=.dict #[]}).get? x=some (cY C t0 none):=Mt _ hx;refine Ms (Mz (Ms (Ms (US hx (Ms (Ub (s:={s with toks:=s.toks+1}) (looks_clsIn X hc) ?_))))));rw[Zy];have hx2:((s.heap.push {cls:=.type "dict",data:=.dict #[]}).update x fun o=>{cls:=o.cls,dict:=some s.heap.objs.size,data:=o.data,slots:=o.slots}).get? x=some (cY C t0 (some s.heap.objs.size)):=NB _ hx1 rfl;have hgd:((s.heap.push {cls:=.type "dict",data:=.dict #[]}).update x fun o=>{cls:=o.cls,dict:=some s.heap.objs.size,data:=o.data,slots:=o.slots}).get? s.heap.objs.size=some {cls:=.type "dict",data:=.dict #[]}:=(Vy _ _ _ _ xs.symm).trans (Heap.get?_push_at rfl rfl);have hnd:((s.heap.push {cls:=.type "dict",data:=.dict #[]}).update x fun o=>{cls:=o.cls,dict:=some s.heap.objs.size,data:=o.data,slots:=o.slots}).Ns s.heap.objs.size (fun _=>none):=⟨_,#[],_,hgd,rfl,fun e he=>absurd he (by simp),fun _=>rfl⟩
 refine Ms (wpAny_alloc' (Ms (wpAny_update' hx1 (Mz (a:=some s.heap.objs.size) ?_))));refine Ms (Mz (Ms (wpAny_nsSet1 (Wc hnd) fun h' hn' hs=>?_)));obtain⟨oD,esD,epD,hoD,hdD,hcD⟩:=hn'.count (Wb name v TR.nil);refine Ms (wpAny_lookBehind hoD (by rw[hdD];exact pastItsLine_dict (Np hcD (by rw[Nl,Qt,Oi];lia))) ?_);exact Mz (h _ _ hn' ((hs.2 x xs).trans hx2) fun b o nb hb=>(hs.2 b (MC (MG hb))).trans ((Vy _ _ _ _ nb).trans (Mt _ hb)))
end
abbrev EZ:List Mu:=[.type "ValueError",.type "Exception",.type "BaseException",.type "object"]
structure ExcI (K:Frag) (mg:Str->Option Mu) (x:Str) (C f:Addr):Prop where
 at_:mg x=some (.ref C)
 sh:∃tl N nm q bs hdct sn sub ab col dd k0 k1 k2 k3 k5,K.lookup C=some (excClassObj nm q C N bs tl hdct sn sub ab col dd k0 k1 k2 k3 k5 "ValueError.__new__")/\∀h:Heap,K.In h->Vo h EZ tl
 fi:findIn K (.ref C) "__init__"=some (some (.ref f))
 fn:isFn K (.ref f)=true
 kp:keepIn K (.ref C)=true
theorem ExcI.ob{K:Frag}(i:ExcI K mg x C f):DY K C:=fun h X=>by
 obtain⟨tl,N,nm,q,bs,hdct,sn,sub,ab,col,dd,k0,k1,k2,k3,k5,l,_⟩:=i.sh;exact⟨tl,N,nm,q,bs,hdct,sn,sub,ab,col,dd,k0,k1,k2,k3,k5,_,X _ _ l⟩
def fM(e C:Addr)(d:Option Addr):HO:=.ext fun h=>∃t,h.get? e=some (cY C t d)
theorem uS{h:Heap}{e:Addr}(he:h.get? e=some (cY C t d)):bX P w H h e (fM e C d) :=
 ⟨⟨t,he⟩,⟨_,he⟩,fun _ _ ⟨t,h1⟩ k=>⟨t,k _ h1⟩⟩
def Bt(H:Hp)(e:Addr):Hp:=fun b=>if b=e then none else H b
theorem DG:Bt H e e=none:=by unfold Bt;rw[if_pos rfl]
theorem ii{e b:Addr}(h:b≠e):Bt H e b=H b:=by unfold Bt;rw[if_neg h]
section
variable{X:Cx}{ξ:List (Addr×Obj)}{σ:St}{H:Hp}{s:MA}
theorem pK{E:XK}(I:Inv X ξ σ H s)(o:gL X)(hx:H e=some (fM e C d))(h0:X.s₀.heap.get? e=none)(hE:E (.ref C) d (Bt H e)) :
  wpAny M X.A (leaving X.env (.ref e)) (fun _ Ze=>ff X.prog X.w X.outer X.H₀ X.s₀ E (.ref e) Ze) E' s:=by
 obtain⟨t,he⟩:=(I.hok e _ hx).1;have FF:s.heap.FunFrames X.base (X.env :: X.outer):=o.stk ▸ I.stack;have Yu:X.A.frames=some (X.env :: X.outer):=o.stk ▸ I.ok.frames;have eqf:(X.env :: X.outer).filterMap (·.frame)=L2.frs X.stack:=by rw[o.stk];rfl
 have hin:∀env∈(X.env :: X.outer),∀b,env.frame=some b->b∈e :: (X.env :: X.outer).filterMap (·.frame):=fun env he b hb=>MO _ (N9.mpr ⟨env,he,hb⟩)
 have nox:∀b:Addr,b∉X.ex:=fun b z=>by rw[o.exs] at z;cases z
 have Y0:∀{b:Addr} {ob:Obj},s.heap.get? b=some ob->b≠e->b∉L2.frs X.stack->(hideAll s.heap (e :: (X.env :: X.outer).filterMap (·.frame))).get? b=some ob:=fun {b ob} q n1 n2=>hideAll_get _ q (fun z=>by rcases MD.mp z with z|z;exact n1 z;rw[eqf] at z;exact n2 z)
 have ne0:∀{b:Addr} {ob:Obj},X.s₀.heap.get? b=some ob->b≠e:=fun q z=>by rw[z,h0] at q;cases q
 refine jd (φ:=fun o=>o.dict=d) (base:=hideAll s.heap (e :: (X.env :: X.outer).filterMap (·.frame))) (h:=s.heap) hU rfl Yu (funFrames_hide FF hin) o.frm he (fun b ob q=>of_hideAll _ q) (hideAll_none _ MM) rfl rfl rfl fun h' fl up=>?_
 refine⟨e,C,_,_,Bt H e,d,rfl,fl,⟨fun a ob q=>?_,fun b ob q n hb=>?_,fun b ob q n hb=>?_,fun b ob q n=>?_,fun b ob q hb=>?_,fun b xs q=>?_,fun b ob u q=>?_,fun b ps q=>?_⟩,I.os,I.bare,hE⟩
 ·have na:a≠e:=fun z=>by rw[z,DG] at q;cases q
  rw[ii na] at q;refine(I.hok a ob q).stay (fun b u hb g=>Y0 g (fun z=>?_) fun z=>?_) (fun b z=>?_) fun b xs z=>?_
  ·subst z;rcases hb with hb|hb
   ·exact na hb.symm
   ·rw[hx] at hb;cases hb
  ·have fz:=I.j_ b z;rcases hb with hb|hb
   ·rw[hb,q] at fz;cases fz
   ·rw[hb] at fz;cases fz
  ·rw[ii (fun w=>by rw[w,hx] at z;cases z)];exact z
  ·rw[ii (fun w=>by rw[w,hx] at z;cases z)];exact z
 ·exact Y0 (I.base.keep b ob q n hb (nox b)) (ne0 q) (I.iR o q hb)
 ·obtain⟨sl,e1⟩:=I.base.slot b ob q n hb (nox b);obtain⟨Zk,e2⟩:=up b _ e1 (fun vs=>I.k_ hb e1 vs);exact⟨Zk,e2⟩
 ·rw[ii (ne0 q)];exact I.base.free b ob q n (nox b)
 ·obtain⟨o',e1⟩:=I.base.there b ob q (nox b);exact⟨o',Y0 e1 (ne0 q) (I.iR o q hb)⟩
 ·have z:=I.base.tups b xs q;rw[ii (fun w=>by rw[w,hx] at z;cases z)];exact z
 ·have z:=I.base.frzs b ob u q;rw[ii (fun w=>by rw[w,hx] at z;cases z)];exact z
 ·obtain⟨m,z⟩:=I.base.tbls b ps q;exact⟨m,by rw[ii (fun w=>by rw[w,hx] at z;cases z)];exact z⟩
end
section
variable{M:Model}{A:No}{E:Mu->MA->Prop}{env:Env}{s:MA}{Q:Flow->MA->Prop}
theorem Cr{K:Frag}   (hb:DY K C) (Zn:mroIn K C (.type "BaseException")=some true) (hh:A.handled=none)
  (h:wpAny M A x (fun v s1=>∃e t d,v=.ref e/\K.In s1.heap/\s1.heap.get? e=some (cY C t d)/\E (.ref e) s1) E s):wpAny M A (raiseStmt env (some x) none) Q E s:=by
 unfold raiseStmt;refine Ms (Nj h (fun v s1 h1=>?_) fun _ _ x=>x);obtain⟨e,t,d,rfl,X,he,hE⟩:=h1;obtain⟨tl,N,nm,q,bs,hdct,sn,sub,ab,col,dd,k0,k1,k2,k3,k5,nw,hC⟩:=hb _ X;obtain⟨cd,ce,cm⟩:=Qa.mp Zn
 have hcB:(MX C :: tl).contains (.type "BaseException")=true:=by
  unfold clsIn at ce;split at ce
  ·rename_i c1 d1 cd1 s2 lk;cases ce;have z:=(X _ _ lk).symm.trans hC;unfold excClassObj at z;cases z;split at cm
   ·cases cm
   ·exact MY cm
  ·cases ce
 obtain⟨hp,g,dr,tk,os⟩:=s1;have he':hp.get? e=some {cls:=.ref C,dict:=d,data:=.fields #[.ref t,.none,.none,.none,.bool false,.none]}:=he
 repeat (first|with_reducible refine OP he' ?_|with_reducible refine OP hC ?_|(with_reducible refine Q4 hC ?_;rw[hcB])|wp_step)
 exact wpAny_raiseNew_none hh hE
end
def jY(E:XK)(C:Addr)(sp:Sp)(te:TE):TS:=fun _ σ H=>te σ H fun x H1=>∀e,H1 e=none->sp [.ref e,x] (upd H1 e (fM e C none)) (fun r H2=>r=.non/\∃d,H2 e=some (fM e C d)/\E (.ref C) d (Bt H2 e)) E0
theorem zi{XH pos:Pos}  {te:TE} (l:Lv X E) (hc:X.calm=true) (hg:Gl X x) (c:ExcI X.K X.mg x C f) (Zn:mroIn X.K C (.type "BaseException")=some true)
  (Fk:FnOk X.prog X.w X.K X.mg X.base b_ k f fd ps sp) (hr:Room (k+1) X.A) (hb:Binds X.K fd ps []) (hps:ps.length=2) (he:PE X e₀ te)
  (hst:starEach [e₀] X.env=[(false,eval e₀ X.env)]:=by rfl) (hdb:(x == ("__debug__":Str))=false:=by decide) :
  PS X (.Raise (some (.Call (.Name x np) [e₀] [] XH)) none pos) (jY E C sp te):=by
 intro ξ s σ H D I h;rw[arm_exec_Raise];simp only[evalOpt,Xm];refine Ms (Qy (Cr (K:=X.K) c.ob Zn (I.ok.hd hc) (Ms (Nj (Q:=fun v s1=>∃e t d,v=.ref e/\X.K.In s1.heap/\s1.heap.get? e=some (cY C t d)/\X.xe (.ref e) s1) ?_ (fun v s3 h3=>Ms (Qy (Mz h3))) fun _ _ z=>z))));refine Oa (eV I hg c.at_ ?_ hdb);refine callWith_K (h₀:=X.base) I.ok.mod.kin c.kp (bj ((aa he af (by rw[hst];rfl)) XH ξ s σ H (fun vs H1=>∀e,H1 e=none->sp (.ref e :: vs) (upd H1 e (fM e C none)) (fun r H2=>r=.non/\∃d,H2 e=some (fM e C d)/\E (.ref C) d (Bt H2 e)) E0) I h) fun us s1 ⟨vs,H1,I1,r,q⟩=>⟨I1.kIn,?_⟩) (by rw[hst];rfl) rfl;have hq:=q (s1.heap.objs.size+1) (I1.hok.fresh (PP _));have X1:=I1.kIn;obtain⟨tl,N,nm,qn,bs,hdct,sn,sub,ab,col,dd,k0,k1,k2,k3,k5,lk,ht⟩:=c.sh;obtain⟨oI,lI,cI⟩:=MI.mp (beq_iff_eq.mp c.fn);have lenv:=Fk.len _ _ _ _ hq;rw[hps] at lenv;have lenu:us.length=1:=by rw[<- r.length];exact N3 lenv
 obtain⟨hh,g,dr,tk,os⟩:=s1;have up:∀b o,hh.get? b=some o->((hh.push {cls:=.type "tuple",data:=.seq us.toArray}).push (cY C hh.objs.size none)).get? b=some o:=fun b o z=>Mt _ (Mt _ z)
 have got:((hh.push {cls:=.type "tuple",data:=.seq us.toArray}).push (cY C hh.objs.size none)).get? (hh.objs.size+1)=some (cY C hh.objs.size none):=by heap_get
 have I2:Inv X ξ σ (upd H1 (hh.objs.size+1) (fM (hh.objs.size+1) C none)) ⟨(hh.push {cls:=.type "tuple",data:=.seq us.toArray}).push (cY C hh.objs.size none),g,dr,tk,os⟩ :=
  I1.laid (a:=hh.objs.size+1) (t':=tk) up (PP _) (uS got)
 have r2:Vals (V.ref (hh.objs.size+1) :: vs) (MX (hh.objs.size+1) :: us):=.cons rfl r;have hl:(MX (hh.objs.size+1) :: us++[]).length=ps.length:=by rw[OT,hps,Nl,lenu]
 refine DN UW (ht _ X1) X1 (X1 _ _ lk) c.fi (X1 _ _ lI) cI ?_ (by rw[RW,lenu];decide);have bd:=hb _ (MX (hh.objs.size+1) :: us) I2.kIn hl;rw[OT] at bd;refine QM (PN (Fk.run _ X.stack _ _ ⟨MX (hh.objs.size+1) :: us,[]⟩ (MX (hh.objs.size+1) :: us) _ _ E0 (hr.make C us []) (I2.env0.make C us []) bd r2 hq) fun rr s' Zs=>?_);have s0:X.s₀.heap.get? (hh.objs.size+1)=none:=RS (Np I1.sz (PP _));cases rr with
 |error e=>exact Zs.elim
 |ok fl =>
  cases fl with
  |ret u =>
   obtain⟨v,H',I3,rv,ev,dx,e3,q3⟩:=I2.after Zs;subst ev;obtain⟨t3,g3⟩:=(I3.hok _ _ e3).1;exact⟨rv,_,t3,dx,rfl,I3.kIn,g3,l.2 _ _ (pK I3 l.1 e3 s0 q3)⟩
  |next=>exact NZ Zs
  |brk=>exact NZ Zs
  |cont=>exact NZ Zs
def sL (K:Frag) (C:Addr):Prop:=∃tl N nm q bs hdct sn sub ab col dd k0 k1 k2 k3 k5,K.lookup C=some (excClassObj nm q C N bs tl hdct sn sub ab col dd k0 k1 k2 k3 k5 "ValueError.__new__")/\∀h:Heap,K.In h->Vo h EZ tl
theorem ExcI.shape{K:Frag}(i:ExcI K mg x C f):sL K C:=by
 obtain⟨tl,N,nm,q,bs,hdct,sn,sub,ab,col,dd,k0,k1,k2,k3,k5,l,t⟩:=i.sh;exact⟨tl,N,nm,q,bs,hdct,sn,sub,ab,col,dd,k0,k1,k2,k3,k5,l,t⟩
theorem BJ{K:Frag}{V:Addr}{cd cv:Qz}{sn:List Str}{sub:List Mu}(xV:excIn K V EZ nw=true)(dV:clsIn K V=some cv)(mV:cv.mro=[.ref V]++EZ)
  (L:K.lookup C=some (excClassObj nm q C N bs tl hdct sn sub ab col dd k0 k1 k2 k3 k5 n2)) (dC:clsIn K C=some cd) (mC:cd.mro=[.ref C,.ref V]++EZ) (h:Heap) (X:K.In h):Vo h EZ tl:=by
 have e1:tl=.ref V :: EZ:=by
  unfold clsIn at dC;rw[L] at dC;unfold excClassObj at dC;cases dC;exact(Po mC).2
 obtain⟨tV,NV,_,_,_,_,_,_,_,_,_,_,_,_,_,_,mN,hV,hn,hi,T⟩:=lf X xV
 have e2:tV=EZ:=by
  unfold clsIn at dV;split at dV
  ·rename_i c1 d1 cd1 s1 lk;cases dV;have z:=(X _ _ lk).symm.trans hV;unfold excClassObj at z;cases z;exact(Po mV).2
  ·cases dV
 rw[e1];rw[e2] at hV T;exact .own hV hn hi T
structure Ki (K:Frag) (mg:Str->Option Mu) (v:Str) (V:Addr):Prop where
 at_:mg v=some (.ref V)
 sg:specialIn K (.ref V) "__getattribute__"=some (some (.builtin "type.__getattribute__"))
 rd:readsIn K V (.type "type")=true
 fc:findCls K (.ref V) (.type "type") "__init__"=some (.val (.builtin "ValueError.__init__"))
def yd(K:Frag)(t:TA):TE:=fun σ H Q=>t σ H fun vs H2=>∃e C d y,vs=[.ref e,y]/\H2 e=some (fM e C d)/\sL K C/\Q .non H2
section
variable{X:Cx}{o a value:Expr}{es:List Expr}{ta tv:TE}{t:TA}{f v:Str}{V:Addr}{vp apos pos pos':Pos}
theorem CI{pl:Sem Bool} (hg:Gl X v) (B:Ki X.K X.mg v V) (ha:PA X (a :: es) t) (hdb:(v == ("__debug__":Str))=false:=by decide)
  (hst:starEach (a :: es) X.env=(false,eval a X.env) :: starEach es X.env:=by rfl) (YD:(backTo pos (starEach es X.env)).any (·.1)=false:=by rfl)
  (ht:eval (.Call (.Attribute (.Name v vp) "__init__" apos) (a :: es) [] pos) X.env=(do
   let ov <- eval (.Name v vp) X.env
   standAt apos.atName
   let (f,first) <- holding [ov] (getMethod ov "__init__" pl)
   callWith pos f first (backTo pos (starEach (a :: es) X.env)) (backToKw pos (keywordEach [] X.env))):=by rfl) :
  PE X (.Call (.Attribute (.Name v vp) "__init__" apos) (a :: es) [] pos) (yd X.K t):=by
 intro ξ s σ H Q I h;refine methodCall_KW (pl:=pl) (eV I hg B.at_ (method_cls I.kIn B.sg (cls_value I.kIn B.rd B.fc (by decide +kernel) ?_)) hdb) ht;refine O4 (bj (ha pos ξ {s with toks:=s.toks+1} σ H _ (I.tok _) h) fun us s2 ⟨vs,H2,I2,r,e,C,d,y,hv,he,hS,q⟩=>?_) hst YD;subst hv;obtain⟨u,u2,rfl,rx,_⟩:=vals2 r;obtain rfl:u=MX e:=rx;obtain⟨tl,N,nm,qn,bs,hdct,sn,sub,ab,col,dd,k0,k1,k2,k3,k5,lk,ht'⟩:=hS;obtain⟨t0,g⟩:=(I2.hok e _ he).1;obtain⟨hh,gs,dr,tk,os⟩:=s2;refine Bh (rest:=[u2]) UW (ht' _ I2.kIn) (I2.kIn _ _ lk) g (fun h' t1 kp gx=>?_) (show 1<=sizeLine by decide);have I3:Inv X ξ σ (upd H2 e (fM e C d)) ⟨h',gs,dr,tk,os⟩:=I2.write (x:=e) (e:=e) (t':=tk) (by rw[he];exact O1) (.inl rfl) kp ⟨_,gx⟩ (uS gx)
 have eH:upd H2 e (fM e C d)=H2:=funext fun b=>by
  by_cases z:b=e
  ·rw[z,ak,he]
  ·rw[av z]
 rw[eH] at I3;exact⟨.non,H2,I3,rfl,q⟩
def Ic(K:Frag)(ta tv:TE)(f:Str):TS:=fun D σ H=>tv σ H fun y H1=>ta σ H1 fun x H2=>∃e C,x=.ref e/\H2 e=some (fM e C none)/\sM K C f/\∀dx,H2 dx=none->D.nx σ (upd (upd H2 dx (.xd [(f,y)])) e (fM e C (some dx)))
theorem Gg(ha:PE X o ta)(hv:PE X value tv)(hs:swapsWith value (some (.Attribute o f pos')) pos.line X.env=pure false):PS X (.Assign [.Attribute o f pos'] value pos) (Ic X.K ta tv f):=by
 intro ξ s σ H D I h;refine RC (bj (hv ξ s σ H _ I h) fun u s1 ⟨y,H1,I1,ry,q⟩=>bj (ha ξ s1 σ H1 _ I1 q) fun ov s2 ⟨x,H2,I2,rx,e,C,ex,he,F,q2⟩=>?_) hs;subst ex;obtain rfl:ov=MX e:=rx;obtain⟨t,g⟩:=(I2.hok e _ he).1;refine AM I2.kIn g F fun h' tk n gx kp=>?_
 have fr:H2 s2.heap.objs.size=none:=I2.hok.fresh (MB _);have ne:e≠s2.heap.objs.size:=MC (MG g)
 have hxd:∀H',bX X.prog X.w H' h' s2.heap.objs.size (.xd [(f,y)]):=fun H'=>by
  refine⟨_,n,fun k=>?_⟩;by_cases z:k=f
  ·subst z;simp only[Qg,BEq.rfl,if_pos];exact ry
  ·have zb:(k == f)=false:=beq_eq_false_iff_ne.mpr z;simp only[Qg,zb,if_neg z];exact O1
 have I3:Inv X ξ σ (upd H2 e (fM e C (some s2.heap.objs.size))) {s2 with heap:=h',toks:=tk}:=I2.write (x:=e) (e:=e) (t':=tk) (by rw[he];exact O1) (.inl rfl) kp ⟨_,gx⟩ (uS gx)
 have I4:=I3.track (e:=s2.heap.objs.size) (o:=.xd [(f,y)]) (by rw[av (N1 ne)];exact fr) (RS I2.sz) (NG I2.lt)
  (fun x c z=>by obtain⟨v',ob,ho,_⟩:=I2.cell x c z;exact MC (MG ho)) (fun p hp=>MC (MG (I2.pin p hp).1)) (hxd _)
 refine⟨σ,_,I4,?_⟩
 have sw:upd (upd H2 e (fM e C (some s2.heap.objs.size))) s2.heap.objs.size (.xd [(f,y)])=upd (upd H2 s2.heap.objs.size (.xd [(f,y)])) e (fM e C (some s2.heap.objs.size)):=funext fun b=>by
  unfold upd;by_cases z:b=e
  ·rw[if_pos z,if_neg (fun w=>ne (z.symm.trans w)),if_pos z]
  ·rw[if_neg z,if_neg z]
 rw[sw];exact q2 _ fr
end
structure HH (P:MP) (w:M4) (K:Frag) (mg:Str->Option Mu) (base:Heap) (k:Nat) (x:Str) (C:Addr) (sp:Sp):Prop where
 ex:∃(f:Addr) (fd:Ph) (ps:List Str),ExcI K mg x C f/\mroIn K C (.type "BaseException")=some true/\FnOk P w K mg base b_ k f fd ps sp/\Binds K fd ps []/\ps.length=2
theorem zj{XH pos:Pos}{te:TE}(l:Lv X E)(hc:X.calm=true)(hg:Gl X x)(i:HH X.prog X.w X.K X.mg X.base k x C sp)(hr:Room (k+1) X.A)(he:PE X e₀ te)
  (hst:starEach [e₀] X.env=[(false,eval e₀ X.env)]:=by rfl) (hdb:(x == ("__debug__":Str))=false:=by decide) :
  PS X (.Raise (some (.Call (.Name x np) [e₀] [] XH)) none pos) (jY E C sp te):=by
 obtain⟨f,fd,ps,c,be,Fk,hb,hp⟩:=i.ex;exact zi l hc hg c be Fk hr hb hp he hst hdb
def qA(K:Frag)(C:Addr)(f:Str):Sp:=fun vs H Q _=>∃(e:Addr) (n:Nat),vs=[.ref e,.int (n:Int)]/\n<1000/\H e=some (fM e C none)/\sL K C/\sM K C f/\∀dx,H dx=none->Q .non (upd (upd H dx (.xd [(f,.int (n:Int))])) e (fM e C (some dx)))
theorem GK{K:Frag}{a b:Str}(h:qA K C f vs H Q E):vs.length=[a,b].length:=by
 obtain⟨e,y,rfl,_⟩:=h;rfl
theorem C4{K:Frag}{E:XK}{i:Nat}{D:bJ}{σ:St}{n:Nat}(s:sL K C)(a:sM K C f)(hv:σ[i]?=some (some (.int (n:Int))))(hn:n<1000)
  (k:∀dx H',Same H H'->H' dx=some (.xd [(f,.int (n:Int))])->E (.ref C) (some dx) H'):jY E C (qA K C f) (ac i) D σ H:=by
 refine⟨_,hv,fun e he=>⟨e,n,rfl,hn,ak,s,a,fun dx Zh=>⟨rfl,some dx,ak,k dx _ ?_ ?_⟩⟩⟩
 ·have ne:dx≠e:=fun z=>by rw[z,ak] at Zh;cases Zh
  have hd1:H dx=none:=by rw[av ne] at Zh;exact Zh
  intro b o q;have nb:b≠e:=fun z=>by rw[z,he] at q;cases q
  have nd:b≠dx:=fun z=>by rw[z,hd1] at q;cases q
  rw[ii nb,av nb,av nd,av nb];exact q
 ·have ne:dx≠e:=fun z=>by rw[z,ak] at Zh;cases Zh
  rw[ii ne,av ne,ak]
theorem Fun.iniC{K:Frag}         (c:ExcI K mg x C f) (be:mroIn K C (.type "BaseException")=some true) (F:FnOk P w K mg base b_ k f fd ps sp) (b:Binds K fd ps []) (l:ps.length=2):HH P w K mg base k x C sp:=⟨⟨f,fd,ps,c,be,F,b,l⟩⟩
open PySem.W (Dat kqdP kqdPs kqdOk)
mutual
inductive Rep (K:Fg) (H:Hp):V->Dat->Prop
 |non:Rep K H .non .none
 |bl (b:Bool):Rep K H (.bl b) (.bool b)
 |int (i:Int):Rep K H (.int i) (.int i)
 |str (x:Str):Rep K H (.str x) (.str x)
 |tup {a:Addr} {xs:List V} {ds:List Dat}:SqT K H a xs->RepL K H xs ds->Rep K H (.ref a) (.tuple ds)
 |lst {a:Addr} {xs:List V} {ds:List Dat}:SqL K H a xs->RepL K H xs ds->Rep K H (.ref a) (.list ds)
inductive RepL (K:Fg) (H:Hp):List V->List Dat->Prop
 |nil:RepL K H [] []
 |cons {v:V} {d:Dat} {vs:List V} {ds:List Dat}:Rep K H v d->RepL K H vs ds->RepL K H (v :: vs) (d :: ds)
end
section
variable{K:Fg}{H H':Hp}
theorem RepL.length:∀{vs:List V} {ds:List Dat},RepL K H vs ds->vs.length=ds.length
 |_,_,.nil=>rfl
 |_,_,.cons _ r=>congrArg (· + 1) (RepL.length r)
theorem RepL.get:∀{vs:List V} {ds:List Dat} {i:Nat} {v:V},RepL K H vs ds->vs[i]?=some v->∃d,ds[i]?=some d/\Rep K H v d
 |_,_,_,_,.nil,e=>by simp at e
 |_,_,0,_,.cons h _,e=>by simp at e;subst e;exact⟨_,rfl,h⟩
 |_,_,i+1,v,.cons _ r,e=>by
  obtain⟨d,h1,h2⟩:=RepL.get (i:=i) (v:=v) r (by simpa using e);exact⟨d,by simpa using h1,h2⟩
end
section
variable{X:Cx}{ξ:List (Addr×Obj)}{σ:St}{H:Hp}{s:MA}
mutual
theorem Rep.reads(I:Inv X ξ σ H s):∀{v:V} {d:Dat} {u:Mu},Rep X.K H v d->RelV v u->∃as,PU s.heap u (kqdP d) as
 |_,_,u,.non,r=>by
  cases (show u=NJ from r);exact⟨_,PU.none⟩
 |_,_,u,.bl b,r=>by
  cases (show u=So b from r);exact⟨_,PU.bool b⟩
 |_,_,u,.int i,r=>by
  obtain⟨t,e⟩:=(show ∃t,u=Ts i t from r)
  cases e;exact⟨_,PU.int i t⟩
 |_,_,u,.str x,r=>by
  obtain⟨t,e⟩:=(show ∃t,u=Sj x t from r)
  cases e;exact⟨_,PU.str x t⟩
 |_,_,u,@Rep.tup _ _ a xs ds h q,r=>by
  cases (show u=MX a from r);obtain⟨fm,rv,⟨o,e,c,n,dd⟩,_⟩:=I.tuple h;obtain⟨as,p⟩:=RepL.reads I q rv;rw[kqdP];exact⟨_,PU.tuple e c dd (by simpa using p)⟩
 |_,_,u,@Rep.lst _ _ a xs ds h q,r=>by
  cases (show u=MX a from r);obtain⟨fm,rv,⟨o,n,e,c,_,dd⟩,_⟩:=I.list h;obtain⟨as,p⟩:=RepL.reads I q rv;rw[kqdP];exact⟨_,PU.list e c dd (by simpa using p)⟩
theorem RepL.reads(I:Inv X ξ σ H s):∀{vs:List V} {ds:List Dat} {us:List Mu},RepL X.K H vs ds->Vals vs us->∃as,UX s.heap us (kqdPs ds) as
 |_,_,_,.nil,.nil=>by
  rw[kqdPs];exact⟨_,UX.nil⟩
 |_,_,_,.cons h q,.cons r rr=>by
  obtain⟨as,p⟩:=Rep.reads I h r;obtain⟨bs,p'⟩:=RepL.reads I q rr;rw[kqdPs];exact⟨_,UX.cons p p'⟩
end
open Classical in
theorem uT(hd:kqdOk 8 d=true)(he:kqdOk 8 e=true):RG (kqdP d) (kqdP e)=decide (d=e):=by
 have q:=Ur 8 d e 8 hd he;by_cases z:d=e
 ·rw[decide_eq_true z];exact q.mpr z
 ·rw[decide_eq_false z];exact QF.mpr fun y=>z (q.mp y)
theorem gZ(h:kqdOk 8 d=true):SeqAt.shaped (kqdP d)=true:=by
 have l:=OF 8 d h;unfold SeqAt.shaped;rw[l.1,Pp];exact decide_eq_true (Np l.2 (by decide))
open Classical in
def zg(K:Fg):R2:=fun x y H Q=>∃d e,Rep K H x d/\Rep K H y e/\kqdOk 8 d=true/\kqdOk 8 e=true/\Q (.bl (decide (d=e))) H
open Classical in
def ue(K:Fg):R2:=fun x y H Q=>∃d e,Rep K H x d/\Rep K H y e/\kqdOk 8 d=true/\kqdOk 8 e=true/\Q (.bl (!decide (d=e))) H
theorem zy(hu:X.A.units+64<cLine):ft X (compareOp .Eq) (zg X.K):=by
 intro ξ s σ H x y v u Q I rx ry h;obtain⟨d,e,hd,he,kd,ke,q⟩:=h;obtain⟨as,ra⟩:=Rep.reads I hd rx;obtain⟨bs,rb⟩:=Rep.reads I he ry;exact eq_dataH ra rb (gZ kd) (gZ ke) hu ⟨_,H,I,(by rw[uT kd ke];rfl),q⟩
theorem vO(hu:X.A.units+64<cLine):ft X (compareOp .NotEq) (ue X.K):=by
 intro ξ s σ H x y v u Q I rx ry h;obtain⟨d,e,hd,he,kd,ke,q⟩:=h;obtain⟨as,ra⟩:=Rep.reads I hd rx;obtain⟨bs,rb⟩:=Rep.reads I he ry;exact ne_dataH ra rb (gZ kd) (gZ ke) hu ⟨_,H,I,(by rw[uT kd ke];rfl),q⟩
open Classical in
theorem uZ{ds:List Dat}(ha:∀e∈ds,kqdOk 8 e=true)(hd:kqdOk 8 d=true):((kqdPs ds).any fun y=>RG y (kqdP d))=decide (d∈ds):=by
 by_cases z:d∈ds
 ·rw[decide_eq_true z];exact(Xb ds d ha hd).mpr z
 ·rw[decide_eq_false z];exact QF.mpr fun y=>z ((Xb ds d ha hd).mp y)
open Classical in
def F9(K:Fg)(neg:Bool):R2:=fun x y H Q=>∃d ds,Rep K H x d/\Rep K H y (.list ds)/\(∀e∈ds,kqdOk 8 e=true)/\kqdOk 8 d=true/\Q (.bl (if neg then !decide (d∈ds) else decide (d∈ds))) H
theorem Ay{A:No}(hd:kqdOk 8 d=true)(hu:A.units+64<cLine):A.units+1+min (RZ (kqdPs ds)) (kqdP d).depth<cLine:=by
 have l:=(OF 8 d hd).2
 have:=QX (RZ (kqdPs ds)) (kqdP d).depth
 lia
theorem zv(hu:X.A.units+64<cLine):ft X (compareOp .NotIn) (F9 X.K true):=by
 intro ξ s σ H x y v u Q I rx ry h;obtain⟨d,ds,hd,he,ka,kd,q⟩:=h;obtain⟨as,ra⟩:=Rep.reads I hd rx;obtain⟨bs,rb⟩:=Rep.reads I he ry;rw[kqdP] at rb;exact SeqAt.notIn_list_reads rb ra (RH ka).1 (OF 8 d kd).1 (Ay kd hu) ⟨_,H,I,(by rw[uZ ka kd];rfl),q⟩
end
def bu(X:Cx)(ys M:List Str)(scope:Scope)(cl:List (Str×Addr))(C:Addr)(s:MA)(H:Hp)(fp:List Addr)(ξ:List (Addr×Obj)):Cx where
 prog:=X.prog
 w:=X.w
 K:=X.K
 mg:=X.mg
 base:=X.base
 A:=X.A
 N:=ys++M
 s₀:=s
 H₀:=H
 env:=compEnvC scope cl C X.env
 outer:=X.stack
 stack:=X.stack
 ex:=fp
 fn:=fun _=>false
 calm:=X.calm
 pn:=X.pn++ξ
 xe:=fun _ _=>False
structure lK (X:Cx) (ys M:List Str) (scope:Scope) (cl:List (Str×Addr)):Prop where
 kind:scope.kind=.function
 nocell:∀y∈scope.names,y.2≠.cell
 names:∀y∈scope.names,y.2=.local->scope.names.lookup y.1=some .local
 own:∀y∈ys,scope.names.lookup y=some .local
 clos:closureFor scope X.env=pure cl
 nd:(ys++M).Nodup
 len:M.length=X.N.length
 same:∀p∈M.zip X.N,p.1=p.2\/(relabel scope X.env).names.lookup p.1=none
 apart:∀y∈M,(relabel scope X.env).names.lookup y≠some .local
 cells:∀y c,cl.lookup y=some c->X.env.cells.lookup y=some c/\(X.env.scope.names.lookup y=some .cell\/X.env.scope.names.lookup y=some .free)
 has:∀y,((relabel scope X.env).names.lookup y=some .cell\/(relabel scope X.env).names.lookup y=some .free)->∃c,cl.lookup y=some c
section
variable{X:Cx}{ys M:List Str}{scope:Scope}{cl:List (Str×Addr)}{C:Addr}{s:MA}{H:Hp}{fp:List Addr}{ξ:List (Addr×Obj)}{σ:St}
theorem vV{h1:Heap}{tk:Nat}(I:Inv X ξ σ H s)(c:lK X ys M scope cl)(eC:C=s.heap.objs.size)(ZB:h1.Ns C (fun _=>none))(ZO:PL C (s.heap.push o) h1)
  (fk:∀b∈fp,fq X ξ H b/\∃o,s.heap.get? b=some o):Inv (bu X ys M scope cl C s H fp ξ) [] (Nq ys.length none ++ σ) H {s with heap:=h1,toks:=tk}:=by
 have keep:∀b u,s.heap.get? b=some u->h1.get? b=some u:=fun b u e=>ZO.extBut b u (by rw[eC];exact MC (MG e)) (Mt _ e)
 have neC:∀b u,s.heap.get? b=some u->b≠C:=fun b u e=>by rw[eC];exact MC (MG e)
 have out:∀{b:Addr},b≠X.env.locals->b∉X.fs->b∉frs X.stack:=fun h1 h2 z=>(MD.mp (I.yg _ z)).elim h1 h2
 refine⟨⟨I.ok.mod,c.kind,I.ok.glob,I.ok.blt,by rw[eC];exact MB _,fun y z a h1 h2=>I.ok.inj y z a (c.cells y a h1).1 (c.cells z a h2).1,c.has,fun y a z _=>WI z,I.ok.hd,I.ok.frames,.inl rfl,fun b hb=>?_,I.bs,Np I.ok.bsz I.sz,fun b u e hb=>?_,fun b hb=>?_,I.stack,I.j_⟩,
  rfl,I.bare,Un.kept keep,⟨_,ZB,fun i y v e1 e2 e3=>?_⟩,fun y a e=>?_,I.hok.fresh (by rw[eC];exact MB _),fun y a e=>I.freeC y a (c.cells y a e).1,fun p hp=>?_,I.hok.kept keep,?_⟩
 ·obtain⟨⟨_,_,_,_,f5,_⟩,u,e⟩:=fk b hb;exact⟨neC b u e,fun y a q=>f5 y a (c.cells y a q).1⟩
 ·obtain⟨⟨_,_,_,f4,_,_⟩,_⟩:=fk b hb;rcases f4 with z|z
  ·exact I.ok.noex b u e z
  ·exact absurd (Nc (MG (I.ok.bs b u e).1) z) (Pn _)
 ·obtain⟨⟨_,f2,f3,_,_,_⟩,_⟩:=fk b hb;exact out f2 f3
 ·by_cases lt:i<ys.length
  ·have e2':(Nq ys.length (none:Option V) ++ σ)[i]?=some (some v):=e2;rw[Nu (by simpa using lt),List.getElem?_replicate_of_lt lt] at e2';cases e2'
  ·have e0:M[i-ys.length]?=some y:=by
    have e1':(ys++M)[i]?=some y:=e1
    rwa [Nr (by lia)] at e1'
   have e2':σ[i-ys.length]?=some (some v):=by
    have e2':(Nq ys.length (none:Option V) ++ σ)[i]?=some (some v):=e2
    rwa [Nr (by simpa using lt),Oj] at e2'
   have hy:y∈M:=MH e0
   have vis0:(relabel scope X.env).names.lookup y≠none:=by
    rcases e3 with z|z|z <;> (intro q;have q':=(show(relabel scope X.env).names.lookup y=some _ from z).symm.trans q;cases q')
   have e1':X.N[i-ys.length]?=some y:=by
    have X6:i-ys.length<X.N.length:=by rw[<- c.len];exact(My.mp e0).1
    have hz:(y,X.N[i-ys.length])∈M.zip X.N:=by
     refine MH (i:=i-ys.length) ?_;rw[OV];exact⟨e0,Mw X6⟩
    rcases c.same _ hz with q|q
    ·rw[Mw X6];exact congrArg some q.symm
    ·exact absurd q vis0
   have e3':(relabel scope X.env).names.lookup y=some .cell\/(relabel scope X.env).names.lookup y=some .free:=by
    rcases e3 with z|z|z
    ·exact absurd z (c.apart y hy)
    ·exact .inl z
    ·exact .inr z
   obtain⟨a,ea⟩:=c.has y e3';obtain⟨q1,q2⟩:=c.cells y a ea;obtain⟨m,_,hl⟩:=I.loc;have vis:Kt X.env.scope y:=.inr q2;obtain⟨u,ru,lu⟩:=hl (i-ys.length) y v e1' e2' vis;refine⟨u,ru,.inr ⟨e3',a,ea,?_⟩⟩;rcases lu with⟨z,_⟩|⟨_,a',ea',⟨oc,hoc,hd⟩⟩
   ·have z':X.env.scope.names.lookup y=some .local:=z;rcases q2 with q2|q2 <;> (rw[z'] at q2;cases q2)
   ·rw[q1] at ea';cases ea';exact⟨oc,keep _ _ hoc,hd⟩
 ·obtain⟨v,oc,hoc,hd⟩:=I.cell y a (c.cells y a e).1;exact⟨v,oc,keep _ _ hoc,hd⟩
 ·have hp':p∈X.pn++ξ:=by simpa[bu] using hp
  obtain⟨q1,q2,q3,q4,q5⟩:=I.pin p hp';exact⟨keep _ _ q1,q2,neC _ _ q1,out q3 q4,q5⟩
 ·show(Nq ys.length none ++ σ).length=(ys++M).length;rw[M3,M3,Oj,I.len,c.len]
theorem mP(I:Inv X ξ σ H s)(fk:∀b∈fp,fq X ξ H b/\∃o,s.heap.get? b=some o)(I':Inv (bu X ys M scope cl C s H fp ξ) Zw σ' H' s1):Inv X ξ σ H' s1 :=
 I.call' (ch:=fp) I'.os I'.base I'.hok I'.bare fun b hb=>let ⟨⟨_,f2,_,f4,f5,f6⟩,_⟩:=fk b hb;⟨f4,f2,f5,f6⟩
def Bm(J:It)(n:Nat)(g:TG)(te:TE)(σ:St)(Q:VK)(H1:Hp):Prop:=∀D,H1 D=none->∃W:Nat->Nat->Hp->Prop,(∃m,W 0 m (upd H1 D (.lst [])))/\∀i m H,W i m H ->
 (J.stop i H/\Q (.ref D) H)\/(J.go i H/\∀v H',J.yld i H v H'->∀us:St,us.length=n->g v (us ++ σ) H' fun σ2 H2=>(∃YS:St,YS.length=n/\σ2=YS ++ σ)/\te σ2 H2 fun y H3=>∃xs,H3 D=some (.lst xs)/\xs.length<sizeLine/\∃m',m'<m/\W (i+1) m' (upd H3 D (.lst (xs++[y]))))
def jZ(wi:TI)(n:Nat)(g:TG)(te:TE):TE:=fun σ H Q=>wi σ H fun J H1=>Bm J n g te σ Q H1
def cZ(J:It)(te:TE)(σ:St)(Q:VK)(H1:Hp):Prop:=∀D,H1 D=none->∃W:Nat->Nat->Hp->Prop,(∃m,W 0 m (upd H1 D (.lst [])))/\∀i m H,W i m H ->
 (J.stop i H/\Q (.ref D) H)\/(J.go i H/\∀v H',J.yld i H v H'->te (some v :: σ) H' fun y H2=>∃xs,H2 D=some (.lst xs)/\xs.length<sizeLine/\∃m',m'<m/\W (i+1) m' (upd H2 D (.lst (xs++[y]))))
def fh(wi:TI)(te:TE):TE:=fun σ H Q=>wi σ H fun J H1=>cZ J te σ Q H1
theorem wm{σ:St}{Q:VK}(h:cZ J te σ Q H1):Bm J 1 (aJ 0) te σ Q H1:=by
 intro D nD;obtain⟨W,h0,hs⟩:=h D nD;refine⟨W,h0,fun i m H w=>?_⟩;rcases hs i m H w with q|⟨go,st⟩
 ·exact .inl q
 ·refine .inr ⟨go,fun v H' y us hu=>?_⟩;obtain⟨u,rfl⟩:∃u,us=[u]:=List.length_eq_one_iff.mp hu;exact⟨⟨[some v],rfl,rfl⟩,st v H' y⟩
theorem AY{R:TU->MA->Prop}{s:MA}{iter:Expr}{scope:Scope}{pos:Pos}{acc:Mu}(I:Nat->MA->Prop)
  (turn:∀n s,I n s->wpAny (model prog w) A (pyNext it) (fun r s1=>match r with
   |none=>R (.ok .next) s1
   |some v=>wpAny (model prog w) A (letOwnedTupleGo target it v) (fun _ s2=>wpAny (model prog w) A (assign target env v) (fun _ s3=>wpAny (model prog w) A (eval elt env) (fun x s4 =>
     wpAny (model prog w) A (call (.builtin "list.append") [acc,x]) (fun _ s5=>∃m,m<n/\I m s5) (fun _ _=>False) s4) (fun _ _=>False) s3) (fun _ _=>False) s2) (fun _ _=>False) s1) (fun _ _=>False) s) (n:Nat) (h:I n s) :
  codeAny (model prog w) A (.compLoop (.ListComp elt [⟨target,iter,[],0⟩] scope pos) 0 it acc env) R s:=by
 refine codeAny_loop rfl I (fun k s1 hI=>?_) n h;have no:∀{α:Type} {t:Sem α} {P:α->MA->Prop} {E:Mu->MA->Prop} {z:MA},wpAny (model prog w) A t P (fun _ _=>False) z->wpAny (model prog w) A t P E z:=fun q=>Nj q (fun _ _ z=>z) fun _ _ z=>z.elim
 show wpAny _ _ ((compTurn (.ListComp elt [⟨target,iter,[],0⟩] scope pos) 0 it acc env).onRaise _) _ _ s1;refine wpAny_noted ?_;rw[compTurn_list1];refine Ms (Qy (Ms (no (Nj (turn k s1 hI) (fun r s2 h2=>?_) fun _ _ z=>z))));cases r with
 |none=>exact Mz h2
 |some v =>
  refine Ms (no (Nj h2 (fun _ s3 h3=>?_) fun _ _ z=>z));refine Ms (no (Nj h3 (fun _ s4 h4=>?_) fun _ _ z=>z));refine Ms (Ms (no (Nj h4 (fun x s5 h5=>?_) fun _ _ z=>z)));exact Ms (no (Nj h5 (fun _ s6 h6=>Mz (Mz ⟨rfl,h6⟩)) fun _ _ z=>z))
theorem sj{iter:Expr}{pos:Pos}{E:Mu->MA->Prop}{QQ:Addr->Hp->Prop}{RR:Mu->Addr->TU->MA->Prop}(I:Inv X ξ σ H s)(c:lK X ys M scope cl)(hc:X.calm=true)
  (hg:∀C s₀ H₀ fp ξ,PG (bu X ys M scope cl C s₀ H₀ fp ξ) tg g) (he:∀C s₀ H₀ fp ξ,PE (bu X ys M scope cl C s₀ H₀ fp ξ) elt te) (T:qj X.prog X.w X.K tg J fp it tn) (st:tn 0 s.heap) (fk:∀b∈fp,fq X ξ H b)
  (h:∀D,H D=none->∃W:Nat->Nat->Hp->Prop,(∃m,W 0 m (upd H D (.lst [])))/\∀i m H,W i m H ->
   (J.stop i H/\QQ D H)\/(J.go i H/\∀v H',J.yld i H v H'->∀us:St,us.length=ys.length->g v (us ++ σ) H' fun σ2 H2=>(∃YS:St,YS.length=ys.length/\σ2=YS ++ σ)/\te σ2 H2 fun y H3=>∃xs,H3 D=some (.lst xs)/\xs.length<sizeLine/\∃m',m'<m/\W (i+1) m' (upd H3 D (.lst (xs++[y])))))
  (fin:∀D C H' s',s.heap.objs.size<=C->s'.heap.get? C≠none->(∃m,s'.heap.Ns C m)->H' C=none->Inv X ξ σ H' s'->QQ D H'->RR (.ref D) C (.ok .next) s') :
  wpAny (model X.prog X.w) X.A (newList []) (fun acc s₃=>wpAny (model X.prog X.w) X.A (newFunctionEnv scope X.env.globals cl [] X.env.qual none .none (some X.env)) (fun Zl s₄ =>
   codeAny (model X.prog X.w) X.A (.compStart (.ListComp elt [⟨tg,iter,[],0⟩] scope pos) 0 (.ref it) acc {Zl with scope:=relabel scope X.env}) (RR acc Zl.locals) s₄) E s₃) E s:=by
 refine NW (UY c.nocell (by intro y hy;simp at hy) (fun h1 ZB ZO=>?_) c.kind);dsimp only at ZB ZO ⊢;have hf:H s.heap.objs.size=none:=I.hok.fresh (MB _)
 have I3:Inv X ξ σ (upd H s.heap.objs.size (.lst [])) {s with heap:=s.heap.push {cls:=.type "list",dict:=none,data:=.seq ([]:List Mu).toArray}} :=
  I.laid (t':=s.toks) (fun b u e=>Mt _ e) (MB _) ⟨by decide,[],_,.nil,ML _ rfl⟩
 have eD:∀b u,s.heap.get? b=some u->b≠s.heap.objs.size:=fun b u e=>MC (MG e)
 have ZH:∀b∈fp,fq X ξ (upd H s.heap.objs.size (.lst [])) b/\∃o,(s.heap.push {cls:=.type "list",dict:=none,data:=.seq ([]:List Mu).toArray}).get? b=some o:=fun b hb=>by
  obtain⟨o,eo,_⟩:=T.obj 0 _ st b hb;obtain⟨f1,f2⟩:=fk b hb;exact⟨⟨by rw[av (eD b o eo)];exact f1,f2⟩,o,Mt _ eo⟩
 have I4:=vV (tk:=s.toks+([]:List (Str×Mu)).length) I3 c rfl ZB ZO ZH;obtain⟨W,⟨m0,w0⟩,turn⟩:=h _ hf
 have st4:tn 0 h1:=T.keep 0 _ _ st fun b hb o e=>by
  have e2:=Mt {cls:=.type "list",dict:=none,data:=.seq ([]:List Mu).toArray} e;exact ZO.extBut b o (MC (MG e2)) (Mt _ e2)
 have YL:∀{H':Hp},(∀b∈fp,H' b=none)->∀b∈fp,fq (bu X ys M scope cl (s.heap.push {cls:=.type "list",dict:=none,data:=.seq ([]:List Mu).toArray}).objs.size {s with heap:=s.heap.push {cls:=.type "list",dict:=none,data:=.seq ([]:List Mu).toArray}} (upd H s.heap.objs.size (.lst [])) fp ξ) [] H' b :=
  fun hn b hb=>⟨hn b hb,(I4.ok.exf b hb).1,I4.ok.exfs b hb,.inl hb,(I4.ok.exf b hb).2,fun p hp=>(ZH b hb).1.2.2.2.2.2 p (by simpa[bu] using hp)⟩
 have loop:∀s4:MA,s4 = {s with heap:=h1,toks:=s.toks+([]:List (Str×Mu)).length} ->
   codeAny (model X.prog X.w) X.A (.compLoop (.ListComp elt [⟨tg,iter,[],0⟩] scope pos) 0 (.ref it) (.ref s.heap.objs.size) (compEnvC scope cl (s.heap.push {cls:=.type "list",dict:=none,data:=.seq ([]:List Mu).toArray}).objs.size X.env))
    (RR (.ref s.heap.objs.size) (s.heap.push {cls:=.type "list",dict:=none,data:=.seq ([]:List Mu).toArray}).objs.size) s4:=by
  rintro s4 rfl
  refine AY (fun n s'=>∃(i:Nat) (us:St) (H':Hp),us.length=ys.length/\Inv (bu X ys M scope cl (s.heap.push {cls:=.type "list",dict:=none,data:=.seq ([]:List Mu).toArray}).objs.size {s with heap:=s.heap.push {cls:=.type "list",dict:=none,data:=.seq ([]:List Mu).toArray}} (upd H s.heap.objs.size (.lst [])) fp ξ) [] (us ++ σ) H' s'/\tn i s'.heap/\(∀b∈fp,H' b=none)/\W i n H')
   ?_ m0 ⟨0,_,_,Oj,I4,st4,fun b hb=>(ZH b hb).1.1,w0⟩
  rintro n s5 ⟨i,us,H5,lu,I5,ZX,fr5,w5⟩;rcases turn i n H5 w5 with⟨stop,q⟩|⟨go,step⟩
  ·refine bj (T.done (bu X ys M scope cl _ _ _ _ _) rfl rfl rfl hc i [] s5 _ H5 _ I5 (YL fr5) ZX stop) fun r s6 ⟨er,I6⟩=>?_
   subst er;obtain⟨m,hn6,_⟩:=id I6.loc;obtain⟨o6,_,_,ho6,_⟩:=id hn6;exact fin _ _ H5 s6 (by rw[OO];exact PP _) (fun z=>by have z':=ho6.symm.trans z;cases z') ⟨m,hn6⟩ I6.free (mP I3 ZH I6) q
  ·refine bj (T.item (bu X ys M scope cl _ _ _ _ _) rfl rfl rfl hc i [] s5 _ H5 _ I5 (YL fr5) ZX go) fun r s6 ⟨u,er,h6⟩=>?_
   subst er;refine bj h6 fun _ s7 ⟨v',H7,I7,r7,y7,ZY,fr7⟩=>?_
   have I7':=I7.pinned (YL fr7) (T.obj _ _ ZY);refine Nj (hg _ _ _ _ _ _ s7 _ H7 v' u _ I7' r7 (step v' H7 y7 us lu)) (fun _ s8 ⟨σ8,H8,I8,⟨YS,lu',e8⟩,q8⟩=>?_) fun _ _ z=>z.elim
   refine Nj (he _ _ _ _ _ _ s8 _ H8 _ I8 q8) (fun y s9 ⟨yv,H9,I9,ry,xs,ZQ,hlen,m',hm,w9⟩=>?_) fun _ _ z=>z.elim
   refine Nj (aT (X:=bu X ys M scope cl _ _ _ _ _) _ s9 _ H9 (.ref s.heap.objs.size) [yv] (.ref s.heap.objs.size) [y] (fun _ Za=>Za=upd H9 s.heap.objs.size (.lst (xs++[yv]))) I9 rfl (.cons ry .nil) ⟨_,xs,yv,rfl,rfl,ZQ,hlen,rfl⟩) (fun _ s10 ⟨z,Za,I10,rz,q10⟩=>?_) fun _ _ z=>z.elim
   subst q10;subst e8;refine⟨m',hm,i+1,YS,_,lu',I10.fV (ξ:=[]),T.keep _ _ _ ZY fun b hb o e=>(I10.pin (b,o) (M5 _ (M5 _ (cy hb e)))).1,fun b hb=>?_,w9⟩;obtain⟨o,e,_⟩:=T.obj _ _ ZY b hb;exact(I10.pin (b,o) (M5 _ (M5 _ (cy hb e)))).2.1
 exact Ud (loop _ rfl) (T.self _ 0 _ _ _ st4 (loop _ rfl))
end
section
variable{X:Cx}{ys M:List Str}{x:Str}{scope:Scope}{cl:List (Str×Addr)}
theorem vL{iter:Expr}{pos:Pos}(c:lK X ys M scope cl)(hc:X.calm=true)(hi:PI X tg iter wi)(hg:∀C s₀ H₀ fp ξ,PG (bu X ys M scope cl C s₀ H₀ fp ξ) tg g)(he:∀C s₀ H₀ fp ξ,PE (bu X ys M scope cl C s₀ H₀ fp ξ) elt te)
  (hs:∀v,foldedSetIterable iter X.env v=pure v:=by intro _;rfl):PE X (.ListComp elt [⟨tg,iter,[],0⟩] scope pos) (jZ wi ys.length g te):=by
 intro ξ s σ H Q I h;rw[eval_ListComp];refine Q7 (use:=none) rfl hs c.clos c.kind c.names (bj (hi ξ s σ H _ I h) fun v s1 h1=>bj h1 fun Z5 s2 h2=>?_);obtain⟨it,fp,tn,J,H2,rfl,I2,T,ZW,fk2,h3⟩:=h2;refine sj (E:=X.xe) (QQ:=fun D H'=>Q (.ref D) H') I2 c hc hg he T ZW fk2 h3 fun D C H' s' hC hl ns fr I' q=>?_
 obtain⟨m,hn⟩:=ns;refine⟨m,hn,fun h' hs'=>?_⟩;have sz:=I2.sz;exact⟨.ref D,H',I'.turned (t':=s'.toks) (fun b o hb e=>(hs'.2 b hb).trans e) fr (I2.fpOk hC fr).2.1 (I2.fpOk hC fr).2.2.2.1 (I2.fpOk hC fr).2.2.2.2.1 (I2.fpOk hC fr).2.2.2.2.2,rfl,q⟩
theorem Cy{iter:Expr}{pos sp:Pos}{i:Nat}{y:Str}(hy:X.N[i]?=some y)(ly:X.env.scope.names.lookup y=some .local)(c:lK X ys M scope cl)(hN:X.N.Nodup)(hc:X.calm=true)(hi:PI X tg iter wi)
  (hg:∀C s₀ H₀ fp ξ,PG (bu X ys M scope cl C s₀ H₀ fp ξ) tg g) (he:∀C s₀ H₀ fp ξ,PE (bu X ys M scope cl C s₀ H₀ fp ξ) elt te)
  (hsw:swapsWith (.ListComp elt [⟨tg,iter,[],0⟩] scope pos) (some (.Name y py)) sp.line X.env=pure true:=by rfl) (hs:∀v,foldedSetIterable iter X.env v=pure v:=by intro _;rfl) :
  PS X (.Assign [.Name y py] (.ListComp elt [⟨tg,iter,[],0⟩] scope pos) sp) (aQ (jZ wi ys.length g te) (aJ i)):=by
 intro ξ s σ H D I h;rw[Uz _ _ _ _ hsw];refine Ms (Qy (Ms ?_));show wpAny _ X.A (do let _ <- comprehension (.ListComp elt [⟨tg,iter,[],0⟩] scope pos) scope X.env _ (newList []) false (eval iter X.env) (some (assign (.Name y py) X.env))) _ _ s;refine Ms (Nj (Q7 (use:=some (assign (.Name y py) X.env)) (Q:=fun _ s'=>SP X ξ D .next s') rfl hs c.clos c.kind c.names (bj (hi ξ s σ H _ I h) fun v s1 h1=>bj h1 fun Z5 s2 h2=>?_)) (fun _ s' hq=>Mz (Mz hq)) fun _ _ z=>z);obtain⟨it,fp,tn,J,H2,rfl,I2,T,ZW,fk2,h3⟩:=h2;refine sj (E:=X.xe) (QQ:=fun Da H'=>D.nx (σ.set i (some (.ref Da))) H') I2 c hc hg he T ZW fk2 h3 fun Da C H' s' hC hl ns fr I' q=>?_
 obtain⟨m,hn⟩:=ns;refine SR (j9 I' hN hy (.inl ly) (v:=.ref Da) rfl (fun s3 I3 ⟨a,hsa,ha⟩=>?_) (.inr ly))
 have nC:C≠a:=by
  rcases ha with z|z
  ·rw[z];exact(I2.fpOk hC fr).2.1
  ·exact fun w'=>(I2.fpOk hC fr).2.2.2.2.1 y a z w'.symm
 refine⟨m,hn.sameBut hsa nC,fun h' hs'=>⟨_,H',I3.turned (t':=s3.toks) (fun b o hb e=>(hs'.2 b hb).trans e) fr (I2.fpOk hC fr).2.1 (I2.fpOk hC fr).2.2.2.1 (I2.fpOk hC fr).2.2.2.2.1 (I2.fpOk hC fr).2.2.2.2.2,q⟩⟩
theorem Eu(c:lK X [x] M scope cl)(C:Addr)(s₀:MA)(H₀:Hp)(fp:List Addr)(ξ:List (Addr×Obj)):PG (bu X [x] M scope cl C s₀ H₀ fp ξ) (.Name x px) (aJ 0):=by
 have hx:(relabel scope X.env).names.lookup x=some .local:=lookup_relabel_local (c.own x (by simp));exact bE (X:=bu X [x] M scope cl C s₀ H₀ fp ξ) (i:=0) c.nd rfl (.inl hx) (.inr hx)
end
def FE(scope sc:Scope):List (Str×Tu):=scope.names.map fun(n,k)=>if (k == .free && sc.kind == .function && sc.names.lookup n == some .cell) then (n,.cell) else (n,k)
def jD(scope:Scope)(cells:List (Str×Addr)):List (Str×Addr):=((scope.names.filter fun n=>n.2 == .free).map fun n=>(n.1,(cells.lookup n.1).getD 0)).reverse
structure dN (sc:Scope) (N M ys:List Str) (scope:Scope):Prop where
 kind:scope.kind=.function
 nocell:∀y∈scope.names,y.2≠.cell
 names:∀y∈scope.names,y.2=.local->scope.names.lookup y.1=some .local
 own:∀y∈ys,scope.names.lookup y=some .local
 nd:(ys++M).Nodup
 len:M.length=N.length
 same:∀p∈M.zip N,p.1=p.2\/(FE scope sc).lookup p.1=none
 apart:∀y∈M,(FE scope sc).lookup y≠some .local
 free:∀n∈scope.names,n.2=.free->sc.names.lookup n.1=some .cell
theorem jc{g:Str->Addr}:∀{l:List (Str×Addr)} {y:Str},(∀n∈l,n.2=g n.1)->∀{c:Addr},l.lookup y=some c->c=g y/\∃n∈l,n.1=y
 |[],_,_,_,h=>by simp at h
 |(n,a) :: r,y,hg,c,h=>by
  by_cases e:y=n
  ·subst e;rw[Pu,beq_self_eq_true] at h;have h':a=c:=MY h;exact⟨by rw[<- h'];exact hg (y,a) MM,_,MM,rfl⟩
  ·have e':(y == n)=false:=beq_eq_false_iff_ne.mpr e;rw[Pu,e'] at h;obtain⟨h1,m,hm,h2⟩:=jc (fun n hn=>hg n (MO _ hn)) h;exact⟨h1,m,MO _ hm,h2⟩
theorem uJ{l:List (Str×Addr)}{y:Str}:(∃n∈l,n.1=y)->∃c,l.lookup y=some c:=by
 induction l with
 |nil=>rintro⟨n,hn,_⟩;cases hn
 |cons a r ih =>
  rintro⟨n,hn,e⟩;obtain⟨m,b⟩:=a;by_cases e':y=m
  ·subst e';exact⟨b,by rw[Pu,beq_self_eq_true]⟩
  ·have e2:(y == m)=false:=beq_eq_false_iff_ne.mpr e';rw[Pu,e2];refine ih ?_;rcases MD.mp hn with z|z
   ·rw[z] at e;exact absurd e.symm e'
   ·exact⟨n,z,e⟩
theorem qd{n:Str×Addr}:n∈jD scope cells↔∃m∈scope.names,m.2=.free/\n=(m.1,(cells.lookup m.1).getD 0):=by
 unfold jD;rw[WJ,MR];constructor
 ·rintro⟨m,hm,rfl⟩;rw[Oq] at hm;exact⟨m,hm.1,beq_iff_eq.mp hm.2,rfl⟩
 ·rintro⟨m,hm,hk,rfl⟩;exact⟨m,Oq.mpr ⟨hm,beq_iff_eq.mpr hk⟩,rfl⟩
theorem mY{env:Env}:∀(names:List (Str×Tu)) (acc:List (Str×Addr)),(∀n∈names,n.2=.free->∃c,env.cells.lookup n.1=some c) ->
  (forIn names acc fun x r=>do
   let (name,kind):=x
   if kind == .free then do
    let c <- cellOf env name
    pure (Us ((name,c) :: r))
   else pure (Us r):Sem (List (Str×Addr)))=pure (((names.filter fun n=>n.2 == .free).map fun n=>(n.1,(env.cells.lookup n.1).getD 0)).reverse++acc)
 |[],acc,_=>rfl
 |(n,k) :: r,acc,h=>by
  have ih:=fun acc=>mY r acc fun m hm=>h m (MO _ hm)
  rw[OG];by_cases hk:k=.free
  ·subst hk;obtain⟨c,hc⟩:=h (n,.free) MM rfl;have e1:cellOf env n=pure c:=by unfold cellOf;rw[hc]
   simp only[beq_self_eq_true,if_true,e1,pure_bind,QY,Nm,SY,N6,List.singleton_append];rw[hc];exact ih _
  ·have hb:(k == Xv)=false:=beq_eq_false_iff_ne.mpr hk;simp only[hb,Na,if_false,pure_bind,QY];exact ih _
theorem dN.sc{X:Cx}(c:dN X.env.scope X.N M ys scope)(ok:X.Ok):lK X ys M scope (jD scope X.env.cells):=by
 have hfc:∀n∈scope.names,n.2=.free->∃a,X.env.cells.lookup n.1=some a:=fun n hn hk=>ok.has n.1 (.inl (c.free n hn hk))
 refine⟨c.kind,c.nocell,c.names,c.own,?_,c.nd,c.len,c.same,c.apart,fun y a h=>?_,fun y h=>?_⟩
 ·have z:=mY (env:=X.env) scope.names [] hfc;rw[OT] at z;exact(congrArg (fun m:Sem (List (Str×Addr))=>m >>= fun cs=>pure cs) z).trans rfl
 ·obtain⟨h1,n,hn,e⟩:=jc (g:=fun z=>(X.env.cells.lookup z).getD 0) (fun n hn=>by obtain⟨m,_,_,rfl⟩:=qd.mp hn;rfl) h;obtain⟨m,hm,hk,e2⟩:=qd.mp hn;have ey:m.1=y:=by rw[<- e,e2]
  obtain⟨a',ha'⟩:=hfc m hm hk;rw[ey] at ha';refine⟨?_,.inl (by rw[<- ey];exact c.free m hm hk)⟩;rw[h1,ha'];rfl
 ·have hm:∃m∈scope.names,m.1=y/\m.2=.free:=by
   have go:∀names:List (Str×Tu),(∀z∈names,z.2≠.cell)->((names.map fun(n,k)=>if (k == .free && X.env.scope.kind == .function && X.env.kindOf n == some .cell) then (n,Tf) else (n,k)).lookup y=some .cell\/(names.map fun(n,k)=>if (k == .free && X.env.scope.kind == .function && X.env.kindOf n == some .cell) then (n,Tf) else (n,k)).lookup y=some .free)->∃m∈names,m.1=y/\m.2=.free:=by
    intro names
    induction names with
    |nil=>intro _ h;simp at h
    |cons a r ih =>
     intro nc h;obtain⟨n,k⟩:=a;by_cases e:y=n
     ·subst e;refine⟨_,MM,rfl,?_⟩;have nk:k≠.cell:=nc (y,k) MM;by_cases hk:k=.free
      ·exact hk
      ·have hb:(k == Xv)=false:=beq_eq_false_iff_ne.mpr hk;simp only[Nm,hb,Su,Na,if_false,Pu,beq_self_eq_true] at h;rcases h with z|z
       ·exact absurd (MY z) nk
       ·exact absurd (MY z) hk
     ·have e':(y == n)=false:=beq_eq_false_iff_ne.mpr e
      have h':(r.map fun(n,k)=>if (k == .free && X.env.scope.kind == .function && X.env.kindOf n == some .cell) then (n,Tf) else (n,k)).lookup y=some .cell\/(r.map fun(n,k)=>if (k == .free && X.env.scope.kind == .function && X.env.kindOf n == some .cell) then (n,Tf) else (n,k)).lookup y=some .free:=by
       by_cases hb:(k == .free && X.env.scope.kind == .function && X.env.kindOf n == some .cell)=true
       ·simpa only[Nm,hb,if_true,Pu,e'] using h
       ·simpa only[Nm,hb,Na,if_false,Pu,e'] using h
      obtain⟨m,hm,r1⟩:=ih (fun z hz=>nc z (MO _ hz)) h';exact⟨m,MO _ hm,r1⟩
   exact go scope.names c.nocell h
  obtain⟨m,hm,e,hk⟩:=hm;exact uJ ⟨_,qd.mpr ⟨m,hm,hk,rfl⟩,e⟩
section
variable{X:Cx}{x:Str}{ys M:List Str}{scope:Scope}
theorem Iy{iter:Expr}{pos:Pos}(c:dN X.env.scope X.N M ys scope)(hc:X.calm=true)(hi:PI X tg iter wi)(hg:∀C s₀ H₀ fp ξ,PG (bu X ys M scope (jD scope X.env.cells) C s₀ H₀ fp ξ) tg g)(he:∀C s₀ H₀ fp ξ,PE (bu X ys M scope (jD scope X.env.cells) C s₀ H₀ fp ξ) elt te)
  (hs:∀v,foldedSetIterable iter X.env v=pure v:=by intro _;rfl):PE X (.ListComp elt [⟨tg,iter,[],0⟩] scope pos) (jZ wi ys.length g te):=fun ξ s σ H Q I h=>vL (c.sc I.ok) hc hi hg he hs ξ s σ H Q I h
theorem jt{iter:Expr}{pos:Pos}(c:dN X.env.scope X.N M [x] scope)(hN:X.N.Nodup)(hc:X.calm=true)(hi:PI X (.Name x px) iter wi)(he:∀C s₀ H₀ fp ξ,PE (bu X [x] M scope (jD scope X.env.cells) C s₀ H₀ fp ξ) elt te)
  (hs:∀v,foldedSetIterable iter X.env v=pure v:=by intro _;rfl):PE X (.ListComp elt [⟨.Name x px,iter,[],0⟩] scope pos) (fh wi te):=by
 intro ξ s σ H Q I h
 have hi':PI X (.Name x px) iter (fun σ H R=>∃R',(∀J H1,R' J H1->R J H1)/\wi σ H R'):=by
  intro ξ s σ H R I ⟨R',hR,hw⟩;refine bj (hi ξ s σ H R' I hw) fun v s1 h1=>bj h1 fun Z5 s2 ⟨it,fp,tn,J,H',e,I',T,t0,fk,r⟩=>⟨it,fp,tn,J,H',e,I',T,t0,fk,hR J H' r⟩
 exact vL (c.sc I.ok) hc hi' (fun C s₀ H₀ fp ξ=>Eu (c.sc I.ok) C s₀ H₀ fp ξ) he hs ξ s σ H Q I ⟨_,fun J H1 q=>wm q,h⟩
theorem KZ{iter:Expr}{pos sp:Pos}{i:Nat}{y:Str}(hN:X.N.Nodup)(hy:X.N[i]?=some y)(ly:X.env.scope.names.lookup y=some .local)(c:dN X.env.scope X.N M [x] scope)(hc:X.calm=true)(hi:PI X (.Name x px) iter wi)(he:∀C s₀ H₀ fp ξ,PE (bu X [x] M scope (jD scope X.env.cells) C s₀ H₀ fp ξ) elt te)
  (hsw:swapsWith (.ListComp elt [⟨.Name x px,iter,[],0⟩] scope pos) (some (.Name y py)) sp.line X.env=pure true:=by rfl) (hs:∀v,foldedSetIterable iter X.env v=pure v:=by intro _;rfl) :
  PS X (.Assign [.Name y py] (.ListComp elt [⟨.Name x px,iter,[],0⟩] scope pos) sp) (aQ (fh wi te) (aJ i)):=by
 intro ξ s σ H D I h
 have hi':PI X (.Name x px) iter (fun σ H R=>∃R',(∀J H1,R' J H1->R J H1)/\wi σ H R'):=by
  intro ξ s σ H R I ⟨R',hR,hw⟩;refine bj (hi ξ s σ H R' I hw) fun v s1 h1=>bj h1 fun Z5 s2 ⟨it,fp,tn,J,H',e,I',T,t0,fk,r⟩=>⟨it,fp,tn,J,H',e,I',T,t0,fk,hR J H' r⟩
 exact Cy hy ly (c.sc I.ok) hN hc hi' (fun C s₀ H₀ fp ξ=>Eu (c.sc I.ok) C s₀ H₀ fp ξ) he hsw hs ξ s σ H D I ⟨_,fun J H1 q=>wm q,h⟩
end
def J_(D:Addr)(Pv:Hp->Prop):VK:=fun y H2=>∃xs,H2 D=some (.lst xs)/\xs.length<sizeLine/\Pv (upd H2 D (.lst (xs++[y])))
section
variable{K:Fg}{te:TE}{σ:St}{Q:VK}{H:Hp}
def ve(D:Addr)(n i:Nat)(Pv:Nat->Hp->Prop):VK:=fun y H2=>∃xs,H2 D=some (.lst xs)/\xs.length<sizeLine/\∃m',m'<n-i/\m'=n-(i+1)/\i+1<=n/\Pv (i+1) (upd H2 D (.lst (xs++[y])))
def HN(te:TE)(σ:St)(v:V)(H:Hp)(D:Addr)(n i:Nat)(Pv:Nat->Hp->Prop):Prop:=te (some v :: σ) H (ve D n i Pv)
theorem cF{n i:Nat}{Pv:Nat->Hp->Prop}(hi:i<n)(h:J_ D (Pv (i+1)) y H2):ve D n i Pv y H2:=by
 obtain⟨xs,h1,h2,h3⟩:=h;exact⟨xs,h1,h2,n-(i+1),by lia,rfl,hi,h3⟩
theorem xg{lo:Int}{n:Nat}(h:∀D,H D=none->∃Pv:Nat->Hp->Prop,Pv 0 (upd H D (.lst []))/\(∀i H2,i<n->Pv i H2->HN te σ (.int (lo+i)) H2 D n i Pv)/\∀H2,Pv n H2->Q (.ref D) H2):cZ (wu lo n) te σ Q H:=by
 intro D nD;obtain⟨Pv,h0,hs,hd⟩:=h D nD;refine⟨fun i m H=>m=n-i/\i<=n/\Pv i H,⟨n,by simp,NH _,h0⟩,?_⟩;rintro i m H ⟨rfl,hi,p⟩;by_cases X6:i<n
 ·refine .inr ⟨X6,fun v H' y=>?_⟩;obtain⟨e,y⟩:=y;subst e y;exact hs i _ X6 p
 ·have e:i=n:=by lia
  subst e;exact .inl ⟨MB _,hd H p⟩
theorem io{xs:List V}(h:∀D,H D=none->∃Pv:Nat->Hp->Prop,Pv 0 (upd H D (.lst []))/\(∀i H2,i<=xs.length->Pv i H2->SqL K H2 a xs)/\(∀i x H2,xs[i]?=some x->Pv i H2->HN te σ x H2 D xs.length i Pv)/\∀H2,Pv xs.length H2->Q (.ref D) H2):cZ (vd K a) te σ Q H:=by
 intro D nD;obtain⟨Pv,h0,hl,hs,hd⟩:=h D nD;refine⟨fun i m H=>m=xs.length-i/\i<=xs.length/\Pv i H,⟨xs.length,by simp,NH _,h0⟩,?_⟩;rintro i m H ⟨rfl,hi,p⟩;have q:=hl i H hi p;by_cases X6:i<xs.length
 ·refine .inr ⟨⟨xs,xs[i],q,by simp[X6]⟩,fun v H' y=>?_⟩;obtain⟨e,y⟩:=y;subst e;exact hs i v _ (y xs q) p
 ·have e:i=xs.length:=by lia
  subst e;exact .inl ⟨⟨xs,q,MB _⟩,hd H p⟩
theorem f8{xs:List V}(h:∀D,H D=none->∃Pv:Nat->Hp->Prop,Pv 0 (upd H D (.lst []))/\(∀i H2,i<=xs.length->Pv i H2->SqT K H2 a xs)/\(∀i x H2,xs[i]?=some x->Pv i H2->HN te σ x H2 D xs.length i Pv)/\∀H2,Pv xs.length H2->Q (.ref D) H2):cZ (sQ K a) te σ Q H:=by
 intro D nD;obtain⟨Pv,h0,hl,hs,hd⟩:=h D nD;refine⟨fun i m H=>m=xs.length-i/\i<=xs.length/\Pv i H,⟨xs.length,by simp,NH _,h0⟩,?_⟩;rintro i m H ⟨rfl,hi,p⟩;have q:=hl i H hi p;by_cases X6:i<xs.length
 ·refine .inr ⟨⟨xs,xs[i],q,by simp[X6]⟩,fun v H' y=>?_⟩;obtain⟨e,y⟩:=y;subst e;exact hs i v _ (y xs q) p
 ·have e:i=xs.length:=by lia
  subst e;exact .inl ⟨⟨xs,q,MB _⟩,hd H p⟩
end
open PySem.W (Dat kqdOk)
section
variable{K:Fg}{σ:St}{H:Hp}{Q:VK}{D:bJ}{ta tb tc te:TE}{t u:TS}{c:TT}{QB:Bool->Hp->Prop}{QA:List V->Hp->Prop}{QS:St->Hp->Prop}
theorem Lf(h:t {D with nx:=u D} σ H):ar t u D σ H:=h
theorem EG(h:D.nx σ H):bc D σ H:=h
theorem GZ(h:te σ H fun _ H1=>D.nx σ H1):dS te D σ H:=h
theorem Lg(h:te σ H D.rt):aU te D σ H:=h
theorem Lz(h:c σ H fun b H1=>if b=true then t D σ H1 else u D σ H1):a_ c t u D σ H:=h
theorem JC{g:TG}(h:te σ H fun x H1=>g x σ H1 D.nx):aQ te g D σ H:=h
theorem Ao{v:V}(h:QS (σ.set i (some v)) H):aJ i v σ H QS:=h
theorem uM{i:Nat}{v:V}(e:σ[i]?=some (some v))(h:Q v H):ac i σ H Q:=⟨v,e,h⟩
theorem L9(h:Q v H):tC v σ H Q:=h
theorem Ln{r:R2}(h:ta σ H fun x H1=>tb σ H1 fun y H2=>r x y H2 Q):aA r ta tb σ H Q:=h
theorem La{r:V->Hp->VK->Prop}(h:ta σ H fun x H1=>r x H1 Q):x_ r ta σ H Q:=h
theorem Jh{g:Int->V}(h:Q (g i) H):rU g (.int i) H Q:=⟨i,rfl,h⟩
theorem Lh{g:Int->Int->V}(h:Q (g i j) H):wN g (.int i) (.int j) H Q:=⟨i,j,rfl,rfl,h⟩
theorem jB{C:Int->Int->Prop}{g:Int->Int->V}(hc:C i j)(h:Q (g i j) H):rI C g (.int i) (.int j) H Q:=⟨i,j,rfl,rfl,hc,h⟩
theorem LD{i j:Int}(h:Q (.bl (decide (i=j))) H):jL (.int i) (.int j) H Q:=⟨rfl,by
 have e:decide (V.int i=V.int j)=decide (i=j):=by
  by_cases z:i=j
  ·subst z;simp
  ·simp[z]
 rw[e];exact h⟩
theorem Lq{i j:Int}(h:Q (.bl (!decide (i=j))) H):Bp (.int i) (.int j) H Q:=⟨rfl,by
 have e:decide (V.int i=V.int j)=decide (i=j):=by
  by_cases z:i=j
  ·subst z;simp
  ·simp[z]
 rw[e];exact h⟩
theorem LC{i j:Str}(h:Q (.bl (decide (i=j))) H):jL (.str i) (.str j) H Q:=⟨rfl,by
 have e:decide (V.str i=V.str j)=decide (i=j):=by
  by_cases z:i=j
  ·subst z;simp
  ·simp[z]
 rw[e];exact h⟩
theorem LF{i j:Bool}(h:Q (.bl (decide (i=j))) H):jL (.bl i) (.bl j) H Q:=⟨rfl,by
 have e:decide (V.bl i=V.bl j)=decide (i=j):=by
  by_cases z:i=j
  ·subst z;simp
  ·simp[z]
 rw[e];exact h⟩
theorem Lr{i j:Bool}(h:Q (.bl (!decide (i=j))) H):Bp (.bl i) (.bl j) H Q:=⟨rfl,by
 have e:decide (V.bl i=V.bl j)=decide (i=j):=by
  by_cases z:i=j
  ·subst z;simp
  ·simp[z]
 rw[e];exact h⟩
theorem Lx{x:V}(h:Q (.bl (decide (x=.non))) H):o5 x .non H Q:=⟨rfl,h⟩
theorem Jk{x:V}(h:Q (.bl (!decide (x=.non))) H):Im x .non H Q:=⟨rfl,h⟩
theorem Jd(h:te σ H fun x H'=>∃k,x=.bl k/\QB k H'):bq te σ H QB:=h
theorem Ld(h:te σ H fun x H'=>∃k,x=.bl k/\QB k H'):tB te σ H QB:=h
theorem LL{P:Bool->Prop}(h:P b):∃k,V.bl b=.bl k/\P k:=⟨b,rfl,h⟩
theorem Jl(h:c σ H fun b H1=>QB (!b) H1):dA c σ H QB:=h
theorem LN{c':TT}(h:c σ H fun b H1=>if b=true then c' σ H1 QB else QB false H1):ye c c' σ H QB:=h
theorem Lm{c':TT}(h:c σ H fun b H1=>if b=true then QB true H1 else c' σ H1 QB):xr c c' σ H QB:=h
theorem JD(h:ta σ H fun x H1=>∃k,x=.bl k/\if k=true then tb σ H1 Q else Q (.bl false) H1):j6 ta tb σ H Q:=h
theorem Ll(h:ta σ H fun x H1=>∃k,x=.bl k/\if k=true then Q (.bl true) H1 else tb σ H1 Q):Fm ta tb σ H Q:=h
theorem Jj(h:ta σ H fun x H1=>∃k,x=.bl k/\Q (.bl (!k)) H1):BL ta σ H Q:=h
theorem LA(h:c σ H fun b H1=>if b=true then ta σ H1 Q else tb σ H1 Q):Kz c ta tb σ H Q:=h
theorem G4{r r':R2}(h:ta σ H fun x H1=>tb σ H1 fun y H2=>r x y H2 fun z H3=>∃k,z=.bl k/\(if k=true then tc σ H3 fun w' H4=>r' y w' H4 Q else Q (.bl false) H3)):gU r r' ta tb tc σ H Q:=h
theorem Lp(h:QA [] H):am σ H QA:=h
theorem Jx{tr:TA}(h:ta σ H fun x H1=>tr σ H1 fun xs H2=>QA (x :: xs) H2):ag ta tr σ H QA:=h
theorem Jz{sp:Sp}{Yt:List V}{ts:TA}(h:ts σ H fun vs H1=>sp (vs++Yt) H1 Q E):aW sp Yt E ts σ H Q:=h
theorem LH{r:List V->Hp->VK->Prop}{ts:TA}(h:ts σ H fun vs H1=>r vs H1 Q):bQ r ts σ H Q:=h
theorem Lb{ts:TA}(h:ts σ H fun xs H1=>xs.length<=sizeLine/\∀p,H1 p=none->Q (.ref p) (upd H1 p (.tup xs))):f_ ts σ H Q:=h
theorem Ls{ts:TA}(h:ts σ H fun xs H1=>xs.length<=sizeLine/\∀p,H1 p=none->Q (.ref p) (upd H1 p (.lst xs))):cz ts σ H Q:=h
theorem Le{r:V->Option Int->Option Int->Hp->VK->Prop}{tl th:TO}(h:te σ H fun x H1=>tl σ H1 fun l H2=>th σ H2 fun u H3=>r x l u H3 Q):xq r te tl th σ H Q:=h
theorem C7{QO:Option Int->Hp->Prop}(h:QO none H):eO σ H QO:=h
theorem Ji{QO:Option Int->Hp->Prop}(h:te σ H fun x H1=>∃i,x=.int i/\QO (some i) H1):gq te σ H QO:=h
theorem Ly{P:Int->Prop}(h:P i):∃j,V.int i=.int j/\P j:=⟨i,rfl,h⟩
theorem bL[Decidable p]{A B:Prop}(h1:p->A)(h2 : ¬ p->B):if decide p=true then A else B:=JE h1 h2
theorem bP[Decidable p]{A B:Prop}(h1 : ¬ p->A)(h2:p->B):if (!decide p)=true then A else B:=by
 by_cases h:p
 ·rw[decide_eq_true h];exact uP (h2 h)
 ·rw[decide_eq_false h];exact uO (h1 h)
theorem GU{A B:Prop}(h:A):if (!false)=true then A else B:=uO h
theorem Am{A B:Prop}(h:B):if (!true)=true then A else B:=uP h
def Bw(J:It)(g:TG)(tb:TS)(D:bJ)(σ:St)(H1:Hp):Prop:=∃W:Nat->Nat->St->Hp->Prop,(∃m,W 0 m σ H1)/\∀i m σ H,W i m σ H ->
 (J.stop i H/\D.nx σ H)\/(J.go i H/\∃N:St->Hp->Prop,(∀σ' H',N σ' H'->∃m',m'<m/\W (i+1) m' σ' H')/\∀x H',J.yld i H x H'->g x σ H' fun σ2 H2=>tb {D with nx:=N,ct:=N,bk:=D.nx} σ2 H2)
theorem LB{wi:TI}{tb:TS}(h:wi σ H fun J H1=>Bw J g tb D σ H1):fw wi g tb D σ H:=h
theorem Jy{wi:TI}(h:wi σ H fun J H1=>cZ J te σ Q H1):fh wi te σ H Q:=h
theorem Je{ts:TA}{R:It->Hp->Prop}(h:ts σ H fun vs H1=>∃j:Int,vs=[.int j]/\-(2 ^ 62)<=j/\j<2 ^ 62/\R (wu 0 j.toNat) H1):k8 ts σ H R:=h
theorem Li{tb:TS}{j:Int}(h0 : -(2 ^ 62)<=j/\j<2 ^ 62)(h:Bw (wu 0 j.toNat) g tb D σ H):∃i:Int,[V.int j]=[.int i]/\-(2 ^ 62)<=i/\i<2 ^ 62/\Bw (wu 0 i.toNat) g tb D σ H:=⟨j,rfl,h0.1,h0.2,h⟩
theorem Lj{j:Int}(h0 : -(2 ^ 62)<=j/\j<2 ^ 62)(h:cZ (wu 0 j.toNat) te σ Q H):∃i:Int,[V.int j]=[.int i]/\-(2 ^ 62)<=i/\i<2 ^ 62/\cZ (wu 0 i.toNat) te σ Q H:=⟨j,rfl,h0.1,h0.2,h⟩
theorem GW{R:It->Hp->Prop}(h:te σ H fun x H1=>∃a,x=.ref a/\(∃xs,SqL K H1 a xs)/\R (vd K a) H1):k9 K te σ H R:=h
theorem Jq{R:It->Hp->Prop}(h:te σ H fun x H1=>∃a,x=.ref a/\(∃xs,SqT K H1 a xs)/\R (sQ K a) H1):mr K te σ H R:=h
theorem C3{tb:TS}(e:SqL K H a xs)(h:Bw (vd K a) g tb D σ H):∃b,V.ref a=.ref b/\(∃xs,SqL K H b xs)/\Bw (vd K b) g tb D σ H:=⟨a,rfl,⟨xs,e⟩,h⟩
theorem GQ{tb:TS}(e:SqT K H a xs)(h:Bw (sQ K a) g tb D σ H):∃b,V.ref a=.ref b/\(∃xs,SqT K H b xs)/\Bw (sQ K b) g tb D σ H:=⟨a,rfl,⟨xs,e⟩,h⟩
theorem GR(e:SqT K H a xs)(h:cZ (sQ K a) te σ Q H):∃b,V.ref a=.ref b/\(∃xs,SqT K H b xs)/\cZ (sQ K b) te σ Q H:=⟨a,rfl,⟨xs,e⟩,h⟩
theorem cX{lo:Int}{n:Nat}{g:TG}{tb:TS}(Pv:Nat->St->Hp->Prop)(h0:Pv 0 σ H)
  (hs:∀i σ H,i<n->Pv i σ H->g (.int (lo+i)) σ H fun σ2 H2=>tb {D with nx:=Pv (i+1),ct:=Pv (i+1),bk:=D.nx} σ2 H2) (hd:∀σ H,Pv n σ H->D.nx σ H):Bw (wu lo n) g tb D σ H:=AL Pv h0 hs hd
theorem jP{xs:List V}{g:TG}{tb:TS}(Pv:Nat->St->Hp->Prop)(h0:Pv 0 σ H)(hl:∀i σ H,i<=xs.length->Pv i σ H->SqL K H a xs)
  (hs:∀i x σ H,xs[i]?=some x->Pv i σ H->g x σ H fun σ2 H2=>tb {D with nx:=Pv (i+1),ct:=Pv (i+1),bk:=D.nx} σ2 H2) (hd:∀σ H,Pv xs.length σ H->D.nx σ H):Bw (vd K a) g tb D σ H:=Dz Pv h0 hl hs hd
theorem uR{xs:List V}{g:TG}{tb:TS}(Pv:Nat->St->Hp->Prop)(h0:Pv 0 σ H)(hl:∀i σ H,i<=xs.length->Pv i σ H->SqT K H a xs)
  (hs:∀i x σ H,xs[i]?=some x->Pv i σ H->g x σ H fun σ2 H2=>tb {D with nx:=Pv (i+1),ct:=Pv (i+1),bk:=D.nx} σ2 H2) (hd:∀σ H,Pv xs.length σ H->D.nx σ H):Bw (sQ K a) g tb D σ H:=Hb Pv h0 hl hs hd
theorem LG{v:V}{D:Addr}(h:te (some v :: σ) H (ve D n i Pv)):HN te σ v H D n i Pv:=h
theorem An{n:Nat}{ts:DV}(e:SqT K H a xs)(l:xs.length=n)(h:ts xs σ H QS):AH K n ts (.ref a) σ H QS:=⟨a,xs,rfl,e,l,h⟩
theorem GX{tg:TG}{ts:DV}(h:tg v σ H fun σ' H'=>ts r σ' H' QS):pW tg ts (v :: r) σ H QS:=⟨v,r,rfl,h⟩
theorem Jt(h:QS σ H):AI [] σ H QS:=⟨rfl,h⟩
theorem cr(e:SqL K H p xs)(h:Q (.int xs.length) H):b8 K [.ref p] H Q:=⟨p,xs,rfl,.inl e,h⟩
theorem mO(e:SqT K H p xs)(h:Q (.int xs.length) H):b8 K [.ref p] H Q:=⟨p,xs,rfl,.inr e,h⟩
theorem Jn{z:Str}(e:z.length<=sizeLine)(h:Q (.int z.length) H):Ip [.str z] H Q:=⟨z,rfl,e,h⟩
theorem bh{v:V}(e:SqL K H p xs)(a:lG xs i=some v)(h:Q v H):aZ K (.ref p) (.int i) H Q:=⟨p,xs,i,v,rfl,rfl,e,a,h⟩
theorem bI{v:V}(e:SqT K H p xs)(a:lG xs i=some v)(h:Q v H):bB K (.ref p) (.int i) H Q:=⟨p,xs,i,v,rfl,rfl,e,a,h⟩
theorem C9{z:Str}{c:Nat}(e:z.length<=sizeLine)(a:lG z.cps.toList i=some c)(h:Q (.str ⟨#[c]⟩) H):qU (.str z) (.int i) H Q:=⟨z,i,c,rfl,rfl,e,a,h⟩
theorem rT(e:SqL K H p xs)(h:∀l,H l=none->Q (.ref l) (upd H l (.tup xs))):fA K [.ref p] H Q:=⟨p,xs,rfl,.inl ⟨e,h⟩⟩
theorem vU(e:SqT K H p xs)(h:Q (.ref p) H):fA K [.ref p] H Q:=⟨p,xs,rfl,.inr ⟨e,h⟩⟩
theorem GT(e:SqL K H p xs)(h:∀l,H l=none->Q (.ref l) (upd H l (.lst xs))):gw K [.ref p] H Q:=⟨p,xs,rfl,.inl e,h⟩
theorem Aj(e:SqT K H p xs)(h:∀l,H l=none->Q (.ref l) (upd H l (.lst xs))):gw K [.ref p] H Q:=⟨p,xs,rfl,.inr e,h⟩
theorem LK{r:V->List V->Hp->VK->Prop}{to:TE}{ts:TA}(h:to σ H fun x H1=>D8 K T x H1/\ts σ H1 fun xs H2=>r x xs H2 Q):j4 K T r to ts σ H Q:=h
theorem LJ{r:V->List V->Hp->VK->Prop}{to:TE}(h:to σ H fun x H1=>D8 K T x H1/\r x [] H1 Q):BM K T r to σ H Q:=h
theorem uN(e:H p=some (.lst xs)):D8 K "list" (.ref p) H:=.inl ⟨rfl,xs,SqL.of e⟩
theorem Jp{b:Bool}(h:Q (.int (if b then 1 else 0)) H):F8 [.bl b] H Q:=.inr ⟨b,rfl,h⟩
theorem aR{b:Bool}(e:TyOf K H x ty)(k:MZ K ty (.type n)=some b)(h:Q (.bl b) H):eR K [x,.ty n] H Q:=⟨x,n,ty,b,rfl,e,k,h⟩
theorem fL{i j:Str}(n:i.length+j.length<=sizeLine)(h:Q (.str (i++j)) H):eK (.str i) (.str j) H Q:=⟨i,j,rfl,rfl,n,h⟩
end
mutual
inductive Rp (K:Fg) (S:Addr->Prop) (H:Hp):V->Dat->Prop
 |non:Rp K S H .non .none
 |bl (b:Bool):Rp K S H (.bl b) (.bool b)
 |int (i:Int):Rp K S H (.int i) (.int i)
 |str (x:Str):Rp K S H (.str x) (.str x)
 |tup {a:Addr} {xs:List V} {ds:List Dat}:H a=some (.tup xs)->RpL K S H xs ds->Rp K S H (.ref a) (.tuple ds)
 |lst {a:Addr} {xs:List V} {ds:List Dat}:S a->H a=some (.lst xs)->RpL K S H xs ds->Rp K S H (.ref a) (.list ds)
inductive RpL (K:Fg) (S:Addr->Prop) (H:Hp):List V->List Dat->Prop
 |nil:RpL K S H [] []
 |cons {v:V} {d:Dat} {vs:List V} {ds:List Dat}:Rp K S H v d->RpL K S H vs ds->RpL K S H (v :: vs) (d :: ds)
end
structure Agr (S:Addr->Prop) (H H':Hp):Prop where
 tup:∀a xs,H a=some (.tup xs)->H' a=some (.tup xs)
 lst:∀a xs,S a->H a=some (.lst xs)->H' a=some (.lst xs)
section
variable{K:Fg}{S S':Addr->Prop}{H H':Hp}
theorem Agr.of_same(e:Same H H'):Agr S H H':=⟨fun a xs h=>e _ _ h,fun a xs _ h=>e _ _ h⟩
theorem Agr.rE(hl:H l=some (.lst ys))(ns : ¬ S l):Agr S H (upd H l o):=by
 refine⟨fun a xs h=>?_,fun a xs s h=>?_⟩
 ·have ne:a≠l:=by
   rintro rfl;rw[hl] at h;cases h
  rw[av ne];exact h
 ·have ne:a≠l:=by
   rintro rfl;exact ns s
  rw[av ne];exact h
theorem Agr.GC{u:HO}(hl:H l=some u)(nt:∀xs,u≠.tup xs)(ns : ¬ S l):Agr S H (upd H l o):=by
 refine⟨fun a xs h=>?_,fun a xs s h=>?_⟩
 ·have ne:a≠l:=by
   rintro rfl;rw[hl] at h;exact nt xs (MY h)
  rw[av ne];exact h
 ·have ne:a≠l:=by
   rintro rfl;exact ns s
  rw[av ne];exact h
mutual
theorem Rp.agr(e:Agr S H H'):∀{v:V} {d:Dat},Rp K S H v d->Rp K S H' v d
 |_,_,.non=>.non
 |_,_,.bl b=>.bl b
 |_,_,.int i=>.int i
 |_,_,.str x=>.str x
 |_,_,.tup h r=>.tup (e.tup _ _ h) (RpL.agr e r)
 |_,_,.lst s h r=>.lst s (e.lst _ _ s h) (RpL.agr e r)
theorem RpL.agr(e:Agr S H H'):∀{vs:List V} {ds:List Dat},RpL K S H vs ds->RpL K S H' vs ds
 |_,_,.nil=>.nil
 |_,_,.cons h r=>.cons (Rp.agr e h) (RpL.agr e r)
end
mutual
theorem Rp.mono(e:∀a,S a->S' a):∀{v:V} {d:Dat},Rp K S H v d->Rp K S' H v d
 |_,_,.non=>.non
 |_,_,.bl b=>.bl b
 |_,_,.int i=>.int i
 |_,_,.str x=>.str x
 |_,_,.tup h r=>.tup h (RpL.mono e r)
 |_,_,.lst s h r=>.lst (e _ s) h (RpL.mono e r)
theorem RpL.mono(e:∀a,S a->S' a):∀{vs:List V} {ds:List Dat},RpL K S H vs ds->RpL K S' H vs ds
 |_,_,.nil=>.nil
 |_,_,.cons h r=>.cons (Rp.mono e h) (RpL.mono e r)
end
mutual
theorem Rp.rep:∀{v:V} {d:Dat},Rp K S H v d->Rep K H v d
 |_,_,.non=>.non
 |_,_,.bl b=>.bl b
 |_,_,.int i=>.int i
 |_,_,.str x=>.str x
 |_,_,.tup h r=>.tup (SqT.of h) (RpL.rep r)
 |_,_,.lst _ h r=>.lst (SqL.of h) (RpL.rep r)
theorem RpL.rep:∀{vs:List V} {ds:List Dat},RpL K S H vs ds->RepL K H vs ds
 |_,_,.nil=>.nil
 |_,_,.cons h r=>.cons (Rp.rep h) (RpL.rep r)
end
theorem Rp.same(e:Same H H')(h:Rp K S H v d):Rp K S H' v d:=h.agr (Agr.of_same e)
theorem RpL.same(e:Same H H')(h:RpL K S H vs ds):RpL K S H' vs ds:=h.agr (Agr.of_same e)
theorem RpL.length:∀{vs:List V} {ds:List Dat},RpL K S H vs ds->vs.length=ds.length
 |_,_,.nil=>rfl
 |_,_,.cons _ r=>congrArg (· + 1) (RpL.length r)
theorem RpL.get:∀{vs:List V} {ds:List Dat} {i:Nat} {v:V},RpL K S H vs ds->vs[i]?=some v->∃d,ds[i]?=some d/\Rp K S H v d
 |_,_,_,_,.nil,e=>by simp at e
 |_,_,0,_,.cons h _,e=>by simp at e;subst e;exact⟨_,rfl,h⟩
 |_,_,i+1,v,.cons _ r,e=>by
  obtain⟨d,h1,h2⟩:=RpL.get (i:=i) (v:=v) r (by simpa using e);exact⟨d,by simpa using h1,h2⟩
theorem RpL.get':∀{vs:List V} {ds:List Dat} {i:Nat} {d:Dat},RpL K S H vs ds->ds[i]?=some d->∃v,vs[i]?=some v/\Rp K S H v d
 |_,_,_,_,.nil,e=>by simp at e
 |_,_,0,_,.cons h _,e=>by simp at e;subst e;exact⟨_,rfl,h⟩
 |_,_,i+1,v,.cons _ r,e=>by
  obtain⟨d,h1,h2⟩:=RpL.get' (i:=i) (d:=v) r (by simpa using e);exact⟨d,by simpa using h1,h2⟩
theorem RpL.append:∀{vs ws:List V} {ds es:List Dat},RpL K S H vs ds->RpL K S H ws es->RpL K S H (vs++ws) (ds++es)
 |_,_,_,_,.nil,s=>s
 |_,_,_,_,.cons h r,s=>.cons h (RpL.append r s)
theorem RpL.take:∀{vs:List V} {ds:List Dat} (n:Nat),RpL K S H vs ds->RpL K S H (vs.take n) (ds.take n)
 |_,_,0,_=>.nil
 |_,_,_+1,.nil=>.nil
 |_,_,n+1,.cons h r=>.cons h (RpL.take n r)
theorem RpL.drop:∀{vs:List V} {ds:List Dat} (n:Nat),RpL K S H vs ds->RpL K S H (vs.drop n) (ds.drop n)
 |_,_,0,r=>r
 |_,_,_+1,.nil=>.nil
 |_,_,n+1,.cons _ r=>RpL.drop n r
theorem RpL.ints:∀ns:List Int,RpL K S H (ns.map V.int) (ns.map PV)
 |[]=>.nil
 |n :: ns=>.cons (.int n) (RpL.ints ns)
theorem RpL.strs:∀ns:List Str,RpL K S H (ns.map V.str) (ns.map Nw)
 |[]=>.nil
 |n :: ns=>.cons (.str n) (RpL.strs ns)
theorem RpL.ints_of:∀{vs:List V} {ns:List Int},RpL K S H vs (ns.map PV)->vs=ns.map V.int
 |_,[],.nil=>rfl
 |_,n :: ns,.cons h r=>by cases h;rw[RpL.ints_of r];rfl
theorem RpL.gr:∀{vs:List V} {ns:List Str},RpL K S H vs (ns.map Nw)->vs=ns.map V.str
 |_,[],.nil=>rfl
 |_,n :: ns,.cons h r=>by cases h;rw[RpL.gr r];rfl
theorem Rp.cf(h:Rp K S H v (.tuple ds)):∃a xs,v=.ref a/\H a=some (.tup xs)/\RpL K S H xs ds:=by
 cases h with
 |tup h r=>exact⟨_,_,rfl,h,r⟩
theorem Rp.zQ(h:Rp K S H v (.list ds)):∃a xs,v=.ref a/\S a/\H a=some (.lst xs)/\RpL K S H xs ds:=by
 cases h with
 |lst s h r=>exact⟨_,_,rfl,s,h,r⟩
end
def F0:Addr->Prop:=fun _=>False
abbrev Rz(K:Fg)(H:Hp):V->Dat->Prop:=Rp K F0 H
abbrev RzL(K:Fg)(H:Hp):List V->List Dat->Prop:=RpL K F0 H
section
variable{K:Fg}{S:Addr->Prop}{H H':Hp}
theorem RpL.z(h:RzL K H vs ds):RpL K S H vs ds:=h.mono fun _ z=>z.elim
theorem Rz.upd(h:Rz K H v d)(hl:H l=some (.lst ys)):Rz K (L2.upd H l o) v d:=h.agr (Agr.rE hl fun z=>z)
theorem RzL.upd(h:RzL K H v d)(hl:H l=some (.lst ys)):RzL K (L2.upd H l o) v d:=h.agr (Agr.rE hl fun z=>z)
end
structure Acc (K:Fg) (H0:Hp) (l:Addr) (H:Hp) (ds:List Dat):Prop where
 same:Same H0 H
 new:H0 l=none
 at_:∃xs,H l=some (.lst xs)/\RpL K (fun a=>H0 a=none/\a≠l) H xs ds
section
variable{K:Fg}{H0 H H':Hp}{l:Addr}{ds:List Dat}
theorem Acc.on(A:Acc K H0 l H ds)(e:Same H H'):Acc K H0 l H' ds:=by
 obtain⟨xs,h1,h2⟩:=A.at_;exact⟨A.same.trans e,A.new,xs,e _ _ h1,h2.same e⟩
theorem Acc.ref(A:Acc K H0 l H ds):Rp K (fun a=>H0 a=none) H (.ref l) (.list ds):=by
 obtain⟨xs,h1,h2⟩:=A.at_;exact .lst A.new h1 (h2.mono fun _ z=>z.1)
theorem Acc.push(A:Acc K H0 l H ds)(r:Rp K S H y d)(hS:∀a,S a->H0 a=none/\a≠l):∃xs,H l=some (.lst xs)/\xs.length=ds.length/\Acc K H0 l (upd H l (.lst (xs++[y]))) (ds++[d]):=by
 obtain⟨xs,h1,h2⟩:=A.at_;refine⟨xs,h1,h2.length,⟨fun b o q=>?_,A.new,xs++[y],ak,?_⟩⟩
 ·rw[av (aC q A.new)];exact A.same b o q
 ·exact(h2.append (.cons (r.mono hS) .nil)).agr (Agr.rE h1 fun z=>z.2 rfl)
theorem Acc.KY(A:Acc K H0 l H ds)(r:Rz K H y d):∃xs,H l=some (.lst xs)/\xs.length=ds.length/\Acc K H0 l (upd H l (.lst (xs++[y]))) (ds++[d]):=A.push r fun _ z=>z.elim
end
theorem Acc.ty{K:Fg}    (A:Acc K H0 l H ds):D8 K "list" (.ref l) H:=by
 obtain⟨xs,h1,_⟩:=A.at_;exact uN h1
structure AccZ (K:Fg) (H0:Hp) (l:Addr) (H:Hp) (ds:List Dat):Prop where
 same:Same H0 H
 new:H0 l=none
 at_:∃xs,H l=some (.lst xs)/\RzL K H xs ds
section
variable{K:Fg}{H0 H H':Hp}{l m:Addr}{ds:List Dat}
theorem AccZ.start(e:Same H0 H)(n:H l=none):AccZ K H0 l (upd H l (.lst [])) []:=⟨e.trans (au n _),e.free n,[],ak,.nil⟩
theorem AccZ.on(A:AccZ K H0 l H ds)(e:Same H H'):AccZ K H0 l H' ds:=by
 obtain⟨xs,h1,h2⟩:=A.at_;exact⟨A.same.trans e,A.new,xs,e _ _ h1,h2.same e⟩
theorem AccZ.ref(A:AccZ K H0 l H ds):Rp K (fun a=>H0 a=none) H (.ref l) (.list ds):=by
 obtain⟨xs,h1,h2⟩:=A.at_;exact .lst A.new h1 h2.z
theorem AccZ.rep(A:AccZ K H0 l H ds):Rep K H (.ref l) (.list ds):=A.ref.rep
theorem AccZ.ty(A:AccZ K H0 l H ds):D8 K "list" (.ref l) H:=by
 obtain⟨xs,h1,_⟩:=A.at_;exact uN h1
theorem AccZ.sq(A:AccZ K H0 l H ds):∃xs,SqL K H l xs/\xs.length=ds.length/\RzL K H xs ds:=by
 obtain⟨xs,h1,h2⟩:=A.at_;exact⟨xs,SqL.of h1,h2.length,h2⟩
theorem AccZ.ak(A:AccZ K H0 l H ds):Same H0 (L2.upd H l o):=fun b u q=>by
 rw[L2.av (aC q A.new)];exact A.same b u q
theorem AccZ.other(A:AccZ K H0 l H ds)(ne:l≠m)(n:H0 m=none)(h:H m=some (.lst ys)):AccZ K H0 l (upd H m o) ds:=by
 obtain⟨xs,h1,h2⟩:=A.at_;refine⟨fun b u q=>?_,A.new,xs,by rw[av ne];exact h1,h2.upd h⟩;rw[av (aC q n)];exact A.same b u q
end
theorem kY{K:Fg}{Q:VK}(A:AccZ K H0 l H ds)(r:Rz K H y d)(n:ds.length<sizeLine)
  (h:∀H2,AccZ K H0 l H2 (ds++[d])->(∀{v:V} {e:Dat},Rz K H v e->Rz K H2 v e)->(∀b,b≠l->H2 b=H b)->(∀{m:Addr} {es:List Dat},m≠l->AccZ K H0 m H es->AccZ K H0 m H2 es)->Q .non H2):cE (.ref l) [y] H Q:=by
 obtain⟨xs,h1,h2⟩:=A.at_;refine⟨l,xs,y,rfl,rfl,h1,by rw[h2.length];exact n,h _ ⟨A.ak,A.new,xs++[y],ak,?_⟩ (fun q=>Rz.upd q h1) (fun b nb=>av nb) fun ne B=>B.other ne A.new h1⟩;exact RzL.upd (h2.append (.cons r .nil)) h1
section
variable{K:Fg}{H:Hp}{Q:VK}{x y:V}{d e:Dat}{ds:List Dat}
open Classical in
theorem C6(hd:Rep K H x d)(he:Rep K H y (.list ds))(ka:∀e∈ds,kqdOk 8 e=true)(kd:kqdOk 8 d=true)(h1:d∉ds->Q (.bl true) H)(h2:d∈ds->Q (.bl false) H):F9 K true x y H Q:=by
 refine⟨d,ds,hd,he,ka,kd,?_⟩;by_cases z:d∈ds
 ·have q:=h2 z;simpa[z] using q
 ·have q:=h1 z;simpa[z] using q
open Classical in
theorem GY(hd:Rep K H x d)(he:Rep K H y e)(kd:kqdOk 8 d=true)(ke:kqdOk 8 e=true)(h1:d=e->Q (.bl true) H)(h2:d≠e->Q (.bl false) H):zg K x y H Q:=by
 refine⟨d,e,hd,he,kd,ke,?_⟩;by_cases z:d=e
 ·have q:=h1 z;rw[decide_eq_true z];exact q
 ·have q:=h2 z;rw[decide_eq_false z];exact q
open Classical in
theorem GS(hd:Rep K H x d)(he:Rep K H y e)(kd:kqdOk 8 d=true)(ke:kqdOk 8 e=true)(h1:d≠e->Q (.bl true) H)(h2:d=e->Q (.bl false) H):ue K x y H Q:=by
 refine⟨d,e,hd,he,kd,ke,?_⟩;by_cases z:d=e
 ·have q:=h2 z;rw[decide_eq_true z];exact q
 ·have q:=h1 z;rw[decide_eq_false z];exact q
end
def Do(n:Nat):Option Int->Nat
 |none=>n
 |some j=>min j.toNat n
def EM(l:List Nat):Option Int->List Nat
 |none=>l
 |some j=>l.take j.toNat
theorem EL(n:Nat)(hi:Option Int):Do n hi<=n:=by
 cases hi with
 |none=>exact MB _
 |some j=>exact QX _ _
def kg(z:Str)(lo hi:Option Int):Str:=⟨((EM z.cps.toList hi).drop (lo.getD 0).toNat).toArray⟩
def NN:Option Int->Prop
 |none=>True
 |some i=>0<=i
theorem KC{lo:Option Int}(n:Nat)(hl:NN lo)(hh:NN hi):M9 lo hi 1 n=(N7 (Do n hi-min (lo.getD 0).toNat n)).map (fun k=>min (lo.getD 0).toNat n+k):=by
 have core:∀(a b:Nat),a<=n->b<=n->sliceRange (a:Int) (b:Int) 1=(N7 (b-a)).map (fun k=>a+k):=by
  intro a b ha hb;simp only[sliceRange,show((1:Int) > 0)=True from by simp,if_true];by_cases X6:(a:Int)<b
  ·have e3:(((b:Int)-a+1-1) / 1).toNat=b-a:=by rw[Int.ediv_one];lia
   simp only[X6,if_true,e3];refine R_ fun k _=>?_
   lia
  ·have:b-a=0:=by lia
   simp[X6,this]
 have clip:∀i:Int,0<=i->max (0:Int) (min (if i<0 then i+n else i) n)=((min i.toNat n:Nat):Int):=by
  intro i hi;rw[if_neg (by lia)];lia
 cases lo with
 |none =>
  cases hi with
  |none =>
   have:=core 0 n (by lia) (by lia)
   simpa[M9,Do] using this
  |some j =>
   have:=core 0 (min j.toNat n) (by lia) (by lia)
   simp only[M9,show((1:Int) > 0)=True from by simp,if_true];rw[clip j hh];simpa[Do] using this
 |some i =>
  cases hi with
  |none =>
   have:=core (min i.toNat n) n (by lia) (by lia)
   simp only[M9,show((1:Int) > 0)=True from by simp,if_true];rw[clip i hl];simpa[Do] using this
  |some j =>
   have:=core (min i.toNat n) (min j.toNat n) (by lia) (by lia)
   simp only[M9,show((1:Int) > 0)=True from by simp,if_true];rw[clip i hl,clip j hh];simpa[Do] using this
theorem BW(z:Str){lo:Option Int}(hl:NN lo)(hh:NN hi):Qd z lo hi=kg z lo hi:=by
 have len:z.cps.toList.length=z.length:=by simp[Xj]
 have e:=KC z.length hl hh;have p:=StrLaws.picks z.cps.toList (Do z.length hi-min (lo.getD 0).toNat z.length) (min (lo.getD 0).toNat z.length) (by have:=EL z.length hi;rw[len];lia)
 have q:(z.cps.toList.drop (min (lo.getD 0).toNat z.length)).take (Do z.length hi-min (lo.getD 0).toNat z.length)=(EM z.cps.toList hi).drop (lo.getD 0).toNat:=by
  generalize (lo.getD 0).toNat=a;cases hi with
  |none =>
   show List.take (z.length-min a z.length) (Vp (min a z.length) z.cps.toList)=Vp a z.cps.toList;by_cases ha:a<=z.length
   ·rw[PK ha,MV (by rw[Oe,len];exact MB _)]
   ·rw[Pw (by lia),Ov (by rw[len];exact MB _),Ov (by rw[len];lia)];simp
  |some j =>
   show List.take (min j.toNat z.length-min a z.length) (Vp (min a z.length) z.cps.toList)=Vp a (z.cps.toList.take j.toNat);rw[List.drop_take];generalize j.toNat=b;by_cases ha:a<=z.length
   ·rw[PK ha];by_cases hb:b<=z.length
    ·rw[PK hb]
    ·rw[Pw (by lia),MV (by rw[Oe,len];exact MB _),MV (by rw[Oe,len];lia)]
   ·rw[Pw (by lia:z.length<=a),Ov (by rw[len];exact MB _),Ov (by rw[len];lia)];simp
 have r:(M9 lo hi 1 z.length).filterMap (z.cps[·]?)=(EM z.cps.toList hi).drop (lo.getD 0).toNat:=by
  rw[<- q,<- p,e];simp
 unfold Qd kg;split
 ·rename_i c;have c':(M9 lo hi 1 z.length).length=z.length:=by simpa using c
  rw[e,Mv,QG] at c'
  have w:(z.cps.toList.drop (min (lo.getD 0).toNat z.length)).take (Do z.length hi-min (lo.getD 0).toNat z.length)=z.cps.toList:=by
   have b:=EL z.length hi;by_cases h0:z.length=0
   ·have:z.cps.toList=[]:=On.mp (by rw[len];exact h0)
    rw[this];simp
   ·have a0:min (lo.getD 0).toNat z.length=0:=by lia
    rw[a0,SA,MV (by rw[len];lia)]
  rw[<- q,w]
 ·rw[r]
def Ct:V->Option Int->Option Int->Hp->VK->Prop:=fun x lo hi H Q=>∃z,x=.str z/\z.length<=sizeLine/\NN lo/\NN hi/\Q (.str (kg z lo hi)) H
def Ir:V->List V->Hp->VK->Prop:=fun x xs H Q=>∃z y,x=.str z/\xs=[.str y]/\Q (.int (Txt.find z y)) H
def uf:R2:=fun x y H Q=>∃i j,x=.str i/\y=.str j/\Q (.bl (!decide (j.cps.toList<i.cps.toList))) H
section
variable{X:Cx}
theorem yx:J7 X Ct:=by
 intro ξ s σ H x v vl vu lo hi sl Q I rx hs pl pu h;obtain⟨z,rfl,hz,hl,hh,q⟩:=h;obtain⟨t,rfl⟩:=rx;refine⟨"str",_,SB.lookup,Qk _ _ _,?_⟩
 have fin:∀(l u:Option (Int×Tok)),l.map (·.1)=lo->u.map (·.1)=hi->(sliceMade z t l u none).post (EP X ξ σ Q) s:=by
  intro l u el eu
  have e:sliceMade z t l u none=if ((1:Int) == 1 && (M9 lo hi 1 z.length).length == z.length)=true then Made.val (.str z t) else .str ⟨((M9 lo hi 1 z.length).filterMap (z.cps[·]?)).toArray⟩:=by
   unfold sliceMade slicePicked;rw[el,eu];rfl
  rw[e];have lt:=Txt.slice_le z lo hi;have eq:=BW z hl hh;unfold Qd at lt eq;refine post_val_or_str ⟨Np lt hz,fun t' k=>⟨.str (kg z lo hi),H,I.tok k,⟨t',?_⟩,q⟩⟩;rw[eq]
 cases pl with
 |none =>
  cases pu with
  |none=>exact NT (l:=none) (u:=none) (st:=none) hs rfl (fin none none rfl rfl)
  |int j tj=>exact NT (l:=none) (u:=some (j,tj)) (st:=none) hs rfl (fin none (some (j,tj)) rfl rfl)
 |int i ti =>
  cases pu with
  |none=>exact NT (l:=some (i,ti)) (u:=none) (st:=none) hs rfl (fin (some (i,ti)) none rfl rfl)
  |int j tj=>exact NT (l:=some (i,ti)) (u:=some (j,tj)) (st:=none) hs rfl (fin (some (i,ti)) (some (j,tj)) rfl rfl)
theorem GI:Bv X "str.find" Ir:=by
 intro ξ s σ H x xs v us Q I rx rv h;obtain⟨z,y,rfl,rfl,q⟩:=h;obtain⟨t,rfl⟩:=rx;obtain⟨u,rfl,t',rfl⟩:=vals1 rv;exact SC.find ⟨.int _,H,I.tok _,⟨_,rfl⟩,q⟩
theorem hJ:ft X (compareOp .LtE) uf:=by
 intro ξ s σ H x y v u Q I rx ry h;obtain⟨i,j,rfl,rfl,q⟩:=h;obtain⟨t,rfl⟩:=rx;obtain⟨t',rfl⟩:=ry;exact PySem.P.le_str (bw I q rfl)
end
def RawD(h:Heap)(d:Addr)(es:Array Tt)(ep:Nat):Prop:=∃o,h.get? d=some o/\o.ExactDict/\o.data=.dict es ep
section
variable{prog:MP}{w:M4}{A:No}{E:Mu->MA->Prop}{s:MA}{d it:Addr}{es:Array Tt}{ep i:Nat}
theorem RawD.ty(m:RawD s.heap d es ep):s.TypeIs (.ref d) "dict":=by
 obtain⟨o,a,b,_⟩:=m;exact⟨o,a,b.1⟩
theorem RawD.at{h':Heap}(m:RawD h d es ep)(k:∀o,h.get? d=some o->h'.get? d=some o):RawD h' d es ep:=by
 obtain⟨o,a,b⟩:=m;exact⟨o,k o a,b⟩
theorem Cp{Q:Mu->MA->Prop} (lo:(d == sysModules)=false) (m:RawD s.heap d es ep) (q:Q (.ref s.heap.objs.size) {s with heap:=s.heap.push {cls:=.type "dict_keyiterator",data:=.fields #[.ref d,.int 0 0,.int es.size 0,.int ep 0]}}) :
  wpAny (model prog w) A (pyIter (.ref d)) Q E s:=by
 have ty:=m.ty;obtain⟨o,ho,_,dt⟩:=m;refine wpAny_pyIter_slot ty WK (N5 WK ty F.entry_dict_iter ?_ (F.args_dict_iter_1 _));unfold OK.«dict.__iter__» OK.Dict.dictSlotNone;refine Ms (Ms (wpAny_notOrdered_dict ty ?_));show wpAny _ _ (pure (MX d)) _ _ s;refine Mz ?_;show wpAny _ _ (UA d >>= _) _ _ s;unfold UA;rw[if_neg (fun z=>by rw[lo] at z;cases z)];refine Ms (Mz (Ms (SZ ho dt (Ms (Ut ho dt ?_)))));refine Ms (NW (Mz ⟨_,rfl,"dict_keyiterator",_,⟨_,ML _ rfl,rfl⟩,OH.lookup,?_⟩));simpa[rawInt] using q
theorem vE{Q:Option Mu->MA->Prop}(ki:s.heap.IsKeyIter it d i es.size ep)(m:RawD s.heap d es ep) :
  (∀e,es[i]?=some e->(∀h',h'.IsKeyIter it d (i+1) es.size ep->PL it s.heap h'->Q (some e.key) {s with heap:=h'})->wpAny (model prog w) A (pyNext (.ref it)) Q E s) /\
  (A.handled=none->es[i]?=none->(∀h',QN it s.heap h'->Q none {s with heap:=h'})->wpAny (model prog w) A (pyNext (.ref it)) Q E s):=by
 obtain⟨o,ho,oc,od⟩:=id ki;obtain⟨dd,hd,_,dt⟩:=id m;have own:OK.Dict_items.ownsTuple "dict_keyiterator"=false:=by decide
 have nn : ¬ ((MX d == NJ)=true):=M_;constructor
 ·intro e he hq;unfold pyNext;refine Ms (O7 (NF (name:=Om "__next__") ki.typeIs OH (N5 OH ki.typeIs RT ?_ (RI _))));refine Ms (Mz (Ms (Ms (Ms (Pb ki.typeIs (Mz (Ms (wpAny_fieldsOf ho od ?_))))))));simp only[own,Na,if_false];show wpAny _ _ (if (MX d == NJ)=true then _ else _) _ _ s;rw[if_neg nn];refine Ms (Mz (Ms (SZ hd dt ?_)));rw[if_neg (by simp)];refine Ms (Mz (Ms (Ut hd dt ?_)));rw[if_neg (by simp)];refine Mz ?_;simp only[show ¬ ((i:Int)<0) from by lia,if_false,Ol,he];refine Ms (Ms (Pb ki.typeIs (Mz (Ms (UB ki.typeIs ?_)))));show wpAny _ _ (setField (.ref it) 1 (rawInt ((i:Int)+1)) >>= _) _ _ s;refine Ms (Qc ho od (by simp) ?_);have k2:(s.heap.update it (Of (·.setIfInBounds 1 (rawInt ((i:Int)+1))))).IsKeyIter it d (i+1) es.size ep:=⟨_,NB _ ho (PB (O5 od _)),(SX ..).trans oc,by rw[O5 od];simp[rawInt]⟩
  refine Ms (NQ (Ms (UB (s:={s with heap:=s.heap.update it (Of (·.setIfInBounds 1 (rawInt ((i:Int)+1))))}) k2.typeIs ?_)));show wpAny _ _ (pure e.key) _ _ _;exact Mz (Mz ⟨_,rfl,Mz (hq _ k2 (Pi ..))⟩)
 ·intro hh he hq;unfold pyNext;refine Ms (O7 (NF (name:=Om "__next__") ki.typeIs OH (N5 OH ki.typeIs RT ?_ (RI _))));refine Ms (Mz (Ms (Ms (Ms (Pb ki.typeIs (Mz (Ms (wpAny_fieldsOf ho od ?_))))))));simp only[own,Na,if_false];show wpAny _ _ (if (MX d == NJ)=true then _ else _) _ _ s;rw[if_neg nn];refine Ms (Mz (Ms (SZ hd dt ?_)));rw[if_neg (by simp)];refine Ms (Mz (Ms (Ut hd dt ?_)));rw[if_neg (by simp)];refine Mz ?_;simp only[show ¬ ((i:Int)<0) from by lia,if_false,Ol,he];refine Ms (Ms (Pb ki.typeIs (Mz ?_)));show wpAny _ _ (setField (.ref it) 0 .none >>= _) _ _ s;refine Ms (Qc ho od (by simp) ?_);show wpAny _ _ (newExc (.type "StopIteration") [] >>= _) _ _ _;refine Ms ?_;simp only[newExc,newTuple];refine Ms (NW ?_ (by size_fits));refine Ms (m:=firstArgMember _ _) (wpAny_of_eq (a:=NJ) (by simp only[firstArgMember];rfl) (NW ?_ (by size_fits)));simp only[raiseNew];refine Ms (wpAny_handled ?_);rw[show A.in1.handled=none from hh];refine Ms (Mz (wpAny_throw ?_));refine Ms (QZ (T:="StopIteration") (b:=true) ⟨_,ML _ rfl,rfl⟩ SD ?_);exact Mz (hq _ (((Pi ..).extBut.push _).push _))
theorem y8(hh:A.handled=none)(I d:Addr)(ne:d≠I)(es:Array Tt)(ep:Nat):Walks prog w A I [I,d] [I] es.size (fun i v=>∃e,es[i]?=some e/\v=e.key) (fun i h=>h.IsKeyIter I d i es.size ep/\RawD h d es ep) where
 sub:=fun b hb=>by rw[MK.mp hb];simp
 frame:=fun _ _ _ st hk=>⟨st.1.at fun o e=>hk I (by simp) o e,st.2.at fun o e=>hk d (by simp) o e⟩
 item:=fun i s Q E hi st hq=>by
  refine(vE st.1 st.2).1 es[i] (by simp[hi]) fun h' k1 k2=>?_
  exact hq _ h' s.toks ⟨es[i],by simp[hi],rfl⟩ ⟨k1,st.2.at fun o e=>k2.extBut d o ne e⟩ fun b o hb e=>k2.extBut b o (fun z=>hb (by simp[z])) e
 done:=fun s Q E st hq=>(vE st.1 st.2).2 hh (by simp) fun h' k=>hq h' s.toks fun b o hb e=>k b o (fun z=>hb (by simp[z])) e
 self:=fun _ _ _ _ st hq=>wpAny_pyIter_keyiter st.1 hq
theorem F1(lo:(d == sysModules)=false):PySem.W.KdlSrc prog w "dict" d d es.size (fun i v=>∃e,es[i]?=some e/\v=e.key) (fun h=>RawD h d es ep) where
 type:=fun _ m=>m.ty
 there:=fun _ ⟨_,e,_⟩=>⟨MG e,MG e⟩
 keep:=fun _ _ m hk=>m.at fun o e=>hk d (.inl rfl) o e
 notList:=by decide
 notTuple:=by decide
 hint:=fun _ _ _ _ m q=>PySem.W.kdl_hint_dict m.ty q
 iter:=fun _ _ hh m=>⟨_,_,(fun _ _ q=>Cp lo m q),y8 hh _ d (by obtain⟨_,e,_⟩:=m;exact MC (MG e)) es ep,⟨⟨_,ML _ rfl,rfl,rfl⟩,m.at fun _ e=>Mt _ e⟩⟩
end
theorem qS:∀ys:List (List Key×Addr×Mu),Vals (ys.map (V.ref∘fun y=>y.2.1)) (ys.map fun y=>MX y.2.1)
 |[]=>.nil
 |_ :: ys=>.cons rfl (qS ys)
theorem GL(r:KT H fx ys):Paired (fun(p:List Key×V) b=>H b=some (.tup (p.1.map kV))) fx (ys.map fun y=>y.2.1):=by
 induction r with
 |nil=>exact .nil
 |cons h t ih=>exact .cons h.2.1 ih
def Ei:List V->Hp->VK->Prop:=fun xs H Q=>∃a fx,xs=[.ref a]/\H a=some (.dT fx)/\∀(l:Addr) (bs:List Addr),H l=none->Paired (fun(p:List Key×V) b=>H b=some (.tup (p.1.map kV))) fx bs->Q (.ref l) (upd H l (.lst (bs.map V.ref)))
theorem xk{X:Cx} (hc:X.calm=true):gN X (.type "list") Ei:=by
 intro ξ s σ H xs us Q I r h;obtain⟨a,fx,rfl,ha,q⟩:=h;obtain⟨u,rfl,ru⟩:=vals1 r;cases ru;obtain⟨z,lo,ys,kt,o,es,ep,ho,ex,dt,he,_,_⟩:=JR I.hok ha;have sz:es.size=fx.length:=by rw[<- NP,he,Mv];exact(Pm kt).symm
 refine PySem.W.kdl_call (F1 (es:=es) (ep:=ep) lo) (I.ok.hd hc) ⟨o,ho,ex,dt⟩ (by rw[sz];exact z) fun h' tk acc c kp hl hit=>?_
 have acc_eq:acc.toList=ys.map fun y=>MX y.2.1:=by
  refine Wo fun j=>?_
  by_cases lt:j<es.size
  ·have hj:j<acc.toList.length:=by rw[NP];rw[hit.1];exact lt
   have e1:acc.toList[j]?=some acc.toList[j]:=Mw hj;obtain⟨e,ee,ev⟩:=hit.2 j acc.toList[j] (by rw[<- NM];exact e1);rw[e1,ev];rw[<- NM,he,ME] at ee;obtain⟨y,hy1,hy2⟩:=MI.mp ee;rw[ME,hy1,<- hy2];rfl
  ·rw[OX (by rw[NP,hit.1];lia),OX];rw[Mv]
   have:=Pm kt
   lia
 have vals:Vals ((ys.map fun y=>y.2.1).map V.ref) acc.toList:=by
  rw[acc_eq,PX];exact qS ys
 have prd:Paired (fun(p:List Key×V) b=>H b=some (.tup (p.1.map kV))) fx (ys.map fun y=>y.2.1):=by
  exact GL kt
 refine⟨.ref s.heap.objs.size,_,I.laid (t':=tk) kp (MB _) (show bX X.prog X.w _ h' _ (.lst ((ys.map fun y=>y.2.1).map V.ref)) from⟨?_,acc.toList,c,vals,by rw[Array.toArray_toList];exact hl⟩),rfl,q _ _ (I.hok.fresh (MB _)) prd⟩;rw[Mv,Mv,<- Pm kt];exact z
section
variable{X:Cx}{ξ:List (Addr×Obj)}{σ:St}{H:Hp}{s:MA}{h':Heap}
theorem Inv.iB{t':Nat}{fp:List Addr}(I:Inv X ξ σ H s)(k:∀b o,b∉fp->s.heap.get? b=some o->h'.get? b=some o)(hf:∀b∈fp,fq X ξ H b):Inv X ξ σ H {s with heap:=h',toks:=t'}:=by
 have nit:∀b u,H b=some u->b∉fp:=fun b u e z=>by
  have q:=(hf b z).1;rw[q] at e;cases e
 refine I.step (g':=s.gens) (d':=s.drawn) (ch:=fp) (fun b hb=>⟨(hf b hb).2.2.2.1,(hf b hb).2.1,(hf b hb).2.2.2.2.1,(hf b hb).2.2.2.2.2⟩) (fun b o _ _ hc e _=>k b o hc e) (fun b o _ _ hc e _=>⟨o.slots,k b o hc e⟩) (fun _ _ _ _ n=>n)
  (fun b o hc e=>⟨o,k b o hc e⟩) (fun _ _ e=>e) (fun _ _ _ e=>e) (fun b ps e=>⟨#[],by rw[e,VP]⟩) (fun m hm=>?_) (fun b u e=>?_) I.bare
 ·obtain⟨o,es,ep,ho,r⟩:=hm;exact⟨o,es,ep,k _ o (fun z=>(hf _ z).2.1 rfl) ho,r⟩
 ·refine(I.hok b u e).stay (fun c v hc q=>k c v ?_ q) (fun _ q=>q) fun _ _ q=>q
  rcases hc with z|z
  ·rw[z];exact nit b u e
  ·exact nit c _ z
end
structure Bx (prog:MP) (w:M4) (it l:Addr) (xs:Array Mu) (St:Nat->Heap->Prop):Prop where
 keep:∀k h h',St k h->(∀b,b=it\/b=l->∀o,h.get? b=some o->h'.get? b=some o)->St k h'
 there:∀k h,St k h->it<h.objs.size/\∃o,h.get? it=some o/\∀v,o.data≠.cell v
 item:∀(A:No) (E:Mu->MA->Prop) (s:MA) (k:Nat) (x:Mu) (Q:Mu->MA->Prop),St k s.heap->xs[k]?=some x->(∀h',St (k+1) h'->PL it s.heap h'->Q x {s with heap:=h'})->wpAny (model prog w) A (M7 (.ref it)) Q E s
 fin:∀(A:No) (E:Mu->MA->Prop) (s:MA) (k:Nat) (Q:Mu->MA->Prop),A.handled=none->St k s.heap->xs[k]?=none ->
  (∀h' e,QN it s.heap h'->(∃o,h'.get? e=some o/\o.cls=.type "StopIteration")->E (.ref e) {s with heap:=h'})->wpAny (model prog w) A (M7 (.ref it)) Q E s
section
variable{prog:MP}{w:M4}{A:No}{E:Mu->MA->Prop}{s:MA}
theorem DE(it l:Addr)(ne:l≠it)(xs:Array Mu):Bx prog w it l xs (fun k h=>h.IsListIter it l k/\h.IsList l xs) where
 keep:=fun k h h' st hk=>⟨st.1.at fun o e=>hk it (.inl rfl) o e,st.2.at fun o e=>hk l (.inr rfl) o e⟩
 there:=fun k h ⟨⟨o,e,_,d⟩,_⟩=>⟨MG e,o,e,fun v z=>by rw[d] at z;cases z⟩
 item:=fun A E s k x Q st hx q=>wpAny_nextOf_list_item st.1 st.2 hx fun h' a b=>q h' ⟨a,st.2.at fun o e=>b.extBut l o ne e⟩ b
 fin:=fun A E s k Q hh st hx q=>wpAny_nextOf_list_end hh st.1 st.2 hx q
theorem Hh(it l:Addr)(ne:l≠it)(xs:Array Mu):Bx prog w it l xs (fun k h=>h.IsTupleIter it l k/\h.IsTuple l xs) where
 keep:=fun k h h' st hk=>⟨st.1.at fun o e=>hk it (.inl rfl) o e,by obtain⟨o,e,r⟩:=st.2;exact⟨o,hk l (.inr rfl) o e,r⟩⟩
 there:=fun k h ⟨⟨o,e,_,d⟩,_⟩=>⟨MG e,o,e,fun v z=>by rw[d] at z;cases z⟩
 item:=fun A E s k x Q st hx q=>by
  obtain⟨o,ho,oc,od⟩:=id st.1;obtain⟨ol,hl,_,nl,dl⟩:=id st.2;unfold M7;refine Ms (NF (name:=Om "__next__") st.1.typeIs Px (N5 Px st.1.typeIs Sg ?_ (R0 _)));show wpAny _ _ (field (.ref it) 0 >>= _) _ _ s;refine Ms (Nn ho od (x:=.ref l) rfl ?_);show wpAny _ _ (if (MX l == NJ)=true then _ else _) _ _ s;rw[if_neg (show ¬ ((MX l == NJ)=true) from M_)];show wpAny _ _ (field (.ref it) 1 >>= _) _ _ s;refine Ms (Nn ho od (x:=.int k 0) rfl ?_);show wpAny _ _ (seqItems? (.ref l) >>= _) _ _ s;refine Ms (Nz hl dl ?_);simp only[Ol,hx];have k2:(s.heap.update it (Of (·.setIfInBounds 1 (rawInt ((k:Int)+1))))).IsTupleIter it l (k+1):=⟨_,NB _ ho (PB (O5 od _)),(SX ..).trans oc,by rw[O5 od];simp[rawInt]⟩
  exact Ms (Qc ho od (by simp) (Mz ⟨x,rfl,Mz (q _ ⟨k2,⟨ol,(Pi ..).extBut l ol ne hl,by assumption,nl,dl⟩⟩ (Pi ..))⟩))
 fin:=fun A E s k Q hh st hx q=>by
  obtain⟨o,ho,oc,od⟩:=id st.1;obtain⟨ol,hl,_,nl,dl⟩:=id st.2;unfold M7;refine Ms (NF (name:=Om "__next__") st.1.typeIs Px (N5 Px st.1.typeIs Sg ?_ (R0 _)));show wpAny _ _ (field (.ref it) 0 >>= _) _ _ s;refine Ms (Nn ho od (x:=.ref l) rfl ?_);show wpAny _ _ (if (MX l == NJ)=true then _ else _) _ _ s;rw[if_neg (show ¬ ((MX l == NJ)=true) from M_)];show wpAny _ _ (field (.ref it) 1 >>= _) _ _ s;refine Ms (Nn ho od (x:=.int k 0) rfl ?_);show wpAny _ _ (seqItems? (.ref l) >>= _) _ _ s;refine Ms (Nz hl dl ?_);simp only[Ol,hx];refine Ms (SE (Ms (Qc ho od (by simp) ?_)));show wpAny _ _ (newExc (.type "StopIteration") [] >>= _) _ _ _;refine Ms ?_;simp only[newExc,newTuple];refine Ms (NW ?_ (by size_fits));refine Ms (m:=firstArgMember _ _) (wpAny_of_eq (a:=NJ) (by simp only[firstArgMember];rfl) ?_);refine NW ?_ (by size_fits);simp only[raiseNew];refine Ms (wpAny_handled ?_);rw[show A.in1.handled=none from hh];exact Ms (Mz (wpAny_throw (q _ _ (((Pi ..).extBut.push _).push _) ⟨_,ML _ rfl,rfl⟩)))
end
structure HM (z TI TO i1 i2 l1 l2:Addr):Prop where
 a:i1<i2
 b:i2<TI
 c:TI<TO
 d:TO<z
 e:l1<i1
 f:l2<i1
theorem nK{z TI TO i1 i2 l1 l2:Nat}(a:i1<i2)(b:i2<TI)(c:TI<TO)(d:TO<z)(e:l1<i1)(f:l2<i1) :
  i1≠z/\i2≠z/\TO≠i1/\TO≠i2/\TO≠z/\TI≠z/\TI≠TO/\TI≠i1/\TI≠i2/\i1≠i2/\l1≠z/\l1≠TO/\l1≠i2/\l2≠z/\l2≠TO/\l2≠i1:=by
 have iT:=MJ b c;have iz:=MJ iT d;have jI:=MJ a b;have jT:=MJ a iT;have jz:=MJ a iz;have tz:=MJ c d;exact⟨MC jz,MC iz,NG jT,NG iT,MC d,MC tz,MC c,NG jI,NG b,MC a,MC (MJ e jz),MC (MJ e jT),MC (MJ e a),MC (MJ f jz),MC (MJ f jT),MC f⟩
section
variable{prog:MP}{w:M4}{A:No}{E:Mu->MA->Prop}{s:MA}{z TI TO i1 i2 l1 l2:Addr}{xs ys:Array Mu}{S1 S2:Nat->Heap->Prop}{k:Nat}
structure Mh (z TI TO i1 i2:Addr) (S1 S2:Nat->Heap->Prop) (k:Nat) (h:Heap):Prop where
 z:Qw h z TI TO .none
 i:Pk h TI (.ref i1) (.ref i2)
 o:∃a b,Pk h TO a b
 s1:S1 k h
 s2:S2 k h
theorem sS{Q:Unit->MA->Prop} (hT:Pk s.heap T a b) (q:∀h',h'.get? T=some {cls:=.type "tuple",data:=.seq ((#[a,b]:Array Mu).setIfInBounds j x)}->PL T s.heap h'->Q () {s with heap:=h'}) :
  wpAny (model prog w) A (updateSeq T (·.setIfInBounds j x)) Q E s:=wpAny_updateSeq_pair hT q
theorem vi(D:HM z TI TO i1 i2 l1 l2)(W1:Bx prog w i1 l1 xs S1)(W2:Bx prog w i2 l2 ys S2)(st:Mh z TI TO i1 i2 S1 S2 k s.heap){Q:Option Mu->MA->Prop} :
  (∀x y,xs[k]?=some x->ys[k]?=some y->(∀h',Qw h' z TI TO (rawInt s.heap.objs.size)->Pk h' TI (.ref i1) (.ref i2)->(∃a b,Pk h' TO a b)->S1 (k+1) h'->S2 (k+1) h'->Pk h' s.heap.objs.size x y ->
   (∀c o,c∉[z,TI,TO,i1,i2]->s.heap.get? c=some o->h'.get? c=some o)->Q (some (.ref s.heap.objs.size)) {s with heap:=h'})->wpAny (model prog w) A (pyNext (.ref z)) Q E s) /\
  (A.handled=none->(xs[k]?=none\/ys[k]?=none)->(∀h',(∀c o,c∉[z,TI,TO,i1,i2]->s.heap.get? c=some o->h'.get? c=some o)->Q none {s with heap:=h'})->wpAny (model prog w) A (pyNext (.ref z)) Q E s):=by
 obtain⟨d1,d2,d3,d4,d5,d6⟩:=D;obtain⟨hz,hI,⟨a,b,hO⟩,t1,t2⟩:=st;have ty:s.TypeIs (.ref z) "zip":=⟨_,hz,rfl⟩
 obtain⟨n1,n2,ZF,ZV,YJ,Zi,ZE,Z7,Z8,n12,q1,q2,q3,q4,q5,q6⟩:=nK d1 d2 d3 d4 d5 d6
 have m1:∀{c h h':_},c∈[z,TO,i2]->QN c h h'->∀k,S1 k h->S1 k h':=fun {c h h'} hc x k t=>W1.keep k h h' t fun b hb o e=>x b o (by
  rcases hb with rfl|rfl <;> (simp only[MD,MF,or_false] at hc;rcases hc with rfl|rfl|rfl <;> first|assumption|(apply N1;assumption))) e
 have m2:∀{c h h':_},c∈[z,TO,i1]->QN c h h'->∀k,S2 k h->S2 k h':=fun {c h h'} hc x k t=>W2.keep k h h' t fun b hb o e=>x b o (by
  rcases hb with rfl|rfl <;> (simp only[MD,MF,or_false] at hc;rcases hc with rfl|rfl|rfl <;> first|assumption|(apply N1;assumption))) e
 constructor
 ·intro x y hx hy q;unfold pyNext;refine Ms (O7 (NF (name:=Om "__next__") ty Od (N5 Od ty Qe ?_ (PY _))));show wpAny _ _ (field (.ref z) 2 >>= _) _ _ _;refine Ms (Nn hz rfl (x:=.bool false) rfl ?_);show wpAny _ _ (field (.ref z) 3 >>= _) _ _ _;refine Ms (Nn hz rfl (x:=.ref TI) rfl (Ms (Nz hI rfl ?_)));show wpAny _ _ (M6 (.ref z) >>= _) _ _ _;refine Ms ?_;unfold M6;refine Ms (Nn hz rfl (x:=.none) rfl (Mz ?_));simp only[if_true];refine Ms (SE (Ms (Nn hz rfl (x:=.ref TO) rfl (Ms (NI hz (by simp) fun h1 YB Yb=>?_)))));replace YB:Qw h1 z TI TO .ellipsis:=YB;refine Ms ?_;simp only[RJ,R5,OG,QP];refine Ms (Ms (OL ?_));show wpAny _ _ (M7 (.ref i1) >>= _) _ _ _;refine Ms (W1.item _ _ _ k x _ (m1 (by simp) Yb.extBut k t1) hx fun h2 Z_ hs2=>Mz ?_);have Zm:Pk h2 TO a b:=hs2.extBut _ _ ZF (Yb.extBut _ _ YJ hO);refine Ms (Nz Zm rfl (Ms (sS Zm fun h3 Zg hs3=>?_)));replace Zg:Pk h3 TO x b:=Zg;refine Ms (Qh (Mz (Ms (Ms (OL ?_)))));show wpAny _ _ (M7 (.ref i2) >>= _) _ _ _;refine Ms (W2.item _ _ _ k y _ (m2 (by simp) hs3.extBut k (m2 (by simp) hs2.extBut k (m2 (by simp) Yb.extBut k t2))) hy fun h4 t24 YA=>Mz ?_);have ZZ:Pk h4 TO x b:=YA.extBut _ _ ZV Zg;refine Ms (Nz ZZ rfl (Ms (sS ZZ fun h5 ZI YE=>?_)));replace ZI:Pk h5 TO x y:=ZI;refine Ms (Qh (Mz (Mz (Ms (Nz ZI rfl (Ms (UZ ?_)))))));have sz:h5.objs.size=s.heap.objs.size:=by rw[YE.1,YA.1,hs3.1,hs2.1,Yb.1]
  have hz5:Qw h5 z TI TO .ellipsis:=YE.extBut _ _ YJ.symm (YA.extBut _ _ n2.symm (hs3.extBut _ _ YJ.symm (hs2.extBut _ _ n1.symm YB)))
  have all5:∀c o,c∉[z,TI,TO,i1,i2]->s.heap.get? c=some o->h5.get? c=some o:=fun c o hc e=>by
   simp only[MD,MF,or_false,not_or] at hc;exact YE.extBut _ _ hc.2.2.1 (YA.extBut _ _ hc.2.2.2.2 (hs3.extBut _ _ hc.2.2.1 (hs2.extBut _ _ hc.2.2.2.1 (Yb.extBut _ _ hc.1 e))))
  have hI5:Pk h5 TI (.ref i1) (.ref i2):=YE.extBut _ _ ZE (YA.extBut _ _ Z8 (hs3.extBut _ _ ZE (hs2.extBut _ _ Z7 (Yb.extBut _ _ Zi hI))));have zlt:z<h5.objs.size:=MG hz5;show wpAny _ _ (Ox (.ref z) (.ref h5.objs.size) >>= _) _ _ _;refine Ms ?_;unfold Ox;have hz6:Qw (h5.push {cls:=.type "tuple",data:=.seq #[x,y]}) z TI TO .ellipsis:=Mt _ hz5;refine Ms (NI hz6 (by simp) fun h7 hz7 Zd=>?_);replace hz7:Qw h7 z TI TO (rawInt h5.objs.size):=hz7;refine NI hz7 (by simp) fun h8 Z4 hs8=>?_;replace Z4:Qw h8 z TI TO (rawInt h5.objs.size):=Z4
  have up:∀c o,c≠z->h5.get? c=some o->h8.get? c=some o:=fun c o c1 e=>hs8.extBut _ _ c1 (Zd.extBut _ _ c1 (Mt _ e))
  have hT:Pk h8 h5.objs.size x y:=hs8.extBut _ _ (NG zlt) (Zd.extBut _ _ (NG zlt) (ML _ rfl));have t1':S1 (k+1) h8:=W1.keep _ _ _ (m1 (by simp) YE.extBut _ (m1 (by simp) YA.extBut _ (m1 (by simp) hs3.extBut _ Z_))) fun c hc o e=>up c o (by rcases hc with rfl|rfl <;> first|assumption|(apply N1;assumption)) e
  have t2':S2 (k+1) h8:=W2.keep _ _ _ (m2 (by simp) YE.extBut _ t24) fun c hc o e=>up c o (by rcases hc with rfl|rfl <;> first|assumption|(apply N1;assumption)) e
  rw[sz] at Z4 hT;refine Mz ⟨_,rfl,?_⟩;show wpAny _ _ (pure (some (MX h5.objs.size))) _ _ _;rw[sz];exact Mz (q h8 Z4 (up _ _ Zi hI5) ⟨_,_,up _ _ YJ ZI⟩ t1' t2' hT fun c o hc e=>up c o (fun x=>hc (by simp[x])) (all5 c o hc e))
 ·intro hh hend q
  have stop:∀(h9:Heap) (e:Addr),(∀c o,c∉[z,TI,TO,i1,i2]->s.heap.get? c=some o->h9.get? c=some o)->(∃o,h9.get? e=some o/\o.cls=.type "StopIteration") ->
    wpAny (model prog w) A (isInstance (.ref e) (.type "StopIteration") >>= fun b=>if b=true then pure none else throw (.ref e)) Q E {s with heap:=h9}:=fun h9 e kp ⟨o,ho,oc⟩ =>
   Ms (QZ (T:="StopIteration") (b:=true) ⟨o,ho,oc⟩ SD (Mz (q _ kp)))
  unfold pyNext;refine Ms (O7 (NF (name:=Om "__next__") ty Od (N5 Od ty Qe ?_ (PY _))));show wpAny _ _ (field (.ref z) 2 >>= _) _ _ _;refine Ms (Nn hz rfl (x:=.bool false) rfl ?_);show wpAny _ _ (field (.ref z) 3 >>= _) _ _ _;refine Ms (Nn hz rfl (x:=.ref TI) rfl (Ms (Nz hI rfl ?_)));show wpAny _ _ (M6 (.ref z) >>= _) _ _ _;refine Ms ?_;unfold M6;refine Ms (Nn hz rfl (x:=.none) rfl (Mz ?_));simp only[if_true];refine Ms (SE (Ms (Nn hz rfl (x:=.ref TO) rfl (Ms (NI hz (by simp) fun h1 YB Yb=>?_)))));replace YB:Qw h1 z TI TO .ellipsis:=YB;refine Ms ?_;simp only[RJ,R5,OG,QP];refine Ms (Ms (OL ?_));show wpAny _ _ (M7 (.ref i1) >>= _) _ _ _;cases hx:xs[k]? with
  |none =>
   refine Ms (W1.fin _ _ _ k _ hh (m1 (by simp) Yb.extBut k t1) hx fun h2 e hs2 ⟨oe,YN,YX⟩=>?_);have ZS:Qw h2 z TI TO .ellipsis:=hs2 _ _ n1.symm YB;have ez:e≠z:=fun x=>by subst x;rw[ZS] at YN;cases YN;simp at YX
   refine NI ZS (by simp) fun h3 _ hs3=>stop h3 e (fun c o hc u=>?_) ⟨oe,hs3.extBut _ _ ez YN,YX⟩
   simp only[MD,MF,or_false,not_or] at hc;exact hs3.extBut _ _ hc.1 (hs2 _ _ hc.2.2.2.1 (Yb.extBut _ _ hc.1 u))
  |some x =>
   have hy:ys[k]?=none:=by rcases hend with u|u;rw[hx] at u;cases u;exact u
   refine Ms (W1.item _ _ _ k x _ (m1 (by simp) Yb.extBut k t1) hx fun h2 Z_ hs2=>Mz ?_);have Zm:Pk h2 TO a b:=hs2.extBut _ _ ZF (Yb.extBut _ _ YJ hO);refine Ms (Nz Zm rfl (Ms (sS Zm fun h3 Zg hs3=>?_)));refine Ms (Qh (Mz (Ms (Ms (OL ?_)))));show wpAny _ _ (M7 (.ref i2) >>= _) _ _ _;refine Ms (W2.fin _ _ _ k _ hh (m2 (by simp) hs3.extBut k (m2 (by simp) hs2.extBut k (m2 (by simp) Yb.extBut k t2))) hy fun h4 e YA ⟨oe,YN,YX⟩=>?_);have hz4:Qw h4 z TI TO .ellipsis:=YA _ _ n2.symm (hs3.extBut _ _ YJ.symm (hs2.extBut _ _ n1.symm YB));have ez:e≠z:=fun x=>by subst x;rw[hz4] at YN;cases YN;simp at YX
   refine NI hz4 (by simp) fun h5 _ YE=>stop h5 e (fun c o hc u=>?_) ⟨oe,YE.extBut _ _ ez YN,YX⟩
   simp only[MD,MF,or_false,not_or] at hc;exact YE.extBut _ _ hc.1 (YA _ _ hc.2.2.2.2 (hs3.extBut _ _ hc.2.2.1 (hs2.extBut _ _ hc.2.2.2.1 (Yb.extBut _ _ hc.1 u))))
end
inductive Kn|L|T
def Kn.sq(k:Kn)(K:Fg)(H:Hp)(a:Addr)(xs:List V):Prop:=match k with
 |.L=>SqL K H a xs
 |.T=>SqT K H a xs
def Kn.it(k:Kn)(h:Heap)(i l:Addr)(j:Nat):Prop:=match k with
 |.L=>h.IsListIter i l j
 |.T=>h.IsTupleIter i l j
def Kn.seq(k:Kn)(h:Heap)(l:Addr)(xs:Array Mu):Prop:=match k with
 |.L=>h.IsList l xs
 |.T=>h.IsTuple l xs
def Kn.obj(k:Kn)(l:Addr):Obj:=match k with
 |.L=>{cls:=.type "list_iterator",data:=.fields #[.ref l,.int 0 0]}
 |.T=>{cls:=.type "tuple_iterator",data:=.fields #[.ref l,.int 0 0]}
section
variable{prog:MP}{w:M4}{A:No}{E:Mu->MA->Prop}{s:MA}
theorem Kn.drw(k:Kn)(it l:Addr)(ne:l≠it)(xs:Array Mu):Bx prog w it l xs (fun j h=>k.it h it l j/\k.seq h l xs):=by
 cases k
 ·exact DE it l ne xs
 ·exact Hh it l ne xs
theorem Kn.itAt(k:Kn){h':Heap}{it:Addr}(t:k.it h it l j)(e:∀o,h.get? it=some o->h'.get? it=some o):k.it h' it l j:=by
 cases k
 ·exact Heap.IsListIter.at t e
 ·exact Heap.IsTupleIter.at t e
theorem Kn.hZ(k:Kn){it:Addr}(t:k.it h it l j):∃o,h.get? it=some o/\∀v,o.data≠.cell v:=by
 cases k <;> (obtain⟨o,e,_,d⟩:=t;exact⟨o,e,fun v z=>by rw[d] at z;cases z⟩)
theorem Kn.tR(k:Kn){h':Heap}(t:k.seq h l xs)(e:∀o,h.get? l=some o->h'.get? l=some o):k.seq h' l xs:=by
 cases k
 ·exact U0.at t e
 ·obtain⟨o,a,b⟩:=t;exact⟨o,e o a,b⟩
theorem Kn.lt(k:Kn)(t:k.seq h l xs):l<h.objs.size:=by
 cases k <;> (obtain⟨o,a,_⟩:=t;exact MG a)
theorem Kn.inv{H:Hp}{s:MA}(k:Kn)(I:Inv X ξ σ H s)(q:k.sq X.K H a xs):∃fm:List Mu,Vals xs fm/\k.seq s.heap a fm.toArray:=by
 cases k
 ·obtain⟨fm,r,p,_⟩:=I.list q;exact⟨fm,r,p.isList⟩
 ·obtain⟨fm,r,p,_⟩:=I.tuple q;exact⟨fm,r,p⟩
theorem Kn.inj{H:Hp}{s:MA}(k:Kn)(I:Inv X ξ σ H s)(q:k.sq X.K H a xs)(r:k.sq X.K H a ys):xs=ys:=by
 cases k
 ·exact I.vR q r
 ·exact I.qr q r
theorem Kn.iter(k:Kn){Q:Mu->MA->Prop}(t:k.seq s.heap l xs)(q:Q (.ref s.heap.objs.size) {s with heap:=s.heap.push (k.obj l)}):wpAny (model prog w) A (pyIter (.ref l)) Q E s:=by
 cases k
 ·exact ON t q
 ·exact N8 t q
theorem Kn.it0(k:Kn)(h:Heap)(l:Addr):k.it (h.push (k.obj l)) h.objs.size l 0:=by
 cases k <;> exact⟨_,ML _ rfl,rfl,rfl⟩
def zh (h:Heap) (k1 k2:Kn) (l1 l2:Addr):Heap:=(((((h.push (k1.obj l1)).push (k2.obj l2)).push {cls:=.type "tuple",data:=.seq #[.ref h.objs.size,.ref (h.push (k1.obj l1)).objs.size]}).push {cls:=.type "tuple",data:=.seq #[.none,.none]}).push
 {cls:=.type "zip",data:=.fields #[.none,.bool false,.bool false,.ref ((h.push (k1.obj l1)).push (k2.obj l2)).objs.size,.ref (((h.push (k1.obj l1)).push (k2.obj l2)).push {cls:=.type "tuple",data:=.seq #[.ref h.objs.size,.ref (h.push (k1.obj l1)).objs.size]}).objs.size]})
theorem E2(k1 k2:Kn) (l1 l2:Addr) (xs ys:Array Mu):Meets (OK.«zip.__new__» ⟨[.type "zip",.ref l1,.ref l2],[]⟩) (fun _ R s=>k1.seq s.heap l1 xs/\k2.seq s.heap l2 ys /\
  R (.ok (.ret (.ref ((((s.heap.push (k1.obj l1)).push (k2.obj l2)).push {cls:=.type "tuple",data:=.seq #[.ref s.heap.objs.size,.ref (s.heap.push (k1.obj l1)).objs.size]}).push {cls:=.type "tuple",data:=.seq #[.none,.none]}).objs.size))) {s with heap:=zh s.heap k1 k2 l1 l2}) :=
 .of_wp fun prog w A R s h=>by
  obtain⟨hp,g,d,tk,os⟩:=s;obtain⟨a1,a2,h⟩:=h;have hsub:=sub_zip;have c1:k1.seq (Qi ⟨hp,g,d,tk,os⟩) l1 xs:=a1;have c2:k2.seq (Qi ⟨hp.push (k1.obj l1),g,d,tk,os⟩) l2 ys:=k2.tR a2 fun o e=>Mt _ e;wp_walk using Kn.iter k1 c1,Kn.iter k2 c2;exact⟨_,rfl,h⟩
theorem D5{k1 k2:Kn}{Q:Mu->MA->Prop}(a1:k1.seq s.heap l1 xs)(a2:k2.seq s.heap l2 ys)
  (q:∀h' (z TI TO i1 i2:Addr),HM z TI TO i1 i2 l1 l2->s.heap.objs.size<=i1->Qw h' z TI TO .none->Pk h' TI (.ref i1) (.ref i2)->(∃a b,Pk h' TO a b)->k1.it h' i1 l1 0->k2.it h' i2 l2 0->(∀c o,s.heap.get? c=some o->h'.get? c=some o)->Q (.ref z) {s with heap:=h'}) :
  wpAny (model prog w) A (call (.type "zip") [.ref l1,.ref l2]) Q E s:=by
 refine callType_new F.called_zip (by decide) (F.typeCall_zip_2 _ _) (F.newCall_zip_2 _ _) (fun obj=>F.args_object_init_3 obj _ _) F.entry_zip_new (E2 k1 k2 l1 l2 xs ys) ⟨a1,a2,?_⟩;have EA:=k1.lt a1;have lt2:=k2.lt a2;have g5:(zh s.heap k1 k2 l1 l2).get? _=some _:=ML ((((s.heap.push (k1.obj l1)).push (k2.obj l2)).push {cls:=.type "tuple",data:=.seq #[.ref s.heap.objs.size,.ref (s.heap.push (k1.obj l1)).objs.size]}).push {cls:=.type "tuple",data:=.seq #[.none,.none]}) (o:={cls:=.type "zip",data:=.fields #[.none,.bool false,.bool false,.ref ((s.heap.push (k1.obj l1)).push (k2.obj l2)).objs.size,.ref (((s.heap.push (k1.obj l1)).push (k2.obj l2)).push {cls:=.type "tuple",data:=.seq #[.ref s.heap.objs.size,.ref (s.heap.push (k1.obj l1)).objs.size]}).objs.size]}) rfl;have g4:(zh s.heap k1 k2 l1 l2).get? _=some _:=Mt _ (ML (((s.heap.push (k1.obj l1)).push (k2.obj l2)).push {cls:=.type "tuple",data:=.seq #[.ref s.heap.objs.size,.ref (s.heap.push (k1.obj l1)).objs.size]}) (o:={cls:=.type "tuple",data:=.seq #[.none,.none]}) rfl);have g3:(zh s.heap k1 k2 l1 l2).get? _=some _:=Mt _ (Mt _ (ML ((s.heap.push (k1.obj l1)).push (k2.obj l2)) (o:={cls:=.type "tuple",data:=.seq #[.ref s.heap.objs.size,.ref (s.heap.push (k1.obj l1)).objs.size]}) rfl));have g2:k2.it (zh s.heap k1 k2 l1 l2) (s.heap.push (k1.obj l1)).objs.size l2 0:=k2.itAt (k2.it0 _ l2) fun o e=>Mt _ (Mt _ (Mt _ e))
 have g1:k1.it (zh s.heap k1 k2 l1 l2) s.heap.objs.size l1 0:=k1.itAt (k1.it0 _ l1) fun o e=>Mt _ (Mt _ (Mt _ (Mt _ e)))
 show _/\_;refine⟨⟨_,g5,rfl⟩,q _ _ _ _ _ _ ⟨?_,?_,?_,?_,EA,lt2⟩ (MB _) g5 g3 ⟨_,_,g4⟩ g1 g2 fun c o x=>Mt _ (Mt _ (Mt _ (Mt _ (Mt _ x))))⟩ <;>
 ·simp only[OO];exact Pq _
end
def Kf(K:Fg)(k1 k2:Kn)(a b:Addr):It :=
 ⟨fun i H=>∃xs ys,k1.sq K H a xs/\k2.sq K H b ys/\i<xs.length/\i<ys.length,fun i H v H'=>∃T x y,H T=none/\v=.ref T/\H'=upd H T (.tup [x,y])/\(∀xs,k1.sq K H a xs->xs[i]?=some x)/\(∀ys,k2.sq K H b ys->ys[i]?=some y),
  fun i H=>∃xs ys,k1.sq K H a xs/\k2.sq K H b ys/\(xs.length<=i\/ys.length<=i)⟩
theorem BD{K:Fg}{x1}{pos:Pos}{TI TO:Addr}(D:HM z TI TO i1 i2 a b) :
  qj P w K (.Tuple elts x1 pos) (Kf K k1 k2 a b) [z,TI,TO,i1,i2] z (fun i h=>Qw h z TI TO .none/\Pk h TI (.ref i1) (.ref i2)/\(∃x y,Pk h TO x y)/\k1.it h i1 a i/\k2.it h i2 b i) where
 mem:=by simp
 obj:=fun i h ⟨hz,hI,⟨x,y,hO⟩,t1,t2⟩ c hc=>by
  simp only[MD,MF,or_false] at hc;rcases hc with rfl|rfl|rfl|rfl|rfl
  ·exact⟨_,hz,fun v q=>by cases (show WY _=Sk v from q)⟩
  ·exact⟨_,hI,fun v q=>by cases (show Wm _ _=Sk v from q)⟩
  ·exact⟨_,hO,fun v q=>by cases (show Wm _ _=Sk v from q)⟩
  ·exact k1.hZ t1
  ·exact k2.hZ t2
 keep:=fun i h h' ⟨hz,hI,⟨x,y,hO⟩,t1,t2⟩ kp=>⟨kp z (by simp) _ hz,kp TI (by simp) _ hI,⟨x,y,kp TO (by simp) _ hO⟩,k1.itAt t1 fun o e=>kp i1 (by simp) o e,k2.itAt t2 fun o e=>kp i2 (by simp) o e⟩
 item:=by
  intro X hP hw hK hc i ξ s σ H E I hf ⟨hz,hI,hO,t1,t2⟩ hg;subst hP hw hK;obtain⟨xs,ys,q1,q2,l1,l2⟩:=hg;obtain⟨v1,r1,p1⟩:=k1.inv I q1;obtain⟨v2,r2,p2⟩:=k2.inv I q2;obtain⟨u1,e1,ru1⟩:=r1.get (Mw l1);obtain⟨u2,e2,ru2⟩:=r2.get (Mw l2);obtain⟨n1,n2,ZF,ZV,YJ,Zi,ZE,Z7,Z8,n12,c1,c2,c3,c4,c5,c6⟩:=nK D.a D.b D.c D.d D.e D.f;refine(vi D (k1.drw i1 a (MC D.e) v1.toArray) (k2.drw i2 b (MC (MJ D.f D.a)) v2.toArray) ⟨hz,hI,hO,⟨t1,p1⟩,⟨t2,p2⟩⟩).1 u1 u2 (by simpa using e1) (by simpa using e2) fun h' hz' hI' hO' s1' s2' hT all=>⟨_,rfl,?_⟩
  refine SL hz' fun h2 ZS sb=>?_
  have nT:∀c∈[z,TI,TO,i1,i2],c≠s.heap.objs.size:=fun c XR=>by
   simp only[MD,MF,or_false] at XR;rcases XR with rfl|rfl|rfl|rfl|rfl
   ·exact MC (MG hz)
   ·exact MC (MG hI)
   ·obtain⟨_,_,q⟩:=hO;exact MC (MG q)
   ·obtain⟨_,q,_⟩:=k1.hZ t1;exact MC (MG q)
   ·obtain⟨_,q,_⟩:=k2.hZ t2;exact MC (MG q)
  have Yu:H s.heap.objs.size=none:=I.hok.fresh (MB _)
  have I1:Inv X ξ σ (upd H s.heap.objs.size (.tup [xs[i],ys[i]])) {s with heap:=s.heap.push {cls:=.type "tuple",data:=.seq #[u1,u2]}} :=
   I.laid (t':=s.toks) (fun b u e=>Mt _ e) (MB _) ⟨cC,[u1,u2],.cons ru1 (.cons ru2 .nil),TupD.new _ _⟩
  have zT:s.heap.objs.size≠z:=(nT z (by simp)).symm
  have I2:Inv X ξ σ (upd H s.heap.objs.size (.tup [xs[i],ys[i]])) {s with heap:=h2}:=Inv.iB (s:={s with heap:=s.heap.push {cls:=.type "tuple",data:=.seq #[u1,u2]}}) (t':=s.toks) (fp:=[z,TI,TO,i1,i2]) I1 (fun c o XR e=>by
   have hcz:c≠z:=fun x=>XR (by simp[x])
   rcases RU e with⟨ec,eo⟩|e
   ·rw[ec,eo];exact sb.extBut _ _ zT hT
   ·exact sb.extBut _ _ hcz (all c o XR e)) fun c XR=>⟨by rw[av (nT c XR)];exact(hf c XR).1,(hf c XR).2⟩
  refine⟨.ref s.heap.objs.size,_,I2,rfl,⟨s.heap.objs.size,xs[i],ys[i],Yu,rfl,rfl,fun zs hz=>?_,fun zs hz=>?_⟩,⟨ZS,sb.extBut _ _ Zi hI',?_,k1.itAt s1'.1 fun o e=>sb.extBut _ _ n1 e,k2.itAt s2'.1 fun o e=>sb.extBut _ _ n2 e⟩,fun c XR=>by rw[av (nT c XR)];exact(hf c XR).1⟩
  ·rw[k1.inj I hz q1,Mw l1]
  ·rw[k2.inj I hz q2,Mw l2]
  ·obtain⟨x,y,q⟩:=hO';exact⟨x,y,sb.extBut _ _ YJ q⟩
 done:=by
  intro X hP hw hK hc i ξ s σ H E I hf ⟨hz,hI,hO,t1,t2⟩ hg;subst hP hw hK;obtain⟨xs,ys,q1,q2,le⟩:=hg;obtain⟨v1,r1,p1⟩:=k1.inv I q1;obtain⟨v2,r2,p2⟩:=k2.inv I q2;have e1:=r1.length;have e2:=r2.length
  refine(vi D (k1.drw i1 a (MC D.e) v1.toArray) (k2.drw i2 b (MC (MJ D.f D.a)) v2.toArray) ⟨hz,hI,hO,⟨t1,p1⟩,⟨t2,p2⟩⟩).2 (I.ok.hd hc) (by
   rcases le with q|q
   ·exact .inl (by simp;lia)
   ·exact .inr (by simp;lia)) fun h' all=>⟨rfl,I.iB (t':=s.toks) (fun c o XR e=>all c o XR e) hf⟩
 self:=fun _ _ _ _ _ st q=>Q0 st.1 q
section
variable{X:Cx}
def Dg(K:Fg)(k1 k2:Kn)(ta:TA):TI:=fun σ H R=>ta σ H fun vs H1=>∃a b xs ys,vs=[.ref a,.ref b]/\k1.sq K H1 a xs/\k2.sq K H1 b ys/\R (Kf K k1 k2 a b) H1
theorem Bf:bootBuiltins "zip"=some (.type "zip"):=by decide +kernel
theorem El{x y:Expr} {ta:TA}  {x1} {p pos:Pos} (hg:Gl X "zip") (hm:X.mg "zip"=none) (ha:PA X [x,y] ta) (hs:starEach [x,y] X.env=[(false,eval x X.env),(false,eval y X.env)]:=by rfl) (hs2:starEach [y] X.env=[(false,eval y X.env)]:=by rfl) :
  PI X (.Tuple elts x1 tp) (.Call (.Name "zip" p) [x,y] [] pos) (Dg X.K k1 k2 ta):=by
 intro ξ s σ H R I h;refine Call_ (fE I hg hm Bf (N2 (bj (ha pos ξ s σ H _ I h) fun us s1 ⟨vs,H1,I1,r1,q1⟩=>?_) (by rw[hs,hs2]) (by rw[hs2];rfl)));obtain⟨a,b,xs,ys,e,s1q,s2q,q⟩:=q1;subst e;obtain⟨u1,u2,rfl,ra,rb⟩:=vals2 r1;cases ra;cases rb;obtain⟨v1,w1,p1⟩:=k1.inv I1 s1q;obtain⟨v2,w2,p2⟩:=k2.inv I1 s2q;refine D5 p1 p2 fun h' z TI TO i1 i2 D le hz hI hO t1 t2 kp=>?_
 refine Q0 (s:={s1 with heap:=h'}) hz ?_;refine⟨z,[z,TI,TO,i1,i2],_,_,H1,rfl,I1.kept (t':=s1.toks) kp,BD D,⟨hz,hI,hO,t1,t2⟩,fun c hc=>?_,q⟩
 have Z6:s1.heap.objs.size<=c:=by
  have d1:=D.a;have d2:=D.b;have d3:=D.c;have d4:=D.d;simp only[MD,MF,or_false] at hc;rcases hc with rfl|rfl|rfl|rfl|rfl
  ·exact NS (Nk le (MJ d1 (MJ d2 (MJ d3 d4))))
  ·exact NS (Nk le (MJ d1 d2))
  ·exact NS (Nk le (MJ d1 (MJ d2 d3)))
  ·exact le
  ·exact NS (Nk le d1)
 exact I1.fpOk Z6 (I1.hok.fresh Z6)
end
section
variable{K:Fg}{te:TE}{σ:St}{Q:VK}{H:Hp}
def Kj(g:TG)(n:Nat)(te:TE)(σ:St)(v:V)(H:Hp)(D:Addr)(m i:Nat)(Pv:Nat->Hp->Prop):Prop:=∀us:St,us.length=n->g v (us ++ σ) H fun σ2 H2=>(∃YS:St,YS.length=n/\σ2=YS ++ σ)/\te σ2 H2 (ve D m i Pv)
theorem DL{k1 k2:Kn}{xs ys:List V}(h:∀D,H D=none->∃Pv:Nat->Hp->Prop,Pv 0 (upd H D (.lst []))/\(∀i H2,i<=min xs.length ys.length->Pv i H2->k1.sq K H2 a xs/\k2.sq K H2 b ys) /\
  (∀i x y H2 T,xs[i]?=some x->ys[i]?=some y->Pv i H2->H2 T=none->Kj g n te σ (.ref T) (upd H2 T (.tup [x,y])) D (min xs.length ys.length) i Pv)/\∀H2,Pv (min xs.length ys.length) H2->Q (.ref D) H2):Bm (Kf K k1 k2 a b) n g te σ Q H:=by
 intro D nD;obtain⟨Pv,h0,hl,hs,hd⟩:=h D nD;refine⟨fun i m H=>m=min xs.length ys.length-i/\i<=min xs.length ys.length/\Pv i H,⟨_,rfl,NH _,h0⟩,?_⟩;rintro i m H ⟨rfl,hi,p⟩;obtain⟨q1,q2⟩:=hl i H hi p;by_cases X6:i<min xs.length ys.length
 ·refine .inr ⟨⟨xs,ys,q1,q2,by lia,by lia⟩,fun v H' y us hu=>?_⟩;obtain⟨T,x,y,nT,rfl,rfl,z1,z2⟩:=y;exact hs i x y H T (z1 xs q1) (z2 ys q2) p nT us hu
 ·have e:i=min xs.length ys.length:=by lia
  subst e;refine .inl ⟨⟨xs,ys,q1,q2,?_⟩,hd H p⟩;rcases Nat.le_total xs.length ys.length with q|q
  ·exact .inl (by rw[PK q];exact MB _)
  ·exact .inr (by rw[Pw q];exact MB _)
end
open PySem.W (Dat kqdOk)
theorem AccZ.js{K:Fg}(A:AccZ K H0 l H ds)(r:Rz K H y d)(n:ds.length<sizeLine){Pv:Hp->Prop}(h:∀H2,AccZ K H0 l H2 (ds++[d])->Pv H2):J_ l Pv y H:=by
 obtain⟨xs,h1,h2⟩:=A.at_;refine⟨xs,h1,by rw[h2.length];exact n,h _ ⟨A.ak,A.new,xs++[y],L2.ak,?_⟩⟩;exact RzL.upd (h2.append (.cons r .nil)) h1
open PySem
section
variable{K:Fg}{σ:St}{H:Hp}{Q:VK}{te:TE}
theorem G0{wi:TI}(h:wi σ H fun J H1=>Bm J n g te σ Q H1):jZ wi n g te σ H Q:=h
theorem K_{k1 k2:Kn}{ta:TA}{R:It->Hp->Prop}(h:ta σ H fun vs H1=>∃a b xs ys,vs=[.ref a,.ref b]/\k1.sq K H1 a xs/\k2.sq K H1 b ys/\R (Kf K k1 k2 a b) H1):Dg K k1 k2 ta σ H R:=h
end
open PySem
section
variable{K:Fg}{σ:St}{H:Hp}{Q:VK}{D:bJ}{td ty tv te tk:TE}
theorem Jw(h:tv σ H fun v H1=>td σ H1 fun x H2=>ty σ H2 fun y H3=>∃a H4,x=.ref a/\DPut H3 a y v H4/\D.nx σ H4):yL td ty tv D σ H:=h
end
section
variable{X:Cx}{scope:Scope}
theorem Es{iter:Expr}{pos:Pos}{n:Nat}(ys M:List Str)(c:dN X.env.scope X.N M ys scope)(hc:X.calm=true)(hi:PI X tg iter wi)(hg:∀C s₀ H₀ fp ξ,PG (bu X ys M scope (jD scope X.env.cells) C s₀ H₀ fp ξ) tg g)(he:∀C s₀ H₀ fp ξ,PE (bu X ys M scope (jD scope X.env.cells) C s₀ H₀ fp ξ) elt te)
  (hn:ys.length=n:=by rfl) (hs:∀v,foldedSetIterable iter X.env v=pure v:=by intro _;rfl):PE X (.ListComp elt [⟨tg,iter,[],0⟩] scope pos) (jZ wi n g te):=by
 subst hn;exact Iy c hc hi hg he hs
end
section
variable{X:Cx}
def uh(K:Fg):List V->Hp->VK->Prop:=fun xs H Q=>∃(a:Addr) (bs:List Bool),xs=[.ref a]/\SqL K H a (bs.map V.bl)/\Q (.bl (bs.all id)) H
def Gb(K:Fg):List V->Hp->VK->Prop:=fun xs H Q=>∃(a:Addr) (bs:List Bool),xs=[.ref a]/\SqL K H a (bs.map V.bl)/\Q (.bl (bs.any id)) H
theorem sB:∀{bs:List Bool} {us:List Mu},Vals (bs.map V.bl) us->LSm.BoolsAre us bs
 |[],_,.nil=>.nil
 |b :: bs,_,.cons r rr=>by
  cases (show _=So b from r);exact .cons b (sB rr)
theorem mB{M:Model}{A:No}{E:Mu->MA->Prop}{H:Hp}{bs:List Bool}(d:Bool)(I:Inv X ξ σ H s)(q1:SqL X.K H a (bs.map V.bl))(hh:A.handled=none)(hM:M=model X.prog X.w)
  {Qr:Bool->Mu->MA->Prop} {f:(Nat->Bool)->Nat->Bool} {r:Bool} (hf:f (fun i=>(bs[i]?).getD d) bs.length=r) (q:∀h' tk,Inv X ξ σ H {s with heap:=h',toks:=tk}->Qr r (.bool r) {s with heap:=h',toks:=tk}) :
  wpAny M A (pyIter (.ref a)) (fun it s₂=>∃I fp wr n P St tr,it=.ref I/\Walks X.prog X.w A I fp wr n P St/\St 0 s₂.heap/\TruthOf X.prog X.w A P tr/\∀h' tk,(∀b o,b∉wr->s₂.heap.get? b=some o->h'.get? b=some o)->Qr r (.bool (f tr n)) {s₂ with heap:=h',toks:=tk}) E s:=by
 subst hM;obtain⟨fm,rv,p,_⟩:=I.list q1;have hl:s.heap.IsList a fm.toArray:=p.isList;have hb:=sB rv;have X6:a<s.heap.objs.size:=by obtain⟨_,e,_⟩:=hl;exact MG e
 refine ON hl ⟨s.heap.objs.size,[s.heap.objs.size,a],[s.heap.objs.size],fm.toArray.size,_,_,fun i=>(bs[i]?).getD d,rfl,Walks.list hh _ a (MC X6) fm.toArray,⟨⟨_,ML _ rfl,rfl,rfl⟩,hl.push _⟩,fun i v s' Q' E' hP hQ=>?_,fun h' tk hk=>?_⟩
 ·obtain⟨b,e,rfl⟩:=hb.get i v (by simpa using hP);dsimp only at hQ;rw[e] at hQ;exact Oy hQ
 ·rw[MU,hb.length,hf];exact q h' tk (I.kept (t':=tk) fun b o e=>hk b o (fun z=>absurd (MG e) (by rw[MK.mp z];exact Pn _)) (Mt _ e))
theorem ip(hc:X.calm=true):gN X (.builtin "all") (uh X.K):=by
 intro ξ s σ H xs us Q I r h;obtain⟨a,bs,rfl,q1,q⟩:=h;obtain⟨u,rfl,ru⟩:=vals1 r;cases ru;refine call_all_walk (mB (f:=fun tr n=>(N7 n).all tr) (r:=bs.all id) true I q1 (by have:=I.ok.hd hc;simpa using this) rfl (LSm.range_all bs) (Qr:=fun _ v s'=>EP X ξ σ Q v s') fun h' tk I2=>⟨.bl _,H,I2,rfl,q⟩)
theorem DO(hc:X.calm=true):gN X (.builtin "any") (Gb X.K):=by
 intro ξ s σ H xs us Q I r h;obtain⟨a,bs,rfl,q1,q⟩:=h;obtain⟨u,rfl,ru⟩:=vals1 r;cases ru;refine call_any_walk (mB (f:=fun tr n=>(N7 n).any tr) (r:=bs.any id) false I q1 (by have:=I.ok.hd hc;simpa using this) rfl (LSm.range_any bs) (Qr:=fun _ v s'=>EP X ξ σ Q v s') fun h' tk I2=>⟨.bl _,H,I2,rfl,q⟩)
theorem sH:bootBuiltins "all"=some (.builtin "all"):=by decide +kernel
theorem J0:bootBuiltins "any"=some (.builtin "any"):=by decide +kernel
end
def Bn(J:It)(n:Nat)(g:TG)(tc:TT)(te:TE)(σ:St)(Q:VK)(H1:Hp):Prop:=∀D,H1 D=none->∃W:Nat->Nat->Hp->Prop,(∃m,W 0 m (upd H1 D (.lst [])))/\∀i m H,W i m H ->
 (J.stop i H/\Q (.ref D) H)\/(J.go i H/\∀v H',J.yld i H v H'->∀us:St,us.length=n->g v (us ++ σ) H' fun σ2 H2=>(∃YS:St,YS.length=n/\σ2=YS ++ σ)/\tc σ2 H2 fun b H3 =>
  if b=true then te σ2 H3 fun y H4=>∃xs,H4 D=some (.lst xs)/\xs.length<sizeLine/\∃m',m'<m/\W (i+1) m' (upd H4 D (.lst (xs++[y]))) else ∃m',m'<m/\W (i+1) m' H3)
def yb(wi:TI)(n:Nat)(g:TG)(tc:TT)(te:TE):TE:=fun σ H Q=>wi σ H fun J H1=>Bn J n g tc te σ Q H1
section
variable{X:Cx}{ys M:List Str}{scope:Scope}{cl:List (Str×Addr)}{C:Addr}{s:MA}{H:Hp}{fp:List Addr}{ξ:List (Addr×Obj)}{σ:St}
theorem xh{R:TU->MA->Prop}{s:MA}{iter:Expr}{scope:Scope}{pos:Pos}{acc:Mu}(I:Nat->MA->Prop)
  (turn:∀n s,I n s->wpAny (model prog w) A (pyNext it) (fun r s1=>match r with
   |none=>R (.ok .next) s1
   |some v=>wpAny (model prog w) A (letOwnedTupleGo target it v) (fun _ s2=>wpAny (model prog w) A (assign target env v) (fun _ s3=>wpAny (model prog w) A (isTrue c env (eval c env)) (fun ok s4 =>
     if ok=true then wpAny (model prog w) A (eval elt env) (fun x s5=>wpAny (model prog w) A (call (.builtin "list.append") [acc,x]) (fun _ s6=>∃m,m<n/\I m s6) (fun _ _=>False) s5) (fun _ _=>False) s4
     else ∃m,m<n/\I m s4) (fun _ _=>False) s3) (fun _ _=>False) s2) (fun _ _=>False) s1) (fun _ _=>False) s) (n:Nat) (h:I n s) :
  codeAny (model prog w) A (.compLoop (.ListComp elt [⟨target,iter,[c],0⟩] scope pos) 0 it acc env) R s:=by
 refine codeAny_loop rfl I (fun k s1 hI=>?_) n h;have no:∀{α:Type} {t:Sem α} {P:α->MA->Prop} {E:Mu->MA->Prop} {z:MA},wpAny (model prog w) A t P (fun _ _=>False) z->wpAny (model prog w) A t P E z:=fun q=>Nj q (fun _ _ z=>z) fun _ _ z=>z.elim
 show wpAny _ _ ((compTurn (.ListComp elt [⟨target,iter,[c],0⟩] scope pos) 0 it acc env).onRaise _) _ _ s1;refine wpAny_noted ?_;rw[compTurn_list];refine Ms (Qy (Ms (no (Nj (turn k s1 hI) (fun r s2 h2=>?_) fun _ _ z=>z))));cases r with
 |none=>exact Mz h2
 |some v =>
  refine Ms (no (Nj h2 (fun _ s3 h3=>?_) fun _ _ z=>z));refine Ms (no (Nj h3 (fun _ s4 h4=>?_) fun _ _ z=>z));refine Ms (wpAny_tests_one (no (Nj h4 (fun ok s5 h5=>?_) fun _ _ z=>z)));cases ok with
  |true =>
   rw[if_pos rfl] at h5;refine Ms (Ms (no (Nj h5 (fun x s6 h6=>?_) fun _ _ z=>z)));exact Ms (no (Nj h6 (fun _ s7 h7=>Mz (Mz ⟨rfl,h7⟩)) fun _ _ z=>z))
  |false =>
   rw[if_neg M_] at h5;exact Mz ⟨rfl,h5⟩
theorem xi{iter:Expr}{pos:Pos}{E:Mu->MA->Prop}{QQ:Addr->Hp->Prop}{RR:Mu->Addr->TU->MA->Prop}(I:Inv X ξ σ H s)(c:lK X ys M scope cl)(hc:X.calm=true)
  (hg:∀C s₀ H₀ fp ξ,PG (bu X ys M scope cl C s₀ H₀ fp ξ) tg g) (ht:∀C s₀ H₀ fp ξ,PT (bu X ys M scope cl C s₀ H₀ fp ξ) cn tc) (he:∀C s₀ H₀ fp ξ,PE (bu X ys M scope cl C s₀ H₀ fp ξ) elt te) (T:qj X.prog X.w X.K tg J fp it tn) (st:tn 0 s.heap) (fk:∀b∈fp,fq X ξ H b)
  (h:Bn J ys.length g tc te σ (fun v H'=>∃D,v=.ref D/\QQ D H') H)
  (fin:∀D C H' s',s.heap.objs.size<=C->s'.heap.get? C≠none->(∃m,s'.heap.Ns C m)->H' C=none->Inv X ξ σ H' s'->QQ D H'->RR (.ref D) C (.ok .next) s') :
  wpAny (model X.prog X.w) X.A (newList []) (fun acc s₃=>wpAny (model X.prog X.w) X.A (newFunctionEnv scope X.env.globals cl [] X.env.qual none .none (some X.env)) (fun Zl s₄ =>
   codeAny (model X.prog X.w) X.A (.compStart (.ListComp elt [⟨tg,iter,[cn],0⟩] scope pos) 0 (.ref it) acc {Zl with scope:=relabel scope X.env}) (RR acc Zl.locals) s₄) E s₃) E s:=by
 refine NW (UY c.nocell (by intro y hy;simp at hy) (fun h1 ZB ZO=>?_) c.kind);dsimp only at ZB ZO ⊢;have hf:H s.heap.objs.size=none:=I.hok.fresh (MB _)
 have I3:Inv X ξ σ (upd H s.heap.objs.size (.lst [])) {s with heap:=s.heap.push {cls:=.type "list",dict:=none,data:=.seq ([]:List Mu).toArray}} :=
  I.laid (t':=s.toks) (fun b u e=>Mt _ e) (MB _) ⟨by decide,[],_,.nil,ML _ rfl⟩
 have eD:∀b u,s.heap.get? b=some u->b≠s.heap.objs.size:=fun b u e=>MC (MG e)
 have ZH:∀b∈fp,fq X ξ (upd H s.heap.objs.size (.lst [])) b/\∃o,(s.heap.push {cls:=.type "list",dict:=none,data:=.seq ([]:List Mu).toArray}).get? b=some o:=fun b hb=>by
  obtain⟨o,eo,_⟩:=T.obj 0 _ st b hb;obtain⟨f1,f2⟩:=fk b hb;exact⟨⟨by rw[av (eD b o eo)];exact f1,f2⟩,o,Mt _ eo⟩
 have I4:=vV (tk:=s.toks+([]:List (Str×Mu)).length) I3 c rfl ZB ZO ZH;obtain⟨W,⟨m0,w0⟩,turn⟩:=h _ hf
 have st4:tn 0 h1:=T.keep 0 _ _ st fun b hb o e=>by
  have e2:=Mt {cls:=.type "list",dict:=none,data:=.seq ([]:List Mu).toArray} e;exact ZO.extBut b o (MC (MG e2)) (Mt _ e2)
 have YL:∀{H':Hp},(∀b∈fp,H' b=none)->∀b∈fp,fq (bu X ys M scope cl (s.heap.push {cls:=.type "list",dict:=none,data:=.seq ([]:List Mu).toArray}).objs.size {s with heap:=s.heap.push {cls:=.type "list",dict:=none,data:=.seq ([]:List Mu).toArray}} (upd H s.heap.objs.size (.lst [])) fp ξ) [] H' b :=
  fun hn b hb=>⟨hn b hb,(I4.ok.exf b hb).1,I4.ok.exfs b hb,.inl hb,(I4.ok.exf b hb).2,fun p hp=>(ZH b hb).1.2.2.2.2.2 p (by simpa[bu] using hp)⟩
 have loop:∀s4:MA,s4 = {s with heap:=h1,toks:=s.toks+([]:List (Str×Mu)).length} ->
   codeAny (model X.prog X.w) X.A (.compLoop (.ListComp elt [⟨tg,iter,[cn],0⟩] scope pos) 0 (.ref it) (.ref s.heap.objs.size) (compEnvC scope cl (s.heap.push {cls:=.type "list",dict:=none,data:=.seq ([]:List Mu).toArray}).objs.size X.env))
    (RR (.ref s.heap.objs.size) (s.heap.push {cls:=.type "list",dict:=none,data:=.seq ([]:List Mu).toArray}).objs.size) s4:=by
  rintro s4 rfl
  refine xh (fun n s'=>∃(i:Nat) (us:St) (H':Hp),us.length=ys.length/\Inv (bu X ys M scope cl (s.heap.push {cls:=.type "list",dict:=none,data:=.seq ([]:List Mu).toArray}).objs.size {s with heap:=s.heap.push {cls:=.type "list",dict:=none,data:=.seq ([]:List Mu).toArray}} (upd H s.heap.objs.size (.lst [])) fp ξ) [] (us ++ σ) H' s'/\tn i s'.heap/\(∀b∈fp,H' b=none)/\W i n H')
   ?_ m0 ⟨0,_,_,Oj,I4,st4,fun b hb=>(ZH b hb).1.1,w0⟩
  rintro n s5 ⟨i,us,H5,lu,I5,ZX,fr5,w5⟩;rcases turn i n H5 w5 with⟨stop,Dq,eDq,q⟩|⟨go,step⟩
  ·cases eDq;refine bj (T.done (bu X ys M scope cl _ _ _ _ _) rfl rfl rfl hc i [] s5 _ H5 _ I5 (YL fr5) ZX stop) fun r s6 ⟨er,I6⟩=>?_
   subst er;obtain⟨m,hn6,_⟩:=id I6.loc;obtain⟨o6,_,_,ho6,_⟩:=id hn6;exact fin _ _ H5 s6 (by rw[OO];exact PP _) (fun z=>by have z':=ho6.symm.trans z;cases z') ⟨m,hn6⟩ I6.free (mP I3 ZH I6) q
  ·refine bj (T.item (bu X ys M scope cl _ _ _ _ _) rfl rfl rfl hc i [] s5 _ H5 _ I5 (YL fr5) ZX go) fun r s6 ⟨u,er,h6⟩=>?_
   subst er;refine bj h6 fun _ s7 ⟨v',H7,I7,r7,y7,ZY,fr7⟩=>?_
   have I7':=I7.pinned (YL fr7) (T.obj _ _ ZY);refine Nj (hg _ _ _ _ _ _ s7 _ H7 v' u _ I7' r7 (step v' H7 y7 us lu)) (fun _ s8 ⟨σ8,H8,I8,⟨YS,lu',e8⟩,q8⟩=>?_) fun _ _ z=>z.elim
   refine Nj (ht _ _ _ _ _ _ s8 _ H8 _ I8 q8) (fun ok s9 ⟨H9,I9,q9⟩=>?_) fun _ _ z=>z.elim
   subst e8;cases ok with
   |true =>
    rw[if_pos rfl] at q9 ⊢;refine Nj (he _ _ _ _ _ _ s9 _ H9 _ I9 q9) (fun y s10 ⟨yv,Za,I10,ry,xs,ZQ,hlen,m',hm,w10⟩=>?_) fun _ _ z=>z.elim
    refine Nj (aT (X:=bu X ys M scope cl _ _ _ _ _) _ s10 _ Za (.ref s.heap.objs.size) [yv] (.ref s.heap.objs.size) [y] (fun _ H11=>H11=upd Za s.heap.objs.size (.lst (xs++[yv]))) I10 rfl (.cons ry .nil) ⟨_,xs,yv,rfl,rfl,ZQ,hlen,rfl⟩) (fun _ s11 ⟨z,H11,I11,rz,q11⟩=>?_) fun _ _ z=>z.elim
    subst q11;refine⟨m',hm,i+1,YS,_,lu',I11.fV (ξ:=[]),T.keep _ _ _ ZY fun b hb o e=>(I11.pin (b,o) (M5 _ (M5 _ (cy hb e)))).1,fun b hb=>?_,w10⟩;obtain⟨o,e,_⟩:=T.obj _ _ ZY b hb;exact(I11.pin (b,o) (M5 _ (M5 _ (cy hb e)))).2.1
   |false =>
    rw[if_neg M_] at q9 ⊢;obtain⟨m',hm,w9⟩:=q9;refine⟨m',hm,i+1,YS,_,lu',I9.fV (ξ:=[]),T.keep _ _ _ ZY fun b hb o e=>(I9.pin (b,o) (M5 _ (M5 _ (cy hb e)))).1,fun b hb=>?_,w9⟩;obtain⟨o,e,_⟩:=T.obj _ _ ZY b hb;exact(I9.pin (b,o) (M5 _ (M5 _ (cy hb e)))).2.1
 exact Ud (loop _ rfl) (T.self _ 0 _ _ _ st4 (loop _ rfl))
theorem Iw{iter:Expr}{pos sp:Pos}{i n:Nat}{y:Str}(ys M:List Str)(hN:X.N.Nodup)(hy:X.N[i]?=some y)(ly:X.env.scope.names.lookup y=some .local)(c0:dN X.env.scope X.N M ys scope)(hc:X.calm=true)(hi:PI X tg iter wi)
  (hg:∀C s₀ H₀ fp ξ,PG (bu X ys M scope (jD scope X.env.cells) C s₀ H₀ fp ξ) tg g) (ht:∀C s₀ H₀ fp ξ,PT (bu X ys M scope (jD scope X.env.cells) C s₀ H₀ fp ξ) cn tc) (he:∀C s₀ H₀ fp ξ,PE (bu X ys M scope (jD scope X.env.cells) C s₀ H₀ fp ξ) elt te) (hn:ys.length=n:=by rfl)
  (hsw:swapsWith (.ListComp elt [⟨tg,iter,[cn],0⟩] scope pos) (some (.Name y py)) sp.line X.env=pure true:=by rfl) (hs:∀v,foldedSetIterable iter X.env v=pure v:=by intro _;rfl) :
  PS X (.Assign [.Name y py] (.ListComp elt [⟨tg,iter,[cn],0⟩] scope pos) sp) (aQ (yb wi n g tc te) (aJ i)):=by
 subst hn;intro ξ s σ H D I h;have c:=c0.sc I.ok
 have hi':PI X tg iter (fun σ H R=>∃R',(∀J H1,R' J H1->R J H1)/\wi σ H R'):=by
  intro ξ s σ H R I ⟨R',hR,hw⟩;refine bj (hi ξ s σ H R' I hw) fun v s1 h1=>bj h1 fun Z5 s2 ⟨it,fp,tn,J,H',e,I',T,t0,fk,r⟩=>⟨it,fp,tn,J,H',e,I',T,t0,fk,hR J H' r⟩
 rw[Uz _ _ _ _ hsw];refine Ms (Qy (Ms ?_));show wpAny _ X.A (do let _ <- comprehension (.ListComp elt [⟨tg,iter,[cn],0⟩] scope pos) scope X.env _ (newList []) false (eval iter X.env) (some (assign (.Name y py) X.env))) _ _ s;refine Ms (Nj (Q7 (use:=some (assign (.Name y py) X.env)) (Q:=fun _ s'=>SP X ξ D .next s') rfl hs c.clos c.kind c.names (bj (hi' ξ s σ H (fun J H1=>Bn J ys.length g tc te σ (fun v H'=>∃Da,v=.ref Da/\D.nx (σ.set i (some (.ref Da))) H') H1) I ⟨_,fun J H1 q Da nD=>?_,h⟩) fun v s1 h1=>bj h1 fun Z5 s2 h2=>?_)) (fun _ s' hq=>Mz (Mz hq)) fun _ _ z=>z)
 ·obtain⟨W,w0,t⟩:=q Da nD;exact⟨W,w0,fun i m H w=>(t i m H w).imp (fun z=>⟨z.1,Da,rfl,z.2⟩) id⟩
 obtain⟨it,fp,tn,J,H2,rfl,I2,T,ZW,fk2,h3⟩:=h2;refine xi (E:=X.xe) (QQ:=fun Da H'=>D.nx (σ.set i (some (.ref Da))) H') I2 c hc hg ht he T ZW fk2 h3 fun Da C H' s' hC hl ns fr I' q=>?_
 obtain⟨m,hn⟩:=ns;refine SR (j9 I' hN hy (.inl ly) (v:=.ref Da) rfl (fun s3 I3 ⟨a,hsa,ha⟩=>?_) (.inr ly))
 have nC:C≠a:=by
  rcases ha with z|z
  ·rw[z];exact(I2.fpOk hC fr).2.1
  ·exact fun w'=>(I2.fpOk hC fr).2.2.2.2.1 y a z w'.symm
 refine⟨m,hn.sameBut hsa nC,fun h' hs'=>⟨_,H',I3.turned (t':=s3.toks) (fun b o hb e=>(hs'.2 b hb).trans e) fr (I2.fpOk hC fr).2.1 (I2.fpOk hC fr).2.2.2.1 (I2.fpOk hC fr).2.2.2.2.1 (I2.fpOk hC fr).2.2.2.2.2,q⟩⟩
end
section
variable{K:Fg}{tc:TT}{te:TE}{σ:St}{Q:VK}{H:Hp}
theorem G3{wi:TI}(h:wi σ H fun J H1=>Bn J n g tc te σ Q H1):yb wi n g tc te σ H Q:=h
def Mi(n i:Nat)(Pv:Nat->Hp->Prop):Hp->Prop:=fun H2=>∃m',m'<n-i/\m'=n-(i+1)/\i+1<=n/\Pv (i+1) H2
def L5(g:TG)(n:Nat)(tc:TT)(te:TE)(σ:St)(v:V)(H:Hp)(D:Addr)(m i:Nat)(Pv:Nat->Hp->Prop):Prop:=∀us:St,us.length=n->g v (us ++ σ) H fun σ2 H2=>(∃YS:St,YS.length=n/\σ2=YS ++ σ)/\tc σ2 H2 fun b H3=>if b=true then te σ2 H3 (ve D m i Pv) else Mi m i Pv H3
theorem BP{n i:Nat}{Pv:Nat->Hp->Prop}(hi:i<n)(h:Pv (i+1) H2):Mi n i Pv H2:=⟨n-(i+1),by lia,rfl,hi,h⟩
theorem AZ{k1 k2:Kn}{xs ys:List V}(h:∀D,H D=none->∃Pv:Nat->Hp->Prop,Pv 0 (upd H D (.lst []))/\(∀i H2,i<=min xs.length ys.length->Pv i H2->k1.sq K H2 a xs/\k2.sq K H2 b ys) /\
  (∀i x y H2 T,xs[i]?=some x->ys[i]?=some y->Pv i H2->H2 T=none->L5 g n tc te σ (.ref T) (upd H2 T (.tup [x,y])) D (min xs.length ys.length) i Pv)/\∀H2,Pv (min xs.length ys.length) H2->Q (.ref D) H2):Bn (Kf K k1 k2 a b) n g tc te σ Q H:=by
 intro D nD;obtain⟨Pv,h0,hl,hs,hd⟩:=h D nD;refine⟨fun i m H=>m=min xs.length ys.length-i/\i<=min xs.length ys.length/\Pv i H,⟨_,rfl,NH _,h0⟩,?_⟩;rintro i m H ⟨rfl,hi,p⟩;obtain⟨q1,q2⟩:=hl i H hi p;by_cases X6:i<min xs.length ys.length
 ·refine .inr ⟨⟨xs,ys,q1,q2,by lia,by lia⟩,fun v H' y us hu=>?_⟩;obtain⟨T,x,y,nT,rfl,rfl,z1,z2⟩:=y;exact hs i x y H T (z1 xs q1) (z2 ys q2) p nT us hu
 ·have e:i=min xs.length ys.length:=by lia
  subst e;refine .inl ⟨⟨xs,ys,q1,q2,?_⟩,hd H p⟩;rcases Nat.le_total xs.length ys.length with q|q
  ·exact .inl (by rw[PK q];exact MB _)
  ·exact .inr (by rw[Pw q];exact MB _)
end
def a7(i:Int):Str:=toString i
def wD(te:TE):TE:=fun σ H Q=>te σ H fun x H1=>∃z,x=.str z/\z.length<=sizeLine/\Q (.str z) H1
def tI(te:TE):TE:=fun σ H Q=>te σ H fun x H1=>∃i,x=.int i/\i.natAbs.log2<1920/\Q (.str (a7 i)) H1
def xt:List TE->Str->TE
 |[],acc=>fun _ H Q=>Q (.str acc) H
 |t :: r,acc=>fun σ H Q=>t σ H fun x H1=>∃y,x=.str y/\(acc++y).length<=sizeLine/\xt r (acc++y) σ H1 Q
def Cs:List V->Hp->VK->Prop:=fun xs H Q=>∃i,xs=[.int i]/\i.natAbs.log2<1920/\Q (.str (a7 i)) H
def vF(K:Fg):V->List V->Hp->VK->Prop:=fun x xs H Q=>∃(z:Str) (a:Addr) (ws:List Str),x=.str z/\xs=[.ref a]/\SqL K H a (ws.map V.str)/\(ws.map (·.length)).sum+ws.length*z.length<=16777216/\Q (.str (Wp z ws)) H
section
variable{X:Cx}{pos:Pos}
theorem o_(h:PE X e te):PE X (.FormattedValue e (-1) none pos) (wD te):=by
 intro ξ s σ H Q I q;refine U6 (bj (h ξ s σ H _ I q) fun v s1 ⟨x,H1,I1,r1,z,e1,lz,q1⟩=>?_);subst e1;obtain⟨t,rfl⟩:=r1;exact formatField_str (fun t' tk=>⟨.str z,H1,I1.tok tk,⟨t',rfl⟩,q1⟩) lz
theorem ku(h:PE X e te):PE X (.FormattedValue e (-1) none pos) (tI te):=by
 intro ξ s σ H Q I q;refine U6 (bj (h ξ s σ H _ I q) fun v s1 ⟨x,H1,I1,r1,i,e1,li,q1⟩=>?_);subst e1;obtain⟨t,rfl⟩:=r1;exact formatField_int_small li ⟨.str (a7 i),H1,I1.tok _,⟨_,rfl⟩,q1⟩
inductive PJ (X:Cx):List Expr->List TE->Prop
 |nil:PJ X [] []
 |cons {e:Expr} {es:List Expr} {t:TE} {ts:List TE}:PE X e t->PJ X es ts->PJ X (e :: es) (t :: ts)
theorem PJ.run:∀{es:List Expr} {ts:List TE},PJ X es ts->∀(acc:Str) (ξ:List (Addr×Obj)) (s:MA) (σ:St) (H:Hp) (Q:VK),acc.length<=sizeLine->Inv X ξ σ H s->xt ts acc σ H Q ->
  wpAny (model X.prog X.w) X.A (joinParts acc (evalEach es X.env)) (EP X ξ σ Q) X.xe s
 |_,_,.nil,acc,ξ,s,σ,H,Q,la,I,q=>joinParts_nil ⟨.str acc,H,I.tok _,⟨_,rfl⟩,q⟩ la
 |_,_,.cons he r,acc,ξ,s,σ,H,Q,la,I,q=>by
  refine joinParts_cons (bj (he ξ s σ H _ I q) fun v s1 ⟨x,H1,I1,r1,y,e1,ly,q1⟩=>?_);subst e1;obtain⟨t,rfl⟩:=r1;exact⟨ly,r.run (acc++y) ξ s1 σ H1 Q ly I1 q1⟩
theorem Iz(h:PE X e te):PE X (.JoinedStr [e] pos) te:=fun ξ s σ H Q I q=>JoinedStr_one (h ξ s σ H Q I q)
theorem CC{e e2:Expr}{es:List Expr}(h:PJ X (e :: e2 :: es) ts):PE X (.JoinedStr (e :: e2 :: es) pos) (xt ts NC):=fun ξ s σ H Q I q=>JoinedStr_many (h.run NC ξ s σ H Q (by decide) I q)
theorem sv:gN X (.type "str") Cs:=by
 intro ξ s σ H xs us Q I r h;obtain⟨i,rfl,li,q⟩:=h;obtain⟨u,rfl,ru⟩:=vals1 r;obtain⟨t,rfl⟩:=ru;exact P.str_of_int li ⟨.str (a7 i),H,I.tok _,⟨_,rfl⟩,q⟩
theorem vy:∀{ws:List Str} {us:List Mu},Vals (ws.map V.str) us->StrsAre us ws
 |[],_,.nil=>.nil
 |w :: ws,_,.cons r rr=>by
  obtain⟨t,rfl⟩:=r;exact .cons w t (vy rr)
theorem zL:Bv X "str.join" (vF X.K):=by
 intro ξ s σ H x xs v us Q I rx rv h;obtain⟨z,a,ws,rfl,rfl,sq,le,q⟩:=h;obtain⟨t,rfl⟩:=rx;obtain⟨u,rfl,ru⟩:=vals1 rv;cases ru;obtain⟨fm,rvs,p,_⟩:=I.list sq;exact join_list (items:=fm.toArray) p.isList (vy rvs) le fun t' k=>⟨.str _,H,I.tok k,⟨t',rfl⟩,q⟩
end
section
variable{K:Fg}{σ:St}{H:Hp}{Q:VK}{te:TE}
theorem Ju(h:te σ H fun x H1=>∃z,x=.str z/\z.length<=sizeLine/\Q (.str z) H1):wD te σ H Q:=h
theorem Jv(h:te σ H fun x H1=>∃i,x=.int i/\i.natAbs.log2<1920/\Q (.str (a7 i)) H1):tI te σ H Q:=h
theorem Lu(h:Q (.str acc) H):xt [] acc σ H Q:=h
theorem Lw{t:TE}{acc:Str}(h:t σ H fun x H1=>∃y,x=.str y/\(acc++y).length<=sizeLine/\xt r (acc++y) σ H1 Q):xt (t :: r) acc σ H Q:=h
theorem hX{acc y:Str}(n:(acc++y).length<=sizeLine)(h:xt r (acc++y) σ H Q):∃z,V.str y=.str z/\(acc++z).length<=sizeLine/\xt r (acc++z) σ H Q:=⟨y,rfl,n,h⟩
theorem C_{y:Str}{P:Str->Prop}(n:y.length<=sizeLine)(h:P y):∃z,V.str y=.str z/\z.length<=sizeLine/\P z:=⟨y,rfl,n,h⟩
theorem EF{i:Int}(n:i.natAbs.log2<1920)(h:Q (.str (a7 i)) H):Cs [.int i] H Q:=⟨i,rfl,n,h⟩
theorem EH{z:Str}{ws:List Str}(sq:SqL K H a (ws.map V.str))(le:(ws.map (·.length)).sum+ws.length*z.length<=16777216)(h:Q (.str (Wp z ws)) H):vF K (.str z) [.ref a] H Q:=⟨z,a,ws,rfl,rfl,sq,le,h⟩
end
def Kw(z:Str):It:=⟨fun i _=>i<z.cps.size,fun i H x H'=>H'=H/\∃c,z.cps[i]?=some c/\x=.str ⟨#[c]⟩,fun i _=>z.cps.size<=i⟩
theorem BE{K:Fg}  (z:Str) (t:Tok) (it:Addr):qj P w K tg (Kw z) [it] it (fun i h=>h.IsStrIter it "str_ascii_iterator" z t i) where
 mem:=MK.mpr rfl
 obj:=fun i h ⟨o,e,c,d⟩ b hb=>by cases MK.mp hb;exact⟨o,e,fun v q=>by rw[d] at q;cases q⟩
 keep:=fun i h h' ⟨o,e,r⟩ k=>⟨o,k it (MK.mpr rfl) o e,r⟩
 item:=fun X hP hw hK hc i ξ s σ H E I hf st hg=>by
  subst hP hw hK;have hg':i<z.cps.size:=hg;obtain⟨f0,f1,f2,f3,f4,f5⟩:=hf it (MK.mpr rfl);refine wpAny_pyNext_ascii_item st (c:=z.cps[i]) (NO hg') fun h' Y6 sb=>?_
  have I1:Inv X ξ σ H {s with heap:=h',toks:=s.toks+1}:=I.turned (t':=s.toks+1) (fun b o hb e=>(sb.2 b hb).trans e) f0 f1 f3 f4 f5;obtain⟨o,e,c,d⟩:=id Y6;exact⟨_,rfl,Dr (s:={s with heap:=h',toks:=s.toks+1}) e c d (by decide) ⟨.str ⟨#[z.cps[i]]⟩,H,I1,⟨_,rfl⟩,⟨rfl,_,NO hg',rfl⟩,Y6,fun b hb=>(hf b hb).1⟩⟩
 done:=fun X hP hw hK hc i ξ s σ H E I hf st hg=>by
  subst hP hw hK;obtain⟨f0,f1,f2,f3,f4,f5⟩:=hf it (MK.mpr rfl);exact wpAny_pyNext_ascii_end (I.ok.hd hc) st (Ue hg) fun h' eb=>⟨rfl,I.turned (t':=s.toks) (fun b o hb e=>eb b o hb e) f0 f1 f3 f4 f5⟩
 self:=fun _ _ _ _ _ st h=>wpAny_pyIter_striter_ascii st h
def Di(tl:TE):TI:=fun σ H R=>tl σ H fun x H1=>∃z:Str,x=.str z/\z.cps.all (· < 128)=true/\R (Kw z) H1
section
variable{X:Cx}{tg:Expr}
theorem Em(hl:PE X l tl):PI X tg l (Di tl):=by
 intro ξ s σ H R I h;refine bj (hl ξ s σ H _ I h) fun v s1 ⟨x,H1,I1,r1,z,e,ha,q⟩=>?_
 subst e;obtain⟨t,rfl⟩:=r1;refine wpAny_pyIter_ascii ha ⟨s1.heap.objs.size,[s1.heap.objs.size],_,_,H1,rfl,I1.kept (t':=s1.toks) fun b o e=>Mt _ e,BE z t _,⟨_,ML _ rfl,rfl,rfl⟩,fun b hb=>?_,q⟩;cases MK.mp hb;exact I1.fpOk (MB _) (I1.hok.fresh (MB _))
theorem Jr{H:Hp}{te:TE}{R:It->Hp->Prop}(h:te σ H fun x H1=>∃z:Str,x=.str z/\z.cps.all (· < 128)=true/\R (Kw z) H1):Di te σ H R:=h
theorem wk{z:Str}{Q:VK}{H:Hp}(h:∀D,H D=none->∃Pv:Nat->Hp->Prop,Pv 0 (upd H D (.lst []))/\(∀i c H2,z.cps[i]?=some c->Pv i H2->HN te σ (.str ⟨#[c]⟩) H2 D z.cps.size i Pv)/\∀H2,Pv z.cps.size H2->Q (.ref D) H2):cZ (Kw z) te σ Q H:=by
 intro D nD;obtain⟨Pv,h0,hs,hd⟩:=h D nD;refine⟨fun i m H=>m=z.cps.size-i/\i<=z.cps.size/\Pv i H,⟨z.cps.size,by simp,NH _,h0⟩,?_⟩;rintro i m H ⟨rfl,hi,p⟩;by_cases X6:i<z.cps.size
 ·refine .inr ⟨X6,fun v H' y=>?_⟩;obtain⟨e,c,hc,e2⟩:=y;subst e e2;exact hs i c _ hc p
 ·have e:i=z.cps.size:=by lia
  subst e;exact .inl ⟨MB _,hd H p⟩
def Fp(K:Fg)(te:TE):TE:=fun σ H Q=>te σ H fun x H1=>∃a,x=.ref a/\((∃xs,SqL K H1 a xs)\/∃xs,SqT K H1 a xs)/\Q (.bl true) H1
theorem DR:AnswersAll (fun s=>s.TypeIs (.ref a) "list") (.ref a) [.type "list",.type "tuple"] [true,false] :=
 .cons (.of_true (by rfl) F.sub_list_list) (.cons (.of_false_list (by decide) (by rfl) F.sub_list_tuple) .nil)
theorem Hu:AnswersAll (fun s=>s.TypeIs (.ref a) "tuple") (.ref a) [.type "list",.type "tuple"] [false,true] :=
 .cons (.of_false_tuple (by decide) (by rfl) F.sub_tuple_list) (.cons (.of_true (by rfl) F.sub_tuple_tuple) .nil)
theorem Go{p p1 p2 pos:Pos} {x1} (hgi:Gl X "isinstance") (hmi:X.mg "isinstance"=none) (hgl:Gl X "list") (hml:X.mg "list"=none) (hgt:Gl X "tuple") (hmt:X.mg "tuple"=none) (he:PE X e te)
  (hs:starEach [e,.Tuple [.Name "list" p1,.Name "tuple" p2] x1 tp] X.env=[(false,eval e X.env),(false,eval (.Tuple [.Name "list" p1,.Name "tuple" p2] x1 tp) X.env)]:=by rfl)
  (hs2:starEach [.Tuple [.Name "list" p1,.Name "tuple" p2] x1 tp] X.env=[(false,eval (.Tuple [.Name "list" p1,.Name "tuple" p2] x1 tp) X.env)]:=by rfl) :
  PE X (.Call (.Name "isinstance" p) [e,.Tuple [.Name "list" p1,.Name "tuple" p2] x1 tp] [] pos) (Fp X.K te):=by
 intro ξ s σ H Q I h;refine Oa (fE I hgi hmi ao ?_);refine O4 ?_ (by rw[hs,hs2]) (by rw[hs2];rfl);rw[hs];refine(show wpAny _ _ (spliced (backTo pos [(false,eval e X.env),(false,eval (.Tuple [.Name "list" p1,.Name "tuple" p2] x1 tp) X.env)])) _ _ s from N_ (bj (he ξ s σ H _ I h) fun u s1 ⟨x,H1,I1,r1,a,ex,hq,q⟩=>N_ ?_));subst ex;cases r1;have ha:PA X [.Name "list" p1,.Name "tuple" p2] (ag (tC (.ty "list")) (ag (tC (.ty "tuple")) am)):=aa (bp hgl hml dM rfl) (aa (bp hgt hmt b7 rfl) af);refine Vt (x1:=x1) (bj (ha tp ξ s1 σ H1 (fun vs H2=>vs=[.ty "list",.ty "tuple"]/\H2=H1) I1 ⟨rfl,rfl⟩) fun us s2 ⟨xs,H2,I2,r2,e2,e3⟩=>?_);subst e2 e3;obtain⟨u1,u2,rfl,ru1,ru2⟩:=vals2 r2;obtain rfl:u1=O0 "list":=ru1;obtain rfl:u2=O0 "tuple":=ru2;refine⟨cC,Pc ?_⟩;have I3:Inv X ξ σ H2 {s2 with heap:=s2.heap.push {cls:=.type "tuple",dict:=none,data:=.seq ([.type "list",.type "tuple"]:List Mu).toArray}}:=I2.kept (t':=s2.toks) fun b o e=>Mt _ e
 rcases hq with⟨xs,q1⟩|⟨xs,q1⟩
 ·obtain⟨fm,_,p,_⟩:=I3.list q1;obtain⟨o,ho,hc,_⟩:=p.isList;exact WL (b:=true) DR ⟨o,ho,hc⟩ (ML _ rfl) rfl fun tk=>⟨.bl true,H2,I3.tok tk,rfl,q⟩
 ·obtain⟨fm,_,p,_⟩:=I3.tuple q1;obtain⟨o,ho,hc,_⟩:=id p;exact WL (b:=true) Hu ⟨o,ho,hc⟩ (ML _ rfl) rfl fun tk=>⟨.bl true,H2,I3.tok tk,rfl,q⟩
theorem Jo{K:Fg}{H:Hp}{Q:VK}{te:TE}(h:te σ H fun x H1=>∃a,x=.ref a/\((∃xs,SqL K H1 a xs)\/∃xs,SqT K H1 a xs)/\Q (.bl true) H1):Fp K te σ H Q:=h
end
def Dj(K:Fg)(tl:TE):TI:=fun σ H R=>tl σ H fun x H1=>∃a,x=.ref a/\(((∃xs,SqL K H1 a xs)/\R (vd K a) H1)\/((∃xs,SqT K H1 a xs)/\R (sQ K a) H1))
section
variable{X:Cx}{tg:Expr}
theorem g7{pos:Pos} (hg:Gl X x) (hm:∃t,X.mg x=some (.int i t)) (hd:(x == ("__debug__":Str))=false:=by decide):PE X (.Name x pos) (tC (.int i)):=by
 obtain⟨t,e⟩:=hm;exact cj hg e ⟨t,rfl⟩ hd
theorem En(hl:PE X l tl):PI X tg l (Dj X.K tl):=by
 intro ξ s σ H R I h;refine bj (hl ξ s σ H _ I h) fun v s1 ⟨x,H1,I1,r1,a,e,q1⟩=>?_
 subst e;cases r1;have own:∀b∈[s1.heap.objs.size],fq X ξ H1 b:=fun b hb=>by cases MK.mp hb;exact I1.fpOk (MB _) (I1.hok.fresh (MB _))
 rcases q1 with⟨⟨xs,hq⟩,q⟩|⟨⟨xs,hq⟩,q⟩
 ·obtain⟨fm,_,p,_⟩:=I1.list hq;exact ON p.isList ⟨_,[_],_,_,H1,rfl,I1.kept (t':=s1.toks) fun b o e=>Mt _ e,qq a _,⟨_,ML _ rfl,rfl,rfl⟩,own,q⟩
 ·obtain⟨fm,_,p,_⟩:=I1.tuple hq;exact N8 (show s1.heap.IsTuple a fm.toArray from p) ⟨_,[_],_,_,H1,rfl,I1.kept (t':=s1.toks) fun b o e=>Mt _ e,mE a _,⟨_,ML _ rfl,rfl,rfl⟩,own,q⟩
end
section
variable{K:Fg}{te:TE}{σ:St}{Q:VK}{H:Hp}
theorem Js{R:It->Hp->Prop}(h:te σ H fun x H1=>∃a,x=.ref a/\(((∃xs,SqL K H1 a xs)/\R (vd K a) H1)\/((∃xs,SqT K H1 a xs)/\R (sQ K a) H1))):Dj K te σ H R:=h
theorem wl(e:SqL K H a xs\/SqT K H a xs)(h:∀D,H D=none->∃Pv:Nat->Hp->Prop,Pv 0 (upd H D (.lst []))/\(∀i H2,Pv i H2->Same H H2)/\(∀i x H2,xs[i]?=some x->Pv i H2->HN te σ x H2 D xs.length i Pv)/\∀H2,Pv xs.length H2->Q (.ref D) H2) :
  ∃b,V.ref a=.ref b/\(((∃xs,SqL K H b xs)/\cZ (vd K b) te σ Q H)\/((∃xs,SqT K H b xs)/\cZ (sQ K b) te σ Q H)):=by
 refine⟨a,rfl,?_⟩;rcases e with e|e
 ·refine .inl ⟨⟨xs,e⟩,io (xs:=xs) fun D nD=>?_⟩;obtain⟨Pv,h0,h1,h2,h3⟩:=h D nD;exact⟨Pv,h0,fun i H2 _ p=>(h1 i H2 p).seq e,h2,h3⟩
 ·refine .inr ⟨⟨xs,e⟩,f8 (xs:=xs) fun D nD=>?_⟩;obtain⟨Pv,h0,h1,h2,h3⟩:=h D nD;exact⟨Pv,h0,fun i H2 _ p=>(h1 i H2 p).seqT e,h2,h3⟩
theorem GP{lo:Option Int}(e:SqT K H a xs)(n : ¬ (HT.sIx xs.length 0 lo=0/\HT.sIx xs.length xs.length hi=xs.length))(h:∀p,H p=none->Q (.ref p) (upd H p (.tup (gI xs lo hi)))):y_ K (.ref a) lo hi H Q:=⟨a,xs,rfl,e,n,h⟩
theorem rW{bs:List Bool}(e:SqL K H a (bs.map V.bl))(h:Q (.bl (bs.all id)) H):uh K [.ref a] H Q:=⟨a,bs,rfl,e,h⟩
theorem LM{bs:List Bool}(e:SqL K H a (bs.map V.bl))(h:Q (.bl (bs.any id)) H):Gb K [.ref a] H Q:=⟨a,bs,rfl,e,h⟩
theorem DM{n i:Nat}{Pv:Nat->Hp->Prop}(hn:n<=1000)(hi:i<n)(hP:∀j H3,Pv j H3↔AccZ K H0 D H3 ((Nq j b).map TC))(A:Pv i H2)(S:Same H2 H3):ve D n i Pv (.bl b) H3:=by
 have A2:=((hP i H2).mp A).on S;refine cF hi (A2.js (.bl b) (by rw[Mv,Oj,show sizeLine=16777216 by decide];lia) fun H4 A4=>?_);rw[hP,List.replicate_succ',M8];exact A4
theorem AccZ.bls{bs:List Bool}(A:AccZ K H0 l H (bs.map TC)):SqL K H l (bs.map V.bl):=by
 obtain⟨xs,h1,h2⟩:=A.at_
 have:∀{vs:List V} {bs:List Bool},RzL K H vs (bs.map TC)->vs=bs.map V.bl:=by
  intro vs bs
  induction bs generalizing vs with
  |nil=>intro h;cases h;rfl
  |cons b bs ih =>
   intro h;cases h with
   |cons h1 h2 =>
    cases h1;rw[ih h2];rfl
 rw[this h2] at h1;exact SqL.of h1
end
end L2
namespace Gd
def gd(a b:Int):Int:=(Int.gcd a b:Nat)
theorem G7(a b:Int):gd b (Wr a b)=gd a b:=by
 unfold gd
 have e:Wr a b=a+b*(-(U8 a b)):=by
  rw[Ws,Int.mul_neg];lia
 rw[e,Int.gcd_add_mul_left_right,Int.gcd_comm]
theorem G8{b:Int}(h:b≠0):(Wr a b).natAbs<b.natAbs:=by
 rcases (by lia:0<b\/b<0) with p|p
 ·have h1:=Uf a p;have h2:=V1 a p;lia
 ·have e:Wr a b = -(Wr (-a) (-b)):=by
   rw[Ws,Ws,Int.neg_fdiv_neg];rw[Int.neg_mul];lia
  have h1:=Uf (-a) (b:=-b) (by lia);have h2:=V1 (-a) (b:=-b) (by lia);lia
theorem G6(a:Int):gd a 0=(a.natAbs:Int):=by
 unfold gd;rw[Int.gcd_zero_right]
theorem JJ(a:Int):(if a<0 then -a else a)=gd a 0:=by
 rw[G6];split <;> lia
theorem wb{b:Int}(h:b≠0):0<gd a b:=by
 unfold gd
 have:Int.gcd a b≠0:=fun e=>h (Int.gcd_eq_zero_iff.mp e).2
 lia
theorem JK{b:Int}(h:b≠0):gd a b<=(b.natAbs:Int):=by
 unfold gd
 have:=Int.gcd_le_natAbs_right a h
 lia
structure Low (top bottom q p:Int):Prop where
 pos:0<p
 low:gd q p=1
 worth:q*bottom=top*p
theorem EC{b d:Int}(hb:b≠0)(hd:d=gd t b/\0<b\/d = - gd t b/\b<0):Low t b (U8 t d) (U8 b d):=by
 have gp:=wb (a:=t) hb;have d1:gd t b∣t:=WM t b;have d2:gd t b∣b:=Wt t b;have e1:d∣t:=by rcases hd with⟨e,_⟩|⟨e,_⟩ <;> rw[e];exact d1;exact U_.mpr d1
 have e2:d∣b:=by rcases hd with⟨e,_⟩|⟨e,_⟩ <;> rw[e];exact d2;exact U_.mpr d2
 have d0:d≠0:=by rcases hd with⟨e,_⟩|⟨e,_⟩ <;> lia
 obtain⟨q,rfl⟩:=e1;obtain⟨p,rfl⟩:=e2;rw[Q8 _ d0,Q8 _ d0];refine⟨?_,?_,?_⟩
 ·rcases hd with⟨e,z⟩|⟨e,z⟩
  ·exact Th z (by lia) |> fun h=>h
  ·have z':0<(-d)*p:=by rw[Int.neg_mul];lia
   exact Th z' (by lia)
 ·have m:gd (d*q) (d*p)=(d.natAbs:Int)*gd q p:=by
   unfold gd;rw[Int.gcd_mul_left];simp
  have n:gd (d*q) (d*p)=(d.natAbs:Int):=by
   rcases hd with⟨e,z⟩|⟨e,z⟩ <;> lia
  rw[n] at m;have k:(d.natAbs:Int)*gd q p=(d.natAbs:Int)*1:=by lia
  exact Int.eq_of_mul_eq_mul_left (by lia) k
 ·rw[<- Int.mul_assoc,Int.mul_comm q d]
theorem we{t d:Int}(h:d≠0)(hd:d∣t):(U8 t d).natAbs<=t.natAbs:=by
 obtain⟨q,rfl⟩:=hd;rw[Q8 _ h,Int.natAbs_mul];exact Nat.le_mul_of_pos_left _ (by lia)
theorem GJ{b d:Int}(hb:b≠0)(hd:d=gd t b/\0<b\/d = - gd t b/\b<0):(U8 t d).natAbs<=t.natAbs/\(U8 b d).natAbs<=b.natAbs:=by
 have gp:=wb (a:=t) hb;have d1:gd t b∣t:=WM t b;have d2:gd t b∣b:=Wt t b;have d0:d≠0:=by rcases hd with⟨e,_⟩|⟨e,_⟩ <;> lia
 refine⟨we d0 ?_,we d0 ?_⟩
 ·rcases hd with⟨e,_⟩|⟨e,_⟩ <;> rw[e];exact d1;exact U_.mpr d1
 ·rcases hd with⟨e,_⟩|⟨e,_⟩ <;> rw[e];exact d2;exact U_.mpr d2
theorem wide{i:Int}(h:i.natAbs<10000000000000000000000000000000000000001):i.natAbs<2 ^ 9000 :=
 Nc h (by
  have:10000000000000000000000000000000000000001<=2 ^ 133:=by decide
  exact Np this (QR (by decide) (by decide)))
theorem BA{i:Int}(h:i.natAbs<2 ^ 9000):i.natAbs<2 ^ 20000:=Nc h (QR (by decide) (by decide))
end Gd
namespace Fr
open PySem L2
def BO:Sp:=fun vs H Q _=>∃a b:Int,vs=[.int a,.int b]/\Q (.int (Gd.gd a b)) H
def Fq:TS:=(ar (qu (bq (aA Bp (ac 1) (tC (.int 0))))
 (ar (aQ (aA KP (ac 0) (ac 1)) (aJ 2))
 (ar (aQ (ac 1) (aJ 0))
 (aQ (ac 2) (aJ 1)))))
 (aU (bQ KR (ag (ac 0) am))))
theorem Eg(a b:Int)(H:Hp)(D:bJ)(k:D.rt (.int (Gd.gd a b)) H):Fq D [some (.int a),some (.int b),none] H:=by
 refine BB (fun σ H'=>H'=H/\∃(i j:Int) (v:Option V),σ=[some (.int i),some (.int j),v]/\Gd.gd i j=Gd.gd a b)
  (fun σ _=>match σ with | [_,some (.int j),_]=>j.natAbs|_=>0) ⟨rfl,a,b,none,rfl,rfl⟩ ?_ ?_
 ·rintro σ H' ⟨rfl,i,j,v,rfl,e⟩;refine⟨_,rfl,rfl,_,rfl,LO (fun hj=>?_) (fun hj=>?_)⟩
  ·refine⟨_,rfl,_,rfl,_,_,rfl,rfl,hj,_,rfl,_,rfl,⟨rfl,j,i.fmod j,_,rfl,(Gd.G7 i j).trans e⟩,?_⟩;exact Gd.G8 hj
  ·subst hj;refine⟨_,rfl,_,rfl,?_⟩;rw[Gd.JJ,e];exact k
 ·rintro σ H' R R' h ⟨v,e,sc,c,ec,q⟩;exact⟨v,e,sc,c,ec,h _ _ q⟩
def HV:TS:=(ar (aQ (aW BO [] E0 (ag (ac 0) (ag (ac 1) am))) (aJ 2))
 (aU (f_ (ag (aA wO (ac 0) (ac 2)) (ag (aA wO (ac 1) (ac 2)) am)))))
def Fn:TS:=(ar (a_ (bq (aA xw (ac 1) (tC (.int 0)))) gT bc)
 (ar (a_ (bq (aA jL (ac 1) (tC (.int 0)))) (aQ (tC (.int 1)) (aJ 1)) bc) HV))
open PySem.W (Dat kqdOk)
def cellOf(ns:List Int)(k:Int):Int:=(ns[k.toNat]?).getD 0
def mH(K:Fg):Sp:=fun vs H Q _=>∃(a:Addr) (ns:List Int) (k:Int),vs=[.ref a,.int k]/\SqL K H a (ns.map V.int)/\0<=k/\Q (.int (cellOf ns k)) H
def HW(K:Fg):TS:=(ar (a_ (bq (aA xw (ac 1) (bQ (b8 K) (ag (ac 0) am))))
 (aU (aA (aZ K) (ac 0) (ac 1)))
 bc)
 (aU (tC (.int 0))))
theorem FW{K:Fg}{ns:List Int}{k:Int}{D:bJ}(hS:SqL K H a (ns.map V.int))(h0:0<=k)(q:D.rt (.int (cellOf ns k)) H):HW K D [some (.ref a),some (.int k)] H:=by
 have el:(ns.map V.int).length=ns.length:=Mv _;refine⟨_,rfl,_,rfl,a,_,rfl,.inl hS,_,_,rfl,rfl,_,rfl,JE (fun c=>?_) (fun c=>?_)⟩
 ·rw[el] at c;have hk:k.toNat<ns.length:=by lia
  have e:k=((k.toNat:Nat):Int):=by lia
  have z:cellOf ns k=ns[k.toNat]:=by
   unfold cellOf;rw[Mw hk];rfl
  have w:lG (ns.map V.int) ((k.toNat:Nat):Int)=some (.int ns[k.toNat]):=bz (by rw[ME];simp[hk]);rw[<- e] at w;rw[z] at q;exact⟨_,rfl,_,rfl,a,_,_,_,rfl,rfl,hS,w,q⟩
 ·rw[el] at c
  have z:cellOf ns k=0:=by
   unfold cellOf;rw[OX (by lia)];rfl
  rw[z] at q;exact q
def oA:Sp:=fun vs H Q _=>∃i:Int,vs=[.int i]/\Q (.bl true) H
def D_ (K:Fg):TS:=(aU (j6 (bQ (eR K) (ag (ac 0) (ag (tC (.ty "int")) am))) (BL (bQ (eR K) (ag (ac 0) (ag (tC (.ty "bool")) am))))))
theorem B8{K:Fg}{D:bJ}(q:D.rt (.bl true) H):D_ K D [some (.int i)] H :=
 ⟨_,rfl,_,_,_,_,rfl,TyOf.int i,IW,_,rfl,uO ⟨_,rfl,_,_,_,_,rfl,TyOf.int i,IX,_,rfl,q⟩⟩
end Fr
namespace Kd
open PySem L2
def fu(K:Fg)(c:V)(nm:Str):TS:=(a_ (tB (bQ (F6 K) (ag (ac 0) (ag (tC c) am))))
 (dS (j4 K "list" cE (ac 1) (ag (tC (.str nm)) am)))
 bc)
theorem KH{K:Fg}{D:bJ}(he:DZ H e C)(a:qk K C)(k:vc K C c false)(q:D.nx [some (.ref e),some (.ref l)] H) :
  fu K c nm D [some (.ref e),some (.ref l)] H:=⟨_,rfl,e,C,c,false,rfl,he,a,k,_,rfl,uP q⟩
theorem Ie{K:Fg}{D:bJ}(he:DZ H e C)(a:qk K C)(k:vc K C c true)(hl:H l=some (.lst []))(q:D.nx [some (.ref e),some (.ref l)] (upd H l (.lst [.str nm]))) :
  fu K c nm D [some (.ref e),some (.ref l)] H :=
 ⟨_,rfl,e,C,c,true,rfl,he,a,k,_,rfl,uO ⟨_,rfl,.inl ⟨rfl,_,SqL.of hl⟩,l,_,_,rfl,rfl,hl,(by show 0<sizeLine;decide),q⟩⟩
end Kd
namespace Ex0
open PySem L2 Fr Kd
structure Ad where
 V:Addr
 c0:Addr
 c1:Addr
 c2:Addr
 c3:Addr
 c4:Addr
 c5:Addr
 c6:Addr
 c7:Addr
 c8:Addr
 c9:Addr
 c10:Addr
 c11:Addr
 c12:Addr
 c13:Addr
def ya(K:Fg)(x:Ad):TS:=(ar (aQ (cz am) (aJ 1))
 (ar (fu K (.ref x.c0) "NoFraction")
 (ar (fu K (.ref x.c1) "NoStuffs")
 (ar (fu K (.ref x.c2) "NoHeap")
 (ar (fu K (.ref x.c3) "NoPace")
 (ar (fu K (.ref x.c4) "NoTurnings")
 (ar (fu K (.ref x.c5) "NoTurning")
 (ar (fu K (.ref x.c6) "NoText")
 (ar (fu K (.ref x.c7) "NotNow")
 (ar (fu K (.ref x.c8) "TooMany")
 (ar (fu K (.ref x.c9) "NoDrain")
 (ar (fu K (.ref x.c10) "NotEven")
 (ar (fu K (.ref x.c11) "NoStuff")
 (ar (fu K (.ref x.c12) "NoPieces")
 (ar (fu K (.ref x.c13) "NoDeed")
 (ar (a_ (dA (tB (bQ (F6 K) (ag (ac 0) (ag (tC (.ty "ValueError")) am)))))
 (dS (j4 K "list" cE (ac 1) (ag (tC (.str "other")) am)))
 bc)
 (aU (ac 1))))))))))))))))))
open PySem.W (mroIn clsIn typeIn findIn specialIn takesIn)
abbrev BX:List Mu:=[.type "ValueError",.type "Exception",.type "BaseException",.type "object"]
def Ad.l(x:Ad):List Addr:=[x.V,x.c0,x.c1,x.c2,x.c3,x.c4,x.c5,x.c6,x.c7,x.c8,x.c9,x.c10,x.c11,x.c12,x.c13]
def Ad.ca(x:Ad)(i:Nat):Addr:=x.l.getD (i+1) 0
def IJ (i:Nat):Str:=(["NoFraction","NoStuffs","NoHeap","NoPace","NoTurnings","NoTurning","NoText","NotNow","TooMany","NoDrain","NotEven","NoStuff","NoPieces","NoDeed"]:List Str).getD i ""
def Bk (K:Fg) (x:Ad) (C:Addr) (r:Nat):Prop:=qk K C/\(∀i,i<14->vc K C (.ref (x.ca i)) (i == r))/\vc K C (.ty "ValueError") true
theorem dW{K:Fg}{i:Nat}{H:Hp}{D:bJ}(T:Bk K x C r)(nl:H l=none)(hi:i<14)(he:DZ Hi e C)(hl:Hi l=some (.lst (if r<i then [.str (IJ r)] else [])))(S:Same H Hi)
  (q:∀Hj,DZ Hj e C->Hj l=some (.lst (if r<i+1 then [.str (IJ r)] else []))->Same H Hj->D.nx [some (.ref e),some (.ref l)] Hj):fu K (.ref (x.ca i)) (IJ i) D [some (.ref e),some (.ref l)] Hi:=by
 by_cases z:r=i
 ·subst z;rw[if_neg (Pn _)] at hl;have k:=T.2.1 r hi;rw[beq_self_eq_true] at k;obtain⟨d,he⟩:=he;have ne:e≠l:=fun y=>by rw[y,hl] at he;cases d <;> cases he
  refine Ie ⟨d,he⟩ T.1 k hl (q _ ⟨d,by rw[av ne];exact he⟩ ?_ fun b o y=>?_)
  ·rw[if_pos (by lia),ak]
  ·rw[av (aC y nl)];exact S _ _ y
 ·have k:=T.2.1 i hi;rw[show(i == r)=false from beq_false_of_ne fun y=>z y.symm] at k;refine KH he T.1 k (q Hi he ?_ S);rw[hl];by_cases y:r<i
  ·rw[if_pos y,if_pos (by lia)]
  ·rw[if_neg y,if_neg (by lia)]
theorem Cf{K:Fg}{D:bJ}(T:Bk K x C r)(hr:r<14)(he:DZ H e C)(k:∀(p:Addr) (H':Hp),Same H H'->H' p=some (.lst [.str (IJ r)])->D.rt (.ref p) H'):ya K x D [some (.ref e),none] H:=by
 refine⟨Fy,fun l nl=>?_⟩;obtain⟨d,he⟩:=he;have ne:e≠l:=aC he nl;have h1:DZ (upd H l (.lst [])) e C:=⟨d,by rw[av ne];exact he⟩
 have h2:upd H l (.lst []) l=some (.lst (if r<0 then [.str (IJ r)] else [])):=by rw[if_neg (R6 _)];exact ak
 have h3:=au nl (.lst []);generalize upd H l (.lst [])=H1 at h1 h2 h3 ⊢;refine dW (i:=0) T nl (by decide) h1 h2 h3 fun H1 h1 h2 h3=>?_
 refine dW (i:=1) T nl (by decide) h1 h2 h3 fun H1 h1 h2 h3=>?_
 refine dW (i:=2) T nl (by decide) h1 h2 h3 fun H1 h1 h2 h3=>?_
 refine dW (i:=3) T nl (by decide) h1 h2 h3 fun H1 h1 h2 h3=>?_
 refine dW (i:=4) T nl (by decide) h1 h2 h3 fun H1 h1 h2 h3=>?_
 refine dW (i:=5) T nl (by decide) h1 h2 h3 fun H1 h1 h2 h3=>?_
 refine dW (i:=6) T nl (by decide) h1 h2 h3 fun H1 h1 h2 h3=>?_
 refine dW (i:=7) T nl (by decide) h1 h2 h3 fun H1 h1 h2 h3=>?_
 refine dW (i:=8) T nl (by decide) h1 h2 h3 fun H1 h1 h2 h3=>?_
 refine dW (i:=9) T nl (by decide) h1 h2 h3 fun H1 h1 h2 h3=>?_
 refine dW (i:=10) T nl (by decide) h1 h2 h3 fun H1 h1 h2 h3=>?_
 refine dW (i:=11) T nl (by decide) h1 h2 h3 fun H1 h1 h2 h3=>?_
 refine dW (i:=12) T nl (by decide) h1 h2 h3 fun H1 h1 h2 h3=>?_
 refine dW (i:=13) T nl (by decide) h1 h2 h3 fun H1 h1 h2 h3=>?_
 rw[if_pos hr] at h2;refine⟨_,rfl,e,C,_,true,rfl,h1,T.1,T.2.2,_,rfl,uP ?_⟩;exact⟨_,rfl,k l H1 h3 h2⟩
theorem vQ{K:Fg}{V:Addr}{d:Qz}(c:clsIn K q=some d)(m:d.mro=[.ref q,.ref V]++BX)(t:Mu):mroIn K q t=some (([MX q,.ref V]++BX).contains t):=by
 unfold mroIn;rw[c];show(if d.mro.isEmpty then none else some (d.mro.contains t))=_;rw[m];rfl
theorem wW{K:Fg}{V:Addr}{d:Qz}(c:clsIn K q=some d)(m:d.mro=[.ref q,.ref V]++BX):mroIn K q (.ref V)=some true:=by
 rw[vQ c m];exact congrArg some (OY.mpr (by simp))
theorem rK{K:Fg}{V:Addr}{d:Qz}(c:clsIn K q=some d)(m:d.mro=[.ref q,.ref V]++BX)(h:BX.contains t=true):mroIn K q t=some true:=by
 rw[vQ c m];exact congrArg some (OY.mpr (M5 _ (OY.mp h)))
theorem Ky{K:Fg} {x:Ad} {n0 n1 n2 n3 n4 n5 n6 n7 n8 n9 n10 n11 n12 n13:Str} {d0 d1 d2 d3 d4 d5 d6 d7 d8 d9 d10 d11 d12 d13:Qz} (h:HJ K [(n0,x.c0,d0),(n1,x.c1,d1),(n2,x.c2,d2),(n3,x.c3,d3),(n4,x.c4,d4),(n5,x.c5,d5),(n6,x.c6,d6),(n7,x.c7,d7),(n8,x.c8,d8),(n9,x.c9,d9),(n10,x.c10,d10),(n11,x.c11,d11),(n12,x.c12,d12),(n13,x.c13,d13)]):∀i,i<14->typeIn K (.ref (x.ca i))=some (.type "type")/\∃cd,clsIn K (x.ca i)=some cd:=by
 obtain⟨c0,c1,c2,c3,c4,c5,c6,c7,c8,c9,c10,c11,c12,c13,_⟩:=h
 exact fun i hi=>match i,hi with
  |0,_=>⟨c0.2.1,_,c0.2.2⟩
  |1,_=>⟨c1.2.1,_,c1.2.2⟩
  |2,_=>⟨c2.2.1,_,c2.2.2⟩
  |3,_=>⟨c3.2.1,_,c3.2.2⟩
  |4,_=>⟨c4.2.1,_,c4.2.2⟩
  |5,_=>⟨c5.2.1,_,c5.2.2⟩
  |6,_=>⟨c6.2.1,_,c6.2.2⟩
  |7,_=>⟨c7.2.1,_,c7.2.2⟩
  |8,_=>⟨c8.2.1,_,c8.2.2⟩
  |9,_=>⟨c9.2.1,_,c9.2.2⟩
  |10,_=>⟨c10.2.1,_,c10.2.2⟩
  |11,_=>⟨c11.2.1,_,c11.2.2⟩
  |12,_=>⟨c12.2.1,_,c12.2.2⟩
  |13,_=>⟨c13.2.1,_,c13.2.2⟩
theorem GO{K:Fg} {x:Ad} {r:Nat} {d:Qz} (tc:∀i,i<14->typeIn K (.ref (x.ca i))=some (.type "type")/\∃cd,clsIn K (x.ca i)=some cd) (nd:x.l.Nodup) (hr:r<14) (c:clsIn K (x.ca r)=some d) (m:d.mro=[MX (x.ca r),.ref x.V]++BX) (f:Kh K (x.ca r))
  (gt:specialIn K (.builtin "object.__class__") "__get__"=some (some (.builtin "getset_descriptor.__get__"))) (tk:takesIn K (.builtin "object.__class__")=some true):Bk K x (x.ca r) r:=by
 have atl:∀i,i<14->x.l[i+1]?=some (x.ca i):=fun i hi=>by
  have h:i+1<x.l.length:=by show i+1<15;lia
  unfold Ad.ca;rw[Op,Mw h];rfl
 refine⟨⟨f.1,f.2.1,f.2.2,gt,tk,rK c m (by decide +kernel),rK c m (by decide +kernel)⟩,fun i hi=>?_,GM (rK c m (by decide +kernel)) (by decide +kernel)⟩;obtain⟨ti,cd,ci⟩:=tc i hi;refine GN ?_ ?_ ti ci
 ·rw[vQ c m];refine congrArg some ?_;by_cases z:i=r
  ·subst z;rw[beq_self_eq_true];exact OY.mpr MM
  ·rw[beq_false_of_ne z];refine QF.mpr fun y=>?_
   rcases MD.mp (OY.mp y) with y|y
   ·injection y with y
    have e:=(Wu (show i+1<x.l.length by show i+1<15;lia) nd).mp ((atl i hi).trans ((congrArg some y).trans (atl r hr).symm));lia
   rcases MD.mp y with y|y
   ·injection y with y
    have e:=(Wu (show i+1<x.l.length by show i+1<15;lia) nd).mp ((atl i hi).trans (congrArg some y):x.l[i+1]? = x.l[0]?);lia
   ·simp at y
 ·rw[vQ c m];exact congrArg some (OY.mpr MM)
end Ex0
namespace L2
open PySem PySem.SetTable
def L8(m:Nat):NX:={mask:=m,place:=#[],dummies:=#[],finger:=0,led:=true,moves:=0,plain:=true}
def ql(m:Nat)(p:Probe):Probe:=(L8 m).advance p
def st(m:Nat)(h:Int):Probe:=(L8 m).probeStart h
def cN(m:Nat):Nat->Probe->Probe
 |0,p=>p
 |n+1,p=>cN m n (ql m p)
theorem eE(m:Nat):∀(a b:Nat) (p:Probe),cN m (a+b) p=cN m b (cN m a p)
 |0,b,p=>by rw[Sb];rfl
 |a+1,b,p=>by rw[show a+1+b=(a+b)+1 by lia];exact eE m a b (ql m p)
theorem Bz(m n:Nat)(p:Probe):cN m (n+1) p=ql m (cN m n p):=by rw[eE m n 1 p];rfl
theorem sI(m:Nat)(p:Probe):(ql m p).dummy=p.dummy:=by unfold ql Q1;split <;> rfl
theorem qm(m:Nat):∀(n:Nat) (p:Probe),(cN m n p).dummy=p.dummy
 |0,_=>rfl
 |n+1,p=>by rw[cN,qm m n,sI]
theorem qR(m i:Nat):runEnd m i-i<=9:=by unfold runEnd;split <;> lia
theorem DT{p:Probe}(h:p.more<=9):(ql m p).more<=9:=by
 unfold ql Q1;split
 ·show p.more-1<=9;lia
 ·exact qR _ _
theorem nL(m:Nat):∀(n:Nat) {p:Probe},p.more<=9->(cN m n p).more<=9
 |0,_,h=>h
 |n+1,_,h=>nL m n (DT h)
theorem yi(m:Nat)(h:Int):(st m h).more<=9:=qR _ _
def lp(m:Nat)(x:Nat×Nat):Nat×Nat:=leap m x.1 x.2
def iX(m:Nat):Nat->Nat×Nat->Nat×Nat
 |0,x=>x
 |n+1,x=>iX m n (lp m x)
theorem fO{p:Probe}(h:0<p.more):ql m p = {p with j:=p.j+1,more:=p.more-1}:=by unfold ql Q1;rw[if_pos h]
theorem cM{p:Probe}(h:p.more=0):ql m p = {p with j:=(lp m (p.i,p.perturb)).1,more:=runEnd m (lp m (p.i,p.perturb)).1-(lp m (p.i,p.perturb)).1,i:=(lp m (p.i,p.perturb)).1,perturb:=(lp m (p.i,p.perturb)).2}:=by
 unfold ql Q1;rw[if_neg (by lia)];rfl
theorem sU(m:Nat):∀(r:Nat) (p:Probe),p.more=r->∃q,cN m (r+1) p=q/\q.j=(lp m (p.i,p.perturb)).1/\q.i=(lp m (p.i,p.perturb)).1/\q.perturb=(lp m (p.i,p.perturb)).2
 |0,p,h=>⟨_,rfl,by rw[cN,cN,cM h],by rw[cN,cN,cM h],by rw[cN,cN,cM h]⟩
 |r+1,p,h=>by
  have e:cN m (r+1+1) p=cN m (r+1) {p with j:=p.j+1,more:=p.more-1}:=by rw[cN,fO (by lia)]
  obtain⟨q,h1,h2,h3,h4⟩:=sU m r {p with j:=p.j+1,more:=p.more-1} (by show p.more-1=r;lia);exact⟨q,e.trans h1,h2,h3,h4⟩
theorem vv(m:Nat):∀(k:Nat) (p:Probe),p.more<=9->∃n,n<=10*(k+1)/\(cN m n p).j=(iX m (k+1) (p.i,p.perturb)).1/\(cN m n p).i=(iX m (k+1) (p.i,p.perturb)).1/\(cN m n p).perturb=(iX m (k+1) (p.i,p.perturb)).2
 |0,p,h=>by
  obtain⟨q,h1,h2,h3,h4⟩:=sU m p.more p rfl;exact⟨p.more+1,by lia,by rw[h1];exact h2,by rw[h1];exact h3,by rw[h1];exact h4⟩
 |k+1,p,h=>by
  obtain⟨q,h1,h2,h3,h4⟩:=sU m p.more p rfl;have hq:q.more<=9:=h1 ▸ nL m _ h;obtain⟨n,g1,g2,g3,g4⟩:=vv m k q hq;have e:iX m (k+1) (q.i,q.perturb)=iX m (k+1+1) (p.i,p.perturb):=by rw[h3,h4];rfl
  rw[e] at g2 g3 g4;exact⟨p.more+1+n,by lia,by rw[eE,h1];exact g2,by rw[eE,h1];exact g3,by rw[eE,h1];exact g4⟩
theorem uH(m:Nat):∀(a b:Nat) (x:Nat×Nat),iX m (a+b) x=iX m b (iX m a x)
 |0,b,x=>by rw[Sb];rfl
 |a+1,b,x=>by rw[show a+1+b=(a+b)+1 by lia];exact uH m a b (lp m x)
theorem gE(m:Nat):∀(a:Nat) (x:Nat×Nat),(iX m a x).2=x.2 / 32 ^ a
 |0,x=>by simp[iX]
 |a+1,x=>by
  rw[iX,gE m a];show x.2 / 32 / 32 ^ a=x.2 / 32 ^ (a+1);rw[Nat.div_div_eq_div_mul,Nat.pow_succ,Nat.mul_comm]
theorem zU(m:Nat):∀(a:Nat) (x:Nat×Nat),(iX m (a+1) x).1<m+1
 |0,x=>V2 _ (Ug _)
 |a+1,x=>zU m a (lp m x)
def lc(m:Nat):Nat->Nat->Nat
 |0,i=>i
 |n+1,i=>lc m n ((i*5+1) % (m+1))
theorem pG(m:Nat):∀(a i:Nat),(iX m a (i,0)).1=lc m a i
 |0,_=>rfl
 |a+1,i=>by
  have e:lp m (i,0)=((i*5+1) % (m+1),0):=by unfold lp leap;simp
  rw[iX,e,pG m a];rfl
def jE(m:Nat):Prop:=∀i,i<m+1->∀j,j<m+1->∃k,k<m+1/\lc m k i=j
def LR(m:Nat):Bool:=(N7 (m+1)).all fun i=>(N7 (m+1)).all fun j=>(N7 (m+1)).any fun k=>lc m k i == j
theorem AJ(h:LR m=true):jE m:=by
 intro i hi j hj;have h1:=NK.mp h i (O9.mpr hi);have h2:=NK.mp h1 j (O9.mpr hj);obtain⟨k,h3,h4⟩:=TD.mp h2;exact⟨k,O9.mp h3,by simpa using h4⟩
theorem LS:jE 7:=AJ (by decide +kernel)
theorem JL:jE 31:=AJ (by decide +kernel)
theorem JH(F:jE m){p:Probe}(h1:p.more<=9)(h2:p.perturb<2 ^ 64){j:Nat}(hj:j<m+1):∃n,n<10*turns m/\(cN m n p).j=j:=by
 obtain⟨k,hk,ek⟩:=F (iX m 13 (p.i,p.perturb)).1 (zU m 12 _) j hj
 have z:(iX m 13 (p.i,p.perturb)).2=0:=by
  rw[gE];exact WN (Nc h2 (by decide))
 have e:(iX m (12+k+1) (p.i,p.perturb)).1=j:=by
  rw[show 12+k+1=13+k by lia,uH];have e2:iX m 13 (p.i,p.perturb)=((iX m 13 (p.i,p.perturb)).1,0):=Qp rfl z;rw[e2,pG];exact ek
 obtain⟨n,g1,g2,_⟩:=vv m (12+k) p h1;exact⟨n,by unfold turns;lia,g2.trans e⟩
theorem Ho(h:Int):bits h<2 ^ 64:=by unfold bits;lia
theorem iE(m:Nat)(h:Int):(st m h).perturb<2 ^ 64:=Ho h
theorem u_{p:Probe}(h:p.perturb<2 ^ 64):(ql m p).perturb<2 ^ 64:=by
 unfold ql Q1;split
 ·exact h
 ·show p.perturb / 32<2 ^ 64;lia
theorem jQ(m:Nat):∀(n:Nat) {p:Probe},p.perturb<2 ^ 64->(cN m n p).perturb<2 ^ 64
 |0,_,h=>h
 |n+1,_,h=>jQ m n (u_ h)
theorem vI{t:NX} (hd : ∀ j, t.slot j ≠ .dummy) (hashAt:Nat->Int) (h:Int) : ∀ (fuel:Nat) (p:Probe), (∃ n, n<fuel/\t.slot (cN t.mask n p).j=.empty) ->
    ∃ n, n<fuel/\(∀ k, k<n -> ∃ i, t.slot (cN t.mask k p).j=.live i/\hashAt i≠h) /\
      ((t.slot (cN t.mask n p).j=.empty/\Pd t hashAt h fuel p=some (.empty (cN t.mask n p).j p.dummy)) \/
       (∃ i, t.slot (cN t.mask n p).j=.live i/\hashAt i=h/\Pd t hashAt h fuel p=some (.candidate (cN t.mask n p).j i (cN t.mask (n + 1) p))))
  |0, _, ⟨_, h0, _⟩ => absurd h0 (by lia)
  |fuel + 1, p, ⟨n, h0, h1⟩ => by
    cases hs:t.slot p.j with
    |empty => exact⟨0, by lia, fun k hk => absurd hk (by lia), .inl ⟨hs, by rw[Pd, hs]; rfl⟩⟩
    |dummy => exact absurd hs (hd _)
    |live i =>
      by_cases e:hashAt i=h
      · refine⟨0, by lia, fun k hk => absurd hk (by lia), .inr ⟨i, hs, e, ?_⟩⟩
        rw[Pd, hs];show(if hashAt i == h then _ else _)=_;rw[if_pos (by simpa using e)]; rfl
      · have hn : ∃ n, n<fuel/\t.slot (cN t.mask n (ql t.mask p)).j=.empty := by
          cases n with
          |zero => rw[cN, hs] at h1; exact absurd h1 (by simp)
          |succ n => exact⟨n, by lia, h1⟩
        obtain⟨n', g0, g1, g2⟩ := vI hd hashAt h fuel (ql t.mask p) hn
        have ego:Pd t hashAt h (fuel + 1) p=Pd t hashAt h fuel (ql t.mask p) := by
          rw[Pd, hs];show(if hashAt i == h then _ else _)=_;rw[if_neg (by simpa using e)]; rfl
        refine⟨n' + 1, by lia, ?_, ?_⟩
        · intro k hk
          cases k with
          |zero => exact⟨i, hs, e⟩
          |succ k => exact g1 k (by lia)
        · rw[ego]
          rcases g2 with⟨a, b⟩|⟨i', a, b, c⟩
          · exact .inl ⟨a, by rw[b, sI]; rfl⟩
          · exact .inr ⟨i', a, b, c⟩
theorem vS(m:Nat):∀(a b i:Nat),lc m (a+b) i=lc m b (lc m a i)
 |0,b,i=>by rw[Sb];rfl
 |a+1,b,i=>by rw[show a+1+b=(a+b)+1 by lia];exact vS m a b _
theorem qg(xs:Array Nat)(j:Nat)(hs:∀a b,a<b->b<xs.size->xs.getD a j<xs.getD b j):∀(fuel lo hi:Nat),lo<=hi->hi<=xs.size->hi-lo<=fuel->(∀k,k<lo->xs.getD k j<j)->(∀k,hi<=k->k<xs.size->¬ xs.getD k j<j) ->
  lo<=below.go xs j fuel lo hi/\below.go xs j fuel lo hi<=xs.size/\(∀k,k<below.go xs j fuel lo hi->xs.getD k j<j)/\(∀k,below.go xs j fuel lo hi<=k->k<xs.size->¬ xs.getD k j<j)
 |0,lo,hi,h1,h2,h3,h4,h5=>by
  have:lo=hi:=by lia
  subst this;exact⟨MB _,h2,h4,h5⟩
 |fuel+1,lo,hi,h1,h2,h3,h4,h5=>by
  unfold below.go;by_cases hl:lo<hi
  ·rw[if_pos hl];show lo<=(if xs.getD ((lo+hi) / 2) j<j then _ else _)/\_;by_cases hm:xs.getD ((lo+hi) / 2) j<j
   ·rw[if_pos hm]
    have:=qg xs j hs fuel ((lo+hi) / 2+1) hi (by lia) h2 (by lia) (fun k hk=>by
     rcases OI k ((lo+hi) / 2) with g|g
     ·exact MJ (hs k _ g (by lia)) hm
     ·have:k=(lo+hi) / 2:=by lia
      rw[this];exact hm) h5
    exact⟨by lia,this.2⟩
   ·rw[if_neg hm]
    exact qg xs j hs fuel lo ((lo+hi) / 2) (by lia) (by lia) (by lia) h4 (fun k h6 h7 h8=>by
     rcases OI ((lo+hi) / 2) k with g|g
     ·exact hm (MJ (hs _ k g h7) h8)
     ·have:k=(lo+hi) / 2:=by lia
      rw[this] at h8;exact hm h8)
  ·rw[if_neg hl]
   have:lo=hi:=by lia
   subst this;exact⟨MB _,h2,h4,h5⟩
def xm(l:List Nat):Prop:=l.Pairwise (· < ·)
theorem BN(h:xm l)(d:Nat):∀a b,a<b->b<l.toArray.size->l.toArray.getD a d<l.toArray.getD b d:=by
 intro a b h1 h2;have h3:b<l.length:=by simpa using h2
 have:=Ow.mp h a b (by lia) h3 h1
 simpa[SG,h3,show a<l.length by lia] using this
theorem i5(h:xm l)(j:Nat):below l.toArray j<=l.length/\(∀k x,k<below l.toArray j->l[k]?=some x->x<j)/\(∀k x,below l.toArray j<=k->l[k]?=some x->j<=x):=by
 have:=qg l.toArray j (BN h j) l.toArray.size 0 l.toArray.size (by lia) (MB _) (by lia) (fun k hk=>absurd hk (by lia)) (fun k h1 h2=>absurd h2 (by lia))
 obtain⟨_,h2,h3,h4⟩:=this
 have gd:∀k x,l[k]?=some x->k<l.length/\l.toArray.getD k j=x:=by
  intro k x hx;obtain⟨hk,e⟩:=My.mp hx;exact⟨hk,by simp[SG,hk,e]⟩
 refine⟨by unfold below;simpa using h2,?_,?_⟩
 ·intro k x hk hx
  have:=h3 k hk
  rw[(gd k x hx).2] at this;exact this
 ·intro k x hk hx
  have:=h4 k hk (by simpa using(gd k x hx).1)
  rw[(gd k x hx).2] at this;lia
theorem fN(h:xm l){j i:Nat}(hi:l[i]?=some j):below l.toArray j=i:=by
 obtain⟨h1,h2,h3⟩:=i5 h j;rcases PZ i (below l.toArray j) with g|g|g
 ·exact absurd (h2 i j g hi) (by lia)
 ·exact g.symm
 ·obtain⟨hk,e⟩:=My.mp hi;have hb:below l.toArray j<l.length:=by lia
  have h4:=h3 (below l.toArray j) _ (MB _) (Mw hb);have h5:=Ow.mp h (below l.toArray j) i hb hk g;lia
theorem Ft(h:xm l){j:Nat}(hj:j∉l):xm (l.take (below l.toArray j)++j :: l.drop (below l.toArray j)):=by
 obtain⟨h1,h2,h3⟩:=i5 h j
 have ht:∀x∈l.take (below l.toArray j),x<j:=by
  intro x hx;obtain⟨k,hk,e⟩:=List.mem_take_iff_getElem.mp hx;exact h2 k x (by lia) (by rw[<- e];exact Mw _)
 have hd:∀x∈l.drop (below l.toArray j),j<x:=by
  intro x hx;obtain⟨k,hk,e⟩:=List.mem_drop_iff_getElem.mp hx
  have:=h3 (below l.toArray j+k) x (by lia) (by rw[<- e];exact Mw _)
  have ZA:x≠j:=fun e2=>hj (e2 ▸ RV hx)
  lia
 unfold xm;rw[List.pairwise_append];refine⟨UC (SV _ _) h,?_,?_⟩
 ·rw[Ri];exact⟨hd,UC (Wv _ _) h⟩
 ·intro a ha b hb;rcases MD.mp hb with rfl|hb
  ·exact ht a ha
  ·exact MJ (ht a ha) (hd b hb)
theorem h_{α:Type}(l:List α)(p:Nat)(x:α)(_hp:p<=l.length):insertAt l.toArray p x=(l.take p++x :: l.drop p).toArray:=by
 unfold insertAt;apply Array.ext';simp[List.extract_eq_take_drop];rw[MV (by simp)]
theorem fy{t:NX}{l:List Nat}(hp:t.place=l.toArray)(hs:xm l){i j:Nat}(h:l[i]?=some j):t.slot j=.live i:=by
 unfold Xw;rw[hp];show(if l.toArray[below l.toArray j]? == some j then _ else _)=_;rw[fN hs h,if_pos (by simpa using h)]
theorem iJ{t:NX}{l:List Nat}(hp:t.place=l.toArray)(hd:t.dummies = #[]){j:Nat}(h:j∉l):t.slot j=.empty:=by
 unfold Xw;rw[hp,hd];show(if l.toArray[below l.toArray j]? == some j then _ else _)=_;rw[if_neg,if_neg]
 ·simp[has,below,below.go]
 ·intro e;exact h (MH (by simpa using e))
theorem i8{t:NX}{l:List Nat}(hp:t.place=l.toArray)(hd:t.dummies = #[])(hs:xm l)(h:t.slot j=.live i):l[i]?=some j:=by
 by_cases hj:j∈l
 ·obtain⟨i',hi⟩:=OZ.mp hj;rw[fy hp hs hi] at h;cases h;exact hi
 ·rw[iJ hp hd hj] at h;cases h
theorem lT{t:NX}{l:List Nat}(hp:t.place=l.toArray)(hd:t.dummies = #[])(hs:xm l)(j:Nat):t.slot j≠.dummy:=by
 by_cases hj:j∈l
 ·obtain⟨i',hi⟩:=OZ.mp hj;rw[fy hp hs hi];simp
 ·rw[iJ hp hd hj];simp
theorem oQ{t:NX}{l:List Nat}(hp:t.place=l.toArray)(hs:xm l)(h:t.slot j=.empty):j∉l:=by
 intro hj;obtain⟨i',hi⟩:=OZ.mp hj;rw[fy hp hs hi] at h;cases h
theorem J6{m:Nat}{p:Probe}(h:p.j+p.more<=m):(ql m p).j+(ql m p).more<=m:=by
 by_cases g:0<p.more
 ·rw[fO g];show p.j+1+(p.more-1)<=m;lia
 ·rw[cM (by lia)];have hl:(lp m (p.i,p.perturb)).1<m+1:=V2 _ (Ug _);show(lp m (p.i,p.perturb)).1+(runEnd m (lp m (p.i,p.perturb)).1-(lp m (p.i,p.perturb)).1)<=m;unfold runEnd;split <;> lia
theorem D6(m:Nat):∀(n:Nat) {p:Probe},p.j+p.more<=m->(cN m n p).j+(cN m n p).more<=m
 |0,_,h=>h
 |n+1,_,h=>D6 m n (J6 h)
theorem HX(m:Nat)(h:Int):(st m h).j+(st m h).more<=m:=by
 have hl:bits h % (m+1)<m+1:=V2 _ (Ug _);show bits h % (m+1)+(runEnd m (bits h % (m+1))-bits h % (m+1))<=m;unfold runEnd;split <;> lia
def at_(m:Nat)(h:Int)(n:Nat):Nat:=(cN m n (st m h)).j
theorem J5(m:Nat)(h:Int)(n:Nat):at_ m h n<=m:=by have:=D6 m n (HX m h);unfold at_;lia
structure Lain (t:NX) (l:List Nat) (hs:List Int):Prop where
 full:jE t.mask
 place:t.place=l.toArray
 nodum:t.dummies = #[]
 size:l.length=hs.length
 srt:xm l
 le:∀j∈l,j<=t.mask
 fill:l.length<=t.mask
 met:∀(i j:Nat) (h:Int),l[i]?=some j->hs[i]?=some h->∃n,at_ t.mask h n=j/\∀k,k<n->at_ t.mask h k∈l
theorem qT:∀(n:Nat) (l:List Nat),(∀j,j<n->j∈l)->n<=l.length
 |0,_,_=>NH _
 |n+1,l,h=>by
  have h1:=qT n (l.erase n) (fun j hj=>(Va (by lia)).mpr (h j (by lia)));have h2:=h n (by lia);rw[Tj h2] at h1;have h3:=Uh h2;lia
theorem qD{l:List Nat}{m:Nat}(h:l.length<=m):∃j,j<m+1/\j∉l:=by
 by_cases hx:∃j,j<m+1/\j∉l
 ·exact hx
 ·exfalso;have Yz:∀j,j<m+1->j∈l:=fun j hj=>Q3 fun hn=>hx ⟨j,hj,hn⟩
  have:=qT (m+1) l Yz
  lia
theorem Lain.search{t:NX}   (L:Lain t l hs) (hashAt:Nat->Int) (ha : ∀ (i:Nat) (h:Int), hs[i]?=some h->hashAt i=h) (h:Int) (n0:Nat) :
    ∃ n, n0<=n/\(∀ k, n0<=k->k<n -> ∃ i:Nat, l[i]?=some (at_ t.mask h k)/\hs[i]? ≠ some h) /\
      ((at_ t.mask h n ∉ l/\t.probe hashAt h (cN t.mask n0 (st t.mask h))=some (.empty (at_ t.mask h n) none)) \/
       (∃ i:Nat, l[i]?=some (at_ t.mask h n)/\hs[i]?=some h/\t.probe hashAt h (cN t.mask n0 (st t.mask h))=some (.candidate (at_ t.mask h n) i (cN t.mask (n + 1) (st t.mask h))))) := by
  obtain⟨j, hj, hjl⟩ := qD L.fill;obtain⟨nf, hf, ef⟩ := JH L.full (p := cN t.mask n0 (st t.mask h)) (nL _ _ (yi _ _)) (jQ _ _ (iE _ _)) hj;obtain⟨n, _, h1, h2⟩ := vI (t := t) (lT L.place L.nodum L.srt) hashAt h (10 * turns t.mask) (cN t.mask n0 (st t.mask h)) ⟨nf, hf, by rw[ef]; exact iJ L.place L.nodum hjl⟩;have ew : ∀ k, (cN t.mask k (cN t.mask n0 (st t.mask h))).j=at_ t.mask h (n0 + k) := fun k => by unfold at_; rw[eE]
  refine⟨n0 + n, by lia, ?_, ?_⟩
  · intro k hk1 hk2
    obtain⟨i, g1, g2⟩ := h1 (k-n0) (by lia);rw[ew, show n0 + (k-n0)=k by lia] at g1;exact⟨i, i8 L.place L.nodum L.srt g1, fun e => g2 (ha i h e)⟩
  · rcases h2 with⟨a, b⟩|⟨i, a, b, c⟩
    · rw[ew] at a b
      exact .inl ⟨oQ L.place L.srt a, by rw[Xn, b, qm]; rfl⟩
    · rw[ew] at a c
      have hi := i8 L.place L.nodum L.srt a;refine .inr ⟨i, hi, ?_, ?_⟩
      · have X6:i<hs.length := by rw[<- L.size]; exact(My.mp hi).1
        have e := ha i _ (Mw X6);rw[Mw X6, <- e, b]
      · rw[Xn, c, <- eE, show n0 + (n + 1)=n0 + n + 1 by lia]
theorem Lain.ahead{t:NX}(L:Lain t l hs)(hn:at_ t.mask h n∉l){i:Nat}(hi:hs[i]?=some h):∃k,k<n/\l[i]?=some (at_ t.mask h k):=by
 have X6:i<l.length:=by rw[L.size];exact(My.mp hi).1
 obtain⟨k,h1,h2⟩:=L.met i _ h (Mw X6) hi;refine⟨k,?_,by rw[h1];exact Mw X6⟩;rcases PZ k n with g|g|g
 ·exact g
 ·subst g;exact absurd (h1 ▸ Qf X6) hn
 ·exact absurd (h2 n g) hn
theorem kJ{α:Type}{l:List α}{x y:α}:y∈l.take p++x :: l.drop p↔y=x\/y∈l:=by
 rw[Ni,MD];constructor
 ·rintro(h|h|h)
  ·exact .inr (Vb h)
  ·exact .inl h
  ·exact .inr (RV h)
 ·rintro(h|h)
  ·exact .inr (.inl h)
  ·rw[<- List.take_append_drop p l,Ni] at h;rcases h with h|h
   ·exact .inl h
   ·exact .inr (.inr h)
theorem wa{α:Type}{l:List α}{p:Nat}(hp:p<=l.length)(x:α)(i:Nat):(l.take p++x :: l.drop p)[i]? = if i<p then l[i]? else if i=p then some x else l[i-1]?:=by
 have ht:(l.take p).length=p:=by rw[Ng];lia
 by_cases h1:i<p
 ·rw[if_pos h1,Nu (by lia),List.getElem?_take,if_pos h1]
 ·rw[if_neg h1,Nr (by lia),ht];by_cases h2:i=p
  ·rw[if_pos h2,h2,Ui];rfl
  ·rw[if_neg h2,show i-p=(i-p-1)+1 by lia,Ro,SH];congr 1;lia
theorem Lain.put{t:NX}(L:Lain t l hs)(hn:at_ t.mask h n∉l)(hk:∀k,k<n->at_ t.mask h k∈l)(hm:l.length+1<=t.mask) :
  ∃p,p<=l.length/\(t.put (at_ t.mask h n)).2=p/\Lain (t.put (at_ t.mask h n)).1 (l.take p++at_ t.mask h n :: l.drop p) (hs.take p++h :: hs.drop p)/\(t.put (at_ t.mask h n)).1.mask=t.mask/\(t.put (at_ t.mask h n)).1.led=t.led/\(t.put (at_ t.mask h n)).1.plain=t.plain/\(t.put (at_ t.mask h n)).1.moves=t.moves:=by
 have hb:=(i5 L.srt (at_ t.mask h n)).1;have hp2:(t.put (at_ t.mask h n)).2=below l.toArray (at_ t.mask h n):=by unfold NX.put;rw[L.place]
 have hp1:(t.put (at_ t.mask h n)).1 = {t with place:=(l.take (below l.toArray (at_ t.mask h n))++at_ t.mask h n :: l.drop (below l.toArray (at_ t.mask h n))).toArray}:=by
  unfold NX.put;show({t with place:=_,dummies:=_}:NX)=_;rw[L.place,L.nodum,h_ _ _ _ hb,if_neg (by simp[has,below,below.go])]
 refine⟨below l.toArray (at_ t.mask h n),hb,hp2,?_,by rw[hp1],by rw[hp1],by rw[hp1],by rw[hp1]⟩;rw[hp1];have hbh:below l.toArray (at_ t.mask h n)<=hs.length:=by rw[<- L.size];exact hb
 refine⟨L.full,rfl,L.nodum,?_,Ft L.srt hn,?_,?_,?_⟩
 ·simp only[M3,Nl,Ng,Oe,L.size]
 ·intro j hj;rcases kJ.mp hj with rfl|hj
  ·exact J5 _ _ _
  ·exact L.le j hj
 ·simp only[M3,Nl,Ng,Oe];show _<=t.mask;lia
 ·intro i j h' hi hj;rw[wa hb] at hi;rw[wa hbh] at hj;by_cases g1:i<below l.toArray (at_ t.mask h n)
  ·rw[if_pos g1] at hi hj;obtain⟨m,h1,h2⟩:=L.met i j h' hi hj;exact⟨m,h1,fun k hk=>kJ.mpr (.inr (h2 k hk))⟩
  ·rw[if_neg g1] at hi hj;by_cases g2:i=below l.toArray (at_ t.mask h n)
   ·rw[if_pos g2] at hi hj;cases hi;cases hj;exact⟨n,rfl,fun k ZL=>kJ.mpr (.inr (hk k ZL))⟩
   ·rw[if_neg g2] at hi hj;obtain⟨m,h1,h2⟩:=L.met (i-1) j h' hi hj;exact⟨m,h1,fun k hk=>kJ.mpr (.inr (h2 k hk))⟩
theorem Lain.plain{t:NX}(L:Lain t l hs)(b:Bool):Lain {t with plain:=b} l hs:=⟨L.full,L.place,L.nodum,L.size,L.srt,L.le,L.fill,L.met⟩
theorem Lain.fresh(f m:Nat)(b:Bool):Lain (.fresh f m b) [] []:=⟨LS,rfl,rfl,rfl,Wl,fun j h=>absurd h (by simp),NH _,fun i j h hi=>absurd hi (by simp)⟩
theorem vD(m:Nat):∀(k:Nat) (p:Probe),k<=p.more->(cN m k p).j=p.j+k/\(cN m k p).more=p.more-k/\(cN m k p).i=p.i/\(cN m k p).perturb=p.perturb
 |0,p,_=>⟨rfl,rfl,rfl,rfl⟩
 |k+1,p,h=>by
  rw[cN,fO (by lia)];obtain⟨h1,h2,h3,h4⟩:=vD m k {p with j:=p.j+1,more:=p.more-1} (by show k<=p.more-1;lia);refine⟨h1.trans ?_,h2.trans ?_,h3,h4⟩
  ·show p.j+1+k=p.j+(k+1);lia
  ·show p.more-1-k=p.more-(k+1);lia
theorem AK(m:Nat)(owner:Array (Option Nat))(ho:owner.size=m+1):∀(fuel:Nat) (p:Probe),p.j=p.i->p.more=runEnd m p.i-p.i->p.j+p.more<=m ->
  (∃a,a<fuel/\owner[(iX m a (p.i,p.perturb)).1]?=some none) ->
  ∃n,layClean.free m owner fuel p.i p.perturb=some (cN m n p).j/\owner[(cN m n p).j]?=some none/\∀k,k<n->∃w,owner[(cN m k p).j]?=some (some w)
 |0,_,_,_,_,⟨_,h,_⟩=>absurd h (by lia)
 |fuel+1,p,hj,hmore,hle,⟨a,ha,hf⟩=>by
  have hlen:runEnd m p.i+1-p.i=p.more+1:=by rw[hmore];unfold runEnd;split <;> lia
  unfold layClean.free;rw[hlen]
  have Zp:∀k,k<=p.more->∃w,owner[(cN m k p).j]?=some w/\owner.getD (p.i+k) (some 0)=w:=by
   intro k hk;obtain⟨e1,_⟩:=vD m k p hk;have X6:p.i+k<owner.size:=by rw[ho];lia
   refine⟨owner[p.i+k],?_,?_⟩
   ·rw[e1,hj];exact NO X6
   ·simp[SG,X6]
  cases hfd:(N7 (p.more+1)).find? (fun k=>(owner.getD (p.i+k) (some 0)).isNone) with
  |some k =>
   rw[List.find?_range_eq_some] at hfd;obtain⟨h1,h2,h3⟩:=hfd;have hk:k<=p.more:=by have:=O9.mp h2;lia
   refine⟨k,?_,?_,?_⟩
   ·obtain⟨e1,_⟩:=vD m k p hk;show some (p.i+k)=_;rw[e1,hj]
   ·obtain⟨w,g1,g2⟩:=Zp k hk;rw[g1];rw[g2] at h1;cases w with
    |none=>rfl
    |some w=>cases h1
   ·intro k' ZL;obtain⟨w,g1,g2⟩:=Zp k' (by lia)
    have:=h3 k' ZL
    rw[g2] at this;cases w with
    |none=>simp at this
    |some w=>exact⟨w,g1⟩
  |none =>
   rw[List.find?_eq_none] at hfd
   have Yz:∀k,k<=p.more->∃w,owner[(cN m k p).j]?=some (some w):=by
    intro k hk;obtain⟨w,g1,g2⟩:=Zp k hk
    have:=hfd k (O9.mpr (by lia))
    rw[g2] at this;cases w with
    |none=>simp at this
    |some w=>exact⟨w,g1⟩
   have hq:∃q,cN m (p.more+1) p=q/\q.i=(lp m (p.i,p.perturb)).1/\q.perturb=(lp m (p.i,p.perturb)).2/\q.j=q.i/\q.more=runEnd m q.i-q.i/\q.j+q.more<=m:=by
    obtain⟨e1,e2,e3,e4⟩:=vD m p.more p (MB _);refine⟨_,rfl,?_⟩;rw[Bz,cM (by lia),e3,e4];refine⟨rfl,rfl,rfl,rfl,?_⟩;have hl:(lp m (p.i,p.perturb)).1<m+1:=V2 _ (Ug _);show(lp m (p.i,p.perturb)).1+(runEnd m (lp m (p.i,p.perturb)).1-(lp m (p.i,p.perturb)).1)<=m;unfold runEnd;split <;> lia
   obtain⟨q,hq0,hq1,hq2,hq3,hq4,hq5⟩:=hq
   have ZA:a≠0:=by
    intro e;subst e;obtain⟨w,hw⟩:=Yz 0 (NH _);have e2:(cN m 0 p).j=(iX m 0 (p.i,p.perturb)).1:=hj;rw[e2,hf] at hw;cases hw
   obtain⟨a',rfl⟩:∃a',a=a'+1:=⟨a-1,by lia⟩
   obtain⟨n,g1,g2,g3⟩:=AK m owner ho fuel q hq3 hq4 hq5 ⟨a',by lia,by rw[hq1,hq2];exact hf⟩;refine⟨p.more+1+n,?_,?_,?_⟩
   ·rw[eE,hq0,<- g1,hq1,hq2];rfl
   ·rw[eE,hq0];exact g2
   ·intro k hk;by_cases g:k<=p.more
    ·exact Yz k g
    ·obtain⟨w,hw⟩:=g3 (k-(p.more+1)) (by lia);refine⟨w,?_⟩;rw[<- hw,<- hq0,<- eE,show p.more+1+(k-(p.more+1))=k by lia]
structure Own (m:Nat) (H:List Int) (owner:Array (Option Nat)) (k:Nat):Prop where
 size:owner.size=m+1
 met:∀(j w:Nat),owner[j]?=some (some w)->w<k/\∃h,H[w]?=some h/\∃n,at_ m h n=j/\∀k',k'<n->∃w',owner[at_ m h k']?=some (some w')
 all:∀w,w<k->∃j:Nat,owner[j]?=some (some w)
 cnt:owner.toList.countP VJ=k
theorem Own.zero(m:Nat)(H:List Int):Own m H (Array.replicate (m+1) none) 0:=by
 refine⟨by simp,?_,fun w hw=>absurd hw (by lia),?_⟩
 ·intro j w h;rw[Array.getElem?_replicate] at h;split at h <;> simp at h
 ·simp[List.countP_replicate]
theorem Own.free(O:Own m H owner k)(hk:k<m+1):∃j,j<m+1/\owner[j]?=some none:=by
 by_cases hx:∃j,j<m+1/\owner[j]?=some none
 ·exact hx
 ·exfalso
  have Yz:∀x∈owner.toList,VJ x=true:=by
   intro x hx';obtain⟨j,hj,e⟩:=Vc.mp hx';cases x with
   |some w=>rfl
   |none =>
    have hj':j<owner.size:=by simpa using hj
    exact absurd ⟨j,by rw[<- O.size];exact hj',by rw[NO hj'];simpa using e⟩ hx
  have h1:=List.countP_eq_length.mpr Yz;rw[O.cnt,NP,O.size] at h1;lia
theorem Own.step(F:jE m)(O:Own m H owner k)(hk:k<m+1){h:Int}(hh:H[k]?=some h) :
  ∃j,layClean.free m owner (turns m) (bits h % (m+1)) (bits h)=some j/\Own m H (owner.setIfInBounds j (some k)) (k+1):=by
 obtain⟨j,hj,hf⟩:=O.free hk;obtain⟨c,hc,ec⟩:=F (iX m 13 ((st m h).i,(st m h).perturb)).1 (zU m 12 _) j hj
 have z:(iX m 13 ((st m h).i,(st m h).perturb)).2=0:=by
  rw[gE];exact WN (Nc (iE m h) (by decide))
 have e:(iX m (13+c) ((st m h).i,(st m h).perturb)).1=j:=by
  rw[uH];have e2:iX m 13 ((st m h).i,(st m h).perturb)=((iX m 13 ((st m h).i,(st m h).perturb)).1,0):=Qp rfl z;rw[e2,pG];exact ec
 obtain⟨n,g1,g2,g3⟩:=AK m owner O.size (turns m) (st m h) rfl rfl (HX m h) ⟨13+c,by unfold turns;lia,by rw[e];exact hf⟩;have hb:at_ m h n<owner.size:=by rw[O.size];have:=J5 m h n;lia
 have keep:∀(i w:Nat),owner[i]?=some (some w)->(owner.setIfInBounds (at_ m h n) (some k))[i]?=some (some w):=by
  intro i w hi;rw[Qx];split
  ·rename_i e2;subst e2;exact absurd (hi.symm.trans g2) (by simp)
  ·exact hi
 have new:(owner.setIfInBounds (at_ m h n) (some k))[at_ m h n]?=some (some k):=by rw[Qx];simp[hb]
 refine⟨at_ m h n,g1,by simp[O.size],?_,?_,?_⟩
 ·intro i w hi;rw[Qx] at hi;split at hi
  ·rename_i e2;subst e2;cases hi;exact⟨by lia,h,hh,n,rfl,fun k' ZL=>(g3 k' ZL).elim fun w' Z3=>⟨w',keep _ _ Z3⟩⟩
  ·obtain⟨h1,h',h2,n',h3,h4⟩:=O.met i w hi;exact⟨by lia,h',h2,n',h3,fun k' ZL=>(h4 k' ZL).elim fun w' Z3=>⟨w',keep _ _ Z3⟩⟩
 ·intro w hw;by_cases g:w=k
  ·exact⟨at_ m h n,by rw[g];exact new⟩
  ·obtain⟨i,hi⟩:=O.all w (by lia);exact⟨i,keep i w hi⟩
 ·rw[Array.toList_setIfInBounds,List.countP_set (by simpa using hb),O.cnt]
  have e3:owner.toList[at_ m h n]'(by simpa using hb)=none:=by
   have:=(NO hb).symm.trans g2
   simpa using this
  rw[e3];simp
theorem Own.fold{m:Nat}(F:jE m){H:List Int}:∀(rest:List Int) (owner:Array (Option Nat)) (k:Nat),Own m H owner k->H.drop k=rest->H.length<=m+1->k<=H.length ->
  ∃YR,rest.foldl (fun(acc:Option (Array (Option Nat)×Nat)) h=>do
   let (owner,k) <- acc
   let j <- layClean.free m owner (turns m) (bits h % (m+1)) (bits h)
   pure (owner.setIfInBounds j (some k),k+1)) (some (owner,k))=some (YR,H.length)/\Own m H YR H.length
 |[],owner,k,O,hd,_,hk=>by
  have:H.length<=k:=by simpa using hd
  have e:k=H.length:=by lia
  subst e;exact⟨owner,rfl,O⟩
 |h :: rest,owner,k,O,hd,hl,hk=>by
  have hh:H[k]?=some h:=by
   have:=congrArg (·[0]?) hd
   simpa using this
  have X6:k<H.length:=(My.mp hh).1;obtain⟨j,e1,O2⟩:=O.step F (by lia) hh;obtain⟨YR,e2,O3⟩:=Own.fold F rest _ (k+1) O2 (by rw[<- Xo,hd];rfl) hl (by lia);refine⟨YR,?_,O3⟩;rw[List.foldl_cons,<- e2];congr 1;show(layClean.free m owner (turns m) (bits h % (m+1)) (bits h)).bind _=_;rw[e1];rfl
theorem z_(F:jE m)(H:List Int)(hl:H.length<=m)(f mv:Nat)(led plain:Bool) :
  ∃(t:NX) (l ws:List Nat),Xx m f mv led plain H.toArray=some (t,ws.toArray)/\Lain t l (ws.map (H.getD · 0))/\(∀w∈ws,w<H.length)/\(∀w,w<H.length->w∈ws)/\ws.length=H.length/\t.mask=m/\t.led=led/\t.plain=plain:=by
 obtain⟨owner,e,O⟩:=Own.fold F H _ 0 (Own.zero m H) rfl (by lia) (NH _)
 have ec:layClean m H.toArray=some owner:=by
  unfold layClean;rw[<- Array.foldl_toList];show Xm _ (List.foldl _ _ H)=_;exact(congrArg (Xm (·.1)) e).trans rfl
 let live:=(N7 (m+1)).filterMap fun j=>(owner.getD j none).map (j,·)
 have gd:∀(j w:Nat),owner.getD j none=some w↔owner[j]?=some (some w):=by
  intro j w;by_cases hj:j<owner.size
  ·rw[NO hj];simp[SG,hj]
  ·rw[Ue (by lia)];simp[SG,hj]
 have Zr:∀(j w:Nat),(j,w)∈live↔owner[j]?=some (some w):=by
  intro j w;show(j,w)∈(N7 (m+1)).filterMap _↔_;rw[N9];constructor
  ·rintro⟨j',_,h2⟩;obtain⟨w',h3,h4⟩:=MI.mp h2;cases h4;exact(gd _ _).mp h3
  ·intro h;refine⟨j,O9.mpr ?_,by rw[(gd j w).mpr h];rfl⟩
   have:=(NR.mp h).1
   rw[O.size] at this;exact this
 have hsrt:xm (live.map (·.1)):=by
  unfold xm;rw[Ww];refine VH.filterMap _ ?_ RA;intro a a' haa b hb b' hb';obtain⟨_,_,h3⟩:=MI.mp hb;obtain⟨_,_,h4⟩:=MI.mp hb';rw[<- h3,<- h4];exact haa
 have hlen:live.length=H.length:=by
  have gen:∀(xs:List Nat),(xs.filterMap fun j=>(owner.getD j none).map (j,·)).length=(xs.map fun j=>owner.getD j none).countP VJ:=by
   intro xs
   induction xs with
   |nil=>rfl
   |cons x xs ih =>
    rw[Oh,Nm,List.countP_cons];cases owner.getD x none with
    |none=>simpa using ih
    |some w=>simpa using ih
  have el:(N7 (m+1)).map (fun j=>owner.getD j none)=owner.toList:=by
   apply Wo;intro i;by_cases hi:i<m+1
   ·have hi':i<owner.size:=by rw[O.size];exact hi
    rw[ME,Vz hi];simp[SG,hi']
   ·rw[OX (by simp;lia),OX (by simp[O.size];lia)]
  show((N7 (m+1)).filterMap _).length=_;rw[gen,el,O.cnt]
 refine⟨{mask:=m,place:=(live.map (·.1)).toArray,dummies:=#[],finger:=f,led:=led,moves:=mv,plain:=plain},live.map (·.1),live.map (·.2),?_,?_,?_,?_,?_,rfl,rfl,rfl⟩
 ·unfold Xx;rw[ec];rfl
 ·refine⟨F,rfl,rfl,by simp,hsrt,?_,?_,?_⟩
  ·intro j hj;obtain⟨⟨j',w⟩,h1,h2⟩:=MR.mp hj;cases h2
   have:=(NR.mp ((Zr _ _).mp h1)).1
   rw[O.size] at this;show j'<=m;lia
  ·show(live.map (·.1)).length<=m;rw[Mv,hlen];exact hl
  ·intro i j h hi hj;rw[ME] at hi;rw[PX,ME] at hj;cases hx:live[i]? with
   |none=>rw[hx] at hi;cases hi
   |some x =>
    rw[hx] at hi hj;obtain⟨j',w⟩:=x;cases hi;obtain⟨h1,h',h2,n,h3,h4⟩:=O.met j' w ((Zr _ _).mp (MH hx))
    have eh:h=h':=by
     have e5:H.getD w 0=h:=by simpa using hj
     rw[Op,h2] at e5;exact e5.symm
    subst eh;refine⟨n,h3,fun k hk=>?_⟩;obtain⟨w',Z3⟩:=h4 k hk;exact MR.mpr ⟨(_,w'),(Zr _ _).mpr Z3,rfl⟩
 ·intro w hw;obtain⟨⟨j',w'⟩,h1,h2⟩:=MR.mp hw;cases h2;exact(O.met j' w' ((Zr _ _).mp h1)).1
 ·intro w hw;obtain⟨j,hj⟩:=O.all w hw;exact MR.mpr ⟨(j,w),(Zr _ _).mpr hj,rfl⟩
 ·rw[Mv,hlen]
open PySem PySem.Spec PyProof.Rows
mutual
def ib:Nat->Uc->Bool
 |_,.int _=>true
 |_,.str _=>true
 |0,.tuple _=>false
 |n+1,.tuple xs=>iZ n xs
 |_,_=>false
def iZ:Nat->List Uc->Bool
 |_,[]=>true
 |n,x :: xs=>ib n x && iZ n xs
end
mutual
def bR(w:M4):Uc->Int
 |.int i=>hashInt i
 |.str x=>hashStr w x
 |.tuple xs=>reduceHash (SM (si w xs))
 |_=>0
def si(w:M4):List Uc->List Int
 |[]=>[]
 |x :: xs=>bR w x :: si w xs
end
section
variable{prog:MP}{w:M4}{E:Mu->MA->Prop}
mutual
theorem AF:∀(n:Nat) (d:Uc) (v:Mu) (A:No) (s:MA) (Q:Int->MA->Prop) (as:List Addr),ib n d=true->PU s.heap v d as->A.units+n<cLine->(∀tk,Q (bR w d) {s with toks:=tk})->wpAny (model prog w) A (pyHash v) Q E s
 |n,.int i,v,A,s,Q,as,_,r,hu,h=>by
  cases r;exact wpAny_pyHash_int (by rw[bR] at h;exact h _)
 |n,.str y,v,A,s,Q,as,_,r,hu,h=>by
  cases r;exact wpAny_pyHash_str (by rw[bR] at h;exact h _)
 |n+1,.tuple xs,v,A,s,Q,as,hk,r,hu,h=>by
  cases r with
  |@tuple a o vs m _ _ ho hc hd ra =>
   refine PySem.W.pyHash_slot (T:="tuple") ⟨_,ho,hc⟩ Wx F.entry_tuple_hash (F.args_tuple_hash_1 _) (beq_builtin_none _) (.inr (by lia)) ?_;refine Ms (m:=Sx (.ref a)) (wpAny_tupleItemsOf ho hd (Ms ?_));rw[<- Rj];refine v5 n xs vs.toList A.in1 s #[] _ _ (by rw[ib] at hk;exact hk) ra (by rw[No.in1_units];lia) fun tk b hb=>?_
   refine(show wpAny _ _ (retInt (SM b.toList)) _ _ _ from ?_);rw[hb];rw[bR] at h;exact Ms (wpAny_mkInt (Mz ⟨_,_,rfl,h _⟩))
 |0,.tuple xs,v,A,s,Q,as,hk,r,hu,h=>by rw[ib] at hk;cases hk
 |n,.none,v,A,s,Q,as,hk,r,hu,h=>by cases n <;> (rw[ib] at hk;cases hk;all_goals simp)
 |n,.bool _,v,A,s,Q,as,hk,r,hu,h=>by cases n <;> (rw[ib] at hk;cases hk;all_goals simp)
 |n,.list _,v,A,s,Q,as,hk,r,hu,h=>by cases n <;> (rw[ib] at hk;cases hk;all_goals simp)
 |n,.dict _,v,A,s,Q,as,hk,r,hu,h=>by cases n <;> (rw[ib] at hk;cases hk;all_goals simp)
theorem v5:∀(n:Nat) (ds:List Uc) (vs:List Mu) (A:No) (s:MA) (b:Array Int) (Q:Array Int->MA->Prop) (as:List Addr),iZ n ds=true->UX s.heap vs ds as->A.units+n<cLine ->
  (∀tk b',b'.toList=b.toList++si w ds->Q b' {s with toks:=tk})->wpAny (model prog w) A (forIn vs b fun x r=>do let h <- pyHash x;pure PUnit.unit;pure (Us (r.push h))) Q E s
 |n,[],_,A,s,b,Q,_,_,.nil,_,h=>Mz (h s.toks b (by rw[si,OT]))
 |n,d :: ds,_,A,s,b,Q,_,hk,.cons r rr,hu,h=>by
  rw[iZ,Ou] at hk;rw[OG];refine Ms (Ms (AF n d _ A s _ _ hk.1 r hu fun tk=>?_));refine Ms (Mz (Mz ?_));exact v5 n ds _ A _ _ Q _ hk.2 rr hu fun tk' b' hb=>h tk' b' (by rw[hb,si];simp)
end
end
section
variable{prog:MP}{w:M4}{A:No}{E:Mu->MA->Prop}
theorem mQ(hk:ib n d=true) (r:PU h v d as):carriedByValue v=true\/∃a o vs m xs k,v=.ref a/\n=k+1/\d=.tuple xs/\h.get? a=some o/\o.cls=.type "tuple"/\o.data=.seq vs m/\UX h vs.toList xs as/\iZ k xs=true:=by
 cases r with
 |int i t=>exact .inl rfl
 |str x t=>exact .inl rfl
 |none=>exact .inl rfl
 |bool b=>exact .inl rfl
 |tuple ho hc hd ra =>
  cases n with
  |zero=>rw[ib] at hk;cases hk
  |succ k=>exact .inr ⟨_,_,_,_,_,k,rfl,rfl,rfl,ho,hc,hd,ra,by rw[ib] at hk;exact hk⟩
 |list ho hc hd ra=>exfalso;cases n <;> simp[ib] at hk
 |dict ho hc hd ra rb=>exfalso;cases n <;> simp[ib] at hk
inductive vg (p:Mu->Prop):List Mu->Prop
 |nil:vg p []
 |cons {v:Mu} {vs:List Mu}:p v->vg p vs->vg p (v :: vs)
theorem o0{h:Heap}{n:Nat}:∀{vs:List Mu} {ds:List Uc} {as:List Addr},UX h vs ds as->iZ n ds=true->vg (fun v=>∃d bs,ib n d=true/\PU h v d bs) vs
 |_,_,_,.nil,_=>.nil
 |_,_,_,.cons r rr,hk=>by
  rw[iZ,Ou] at hk;exact .cons ⟨_,_,hk.1,r⟩ (o0 rr hk.2)
theorem vG:∀(n:Nat) {d:Uc} {v:Mu} {s:MA} {Q:Bool->MA->Prop} {as:List Addr},ib n d=true->PU s.heap v d as->Q true s->wpAny (model prog w) A (eqIsQuiet n v) Q E s:=by
 intro n
 induction n with
 |zero =>
  intro d v s Q as hk r q;rcases mQ hk r with hv|⟨_,_,_,_,_,k,_,e,_⟩
  ·rw[eqIsQuiet_byValue _ hv];exact Mz q
  ·cases e
 |succ n ih =>
  intro d v s Q as hk r q;rcases mQ hk r with hv|⟨a,o,vs,m,xs,k,rfl,e,rfl,ho,hc,hd,ra,hks⟩
  ·rw[eqIsQuiet_byValue _ hv];exact Mz q
  ·cases e;have ty:s.TypeIs (.ref a) "tuple":=⟨o,ho,hc⟩
   unfold eqIsQuiet;refine Ms (R7 ty F.slot_tuple_eq.lookup ?_);refine(show wpAny _ _ (isInstance (.ref a) (.type "tuple") >>= _) _ _ s from Ms (QZ ty isSubtype_tuple_tuple ?_));simp only[P4,Na,if_false];refine Ms (Nz ho hd (Ms ?_));rw[WO,<- Rj];refine RK _ (fun rest z s'=>z.1=none/\s'=s/\vg (fun v=>∃d bs,ib n d=true/\PU s.heap v d bs) rest) _ ?_ ?_ _ _ ⟨rfl,rfl,o0 ra hks⟩
   ·rintro v rest z s' ⟨_,rfl,al⟩;cases al with
    |cons p al =>
     obtain⟨d',bs,p1,p2⟩:=p;refine Ms (ih p1 p2 ?_);simp only[P4,Na,if_false];exact Mz ⟨rfl,rfl,al⟩
   ·rintro⟨z1,z2⟩ s' ⟨hz,rfl,_⟩;cases (show z1=none from hz);exact Mz q
theorem lE(n:Nat)(h:carriedByValue v=true):∃b,hashByValue n v=pure b:=by
 cases v with
 |ref a=>cases h
 |_=>exact⟨_,by cases n <;> (unfold hashByValue;rfl)⟩
theorem JI:∀(n m:Nat) {d:Uc} {v:Mu} {s:MA} {Q:Bool->MA->Prop} {as:List Addr},ib n d=true->n<=m->PU s.heap v d as->(∀b,Q b s)->wpAny (model prog w) A (hashByValue m v) Q E s:=by
 intro n
 induction n with
 |zero =>
  intro m d v s Q as hk _ r q;rcases mQ hk r with hv|⟨_,_,_,_,_,k,_,e,_⟩
  ·obtain⟨b,e⟩:=lE m hv;rw[e];exact Mz (q b)
  ·cases e
 |succ n ih =>
  intro m d v s Q as hk hm r q;rcases mQ hk r with hv|⟨a,o,vs,m',xs,k,rfl,e,rfl,ho,hc,hd,ra,hks⟩
  ·obtain⟨b,e⟩:=lE m hv;rw[e];exact Mz (q b)
  ·cases e;obtain⟨m,rfl⟩:∃k,m=k+1:=⟨m-1,by lia⟩
   have ty:s.TypeIs (.ref a) "tuple":=⟨o,ho,hc⟩
   unfold hashByValue;refine Ms (R7 ty Wx.lookup ?_);refine(show wpAny _ _ (seqItems? (.ref a) >>= _) _ _ s from Ms (Nz ho hd (Ms ?_)));rw[WO,<- Rj];refine RK _ (fun rest z s'=>z.1=none/\s'=s/\vg (fun v=>∃d bs,ib n d=true/\PU s.heap v d bs) rest) _ ?_ ?_ _ _ ⟨rfl,rfl,o0 ra hks⟩
   ·rintro v rest z s' ⟨_,rfl,al⟩;cases al with
    |cons p al =>
     obtain⟨d',bs,p1,p2⟩:=p;refine Ms (ih m p1 (by lia) p2 fun b=>?_);cases b with
     |true =>
      simp only[P4,Na,if_false];exact Mz ⟨rfl,rfl,al⟩
     |false =>
      simp only[Vd,if_true];exact Mz (Mz (q _))
   ·rintro⟨z1,z2⟩ s' ⟨hz,rfl,_⟩;cases (show z1=none from hz);exact Mz (q _)
theorem kI(n:Nat)(h:carriedByValue v=true):ofAClassStatement n v=pure false:=by
 cases v with
 |ref a=>cases h
 |_=>unfold ofAClassStatement;rfl
theorem Ew:∀(n:Nat) {d:Uc} {v:Mu} {s:MA} {Q:Bool->MA->Prop} {as:List Addr},ib n d=true->PU s.heap v d as->Q false s->wpAny (model prog w) A (ofAClassStatement n v) Q E s:=by
 intro n
 induction n with
 |zero =>
  intro d v s Q as hk r q;rcases mQ hk r with hv|⟨_,_,_,_,_,k,_,e,_⟩
  ·rw[kI _ hv];exact Mz q
  ·cases e
 |succ n ih =>
  intro d v s Q as hk r q;rcases mQ hk r with hv|⟨a,o,vs,m,xs,k,rfl,e,rfl,ho,hc,hd,ra,hks⟩
  ·rw[kI _ hv];exact Mz q
  ·cases e;have ty:s.TypeIs (.ref a) "tuple":=⟨o,ho,hc⟩
   unfold ofAClassStatement;refine Ms (TX ty ?_);dsimp only;rw[if_pos (by decide)];refine Ms (Mz ?_);simp only[P4,Na,if_false];refine Ms (Nz ho hd (Ms ?_));rw[<- Rj];refine RK _ (fun rest z s'=>z.1=none/\s'=s/\vg (fun v=>∃d bs,ib n d=true/\PU s.heap v d bs) rest) _ ?_ ?_ _ _ ⟨rfl,rfl,o0 ra hks⟩
   ·rintro v rest z s' ⟨_,rfl,al⟩;cases al with
    |cons p al =>
     obtain⟨d',bs,p1,p2⟩:=p;refine Ms (ih p1 p2 ?_);simp only[Na,if_false];exact Mz ⟨rfl,rfl,al⟩
   ·rintro⟨z1,z2⟩ s' ⟨hz,rfl,_⟩;cases (show z1=none from hz);exact Mz q
theorem seen_rd{s:MA}  {Q:Bool->MA->Prop} (hx:ib 8 dx=true) (rx:PU s.heap x dx as) {ys:List Mu} (hy : ∀ y∈ys, ∃ d bs, ib 8 d=true/\PU s.heap y d bs) (q:Q false s):wpAny (model prog w) A (searchCouldBeSeen x ys) Q E s := by
  unfold searchCouldBeSeen;refine Ms (RK _ (fun rest z s' => z.1=none/\s'=s /\ ∀ y∈rest, ∃ d bs, ib 8 d=true/\PU s.heap y d bs) _ ?_ ?_ _ _ ⟨rfl, rfl, hy⟩)
  · rintro y rest z s' ⟨_, rfl, al⟩
    obtain⟨d', bs, p1, p2⟩ := al y MM;have al' : ∀ y∈rest, ∃ d bs, ib 8 d=true/\PU s'.heap y d bs := fun u hu => al u (MO _ hu)
    dsimp only;split
    all_goals split
    all_goals first
      |exact Mz ⟨rfl, rfl, al'⟩
      | (refine Ms (vG 8 hx rx ?_); simp only[P4, Na, if_false]
         refine Ms (vG 8 p1 p2 ?_); simp only[P4, Na, if_false]
         refine Ms (Ew 8 hx rx ?_); simp only[Na, if_false]
         refine Ms (Ew 8 p1 p2 ?_); simp only[Na, if_false]
         exact Mz ⟨rfl, rfl, al'⟩)
  · rintro⟨z1, z2⟩ s' ⟨hz, rfl, _⟩
    cases (show z1=none from hz);exact Mz q
end
open PySem.W (Dat kqdP kqdOk)
theorem Lain.FA{t:NX}   (L:Lain t l hs) {hashAt:Nat->Int}    {r:Option NX.Met} (hr:t.probe hashAt h p=r) (hp:p=cN t.mask n0 (st t.mask h)) (ha : ∀ (i:Nat) (h:Int), hs[i]?=some h->hashAt i=h) :
    ∃ n, n0<=n/\(∀ k, n0<=k->k<n -> ∃ i:Nat, l[i]?=some (at_ t.mask h k)/\hs[i]? ≠ some h) /\
      ((at_ t.mask h n ∉ l/\r=some (.empty (at_ t.mask h n) none)) \/
       (∃ i:Nat, l[i]?=some (at_ t.mask h n)/\hs[i]?=some h/\r=some (.candidate (at_ t.mask h n) i (cN t.mask (n + 1) (st t.mask h))))) := by
  subst hp; subst hr;exact L.search hashAt ha h n0
theorem Lain.fits{t:NX}(L:Lain t l hs){n:Nat}(e:hs.length=n):t.fits n=true:=by
 have h1:t.place.size=n:=by rw[L.place,<- e,<- L.size];simp
 have h2:t.fill<=t.mask:=by
  unfold VL;rw[L.place,L.nodum]
  have:=L.fill
  simpa using this
 simp[NX.fits,h1,h2]
def Good(d:Dat):Prop:=kqdOk 8 d=true/\ib 8 (kqdP d)=true/\∃xs,kqdP d=.tuple xs
section
variable{prog:MP}{w:M4}{A:No}{E:Mu->MA->Prop}{s:MA}
open Classical in
theorem JQ{Q:Bool->MA->Prop}(gd:Good d)(ge:Good e)(rx:PU s.heap x (kqdP d) as)(ry:PU s.heap y (kqdP e) bs)(hu:A.units+16<cLine)(q:Q (decide (d=e)) s):wpAny (model prog w) A (eqBool x y) Q E s:=by
 have l1:=OF 8 d gd.1;have l2:=OF 8 e ge.1;refine SeqAt.eqBoolOverData prog w A E s x y _ _ as bs Q rx ry l1.1 l2.1 ?_ (by rw[uT gd.1 ge.1];exact q)
 have:=Nat.min_le_left (kqdP d).depth (kqdP e).depth
 lia
theorem ub(gd:Good d)(ge:Good e)(rx:PU h x (kqdP d) as)(ry:PU h x (kqdP e) bs):d=e:=by
 have q:=(PU.unique rx _ _ ry).1;exact(Ur 8 d e 8 gd.1 ge.1).mp (by rw[<- q];exact(Ur 8 d d 8 gd.1 gd.1).mpr rfl)
def Mb(w:M4)(h:Heap)(e:Int×Mu)(d:Dat):Prop:=Good d/\(∃as,PU h e.2 (kqdP d) as)/\e.1=bR w (kqdP d)
open Classical in
theorem yG{S:Addr}{o:Obj}{d:Dat}{Q:SetFound->MA->Prop}(ho:s.heap.get? S=some o)(hd:o.data=.set es ep t)
  (L:Lain t l (es.toList.map (·.1))) (hm:∀e∈es.toList,∃d,Mb w s.heap e d) (hg:t.gaveWay=false) (gx:Good d)  (rx:PU s.heap x (kqdP d) as) (hu:A.units+16<cLine)
  (hE:at_ t.mask (bR w (kqdP d)) nE∉l) (q1:(∃e∈es.toList,Mb w s.heap e d)->Q (.there none) s)
  (q2:∀n,at_ t.mask (bR w (kqdP d)) n∉l->(∀k,k<n->at_ t.mask (bR w (kqdP d)) k∈l)->(∀e∈es.toList,¬ Mb w s.heap e d)->Q (.free (at_ t.mask (bR w (kqdP d)) n) false) s) :
  ∀(k n0 fuel:Nat) (YW:Option NX.Probe),nE-n0=k->n0<=nE->k<fuel->YW.getD (t.probeStart (bR w (kqdP d)))=cN t.mask n0 (st t.mask (bR w (kqdP d)))->(∀j,j<n0->at_ t.mask (bR w (kqdP d)) j∈l) ->
   (∀(j i:Nat) (e:Int×Mu),j<n0->l[i]?=some (at_ t.mask (bR w (kqdP d)) j)->es.toList[i]?=some e->¬ Mb w s.heap e d) ->
   wpAny (model prog w) A (setSearchFrom S x (bR w (kqdP d)) true fuel YW) Q E s:=by
 have hf:t.fits es.size=true:=L.fits (by simp);intro k
 induction k using Nat.strongRecOn with
 |_ k ih =>
 intro n0 fuel YW hk hn hfu hst hin ZA;obtain⟨fuel,rfl⟩:∃f,fuel=f+1:=⟨fuel-1,by lia⟩
 unfold setSearchFrom;refine Ms (P1 ho hd hf ?_);dsimp only;rw[hg];simp only[Na,if_false];have go:=fun(f:Nat->Int) (r:Option NX.Met) (hr:t.probe f (bR w (kqdP d)) (YW.getD (t.probeStart (bR w (kqdP d))))=r)=>L.FA (n0:=n0) hr hst
 split
 ·rename_i met hpr
  obtain⟨n,g1,g2,g3⟩:=go _ _ hpr (fun i h' e=>by
   show(es[i]?.map (·.1)).getD 0=h'
   rw[ME,NM] at e
   rw[e];rfl)
  have hnE:n<=nE:=by
   rcases OI nE n with z|z
   ·obtain⟨i,z1,_⟩:=g2 nE hn z;exact absurd (MH z1) hE
   ·exact z
  have hin':∀j,j<n->at_ t.mask (bR w (kqdP d)) j∈l:=by
   intro j hj;rcases OI j n0 with z|z
   ·exact hin j z
   ·obtain⟨i,z1,_⟩:=g2 j z hj;exact MH z1
  have hne':∀(j i:Nat) (e:Int×Mu),j<n->l[i]?=some (at_ t.mask (bR w (kqdP d)) j)->es.toList[i]?=some e->¬ Mb w s.heap e d:=by
   intro j i e hj hi he;rcases OI j n0 with z|z
   ·exact ZA j i e z hi he
   ·obtain⟨i',z1,z2⟩:=g2 j z hj;intro mb
    have hii:i'=i:=by
     rcases PZ i' i with y|y|y
     ·have:=Ow.mp L.srt i' i (My.mp z1).1 (My.mp hi).1 y
      rw[(My.mp z1).2,(My.mp hi).2] at this;lia
     ·exact y
     ·have:=Ow.mp L.srt i i' (My.mp hi).1 (My.mp z1).1 y
      rw[(My.mp z1).2,(My.mp hi).2] at this;lia
    subst hii;exact z2 (by rw[ME,he,<- mb.2.2];rfl)
  rcases g3 with⟨y1,y2⟩|⟨i,y1,y2,y3⟩
  ·cases y2;dsimp only;refine Mz (q2 n y1 hin' fun e he mb=>?_);obtain⟨i,hi⟩:=OZ.mp he;obtain⟨j,z1,z2⟩:=L.ahead y1 (i:=i) (by rw[ME,hi,<- mb.2.2];rfl);exact hne' j i e z1 z2 hi mb
  ·cases y3;dsimp only
   obtain⟨e,he⟩:∃e,es.toList[i]?=some e:=by
    rw[ME] at y2;cases hq:es.toList[i]? with
    |none=>rw[hq] at y2;cases y2
    |some e=>exact⟨e,rfl⟩
   have hea:es[i]?=some e:=by rw[<- NM];exact he
   obtain⟨de,mb⟩:=hm e (MH he);obtain⟨ge,⟨bs,re⟩,hh⟩:=id mb
   have seen:∀{Q':Bool->MA->Prop},Q' false s->wpAny (model prog w) A (searchCouldBeSeen x ((es.filter (·.1 == bR w (kqdP d))).toList.map (·.2))) Q' E s:=fun {Q'} q'=>by
    refine seen_rd gx.2.1 rx (fun y hy=>?_) q';obtain⟨e',h1,h2⟩:=MR.mp hy
    obtain⟨d',m1,⟨cs,m2⟩,_⟩:=hm e' (by
     have:=PM.mp h1
     exact PM.mpr (Array.mem_filter.mp this).1)
    exact⟨_,cs,m1.2.1,by rw[<- h2];exact m2⟩
   obtain⟨e1,e2⟩:=e
   obtain⟨a,ea⟩:∃a,e2=.ref a:=by
    obtain⟨xs,ex⟩:=ge.2.2;have re':PU s.heap e2 (kqdP de) bs:=re;rw[ex] at re';cases re' with
    |tuple _ _ _ _=>exact⟨_,rfl⟩
   cases ea;by_cases hl:t.led=true
   all_goals simp only[hl,P4,Vd,Na,if_false,if_true]
   ·skip
    rw[hea];dsimp only;refine Ms (NQ (JQ ge gx re rx hu (Ms (P1 ho hd hf ?_))));dsimp only;by_cases hde:de=d
    ·rw[decide_eq_true hde];exact Mz (q1 ⟨_,MH he,hde ▸ mb⟩)
    ·rw[decide_eq_false hde];simp only[Ve,Na,if_false];rw[show t.sameMemory t.moves t.mask=some true by simp[VA]];dsimp only;rw[if_pos rfl,fy L.place L.srt y1];dsimp only;rw[hea];dsimp only;refine Ms (UD (Ms (Mz ?_)));rw[if_pos rfl];dsimp only
     have hnn:n<nE:=by
      rcases OI n nE with z|z
      ·exact z
      ·have:n=nE:=by lia
       subst this;exact absurd (MH y1) hE
     refine ih (nE-(n+1)) (by lia) (n+1) fuel _ rfl hnn (by lia) rfl ?_ ?_
     ·intro j hj;rcases OI j n with z|z
      ·exact hin' j z
      ·have:j=n:=by lia
       subst this;exact MH y1
     ·intro j i' e' hj hi he' mb';rcases OI j n with z|z
      ·exact hne' j i' e' z hi he' mb'
      ·have:j=n:=by lia
       subst this;have hii:i'=i:=by have a1:=fN L.srt hi;have a2:=fN L.srt y1;lia
       subst hii;rw[he] at he';cases he';obtain⟨_,⟨cs,c2⟩,_⟩:=mb';exact hde (ub ge gx re c2)
   ·refine Ms (seen ?_);simp only[Na,if_false];rw[hea];dsimp only;refine Ms (NQ (JQ ge gx re rx hu (Ms (P1 ho hd hf ?_))));dsimp only;by_cases hde:de=d
    ·rw[decide_eq_true hde];exact Mz (q1 ⟨_,MH he,hde ▸ mb⟩)
    ·rw[decide_eq_false hde];simp only[Ve,Na,if_false];rw[show t.sameMemory t.moves t.mask=some true by simp[VA]];dsimp only;rw[if_pos rfl,fy L.place L.srt y1];dsimp only;rw[hea];dsimp only;refine Ms (UD (Ms (Mz ?_)));rw[if_pos rfl];dsimp only
     have hnn:n<nE:=by
      rcases OI n nE with z|z
      ·exact z
      ·have:n=nE:=by lia
       subst this;exact absurd (MH y1) hE
     refine ih (nE-(n+1)) (by lia) (n+1) fuel _ rfl hnn (by lia) rfl ?_ ?_
     ·intro j hj;rcases OI j n with z|z
      ·exact hin' j z
      ·have:j=n:=by lia
       subst this;exact MH y1
     ·intro j i' e' hj hi he' mb';rcases OI j n with z|z
      ·exact hne' j i' e' z hi he' mb'
      ·have:j=n:=by lia
       subst this;have hii:i'=i:=by have a1:=fN L.srt hi;have a2:=fN L.srt y1;lia
       subst hii;rw[he] at he';cases he';obtain⟨_,⟨cs,c2⟩,_⟩:=mb';exact hde (ub ge gx re c2)
 ·rename_i hpr;exfalso;cases hq:t.probe (fun i=>(es[i]?.map (·.1)).getD 0) (bR w (kqdP d)) (YW.getD (t.probeStart (bR w (kqdP d)))) with
  |some met=>exact hpr met hq
  |none =>
   obtain⟨n,_,_,g3⟩:=go _ _ hq (fun i h' e=>by
    rw[ME,NM] at e
    show(es[i]?.map (·.1)).getD 0=h';rw[e];rfl)
   rcases g3 with⟨_,y⟩|⟨_,_,_,y⟩ <;> cases y
end
open PySem.W (Dat kqdP kqdOk)
open Classical in
noncomputable def lD:List Dat->Nat
 |[]=>0
 |d :: ds=>lD ds+if d∈ds then 0 else 1
noncomputable def cnt (ds:List Dat):Nat:=lD ds.reverse
open Classical in
theorem p_(ds:List Dat)(d:Dat):cnt (ds++[d])=cnt ds+if d∈ds then 0 else 1:=by
 unfold cnt;rw[List.reverse_append];show lD (d :: ds.reverse)=_;rw[lD];simp
theorem uU:∀ds:List Dat,lD ds<=ds.length
 |[]=>MB _
 |d :: ds=>by
  have:=uU ds
  rw[lD,Nl];split <;> lia
theorem sk(ds:List Dat):cnt ds<=ds.length:=by have:=uU ds.reverse;simpa[cnt] using this
theorem mX:∀ds:List Dat,lD ds=ds.length↔ds.Nodup
 |[]=>by simp[lD]
 |d :: ds=>by
  have h1:=uU ds;have h2:=mX ds;rw[lD,Nl,NE];split
  ·rename_i h;constructor
   ·intro e;lia
   ·intro e;exact absurd h e.1
  ·rename_i h;rw[<- h2];constructor
   ·intro e;exact⟨h,by lia⟩
   ·intro e;lia
theorem A0(ds:List Dat):cnt ds=ds.length↔ds.Nodup:=by
 have:=mX ds.reverse
 rw[Sa,(List.reverse_perm ds).nodup_iff] at this;exact this
theorem Mb.at{h':Heap}(m:Mb w h e d)(k:∀b o,h.get? b=some o->h'.get? b=some o):Mb w h' e d:=by
 obtain⟨g,⟨as,r⟩,x⟩:=m;exact⟨g,⟨as,Vf k r⟩,x⟩
theorem Mb.uniq(m:Mb w h e d)(m':Mb w h e d'):d=d':=by
 obtain⟨g,⟨as,r⟩,_⟩:=m;obtain⟨g',⟨as',r'⟩,_⟩:=m';exact ub g g' r r'
section
variable{prog:MP}{w:M4}{A:No}{E:Mu->MA->Prop}{s:MA}
theorem Ej{h:Heap}{S:Addr}{o:Obj}(YC:Array (Int×Mu))(t':NX)(e:h.get? S=some o)(hd:o.data=.set es ep t)(x:o.ExactSet) :
  ∃o',(h.update S (SI YC t')).get? S=some o'/\o'.ExactSet/\o'.data=.set YC (ep+1) t':=by
 have z:SI YC t' o = {o with data:=.set YC (ep+1) t'}:=putSet_of YC t' hd;refine⟨_,NB (SI YC t') e (by rw[z];rfl),?_,by rw[z]⟩;rw[z];exact x
end
open PySem.W (Dat kqdP kqdOk)
section
variable{prog:MP}{w:M4}{A:No}{R:TU->MA->Prop}{I:Addr}{fp wr:List Addr}{n:Nat}{P:Nat->Mu->Prop}{St:Nat->Heap->Prop}
theorem BQ(W:Walks prog w A.in1 I fp wr n P St)(S:Addr)(nS:S∉fp)(Z:Nat->Heap->Prop)(zk:∀i h h',Z i h->(∀b o,b∉wr->h.get? b=some o->h'.get? b=some o)->Z i h')
  (za:∀i v (s:MA) (Q:Bool->MA->Prop) (E:Mu->MA->Prop),i<n->P i v->Z i s.heap->(∀r h' tk,Z (i+1) h'->(∀b,b≠S->h'.get? b=s.heap.get? b)->Q r {s with heap:=h',toks:=tk})->wpAny (model prog w) A.in1 (setAdd S v) Q E s) :
  ∀(k i:Nat) (s:MA),n-i=k->i<=n->St i s.heap->Z i s.heap->(∀h' tk,Z n h'->(∀b o,b∉S :: wr->s.heap.get? b=some o->h'.get? b=some o)->R (.ok (.ret .none)) {s with heap:=h',toks:=tk}) ->
   codeAny (model prog w) A (.builtin "set.update.loop" ⟨[.ref S,.ref I],[]⟩) R s:=by
 have nw:S∉wr:=fun h=>nS (W.sub _ h)
 intro k
 induction k with
 |zero =>
  intro i s hk hi hst hz hR;obtain rfl:i=n:=by lia
  refine Qv TF ?_;rw[QT Rq _];refine(show wpAny _ A.in1 (pyNext (.ref I) >>= _) _ _ s from Ms (W.done s _ _ hst fun h' tk hm=>?_));refine(show wpAny _ A.in1 (ret NJ) _ _ _ from Mz (hR h' tk (zk _ _ _ hz hm) fun b o hb e=>hm b o (fun z=>hb (MO _ z)) e))
 |succ k ih =>
  intro i s hk hi hst hz hR;have X6:i<n:=by lia
  refine Qv TF ?_;rw[QT Rq _];refine(show wpAny _ A.in1 (pyNext (.ref I) >>= _) _ _ s from Ms (W.item i s _ _ X6 hst fun v h' tk hP hst' hm=>?_));refine(show wpAny _ A.in1 (holding [v] (setAdd S v) >>= _) _ _ _ from Ms (NQ (za i v _ _ _ X6 hP (zk _ _ _ hz hm) fun r h2 tk2 z2 k2=>?_)));refine Mz ⟨VM Rq _,ih (i+1) _ (by lia) X6 (W.frame _ _ _ hst' fun b hb o e=>?_) z2 fun h3 tk3 z3 k3=>hR h3 tk3 z3 fun b o hb e=>?_⟩
  ·exact(k2 b fun z=>nS (z ▸ hb)).trans e
  ·refine k3 b o hb ((k2 b fun z=>hb (z ▸ MM)).trans (hm b o (fun z=>hb (MO _ z)) e))
end
namespace F
theorem sub_tuple_set:isSubtype (.type "tuple") (.type "set")=pure false:=by rw[isSubtype_type];kernel_rfl
theorem sub_tuple_frozenset:isSubtype (.type "tuple") (.type "frozenset")=pure false:=by rw[isSubtype_type];kernel_rfl
end F
section
variable{prog:MP}{w:M4}{A:No}{E:Mu->MA->Prop}{s:MA}
theorem Kn.walks(k:Kn)(hh:A.handled=none)(I ax:Addr)(ZA:ax≠I)(items:Array Mu):Walks prog w A I [I,ax] [I] items.size (fun i v=>items[i]?=some v) (fun i h=>k.it h I ax i/\k.seq h ax items):=by
 cases k
 ·exact Walks.list hh I ax ZA items
 ·exact Walks.tuple hh I ax ZA items
def xu (led:Bool):Obj:={cls:=.type "set",dict:=none,data:=.set #[] 0 (.fresh 0 0 led)}
theorem vB(k:Kn){Q:Mu->MA->Prop}(hh:A.handled=none)(hl:k.seq s.heap l items)(Z:Nat->Heap->Prop)
  (z0:∀led h,h.get? s.heap.objs.size=some (xu led)->(∀b o,s.heap.get? b=some o->h.get? b=some o)->Z 0 h) (zk:∀i h h',Z i h->(∀b o,b≠s.heap.objs.size+1->h.get? b=some o->h'.get? b=some o)->Z i h')
  (za:∀(A':No) i v (s':MA) (Q:Bool->MA->Prop) (E:Mu->MA->Prop),A'.units<=A.units+8->i<items.size->items[i]?=some v->Z i s'.heap->(∀r h' tk,Z (i+1) h'->(∀b,b≠s.heap.objs.size->h'.get? b=s'.heap.get? b)->Q r {s' with heap:=h',toks:=tk})->wpAny (model prog w) A' (setAdd s.heap.objs.size v) Q E s')
  (q:∀h' tk,Z items.size h'->(∀b o,b<s.heap.objs.size->s.heap.get? b=some o->h'.get? b=some o)->Q (.ref s.heap.objs.size) {s with heap:=h',toks:=tk}):wpAny (model prog w) A (call (.type "set") [.ref l]) Q E s:=by
 obtain⟨c,tl,hmro⟩:=Ql.mro;have hmade:=Ql.made;have hsub:=Ql.sub;refine QM (codeAny_of_tree ?_);show wpAny _ _ (callAny (.type "set") _) _ _ _;refine Mz ⟨Rh _ (by decide +kernel),Qv F.entry_type_call ?_⟩;rw[No.under_plain (weight_type_call_type "set" [.ref l] []) rfl];have h1:=Ql.notType;have h2:=Ql.canCreate;have hct:=F.typeCall_set_1 (.ref l)
 repeat (any_goals (first|assumption|wp_step))
 refine PN (code_set_new_1 (.ref l) (E:=E) (Q₁:=fun obj s₁=>∃led:Bool,obj=.ref s.heap.objs.size/\s₁ = {s with heap:=s.heap.push (xu led)}) fun led=>⟨led,rfl,rfl⟩) fun r s₁ hr=>?_
 cases r with
 |error e=>exact hr
 |ok fl =>
  cases fl with
  |ret obj =>
   obtain⟨led,rfl,rfl⟩:=hr;have hS:(s.heap.push (xu led)).get? s.heap.objs.size=some (xu led):=ML _ rfl;have hT:Xy {s with heap:=s.heap.push (xu led)} (.ref s.heap.objs.size) "set":=⟨_,hS,rfl⟩
   have hli:=Ql.init.lookup;have hbi:=Ql.init.bind (.ref s.heap.objs.size)
   repeat (any_goals (first|assumption|wp_step))
   refine PN (PR (R:=wants (fun r s₂=>r=.none/\∃h' tk,s₂ = {s with heap:=h',toks:=tk}/\Z items.size h'/\(∀b o,b<s.heap.objs.size->s.heap.get? b=some o->h'.get? b=some o)) E) Ql.init.plain F.entry_set_init (check_set_init_1 hT ?_)) fun r₂ s₂ Zt=>?_
   ·have X6:l<s.heap.objs.size:=k.lt hl;have hl1:k.seq (s.heap.push (xu led)) l items:=k.tR hl fun o e=>Mt _ e
    have nI:l≠(s.heap.push (xu led)).objs.size:=by rw[OO];exact MC (Wy X6)
    have nS:s.heap.objs.size∉[(s.heap.push (xu led)).objs.size,l]:=by
     rw[OO];simp only[MD,MF,or_false,not_or];exact⟨MC (Pq _),NG X6⟩
    have fin:∀(A':No) (R':TU->MA->Prop),A'.in1.handled=none->A'.in1.units<=A.units+8->(∀h' tk,Z items.size h'->(∀b o,b<s.heap.objs.size->s.heap.get? b=some o->h'.get? b=some o)->R' (.ok (.ret .none)) {s with heap:=h',toks:=tk}) ->
      codeAny (model prog w) A' (.builtin "set.update.loop" ⟨[.ref s.heap.objs.size,.ref (s.heap.push (xu led)).objs.size],[]⟩) R' {s with heap:=(s.heap.push (xu led)).push (k.obj l)}:=by
     intro A' R' ha hu hR;refine BQ (k.walks ha _ l nI items) s.heap.objs.size nS Z (fun i h h' z kp=>zk i h h' z fun b o hb e=>kp b o (by rw[OO];simpa using hb) e) (fun i v s' Q' E' hi hv hz hq=>za _ i v s' Q' E' hu hi hv hz hq) (items.size-0) 0 _ rfl (NH _) ⟨k.it0 _ l,k.tR hl1 fun o e=>Mt _ e⟩ (z0 led _ (Mt _ hS) fun b o e=>Mt _ (Mt _ e)) fun h' tk z kp=>hR h' tk z fun b o hb e=>kp b o ?_ (Mt _ (Mt _ e))
     rw[OO];simp only[MD,MF,or_false,not_or];exact⟨MC hb,MC (Wy hb)⟩
    cases k
    ·have Zz:(s.heap.push (xu led)).IsList l items:=hl1;obtain⟨ol,hol,ZK,nl,hdl⟩:=hl1;obtain⟨ocls,odict,odata,oslots⟩:=ol;simp only at ZK hdl;subst ZK;subst hdl;have hsls:=F.sub_list_set;have hslf:=F.sub_list_frozenset;have ZA:(O0 "list" == O0 "dict")=false:=by decide
     unfold OK.«set.__init__» noKeywords R8;generalize hPI:pyIter=PI;wp_walk;subst hPI;refine Kn.iter .L Zz (Ms (wpAny_runValue (fin _ _ (by simp[hh]) (by simp) fun h' tk z kp=>?_)));refine(show wpAny _ _ _ _ _ _ from Mz (show wpAny _ _ (ret NJ) _ _ _ from Mz ⟨rfl,h',tk,rfl,z,kp⟩))
    ·have Zz:(s.heap.push (xu led)).IsTuple l items:=hl1;obtain⟨ol,hol,ZK,nl,hdl⟩:=hl1;obtain⟨ocls,odict,odata,oslots⟩:=ol;simp only at ZK hdl;subst ZK;subst hdl;have hsls:=F.sub_tuple_set;have hslf:=F.sub_tuple_frozenset;have ZA:(O0 "tuple" == O0 "dict")=false:=by decide
     unfold OK.«set.__init__» noKeywords R8;generalize hPI:pyIter=PI;wp_walk;subst hPI;refine Kn.iter .T Zz (Ms (wpAny_runValue (fin _ _ (by simp[hh]) (by simp) fun h' tk z kp=>?_)));refine(show wpAny _ _ _ _ _ _ from Mz (show wpAny _ _ (ret NJ) _ _ _ from Mz ⟨rfl,h',tk,rfl,z,kp⟩))
   ·cases r₂ with
    |error e=>exact Zt
    |ok fl₂ =>
     cases fl₂ with
     |ret r =>
      obtain⟨rfl,h',tk,rfl,hz,ZL⟩:=Zt
      repeat (any_goals (first|assumption|wp_step))
      exact q _ _ hz ZL
     |_=>exact Zt.elim
  |_=>exact hr.elim
end
open PySem.W (Dat kqdP kqdOk)
def J8(h:Heap)(S:Addr)(n:Nat):Prop:=∃o es ep t,h.get? S=some o/\o.ExactSet/\o.data=.set es ep t/\t.fits es.size=true/\es.size=n
def HC(X:Cx)(r:V->Hp->(Nat->Hp->Prop)->Prop):Prop :=
 ∀(ξ:List (Addr×Obj)) (s:MA) (σ:St) (H:Hp) (x:V) (u:Mu) (Q:Nat->Hp->Prop),Inv X ξ σ H s->RelV x u->r x H Q ->
  wpAny (model X.prog X.w) X.A (call (.type "set") [u]) (fun v s'=>∃S n,v=.ref S/\J8 s'.heap S n/\Inv X ξ σ H s'/\Q n H) X.xe s
theorem GE(h:Heap):h.get? h.objs.size=none:=by
 cases e:h.get? h.objs.size with
 |none=>rfl
 |some o=>exact absurd (MG e) (Pn _)
def Ij(K:Fg):V->Hp->(Nat->Hp->Prop)->Prop:=fun x H Q=>∃(k:Kn) (a:Addr) (ns:List Str),x=.ref a/\Kn.sq k K H a (ns.map V.str)/\ns.length<4000/\Q (cnt (ns.map Nw)) H
theorem yB{X:Cx}(hc:X.calm=true):HC X (Ij X.K):=by
 intro ξ s σ H x u Q I r h;obtain⟨k,a,ns,rfl,q1,hl,q⟩:=h;cases r;obtain⟨fm,rv,sq⟩:=k.inv I q1;have len1:fm.length=ns.length:=by have:=Pm rv;simpa using this.symm
 have rd:∀(i:Nat) (v:Mu),fm.toArray[i]?=some v->∃y t,ns[i]?=some y/\v=.str y t:=by
  intro i v hv;rw[UE] at hv;obtain⟨hi,e⟩:=My.mp hv;have hx:i<ns.length:=by lia
  obtain⟨v',e1,rl⟩:=rv.get (i:=i) (x:=.str ns[i]) (by rw[ME,Mw hx];rfl);rw[hv] at e1;cases e1;obtain⟨t,et⟩:=(show ∃t,v=Sj ns[i] t from rl)
  exact⟨_,t,Mw hx,et⟩
 refine vB k (I.ok.hd hc) sq (fun i h=>(∀b o,s.heap.get? b=some o->h.get? b=some o)/\h.SetOf (strKind X.prog X.w) s.heap.objs.size (fun y=>decide (y∈ns.take i)) (cnt ((ns.take i).map Nw))) ?_ ?_ ?_ ?_
 ·intro led h g kp;refine⟨kp,_,#[],0,.fresh 0 0 led,g,⟨rfl,rfl,rfl⟩,rfl,fun e he=>absurd he (by simp),fun y=>?_,by decide,by rfl,?_⟩
  ·simp
  ·simp[cnt,lD]
 ·rintro i h h' ⟨k0,o,es,ep,t,ho,rest⟩ kp;refine⟨fun b ob hb=>kp b ob (fun z=>?_) (k0 b ob hb),o,es,ep,t,kp _ _ (MC (Pq _)) ho,rest⟩
  have:=MG hb
  rw[z] at this;exact absurd this (Nat.not_lt.mpr (PP _))
 ·intro A' i v s' Q' E' hA hi hv hz hq;obtain⟨y,t,d1,rfl⟩:=rd i v hv;have ht:ns.take (i+1)=ns.take i++[y]:=by rw[Nx,d1];rfl
  have his:(strKind X.prog X.w).is y (.str y t)=true:=strKind_is X.prog X.w y t;unfold setAdd;refine NQ (Ms ((strKind X.prog X.w).pyHash (k:=y) his ?_));have ZK:=sk ((ns.take i).map Nw);rw[Mv,Ng] at ZK;refine wpAny_setAddHashed_of (knd:=strKind X.prog X.w) (s:={s' with toks:=s'.toks+1}) his rfl hz.2 (by unfold scanBound;lia) fun h' sb z=>hq _ h' _ ⟨fun b o e=>?_,?_⟩ fun b hb=>sb.2 b hb
  ·have hb:b≠s.heap.objs.size:=MC (MG e);rw[sb.2 b hb];exact hz.1 b o e
  ·refine SetOf_congr z (fun y'=>?_) ?_
   ·rw[ht];simp[Ni]
   ·rw[ht,M8,Nm,Se,p_];have hm:(Nw y∈(ns.take i).map Nw)↔y∈ns.take i:=⟨fun z=>by obtain⟨y',h1,h2⟩:=MR.mp z;cases h2;exact h1,fun z=>MR.mpr ⟨y,z,rfl⟩⟩
    by_cases g:y∈ns.take i
    ·rw[if_pos (hm.mpr g),decide_eq_true g];rfl
    ·rw[if_neg (fun z=>g (hm.mp z)),decide_eq_false g];rfl
 ·intro h' tk z kp;have ez:ns.take fm.toArray.size=ns:=by rw[MU,len1,RL]
  rw[ez] at z;obtain⟨k0,o,es,ep,t,ho,hx,hd,_,_,_,hf,c⟩:=z;exact⟨_,_,rfl,⟨o,es,ep,t,ho,hx,hd,hf,c⟩,I.kept (t':=tk) k0,q⟩
def oq(r:V->Hp->(Nat->Hp->Prop)->Prop)(te:TE):TE:=fun σ H Q=>te σ H fun x H1=>r x H1 fun n H2=>(n:Int)<2 ^ 63/\Q (.int n) H2
theorem JZ:bootBuiltins "set"=some (.type "set"):=by decide +kernel
theorem qY{p p2 pos YK:Pos} (hr:HC X r) (hgl:Gl X "len") (hml:X.mg "len"=none) (hgs:Gl X "set") (hms:X.mg "set"=none) (he:PE X e te)
  (hs:starEach [e] X.env=[(false,eval e X.env)]:=by rfl) (hs2:starEach [Expr.Call (.Name "set" p2) [e] [] YK] X.env=[(false,eval (.Call (.Name "set" p2) [e] [] YK) X.env)]:=by rfl) :
  PE X (.Call (.Name "len" p) [.Call (.Name "set" p2) [e] [] YK] [] pos) (oq r te):=by
 intro ξ s σ H Q I h;refine Oa (fE I hgl hml bA ?_);refine O4 ?_ hs2 rfl;rw[hs2];refine(show wpAny _ _ (spliced ((false,eval (.Call (.Name "set" p2) [e] [] YK) X.env) :: backTo pos [])) _ _ s from N_ ?_);refine Oa (fE I hgs hms JZ ?_);refine N2 ?_ hs rfl;rw[hs];refine(show wpAny _ _ (spliced ((false,eval e X.env) :: backTo YK [])) _ _ s from N_ (bj (he ξ s σ H _ I h) fun u s1 ⟨x,H1,I1,r1,q1⟩=>Pc ?_));refine bj (hr ξ s1 σ H1 x u _ I1 r1 q1) fun v s2 ⟨S,n,ev,sz,I2,z,q2⟩=>Pc ?_
 obtain⟨o,es,ep,t,ho,hx,hd,hf,c⟩:=sz;cases ev;refine PySem.call_len_set ho hx hd hf (by rw[c];exact z) ⟨.int n,H1,I2.kept (t':=s2.toks+1+1) (fun _ _ z=>z),⟨_,by rw[c]⟩,q2⟩
open PySem PySem.Spec PyProof.Rows PySem.SetTable
open PySem.W (Dat kqdP kqdOk)
def Kr(m:Nat):Nat->Nat->List Nat
 |0,_=>[]
 |n+1,i=>i :: Kr m n ((i*5+1) % (m+1))
theorem EB(m:Nat):∀(n i k:Nat),k<n->(Kr m n i)[k]?=some (lc m k i)
 |0,_,_,h=>absurd h (R6 _)
 |n+1,i,0,_=>rfl
 |n+1,i,k+1,h=>EB m n _ k (by lia)
theorem zR(m:Nat):∀(n i:Nat),(Kr m n i).length=n
 |0,_=>rfl
 |n+1,i=>congrArg Nat.succ (zR m n _)
theorem Dy{m:Nat}(h:((N7 (m+1)).all fun j=>(Kr m (m+1) 0).contains j)=true)(h0:lc m (m+1) 0=0):jE m:=by
 have hit:∀j,j<m+1->∃a,a<m+1/\lc m a 0=j:=fun j hj=>by
  have q:=NK.mp h j (O9.mpr hj);obtain⟨a,ha⟩:=OZ.mp (List.elem_iff.mp q);have la:a<m+1:=by have:=(My.mp ha).1;rw[zR] at this;exact this
  rw[EB m _ _ _ la] at ha;exact⟨a,la,MY ha⟩
 intro i hi j hj;obtain⟨a,la,ea⟩:=hit i hi;obtain⟨b,lb,eb⟩:=hit j hj;by_cases z:a<=b
 ·exact⟨b-a,by lia,by rw[<- ea,<- vS,show a+(b-a)=b by lia];exact eb⟩
 ·exact⟨m+1+b-a,by lia,by rw[<- ea,<- vS,show a+(m+1+b-a)=m+1+b by lia,vS,h0];exact eb⟩
theorem G_:jE 127:=Dy (by decide +kernel) (by decide +kernel)
def EX(t:NX)(n:Nat):Prop:=(t.mask=7/\n<=4)\/(t.mask=31/\n<=18)\/(t.mask=127/\n<=76)
def HB(w:M4)(h0:Heap)(S:Addr)(ds:List Dat)(h:Heap):Prop:=(∀b o,h0.get? b=some o->h.get? b=some o)/\h0.get? S=none/\∃o es ep t l,h.get? S=some o/\o.ExactSet/\o.data=.set es ep t/\Lain t l (es.toList.map (·.1))/\EX t l.length /\
 (∀e∈es.toList,∃d∈ds,Mb w h0 e d)/\(∀d∈ds,∃e∈es.toList,Mb w h0 e d)/\es.size=cnt ds
section
variable{prog:MP}{w:M4}{A:No}{E:Mu->MA->Prop}{s:MA}
theorem yP{S:Addr}{o:Obj}{Q:Unit->MA->Prop}(ho:s.heap.get? S=some o)(hd:o.data=.set es ep t)(L:Lain t l (es.toList.map (·.1))){mk:Nat}(hn:Rl n-1=mk)(hsz:Rl n<=128)(hF:jE mk)(he:es.size<mk)
  (q:∀YC t' l',Lain t' l' (YC.toList.map (·.1))->t'.mask=mk->YC.size=es.size->(∀e,e∈YC.toList↔e∈es.toList)->Q () {s with heap:=s.heap.update S (SI YC t')}) :
  wpAny (model prog w) A (setRelay S n) Q E s:=by
 have hf:t.fits es.size=true:=L.fits (by simp);unfold setRelay;refine Ms (P1 ho hd hf ?_);dsimp only;rw[if_neg (by rw[Oi];lia)];obtain⟨t',l',ws,e1,L',w1,w2,w3,e2,_,_⟩:=z_ hF (es.toList.map (·.1)) (by simp;lia) t.finger (t.movedTo mk) t.led t.plain
 have e3:t.relaid (es.map (·.1)) n=some (t',ws.toArray):=by
  unfold NX.relaid;rw[hn,<- e1];congr 1;apply Array.ext';simp
 rw[e3];have ef:(ws.toArray.filterMap (es[·]?)).toList=ws.filterMap (es.toList[·]?):=by simp
 have len:(ws.filterMap (es.toList[·]?)).length=ws.length:=by
  clear e1 L' w2 w3 e3 ef
  induction ws with
  |nil=>rfl
  |cons v ws ih =>
   have hv:=w1 v MM;rw[Mv] at hv;rw[Oh,Mw hv];simp only[Nl];rw[ih fun u hu=>w1 u (MO _ hu)]
 have maps:(ws.filterMap (es.toList[·]?)).map (·.1)=ws.map ((es.toList.map (·.1)).getD · 0):=by
  clear e1 L' w2 w3 e3 ef len
  induction ws with
  |nil=>rfl
  |cons v ws ih =>
   have hv:=w1 v MM;rw[Mv] at hv;rw[Oh,Mw hv];simp only[Nm];rw[ih fun u hu=>w1 u (MO _ hu)];congr 1;rw[Op,ME,Mw hv];rfl
 have sz:(ws.toArray.filterMap (es[·]?)).size=es.size:=by
  rw[<- NP,ef,len,w3];simp
 refine Ms ?_;show wpAny _ _ (if ((ws.toArray.filterMap (es[·]?)).size != es.size)=true then _ else pure (ws.toArray.filterMap (es[·]?),t')) _ _ _;rw[if_neg (by rw[sz];simp)];refine Mz ?_;refine wpAny_storeSet_of ho hd ?_ (by rw[sz,Oi];lia);refine q _ t' l' (by rw[ef,maps];exact L') e2 sz fun e=>?_
 rw[ef,N9];constructor
 ·rintro⟨v,_,h2⟩;exact MH h2
 ·intro h;obtain⟨v,hv⟩:=OZ.mp h;refine⟨v,w2 v ?_,hv⟩;rw[Mv];exact(My.mp hv).1
open Classical in
theorem Hx{Q:Bool->MA->Prop}(Z:HB w h0 S ds s.heap)(gx:Good d)(rx:PU h0 x (kqdP d) as)(hu:A.units+16<cLine)(hn:ds.length<76)
  (q:∀b h' tk,HB w h0 S (ds++[d]) h'->(∀b,b≠S->h'.get? b=s.heap.get? b)->Q b {s with heap:=h',toks:=tk}) :
  wpAny (model prog w) A (setAdd S x) Q E s:=by
 obtain⟨k0,hS0,o,es,ep,t,l,ho,hx,hd,L,R,m1,m2,c⟩:=Z;have hl:l.length=es.size:=by rw[L.size];simp
 have hle:es.size<=ds.length:=by rw[c];exact sk ds
 unfold setAdd;refine NQ (Ms (AF 8 _ x A s _ as gx.2.1 (Vf k0 rx) (by lia) fun tk=>?_));unfold setAddHashed;refine NQ ?_;unfold setAddHashedIn;have hf:t.fits es.size=true:=L.fits (by simp);refine Ms (P1 (s:={s with toks:=tk}) ho hd hf ?_);dsimp only
 have nos:byScan x es=false:=by
  obtain⟨xs,ex⟩:=gx.2.2;rw[ex] at rx;cases rx with
  |tuple _ _ _ _=>rfl
 rw[nos];simp only[Na,if_false]
 have hg:t.gaveWay=false:=by
  unfold NX.gaveWay;rcases R with⟨e,_⟩|⟨e,_⟩|⟨e,_⟩ <;> rw[e] <;> decide
 obtain⟨j,hj,hjl⟩:=qD L.fill;obtain⟨nE,hE1,hE2⟩:=JH L.full (p:=st t.mask (bR w (kqdP d))) (yi _ _) (iE _ _) hj;have hE:at_ t.mask (bR w (kqdP d)) nE∉l:=by unfold at_;rw[hE2];exact hjl
 have hmask:t.mask<=127:=by rcases R with⟨e,_⟩|⟨e,_⟩|⟨e,_⟩ <;> lia
 have mbs:∀e∈es.toList,∃d,Mb w ({s with toks:=tk}:MA).heap e d:=fun e he=>by
  obtain⟨d',_,m⟩:=m1 e he;exact⟨d',m.at k0⟩
 have new:∀{e:Int×Mu},e∈es.toList->(Mb w s.heap e d↔Mb w h0 e d):=fun {e} he=>by
  obtain⟨d',_,m⟩:=m1 e he;constructor
  ·intro z
   have:=z.uniq (m.at k0)
   rw[this];exact m
  ·intro z;exact z.at k0
 unfold setSearch;refine Ms (yG (s:={s with toks:=tk}) ho hd L mbs hg gx (Vf k0 rx) hu hE ?_ ?_ (nE-0) 0 100000 none rfl (NH _) (by unfold NX.turns at hE1;lia) rfl (fun j hj=>absurd hj (by lia)) (fun j i e hj=>absurd hj (by lia)))
 ·rintro⟨e,he,mb⟩;dsimp only;refine Mz (q _ s.heap tk ⟨k0,hS0,o,es,ep,t,l,ho,hx,hd,L,R,?_,?_,?_⟩ fun _ _=>rfl)
  ·intro e' he';obtain⟨d',h1,h2⟩:=m1 e' he';exact⟨d',OJ _ h1,h2⟩
  ·intro d' Zy;rcases Ni.mp Zy with h1|h1
   ·exact m2 d' h1
   ·cases MK.mp h1;exact⟨e,he,(new he).mp mb⟩
  ·obtain⟨d',h1,h2⟩:=m1 e he
   have:d'=d:=h2.uniq ((new he).mp mb)
   subst this;rw[p_,if_pos h1,c];rfl
 ·intro n n1 n2 n3;dsimp only;refine Ms (P1 (s:={s with toks:=tk}) ho hd hf ?_);dsimp only;obtain⟨p,p1,p2,L2',p3,p4,p5,p6⟩:=L.put n1 n2 (by rcases R with⟨e,_⟩|⟨e,_⟩|⟨e,_⟩ <;> lia)
  have dn:d∉ds:=fun z=>by
   obtain⟨e,he,mb⟩:=m2 d z;exact n3 e he ((new he).mpr mb)
  have hsr:∀(h':Heap) (YC:Array (Int×Mu)) (t':NX) (l':List Nat) (o':Obj) (ep' tk':Nat),(∀b,b≠S->h'.get? b=s.heap.get? b)->h'.get? S=some o'->o'.ExactSet->o'.data=.set YC ep' t'->Lain t' l' (YC.toList.map (·.1))->EX t' l'.length->YC.size=es.size+1 ->
    (∀e,e∈YC.toList↔e=(bR w (kqdP d),x)\/e∈es.toList)->Q true {s with heap:=h',toks:=tk'}:=by
   intro h' YC t' l' o' ep' tk' r1 r2 r3 r4 r5 r6 r7 r8;refine q _ h' tk' ⟨fun b ob hb=>?_,hS0,o',YC,ep',t',l',r2,r3,r4,r5,r6,?_,?_,?_⟩ r1
   ·rw[r1 b (fun z=>by rw[z,hS0] at hb;cases hb)];exact k0 b ob hb
   ·intro e he;rcases (r8 e).mp he with rfl|he
    ·exact⟨d,M5 _ MM,gx,⟨as,rx⟩,rfl⟩
    ·obtain⟨d',h1,h2⟩:=m1 e he;exact⟨d',OJ _ h1,h2⟩
   ·intro d' Zy;rcases Ni.mp Zy with h1|h1
    ·obtain⟨e,he,mb⟩:=m2 d' h1;exact⟨e,(r8 e).mpr (.inr he),mb⟩
    ·cases MK.mp h1;exact⟨_,(r8 _).mpr (.inl rfl),gx,⟨as,rx⟩,rfl⟩
   ·rw[p_,if_neg dn,r7,c]
  have esl:OQ es p (bR w (kqdP d),x)=(es.toList.take p++(bR w (kqdP d),x) :: es.toList.drop p).toArray:=by
   have:=h_ es.toList p (bR w (kqdP d),x) (by simp;lia)
   simpa using this
  have tail:∀(t1:NX),Lain t1 (l.take p++at_ t.mask (bR w (kqdP d)) n :: l.drop p) ((es.toList.map (·.1)).take p++bR w (kqdP d) :: (es.toList.map (·.1)).drop p)->t1.mask=t.mask ->
    wpAny (model prog w) A (do
     storeSet S (OQ es p (bR w (kqdP d),x)) t1
     if (!false && t1.tooFull)=true then do
      setRelay S (SJ (es.size+1))
      pure true
     else pure true) Q E {s with toks:=tk}:=by
   intro t1 L1 hmk;have L1':Lain t1 (l.take p++at_ t.mask (bR w (kqdP d)) n :: l.drop p) ((OQ es p (bR w (kqdP d),x)).toList.map (·.1)):=by rw[esl];simpa using L1
   have szi:(OQ es p (bR w (kqdP d),x)).size=es.size+1:=by rw[esl];simp;lia
   have mem:∀e,e∈(OQ es p (bR w (kqdP d),x)).toList↔e=(bR w (kqdP d),x)\/e∈es.toList:=fun e=>by rw[esl];exact kJ
   have ll:(l.take p++at_ t.mask (bR w (kqdP d)) n :: l.drop p).length=es.size+1:=by simp;lia
   obtain⟨o1,u1,u2,u3⟩:=Ej (OQ es p (bR w (kqdP d),x)) t1 ho hd hx;refine Ms (wpAny_storeSet_of (s:={s with toks:=tk}) ho hd ?_ (by rw[szi,Oi];lia));by_cases tf:t1.tooFull=true
   ·rw[tf];simp only[Vd,Bool.and_self,if_true]
    have h5:es.size=4\/es.size=18:=by
     unfold WP VL at tf;rw[L1'.place,L1'.nodum,hmk] at tf;have tf':=of_decide_eq_true tf;rw[MU,ll] at tf';rcases R with⟨e,e'⟩|⟨e,e'⟩|⟨e,e'⟩
     ·rw[e] at tf';simp at tf';exact .inl (by lia)
     ·rw[e] at tf';simp at tf';exact .inr (by lia)
     ·rw[e] at tf';simp at tf';lia
    have go:∀mk,Rl (SJ (es.size+1))-1=mk->Rl (SJ (es.size+1))<=128->jE mk->es.size+1<mk->((mk=31/\es.size+1<=18)\/(mk=127/\es.size+1<=76))->wpAny (model prog w) A (do
      setRelay S (SJ (es.size+1))
      pure true) Q E {s with toks:=tk,heap:=s.heap.update S (SI (OQ es p (bR w (kqdP d),x)) t1)}:=by
     intro mk e1 e2 e3 e4 e5;refine Ms (yP (s:={s with toks:=tk,heap:=s.heap.update S (SI (OQ es p (bR w (kqdP d),x)) t1)}) u1 u3 L1' e1 e2 e3 (by rw[szi];exact e4) fun es2 t2 l2 L2 v1 v2 v3=>?_);obtain⟨o2,w1,w2,w3⟩:=Ej es2 t2 u1 u3 u2;refine Mz (hsr _ es2 t2 l2 o2 _ tk (fun b hb=>?_) w1 w2 w3 L2 (.inr ?_) (by rw[v2,szi]) fun e=>(v3 e).trans (mem e))
     ·rw[Nt _ _ (N1 hb),Nt _ _ (N1 hb)]
     ·have:l2.length=es.size+1:=by rw[L2.size];simp;lia
      rw[this,v1];exact e5
    rcases h5 with h5|h5
    ·exact go 31 (by rw[h5];decide) (by rw[h5];decide) JL (by lia) (.inl ⟨rfl,by lia⟩)
    ·exact go 127 (by rw[h5];decide) (by rw[h5];decide) G_ (by lia) (.inr ⟨rfl,by lia⟩)
   ·rw[QF.mpr tf];simp only[Ve,Na,if_false];refine Mz (hsr _ _ t1 _ o1 _ tk (fun b hb=>Nt _ _ (N1 hb)) u1 u2 u3 L1' ?_ szi mem);rw[ll];unfold WP VL at tf;rw[L1'.place,L1'.nodum,hmk,MU,ll] at tf;rcases R with⟨e,e'⟩|⟨e,e'⟩|⟨e,e'⟩
    ·refine .inl ⟨hmk.trans e,?_⟩;rw[e] at tf;simp at tf;lia
    ·refine .inr (.inl ⟨hmk.trans e,?_⟩);rw[e] at tf;simp at tf;lia
    ·exact .inr (.inr ⟨hmk.trans e,by lia⟩)
  rw[p2];split
  ·refine Ms (JI 8 8 (s:={s with toks:=tk}) gx.2.1 (MB _) (Vf k0 rx) fun b=>?_);cases b
   ·exact tail _ (L2'.plain false) p3
   ·exact tail _ L2' p3
  ·exact Ms (Mz (tail _ L2' p3))
end
def Ik(K:Fg):V->Hp->(Nat->Hp->Prop)->Prop:=fun x H Q=>∃k a xs ds,x=.ref a/\Kn.sq k K H a xs/\RepL K H xs ds/\(∀d∈ds,Good d)/\ds.length<76/\Q (cnt ds) H
theorem tQ{X:Cx}(hc:X.calm=true)(hu:X.A.units+64<cLine):HC X (Ik X.K):=by
 intro ξ s σ H x u Q I r h;obtain⟨k,a,xs,ds,rfl,q1,q2,gd,hl,q⟩:=h;cases r;obtain⟨fm,rv,sq⟩:=k.inv I q1;have len1:fm.length=ds.length:=by rw[<- Pm rv];exact q2.length
 have rd:∀(i:Nat) (v:Mu),fm.toArray[i]?=some v->∃d as,ds[i]?=some d/\PU s.heap v (kqdP d) as:=by
  intro i v hv;rw[UE] at hv;obtain⟨hi,e⟩:=My.mp hv;have hx:i<xs.length:=by rw[Pm rv];exact hi
  obtain⟨v',e1,rl⟩:=rv.get (Mw hx);obtain⟨d,d1,d2⟩:=RepL.get q2 (Mw hx);obtain⟨as,p⟩:=Rep.reads I d2 rl;rw[hv] at e1;cases e1;exact⟨d,as,d1,p⟩
 have hS0:=GE s.heap;refine vB k (I.ok.hd hc) sq (fun i h=>HB X.w s.heap s.heap.objs.size (ds.take i) h) ?_ ?_ ?_ ?_
 ·intro led h g kp;refine⟨kp,hS0,_,#[],0,.fresh 0 0 led,[],g,⟨rfl,rfl,rfl⟩,rfl,Lain.fresh 0 0 led,.inl ⟨rfl,NH _⟩,fun e he=>absurd he (by simp),fun d hd=>absurd hd (by simp),?_⟩;simp[cnt,lD]
 ·rintro i h h' ⟨k0,k1,o,es,ep,t,l,ho,rest⟩ kp;refine⟨fun b ob hb=>kp b ob (fun z=>?_) (k0 b ob hb),k1,o,es,ep,t,l,kp _ _ (MC (Pq _)) ho,rest⟩
  have:=MG hb
  rw[z] at this;exact absurd this (Nat.not_lt.mpr (PP _))
 ·intro A' i v s' Q' E' hA hi hv hz hq;obtain⟨d,as,d1,d2⟩:=rd i v hv;have ht:ds.take (i+1)=ds.take i++[d]:=by rw[Nx,d1];rfl
  refine Hx (prog:=X.prog) hz (gd d (MH d1)) d2 (by lia) (by rw[Ng];lia) fun b h' tk z kp=>hq b h' tk (by rw[ht];exact z) kp
 ·intro h' tk z kp;have ez:ds.take fm.toArray.size=ds:=by rw[MU,len1,RL]
  rw[ez] at z;obtain⟨k0,_,o,es,ep,t,l,ho,hx,hd,L,_,_,_,c⟩:=z;exact⟨_,cnt ds,rfl,⟨o,es,ep,t,ho,hx,hd,L.fits (by simp),c⟩,I.kept (t':=tk) k0,q⟩
open PySem.W (Dat kqdOk kqdP kqdPs)
def zf(K:Fg):V->List V->Hp->VK->Prop:=fun x xs H Q=>∃(a:Addr) (y:V) (ds:List Dat) (d:Dat) (j:Nat),x=.ref a/\xs=[y]/\Rep K H y d/\Rep K H (.ref a) (.list ds)/\(∀e∈ds,kqdOk 8 e=true)/\kqdOk 8 d=true/\ds[j]?=some d/\(∀m,m<j->ds[m]?≠some d)/\ds.length<=1000/\Q (.int j) H
open Classical in
theorem wf(he:kqdOk 8 e=true)(hd:kqdOk 8 d=true):RG (kqdP e) (kqdP d)=decide (d=e):=by
 have h:=uZ (ds:=[e]) (d:=d) (fun x hx=>by rw[MK.mp hx];exact he) hd;rw[kqdPs,kqdPs,Td,List.any_nil,VG] at h;rw[h];by_cases z:d=e
 ·simp[z]
 ·simp[z]
theorem kQ:∀{ds:List Dat} {i:Nat},(kqdPs ds)[i]? = (ds[i]?).map kqdP
 |[],i=>by rw[kqdPs];simp
 |d :: ds,0=>by rw[kqdPs];rfl
 |d :: ds,i+1=>by rw[kqdPs,Ro,Ro,kQ]
theorem kP:∀ds:List Dat,(kqdPs ds).length=ds.length
 |[]=>by rw[kqdPs];rfl
 |d :: ds=>by rw[kqdPs,Nl,Nl,kP]
open Classical in
theorem CV{X:Cx} (hu:X.A.units+64<cLine):Bv X "list.index" (zf X.K):=by
 intro ξ s σ H x xs v us Q I rx rv h;obtain⟨a,y,ds,d,j,rfl,rfl,hd,he,ka,kd,e1,e2,ln,q⟩:=h;obtain⟨u,rfl,ru⟩:=vals1 rv;obtain⟨as,ra⟩:=Rep.reads I hd ru;obtain⟨bs,rb⟩:=Rep.reads I he rx;rw[kqdP] at rb;cases rx;generalize hp:kqdPs ds=ps at rb;cases rb with
 |@list _ o fm n _ _ h1 h2 h3 h4 =>
  obtain⟨c,dct,dt,sl⟩:=o;replace h2:c=.type "list":=h2;replace h3:dt=.seq fm n:=h3;subst h2 h3;have ZQ:Wz ps=true:=by rw[<- hp];exact(RH ka).1
  have Zq:=V3 ps _ _ ZQ h4;have lj:j<ds.length:=(My.mp e1).1
  have at_:∀m (hm:m<fm.size),RG (Qm s.heap fm[m]) (kqdP d)=decide (ds[m]?=some d):=by
   intro m hm;have g:(fm.toList.map (Qm s.heap))[m]?=some (Qm s.heap fm[m]):=by rw[ME,NM,NO hm];rfl
   rw[Zq,<- hp,kQ] at g;obtain⟨e,ge,gp⟩:=MI.mp g;rw[<- gp,wf (ka e (MH ge)) kd,ge];by_cases z:d=e
   ·simp[z]
   ·have:e≠d:=fun w=>z w.symm
    simp[z,this]
  have szl:fm.size=ds.length:=by
   have:=congrArg QI Zq
   rw[Mv,NP,<- hp] at this;rw[this,kP]
  have hm:wpAny (model X.prog X.w) X.A (call (.builtin "list.index") [.ref a,u]) (EP X ξ σ Q) X.xe s:=by
   refine Pf F.slot_list_index ⟨_,h1,rfl⟩ F.entry_list_index (F.args_list_index_2 _ _) (SeqAt.list_indexAt a fm n dct sl u (fun y=>RG (Qm s.heap y) (kqdP d)) j (by lia) (by lia) ?_ ?_) ⟨h1,WQ h4 ra ZQ (OF 8 d kd).1 ?_,⟨.int j,H,I.tok _,⟨_,rfl⟩,q⟩⟩
   ·rw[at_ j (by lia),e1];simp
   ·intro m hm hmj;rw[at_ m hm];exact decide_eq_false (e2 m hmj)
   ·have l:=(OF 8 d kd).2
    have:=QX (RZ ps) (kqdP d).depth
    lia
  exact hm
theorem GV{K:Fg}{Q:VK}{j:Nat}(hd:Rep K H y d)(he:Rep K H (.ref a) (.list ds))(ka:∀e∈ds,kqdOk 8 e=true)(kd:kqdOk 8 d=true)(e1:ds[j]?=some d)(e2:∀m,m<j->ds[m]?≠some d)(l:ds.length<=1000)(q:Q (.int j) H):zf K (.ref a) [y] H Q :=
 ⟨a,y,ds,d,j,rfl,rfl,hd,he,ka,kd,e1,e2,l,q⟩
open PySem.W (Dat kqdOk kqdP kqdPs)
def KE(scope sc:Scope):Scope:={scope with names:=FE scope sc}
end L2
namespace Rk
def pt(r:List Int)(p:Nat):Int:=r.getD p 0
end Rk
namespace Dn
open Rk
abbrev Tp:=List Int×List Int
def EQ(t:Tp)(c:List Int):Bool:=(SK t.1 c).all fun z=>decide (z.1<=z.2)
def beh(t:Tp)(c:List Int):List Int:=(N7 c.length).map fun k=>pt c k-pt t.1 k+pt t.2 k
end Dn
namespace L2
open PySem PySem.Spec PyProof.Rows
open PySem.W (Dat)
abbrev cu (h:Heap) (T:Addr) (a b c:Mu):Prop:=h.get? T=some {cls:=.type "tuple",data:=.seq #[a,b,c]}
structure Hy (z TI TO i1 i2 i3 l1 l2 l3:Addr):Prop where
 a:i1<i2
 a':i2<i3
 b:i3<TI
 c:TI<TO
 d:TO<z
 e:l1<i1
 f:l2<i1
 g:l3<i1
theorem vh{z TI TO i1 i2 i3 l1 l2 l3:Nat}(a:i1<i2)(a':i2<i3)(b:i3<TI)(c:TI<TO)(d:TO<z)(e:l1<i1)(f:l2<i1)(g:l3<i1) :
  (i1≠z/\i2≠z/\i3≠z/\TO≠i1/\TO≠i2/\TO≠i3/\TO≠z/\TI≠z/\TI≠TO/\TI≠i1/\TI≠i2/\TI≠i3/\i1≠i2/\i1≠i3/\i2≠i3)/\l1≠z/\l1≠TO/\l1≠i2/\l1≠i3/\l2≠z/\l2≠TO/\l2≠i1/\l2≠i3/\l3≠z/\l3≠TO/\l3≠i1/\l3≠i2:=by
 have kT:=MJ b c;have kz:=MJ kT d;have jI:=MJ a' b;have jT:=MJ a' kT;have jz:=MJ a' kz;have ik:=MJ a a';have iI:=MJ a jI;have iT:=MJ a jT;have iz:=MJ a jz;have tz:=MJ c d;exact⟨⟨MC iz,MC jz,MC kz,NG iT,NG jT,NG kT,MC d,MC tz,MC c,NG iI,NG jI,NG b,MC a,MC ik,MC a'⟩,MC (MJ e iz),MC (MJ e iT),MC (MJ e a),MC (MJ e ik),MC (MJ f iz),MC (MJ f iT),MC f,MC (MJ f ik),MC (MJ g iz),MC (MJ g iT),MC g,MC (MJ g a)⟩
section
variable{prog:MP}{w:M4}{A:No}{E:Mu->MA->Prop}{s:MA}{z TI TO i1 i2 i3 l1 l2 l3:Addr}{xs ys zs:Array Mu}{S1 S2 S3:Nat->Heap->Prop}{k:Nat}
structure LX (z TI TO i1 i2 i3:Addr) (S1 S2 S3:Nat->Heap->Prop) (k:Nat) (h:Heap):Prop where
 z:Qw h z TI TO .none
 i:cu h TI (.ref i1) (.ref i2) (.ref i3)
 o:∃a b c,cu h TO a b c
 s1:S1 k h
 s2:S2 k h
 s3:S3 k h
theorem jR{Q:Unit->MA->Prop} (hT:cu s.heap T a b c) (q:∀h',h'.get? T=some {cls:=.type "tuple",data:=.seq ((#[a,b,c]:Array Mu).setIfInBounds j x)}->PL T s.heap h'->Q () {s with heap:=h'}) :
  wpAny (model prog w) A (updateSeq T (·.setIfInBounds j x)) Q E s:=by
 refine Re hT rfl (q _ ?_ (Pi ..));rw[NB _ hT rfl];simp[Oo]
theorem xA(D:Hy z TI TO i1 i2 i3 l1 l2 l3)(W1:Bx prog w i1 l1 xs S1)(W2:Bx prog w i2 l2 ys S2)(W3:Bx prog w i3 l3 zs S3)(st:LX z TI TO i1 i2 i3 S1 S2 S3 k s.heap){Q:Option Mu->MA->Prop} :
  (∀x y y3,xs[k]?=some x->ys[k]?=some y->zs[k]?=some y3->(∀h',Qw h' z TI TO (rawInt s.heap.objs.size)->cu h' TI (.ref i1) (.ref i2) (.ref i3)->(∃a b c,cu h' TO a b c)->S1 (k+1) h'->S2 (k+1) h'->S3 (k+1) h'->cu h' s.heap.objs.size x y y3 ->
   (∀c o,c∉[z,TI,TO,i1,i2,i3]->s.heap.get? c=some o->h'.get? c=some o)->Q (some (.ref s.heap.objs.size)) {s with heap:=h'})->wpAny (model prog w) A (pyNext (.ref z)) Q E s) /\
  (A.handled=none->(xs[k]?=none\/ys[k]?=none\/zs[k]?=none)->(∀h',(∀c o,c∉[z,TI,TO,i1,i2,i3]->s.heap.get? c=some o->h'.get? c=some o)->Q none {s with heap:=h'})->wpAny (model prog w) A (pyNext (.ref z)) Q E s):=by
 obtain⟨d1,d1',d2,d3,d4,d5,d6,d7⟩:=D;obtain⟨hz,hI,⟨a,b,c,hO⟩,t1,t2,t3⟩:=st;have ty:s.TypeIs (.ref z) "zip":=⟨_,hz,rfl⟩
 obtain⟨⟨n1,n2,n3,ZF,ZV,nO3,YJ,Zi,ZE,Z7,Z8,nI3,n12,n13,n23⟩,q1,q2,q3,q4,q5,q6,q7,q8,q9,qa,qb,qc⟩:=vh d1 d1' d2 d3 d4 d5 d6 d7
 have m1:∀{c h h':_},c∈[z,TO,i2,i3]->QN c h h'->∀k,S1 k h->S1 k h':=fun {c h h'} hc x k t=>W1.keep k h h' t fun b hb o e=>x b o (by
  rcases hb with rfl|rfl <;> (simp only[MD,MF,or_false] at hc;rcases hc with rfl|rfl|rfl|rfl <;> first|assumption|(apply N1;assumption))) e
 have m2:∀{c h h':_},c∈[z,TO,i1,i3]->QN c h h'->∀k,S2 k h->S2 k h':=fun {c h h'} hc x k t=>W2.keep k h h' t fun b hb o e=>x b o (by
  rcases hb with rfl|rfl <;> (simp only[MD,MF,or_false] at hc;rcases hc with rfl|rfl|rfl|rfl <;> first|assumption|(apply N1;assumption))) e
 have m3:∀{c h h':_},c∈[z,TO,i1,i2]->QN c h h'->∀k,S3 k h->S3 k h':=fun {c h h'} hc x k t=>W3.keep k h h' t fun b hb o e=>x b o (by
  rcases hb with rfl|rfl <;> (simp only[MD,MF,or_false] at hc;rcases hc with rfl|rfl|rfl|rfl <;> first|assumption|(apply N1;assumption))) e
 constructor
 ·intro x y y3 hx hy hy3 q;unfold pyNext;refine Ms (O7 (NF (name:=Om "__next__") ty Od (N5 Od ty Qe ?_ (PY _))));show wpAny _ _ (field (.ref z) 2 >>= _) _ _ _;refine Ms (Nn hz rfl (x:=.bool false) rfl ?_);show wpAny _ _ (field (.ref z) 3 >>= _) _ _ _;refine Ms (Nn hz rfl (x:=.ref TI) rfl (Ms (Nz hI rfl ?_)));show wpAny _ _ (M6 (.ref z) >>= _) _ _ _;refine Ms ?_;unfold M6;refine Ms (Nn hz rfl (x:=.none) rfl (Mz ?_));simp only[if_true];refine Ms (SE (Ms (Nn hz rfl (x:=.ref TO) rfl (Ms (NI hz (by simp) fun h1 YB Yb=>?_)))));replace YB:Qw h1 z TI TO .ellipsis:=YB;refine Ms ?_;simp only[RJ,R5,OG,QP];refine Ms (Ms (OL ?_));show wpAny _ _ (M7 (.ref i1) >>= _) _ _ _;refine Ms (W1.item _ _ _ k x _ (m1 (by simp) Yb.extBut k t1) hx fun h2 Z_ hs2=>Mz ?_);have Zm:cu h2 TO a b c:=hs2.extBut _ _ ZF (Yb.extBut _ _ YJ hO);refine Ms (Nz Zm rfl (Ms (jR Zm fun h3 Zg hs3=>?_)));replace Zg:cu h3 TO x b c:=Zg;refine Ms (Qh (Mz (Ms (Ms (OL ?_)))));show wpAny _ _ (M7 (.ref i2) >>= _) _ _ _;refine Ms (W2.item _ _ _ k y _ (m2 (by simp) hs3.extBut k (m2 (by simp) hs2.extBut k (m2 (by simp) Yb.extBut k t2))) hy fun h4 t24 YA=>Mz ?_);have ZZ:cu h4 TO x b c:=YA.extBut _ _ ZV Zg;refine Ms (Nz ZZ rfl (Ms (jR ZZ fun h5 ZI YE=>?_)));replace ZI:cu h5 TO x y c:=ZI;refine Ms (Qh (Mz (Ms (Ms (OL ?_)))));show wpAny _ _ (M7 (.ref i3) >>= _) _ _ _;refine Ms (W3.item _ _ _ k y3 _ (m3 (by simp) YE.extBut k (m3 (by simp) YA.extBut k (m3 (by simp) hs3.extBut k (m3 (by simp) hs2.extBut k (m3 (by simp) Yb.extBut k t3))))) hy3 fun h6 t36 ZD=>Mz ?_);have hO6:cu h6 TO x y c:=ZD.extBut _ _ nO3 ZI;refine Ms (Nz hO6 rfl (Ms (jR hO6 fun h7 hO7 Zd=>?_)));replace hO7:cu h7 TO x y y3:=hO7;refine Ms (Qh (Mz (Mz (Ms (Nz hO7 rfl (Ms (UZ ?_)))))));have sz:h7.objs.size=s.heap.objs.size:=by rw[Zd.1,ZD.1,YE.1,YA.1,hs3.1,hs2.1,Yb.1]
  have hz7:Qw h7 z TI TO .ellipsis:=Zd.extBut _ _ YJ.symm (ZD.extBut _ _ n3.symm (YE.extBut _ _ YJ.symm (YA.extBut _ _ n2.symm (hs3.extBut _ _ YJ.symm (hs2.extBut _ _ n1.symm YB)))))
  have all7:∀c o,c∉[z,TI,TO,i1,i2,i3]->s.heap.get? c=some o->h7.get? c=some o:=fun c o hc e=>by
   simp only[MD,MF,or_false,not_or] at hc;exact Zd.extBut _ _ hc.2.2.1 (ZD.extBut _ _ hc.2.2.2.2.2 (YE.extBut _ _ hc.2.2.1 (YA.extBut _ _ hc.2.2.2.2.1 (hs3.extBut _ _ hc.2.2.1 (hs2.extBut _ _ hc.2.2.2.1 (Yb.extBut _ _ hc.1 e))))))
  have hI7:cu h7 TI (.ref i1) (.ref i2) (.ref i3):=Zd.extBut _ _ ZE (ZD.extBut _ _ nI3 (YE.extBut _ _ ZE (YA.extBut _ _ Z8 (hs3.extBut _ _ ZE (hs2.extBut _ _ Z7 (Yb.extBut _ _ Zi hI))))));have zlt:z<h7.objs.size:=MG hz7;show wpAny _ _ (Ox (.ref z) (.ref h7.objs.size) >>= _) _ _ _;refine Ms ?_;unfold Ox;have Z4:Qw (h7.push {cls:=.type "tuple",data:=.seq #[x,y,y3]}) z TI TO .ellipsis:=Mt _ hz7;refine Ms (NI Z4 (by simp) fun h9 hz9 hs9=>?_);replace hz9:Qw h9 z TI TO (rawInt h7.objs.size):=hz9;refine NI hz9 (by simp) fun h10 ZR hs10=>?_;replace ZR:Qw h10 z TI TO (rawInt h7.objs.size):=ZR
  have up:∀c o,c≠z->h7.get? c=some o->h10.get? c=some o:=fun c o c1 e=>hs10.extBut _ _ c1 (hs9.extBut _ _ c1 (Mt _ e))
  have hT:cu h10 h7.objs.size x y y3:=hs10.extBut _ _ (NG zlt) (hs9.extBut _ _ (NG zlt) (ML _ rfl));have t1':S1 (k+1) h10:=W1.keep _ _ _ (m1 (by simp) Zd.extBut _ (m1 (by simp) ZD.extBut _ (m1 (by simp) YE.extBut _ (m1 (by simp) YA.extBut _ (m1 (by simp) hs3.extBut _ Z_))))) fun c hc o e=>up c o (by rcases hc with rfl|rfl <;> first|assumption|(apply N1;assumption)) e
  have t2':S2 (k+1) h10:=W2.keep _ _ _ (m2 (by simp) Zd.extBut _ (m2 (by simp) ZD.extBut _ (m2 (by simp) YE.extBut _ t24))) fun c hc o e=>up c o (by rcases hc with rfl|rfl <;> first|assumption|(apply N1;assumption)) e
  have t3':S3 (k+1) h10:=W3.keep _ _ _ (m3 (by simp) Zd.extBut _ t36) fun c hc o e=>up c o (by rcases hc with rfl|rfl <;> first|assumption|(apply N1;assumption)) e
  rw[sz] at ZR hT;refine Mz ⟨_,rfl,?_⟩;show wpAny _ _ (pure (some (MX h7.objs.size))) _ _ _;rw[sz];exact Mz (q h10 ZR (up _ _ Zi hI7) ⟨_,_,_,up _ _ YJ hO7⟩ t1' t2' t3' hT fun c o hc e=>up c o (fun x=>hc (by simp[x])) (all7 c o hc e))
 ·intro hh hend q
  have stop:∀(h9:Heap) (e:Addr),(∀c o,c∉[z,TI,TO,i1,i2,i3]->s.heap.get? c=some o->h9.get? c=some o)->(∃o,h9.get? e=some o/\o.cls=.type "StopIteration") ->
    wpAny (model prog w) A (isInstance (.ref e) (.type "StopIteration") >>= fun b=>if b=true then pure none else throw (.ref e)) Q E {s with heap:=h9}:=fun h9 e kp ⟨o,ho,oc⟩ =>
   Ms (QZ (T:="StopIteration") (b:=true) ⟨o,ho,oc⟩ SD (Mz (q _ kp)))
  unfold pyNext;refine Ms (O7 (NF (name:=Om "__next__") ty Od (N5 Od ty Qe ?_ (PY _))));show wpAny _ _ (field (.ref z) 2 >>= _) _ _ _;refine Ms (Nn hz rfl (x:=.bool false) rfl ?_);show wpAny _ _ (field (.ref z) 3 >>= _) _ _ _;refine Ms (Nn hz rfl (x:=.ref TI) rfl (Ms (Nz hI rfl ?_)));show wpAny _ _ (M6 (.ref z) >>= _) _ _ _;refine Ms ?_;unfold M6;refine Ms (Nn hz rfl (x:=.none) rfl (Mz ?_));simp only[if_true];refine Ms (SE (Ms (Nn hz rfl (x:=.ref TO) rfl (Ms (NI hz (by simp) fun h1 YB Yb=>?_)))));replace YB:Qw h1 z TI TO .ellipsis:=YB;refine Ms ?_;simp only[RJ,R5,OG,QP];refine Ms (Ms (OL ?_));show wpAny _ _ (M7 (.ref i1) >>= _) _ _ _;cases hx:xs[k]? with
  |none =>
   refine Ms (W1.fin _ _ _ k _ hh (m1 (by simp) Yb.extBut k t1) hx fun h2 e hs2 ⟨oe,YN,YX⟩=>?_);have ZS:Qw h2 z TI TO .ellipsis:=hs2 _ _ n1.symm YB;have ez:e≠z:=fun x=>by subst x;rw[ZS] at YN;cases YN;simp at YX
   refine NI ZS (by simp) fun h3 _ hs3=>stop h3 e (fun c o hc u=>?_) ⟨oe,hs3.extBut _ _ ez YN,YX⟩
   simp only[MD,MF,or_false,not_or] at hc;exact hs3.extBut _ _ hc.1 (hs2 _ _ hc.2.2.2.1 (Yb.extBut _ _ hc.1 u))
  |some x =>
   refine Ms (W1.item _ _ _ k x _ (m1 (by simp) Yb.extBut k t1) hx fun h2 Z_ hs2=>Mz ?_);have Zm:cu h2 TO a b c:=hs2.extBut _ _ ZF (Yb.extBut _ _ YJ hO);refine Ms (Nz Zm rfl (Ms (jR Zm fun h3 Zg hs3=>?_)));replace Zg:cu h3 TO x b c:=Zg;refine Ms (Qh (Mz (Ms (Ms (OL ?_)))));show wpAny _ _ (M7 (.ref i2) >>= _) _ _ _;cases hy:ys[k]? with
   |none =>
    refine Ms (W2.fin _ _ _ k _ hh (m2 (by simp) hs3.extBut k (m2 (by simp) hs2.extBut k (m2 (by simp) Yb.extBut k t2))) hy fun h4 e YA ⟨oe,YN,YX⟩=>?_);have hz4:Qw h4 z TI TO .ellipsis:=YA _ _ n2.symm (hs3.extBut _ _ YJ.symm (hs2.extBut _ _ n1.symm YB));have ez:e≠z:=fun x=>by subst x;rw[hz4] at YN;cases YN;simp at YX
    refine NI hz4 (by simp) fun h5 _ YE=>stop h5 e (fun c o hc u=>?_) ⟨oe,YE.extBut _ _ ez YN,YX⟩
    simp only[MD,MF,or_false,not_or] at hc;exact YE.extBut _ _ hc.1 (YA _ _ hc.2.2.2.2.1 (hs3.extBut _ _ hc.2.2.1 (hs2.extBut _ _ hc.2.2.2.1 (Yb.extBut _ _ hc.1 u))))
   |some y =>
    have hy3:zs[k]?=none:=by rcases hend with u|u|u;rw[hx] at u;cases u;rw[hy] at u;cases u;exact u
    refine Ms (W2.item _ _ _ k y _ (m2 (by simp) hs3.extBut k (m2 (by simp) hs2.extBut k (m2 (by simp) Yb.extBut k t2))) hy fun h4 t24 YA=>Mz ?_);have ZZ:cu h4 TO x b c:=YA.extBut _ _ ZV Zg;refine Ms (Nz ZZ rfl (Ms (jR ZZ fun h5 ZI YE=>?_)));refine Ms (Qh (Mz (Ms (Ms (OL ?_)))));show wpAny _ _ (M7 (.ref i3) >>= _) _ _ _;refine Ms (W3.fin _ _ _ k _ hh (m3 (by simp) YE.extBut k (m3 (by simp) YA.extBut k (m3 (by simp) hs3.extBut k (m3 (by simp) hs2.extBut k (m3 (by simp) Yb.extBut k t3))))) hy3 fun h6 e ZD ⟨oe,YN,YX⟩=>?_);have hz6:Qw h6 z TI TO .ellipsis:=ZD _ _ n3.symm (YE.extBut _ _ YJ.symm (YA.extBut _ _ n2.symm (hs3.extBut _ _ YJ.symm (hs2.extBut _ _ n1.symm YB))));have ez:e≠z:=fun x=>by subst x;rw[hz6] at YN;cases YN;simp at YX
    refine NI hz6 (by simp) fun h7 _ Zd=>stop h7 e (fun c o hc u=>?_) ⟨oe,Zd.extBut _ _ ez YN,YX⟩
    simp only[MD,MF,or_false,not_or] at hc;exact Zd.extBut _ _ hc.1 (ZD _ _ hc.2.2.2.2.2 (YE.extBut _ _ hc.2.2.1 (YA.extBut _ _ hc.2.2.2.2.1 (hs3.extBut _ _ hc.2.2.1 (hs2.extBut _ _ hc.2.2.2.1 (Yb.extBut _ _ hc.1 u))))))
def BH (l:Addr):Obj:={cls:=.type "tuple_iterator",data:=.fields #[.ref l,.int 0 0]}
def zI(h:Heap)(l1 l2 l3:Addr):Heap:=((h.push (BH l1)).push (BH l2)).push (BH l3)
def zJ (h:Heap) (l1 l2 l3:Addr):Heap:=(zI h l1 l2 l3).push {cls:=.type "tuple",data:=.seq #[.ref h.objs.size,.ref (h.push (BH l1)).objs.size,.ref ((h.push (BH l1)).push (BH l2)).objs.size]}
def zK (h:Heap) (l1 l2 l3:Addr):Heap:=(zJ h l1 l2 l3).push {cls:=.type "tuple",data:=.seq #[.none,.none,.none]}
def E1 (h:Heap) (l1 l2 l3:Addr):Heap:=(zK h l1 l2 l3).push {cls:=.type "zip",data:=.fields #[.none,.bool false,.bool false,.ref (zI h l1 l2 l3).objs.size,.ref (zJ h l1 l2 l3).objs.size]}
theorem By(l1 l2 l3:Addr) (xs ys zs:Array Mu):Meets (OK.«zip.__new__» ⟨[.type "zip",.ref l1,.ref l2,.ref l3],[]⟩) (fun _ R s=>s.heap.IsTuple l1 xs/\s.heap.IsTuple l2 ys/\s.heap.IsTuple l3 zs /\
  R (.ok (.ret (.ref (zK s.heap l1 l2 l3).objs.size))) {s with heap:=E1 s.heap l1 l2 l3}) :=
 .of_wp fun prog w A R s h=>by
  obtain⟨hp,g,d,tk,os⟩:=s;obtain⟨a1,a2,a3,h⟩:=h;have hsub:=sub_zip;have c1:Ry (Qi ⟨hp,g,d,tk,os⟩) l1 xs:=a1;have c2:Ry (Qi ⟨hp.push {cls:=.type "tuple_iterator",data:=.fields #[.ref l1,.int 0 0]},g,d,tk,os⟩) l2 ys:=Kn.tR .T a2 fun o e=>Mt _ e
  have c3:Ry (Qi ⟨(hp.push {cls:=.type "tuple_iterator",data:=.fields #[.ref l1,.int 0 0]}).push {cls:=.type "tuple_iterator",data:=.fields #[.ref l2,.int 0 0]},g,d,tk,os⟩) l3 zs:=Kn.tR .T a3 fun o e=>Mt _ (Mt _ e)
  wp_walk using N8 c1,N8 c2,N8 c3;exact⟨_,rfl,h⟩
theorem nO(a b c:Mu):checkTypeCall "zip" ⟨[a,b,c],[]⟩=pure ():=by kernel_rfl
theorem rJ(a b c:Mu):checkBuiltinCall "zip.__new__" ⟨[.type "zip",a,b,c],[]⟩=pure ():=by kernel_rfl
theorem uY(a b c d:Mu):argsOk "object.__init__" ⟨[a,b,c,d],[]⟩:=by
 unfold argsOk;rw[signature?_of (id:="object.__init__") (n:=['_','_','t','i','n','i','_','_']) (o:=['t','c','e','j','b','o']) (by kernel_rfl) PySem.F.owner_object];kernel_rfl
theorem E3{l1 l2 l3:Addr}{xs ys zs:Array Mu}{Q:Mu->MA->Prop}(a1:s.heap.IsTuple l1 xs)(a2:s.heap.IsTuple l2 ys)(a3:s.heap.IsTuple l3 zs)
  (q:∀h' (z TI TO i1 i2 i3:Addr),Hy z TI TO i1 i2 i3 l1 l2 l3->s.heap.objs.size<=i1->Qw h' z TI TO .none->cu h' TI (.ref i1) (.ref i2) (.ref i3)->(∃a b c,cu h' TO a b c)->h'.IsTupleIter i1 l1 0->h'.IsTupleIter i2 l2 0->h'.IsTupleIter i3 l3 0->(∀c o,s.heap.get? c=some o->h'.get? c=some o)->Q (.ref z) {s with heap:=h'}) :
  wpAny (model prog w) A (call (.type "zip") [.ref l1,.ref l2,.ref l3]) Q E s:=by
 refine callType_new F.called_zip (by decide) (nO _ _ _) (rJ _ _ _) (fun obj=>uY obj _ _ _) F.entry_zip_new (By l1 l2 l3 xs ys zs) ⟨a1,a2,a3,?_⟩;have EA:=Kn.lt .T a1;have lt2:=Kn.lt .T a2;have lt3:=Kn.lt .T a3;have g6:(E1 s.heap l1 l2 l3).get? (zK s.heap l1 l2 l3).objs.size=some _:=ML (zK s.heap l1 l2 l3) rfl;have g5:(E1 s.heap l1 l2 l3).get? (zJ s.heap l1 l2 l3).objs.size=some _:=Mt _ (ML (zJ s.heap l1 l2 l3) rfl);have g4:(E1 s.heap l1 l2 l3).get? (zI s.heap l1 l2 l3).objs.size=some _:=Mt _ (Mt _ (ML (zI s.heap l1 l2 l3) rfl));have k3:(E1 s.heap l1 l2 l3).IsTupleIter ((s.heap.push (BH l1)).push (BH l2)).objs.size l3 0:=Kn.itAt .T (Kn.it0 .T _ l3) fun o e=>Mt _ (Mt _ (Mt _ e))
 have k2:(E1 s.heap l1 l2 l3).IsTupleIter (s.heap.push (BH l1)).objs.size l2 0:=Kn.itAt .T (Kn.it0 .T _ l2) fun o e=>Mt _ (Mt _ (Mt _ (Mt _ e)))
 have k1:(E1 s.heap l1 l2 l3).IsTupleIter s.heap.objs.size l1 0:=Kn.itAt .T (Kn.it0 .T _ l1) fun o e=>Mt _ (Mt _ (Mt _ (Mt _ (Mt _ e))))
 show _/\_;refine⟨⟨_,g6,rfl⟩,q _ _ _ _ _ _ _ ⟨?_,?_,?_,?_,?_,EA,lt2,lt3⟩ (MB _) g6 g4 ⟨_,_,_,g5⟩ k1 k2 k3 fun c o x=>Mt _ (Mt _ (Mt _ (Mt _ (Mt _ (Mt _ x)))))⟩ <;>
 ·(try unfold zK);(try unfold zJ);(try unfold zI);simp only[OO];exact Pq _
end
def DW(K:Fg)(a b c:Addr):It :=
 ⟨fun i H=>∃xs ys zs,SqT K H a xs/\SqT K H b ys/\SqT K H c zs/\i<xs.length/\i<ys.length/\i<zs.length,fun i H v H'=>∃T x y u,H T=none/\v=.ref T/\H'=upd H T (.tup [x,y,u])/\(∀xs,SqT K H a xs->xs[i]?=some x)/\(∀ys,SqT K H b ys->ys[i]?=some y)/\(∀zs,SqT K H c zs->zs[i]?=some u),
  fun i H=>∃xs ys zs,SqT K H a xs/\SqT K H b ys/\SqT K H c zs/\(xs.length<=i\/ys.length<=i\/zs.length<=i)⟩
theorem xD{K:Fg}{x1}{pos:Pos}{TI TO:Addr}(D:Hy z TI TO i1 i2 i3 a b c) :
  qj P w K (.Tuple elts x1 pos) (DW K a b c) [z,TI,TO,i1,i2,i3] z (fun i h=>Qw h z TI TO .none/\cu h TI (.ref i1) (.ref i2) (.ref i3)/\(∃x y u,cu h TO x y u)/\Kn.it .T h i1 a i/\Kn.it .T h i2 b i/\Kn.it .T h i3 c i) where
 mem:=by simp
 obj:=fun i h ⟨hz,hI,⟨x,y,u,hO⟩,t1,t2,t3⟩ c hc=>by
  simp only[MD,MF,or_false] at hc;rcases hc with rfl|rfl|rfl|rfl|rfl|rfl
  ·exact⟨_,hz,fun v q=>by cases (show WY _=Sk v from q)⟩
  ·exact⟨_,hI,fun v q=>by cases (show Wm _ _=Sk v from q)⟩
  ·exact⟨_,hO,fun v q=>by cases (show Wm _ _=Sk v from q)⟩
  ·exact Kn.hZ .T t1
  ·exact Kn.hZ .T t2
  ·exact Kn.hZ .T t3
 keep:=fun i h h' ⟨hz,hI,⟨x,y,u,hO⟩,t1,t2,t3⟩ kp=>⟨kp z (by simp) _ hz,kp TI (by simp) _ hI,⟨x,y,u,kp TO (by simp) _ hO⟩,Kn.itAt .T t1 fun o e=>kp i1 (by simp) o e,Kn.itAt .T t2 fun o e=>kp i2 (by simp) o e,Kn.itAt .T t3 fun o e=>kp i3 (by simp) o e⟩
 item:=by
  intro X hP hw hK hc i ξ s σ H E I hf ⟨hz,hI,hO,t1,t2,t3⟩ hg;subst hP hw hK;obtain⟨xs,ys,zs,q1,q2,q3,l1,l2,l3⟩:=hg;obtain⟨v1,r1,p1⟩:=Kn.inv .T I q1;obtain⟨v2,r2,p2⟩:=Kn.inv .T I q2;obtain⟨v3,r3,p3⟩:=Kn.inv .T I q3;obtain⟨u1,e1,ru1⟩:=r1.get (Mw l1);obtain⟨u2,e2,ru2⟩:=r2.get (Mw l2);obtain⟨u3,e3,ru3⟩:=r3.get (Mw l3);obtain⟨⟨n1,n2,n3,ZF,ZV,nO3,YJ,Zi,ZE,Z7,Z8,nI3,n12,n13,n23⟩,_⟩:=vh D.a D.a' D.b D.c D.d D.e D.f D.g;refine(xA D (Kn.drw .T i1 a (MC D.e) v1.toArray) (Kn.drw .T i2 b (MC (MJ D.f D.a)) v2.toArray) (Kn.drw .T i3 c (MC (MJ D.g (MJ D.a D.a'))) v3.toArray) ⟨hz,hI,hO,⟨t1,p1⟩,⟨t2,p2⟩,⟨t3,p3⟩⟩).1 u1 u2 u3 (by simpa using e1) (by simpa using e2) (by simpa using e3) fun h' hz' hI' hO' s1' s2' s3' hT all=>⟨_,rfl,?_⟩
  refine SL hz' fun h2 ZS sb=>?_
  have nT:∀c∈[z,TI,TO,i1,i2,i3],c≠s.heap.objs.size:=fun c XR=>by
   simp only[MD,MF,or_false] at XR;rcases XR with rfl|rfl|rfl|rfl|rfl|rfl
   ·exact MC (MG hz)
   ·exact MC (MG hI)
   ·obtain⟨_,_,_,q⟩:=hO;exact MC (MG q)
   ·obtain⟨_,q,_⟩:=Kn.hZ .T t1;exact MC (MG q)
   ·obtain⟨_,q,_⟩:=Kn.hZ .T t2;exact MC (MG q)
   ·obtain⟨_,q,_⟩:=Kn.hZ .T t3;exact MC (MG q)
  have Yu:H s.heap.objs.size=none:=I.hok.fresh (MB _)
  have I1:Inv X ξ σ (upd H s.heap.objs.size (.tup [xs[i],ys[i],zs[i]])) {s with heap:=s.heap.push {cls:=.type "tuple",data:=.seq #[u1,u2,u3]}} :=
   I.laid (t':=s.toks) (fun b u e=>Mt _ e) (MB _) ⟨iK,[u1,u2,u3],.cons ru1 (.cons ru2 (.cons ru3 .nil)),TupD.new _ _⟩
  have zT:s.heap.objs.size≠z:=(nT z (by simp)).symm
  have I2:Inv X ξ σ (upd H s.heap.objs.size (.tup [xs[i],ys[i],zs[i]])) {s with heap:=h2}:=Inv.iB (s:={s with heap:=s.heap.push {cls:=.type "tuple",data:=.seq #[u1,u2,u3]}}) (t':=s.toks) (fp:=[z,TI,TO,i1,i2,i3]) I1 (fun c o XR e=>by
   have hcz:c≠z:=fun x=>XR (by simp[x])
   rcases RU e with⟨ec,eo⟩|e
   ·rw[ec,eo];exact sb.extBut _ _ zT hT
   ·exact sb.extBut _ _ hcz (all c o XR e)) fun c XR=>⟨by rw[av (nT c XR)];exact(hf c XR).1,(hf c XR).2⟩
  refine⟨.ref s.heap.objs.size,_,I2,rfl,⟨s.heap.objs.size,xs[i],ys[i],zs[i],Yu,rfl,rfl,fun ws hz=>?_,fun ws hz=>?_,fun ws hz=>?_⟩,⟨ZS,sb.extBut _ _ Zi hI',?_,Kn.itAt .T s1'.1 fun o e=>sb.extBut _ _ n1 e,Kn.itAt .T s2'.1 fun o e=>sb.extBut _ _ n2 e,Kn.itAt .T s3'.1 fun o e=>sb.extBut _ _ n3 e⟩,fun c XR=>by rw[av (nT c XR)];exact(hf c XR).1⟩
  ·rw[Kn.inj .T I hz q1,Mw l1]
  ·rw[Kn.inj .T I hz q2,Mw l2]
  ·rw[Kn.inj .T I hz q3,Mw l3]
  ·obtain⟨x,y,u,q⟩:=hO';exact⟨x,y,u,sb.extBut _ _ YJ q⟩
 done:=by
  intro X hP hw hK hc i ξ s σ H E I hf ⟨hz,hI,hO,t1,t2,t3⟩ hg;subst hP hw hK;obtain⟨xs,ys,zs,q1,q2,q3,le⟩:=hg;obtain⟨v1,r1,p1⟩:=Kn.inv .T I q1;obtain⟨v2,r2,p2⟩:=Kn.inv .T I q2;obtain⟨v3,r3,p3⟩:=Kn.inv .T I q3;have e1:=r1.length;have e2:=r2.length;have e3:=r3.length
  refine(xA D (Kn.drw .T i1 a (MC D.e) v1.toArray) (Kn.drw .T i2 b (MC (MJ D.f D.a)) v2.toArray) (Kn.drw .T i3 c (MC (MJ D.g (MJ D.a D.a'))) v3.toArray) ⟨hz,hI,hO,⟨t1,p1⟩,⟨t2,p2⟩,⟨t3,p3⟩⟩).2 (I.ok.hd hc) (by
   rcases le with q|q|q
   ·exact .inl (by simp;lia)
   ·exact .inr (.inl (by simp;lia))
   ·exact .inr (.inr (by simp;lia))) fun h' all=>⟨rfl,I.iB (t':=s.toks) (fun c o XR e=>all c o XR e) hf⟩
 self:=fun _ _ _ _ _ st q=>Q0 st.1 q
section
variable{X:Cx}
def G5(K:Fg)(ta:TA):TI:=fun σ H R=>ta σ H fun vs H1=>∃a b c xs ys zs,vs=[.ref a,.ref b,.ref c]/\SqT K H1 a xs/\SqT K H1 b ys/\SqT K H1 c zs/\R (DW K a b c) H1
theorem Gh{x y u:Expr} {ta:TA}  {x1} {p pos:Pos} (hg:Gl X "zip") (hm:X.mg "zip"=none) (ha:PA X [x,y,u] ta) (hs:starEach [x,y,u] X.env=[(false,eval x X.env),(false,eval y X.env),(false,eval u X.env)]:=by rfl) (hs2:starEach [y,u] X.env=[(false,eval y X.env),(false,eval u X.env)]:=by rfl) :
  PI X (.Tuple elts x1 tp) (.Call (.Name "zip" p) [x,y,u] [] pos) (G5 X.K ta):=by
 intro ξ s σ H R I h;refine Call_ (fE I hg hm Bf (N2 (bj (ha pos ξ s σ H _ I h) fun us s1 ⟨vs,H1,I1,r1,q1⟩=>?_) (by rw[hs,hs2]) (by rw[hs2];rfl)));obtain⟨a,b,c,xs,ys,zs,e,s1q,s2q,s3q,q⟩:=q1;subst e;cases r1 with
 |cons ra r1=>cases r1 with
  |cons rb r1=>cases r1 with
   |cons rc r1 =>
    cases r1;cases ra;cases rb;cases rc;obtain⟨v1,w1,p1⟩:=Kn.inv .T I1 s1q;obtain⟨v2,w2,p2⟩:=Kn.inv .T I1 s2q;obtain⟨v3,w3,p3⟩:=Kn.inv .T I1 s3q;refine E3 p1 p2 p3 fun h' z TI TO i1 i2 i3 D le hz hI hO t1 t2 t3 kp=>?_
    refine Q0 (s:={s1 with heap:=h'}) hz ?_;refine⟨z,[z,TI,TO,i1,i2,i3],_,_,H1,rfl,I1.kept (t':=s1.toks) kp,xD D,⟨hz,hI,hO,t1,t2,t3⟩,fun c hc=>?_,q⟩
    have Z6:s1.heap.objs.size<=c:=by
     have d1:=D.a;have d1':=D.a';have d2:=D.b;have d3:=D.c;have d4:=D.d;simp only[MD,MF,or_false] at hc;rcases hc with rfl|rfl|rfl|rfl|rfl|rfl
     ·exact NS (Nk le (MJ d1 (MJ d1' (MJ d2 (MJ d3 d4)))))
     ·exact NS (Nk le (MJ d1 (MJ d1' d2)))
     ·exact NS (Nk le (MJ d1 (MJ d1' (MJ d2 d3))))
     ·exact le
     ·exact NS (Nk le d1)
     ·exact NS (Nk le (MJ d1 d1'))
    exact I1.fpOk Z6 (I1.hok.fresh Z6)
end
section
variable{K:Fg}{te:TE}{σ:St}{Q:VK}{H:Hp}
theorem Jb{ta:TA}{R:It->Hp->Prop}(h:ta σ H fun vs H1=>∃a b c xs ys zs,vs=[.ref a,.ref b,.ref c]/\SqT K H1 a xs/\SqT K H1 b ys/\SqT K H1 c zs/\R (DW K a b c) H1):G5 K ta σ H R:=h
theorem AX{xs ys zs:List V}{m:Nat}(e1:xs.length=m)(e2:ys.length=m)(e3:zs.length=m)(h:∀D,H D=none->∃Pv:Nat->Hp->Prop,Pv 0 (upd H D (.lst []))/\(∀i H2,i<=m->Pv i H2->SqT K H2 a xs/\SqT K H2 b ys/\SqT K H2 c zs) /\
  (∀i x y u H2 T,xs[i]?=some x->ys[i]?=some y->zs[i]?=some u->Pv i H2->H2 T=none->Kj g n te σ (.ref T) (upd H2 T (.tup [x,y,u])) D m i Pv)/\∀H2,Pv m H2->Q (.ref D) H2):Bm (DW K a b c) n g te σ Q H:=by
 intro D nD;obtain⟨Pv,h0,hl,hs,hd⟩:=h D nD;refine⟨fun i k H=>k=m-i/\i<=m/\Pv i H,⟨_,rfl,NH _,h0⟩,?_⟩;rintro i k H ⟨rfl,hi,p⟩;obtain⟨q1,q2,q3⟩:=hl i H hi p;by_cases X6:i<m
 ·refine .inr ⟨⟨xs,ys,zs,q1,q2,q3,by lia,by lia,by lia⟩,fun v H' y us hu=>?_⟩;obtain⟨T,x,y,u,nT,rfl,rfl,z1,z2,z3⟩:=y;exact hs i x y u H T (z1 xs q1) (z2 ys q2) (z3 zs q3) p nT us hu
 ·have e:i=m:=by lia
  subst e;exact .inl ⟨⟨xs,ys,zs,q1,q2,q3,.inl (by lia)⟩,hd H p⟩
end
end L2
namespace L2
open PySem PySem.Spec PyProof.Rows
namespace F7
end F7
open PySem.W (Dat)
open PySem.Builtin.Str (occurrences lastOccurrence strSub subAt partsBetween)
def gS(z y:Str)(i:Nat):Prop:=i+y.length<=z.length/\subAt z y i=true
def Cu:V->List V->Hp->VK->Prop := fun x xs H Q => ∃ z y, x=.str z/\xs=[.str y] /\ y.length≠0/\z.length<=sizeLine /\
  ((∃ i, gS z y i/\(∀ k, k<i->¬ gS z y k) /\ ∀ p, H p=none->Q (.ref p) (upd H p (.tup [.str (strSub z 0 i), .str y, .str (strSub z (i + y.length) z.length)]))) \/
   ((∀ i, ¬ gS z y i) /\ ∀ p, H p=none->Q (.ref p) (upd H p (.tup [.str z, .str NC, .str NC]))))
section
variable{X:Cx}
theorem fC:Bv X "str.partition" Cu:=by
 intro ξ s σ H x xs v us Q I rx rv h;obtain⟨z,y,rfl,rfl,hy,hz,h⟩:=h;obtain⟨t,rfl⟩:=rx;obtain⟨u,rfl,t',rfl⟩:=vals1 rv;refine Pf Py (Qk _ _ _) PySem.F.entry_str_partition (PySem.F.args_str_partition_2 _ _) (meets_str_partition z y t t' (by simpa using hy) hz) ?_
 have new:∀(a b c:Str) (ta tb tc:Tok) (k:Nat),(∀p,H p=none->Q (.ref p) (upd H p (.tup [.str a,.str b,.str c])))->EP X ξ σ Q (.ref s.heap.objs.size) {s with toks:=k,heap:=s.heap.push {cls:=.type "tuple",data:=.seq [.str a ta,.str b tb,.str c tc].toArray}}:=by
  intro a b c ta tb tc k q;refine⟨.ref s.heap.objs.size,_,I.laid (t':=k) (o:=.tup [.str a,.str b,.str c]) (fun b ob q=>Mt _ q) (MB _) ?_,rfl,q _ (I.hok.fresh (MB _))⟩;exact⟨iK,_,.cons ⟨ta,rfl⟩ (.cons ⟨tb,rfl⟩ (.cons ⟨tc,rfl⟩ .nil)),TupD.new _ _⟩
 rcases h with⟨i,hi,mi,q⟩|⟨no,q⟩
 ·rcases WR z y 1 (MB _) with⟨_,n⟩|⟨j,r,e,hj,mj⟩
  ·exact absurd hi (n i)
  ·have:j=i:=by
    rcases PZ j i with l|l|l
    ·exact absurd hj (mi j l)
    ·exact l
    ·exact absurd hi (mj i l)
   subst this;show wants _ _ _ (match occurrences z y 0 z.length 1 with|i :: _=>_ | []=>_);rw[e];exact new _ _ _ _ _ _ _ q
 ·rcases WR z y 1 (MB _) with⟨e,_⟩|⟨j,r,e,hj,mj⟩
  ·show wants _ _ _ (match occurrences z y 0 z.length 1 with|i :: _=>_ | []=>_);rw[e];exact new _ _ _ _ _ _ _ q
  ·exact absurd hj (no j)
end
def zc:V->List V->Hp->VK->Prop := fun x xs H Q => ∃ z y, x=.str z/\xs=[.str y] /\ y.length≠0/\z.length<=sizeLine /\
  ((∃ i, gS z y i/\(∀ k, i<k->¬ gS z y k) /\ ∀ p, H p=none->Q (.ref p) (upd H p (.tup [.str (strSub z 0 i), .str y, .str (strSub z (i + y.length) z.length)]))) \/
   ((∀ i, ¬ gS z y i) /\ ∀ p, H p=none->Q (.ref p) (upd H p (.tup [.str NC, .str NC, .str z]))))
def iV(z y:Str):List Nat:=(N7 (z.length+1)).filter fun i=>decide (i+y.length<=z.length) && subAt z y i
theorem jO{i:Nat}:i∈iV z y↔gS z y i:=by
 unfold iV gS;rw[Oq,O9,Ou,decide_eq_true_iff];exact⟨fun h=>h.2,fun h=>⟨by have:=h.1;lia,h⟩⟩
def Apart(z y:Str):Prop:=∀i j,gS z y i->gS z y j->i<j->i+y.length<=j
theorem uD{z y:Str}{lim:Nat}(ap:Apart z y)(hy:y.length≠0):∀(n a:Nat) (arr:Array Nat) (fr:Nat),(∀i,gS z y i->a<=i->fr<=i)->arr.size+n<=lim ->
  (forIn (W8 a n) (arr,fr) (Xc z y z.length lim)).run.fst.toList=arr.toList++(W8 a n).filter fun i=>decide (i+y.length<=z.length) && subAt z y i
 |0,a,arr,fr,_,_=>by simp
 |n+1,a,arr,fr,hf,hl=>by
  rw[WS,OG,QY];unfold Xc;by_cases h:gS z y a
  ·have c:((arr.size<lim/\fr<=a)/\a+y.length<=z.length)/\subAt z y a=true:=⟨⟨⟨by lia,hf a h (MB _)⟩,h.1⟩,h.2⟩
   rw[if_pos c,if_pos (by rw[Ou,decide_eq_true_iff];exact h)];have ih:=uD (lim:=lim) ap hy n (a+1) (arr.push a) (a+y.length) (fun i hi l=>ap a i h hi (by lia)) (by rw[Xd];lia);rw[Array.toList_push,N6] at ih;exact ih
  ·have c : ¬ (((arr.size<lim/\fr<=a)/\a+y.length<=z.length)/\subAt z y a=true):=fun q=>h ⟨q.1.2,q.2⟩
   rw[if_neg c,if_neg (by rw[Ou,decide_eq_true_iff];exact h)];exact uD (lim:=lim) ap hy n (a+1) arr fr (fun i hi l=>hf i hi (by lia)) (by lia)
theorem pB(ap:Apart z y)(hy:y.length≠0):occurrences z y 0 z.length (z.length+1)=iV z y:=by
 rw[StrLaws.occ_eq]
 have:=uD (lim:=z.length+1) ap hy (z.length+1) 0 #[] 0 (fun _ _ _=>NH _) (by simp)
 rw[show z.length+1-0=z.length+1 from rfl,this];unfold iV;rw[List.range_eq_range'];rfl
def Eh:V->List V->Hp->VK->Prop:=fun x xs H Q=>∃z y,x=.str z/\xs=[.str y]/\y.length≠0/\z.length<=1000/\Apart z y/\z.cps.all (· < 128)=true/\y.cps.all (· < 128)=true/\∀p,H p=none->Q (.ref p) (upd H p (.lst ((NL z y.length 0 (iV z y)).map V.str)))
theorem qZ(z:Str)(w:Nat):∀(a:Nat) (cs:List Nat),(NL z w a cs).length=cs.length+1
 |_,[]=>rfl
 |_,c :: cs=>by
  show(NL z w (c+w) cs).length+1=_;rw[qZ z w _ cs];rfl
theorem qx:∀(tk:Nat) (xs:List Str),Vals (xs.map V.str) (strsFrom tk xs)
 |_,[]=>.nil
 |tk,x :: xs=>.cons ⟨tk,rfl⟩ (qx (tk+1) xs)
section
variable{X:Cx}
theorem pF:Bv X "str.rpartition" zc:=by
 intro ξ s σ H x xs v us Q I rx rv h;obtain⟨z,y,rfl,rfl,hy,hz,h⟩:=h;obtain⟨t,rfl⟩:=rx;obtain⟨u,rfl,t',rfl⟩:=vals1 rv;refine Pf Sh (Qk _ _ _) PySem.F.entry_str_rpartition (PySem.F.args_str_rpartition_2 _ _) (meets_str_rpartition z y t t' (by simpa using hy) hz) ?_
 have new:∀(a b c:Str) (ta tb tc:Tok) (k:Nat),(∀p,H p=none->Q (.ref p) (upd H p (.tup [.str a,.str b,.str c])))->EP X ξ σ Q (.ref s.heap.objs.size) {s with toks:=k,heap:=s.heap.push {cls:=.type "tuple",data:=.seq [.str a ta,.str b tb,.str c tc].toArray}}:=by
  intro a b c ta tb tc k q;refine⟨.ref s.heap.objs.size,_,I.laid (t':=k) (o:=.tup [.str a,.str b,.str c]) (fun b ob q=>Mt _ q) (MB _) ?_,rfl,q _ (I.hok.fresh (MB _))⟩;exact⟨iK,_,.cons ⟨ta,rfl⟩ (.cons ⟨tb,rfl⟩ (.cons ⟨tc,rfl⟩ .nil)),TupD.new _ _⟩
 rcases h with⟨i,hi,mi,q⟩|⟨no,q⟩
 ·rcases WA z y with⟨_,n⟩|⟨j,e,hj,mj⟩
  ·exact absurd hi (n i)
  ·have:j=i:=by
    rcases PZ j i with l|l|l
    ·exact absurd hi (mj i l)
    ·exact l
    ·exact absurd hj (mi j l)
   subst this;show wants _ _ _ (match lastOccurrence z y 0 z.length with|some i=>_|none=>_);rw[e];exact new _ _ _ _ _ _ _ q
 ·rcases WA z y with⟨e,_⟩|⟨j,e,hj,mj⟩
  ·show wants _ _ _ (match lastOccurrence z y 0 z.length with|some i=>_|none=>_);rw[e];exact new _ _ _ _ _ _ _ q
  ·exact absurd hj (no j)
theorem CU:Bv X "str.split" Eh:=by
 intro ξ s σ H x xs v us Q I rx rv h;obtain⟨z,y,rfl,rfl,hy,hz,ap,az,ay,q⟩:=h;obtain⟨t,rfl⟩:=rx;obtain⟨u,rfl,t',rfl⟩:=vals1 rv;have hyb:(y.length == 0)=false:=by simpa using hy
 have kz:∀{w:Str},w.cps.all (· < 128)=true->PD w=1:=fun {w} h=>by
  unfold PD;rw[if_pos];rw[NY] at h ⊢;intro c hc
  have:=of_decide_eq_true (h c hc)
  exact decide_eq_true (by lia)
 have new:∀(ps:List Str) (vs:List Mu) (k:Nat),Vals (ps.map V.str) vs->ps.length<=2000->(∀p,H p=none->Q (.ref p) (upd H p (.lst (ps.map V.str))))->EP X ξ σ Q (.ref s.heap.objs.size) {s with toks:=k,heap:=s.heap.push {cls:=.type "list",data:=.seq vs.toArray}}:=by
  intro ps vs k rv lp q;refine⟨.ref s.heap.objs.size,_,I.laid (t':=k) (o:=.lst (ps.map V.str)) (fun b ob q=>Mt _ q) (MB _) ?_,rfl,q _ (I.hok.fresh (MB _))⟩;exact⟨by rw[Mv];exact Np lp (by decide),vs,0,rv,ML _ rfl⟩
 have ea:=pB ap hy
 have lo:(iV z y).length<=z.length+1:=by
  unfold iV;exact Np (UF _ _) (by rw[QG];exact MB _)
 by_cases h1:z.length<y.length
 ·have e0:iV z y=[]:=RM.mpr fun i hi=>by
   have:=(jO.mp hi).1
   lia
  rw[e0] at q
  have q':∀p,H p=none->Q (.ref p) (upd H p (.lst ([z].map V.str))):=fun p np=>by
   have:=q p np
   rw[show NL z y.length 0 []=[strSub z 0 z.length] from rfl,S0] at this;exact this
  exact Pf Qn (Qk _ _ _) Rr (Q9 _ _) (meets_str_split_cannot_occur z y t t' (by rw[decide_eq_true h1];rfl)) (new [z] _ _ (.cons ⟨t,rfl⟩ .nil) (show 1<=2000 by decide) q')
 ·have hk:(decide (z.length<y.length) || decide (PD z<PD y))=false:=by
   rw[decide_eq_false h1,kz az,kz ay];rfl
  cases ec:iV z y with
  |nil =>
   rw[ec] at q
   have q':∀p,H p=none->Q (.ref p) (upd H p (.lst ([z].map V.str))):=fun p np=>by
    have:=q p np
    rw[show NL z y.length 0 []=[strSub z 0 z.length] from rfl,S0] at this;exact this
   exact Pf Qn (Qk _ _ _) Rr (Q9 _ _) (meets_str_split_not_found z y t t' hk hyb (by rw[ea,ec];rfl)) (new [z] _ _ (.cons ⟨t,rfl⟩ .nil) (show 1<=2000 by decide) q')
  |cons c cs =>
   have lp:(NL z y.length 0 (iV z y)).length<=2000:=by rw[qZ];lia
   refine Pf Qn (Qk _ _ _) Rr (Q9 _ _) (meets_str_split_sep z y t t' hk hyb (by rw[ea,ec];rfl) (Np hz (by decide)) (by rw[ea,TH];exact Np lp (by decide))) ?_;show wants _ _ _ _;rw[ea,TH];exact new _ _ _ (qx _ _) lp q
end
open PySem PySem.Spec PyProof.Rows PySem.W
abbrev Iq:List V->Hp->VK->Prop:=fun xs H Q=>∃z i,xs=[.str z]/\Xp z=some i/\z.length<=640/\Q (.int i) H
theorem Bc:gN X (.type "int") Iq:=by
 intro ξ s σ H xs us Q I r h;obtain⟨z,i,rfl,hi,hz,q⟩:=h;obtain⟨u,rfl,t,rfl⟩:=vals1 r;exact KIN.call_text hi hz ⟨.int i,H,I.tok _,⟨_,rfl⟩,q⟩
theorem Av{n:Int}(h0:0<=n)(h1:n<=10000000000):Xp (a7 n)=some n/\(a7 n).length<=640:=by
 have hl:(a7 n).length<=11:=P6 h0 (by decide) (by lia);obtain⟨m,rfl⟩:=Rs h0
 have hd:NumText.AllDigits (a7 ((m:Nat):Int)).cps.toList:=by
  intro c hc;rw[show(a7 ((m:Nat):Int)).cps.toList=_ from VN m] at hc;obtain⟨ch,hch,e⟩:=MR.mp hc;rw[<- e];exact digit_range (Si (by decide) (by decide) hch)
 have ZA:(a7 ((m:Nat):Int)).cps.toList≠[]:=by
  rw[show(a7 ((m:Nat):Int)).cps.toList=_ from VN m];intro e;have h:=UG 10 m;rw[OR.mp e] at h;exact absurd h (by decide)
 have e:=PySem.intText_digits hd ZA (Np hl (by decide));rw[show(a7 ((m:Nat):Int)).cps.toList=_ from VN m,KIN.val_back] at e;exact⟨e,Np hl (by decide)⟩
structure KD (P:MP) (w:M4) (K:Frag) (mg:Str->Option Mu) (x:Str) (D:Addr) (fx:List (Key×V)):Prop where
 at_:mg x=some (.ref D)
 ns:(D == sysModules)=false
 dd:∀h:Heap,K.In h->∃vs,KV fx vs/\h.DictOf (b9 P w) D vs
def Fo(fx:List (Key×V))(ty tx:TE):TE:=fun σ H Q=>ty σ H fun y H2=>tx σ H2 fun z H3=>∃k,y=kV k/\Q ((cq fx k).getD z) H3
theorem Gn{apos:Pos}  (hg:Gl X x) (d:KD X.prog X.w X.K X.mg x D fx) (he:PE X e ty) (hf:PE X f tx) (m:M2 X (.Name x np) "get" apos e f XH) (hdb:(x == ("__debug__":Str))=false:=by decide) :
  PE X (.Call (.Attribute (.Name x np) "get" apos) [e,f] [] XH) (Fo fx ty tx):=by
 intro ξ s σ H Q I h;refine wpAny_Call_method m.base m.few m.line Tx Pz Uw (eV I hg d.at_ ?_ hdb);obtain⟨vs,rel,dd⟩:=d.dd _ I.kIn;refine⟨dd.typeIs,fun b q=>?_,?_⟩
 ·cases q;obtain⟨ob,_,_,h1,h2,_⟩:=dd;exact⟨ob,h1,h2.2.1⟩
 rw[m.trees]
 refine Pj rfl (PQ (N_ (bj (he ξ s σ H _ I h) fun iv s2 ⟨y,H2,I2,ry,q2⟩ =>
  N_ (bj (hf ξ s2 σ H2 _ I2 q2) fun fv s3 ⟨z,H3,I3,rz,k,ey,q3⟩=>Pc ?_))))
 subst ey;obtain⟨vs3,rel3,dd3⟩:=d.dd _ I3.kIn;refine Wn Pz dd3.typeIs Rx (Rn _ _ _) (T2 (b9 X.prog X.w) D (Dc ry) d.ns fv) ⟨_,dd3.mapOf,?_⟩;exact⟨_,H3,I3.tok _,(rel3.val k).getD rz,q3⟩
section
variable{X:Cx}{e k:Expr}{te tk:TE}{p2 pos:Pos}
def Fl(K:Frag)(te tk:TE):TE:=fun σ H Q=>te σ H fun x H1=>tk σ H1 fun i H2=>∃a xs,x=.ref a/\i=.int (-1)/\SqL K H2 a xs/\∀p,H2 p=none->Q (.ref p) (upd H2 p (.lst xs.reverse))
theorem Gj(he:PE X e te)(hk:PE X k tk):PE X (.Subscript e (.Slice none none (some k) p2) pos) (Fl X.K te tk):=by
 intro ξ s σ H Q I h;refine VY (bj (he ξ s σ H _ I h) fun v s1 ⟨x,H1,I1,r1,q1⟩=>WZ ?_);rw[Tb];refine Mz (Mz (bj (hk ξ s1 σ H1 _ I1 q1) fun u s2 ⟨y,H2,I2,r2,a,xs,ex,ey,sq,q⟩=>?_));subst ex ey;cases r1;obtain⟨t,rfl⟩:=r2;have I3:Inv X ξ σ H2 {s2 with heap:=s2.heap.push {cls:=.type "slice",data:=.fields #[.none,.none,.int (-1) t]}}:=I2.kept (t':=s2.toks) fun b ob q=>Mt _ q
 obtain⟨fm,rv,ht3,hz⟩:=I3.list sq;have hlen:=rv.length;show wpAny (model X.prog X.w) X.A (subscriptTail e (.Slice none none (some k) p2) (.ref a) (.ref s2.heap.objs.size)) (EP X ξ σ Q) X.xe {s2 with heap:=s2.heap.push {cls:=.type "slice",data:=.fields #[.none,.none,.int (-1) t]}};refine Xi (ops:=[.ref a,.ref s2.heap.objs.size]) ht3.isList.typeIs SW.lookup (Tc ht3.isList (VZ ..) .none .none (.int (-1) t) (by simp) ?_ (by rw[MU];lia)) (by with_unfolding_all rfl);rw[krv_pick]
 have vr:Vals xs.reverse fm.reverse:=by
  clear q hz ht3 sq I3 hlen
  induction rv with
  |nil=>exact .nil
  |cons a b ih=>rw[SY,SY];exact ih.append (.cons a .nil)
 refine⟨.ref _,_,I3.laid (t':=s2.toks) (o:=.lst xs.reverse) (fun b ob q=>Mt _ q) (MB _) ?_,rfl,q _ (I3.hok.fresh (MB _))⟩;exact⟨by rw[Sa];exact hz,fm.reverse,0,vr,ML _ rfl⟩
theorem Jg{K:Frag}{H:Hp}{Q:VK}(h:te σ H fun x H1=>tk σ H1 fun i H2=>∃a xs,x=.ref a/\i=.int (-1)/\SqL K H2 a xs/\∀p,H2 p=none->Q (.ref p) (upd H2 p (.lst xs.reverse))):Fl K te tk σ H Q:=h
end
end L2
namespace L2
open PySem PySem.Spec PyProof.Rows
abbrev TB:=bJ->(St->XK)->St->Hp->Prop
def HA(X:Cx)(sts:List Stmt)(t:TB):Prop:=∀(ξ:List (Addr×Obj)) (s:MA) (σ:St) (H:Hp) (D:bJ) (E:St->XK),Inv X ξ σ H s->t D E σ H ->
 wpAny (model X.prog X.w) X.A (execs sts X.env) (SP X ξ D) (fun e s'=>∃σ' H1 s1,Inv X ξ σ' H1 s1/\ff X.prog X.w X.stack H1 s1 (E σ') e s') s
def Ba(K:Fg)(Dv:Addr)(ts:TS)(D:bJ)(σ:St):XK:=fun c _ H2=>∃C,c=.ref C/\fo K C Dv/\ts {nx:=D.nx,rt:=fun _ _=>False} σ H2
section
variable{X:Cx}{ξ:List (Addr×Obj)}{σ:St}{H:Hp}{s s':MA}
theorem Hl{D:bJ}{pos:Pos}{b0:Stmt}{bs:List Stmt}(I:Inv X ξ σ H s)(o:gL X)(hg:Gl X v)(V:Bl X.K X.mg v Dv)(hS:∀ea,PSs (X.marked ea) (b0 :: bs) ts)
  (h:ff X.prog X.w X.stack H s (Ba X.K Dv ts D σ) e s') (hdb:(v == ("__debug__":Str))=false:=by decide) :
  wpAny (model X.prog X.w) X.A (noteFrame e X.env) (fun _ s₂=>wpAny (model X.prog X.w) X.A (setFlight e none) (fun _ s₃ =>
   wpAny (model X.prog X.w) X.A (handleBy e X.env [.ExceptHandler (some (.Name v vp)) none (b0 :: bs) pos]) (SP X ξ D) X.xe s₃) X.xe s₂) X.xe s':=by
 obtain⟨ea,C,a0,B,H',d,rfl,fl,g,Zc,bare,C',eC,⟨okC,mro⟩,k⟩:=h;cases eC;have Yu:X.A.frames=some (X.env :: X.outer):=o.stk ▸ I.ok.frames;rw[o.stk] at fl;refine rL hU Yu o.frm fl fun h4 Zo at4 up4=>?_
 refine ED (s:={s' with heap:=h4}) Zo at4 fun h5 fl5 up5=>?_
 have Zx:=up4.trans up5;have I5:Inv X ξ σ H' {s' with heap:=h5}:=I.back o g Zc bare fl5.1.1 Zx;obtain⟨oe5,he5,hc5⟩:=fl5.1.there;have I5m:=I5.marked ea;refine Vx (Uy (eV (X:=X.marked ea) I5m hg V.at_ ?_ hdb)) (by intro q;cases q);obtain⟨tl,N,nm,q,bs',hdct,sn,sub,ab,col,dd,k0,k1,k2,k3,k5,nwC,hC⟩:=okC _ I5.kIn;obtain⟨bmV,nwV,okV,hbV⟩:=V.ok;obtain⟨tl',N',nm',q',bs'',hdct',sn',sub',ab',col',dd',j0,j1,j2,j3,j5,mN',hV,_,_,TV⟩:=lf I5.kIn okV;refine lh hC hV he5 hc5 (TV.hasType hbV) (zN I5.kIn hC mro) ?_;refine codeAny_handlers_suite ?_;refine je (s:={s' with heap:=h5}) fl5 fun h6 fl6 up6=>?_
 have I6:Inv X ξ σ H' {s' with heap:=h6}:=I.back o g Zc bare fl6.1.1 (Zx.trans up6);refine Nj (hS ea ξ _ σ H' {nx:=D.nx,rt:=fun _ _=>False} (I6.marked ea) k) (fun f s9 q9=>?_) fun _ _ z=>z.elim
 cases f with
 |next =>
  obtain⟨σ9,H9,I9,q⟩:=q9;exact⟨σ9,H9,I9.unmarked I.ok,q⟩
 |ret u=>obtain⟨_,_,_,_,_,z⟩:=q9;exact z.elim
 |brk=>obtain⟨_,_,_,z⟩:=q9;exact z.elim
 |cont=>obtain⟨_,_,_,z⟩:=q9;exact z.elim
end
structure MtC (P:MP) (w:M4) (K:Fg) (mg:Str->Option Mu) (base:Heap) (CX:jF) (k:Nat) (C:Addr) (m:Str) (ps:List Str) (sp:Sp):Prop where
 ex:∃f fd,FnOk P w K mg base CX k f fd ps sp/\Bj K C m f/\Binds K fd ps []
theorem MtC.mono{K:Fg}{CX:jF}{k:Nat}(F:MtC P w K mg base CX j C m ps sp)(h:j<=k):MtC P w K mg base CX k C m ps sp:=by
 obtain⟨f,fd,G,r⟩:=F.ex;exact⟨f,fd,G.mono h,r⟩
section
variable{X:Cx}{CX:jF}{k:Nat}{C:Addr}{m:Str}{ps:List Str}{sp:Sp}{E:XK}{o e:Expr}{es:List Expr}{ta:TE}{t:TA}{apos pos ap:Pos}
theorem kr(he:PE X o ta)(c:Cls X.K C)(F:MtC X.prog X.w X.K X.mg X.base CX k C m ps sp)(hr:Room k X.A)(hx:db CX X E)(ha:PA X (e :: es) t)
  (hst:starEach (e :: es) X.env=(false,eval e X.env) :: starEach es X.env:=by rfl) (YD:(backTo pos (starEach es X.env)).any (·.1)=false:=by rfl)
  (ht:eval (.Call (.Attribute o m apos) (e :: es) [] pos) X.env=(do
   let ov <- eval o X.env
   standAt apos.atName
   let (f,first) <- holding [ov] (getMethod ov m pl)
   callWith pos f first (backTo pos (starEach (e :: es) X.env)) (backToKw pos (keywordEach [] X.env))):=by rfl):PE X (.Call (.Attribute o m apos) (e :: es) [] pos) (fg C m sp [] E ta t):=by
 obtain⟨f,fd,G,hm,hb⟩:=F.ex;exact Gk he c hm G hr hb .nil hx ha hst YD ht
theorem iO(he:PE X o ta)(c:Cls X.K C)(F:MtC X.prog X.w X.K X.mg X.base CX k C m ps sp)(hr:Room k X.A)(hx:db CX X E)
  (ht:eval (.Call (.Attribute o m apos) [] [] pos) X.env=(do
   let ov <- eval o X.env
   standAt apos.atName
   let (f,first) <- holding [ov] (getMethod ov m pl)
   callWith pos f first (backTo pos (starEach [] X.env)) (backToKw pos (keywordEach [] X.env))):=by rfl):PE X (.Call (.Attribute o m apos) [] [] pos) (fg C m sp [] E ta am):=by
 obtain⟨f,fd,G,hm,hb⟩:=F.ex;exact CB he c hm G hr hb .nil hx ht
theorem BG{H:Hp}(he:PE X.nox o ta)(c:Cls X.K C)(F:MtC X.prog X.w X.K X.mg X.base (ff X.prog X.w) k C m ps sp)(hr:Room k X.A)(ha:PA X.nox (e :: es) t)
  (hst:starEach (e :: es) X.env=(false,eval e X.env) :: starEach es X.env) (YD:(backTo pos (starEach es X.env)).any (·.1)=false)
  (ht:eval (.Call (.Attribute o m apos) (e :: es) [] pos) X.env=(do
   let ov <- eval o X.env
   standAt apos.atName
   let (f,first) <- holding [ov] (getMethod ov m pl)
   callWith pos f first (backTo pos (starEach (e :: es) X.env)) (backToKw pos (keywordEach [] X.env))))
  (I:Inv X ξ σ H s) (h:ta σ H fun x H1=>∃a dx fs,x=.ref a/\H1 a=some (.ins C dx fs)/\fs.lookup m=none/\t σ H1 fun vs H2=>sp (x :: (vs++[])) H2 Q E') :
  wpAny (model X.prog X.w) X.A (eval (.Call (.Attribute o m apos) (e :: es) [] pos) X.env) (EP X ξ σ Q) (fun e' s'=>∃H1 s1,Inv X ξ σ H1 s1/\ff X.prog X.w X.stack H1 s1 E' e' s') s:=by
 obtain⟨f,fd,G,hm,hb⟩:=F.ex;refine QC (pl:=pl) (Nj (he ξ s σ H _ (I.wish fun _ _=>False) h) (fun u s1 ⟨x,H1,I1,rx,a,dx,fs,ex,ea,l,q⟩=>?_) fun _ _ z=>z.elim) ht;subst ex;obtain rfl:u=MX a:=rx;have J1:Inv X ξ σ H1 s1:=I1.dU;refine fZ J1 ea c hm l ?_;refine Rg (first:=[.ref a]) (h₀:=X.base) I.ok.mod.kin hm.kp (Nj (ha pos ξ s1 σ H1 _ I1 q) (fun us s2 ⟨vs,H2,I2,r,q2⟩=>⟨I2.kIn,?_⟩) fun _ _ z=>z.elim) hst YD;have J2:Inv X ξ σ H2 s2:=I2.dU;have r2:Vals (V.ref a :: (vs++[])) (MX a :: us++[]):=.cons rfl (r.append .nil)
 have hl:(MX a :: us++[]).length=ps.length:=by
  have e:=r2.length;rw[G.len _ _ _ _ q2] at e;exact e.symm
 refine QM (PN (G.run X.A X.stack s2 H2 ⟨MX a :: us,[]⟩ (MX a :: us++[]) (V.ref a :: (vs++[])) Q _ hr J2.env0 (hb s2 (MX a :: us) J2.kIn hl) r2 q2) fun res s' hq=>?_);cases res with
 |error e'=>exact⟨H2,s2,J2,hq⟩
 |ok fl =>
  cases fl with
  |ret u=>exact J2.after hq
  |next=>exact NZ hq
  |brk=>exact NZ hq
  |cont=>exact NZ hq
def J3(tc:TT)(t u:TB):TB:=fun D E σ H=>tc σ H fun d H1=>if d=true then t D E σ H1 else u D E σ H1
def DQ(t:TS)(u:TB):TB:=fun D E σ H=>t {nx:=fun σ' H'=>u D E σ' H',rt:=fun _ _=>False} σ H
theorem HY{st:Stmt}{D:bJ}(h:wpAny (model X.prog X.w) X.A (exec st X.env) (SP X ξ D) W s):wpAny (model X.prog X.w) X.A (execs [st] X.env) (SP X ξ D) W s:=by
 refine Qb (Nj h (fun f s1 q=>?_) fun _ _ z=>z);cases f with
 |next=>exact OS q
 |ret u=>exact q
 |brk=>exact q
 |cont=>exact q
theorem E7{t:TB}(hc:PT X.nox c tc)(ha:HA X a t)(hb:HA X b u):HA X [.If c a b pos] (J3 tc t u):=by
 intro ξ s σ H D E I h;refine HY (wpAny_If (Nj (hc ξ s σ H _ (I.wish fun _ _=>False) h) (fun d s1 ⟨H1,I1,q1⟩=>?_) fun _ _ z=>z.elim));cases d with
 |true=>exact ha ξ s1 σ H1 D E I1.dU q1
 |false=>exact hb ξ s1 σ H1 D E I1.dU q1
def Fi(K:Fg)(Dv:Addr)(t:TB)(ts:TS):TS:=fun D σ H=>t D (fun σ'=>Ba K Dv ts D σ') σ H
theorem Ge{b0:Stmt} {bs:List Stmt} {t:TB}   (o:gL X) (hg:Gl X v) (V:Bl X.K X.mg v Dv) (hB:HA X body t) (hS:∀ea,PSs (X.marked ea) (b0 :: bs) ts) (hdb:(v == ("__debug__":Str))=false:=by decide) :
  PS X (.Try body [.ExceptHandler (some (.Name v vp)) none (b0 :: bs) hp] [] [] pos) (Fi X.K Dv t ts):=by
 intro ξ s σ H D I h;refine wpAny_Try_except (Nj (hB ξ s σ H D _ I h) (fun f s1 q=>?_) fun e' s' ⟨σ',H1,s1,I1,cx⟩=>Hl I1 o hg V hS cx hdb);cases f with
 |next=>exact OS q
 |ret u=>exact q
 |brk=>exact q
 |cont=>exact q
end
end L2
namespace L2
open PySem PySem.Spec PyProof.Rows
open PySem.W (Dat kqdP kqdPs kqdOk)
open AutoSeq1 (wpAny_loadPart')
abbrev Fa(items:Array Mu)(x:Mu)(i:Nat)(_:Option Fin×Unit):Sem (ForInStep (Option Fin×Unit)):=match items[i]? with
 |some y=>do
  let b <- eqBool y x
  if b=true then do
   let r <- retInt (i:Int)
   pure (.done (some r,()))
  else pure (.yield (none,()))
 |_=>pure (.yield (none,()))
theorem vw{prog:MP}{w:M4}{A:No}{s:MA}{E:Mu->MA->Prop}{items:Array Mu}{x:Mu}{e:Mu->Bool}{j:Nat}{Q:Option Fin×Unit->MA->Prop}(hj:j<items.size)(hit:e items[j]=true)(hno:∀m (hm:m<items.size),m<j->e items[m]=false)(he:∀y,y∈items->VU A s y x (e y))
  (h:Q (some (.done (.ret (.int j s.toks))),()) {s with toks:=s.toks+1}):∀(k i:Nat),i+k=items.size->i<=j->wpAny (model prog w) A (forIn (W8 i k) ((none,()):Option Fin×Unit) (Fa items x)) Q E s
 |0,i,hk,hi=>by lia
 |k+1,i,hk,hi=>by
  have li:i<items.size:=by lia
  have ei:items[i]?=some items[i]:=NO li;rw[WS,OG];refine Ms ?_;unfold Fa;rw[ei];refine Ms (he _ (Array.getElem_mem li) prog w _ _ ?_);by_cases q:i=j
  ·subst q;rw[hit,if_pos rfl];exact Ms (Ms (wpAny_mkInt (Mz (Mz (Mz h)))))
  ·rw[hno i li (by lia),if_neg (by decide)];exact Mz (vw hj hit hno he h k (i+1) (by lia) (by lia))
theorem nP(l:Addr)(items:Array Mu)(n:Nat)(dd:Option Addr)(sl:Array (Option Mu))(x:Mu)(e:Mu->Bool)(j:Nat)(hj:j<items.size)(hit:e items[j]=true)(hno:∀m (hm:m<items.size),m<j->e items[m]=false) :
  Meets (OK.«tuple.index» ⟨[.ref l,x],[]⟩)
   (fun A R s=>s.heap.get? l=some {cls:=.type "tuple",dict:=dd,data:=.seq items n,slots:=sl}/\(∀y,y∈items->VU A.in1 s y x (e y))/\R (.ok (.ret (.int j s.toks))) {s with toks:=s.toks+1}):=by
 intro prog w A R s h;obtain⟨hp,g,d,tk,os⟩:=s;obtain⟨hl,he,h⟩:=h;wp_walk using Uu hl;show wpAny _ _ (forIn [:min items.size items.size] ((none,()):Option Fin×Unit) (Fa items x)) _ _ _;rw[TJ.forIn_eq_forIn_range'];have e1:([:min items.size items.size]:TJ).size=items.size:=by simp[TJ.size]
 rw[e1];refine vw (e:=e) (j:=j) hj hit hno he ?_ items.size 0 (by lia) (NH _);exact Mz h
def ze(K:Fg):V->List V->Hp->VK->Prop:=fun x xs H Q=>∃(a:Addr) (y:V) (ds:List Dat) (d:Dat) (j:Nat),x=.ref a/\xs=[y]/\Rep K H y d/\Rep K H (.ref a) (.tuple ds)/\(∀e∈ds,kqdOk 8 e=true)/\kqdOk 8 d=true/\ds[j]?=some d/\(∀m,m<j->ds[m]?≠some d)/\ds.length<=1000/\Q (.int j) H
open Classical in
theorem zM{X:Cx} (hu:X.A.units+64<cLine):Bv X "tuple.index" (ze X.K):=by
 intro ξ s σ H x xs v us Q I rx rv h;obtain⟨a,y,ds,d,j,rfl,rfl,hd,he,ka,kd,e1,e2,ln,q⟩:=h;obtain⟨u,rfl,ru⟩:=vals1 rv;obtain⟨as,ra⟩:=Rep.reads I hd ru;obtain⟨bs,rb⟩:=Rep.reads I he rx;rw[kqdP] at rb;cases rx;generalize hp:kqdPs ds=ps at rb;cases rb with
 |@tuple _ o fm n _ _ h1 h2 h3 h4 =>
  obtain⟨c,dct,dt,sl⟩:=o;replace h2:c=.type "tuple":=h2;replace h3:dt=.seq fm n:=h3;subst h2 h3;have ZQ:Wz ps=true:=by rw[<- hp];exact(RH ka).1
  have Zq:=V3 ps _ _ ZQ h4;have lj:j<ds.length:=(My.mp e1).1
  have at_:∀m (hm:m<fm.size),RG (Qm s.heap fm[m]) (kqdP d)=decide (ds[m]?=some d):=by
   intro m hm;have g:(fm.toList.map (Qm s.heap))[m]?=some (Qm s.heap fm[m]):=by rw[ME,NM,NO hm];rfl
   rw[Zq,<- hp,kQ] at g;obtain⟨e,ge,gp⟩:=MI.mp g;rw[<- gp,wf (ka e (MH ge)) kd,ge];by_cases z:d=e
   ·simp[z]
   ·have:e≠d:=fun w=>z w.symm
    simp[z,this]
  have szl:fm.size=ds.length:=by
   have:=congrArg QI Zq
   rw[Mv,NP,<- hp] at this;rw[this,kP]
  have hm:wpAny (model X.prog X.w) X.A (call (.builtin "tuple.index") [.ref a,u]) (EP X ξ σ Q) X.xe s:=by
   refine Pf F.slot_tuple_index ⟨_,h1,rfl⟩ F.entry_tuple_index (F.args_tuple_index_2 _ _) (nP a fm n dct sl u (fun y=>RG (Qm s.heap y) (kqdP d)) j (by lia) ?_ ?_) ⟨h1,WQ h4 ra ZQ (OF 8 d kd).1 ?_,⟨.int j,H,I.tok _,⟨_,rfl⟩,q⟩⟩
   ·rw[at_ j (by lia),e1];simp
   ·intro m hm hmj;rw[at_ m hm];exact decide_eq_false (e2 m hmj)
   ·have l:=(OF 8 d kd).2
    have:=QX (RZ ps) (kqdP d).depth
    have u1:X.A.in1.in1.units<=X.A.units+8:=by simp
    lia
  exact hm
end L2
namespace L2
open PySem PySem.Spec PyProof.Rows
open PySem.Builtin.Str (strSub subAt occurrences)
abbrev xf(z y:Str):List Nat:=occurrences z y 0 z.length (z.length+1)
structure gc (K:Fg) (C:Addr) (m qual:Str) (st:Stmt) (ps:List Str):Prop where
 ex:∃(f:Addr) (fd:Ph),Fun K m qual st f fd/\Bj K C m f/\Binds K fd ps []
structure MkC (P:MP) (w:M4) (K:Fg) (mg:Str->Option Mu) (base:Heap) (CX:jF) (k:Nat) (C:Addr) (ps:List Str) (sp:Sp):Prop where
 ex:∃f fd,FnOk P w K mg base CX k f fd ps sp/\Mk K C f/\Binds K fd ps []
theorem MkC.mono{K:Fg}{CX:jF}{k:Nat}(F:MkC P w K mg base CX j C ps sp)(h:j<=k):MkC P w K mg base CX k C ps sp:=by
 obtain⟨f,fd,G,r⟩:=F.ex;exact⟨f,fd,G.mono h,r⟩
section
variable{P:MP}{w:M4}{K:Fg}{mg:Str->Option Mu}{base:Heap}{C:Addr}{m qual:Str}{st:Stmt}{N ps:List Str}{k:Nat}{sp:Sp}
theorem gc.okN(F:gc K C m qual st ps)(S:aF N ps (ah st))(len:∀vs H Q E,sp vs H Q E->vs.length=ps.length)
  (hbody:∀(f:Addr) (gV:Mu) (A:No) (outer:List Env) (s:MA) (H:Hp) (vs:List V) (Q:VK) (E:XK),N.Nodup->Room k (A.deeper (envOfC qual (ah st) s.heap.objs.size f gV))->(A.deeper (envOfC qual (ah st) s.heap.objs.size f gV)).units+64<cLine->(A.deeper (envOfC qual (ah st) s.heap.objs.size f gV)).units+1<cLine->(∀{M:Model} {A:No} {env:Env},RF M A env fun _ _=>False)->gL (cS b_ P w K mg base N qual (ah st) f gV A outer s H E).nox->sp vs H Q E ->
   ∃t,PSs (cS b_ P w K mg base N qual (ah st) f gV A outer s H E).nox (bM st) t/\t {nx:=fun _ H'=>Q .non H',rt:=Q} (start N vs) H):MtC P w K mg base b_ (k+1) C m ps sp:=by
 obtain⟨f,fd,G,hm,hb⟩:=F.ex;exact⟨f,fd,G.ok S len fun gV A outer s H vs Q E hr h=>hbody f gV A outer s H vs Q E S.nd hr hr.units (Nk (P8 (by decide:1<=64) _) hr.units) Qu ⟨rfl,rfl,rfl⟩ h,hm,hb⟩
theorem gc.okM(F:gc K C m qual st ps)(S:aF N ps (ah st))(len:∀vs H Q E,sp vs H Q E->vs.length=ps.length)
  (hbody:∀(f:Addr) (gV:Mu) (A:No) (outer:List Env) (s:MA) (H:Hp) (vs:List V) (Q:VK) (E:XK),N.Nodup->Room k (A.deeper (envOfC qual (ah st) s.heap.objs.size f gV))->(A.deeper (envOfC qual (ah st) s.heap.objs.size f gV)).units+64<cLine->(A.deeper (envOfC qual (ah st) s.heap.objs.size f gV)).units+1<cLine->RF (model P w) (cS (ff P w) P w K mg base N qual (ah st) f gV A outer s H E).A (cS (ff P w) P w K mg base N qual (ah st) f gV A outer s H E).env (cS (ff P w) P w K mg base N qual (ah st) f gV A outer s H E).xe->Lv (cS (ff P w) P w K mg base N qual (ah st) f gV A outer s H E) E->sp vs H Q E ->
   ∃t,PSs (cS (ff P w) P w K mg base N qual (ah st) f gV A outer s H E) (bM st) t/\t {nx:=fun _ H'=>Q .non H',rt:=Q} (start N vs) H):MtC P w K mg base (ff P w) (k+1) C m ps sp:=by
 obtain⟨f,fd,G,hm,hb⟩:=F.ex;obtain⟨oc,od,kV,doc,pm,an,gV,ct,Zj,rfl,lk,hcd⟩:=G.ex;exact⟨f,_,Hc lk hcd S len fun A outer s H vs Q E hr hsp=>hbody f gV A outer s H vs Q E S.nd hr hr.units (Nk (P8 (by decide:1<=64) _) hr.units) EK IM hsp,hm,hb⟩
theorem MtC.mkC{CX:jF} (F:MtC P w K mg base CX k C "__init__" ps sp) (M:RX K C=true) (kp:NU K (.ref C)=true):MkC P w K mg base CX k C ps sp:=by
 obtain⟨f,fd,G,hm,hb⟩:=F.ex;exact⟨f,fd,G,⟨M,hm.at_,hm.fn,kp⟩,hb⟩
end
section
variable{X:Cx}{k:Nat}{C:Addr}{ps:List Str}{sp:Sp}{x:Str}{p pos apos XH:Pos}{e o:Expr}{es:List Expr}{t:TA}{to:TE}{name:Str}
theorem Er(F:MkC X.prog X.w X.K X.mg X.base b_ k C ps sp) (hr:Room (k+1) X.A) (hg:Gl X x) (hm:X.mg x=some (.ref C)) (ha:PA X (e :: es) t) (hdb:(x == ("__debug__":Str))=false:=by decide) (he:starEach (e :: es) X.env=(false,eval e X.env) :: starEach es X.env:=by rfl) (YD:(backTo pos (starEach es X.env)).any (·.1)=false:=by rfl) :
  PE X (.Call (.Name x p) (e :: es) [] pos) (wC C sp [] E0 t):=by
 obtain⟨f,fd,G,M,hb⟩:=F.ex;exact Gm M G hr hg hm hb .nil kx ha hdb he YD
def L6(x:V)(H:Hp):Prop:=∃a xs,x=.ref a/\H a=some (.tup xs)
theorem HS{H:Hp}{x:V}(I:Inv X ξ σ H s)(r:RelV x v)(ty:L6 x H) :
  s.TypeIs v "tuple"/\∀a,v=.ref a->∃ob,s.heap.get? a=some ob/\ob.dict=none:=by
 obtain⟨a,xs,rfl,ha⟩:=ty;cases r;obtain⟨_,_,_,ob,e,⟨c,_⟩,d⟩:=(show bX X.prog X.w H s.heap a (.tup xs) from I.hok a _ ha)
 exact⟨⟨ob,e,c⟩,fun b z=>by cases z;exact⟨ob,e,d⟩⟩
def Fs(r:V->List V->Hp->VK->Prop)(to:TE)(t:TA):TE:=fun σ H Q=>to σ H fun x H1=>L6 x H1/\t σ H1 fun xs H2=>r x xs H2 Q
theorem IA{id:String} {r:V->List V->Hp->VK->Prop} (slot:Slot "tuple" name id) (hty:typeOf (.builtin id)=pure (.type "method_descriptor")) (hm:Bv X id r) (ho:PE X o to) (ha:PA X (e :: es) t)
  (hbase:attributeBase o name X.env (eval o X.env)=eval o X.env:=by rfl)
  (hfew:((backTo XH (starEach (e :: es) X.env)).all (fun x=>!x.1) && (backToKw XH (keywordEach [] X.env)).all (fun x=>x.1.isSome)
   && decide ((e :: es).length+([]:List Vn).length+(if ([]:List Vn).isEmpty then 0 else 1)<30))=true:=by rfl)
  (hline:(apos.endLine == XH.line)=true:=by rfl) (hs:starEach (e :: es) X.env=(false,eval e X.env) :: starEach es X.env:=by rfl) (Y3:(backTo XH (starEach es X.env)).any (·.1)=false:=by rfl) :
  PE X (.Call (.Attribute o name apos) (e :: es) [] XH) (Fs r to t):=by
 intro ξ s σ H Q I h;refine T0 hbase hfew hline rfl (bj (ho ξ s σ H _ I h) fun v s1 ⟨x,H1,I1,r1,ty,q1⟩=>?_);obtain⟨h1,h2⟩:=HS I1 r1 ty;refine⟨"tuple",id,PySem.F.plainAttrs_tuple,slot,hty,h1,h2,?_⟩;have hA:=ha XH ξ s1 σ H1 _ I1 q1;rw[hs] at hA ⊢;refine Pj (by show(false || (backTo XH (starEach es X.env)).any (·.1))=false;rw[Y3] <;> rfl) (PQ ?_);exact bj hA fun us s2 ⟨vs,H2,I2,r2,q2⟩=>hm ξ s2 σ H2 x vs v us Q I2 r1 r2 q2
theorem eZ:fillsNumberSlot (.type "tuple") "mul"=pure false :=
 PySem.fillsNumberSlot_seq (id:="tuple.__mul__") (r:=some (.builtin "tuple.__rmul__")) Qo.lookup (by decide +kernel) TK.lookup (by decide +kernel)
theorem i9:seqRepeat? (.type "tuple")=pure (some (.builtin "tuple.__mul__")):=by
 unfold seqRepeat?;rw[WT (T:="tuple") (name:="__mul__") (id:="tuple.__mul__") Qo.lookup (by decide +kernel),WT (T:="tuple") (name:="__rmul__") (id:="tuple.__rmul__") TK.lookup (by decide +kernel)];rfl
theorem gg(a:Int)(t:Tok)(l:Addr)(items:Array Mu)(n:Nat)(dd:Option Addr)(sl:Array (Option Mu)) :
  Meets (OK.«int.__rmul__» ⟨[.int a t,.ref l],[]⟩) (fun _ R s=>s.heap.get? l=some {cls:=.type "tuple",dict:=dd,data:=.seq items n,slots:=sl}/\R (.ok (.ret Mu.notImplemented)) s) :=
 .of_wp fun prog w A R s h=>by obtain⟨hp,g,d,tk,os⟩:=s;obtain⟨hl,h⟩:=h;wp_walk;exact⟨_,rfl,h⟩
open AutoSeq1 (wpAny_loadPart') in
theorem wB(l:Addr)(items:Array Mu)(n:Nat)(dd:Option Addr)(sl:Array (Option Mu))(u:Tok) :
  Meets (OK.«tuple.__mul__» ⟨[.ref l,.int 1 u],[]⟩) (fun _ R s=>s.heap.get? l=some {cls:=.type "tuple",dict:=dd,data:=.seq items n,slots:=sl}/\R (.ok (.ret (.ref l))) s) :=
 .of_wp fun prog w A R s h=>by obtain⟨hp,g,d,tk,os⟩:=s;obtain⟨hl,h⟩:=h;wp_walk using Uu hl;exact⟨_,rfl,h⟩
open AutoSeq1 (wpAny_loadPart') in
theorem wA(l:Addr)(v:Mu)(n:Nat)(dd:Option Addr)(sl:Array (Option Mu))(u:Tok)(m:Nat)(m2:2<=m)(m1:m<=5) :
  Meets (OK.«tuple.__mul__» ⟨[.ref l,.int m u],[]⟩) (fun _ R s=>s.heap.get? l=some {cls:=.type "tuple",dict:=dd,data:=.seq #[v] n,slots:=sl}/\R (.ok (.ret (.ref s.heap.objs.size))) {s with heap:=s.heap.push {cls:=.type "tuple",data:=.seq (Nq m v).toArray}}) :=
 .of_wp fun prog w A R s h=>by
  obtain⟨hp,g,d,tk,os⟩:=s;obtain⟨hl,h⟩:=h;rcases (by lia:m=2\/m=3\/m=4\/m=5) with rfl|rfl|rfl|rfl <;> (wp_walk using Uu hl;exact⟨_,rfl,h⟩)
theorem vj{v:V}{u:Mu}(r:RelV v u):∀n:Nat,Vals (Nq n v) (Nq n u)
 |0=>.nil
 |n+1=>.cons r (vj r n)
def Il(_:Fg):R2:=fun x y H Q=>∃(a:Addr) (v:V) (n:Nat),x=.ref a/\y=.int (n:Int)/\H a=some (.tup [v])/\1<=n/\n<=5/\∀(l:Addr) (H':Hp),Same H H'->H' l=some (.tup (Nq n v))->Q (.ref l) H'
theorem Gr:ft X (binaryOp .Mult) (Il X.K):=by
 intro ξ s σ H x y v u Q I rx ry h;obtain⟨a,z,n,rfl,rfl,ha,n1,n5,q⟩:=h;cases rx;obtain⟨t,rfl⟩:=ry;obtain⟨_,fm,r,⟨cc,dd,dt,sl⟩,e,⟨c,k,d⟩,_⟩:=(show bX X.prog X.w H s.heap a (.tup [z]) from I.hok a _ ha)
 obtain⟨w1,rfl,rw⟩:=vals1 r;simp only at c d;subst c d;by_cases h1:n=1
 ·subst h1
  refine SN (T:="tuple") (U:="int") (by decide) ⟨_,e,rfl⟩ (fun s'=>TZ s' _ t) eZ UH QD i9 Uj.lookup
   (Pf QD (TZ s _ t) Uk (TL _ _) (gg _ t a _ k dd sl)
    ⟨e,rfl,⟨_,e,rfl⟩,Pf Qo ⟨_,e,rfl⟩ TM (Tk _ _) (wB a _ k dd sl t) ⟨e,?_⟩⟩)
  exact⟨.ref a,H,I,rfl,q a H (Same.refl _) ha⟩
 ·refine SN (T:="tuple") (U:="int") (by decide) ⟨_,e,rfl⟩ (fun s'=>TZ s' _ t) eZ UH QD i9 Uj.lookup
   (Pf QD (TZ s _ t) Uk (TL _ _) (gg _ t a _ k dd sl)
    ⟨e,rfl,⟨_,e,rfl⟩,Pf Qo ⟨_,e,rfl⟩ TM (Tk _ _) (wA a w1 k dd sl t n (by lia) n5) ⟨e,?_⟩⟩)
  exact⟨.ref s.heap.objs.size,_,I.laid (t':=s.toks) (o:=.tup (Nq n z)) (fun b o e=>Mt _ e) (MB _) ⟨by rw[Oj,Oi];lia,Nq n w1,vj rw n,TupD.new _ _⟩,rfl,q _ _ (au (I.hok.fresh (MB _)) _) ak⟩
open PySem.W (Dat kqdP kqdPs kqdOk) in
open Classical in
def zd(K:Fg):R2:=fun x y H Q=>∃d ds,Rep K H x d/\Rep K H y (.tuple ds)/\(∀e∈ds,kqdOk 8 e=true)/\kqdOk 8 d=true/\Q (.bl (!decide (d∈ds))) H
theorem zu(hu:X.A.units+64<cLine):ft X (compareOp .NotIn) (zd X.K):=by
 intro ξ s σ H x y v u Q I rx ry h;obtain⟨d,ds,hd,he,ka,kd,q⟩:=h;obtain⟨as,ra⟩:=Rep.reads I hd rx;obtain⟨bs,rb⟩:=Rep.reads I he ry;rw[PySem.W.kqdP] at rb;exact SeqAt.notIn_tuple_reads rb ra (RH ka).1 (OF 8 d kd).1 (Ay kd hu) ⟨_,H,I,(by rw[uZ ka kd];rfl),q⟩
end
abbrev ng (h:Heap) (z TI TO T:Addr) (b:Bool):Prop:=h.get? z=some {cls:=.type "zip",dict:=none,data:=.fields #[rawInt T,.bool b,.bool false,.ref TI,.ref TO],slots:=#[]}
section
variable{prog:MP}{w:M4}{A:No}{E:Mu->MA->Prop}{s:MA}{z TI TO i1 i2 l1 l2 T:Addr}{xs ys:Array Mu}{S1 S2:Nat->Heap->Prop}{k:Nat}{b:Bool}
theorem zX{a:Addr}{Q:Option Obj->MA->Prop}(h:Q (s.heap.get? a) s):wpAny (model prog w) A (loadIfAlive a) Q E s:=by
 intro Γ p hΓ;exact h
theorem xB{Q:Bool->MA->Prop}(hz:ng s.heap z TI TO T b)(al:∃o,s.heap.get? T=some o)(q:∀h',ng h' z TI TO T true->QN z s.heap h'->h'.objs.size=s.heap.objs.size->Q false {s with heap:=h'}) :
  wpAny (model prog w) A (M6 (.ref z)) Q E s:=by
 obtain⟨o,ho⟩:=al;unfold M6;refine Ms (Nn hz rfl (x:=rawInt T) rfl ?_);refine Ms (zX ?_);rw[if_neg (by rw[Ol,ho];simp)];refine Ms (Nn hz rfl (x:=.bool b) rfl ?_);cases b with
 |true=>exact Mz (q s.heap hz (fun _ _ _ e=>e) rfl)
 |false =>
  refine Ms (NI hz (by simp) fun h1 YB Yb=>?_);exact Mz (q h1 YB Yb.extBut Yb.1)
theorem xz(D:HM z TI TO i1 i2 l1 l2)(W1:Bx prog w i1 l1 xs S1)(W2:Bx prog w i2 l2 ys S2)(hz:ng s.heap z TI TO T b)(al:∃o,s.heap.get? T=some o)(hI:Pk s.heap TI (.ref i1) (.ref i2))(t1:S1 k s.heap)(t2:S2 k s.heap){Q:Option Mu->MA->Prop} :
  (∀x y,xs[k]?=some x->ys[k]?=some y->(∀h',ng h' z TI TO T true->Pk h' TI (.ref i1) (.ref i2)->S1 (k+1) h'->S2 (k+1) h'->Pk h' s.heap.objs.size x y ->
   (∀c o,c∉[z,i1,i2]->s.heap.get? c=some o->h'.get? c=some o)->Q (some (.ref s.heap.objs.size)) {s with heap:=h'})->wpAny (model prog w) A (pyNext (.ref z)) Q E s) /\
  (A.handled=none->xs[k]?=none->(∀h',(∀c o,c∉[z,i1,i2]->s.heap.get? c=some o->h'.get? c=some o)->Q none {s with heap:=h'})->wpAny (model prog w) A (pyNext (.ref z)) Q E s):=by
 have ty:s.TypeIs (.ref z) "zip":=⟨_,hz,rfl⟩
 obtain⟨n1,n2,ZF,ZV,YJ,Zi,ZE,Z7,Z8,n12,q1,q2,q3,q4,q5,q6⟩:=nK D.a D.b D.c D.d D.e D.f;constructor
 ·intro x y hx hy q;unfold pyNext;refine Ms (O7 (NF (name:=Om "__next__") ty Od (N5 Od ty Qe ?_ (PY _))));show wpAny _ _ (field (.ref z) 2 >>= _) _ _ _;refine Ms (Nn hz rfl (x:=.bool false) rfl ?_);show wpAny _ _ (field (.ref z) 3 >>= _) _ _ _;refine Ms (Nn hz rfl (x:=.ref TI) rfl (Ms (Nz hI rfl ?_)));show wpAny _ _ (M6 (.ref z) >>= _) _ _ _;refine Ms (xB hz al fun h1 YB Yb sz1=>?_);rw[if_neg (by decide)];refine Ms ?_;rw[V4];simp only[OG,QP];refine Ms (Ms (NQ ?_));show wpAny _ _ (M7 (.ref i1) >>= _) _ _ _;have k1:∀c,(c=i1\/c=l1)->c≠z:=fun c hc=>by rcases hc with rfl|rfl <;> assumption
  have k2:∀c,(c=i2\/c=l2)->c≠z:=fun c hc=>by rcases hc with rfl|rfl <;> assumption
  have u1:S1 k h1:=W1.keep k _ _ t1 fun c hc o e=>Yb c o (k1 c hc) e
  have u2:S2 k h1:=W2.keep k _ _ t2 fun c hc o e=>Yb c o (k2 c hc) e
  refine Ms (W1.item _ _ _ k x _ u1 hx fun h2 Z_ hs2=>Mz (Mz ?_));refine Ms (Ms (NQ ?_));show wpAny _ _ (M7 (.ref i2) >>= _) _ _ _;have u22:S2 k h2:=W2.keep k _ _ u2 fun c hc o e=>hs2.extBut _ _ (by rcases hc with rfl|rfl;exact n12.symm;assumption) e
  refine Ms (W2.item _ _ _ k y _ u22 hy fun h3 t23 hs3=>Mz (Mz ?_));refine Mz (Ms (UZ (hsz:=cC) ?_));have sz:h3.objs.size=s.heap.objs.size:=by rw[hs3.1,hs2.1,sz1]
  have all:∀c o,c∉[z,i1,i2]->s.heap.get? c=some o->h3.get? c=some o:=fun c o hc e=>by
   simp only[MD,MF,or_false,not_or] at hc;exact hs3.extBut _ _ hc.2.2 (hs2.extBut _ _ hc.2.1 (Yb _ _ hc.1 e))
  refine Mz ⟨_,rfl,Mz ?_⟩;have r1:S1 (k+1) h3:=W1.keep _ _ _ Z_ fun c hc o e=>hs3.extBut _ _ (by rcases hc with rfl|rfl <;> assumption) e
  have hz3:ng h3 z TI TO T true:=hs3.extBut _ _ n2.symm (hs2.extBut _ _ n1.symm YB);show Q (some (.ref h3.objs.size)) _;have fin:=q (h3.push {cls:=.type "tuple",data:=.seq #[x,y]}) (Mt _ hz3) (Mt _ (all _ _ (by simp[Zi,Z7,Z8]) hI)) (W1.keep _ _ _ r1 fun c hc o e=>Mt _ e) (W2.keep _ _ _ t23 fun c hc o e=>Mt _ e) (by rw[<- sz];exact ML _ rfl) fun c o hc e=>Mt _ (all c o hc e)
  rw[<- sz] at fin;exact fin
 ·intro hh hx q;unfold pyNext;refine Ms (O7 (NF (name:=Om "__next__") ty Od (N5 Od ty Qe ?_ (PY _))));show wpAny _ _ (field (.ref z) 2 >>= _) _ _ _;refine Ms (Nn hz rfl (x:=.bool false) rfl ?_);show wpAny _ _ (field (.ref z) 3 >>= _) _ _ _;refine Ms (Nn hz rfl (x:=.ref TI) rfl (Ms (Nz hI rfl ?_)));show wpAny _ _ (M6 (.ref z) >>= _) _ _ _;refine Ms (xB hz al fun h1 YB Yb sz1=>?_);rw[if_neg (by decide)];refine Ms ?_;rw[V4];simp only[OG,QP];refine Ms (Ms (NQ ?_));show wpAny _ _ (M7 (.ref i1) >>= _) _ _ _;have u1:S1 k h1:=W1.keep k _ _ t1 fun c hc o e=>Yb c o (by rcases hc with rfl|rfl <;> assumption) e
  refine Ms (W1.fin _ _ _ k _ hh u1 hx fun h2 e hs2 ⟨oe,YN,YX⟩=>?_);refine Ms (QZ (T:="StopIteration") (b:=true) ⟨oe,YN,YX⟩ SD (Mz (q _ fun c o hc e=>?_)));simp only[MD,MF,or_false,not_or] at hc;exact hs2 _ _ hc.2.1 (Yb _ _ hc.1 e)
end
def ZSt(z TI TO i1 i2:Addr)(S1 S2:Nat->Heap->Prop)(k:Nat)(h:Heap):Prop :=
 (k=0/\Mh z TI TO i1 i2 S1 S2 0 h)\/∃T b,(ng h z TI TO T b/\T∉[z,i1,i2])/\(∃o,h.get? T=some o)/\Pk h TI (.ref i1) (.ref i2)/\(∃a b,Pk h TO a b)/\S1 k h/\S2 k h
abbrev Kp(it l:Addr)(xs:Array Mu)(j:Nat)(h:Heap):Prop:=Kn.T.it h it l j/\Kn.T.seq h l xs
def Ka(H:Hp)(xv yv:List V)(i:Nat)(vs:List V):Prop:=∀j x y,j<i->xv[j]?=some x->yv[j]?=some y->∃T,vs[j]?=some (.ref T)/\H T=some (.tup [x,y])
theorem ZSt.z{z TI TO:Addr}(t:ZSt z TI TO i1 i2 S1 S2 k h):∀c∈[z,TI,TO],c<h.objs.size:=by
 intro c hc;simp only[MD,MF,or_false] at hc;rcases t with⟨_,t⟩|⟨T,b,⟨t1,_⟩,_,t3,⟨_,_,t4⟩,_⟩
 ·obtain⟨_,_,t4⟩:=t.o;rcases hc with rfl|rfl|rfl
  ·exact MG t.z
  ·exact MG t.i
  ·exact MG t4
 ·rcases hc with rfl|rfl|rfl
  ·exact MG t1
  ·exact MG t3
  ·exact MG t4
theorem ZSt.st{z TI TO:Addr}(t:ZSt z TI TO i1 i2 S1 S2 k h):S1 k h/\S2 k h:=by
 rcases t with⟨rfl,t⟩|⟨T,b,_,_,_,_,t⟩
 ·exact⟨t.s1,t.s2⟩
 ·exact t
section
variable{X:Cx}{ξ:List (Addr×Obj)}{σ:St}{z TI TO i1 i2 a b S:Addr}{xv yv:List V}{us ws:List Mu}{H0:Hp}
theorem HQ{A:No}{R:TU->MA->Prop}(hh:A.in1.handled=none)(D:HM z TI TO i1 i2 a b)(r1:Vals xv us)(r2:Vals yv ws)(el:xv.length=yv.length)(l9:xv.length<=1000)
  (hR:∀s' H' YO,Inv X ξ σ H' s'->H' S=some (.lst YO)->YO.length=xv.length->Ka H' xv yv xv.length YO->(∀c o,c≠S->H0 c=some o->H' c=some o)->R (.ok (.ret res)) s') :
  ∀(m i:Nat) (s:MA) (H:Hp) (vs:List V),xv.length-i=m->i<=xv.length->Inv X ξ σ H s->(∀c∈[z,TI,TO,i1,i2],fq X ξ H c)->ZSt z TI TO i1 i2 (Kp i1 a us.toArray) (Kp i2 b ws.toArray) i s.heap ->
   H S=some (.lst vs)->vs.length=i->a≠S->b≠S->Ka H xv yv i vs->(∀c o,c≠S->H0 c=some o->H c=some o) ->
   codeAny (model X.prog X.w) A (.builtin "list.extend.loop" ⟨[.ref S,.ref z,res],[]⟩) R s:=by
 have W1:=Kn.T.drw (prog:=X.prog) (w:=X.w) i1 a (MC D.e) us.toArray;have W2:=Kn.T.drw (prog:=X.prog) (w:=X.w) i2 b (MC (MJ D.f D.a)) ws.toArray;obtain⟨n1,n2,ZF,ZV,YJ,Zi,ZE,Z7,Z8,n12,q1,q2,q3,q4,q5,q6⟩:=nK D.a D.b D.c D.d D.e D.f;have eu:=r1.length;have ew:=r2.length;intro m
 induction m with
 |zero =>
  intro i s H vs hm hi I hf st hS hv aS bS pr sm;have hin:i=xv.length:=by lia
  refine Qv SO ?_;rw[QT PF _];show wpAny _ A.in1 (pyNext (.ref z) >>= _) _ _ s;have end1:us.toArray[i]?=none:=by simp;lia
  refine Ms ?_
  have fin:∀h':Heap,(∀c o,c∉[z,TI,TO,i1,i2]->s.heap.get? c=some o->h'.get? c=some o)->wpAny (model X.prog X.w) A.in1 (ret res) (fun fin s'=>match fin with|.done f=>R (.ok f) s'|.again c'=>c'.quiet=true/\codeAny (model X.prog X.w) A c' R s') (fun e s'=>R (.error e) s') {s with heap:=h'}:=fun h' kp =>
   Mz (hR _ H vs (I.iB (t':=s.toks) (fun c o hc e=>kp c o hc e) hf) hS (by lia) (by rw[<- hin];exact pr) sm)
  rcases st with⟨rfl,t⟩|⟨T,bb,⟨t1,tn⟩,t2,t3,t4,t5,t6⟩
  ·exact(vi D W1 W2 t).2 hh (.inl end1) fun h' kp=>fin h' kp
  ·exact(xz D W1 W2 t1 t2 t3 t5 t6).2 hh end1 fun h' kp=>fin h' fun c o hc e=>kp c o (fun y=>hc (by simp only[MD,MF,or_false] at y;rcases y with rfl|rfl|rfl <;> simp)) e
 |succ m ih =>
  intro i s H vs hm hi I hf st hS hv aS bS pr sm;have li:i<xv.length:=by lia
  obtain⟨u1,e1,ru1⟩:=r1.get (Mw li);obtain⟨u2,e2,ru2⟩:=r2.get (Mw (show i<yv.length by lia));refine Qv SO ?_;rw[QT PF _];show wpAny _ A.in1 (pyNext (.ref z) >>= _) _ _ s;refine Ms ?_
  have nT:∀c∈[z,TI,TO,i1,i2],c≠s.heap.objs.size:=fun c XR=>by
   simp only[MD,MF,or_false] at XR;rcases XR with rfl|rfl|rfl|rfl|rfl
   ·exact MC (st.z _ (by simp))
   ·exact MC (st.z _ (by simp))
   ·exact MC (st.z _ (by simp))
   ·obtain⟨_,q,_⟩:=Kn.T.hZ st.st.1.1;exact MC (MG q)
   ·obtain⟨_,q,_⟩:=Kn.T.hZ st.st.2.1;exact MC (MG q)
  have nS:∀c∈[z,TI,TO,i1,i2],c≠S:=fun c XR e=>by
   have:=(hf c XR).1
   rw[e,hS] at this;cases this
  have Yu:H s.heap.objs.size=none:=I.hok.fresh (MB _);have Sne:S≠s.heap.objs.size:=aC hS Yu
  have go:∀h':Heap,ZSt z TI TO i1 i2 (Kp i1 a us.toArray) (Kp i2 b ws.toArray) (i+1) h'->Pk h' s.heap.objs.size u1 u2->(∀c o,c∉[z,TI,TO,i1,i2]->s.heap.get? c=some o->h'.get? c=some o) ->
    wpAny (model X.prog X.w) A.in1 (updateSeq S (·.push (.ref s.heap.objs.size)) >>= fun _=>again (.builtin "list.extend.loop" ⟨[.ref S,.ref z,res],[]⟩)) (fun fin s'=>match fin with|.done f=>R (.ok f) s'|.again c'=>c'.quiet=true/\codeAny (model X.prog X.w) A c' R s') (fun e s'=>R (.error e) s') {s with heap:=h'}:=by
   intro h' Y6 hT all
   have I1:Inv X ξ σ (upd H s.heap.objs.size (.tup [xv[i],yv[i]])) {s with heap:=s.heap.push {cls:=.type "tuple",data:=.seq #[u1,u2]}} :=
    I.laid (t':=s.toks) (fun b u e=>Mt _ e) (MB _) ⟨cC,[u1,u2],.cons ru1 (.cons ru2 .nil),TupD.new _ _⟩
   have I2:Inv X ξ σ (upd H s.heap.objs.size (.tup [xv[i],yv[i]])) {s with heap:=h'}:=Inv.iB (s:={s with heap:=s.heap.push {cls:=.type "tuple",data:=.seq #[u1,u2]}}) (t':=s.toks) (fp:=[z,TI,TO,i1,i2]) I1 (fun c o XR e=>by
    rcases RU e with⟨ec,eo⟩|e
    ·rw[ec,eo];exact hT
    ·exact all c o XR e) fun c XR=>⟨by rw[av (nT c XR)];exact(hf c XR).1,(hf c XR).2⟩
   have hS2:upd H s.heap.objs.size (.tup [xv[i],yv[i]]) S=some (.lst vs):=by rw[av Sne];exact hS
   obtain⟨zz,fm,n,rr,hl,ee⟩:=I2.lstM hS2;have Z4:sizeLine=16777216:=by decide
   refine Ms (Re ee rfl (Mz ⟨VM PF _,?_⟩) (by rw[MU,<- hl];lia) (by rw[Xd,MU,<- hl];lia));have I3:=I2.lset (t':=s.toks) (its':=fm++[.ref s.heap.objs.size]) (ys:=vs++[.ref s.heap.objs.size]) (f:=(·.push (.ref s.heap.objs.size))) hS2 ee (by simp) (rr.append (.cons (show RelV (V.ref s.heap.objs.size) (MX s.heap.objs.size) from rfl) .nil)) (by rw[M3,OW,Z4];lia);refine ih (i+1) _ _ (vs++[.ref s.heap.objs.size]) (by lia) (by lia) I3 (fun c XR=>⟨by rw[av (nS c XR),av (nT c XR)];exact(hf c XR).1,(hf c XR).2⟩) ?_ ak (by rw[M3,OW];lia) aS bS ?_ ?_
   ·have up:∀c o,c≠S->h'.get? c=some o->(h'.update S (Oo (·.push (.ref s.heap.objs.size)))).get? c=some o:=fun c o hc e=>(Nt _ _ (N1 hc)).trans e
    have k1:=W1.keep _ _ (h'.update S (Oo (·.push (.ref s.heap.objs.size)))) Y6.st.1 fun c hc o e=>up c o (by rcases hc with rfl|rfl;exact nS _ (by simp);exact aS) e
    have k2:=W2.keep _ _ (h'.update S (Oo (·.push (.ref s.heap.objs.size)))) Y6.st.2 fun c hc o e=>up c o (by rcases hc with rfl|rfl;exact nS _ (by simp);exact bS) e
    rcases Y6 with⟨z0,_⟩|⟨T,bb,⟨t1,tn⟩,⟨o2,t2⟩,t3,⟨x4,y4,t4⟩,t5⟩
    ·lia
    ·refine .inr ⟨T,bb,⟨up _ _ (nS _ (by simp)) t1,tn⟩,?_,up _ _ (nS _ (by simp)) t3,⟨x4,y4,up _ _ (nS _ (by simp)) t4⟩,k1,k2⟩;by_cases e9:T=S
     ·exact⟨_,by rw[e9];exact NB _ ee rfl⟩
     ·exact⟨o2,up _ _ e9 t2⟩
   ·intro j x y hj hx hy;by_cases hji:j=i
    ·subst hji;rw[Mw li] at hx;rw[Mw (show j<yv.length by lia)] at hy;cases hx;cases hy;exact⟨s.heap.objs.size,by rw[<- hv];simp,by rw[av Sne.symm,ak]⟩
    ·obtain⟨T,p1,p2⟩:=pr j x y (by lia) hx hy;have nTS:T≠S:=fun e=>by rw[e,hS] at p2;cases p2
     exact⟨T,by rw[Nu (by lia)];exact p1,by rw[av nTS,av (aC p2 Yu)];exact p2⟩
   ·intro c o hc e;have e3:=sm c o hc e;rw[av hc,av (aC e3 Yu)];exact e3
  have g1:us.toArray[i]?=some u1:=by simpa using e1
  have g2:ws.toArray[i]?=some u2:=by simpa using e2
  have nn:=nT;rcases st with⟨rfl,t⟩|⟨T,bb,⟨t1,tn⟩,t2,t3,t4,t5,t6⟩
  ·refine(vi D W1 W2 t).1 u1 u2 g1 g2 fun h' hz' hI' hO' s1' s2' hT all=>?_
   exact go h' (.inr ⟨_,false,⟨hz',fun y=>by simp only[MD,MF,or_false] at y;rcases y with y|y|y <;> exact nT _ (by simp) y.symm⟩,⟨_,hT⟩,hI',hO',s1',s2'⟩) hT all
  ·refine(xz D W1 W2 t1 t2 t3 t5 t6).1 u1 u2 g1 g2 fun h' hz' hI' s1' s2' hT all=>?_
   obtain⟨o2,t2⟩:=t2;obtain⟨x4,y4,t4⟩:=t4;exact go h' (.inr ⟨T,true,⟨hz',tn⟩,⟨_,all _ _ tn t2⟩,hI',⟨x4,y4,all _ _ (by simp[YJ,ZF,ZV]) t4⟩,s1',s2'⟩) hT fun c o hc e=>all c o (fun y=>hc (by simp only[MD,MF,or_false] at y;rcases y with rfl|rfl|rfl <;> simp)) e
end
theorem wx:typeLookup (.type "zip") "__len__"=pure none:=by rw[typeLookup_type,UI];kernel_rfl
theorem sR:typeLookup (.type "zip") "__length_hint__"=pure none:=by rw[typeLookup_type,UI];kernel_rfl
section
variable{X:Cx}{ξ:List (Addr×Obj)}{σ:St}{H:Hp}{s:MA}{z TI TO i1 i2 a b:Addr}{xv yv:List V}
theorem qf{Q:Mu->MA->Prop}(I:Inv X ξ σ H s)(hh:X.A.handled=none)(D:HM z TI TO i1 i2 a b)(hz:Qw s.heap z TI TO .none)(hI:Pk s.heap TI (.ref i1) (.ref i2))(hO:∃x y,Pk s.heap TO x y)(t1:Kn.T.it s.heap i1 a 0)(t2:Kn.T.it s.heap i2 b 0)
  (fp:∀c∈[z,TI,TO,i1,i2],fq X ξ H c) (ha:H a=some (.tup xv)) (hb:H b=some (.tup yv)) (el:xv.length=yv.length) (l9:xv.length<=1000)
  (q:∀S YO H' s',H S=none->Inv X ξ σ H' s'->Same H H'->H' S=some (.lst YO)->YO.length=xv.length->Ka H' xv yv xv.length YO->Q (.ref S) s'):wpAny (model X.prog X.w) X.A (call (.type "list") [.ref z]) Q X.xe s:=by
 obtain⟨us,r1,p1⟩:=Kn.T.inv I (SqT.of ha);obtain⟨ws,r2,p2⟩:=Kn.T.inv I (SqT.of hb)
 refine callType_codes (Q₁:=fun obj s₁=>obj=.ref s.heap.objs.size/\s₁ = {s with heap:=s.heap.push {cls:=.type "list",data:=.seq #[]}}) PySem.F.called_list (PySem.F.typeCall_list_1 _) PySem.F.entry_list_init
  (code_list_new _ ⟨rfl,rfl⟩) fun obj s₁ h₁=>?_
 obtain⟨rfl,rfl⟩:=h₁;have fr:H s.heap.objs.size=none:=I.hok.fresh (MB _);have hS:(s.heap.push {cls:=.type "list",data:=.seq #[]}).get? s.heap.objs.size=some {cls:=.type "list",data:=.seq #[]}:=ML _ rfl;refine⟨⟨_,hS,rfl⟩,PySem.F.args_list_init_2 _ _,?_⟩;have zlt:z<s.heap.objs.size:=MG hz;have zS:s.heap.objs.size≠z:=NG zlt;show wpAny _ X.A.in1.in1 (do let old <- Ul (.ref s.heap.objs.size);OK.List.listUpdate (.ref s.heap.objs.size) (fun _=>#[]);letGo old.toList.reverse;QH (.ref s.heap.objs.size) (.ref z) .none) _ _ _;refine Ms ?_;unfold Ul;refine Ms (Nz hS rfl (Mz ?_));show wpAny _ _ (updateSeq s.heap.objs.size (fun _=>#[]) >>= fun _=>letGo (#[]:Array Mu).toList.reverse >>= fun _=>QH (.ref s.heap.objs.size) (.ref z) .none) _ _ _;refine Ms (Re hS rfl ?_);have hS2:=NB (Oo (fun _=>(#[]:Array Mu))) hS rfl;refine Ms (Qh ?_);have kp:∀c o,s.heap.get? c=some o->((s.heap.push {cls:=.type "list",data:=.seq #[]}).update s.heap.objs.size (Oo (fun _=>(#[]:Array Mu)))).get? c=some o:=fun c o e=>(Nt _ _ (NG (MG e))).trans (Mt _ e)
 generalize (s.heap.push {cls:=.type "list",data:=.seq #[]}).update s.heap.objs.size (Oo (fun _=>(#[]:Array Mu)))=h2 at hS2 kp ⊢;have ty:Xy {s with heap:=h2} (.ref z) "zip":=⟨_,kp _ _ hz,rfl⟩
 unfold QH;refine Ms (TX ty ?_);have e1:Tl (.ref s.heap.objs.size) (.ref z)=false:=by simp[Tl,zS]
 have e2:(O0 "zip" == O0 "list")=false:=by decide
 have e3:(O0 "zip" == O0 "tuple")=false:=by decide
 simp only[e1,e2,e3,VG,Na,if_false];refine Ms (Q0 (s:={s with heap:=h2}) (kp _ _ hz) ?_);refine Ms (NQ ?_);unfold OK.List.listLengthHint;refine Ms (R7 ty wx ?_);show wpAny _ _ (specialOf (MX z) (Om "__length_hint__") >>= _) _ _ _;refine Ms (R7 ty sR ?_);refine Mz ?_;show wpAny _ _ (rule "list.extend.makes-room" >>= fun _=>OK.List.listTouch (.ref s.heap.objs.size) >>= fun _=>again (.builtin "list.extend.loop" ⟨[.ref s.heap.objs.size,.ref z,.none],[]⟩)) _ _ _;refine Ms (SE ?_);refine Ms ?_;show wpAny _ _ (updateSeq s.heap.objs.size (·.push .none) >>= fun _=>updateSeq s.heap.objs.size (·.pop)) _ _ _;refine Ms (Re hS2 rfl ?_);have hS3:=NB (Oo (·.push NJ)) hS2 rfl;refine Re (hz:=by seq_fits) hS3 rfl ?_;have hS4:=NB (Oo (·.pop)) hS3 rfl;have ZT:∀c o,s.heap.get? c=some o->((h2.update s.heap.objs.size (Oo (·.push NJ))).update s.heap.objs.size (Oo (·.pop))).get? c=some o:=fun c o e=>(Nt _ _ (NG (MG e))).trans ((Nt _ _ (NG (MG e))).trans (kp c o e))
 generalize (h2.update s.heap.objs.size (Oo (·.push NJ))).update s.heap.objs.size (Oo (·.pop))=h4 at hS4 ZT ⊢;refine Mz ⟨VM PF _,?_⟩;have I4:Inv X ξ σ (upd H s.heap.objs.size (.lst [])) {s with heap:=h4}:=I.laid (t':=s.toks) ZT (MB _) ⟨NH _,[],_,.nil,hS4⟩;obtain⟨x9,y9,hO⟩:=hO
 have nS:∀c∈[z,TI,TO,i1,i2],c≠s.heap.objs.size:=fun c XR=>by
  simp only[MD,MF,or_false] at XR;rcases XR with rfl|rfl|rfl|rfl|rfl
  ·exact MC zlt
  ·exact MC (MG hI)
  ·exact MC (MG hO)
  ·obtain⟨_,y,_⟩:=Kn.T.hZ t1;exact MC (MG y)
  ·obtain⟨_,y,_⟩:=Kn.T.hZ t2;exact MC (MG y)
 show codeAny _ X.A.in1 _ (wants (fun r s₂=>r=NJ/\Q (MX s.heap.objs.size) s₂) X.xe) {s with heap:=h4};refine HQ (X:=X) (ξ:=ξ) (σ:=σ) (S:=s.heap.objs.size) (H0:=H) (A:=X.A.in1) (R:=wants (fun r s₂=>r=NJ/\Q (MX s.heap.objs.size) s₂) X.xe) (res:=.none) hh D r1 r2 el l9 (fun s' H' YO I' h1 h2 h3 h4=>⟨rfl,q _ YO H' s' fr I' (fun c o e=>h4 c o (aC e fr) e) h1 h2 h3⟩) xv.length 0 _ _ [] (by lia) (NH _) I4 (fun c XR=>⟨by rw[av (nS c XR)];exact(fp c XR).1,(fp c XR).2⟩) (.inl ⟨rfl,ZT _ _ hz,ZT _ _ hI,⟨_,_,ZT _ _ hO⟩,⟨Kn.T.itAt t1 fun o e=>ZT _ _ e,Kn.T.tR p1 fun o e=>ZT _ _ e⟩,⟨Kn.T.itAt t2 fun o e=>ZT _ _ e,Kn.T.tR p2 fun o e=>ZT _ _ e⟩⟩) ak rfl (aC ha fr) (aC hb fr) (fun j _ _ hj=>absurd hj (R6 _)) fun c o hc e=>by rw[av hc];exact e
def oo(ta:TA):TE:=fun σ H Q=>ta σ H fun vs H1=>∃a b xv yv,vs=[.ref a,.ref b]/\H1 a=some (.tup xv)/\H1 b=some (.tup yv)/\xv.length=yv.length/\xv.length<=1000 /\
 ∀S YO H',H1 S=none->Same H1 H'->H' S=some (.lst YO)->YO.length=xv.length->Ka H' xv yv xv.length YO->Q (.ref S) H'
theorem wS{x y:Expr} {ta:TA} {p p2 pos YK:Pos} (hc:X.calm=true) (hgl:Gl X "list") (hml:X.mg "list"=none) (hg:Gl X "zip") (hm:X.mg "zip"=none) (hA:PA X [x,y] ta) (hs:starEach [x,y] X.env=[(false,eval x X.env),(false,eval y X.env)]:=by rfl) (hs2:starEach [y] X.env=[(false,eval y X.env)]:=by rfl)
  (hs3:starEach [Expr.Call (.Name "zip" p2) [x,y] [] YK] X.env=[(false,eval (.Call (.Name "zip" p2) [x,y] [] YK) X.env)]:=by rfl) :
  PE X (.Call (.Name "list" p) [.Call (.Name "zip" p2) [x,y] [] YK] [] pos) (oo ta):=by
 intro ξ s σ H Q I h;refine Oa (fE I hgl hml dM (N2 ?_ hs3 rfl));rw[hs3];refine(show wpAny _ _ (spliced ((false,eval (.Call (.Name "zip" p2) [x,y] [] YK) X.env) :: backTo pos [])) _ _ s from N_ ?_);refine Oa (fE I hg hm Bf (N2 (bj (hA YK ξ s σ H _ I h) fun us s1 ⟨vs,H1,I1,r1,q1⟩=>?_) (by rw[hs,hs2]) (by rw[hs2];rfl)));obtain⟨a,b,xv,yv,e,ha,hb,el,l9,q⟩:=q1;subst e;obtain⟨u1,u2,rfl,ra,rb⟩:=vals2 r1;cases ra;cases rb;obtain⟨v1,w1,p1⟩:=Kn.T.inv I1 (SqT.of ha);obtain⟨v2,w2,p2⟩:=Kn.T.inv I1 (SqT.of hb);refine D5 p1 p2 fun h' z TI TO i1 i2 D le hz hI hO t1 t2 kp=>Pc ?_
 have I2:Inv X ξ σ H1 {s1 with heap:=h'}:=I1.kept (t':=s1.toks) kp;refine qf (s:={s1 with heap:=h'}) I2 (I1.ok.hd hc) D hz hI hO t1 t2 (fun c hc=>?_) ha hb el l9 fun S YO H' s' f I' sm h1 h2 h3=>⟨.ref S,H',I',rfl,q S YO H' f sm h1 h2 h3⟩
 have Z6:s1.heap.objs.size<=c:=by
  have d1:=D.a;have d2:=D.b;have d3:=D.c;have d4:=D.d;simp only[MD,MF,or_false] at hc;rcases hc with rfl|rfl|rfl|rfl|rfl
  ·exact NS (Nk le (MJ d1 (MJ d2 (MJ d3 d4))))
  ·exact NS (Nk le (MJ d1 d2))
  ·exact NS (Nk le (MJ d1 (MJ d2 d3)))
  ·exact le
  ·exact NS (Nk le d1)
 exact I1.fpOk Z6 (I1.hok.fresh Z6)
end
section
variable{X:Cx}{e k:Expr}{te tk:TE}{p2 pos:Pos}
def BK(te tk:TE):TE:=fun σ H Q=>te σ H fun x H1=>tk σ H1 fun i H2=>∃z,x=.str z/\i=.int (-1)/\z.length<=sizeLine/\∀y:Str,(∀c∈y.cps.toList,c∈z.cps.toList)->y.length<=z.length->Q (.str y) H2
theorem Gi(he:PE X e te)(hk:PE X k tk):PE X (.Subscript e (.Slice none none (some k) p2) pos) (BK te tk):=by
 intro ξ s σ H Q I h;refine VY (bj (he ξ s σ H _ I h) fun v s1 ⟨x,H1,I1,r1,q1⟩=>WZ ?_);rw[Tb];refine Mz (Mz (bj (hk ξ s1 σ H1 _ I1 q1) fun u s2 ⟨y,H2,I2,r2,z,ex,ey,hz,q⟩=>?_));subst ex ey;obtain⟨tz,rfl⟩:=r1;obtain⟨t,rfl⟩:=r2;have I3:Inv X ξ σ H2 {s2 with heap:=s2.heap.push {cls:=.type "slice",data:=.fields #[.none,.none,.int (-1) t]}}:=I2.kept (t':=s2.toks) fun b ob q=>Mt _ q
 show wpAny (model X.prog X.w) X.A (subscriptTail e (.Slice none none (some k) p2) (.str z tz) (.ref s2.heap.objs.size)) (EP X ξ σ Q) X.xe {s2 with heap:=s2.heap.push {cls:=.type "slice",data:=.fields #[.none,.none,.int (-1) t]}};refine Xi (ops:=[.str z tz,.ref s2.heap.objs.size]) (Qk _ _ _) SB.lookup (NT (l:=none) (u:=none) (st:=some (-1,t)) ⟨_,ML _ rfl,rfl,rfl⟩ rfl ?_) (by with_unfolding_all rfl);have ep:slicePicked z none none (some (-1,t))=(N7 z.length).map fun k=>z.length-1-k:=PySem.W.krv_sliceRange z.length
 have lt:(((slicePicked z none none (some (-1,t))).filterMap (z.cps[·]?)).toArray:Array Nat).size<=z.length:=by
  rw[MU];refine Np (Q_ _ _) ?_;rw[ep,Mv,QG];exact MB _
 have e1:sliceMade z tz none none (some (-1,t))=Made.str ⟨((slicePicked z none none (some (-1,t))).filterMap (z.cps[·]?)).toArray⟩:=rfl;rw[e1];refine⟨Np lt hz,.str _,H2,I3.tok _,⟨_,rfl⟩,q _ (fun c hc=>?_) lt⟩;have hc:c∈((slicePicked z none none (some (-1,t))).filterMap (z.cps[·]?)):=hc;obtain⟨i,_,ei⟩:=N9.mp hc;exact PM.mpr (Array.mem_of_getElem? ei)
theorem Jf{H:Hp}{Q:VK}(h:te σ H fun x H1=>tk σ H1 fun i H2=>∃z,x=.str z/\i=.int (-1)/\z.length<=sizeLine/\∀y:Str,(∀c∈y.cps.toList,c∈z.cps.toList)->y.length<=z.length->Q (.str y) H2):BK te tk σ H Q:=h
end
theorem K7(z:Str):(Qd z (some (-7)) none).length<=7:=by
 have h:(M9 (some (-7)) none 1 z.length).length<=7:=by
  unfold M9 sliceRange;simp only[Mv,QG];lia
 unfold Qd;split
 ·rename_i c;rw[Ou,beq_iff_eq (a:=QI _)] at c;rw[<- c.2];exact h
 ·refine Np ?_ h;show((M9 (some (-7)) none 1 z.length).filterMap (z.cps[·]?)).toArray.size<=_;rw[MU];exact Q_ _ _
section
variable{X:Cx}{CX:jF}{k:Nat}{C:Addr}{m:Str}{ps:List Str}{sp:Sp}{E:XK}{o e:Expr}{es:List Expr}{ta:TE}{t:TA}{apos pos ap:Pos}
theorem D9{st:Stmt}(h1:PS X.nox st ts)(h2:HA X sts u):HA X (st :: sts) (DQ ts u):=by
 intro ξ s σ H D E I h;refine Qb (Nj (h1 ξ s σ H _ (I.wish fun _ _=>False) h) (fun f s1 q=>?_) fun _ _ z=>z.elim);cases f with
 |next=>obtain⟨σ1,H1,I1,q1⟩:=q;exact h2 ξ s1 σ1 H1 D E I1.dU q1
 |ret u=>obtain⟨_,_,_,_,_,z⟩:=q;exact z.elim
 |brk=>obtain⟨_,_,_,z⟩:=q;exact z.elim
 |cont=>obtain⟨_,_,_,z⟩:=q;exact z.elim
def mZ(i:Nat)(C:Addr)(m:Str)(sp:Sp)(ta:TE)(t:TA):TB:=fun D E σ H=>ta σ H fun x H1=>∃a dx fs,x=.ref a/\H1 a=some (.ins C dx fs)/\fs.lookup m=none/\t σ H1 fun vs H2=>sp (x :: (vs++[])) H2 (fun v H3=>D.nx (σ.set i (some v)) H3) (E σ)
theorem jH{i:Nat}{x:Str}(hN:X.N.Nodup)(hi:X.N[i]?=some x)(la:X.env.scope.names.lookup x=some .local)(he:PE X.nox o ta)(c:Cls X.K C)(F:MtC X.prog X.w X.K X.mg X.base (ff X.prog X.w) k C m ps sp)(hr:Room k X.A)(ha:PA X.nox (e :: es) t)
  (hst:starEach (e :: es) X.env=(false,eval e X.env) :: starEach es X.env:=by rfl) (YD:(backTo pos (starEach es X.env)).any (·.1)=false:=by rfl)
  (ht:eval (.Call (.Attribute o m apos) (e :: es) [] pos) X.env=(do
   let ov <- eval o X.env
   standAt apos.atName
   let (f,first) <- holding [ov] (getMethod ov m pl)
   callWith pos f first (backTo pos (starEach (e :: es) X.env)) (backToKw pos (keywordEach [] X.env))):=by rfl)
  (hsa:swapsWith (.Call (.Attribute o m apos) (e :: es) [] pos) (some (.Name x p0)) ap.line X.env=pure false:=by rfl):HA X [.Assign [.Name x p0] (.Call (.Attribute o m apos) (e :: es) [] pos) ap] (mZ i C m sp ta t):=by
 intro ξ s σ H D E I h;refine Qb (wpAny_Assign_Name (Nj (BG he c F hr ha hst YD ht I h) (fun u s1 ⟨x,H2,I2,r,q⟩=>?_) fun e' s' ⟨H1,s1,J,z⟩=>⟨σ,H1,s1,J,z⟩) hsa);exact gW I2 hN hi (.inl la) r (fun s3 I3=>OS ⟨_,H2,I3,q⟩) (.inr la)
def Fj(K:Fg)(C:Addr)(m:Str)(sp:Sp)(Dv:Addr)(n y:Nat)(ta:TE):TS:=fun D σ H=>ta σ H fun x H1=>∃a dx fs,x=.ref a/\H1 a=some (.ins C dx fs)/\fs.lookup m=none/\sp [x] H1 (fun _ H3=>D.nx σ H3) (Bb K Dv n y D σ)
theorem Gf{xn xy:Str}{n y:Nat}{p3 hp ep:Pos}(he:PE X.nox o ta)(c:Cls X.K C)(F:MtC X.prog X.w X.K X.mg X.base (ff X.prog X.w) k C m ps sp)(hr:Room k X.A)(w:gL X)
  (hg:Gl X v) (ev:Bl X.K X.mg v Dv) (hN:X.N.Nodup) (hn:X.N[n]?=some xn) (hy:X.N[y]?=some xy) (ln:X.env.scope.names.lookup xn=some .local) (ly:X.env.scope.names.lookup xy=some .local)
  (hnd:(xn == ("__debug__":Str))=false:=by decide) (hnc:(xn == ("__classdict__":Str))=false:=by decide) (hsw:swapsWith (.Name xn p2) (some (.Name xy p1)) p3.line X.env=pure false:=by rfl)
  (hvd:(v == ("__debug__":Str))=false:=by decide)
  (ht:eval (.Call (.Attribute o m apos) [] [] pos) X.env=(do
   let ov <- eval o X.env
   standAt apos.atName
   let (f,first) <- holding [ov] (getMethod ov m pl)
   callWith pos f first (backTo pos (starEach [] X.env)) (backToKw pos (keywordEach [] X.env))):=by rfl)
  (hse:swapsWith (.Call (.Attribute o m apos) [] [] pos) none ap.line X.env=pure false:=by rfl) :
  PS X (.Try [.Expr (.Call (.Attribute o m apos) [] [] pos) ap] [.ExceptHandler (some (.Name v vp)) (some xn) [.Assign [.Name xy p1] (.Name xn p2) p3] hp] [] [] ep) (Fj X.K C m sp Dv n y ta):=by
 intro ξ s σ H D I h;obtain⟨f,fd,G,hm,hb⟩:=F.ex;refine wpAny_Try_except (Qb (wpAny_Expr_any (Nj (?_:wpAny _ _ _ (EP X ξ σ fun _ H3=>D.nx σ H3) _ s) (fun u s1 ⟨x,H2,I2,r,q⟩=>OS (OS ⟨_,H2,I2,q⟩)) fun _ _ z=>z) I.quiet hse));refine QC (pl:=pl) (Nj (he ξ s σ H _ (I.wish fun _ _=>False) h) (fun u s1 ⟨x,H1,I1,rx,a,dx,fs,ex,ea,l,q⟩=>?_) fun _ _ z=>z.elim) ht;subst ex;obtain rfl:u=MX a:=rx;have J1:Inv X ξ σ H1 s1:=I1.dU;refine fZ J1 ea c hm l ?_;refine Vu (first:=[.ref a]) J1.kIn hm.kp ?_;have r2:Vals [V.ref a] [MX a]:=.cons rfl .nil;have hl:[MX a].length=ps.length:=by rw[<- r2.length];exact G.len _ _ _ _ q
 refine QM (PN (G.run X.A X.stack s1 H1 ⟨[MX a],[]⟩ [MX a] [V.ref a] (fun _ H3=>D.nx σ H3) _ hr J1.env0 (hb s1 [MX a] J1.kIn hl) r2 q) fun res s' hq=>?_);cases res with
 |error e'=>exact Hm J1 w hg ev hN hn hy ln ly hnd hnc hsw hq hvd
 |ok fl =>
  cases fl with
  |ret u=>exact J1.after hq
  |next=>exact NZ hq
  |brk=>exact NZ hq
  |cont=>exact NZ hq
theorem Jc{K:Fg}{D:bJ}{H:Hp}(h:ta σ H fun x H1=>∃a dx fs,x=.ref a/\H1 a=some (.ins C dx fs)/\fs.lookup m=none/\sp [x] H1 (fun _ H3=>D.nx σ H3) (Bb K Dv n y D σ)):Fj K C m sp Dv n y ta D σ H:=h
theorem JA{D:bJ}{E:St->XK}{σ:St}{H:Hp}{t:TS}{u:TB}(h:t {nx:=fun σ' H'=>u D E σ' H',rt:=fun _ _=>False} σ H):DQ t u D E σ H:=h
theorem Db{D:bJ}{E:St->XK}{H:Hp}(h:ta σ H fun x H1=>∃a dx fs,x=.ref a/\H1 a=some (.ins C dx fs)/\fs.lookup m=none/\t σ H1 fun vs H2=>sp (x :: (vs++[])) H2 (fun v H3=>D.nx (σ.set i (some v)) H3) (E σ)):mZ i C m sp ta t D E σ H:=h
end
end L2
open L2
local macro_rules | `(tactic| fail "s")=>`(tactic| first
 |(show(0:Int)<_;omega)
 |(unfold HK;omega)
 |(unfold CMul;omega)
 |exact⟨by decide,by decide,by decide⟩)
local macro_rules | `(tactic| fail "1")=>`(tactic| first
 |(with_reducible first|refine Lf ?_|refine JC ?_|refine Ao ?_)
 |((with_reducible refine' uM ?k1 ?_);(case k1=>exact rfl))
 |(with_reducible first|refine L9 ?_|refine Ln ?_|refine Lh ?_|refine LD ?_|refine Lq ?_|refine LC ?_|refine LF ?_|refine Lr ?_|refine Lz ?_|refine Jd ?_|refine Ld ?_|refine LL ?_|refine Lg ?_|refine EG ?_|refine GZ ?_|refine Jl ?_|refine LN ?_|refine Lm ?_|refine JD ?_|refine Ll ?_|refine Jj ?_|refine LA ?_|refine G4 ?_|refine Lp ?_|refine Jx ?_|refine Jz ?_|refine LH ?_|refine Lb ?_|refine Ls ?_|refine La ?_|refine Jh ?_|refine Le ?_|refine C7 ?_|refine Ji ?_|refine Ly ?_|refine k_retN ?_|refine Jw ?_|refine k_revT ?_|refine G0 ?_|refine G3 ?_|refine Jr ?_|refine Js ?_|refine Jo ?_|refine k_enum ?_|refine k_rev ?_|refine k_dget ?_|refine k_dnotIn ?_|refine k_dget1 ?_|refine k_par ?_|refine Ju ?_|refine Jv ?_|refine Lw ?_|refine Lu ?_|refine K_ ?_|refine Lx ?_|refine Jk ?_|refine LB ?_|refine Jy ?_|refine Je ?_|refine k_rng2 ?_|refine GW ?_|refine Jq ?_|refine LK ?_|refine LJ ?_|refine LG ?_|refine GX ?_|refine Jt ?_|refine k_break ?_|refine k_cont ?_|refine k_int1 ?_|refine Jp ?_|refine k_abs ?_|refine uO ?_|refine uP ?_|refine Am ?_|refine GU ?_|refine k_iteNNT ?_|refine k_iteNNF ?_)
 |((with_reducible refine' jB ?k1 ?_);(case k1=>fail "s"))
 |((with_reducible refine' Li ?k1 ?_);(case k1=>(constructor <;> omega)))
 |((with_reducible refine' Lj ?k1 ?_);(case k1=>(constructor <;> omega))))
local macro_rules | `(tactic| walk_at "")=>`(tactic| repeat fail "1")
namespace G1
open PySem L2 Fr
open PySem.W (Dat kqdOk)
abbrev ends(Q:VK):bJ:={nx:=fun _ H'=>Q .non H',rt:=Q}
def Mx(n:Int):Prop:=0<=n/\n<2147483647
def oH(K:Fg):Sp:=fun vs H Q _=>∃c m:Int,vs=[.int c,.int m]/\0<=m/\m<=100/\∀(p:Addr) (H':Hp) (ns:List Int),AccZ K H p H' (ns.map PV)->ns.length=m.toNat->(∀n∈ns,Mx n)->Q (.ref p) H'
def tq(K:Fg):TS:=(ar (aQ (cz am) (aJ 2))
 (ar (aQ (aA ug (ac 0) (tC (.int 2))) (aJ 3))
 (ar (a_ (bq (aA jL (aA bU (ac 0) (tC (.int 2))) (tC (.int 1))))
 (ar (fw (k8 (ag (ac 1) am)) (aJ 4)
 (ar (dS (j4 K "list" cE (ac 2) (ag (aA bU (ac 3) (tC (.int 5040))) am)))
 (aQ (aA ug (ac 3) (tC (.int 5040))) (aJ 3))))
 (aU (ac 2)))
 bc)
 (ar (aQ (aA bU (aA dj (aA (rI CMul fun i j=>.int (i*j)) (aA bU (ac 3) (tC (.int 2147483647))) (tC (.int 16807))) (tC (.int 11))) (tC (.int 2147483647))) (aJ 3))
 (ar (fw (k8 (ag (ac 1) am)) (aJ 4)
 (ar (aQ (aA bU (aA dj (aA dj (aA dj (aA (rI CMul fun i j=>.int (i*j)) (ac 3) (ac 3)) (aA (rI CMul fun i j=>.int (i*j)) (tC (.int 48271)) (ac 3))) (ac 4)) (tC (.int 1))) (tC (.int 2147483647))) (aJ 3))
 (dS (j4 K "list" cE (ac 2) (ag (ac 3) am)))))
 (aU (ac 2)))))))
theorem Cd{K:Fg}{N:List Str}(hN:N.length=5)(h:oH K vs H Q E):tq K (ends Q) (L2.start N vs) H:=by
 obtain⟨c,m,rfl,h0,h1,k⟩:=h;rw[L2.bv hN];walk_at "t";unfold tq;walk_at "";refine⟨by decide,fun l nl=>?_⟩;walk_at "";refine bL (fun _=>?_) (fun _=>?_)
 ·walk_at "";refine cX (fun i σ H2=>∃(ns:List Int) (z:Int) (v:Option V),σ=[some (.int c),some (.int m),some (.ref l),some (.int z),v]/\AccZ K H l H2 (ns.map PV)/\ns.length=i/\∀n∈ns,Mx n) ⟨[],_,none,rfl,AccZ.start (Same.refl _) nl,rfl,by simp⟩ ?_ ?_
  ·rintro i σ H2 hi ⟨ns,z,v,rfl,A,hl,hb⟩;walk_at "";refine⟨A.ty,?_⟩;walk_at "";refine kY A (.int _) (aX (by rw[Mv];lia)) fun H3 A3 _ _ _=>?_
   walk_at "";refine⟨ns++[z % 5040],_,_,rfl,by simpa using A3,by simp[hl],fun n hn=>?_⟩;rcases Ni.mp hn with q|q
   ·exact hb n q
   ·rw[MK.mp q];exact⟨by lia,by lia⟩
  ·rintro σ H2 ⟨ns,z,v,rfl,A,hl,hb⟩;walk_at "";exact k l H2 ns A hl hb
 ·walk_at "";refine cX (fun i σ H2=>∃(ns:List Int) (z:Int) (v:Option V),σ=[some (.int c),some (.int m),some (.ref l),some (.int z),v]/\Mx z/\AccZ K H l H2 (ns.map PV)/\ns.length=i/\∀n∈ns,Mx n) ⟨[],_,none,rfl,⟨by lia,by lia⟩,AccZ.start (Same.refl _) nl,rfl,by simp⟩ ?_ ?_
  ·rintro i σ H2 hi ⟨ns,z,v,rfl,⟨hz0,YB⟩,A,hl,hb⟩;walk_at "";refine⟨A.ty,?_⟩;walk_at "";refine kY A (.int _) (aX (by rw[Mv];lia)) fun H3 A3 _ _ _=>?_
   have w:Mx ((z*z+48271*z+(0+(i:Int))+1) % 2147483647):=⟨by lia,by lia⟩
   walk_at "";refine⟨ns++[(z*z+48271*z+(0+(i:Int))+1) % 2147483647],_,_,rfl,w,by rw[M8];exact A3,by simp[hl],fun n hn=>?_⟩;rcases Ni.mp hn with q|q
   ·exact hb n q
   ·rw[MK.mp q];exact w
  ·rintro σ H2 ⟨ns,z,v,rfl,_,A,hl,hb⟩;walk_at "";exact k l H2 ns A hl hb
def bi(n:Nat)(hs:List Int):Prop:=hs.length=n/\∀x∈hs,0<=x/\x<=3
abbrev dI(ns:List Int):Dat:=.tuple (ns.map PV)
def qB(K:Fg):Sp:=fun vs H Q _=>∃n m t:Int,vs=[.int n,.int m,.int t]/\0<=m/\m<=100/\0<=t/\t<=3/\∀(p:Addr) (H':Hp) (hs:List Int),Same H H'->bi m.toNat hs->Rz K H' (.ref p) (dI hs)->Q (.ref p) H'
theorem AccZ.ints{K:Fg}{ns:List Int}(A:AccZ K H0 l H (ns.map PV)):H l=some (.lst (ns.map V.int)):=by
 obtain⟨xs,h1,h2⟩:=A.at_;rw[RpL.ints_of h2] at h1;exact h1
theorem AccZ.strs{K:Fg}{ns:List Str}(A:AccZ K H0 l H (ns.map Nw)):H l=some (.lst (ns.map V.str)):=by
 obtain⟨xs,h1,h2⟩:=A.at_;rw[RpL.gr h2] at h1;exact h1
def xU(K:Fg):TS:=(ar (aQ (cz am) (aJ 3))
 (ar (fw (k8 (ag (ac 1) am)) (aJ 4)
 (ar (dS (j4 K "list" cE (ac 3) (ag (aA bU (ac 0) (aA dj (ac 2) (tC (.int 1)))) am)))
 (aQ (aA ug (ac 0) (aA dj (ac 2) (tC (.int 1)))) (aJ 0))))
 (aU (bQ (fA K) (ag (ac 3) am)))))
theorem FT{K:Fg}{N:List Str}(hN:N.length=5)(h:qB K vs H Q E):xU K (ends Q) (L2.start N vs) H:=by
 obtain⟨n0,m,t,rfl,h0,h1,t0,t1,k⟩:=h;rw[L2.bv hN];walk_at "t";unfold xU;walk_at "";refine⟨by decide,fun l nl=>?_⟩;walk_at "";refine cX (fun i σ H2=>∃(ns:List Int) (z:Int) (v:Option V),σ=[some (.int z),some (.int m),some (.int t),some (.ref l),v]/\AccZ K H l H2 (ns.map PV)/\bi i ns) ⟨[],_,none,rfl,AccZ.start (Same.refl _) nl,rfl,by simp⟩ ?_ ?_
 ·rintro i σ H2 hi ⟨ns,z,v,rfl,A,hl,hb⟩;walk_at "";refine⟨A.ty,?_⟩;walk_at "";refine kY A (.int _) (aX (by rw[Mv];lia)) fun H3 A3 _ _ _=>?_
  walk_at "";refine⟨ns++[_],_,_,rfl,by simpa using A3,by simp[hl],fun n hn=>?_⟩;rcases Ni.mp hn with q|q
  ·exact hb n q
  ·rw[MK.mp q];have e1:=Ot z (b:=t+1) (by lia);have e2:=N0 z (b:=t+1) (by lia);exact⟨by lia,by lia⟩
 ·rintro σ H2 ⟨ns,z,v,rfl,A,hh⟩;walk_at "";have e:=AccZ.ints A;refine rT (SqL.of e) fun p np=>?_
  exact k p _ ns (A.same.trans (au np _)) hh (.tup ak (RpL.ints ns))
abbrev az:Str:="abcdefghijklmnopqrstuvwxyz"
theorem LV:∀j:Nat,j<26->az.cps.toList[j]?=some (97+j):=by decide +kernel
theorem Hr:∀j:Nat,j<26->Txt.find az ⟨#[97+j]⟩=(j:Int):=by decide +kernel
theorem ES:az.length<=sizeLine:=by decide +kernel
theorem J4{i:Int}(h0:0<=i)(h1:i<26):lG az.cps.toList i=some (97+i.toNat):=by
 have e:i=((i.toNat:Nat):Int):=by lia
 have q:=bz (LV i.toNat (by lia));rw[<- e] at q;exact q
def Low(z:Str):Prop:=∀x∈z.cps.toList,97<=x/\x<=122
theorem bY(z:Str):z.cps.toList.length=z.length:=by simp[Xj]
theorem pH{c:Nat}(h0:97<=c)(h1:c<=122):Low ⟨#[c]⟩:=fun x hx=>by
 have:x=c:=by simpa using hx
 lia
theorem iY(ha:Low a)(hb:Low b):Low (a++b):=fun x hx=>by
 rw[RB,P9] at hx;rcases Ni.mp hx with q|q
 ·exact ha x q
 ·exact hb x q
theorem uI{lo:Option Int}(h:Low z):Low (kg z lo hi):=fun x hx=>by
 have q:x∈(EM z.cps.toList hi).drop (lo.getD 0).toNat:=by simpa[kg] using hx
 have q2:=RV q;cases hi with
 |none=>exact h x q2
 |some j=>exact h x (Vb q2)
theorem oS(z:Str)(lo hi:Option Int):(kg z lo hi).length=(EM z.cps.toList hi).length-(lo.getD 0).toNat:=by
 show(Vp (lo.getD 0).toNat (EM z.cps.toList hi)).toArray.size=_;rw[MU,Oe]
def yr:Sp:=fun vs H Q _=>∃c m:Int,vs=[.int c,.int m]/\0<=m/\m<=100/\∀z:Str,z.length=m.toNat->Low z->Q (.str z) H
def x6(K:Fg):TS:=(ar (aQ (aA bU (aA dj (aA (rI CMul fun i j=>.int (i*j)) (aA bU (ac 0) (tC (.int 2147483647))) (tC (.int 16807))) (tC (.int 11))) (tC (.int 2147483647))) (aJ 2))
 (ar (aQ (tC (.str "")) (aJ 3))
 (ar (fw (k8 (ag (ac 1) am)) (aJ 4)
 (ar (aQ (aA bU (aA dj (aA dj (aA dj (aA (rI CMul fun i j=>.int (i*j)) (ac 2) (ac 2)) (aA (rI CMul fun i j=>.int (i*j)) (tC (.int 48271)) (ac 2))) (ac 4)) (tC (.int 1))) (tC (.int 2147483647))) (aJ 2))
 (aQ (aA eK (ac 3) (aA qU (tC (.str "abcdefghijklmnopqrstuvwxyz")) (aA bU (ac 2) (tC (.int 26))))) (aJ 3))))
 (aU (ac 3)))))
theorem FY{K:Fg}{N:List Str}(hN:N.length=5)(h:yr vs H Q E):x6 K (ends Q) (L2.start N vs) H:=by
 obtain⟨c,m,rfl,h0,h1,k⟩:=h;rw[L2.bv hN];walk_at "t";unfold x6;walk_at "";refine cX (fun i σ H2=>∃(z:Int) (w:Str) (v:Option V),σ=[some (.int c),some (.int m),some (.int z),some (.str w),v]/\Mx z/\H2=H/\w.length=i/\Low w) ⟨_,"",none,rfl,⟨by lia,by lia⟩,rfl,rfl,by intro x hx;exact absurd hx (by decide +revert)⟩ ?_ ?_
 ·rintro i σ H2 hi ⟨z,w,v,rfl,⟨hz0,YB⟩,rfl,hl,hw⟩;walk_at "";refine C9 ES (J4 (by lia) (by lia)) ?_;refine fL ?_ ?_
  ·rw[hl];exact NS (aX (by show i+1<=1000;lia))
  walk_at "";refine⟨_,_,_,rfl,⟨by lia,by lia⟩,rfl,?_,iY hw (pH (by lia) (by lia))⟩;rw[Nb,hl];rfl
 ·rintro σ H2 ⟨z,w,v,rfl,_,rfl,hl,hw⟩;walk_at "";exact k w hl hw
def yk:Sp:=fun vs H Q _=>∃(b:Str) (p s k:Int),vs=[.str b,.int p,.int s,.int k]/\b.length=8/\Low b/\0<=p/\p<s/\s<=8/\0<=k/\k<=100 /\
 ∀(w:Str) (c:Nat),w.length=s.toNat->Low w->b.cps.toList[p.toNat]?=some c->w.cps.toList[p.toNat]?=some (97+(((c:Int)-97+3*k) % 26).toNat)->Q (.str w) H
def xH (K:Fg):TS:=(ar (aQ (tC (.str "abcdefghijklmnopqrstuvwxyz")) (aJ 4))
 (ar (aQ (aA qU (ac 4) (aA bU (aA dj (j4 K "str" Ir (ac 4) (ag (aA qU (ac 0) (ac 1)) am)) (aA (rI CMul fun i j=>.int (i*j)) (tC (.int 3)) (ac 3))) (tC (.int 26)))) (aJ 5))
 (aU (aA eK (aA eK (xq Ct (ac 0) eO (gq (ac 1))) (ac 5)) (xq Ct (ac 0) (gq (aA dj (ac 1) (tC (.int 1)))) (gq (ac 2)))))))
theorem FG{K:Fg}{N:List Str}(hN:N.length=6)(h:yk vs H Q E):xH K (ends Q) (L2.start N vs) H:=by
 obtain⟨b,p,s,k,rfl,hb,lb,p0,p1,s8,k0,k1,q⟩:=h;rw[L2.bv hN];walk_at "t";unfold xH;have hp:p.toNat<b.cps.toList.length:=by rw[bY];lia
 have hc:=lb _ (Qf hp);have e1:b.cps.toList[p.toNat]?=some b.cps.toList[p.toNat]:=Mw hp;generalize b.cps.toList[p.toNat]=c at hc e1
 have e2:lG b.cps.toList p=some c:=by
  have e:p=((p.toNat:Nat):Int):=by lia
  have q:=bz e1;rw[<- e] at q;exact q
 have bl:b.length<=sizeLine:=by rw[hb];decide
 walk_at "";refine⟨rfl,?_⟩;walk_at "";refine C9 bl e2 ?_;refine⟨_,_,rfl,rfl,?_⟩
 have ec:(⟨#[c]⟩:Str)=⟨#[97+(c-97)]⟩:=by
  have:c=97+(c-97):=by lia
  rw[<- this]
 rw[ec,Hr (c-97) (by lia)];walk_at "";have ej:(((c-97:Nat):Int)+3*k) % 26=((c:Int)-97+3*k) % 26:=by congr 1;lia
 rw[ej];refine C9 ES (J4 (by lia) (by lia)) ?_;walk_at "";refine⟨_,rfl,bl,trivial,p0,?_⟩;have n1:=oS b none (some p);have n2:=oS b (some (p+1)) (some s);simp only[EM,Ng,bY,hb,Option.getD] at n1 n2
 have n1':(kg b none (some p)).length=p.toNat:=by
  rw[n1]
  have:(0:Int).toNat=0:=rfl
  lia
 have n2':(kg b (some (p+1)) (some s)).length=s.toNat-(p.toNat+1):=by
  rw[n2];lia
 walk_at "";refine fL ?_ ?_
 ·rw[n1'];exact NS (aX (by show p.toNat+1<=1000;lia))
 walk_at "";refine⟨_,rfl,bl,(by show 0<=p+1;lia),(by show 0<=s;lia),?_⟩;refine fL ?_ ?_
 ·rw[Nb,n1',n2'];exact NS (aX (by show p.toNat+1+_<=1000;lia))
 refine q _ c ?_ (iY (iY (uI lb) (pH (by lia) (by lia))) (uI lb)) e1 ?_
 ·rw[Nb,Nb,n1',n2'];show p.toNat+1+_=_;lia
 ·rw[RB,RB,P9,P9,N6,Nr (by rw[bY,n1'];exact MB _),bY,n1',Ui];rfl
def wt(w:Str):Prop:=1<=w.length/\w.length<=8/\Low w
def eG(ws:List Str):Prop:=ws.Nodup/\∀w∈ws,wt w
def tL(K:Fg):Sp:=fun vs H Q _=>∃(a:Addr) (ns:List Int) (t m:Int),vs=[.ref a,.int t,.int m]/\SqL K H a (ns.map V.int)/\0<=t/\1<=m/\m<=5 /\
 ∀(p:Addr) (H':Hp) (ws:List Str),AccZ K H p H' (ws.map Nw)->eG ws->ws.length=m.toNat->Q (.ref p) H'
theorem mJ{α:Type}{xs:List α}{x:α}(h:xs.Nodup)(n:x∉xs):(xs++[x]).Nodup:=by
 rw[List.nodup_append];refine⟨h,by simp,?_⟩;intro a ha b hb e;rw[MK.mp hb] at e;exact n (e ▸ ha)
theorem DS{α:Type}{P:α->Prop}{xs:List α}{x:α}(h:∀y∈xs,P y)(n:P x):∀y∈xs++[x],P y:=fun y hy=>by
 rcases Ni.mp hy with q|q
 ·exact h y q
 ·rw[MK.mp q];exact n
def sV(K:Fg):TS:=(ar (aQ (aW (mH K) [] E0 (ag (ac 0) (ag (ac 1) am))) (aJ 3))
 (ar (aQ (aA dj (tC (.int 1)) (aA bU (ac 3) (tC (.int 8)))) (aJ 4))
 (ar (aQ (aW yr [] E0 (ag (aW (mH K) [] E0 (ag (ac 0) (ag (aA dj (ac 1) (tC (.int 1))) am))) (ag (tC (.int 8)) am))) (aJ 5))
 (ar (aQ (cz am) (aJ 6))
 (ar (fw (k8 (ag (ac 2) am)) (aJ 7)
 (ar (aQ (aW yk [] E0 (ag (ac 5) (ag (aA bU (aA ug (ac 3) (tC (.int 32))) (ac 4)) (ag (ac 4) (ag (ac 7) am))))) (aJ 8))
 (ar (a_ (bq (aA jL (aA bU (aA ug (ac 3) (tC (.int 8))) (tC (.int 4))) (tC (.int 1))))
 (aQ (xq Ct (ac 5) eO (gq (aA dj (ac 7) (tC (.int 1))))) (aJ 8))
 bc)
 (dS (j4 K "list" cE (ac 6) (ag (ac 8) am))))))
 (aU (ac 6)))))))
theorem B6{K:Fg}{N:List Str}(hN:N.length=9)(h:tL K vs H Q E):sV K (ends Q) (L2.start N vs) H:=by
 obtain⟨a,ns,t,m,rfl,hS,t0,m1,m5,k⟩:=h;rw[L2.bv hN];walk_at "t";unfold sV;walk_at "";refine⟨a,ns,t,rfl,hS,t0,?_⟩;generalize cellOf ns t=c;walk_at "";refine⟨a,ns,t+1,rfl,hS,by lia,?_⟩;generalize cellOf ns (t+1)=c2;walk_at "";refine⟨c2,8,rfl,by decide,by decide,fun b hb lb=>?_⟩;walk_at "";refine⟨by decide,fun l nl=>?_⟩;walk_at "";have sp:0<1+c % 8:=by lia
 refine cX (fun i σ H2=>∃(ws:List Str) (v7 v8:Option V),σ=[some (.ref a),some (.int t),some (.int m),some (.int c),some (.int (1+c % 8)),some (.str b),some (.ref l),v7,v8]/\AccZ K H l H2 (ws.map Nw)/\ws.length=i/\eG ws /\
   ∀(j:Nat) (w:Str),ws[j]?=some w->(c / 8 % 4=1->w.length=j+1)/\(c / 8 % 4≠1->∃e:Nat,b.cps.toList[(c / 32 % (1+c % 8)).toNat]?=some e/\w.cps.toList[(c / 32 % (1+c % 8)).toNat]?=some (97+(((e:Int)-97+3*(j:Int)) % 26).toNat)))
  ⟨[],none,none,rfl,AccZ.start (Same.refl _) nl,rfl,⟨Pa,by simp⟩,by simp⟩ ?_ ?_
 ·rintro i σ H2 hi ⟨ws,v7,v8,rfl,A,hl,hw,hj⟩;have pm0:=Ot (c / 32) (b:=1+c % 8) (by lia);have pm1:=N0 (c / 32) sp;walk_at "";refine⟨b,c / 32 % (1+c % 8),1+c % 8,0+(i:Int),rfl,hb,lb,pm0,pm1,by lia,by lia,by lia,fun w e n1 n2 e1 e2=>?_⟩
  have fin:∀x:Str,wt x->((c / 8 % 4=1->x.length=i+1)/\(c / 8 % 4≠1->∃e:Nat,b.cps.toList[(c / 32 % (1+c % 8)).toNat]?=some e/\x.cps.toList[(c / 32 % (1+c % 8)).toNat]?=some (97+(((e:Int)-97+3*(i:Int)) % 26).toNat))) ->
    eG (ws++[x])/\∀(j:Nat) (w:Str),(ws++[x])[j]?=some w->(c / 8 % 4=1->w.length=j+1)/\(c / 8 % 4≠1->∃e:Nat,b.cps.toList[(c / 32 % (1+c % 8)).toNat]?=some e/\w.cps.toList[(c / 32 % (1+c % 8)).toNat]?=some (97+(((e:Int)-97+3*(j:Int)) % 26).toNat)):=by
   intro x ox px;refine⟨⟨mJ hw.1 fun hx=>?_,DS hw.2 ox⟩,fun j w e=>?_⟩
   ·obtain⟨j,hj1,hj2⟩:=Vc.mp hx;have g:ws[j]?=some x:=by rw[Mw hj1,hj2]
    obtain⟨q1,q2⟩:=hj j x g;by_cases f:c / 8 % 4=1
    ·have:=q1 f
     have:=px.1 f
     lia
    ·obtain⟨e',g1,g2⟩:=q2 f;obtain⟨e'',g3,g4⟩:=px.2 f;rw[g1] at g3;cases g3;rw[g2] at g4;have g5:=MY g4;lia
   ·by_cases lt:j<ws.length
    ·rw[Nu lt] at e;exact hj j w e
    ·rw[Nr (by lia)] at e
     have z:j-ws.length=0:=by
      rcases Nat.eq_zero_or_pos (j-ws.length) with z|z
      ·exact z
      ·rw[OX (by simp;lia)] at e;cases e
     rw[z] at e;have e':x=w:=by simpa using e
     have ej:j=i:=by lia
     rw[<- e',ej];exact px
  walk_at "";refine bL (fun f=>?_) (fun f=>?_)
  ·walk_at "";refine⟨_,rfl,by rw[hb];decide,trivial,(by show 0<=0+(i:Int)+1;lia),?_⟩;have sl:=oS b none (some (0+(i:Int)+1));simp only[EM,Ng,bY,hb,Option.getD] at sl
   have Zk:(kg b none (some (0+(i:Int)+1))).length=i+1:=by
    rw[sl]
    have:(0:Int).toNat=0:=rfl
    have:(8:Int).toNat=8:=rfl
    lia
   walk_at "";refine⟨A.ty,?_⟩;walk_at "";refine kY A (.str _) (aX (by rw[Mv];lia)) fun H3 A3 _ _ _=>?_
   walk_at "";obtain⟨r1,r2⟩:=fin (kg b none (some (0+(i:Int)+1))) ⟨by lia,by lia,uI lb⟩ ⟨fun _=>Zk,fun z=>absurd f z⟩;exact⟨ws++[_],_,_,rfl,by rw[M8];exact A3,by simp[hl],r1,r2⟩
  ·walk_at "";refine⟨A.ty,?_⟩;walk_at "";refine kY A (.str _) (aX (by rw[Mv];lia)) fun H3 A3 _ _ _=>?_
   walk_at "";have ei:(0:Int)+(i:Int)=(i:Int):=by lia
   rw[ei] at e2;obtain⟨r1,r2⟩:=fin w ⟨by lia,by lia,n2⟩ ⟨fun z=>absurd z f,fun _=>⟨e,e1,e2⟩⟩;exact⟨ws++[w],_,_,rfl,by rw[M8];exact A3,by simp[hl],r1,r2⟩
 ·rintro σ H2 ⟨ws,v7,v8,rfl,A,hl,hw,hj⟩;walk_at "";exact k l H2 ws A hw hl
def jh(q d:Int):Prop:=0<q/\0<d/\Gd.gd q d=1/\q<=10000000000/\d<=10000000000
def yn(K:Fg):Sp:=fun vs H Q _=>∃t b:Int,vs=[.int t,.int b]/\0<t/\0<b/\t<=10000000000/\b<=10000000000/\∀(p:Addr) (q d:Int) (H':Hp),Same H H'->jh q d->Rz K H' (.ref p) (dI [q,d])->Q (.ref p) H'
theorem FP{K:Fg}{N:List Str}(hN:N.length=3)(h:yn K vs H Q E):Fn (ends Q) (L2.start N vs) H:=by
 obtain⟨t,b,rfl,t0,b0,t1,b1,k⟩:=h;rw[L2.bv hN];walk_at "t";unfold Fn;walk_at "";refine bL (fun z=>absurd z (by lia)) (fun _=>?_);walk_at "";refine bL (fun z=>absurd z (by lia)) (fun _=>?_);unfold HV;walk_at "";refine⟨t,b,rfl,?_⟩;have nb:b≠0:=by lia
 have gp:=Gd.wb (a:=t) nb;have gl:=Gd.JK (a:=t) nb;have wd:(Gd.gd t b).natAbs<2 ^ 9000:=Gd.wide (by lia);have L:=Gd.EC (t:=t) (b:=b) (d:=Gd.gd t b) nb (.inl ⟨rfl,b0⟩);have M:=Gd.GJ (t:=t) (b:=b) (d:=Gd.gd t b) nb (.inl ⟨rfl,b0⟩);walk_at "";refine jB ⟨by lia,wd⟩ ?_;walk_at "";refine jB ⟨by lia,wd⟩ ?_;walk_at "";refine⟨cC,fun p np=>?_⟩
 have q0:0<t.fdiv (Gd.gd t b):=by
  have w:=L.worth
  have:=L.pos
  by_cases z:0<t.fdiv (Gd.gd t b)
  ·exact z
  ·have h1:t.fdiv (Gd.gd t b)*b<=0:=Int.mul_nonpos_of_nonpos_of_nonneg (by lia) (by lia);have h2:0<t*b.fdiv (Gd.gd t b):=Int.mul_pos t0 L.pos;lia
 have:=L.pos
 exact k p _ _ _ (au np _) ⟨q0,L.pos,L.low,by lia,by lia⟩ (.tup ak (RpL.ints [_,_]))
theorem uB(ns:List Int)(n:Nat):kqdOk (n+1) (dI ns)=true:=by
 show((ns.map PV).all (kqdOk n))=true;rw[NK];intro x hx;obtain⟨i,_,rfl⟩:=MR.mp hx;cases n <;> rfl
theorem AV(h:dI a=dI b):a=b:=by
 have:=VO h
 exact(V5 (fun x y e=>PV.inj e)).mp this
end G1
namespace L2
open PySem PySem.W
mutual
def xx:Dat->Bool
 |.list _=>false
 |.tuple ds=>uF ds
 |_=>true
def uF:List Dat->Bool
 |[]=>true
 |d :: ds=>xx d && uF ds
end
mutual
theorem Rp.toZ{K:Frag}{S:Addr->Prop}{H:Hp}:∀{v:V} {d:Dat},xx d=true->Rp K S H v d->Rz K H v d
 |_,_,_,.non=>.non
 |_,_,_,.bl b=>.bl b
 |_,_,_,.int i=>.int i
 |_,_,_,.str x=>.str x
 |_,_,h,.tup e r=>.tup e (RpL.toZ (by simpa[xx] using h) r)
 |_,_,h,.lst _ _ _=>by simp[xx] at h
theorem RpL.toZ{K:Frag}{S:Addr->Prop}{H:Hp}:∀{vs:List V} {ds:List Dat},uF ds=true->RpL K S H vs ds->RzL K H vs ds
 |_,_,_,.nil=>.nil
 |_,d :: ds,h,.cons a r=>by
  have h':xx d=true/\uF ds=true:=by simpa[uF] using h
  exact .cons (Rp.toZ h'.1 a) (RpL.toZ h'.2 r)
end
theorem pC{α:Type}{f:α->Dat}(h:∀a,xx (f a)=true):∀xs:List α,uF (xs.map f)=true
 |[]=>rfl
 |x :: xs=>by
  show(xx (f x) && uF (xs.map f))=true;rw[h x,pC h xs];rfl
end L2
namespace G1
open PySem L2 Fr
open PySem.W (Dat kqdOk)
theorem zH(ns:List Int):xx (dI ns)=true:=pC (fun _=>rfl) ns
structure Tn where
 fr:List Int
 to:List Int
 q:Int
 d:Int
def dT(t:Tn):Dat:=.tuple [dI t.fr,dI t.to,dI [t.q,t.d]]
theorem II(t:Tn):xx (dT t)=true:=by
 show(xx (dI t.fr) && (xx (dI t.to) && (xx (dI [t.q,t.d]) && true)))=true;rw[zH,zH,zH];rfl
def AO(t:Tn):List Int×List Int:=(t.fr,t.to)
def dV(ws:List Str)(ts:List Tn):Dat:=.tuple [.tuple (ws.map Nw),.tuple (ts.map dT)]
end G1
namespace L2
open PySem PySem.Spec PyProof.Rows
open PySem.W (Dat kqdOk)
theorem eN{K:Fg}:MZ K (.type "NoneType") (.type "bool")=some false:=by
 show MN K (.type "NoneType") (.type "bool")=some false;unfold MN;kernel_rfl
theorem fb{K:Fg}:MZ K (.type "NoneType") (.type "int")=some false:=by
 show MN K (.type "NoneType") (.type "int")=some false;unfold MN;kernel_rfl
theorem e_{K:Fg}:MZ K (.type "NoneType") (.type "str")=some false:=by
 show MN K (.type "NoneType") (.type "str")=some false;unfold MN;kernel_rfl
theorem b6{K:Fg}:MZ K (.type "NoneType") (.type "tuple")=some false:=by
 show MN K (.type "NoneType") (.type "tuple")=some false;unfold MN;kernel_rfl
theorem cR{K:Fg}:MZ K (.type "NoneType") (.type "list")=some false:=by
 show MN K (.type "NoneType") (.type "list")=some false;unfold MN;kernel_rfl
theorem eX{K:Fg}:MZ K (.type "bool") (.type "bool")=some true:=by rfl
theorem rS{K:Fg}:MZ K (.type "bool") (.type "int")=some true:=by
 show MN K (.type "bool") (.type "int")=some true;unfold MN;kernel_rfl
theorem rR{K:Fg}:MZ K (.type "bool") (.type "str")=some false:=by
 show MN K (.type "bool") (.type "str")=some false;unfold MN;kernel_rfl
theorem cU{K:Fg}:MZ K (.type "bool") (.type "tuple")=some false:=by
 show MN K (.type "bool") (.type "tuple")=some false;unfold MN;kernel_rfl
theorem eW{K:Fg}:MZ K (.type "bool") (.type "list")=some false:=by
 show MN K (.type "bool") (.type "list")=some false;unfold MN;kernel_rfl
theorem fJ{K:Fg}:MZ K (.type "int") (.type "bool")=some false:=by
 show MN K (.type "int") (.type "bool")=some false;unfold MN;kernel_rfl
theorem kS{K:Fg}:MZ K (.type "int") (.type "int")=some true:=by rfl
theorem uL{K:Fg}:MZ K (.type "int") (.type "str")=some false:=by
 show MN K (.type "int") (.type "str")=some false;unfold MN;kernel_rfl
theorem dv{K:Fg}:MZ K (.type "int") (.type "tuple")=some false:=by
 show MN K (.type "int") (.type "tuple")=some false;unfold MN;kernel_rfl
theorem fH{K:Fg}:MZ K (.type "int") (.type "list")=some false:=by
 show MN K (.type "int") (.type "list")=some false;unfold MN;kernel_rfl
theorem jf{K:Fg}:MZ K (.type "str") (.type "bool")=some false:=by
 show MN K (.type "str") (.type "bool")=some false;unfold MN;kernel_rfl
theorem kR{K:Fg}:MZ K (.type "str") (.type "int")=some false:=by
 show MN K (.type "str") (.type "int")=some false;unfold MN;kernel_rfl
theorem gH{K:Fg}:MZ K (.type "str") (.type "str")=some true:=by rfl
theorem du{K:Fg}:MZ K (.type "str") (.type "tuple")=some false:=by
 show MN K (.type "str") (.type "tuple")=some false;unfold MN;kernel_rfl
theorem fG{K:Fg}:MZ K (.type "str") (.type "list")=some false:=by
 show MN K (.type "str") (.type "list")=some false;unfold MN;kernel_rfl
theorem mn{K:Fg}:MZ K (.type "tuple") (.type "bool")=some false:=by
 show MN K (.type "tuple") (.type "bool")=some false;unfold MN;kernel_rfl
theorem pN{K:Fg}:MZ K (.type "tuple") (.type "int")=some false:=by
 show MN K (.type "tuple") (.type "int")=some false;unfold MN;kernel_rfl
theorem pM{K:Fg}:MZ K (.type "tuple") (.type "str")=some false:=by
 show MN K (.type "tuple") (.type "str")=some false;unfold MN;kernel_rfl
theorem bg{K:Fg}:MZ K (.type "tuple") (.type "tuple")=some true:=by rfl
theorem gi{K:Fg}:MZ K (.type "tuple") (.type "list")=some false:=by
 show MN K (.type "tuple") (.type "list")=some false;unfold MN;kernel_rfl
theorem pO{K:Fg}:MZ K (.type "list") (.type "bool")=some false:=by
 show MN K (.type "list") (.type "bool")=some false;unfold MN;kernel_rfl
theorem rQ{K:Fg}:MZ K (.type "list") (.type "int")=some false:=by
 show MN K (.type "list") (.type "int")=some false;unfold MN;kernel_rfl
theorem rP{K:Fg}:MZ K (.type "list") (.type "str")=some false:=by
 show MN K (.type "list") (.type "str")=some false;unfold MN;kernel_rfl
theorem br{K:Fg}:MZ K (.type "list") (.type "tuple")=some false:=by
 show MN K (.type "list") (.type "tuple")=some false;unfold MN;kernel_rfl
theorem bV{K:Fg}:MZ K (.type "list") (.type "list")=some true:=by rfl
abbrev Ra(K:Fg)(H:Hp):V->Dat->Prop:=Rp K (fun _=>True) H
abbrev Mj(K:Fg)(H:Hp):List V->List Dat->Prop:=RpL K (fun _=>True) H
theorem Rp.a{K:Fg}(h:Rp K S H v d):Ra K H v d:=h.mono fun _ _=>trivial
def pw:Nat->Dat->Bool
 |_,.none=>true
 |_,.bool _=>true
 |_,.int _=>true
 |_,.str _=>true
 |n+1,.tuple ds=>decide (ds.length<=1000) && ds.all (pw n)
 |n+1,.list ds=>decide (ds.length<=1000) && ds.all (pw n)
 |_,_=>false
theorem zE{ds:List Dat}(l:ds.length<=1000)(h:∀d∈ds,pw n d=true):pw (n+1) (.tuple ds)=true:=by
 show(decide (ds.length<=1000) && ds.all (pw n))=true;rw[decide_eq_true l,Pp,NK];exact h
theorem GA{ds:List Dat}(l:ds.length<=1000)(h:∀d∈ds,pw n d=true):pw (n+1) (.list ds)=true:=by
 show(decide (ds.length<=1000) && ds.all (pw n))=true;rw[decide_eq_true l,Pp,NK];exact h
theorem Ev{ds:List Dat}(h:(decide (ds.length<=1000) && ds.all (pw n))=true):ds.length<=1000/\∀d∈ds,pw n d=true:=by
 rw[Ou,NK] at h;exact⟨of_decide_eq_true h.1,h.2⟩
theorem rV{K:Fg}{Q:VK}{v:V}(e:SqT K H p xs)(a:lG xs i=some v)(h:Q v H):Bq K (.ref p) (.int i) H Q:=.inr (.inl (bI e a h))
theorem EI{K:Fg}{Q:VK}{v:V}(e:SqL K H p xs)(a:lG xs i=some v)(h:Q v H):Bq K (.ref p) (.int i) H Q:=.inl (bh e a h)
end L2
namespace Sm
open PySem L2 G1
open PySem.W (Dat kqdOk)
def gf(K:Fg)(n:Nat):Sp:=fun vs H Q _=>∃(v1 v2:V) (d1 d2:Dat),vs=[v1,v2]/\Ra K H v1 d1/\Ra K H v2 d2/\pw n d2=true/\(d1=d2->Q (.bl true) H)/\(d1≠d2->Q (.bl false) H)
theorem rM{K:Fg}{x y:Str}(h:gf K n vs H Q E):vs.length=[x,y].length:=by
 obtain⟨a,b,c,d,rfl,_⟩:=h;rfl
def nZ (K:Fg):TS:=(ar (a_ (tB (bQ (eR K) (ag (ac 1) (ag (tC (.ty "bool")) am))))
 (aU (j6 (bQ (eR K) (ag (ac 0) (ag (tC (.ty "bool")) am))) (aA jL (ac 0) (ac 1))))
 bc)
 (ar (a_ (tB (bQ (eR K) (ag (ac 1) (ag (tC (.ty "int")) am))))
 (aU (j6 (bQ (eR K) (ag (ac 0) (ag (tC (.ty "int")) am))) (j6 (BL (bQ (eR K) (ag (ac 0) (ag (tC (.ty "bool")) am)))) (aA jL (ac 0) (ac 1)))))
 bc)
 (ar (a_ (tB (bQ (eR K) (ag (ac 1) (ag (tC (.ty "str")) am))))
 (aU (j6 (bQ (eR K) (ag (ac 0) (ag (tC (.ty "str")) am))) (aA jL (ac 0) (ac 1))))
 bc)
 (aU (j6 (aA o5 (ac 1) (tC .non)) (aA o5 (ac 0) (tC .non)))))))
def sY(K:Fg)(m:Nat):TS:=(ar (a_ (bq (aA Bp (bQ (b8 K) (ag (ac 0) am)) (bQ (b8 K) (ag (ac 1) am))))
 (aU (tC (.bl false)))
 bc)
 (ar (fw (k8 (ag (bQ (b8 K) (ag (ac 1) am)) am)) (aJ 2)
 (a_ (dA (tB (aW (gf K m) [] E0 (ag (aA (Bq K) (ac 0) (ac 2)) (ag (aA (Bq K) (ac 1) (ac 2)) am)))))
 (aU (tC (.bl false)))
 bc))
 (aU (tC (.bl true)))))
def sZ (K:Fg):TS:=(ar (a_ (xr (tB (bQ (eR K) (ag (ac 1) (ag (tC (.ty "tuple")) am)))) (tB (bQ (eR K) (ag (ac 1) (ag (tC (.ty "list")) am)))))
 gT
 bc)
 (nZ K))
def xM (K:Fg) (m:Nat):TS:=(ar (a_ (xr (tB (bQ (eR K) (ag (ac 1) (ag (tC (.ty "tuple")) am)))) (tB (bQ (eR K) (ag (ac 1) (ag (tC (.ty "list")) am)))))
 (ar (a_ (xr (bq (aA Bp (bQ (eR K) (ag (ac 0) (ag (tC (.ty "tuple")) am))) (bQ (eR K) (ag (ac 1) (ag (tC (.ty "tuple")) am))))) (bq (aA Bp (bQ (eR K) (ag (ac 0) (ag (tC (.ty "list")) am))) (bQ (eR K) (ag (ac 1) (ag (tC (.ty "list")) am))))))
 (aU (tC (.bl false)))
 bc)
 (sY K m))
 bc)
 (nZ K))
theorem yW{K:Fg}{Q:VK}{u:Option V}(r1:Ra K H v1 d1)(r2:Ra K H v2 d2)(n1:∀ds,d2≠.tuple ds)(n2:∀ds,d2≠.list ds)(h1:d1=d2->Q (.bl true) H)(h2:d1≠d2->Q (.bl false) H) :
  nZ K (ends Q) [some v1,some v2,u] H:=by
 have no:∀{a b:Dat},(a=b->False)->d1=a->d2=b->Q (.bl false) H:=fun q e1 e2=>h2 fun z=>q (e1.symm.trans (z.trans e2))
 unfold nZ;cases r2 with
 |non =>
  walk_at "";refine aR .non eN ?_;walk_at "";refine aR .non fb ?_;walk_at "";refine aR .non e_ ?_;walk_at "";refine bL (fun _=>?_) (fun z=>absurd rfl z);walk_at "";cases r1 with
  |non=>exact h1 rfl
  |bl b=>exact h2 (fun z=>by cases z)
  |int b=>exact h2 (fun z=>by cases z)
  |str b=>exact h2 (fun z=>by cases z)
  |tup e r=>exact h2 (fun z=>by cases z)
  |lst s e r=>exact h2 (fun z=>by cases z)
 |bl b =>
  walk_at "";refine aR (.bl b) eX ?_;walk_at "";cases r1 with
  |non =>
   refine aR .non eN ?_;walk_at "";exact h2 (fun z=>by cases z)
  |bl c =>
   refine aR (.bl c) eX ?_;walk_at "";by_cases z:c=b
   ·rw[decide_eq_true z];exact h1 (by rw[z])
   ·rw[decide_eq_false z];exact h2 (fun q=>z (Rb.inj q))
  |int c =>
   refine aR (.int c) fJ ?_;walk_at "";exact h2 (fun z=>by cases z)
  |str c =>
   refine aR (.str c) jf ?_;walk_at "";exact h2 (fun z=>by cases z)
  |tup e r =>
   refine aR (.tup e) mn ?_;walk_at "";exact h2 (fun z=>by cases z)
  |lst s e r =>
   refine aR (.lst e) pO ?_;walk_at "";exact h2 (fun z=>by cases z)
 |int b =>
  walk_at "";refine aR (.int b) fJ ?_;walk_at "";refine aR (.int b) kS ?_;walk_at "";cases r1 with
  |non =>
   refine aR .non fb ?_;walk_at "";exact h2 (fun z=>by cases z)
  |bl c =>
   refine aR (.bl c) rS ?_;walk_at "";refine aR (.bl c) eX ?_;walk_at "";exact h2 (fun z=>by cases z)
  |int c =>
   refine aR (.int c) kS ?_;walk_at "";refine aR (.int c) fJ ?_;walk_at "";by_cases z:c=b
   ·rw[decide_eq_true z];exact h1 (by rw[z])
   ·rw[decide_eq_false z];exact h2 (fun q=>z (PV.inj q))
  |str c =>
   refine aR (.str c) kR ?_;walk_at "";exact h2 (fun z=>by cases z)
  |tup e r =>
   refine aR (.tup e) pN ?_;walk_at "";exact h2 (fun z=>by cases z)
  |lst s e r =>
   refine aR (.lst e) rQ ?_;walk_at "";exact h2 (fun z=>by cases z)
 |str b =>
  walk_at "";refine aR (.str b) jf ?_;walk_at "";refine aR (.str b) kR ?_;walk_at "";refine aR (.str b) gH ?_;walk_at "";cases r1 with
  |non =>
   refine aR .non e_ ?_;walk_at "";exact h2 (fun z=>by cases z)
  |bl c =>
   refine aR (.bl c) rR ?_;walk_at "";exact h2 (fun z=>by cases z)
  |int c =>
   refine aR (.int c) uL ?_;walk_at "";exact h2 (fun z=>by cases z)
  |str c =>
   refine aR (.str c) gH ?_;walk_at "";by_cases z:c=b
   ·rw[decide_eq_true z];exact h1 (by rw[z])
   ·rw[decide_eq_false z];exact h2 (fun q=>z (Vg q))
  |tup e r =>
   refine aR (.tup e) pM ?_;walk_at "";exact h2 (fun z=>by cases z)
  |lst s e r =>
   refine aR (.lst e) rP ?_;walk_at "";exact h2 (fun z=>by cases z)
 |tup e r=>exact absurd rfl (n1 _)
 |lst s e r=>exact absurd rfl (n2 _)
theorem Ca{K:Fg}{N:List Str}(hN:N.length=3)(h:gf K 0 vs H Q E):sZ K (ends Q) (L2.start N vs) H:=by
 obtain⟨v1,v2,d1,d2,rfl,r1,r2,ok,h1,h2⟩:=h;rw[L2.bv hN];walk_at "t";have n1:∀ds,d2≠.tuple ds:=fun ds z=>by rw[z] at ok;cases ok
 have n2:∀ds,d2≠.list ds:=fun ds z=>by rw[z] at ok;cases ok
 have fin:=yW (u:=none) r1 r2 n1 n2 h1 h2;unfold sZ;cases r2 with
 |non =>
  walk_at "";refine aR .non b6 ?_;walk_at "";refine aR .non cR ?_;walk_at "";exact fin
 |bl b =>
  walk_at "";refine aR (.bl b) cU ?_;walk_at "";refine aR (.bl b) eW ?_;walk_at "";exact fin
 |int b =>
  walk_at "";refine aR (.int b) dv ?_;walk_at "";refine aR (.int b) fH ?_;walk_at "";exact fin
 |str b =>
  walk_at "";refine aR (.str b) du ?_;walk_at "";refine aR (.str b) fG ?_;walk_at "";exact fin
 |tup e r=>exact absurd rfl (n1 _)
 |lst s e r=>exact absurd rfl (n2 _)
theorem Ef{K:Fg}{Q:VK}{xs ys:List V}{u:Option V}(lx:∀Q':VK,Q' (.int xs.length) H->b8 K [.ref a] H Q')(ly:∀Q':VK,Q' (.int ys.length) H->b8 K [.ref b] H Q')
  (ix:∀(i:Nat) (x:V) (Q':VK),xs[i]?=some x->Q' x H->Bq K (.ref a) (.int (0+(i:Int))) H Q') (iy:∀(i:Nat) (x:V) (Q':VK),ys[i]?=some x->Q' x H->Bq K (.ref b) (.int (0+(i:Int))) H Q')
  (r1:Mj K H xs d1) (r2:Mj K H ys d2) (ok:∀d∈d2,pw m d=true) (lm:d2.length<=1000) (h1:d1=d2->Q (.bl true) H) (h2:d1≠d2->Q (.bl false) H) {D:bJ} (hD:D.rt=Q):sY K m D [some (.ref a),some (.ref b),u] H:=by
 have l1:=r1.length;have l2:=r2.length;unfold sY;walk_at "";refine lx _ ?_;walk_at "";refine ly _ ?_;walk_at "";refine bP (fun z=>?_) (fun z=>?_)
 ·walk_at "";rw[hD];exact h2 fun e=>z (by rw[l1,l2,e])
 have le:xs.length=ys.length:=by lia
 walk_at "";refine ly _ ?_;walk_at "";refine cX (fun i σ H2=>H2=H/\(∃v,σ=[some (.ref a),some (.ref b),v])/\d1.take i=d2.take i) ⟨rfl,⟨_,rfl⟩,by simp⟩ ?_ ?_
 ·rintro i σ H2 hi ⟨rfl,⟨v,rfl⟩,et⟩;have hiy:i<ys.length:=by lia
  have hix:i<xs.length:=by lia
  obtain⟨e1,g1,p1⟩:=r1.get (Mw hix);obtain⟨e2,g2,p2⟩:=r2.get (Mw hiy);walk_at "";refine ix i _ _ (Mw hix) ?_;walk_at "";refine iy i _ _ (Mw hiy) ?_;walk_at "";refine⟨_,_,e1,e2,rfl,p1,p2,ok e2 (MH g2),fun q=>?_,fun q=>?_⟩
  ·walk_at "";refine⟨rfl,⟨_,rfl⟩,?_⟩;rw[Nx,Nx,et,g1,g2,q]
  ·walk_at "";show D.rt _ _;rw[hD];exact h2 fun z=>q (by rw[z,g2] at g1;exact(MY g1).symm)
 ·rintro σ H2 ⟨rfl,⟨v,rfl⟩,et⟩;walk_at "";show D.rt _ _;rw[hD];refine h1 ?_;have e:(ys.length:Int).toNat=ys.length:=by lia
  rw[e,MV (by lia),MV (by lia)] at et;exact et
theorem FL{K:Fg}{m:Nat}{N:List Str}(hN:N.length=3)(h:gf K (m+1) vs H Q E):xM K m (ends Q) (L2.start N vs) H:=by
 obtain⟨v1,v2,d1,d2,rfl,r1,r2,ok,h1,h2⟩:=h;rw[L2.bv hN];walk_at "t";unfold xM;have fin:=fun n1 n2=>yW (u:=none) r1 r2 n1 n2 h1 h2
 cases r2 with
 |non =>
  walk_at "";refine aR .non b6 ?_;walk_at "";refine aR .non cR ?_;walk_at "";exact fin (fun ds z=>by cases z) (fun ds z=>by cases z)
 |bl b =>
  walk_at "";refine aR (.bl b) cU ?_;walk_at "";refine aR (.bl b) eW ?_;walk_at "";exact fin (fun ds z=>by cases z) (fun ds z=>by cases z)
 |int b =>
  walk_at "";refine aR (.int b) dv ?_;walk_at "";refine aR (.int b) fH ?_;walk_at "";exact fin (fun ds z=>by cases z) (fun ds z=>by cases z)
 |str b =>
  walk_at "";refine aR (.str b) du ?_;walk_at "";refine aR (.str b) fG ?_;walk_at "";exact fin (fun ds z=>by cases z) (fun ds z=>by cases z)
 |@tup b ys ds e r =>
  obtain⟨lm,okd⟩:=Ev ok;walk_at "";refine aR (.tup e) bg ?_;walk_at "";cases r1 with
  |non =>
   refine aR .non b6 ?_;walk_at "";refine aR (.tup e) bg ?_;walk_at "";refine bP (fun _=>?_) (fun z=>by cases z);walk_at "";exact h2 (fun z=>by cases z)
  |bl c =>
   refine aR (.bl c) cU ?_;walk_at "";refine aR (.tup e) bg ?_;walk_at "";refine bP (fun _=>?_) (fun z=>by cases z);walk_at "";exact h2 (fun z=>by cases z)
  |int c =>
   refine aR (.int c) dv ?_;walk_at "";refine aR (.tup e) bg ?_;walk_at "";refine bP (fun _=>?_) (fun z=>by cases z);walk_at "";exact h2 (fun z=>by cases z)
  |str c =>
   refine aR (.str c) du ?_;walk_at "";refine aR (.tup e) bg ?_;walk_at "";refine bP (fun _=>?_) (fun z=>by cases z);walk_at "";exact h2 (fun z=>by cases z)
  |lst s e' r' =>
   refine aR (.lst e') br ?_;walk_at "";refine aR (.tup e) bg ?_;walk_at "";refine bP (fun _=>?_) (fun z=>by cases z);walk_at "";exact h2 (fun z=>by cases z)
  |@tup a xs ds' e' r' =>
   refine aR (.tup e') bg ?_;walk_at "";refine aR (.tup e) bg ?_;walk_at "";refine bP (fun z=>absurd rfl z) (fun _=>?_);walk_at "";refine aR (.tup e') gi ?_;walk_at "";refine aR (.tup e) gi ?_;walk_at "";refine bP (fun z=>absurd rfl z) (fun _=>?_);walk_at "";refine Ef (m:=m) (xs:=xs) (ys:=ys) (fun Q' q=>mO (SqT.of e') q) (fun Q' q=>mO (SqT.of e) q) (fun i x Q' hx q=>rV (SqT.of e') (by rw[Pl];exact bz hx) q) (fun i x Q' hx q=>rV (SqT.of e) (by rw[Pl];exact bz hx) q) r' r okd lm (fun z=>h1 (by rw[z])) (fun z=>h2 fun q=>z (VO q)) rfl
 |@lst b ys ds s e r =>
  obtain⟨lm,okd⟩:=Ev ok;walk_at "";refine aR (.lst e) br ?_;walk_at "";refine aR (.lst e) bV ?_;walk_at "";cases r1 with
  |non =>
   refine aR .non b6 ?_;walk_at "";refine aR (.lst e) br ?_;walk_at "";refine bP (fun z=>absurd rfl z) (fun _=>?_);walk_at "";refine aR .non cR ?_;walk_at "";refine aR (.lst e) bV ?_;walk_at "";refine bP (fun _=>?_) (fun z=>by cases z);walk_at "";exact h2 (fun z=>by cases z)
  |bl c =>
   refine aR (.bl c) cU ?_;walk_at "";refine aR (.lst e) br ?_;walk_at "";refine bP (fun z=>absurd rfl z) (fun _=>?_);walk_at "";refine aR (.bl c) eW ?_;walk_at "";refine aR (.lst e) bV ?_;walk_at "";refine bP (fun _=>?_) (fun z=>by cases z);walk_at "";exact h2 (fun z=>by cases z)
  |int c =>
   refine aR (.int c) dv ?_;walk_at "";refine aR (.lst e) br ?_;walk_at "";refine bP (fun z=>absurd rfl z) (fun _=>?_);walk_at "";refine aR (.int c) fH ?_;walk_at "";refine aR (.lst e) bV ?_;walk_at "";refine bP (fun _=>?_) (fun z=>by cases z);walk_at "";exact h2 (fun z=>by cases z)
  |str c =>
   refine aR (.str c) du ?_;walk_at "";refine aR (.lst e) br ?_;walk_at "";refine bP (fun z=>absurd rfl z) (fun _=>?_);walk_at "";refine aR (.str c) fG ?_;walk_at "";refine aR (.lst e) bV ?_;walk_at "";refine bP (fun _=>?_) (fun z=>by cases z);walk_at "";exact h2 (fun z=>by cases z)
  |tup e' r' =>
   refine aR (.tup e') bg ?_;walk_at "";refine aR (.lst e) br ?_;walk_at "";refine bP (fun _=>?_) (fun z=>by cases z);walk_at "";exact h2 (fun z=>by cases z)
  |@lst a xs ds' s' e' r' =>
   refine aR (.lst e') br ?_;walk_at "";refine aR (.lst e) br ?_;walk_at "";refine bP (fun z=>absurd rfl z) (fun _=>?_);walk_at "";refine aR (.lst e') bV ?_;walk_at "";refine aR (.lst e) bV ?_;walk_at "";refine bP (fun z=>absurd rfl z) (fun _=>?_);walk_at "";refine Ef (m:=m) (xs:=xs) (ys:=ys) (fun Q' q=>cr (SqL.of e') q) (fun Q' q=>cr (SqL.of e) q) (fun i x Q' hx q=>EI (SqL.of e') (by rw[Pl];exact bz hx) q) (fun i x Q' hx q=>EI (SqL.of e) (by rw[Pl];exact bz hx) q) r' r okd lm (fun z=>h1 (by rw[z])) (fun z=>h2 fun q=>z (Dat.list.inj q)) rfl
end Sm
namespace Vs
open PySem L2 Fr G1 Sm
open PySem.W (Dat kqdOk)
def dJ(hs:List (List Int))(h:List Int):List (List Int):=if h∈hs then hs else hs++[h]
def jC(hs:List (List Int))(ts:List Tn):List (List Int):=ts.foldl (fun hs t=>dJ (dJ hs t.fr) t.to) hs
def HL(ts:List Tn):List (List Int):=jC [] ts
theorem vX(hs:List (List Int))(h:List Int):(dJ hs h).length<=hs.length+1:=by
 unfold dJ;split
 ·lia
 ·simp
theorem v4:∀(ts:List Tn) (hs:List (List Int)),(jC hs ts).length<=hs.length+2*ts.length
 |[],hs=>by simp[jC]
 |t :: ts,hs=>by
  have h1:=v4 ts (dJ (dJ hs t.fr) t.to);have h2:=vX (dJ hs t.fr) t.to;have h3:=vX hs t.fr;show(jC (dJ (dJ hs t.fr) t.to) ts).length<=_;rw[Nl];lia
theorem AD(hs:List (List Int))(ts:List Tn)(t:Tn):jC hs (ts++[t])=dJ (dJ (jC hs ts) t.fr) t.to:=by
 unfold jC;rw[WB];rfl
def qt(h:List Int):List Key:=h.map Sc
theorem xF(h:List Int):(qt h).map kV=h.map V.int:=by
 unfold qt;rw[PX];rfl
theorem E_(h:qt a=qt b):a=b:=(V5 (fun x y e=>Sc.inj e)).mp h
theorem qV{fx:List (List Key×V)}{hs:List (List Int)}(e:fx.map (·.1)=hs.map qt)(h:List Int)(v:V):(dm fx (qt h) v).map (·.1)=(dJ hs h).map qt:=by
 have any:(fx.any fun kv=>decide (kv.1=qt h))=decide (h∈hs):=by
  rw[Rc,TD,decide_eq_true_iff];constructor
  ·rintro⟨kv,hm,q⟩
   have:kv.1∈hs.map qt:=by rw[<- e];exact MR.mpr ⟨kv,hm,rfl⟩
   obtain⟨g,hg,eg⟩:=MR.mp this;rw[of_decide_eq_true q] at eg;rw[<- E_ eg];exact hg
  ·intro hm
   have:qt h∈fx.map (·.1):=by rw[e];exact MR.mpr ⟨h,hm,rfl⟩
   obtain⟨kv,hk,ek⟩:=MR.mp this;exact⟨kv,hk,decide_eq_true ek⟩
 unfold dm dJ;rw[any];by_cases z:h∈hs
 ·rw[if_pos z,decide_eq_true z,if_pos rfl,PX,<- e];refine R_ fun kv _=>?_
  show(if kv.1=qt h then (kv.1,v) else kv).1=kv.1;split <;> rfl
 ·rw[if_neg z,decide_eq_false z,if_neg M_,M8,M8,e];rfl
theorem Ae{K:Fg}{H:Hp}:∀{fx:List (List Key×V)} {hs:List (List Int)} {bs:List Addr},fx.map (·.1)=hs.map qt->Paired (fun(p:List Key×V) b=>H b=some (.tup (p.1.map kV))) fx bs->RzL K H (bs.map V.ref) (hs.map dI)
 |[],[],_,_,.nil=>.nil
 |[],h :: hs,_,e,_=>by simp at e
 |kv :: fx,[],_,e,_=>by simp at e
 |kv :: fx,h :: hs,_,e,.cons q t=>by
  have e1:kv.1=qt h:=(Po e).1;have e2:=(Po e).2;rw[e1,xF] at q;exact .cons (.tup q (RpL.ints h)) (Ae e2 t)
def kc(K:Fg):Sp:=fun vs H Q _=>∃(v:V) (ts:List Tn),vs=[v]/\Rz K H v (.tuple (ts.map dT))/\ts.length<=100/\∀(p:Addr) (H':Hp),AccZ K H p H' ((HL ts).map dI)->Q (.ref p) H'
def jX(K:Fg):TS:=(ar (aQ Ea (aJ 1))
 (ar (fw (mr K (ac 0)) (aJ 2)
 (ar (yL (ac 1) (aA (bB K) (ac 2) (tC (.int 0))) (tC (.bl true)))
 (yL (ac 1) (aA (bB K) (ac 2) (tC (.int 1))) (tC (.bl true)))))
 (aU (bQ Ei (ag (ac 1) am)))))
theorem pZ{K:Fg}(h:Rz K H v (dT t)):∃(a:Addr) (v1 v2 v3:V),v=.ref a/\H a=some (.tup [v1,v2,v3])/\Rz K H v1 (dI t.fr)/\Rz K H v2 (dI t.to)/\Rz K H v3 (dI [t.q,t.d]):=by
 obtain⟨a,xs,e,ha,r⟩:=h.cf;cases r with
 |cons r1 r =>
  cases r with
  |cons r2 r =>
   cases r with
   |cons r3 r =>
    cases r;exact⟨a,_,_,_,e,ha,r1,r2,r3⟩
theorem lB{K:Fg}(h:Rz K H v (dI ns)):∃a:Addr,v=.ref a/\H a=some (.tup (ns.map V.int)):=by
 obtain⟨a,xs,e,ha,r⟩:=h.cf;rw[RpL.ints_of r] at ha;exact⟨a,e,ha⟩
theorem wM{K:Fg}{N:List Str}(hN:N.length=3)(h:kc K vs H Q E):jX K (ends Q) (L2.start N vs) H:=by
 obtain⟨v,ts,rfl,rv,hl,k⟩:=h;obtain⟨a,xs,rfl,ha,rx⟩:=rv.cf;rw[L2.bv hN];walk_at "t";have lx:xs.length=ts.length:=by rw[rx.length,Mv]
 unfold jX;walk_at "";intro d nd;walk_at "";refine GQ (SqT.of ((au nd _) _ _ ha)) ?_;refine uR (xs:=xs) (fun i σ H2=>∃(fx:List (List Key×V)) (u:Option V),σ=[some (.ref a),some (.ref d),u]/\Same H H2/\H2 d=some (.dT fx)/\fx.map (·.1)=(HL (ts.take i)).map qt) ⟨[],none,rfl,au nd _,ak,rfl⟩ ?_ ?_ ?_
 ·rintro i σ H2 _ ⟨fx,u,rfl,S,ed,ek⟩;exact SqT.of (S _ _ ha)
 ·rintro i z σ H2 hz ⟨fx,u,rfl,S,ed,ek⟩;obtain⟨dd,g1,g2⟩:=rx.get hz;rw[ME] at g1;obtain⟨t,ht,rfl⟩:=MI.mp g1;obtain⟨at_,v1,v2,v3,rfl,hat,r1,r2,_⟩:=pZ (g2.same S);obtain⟨b1,rfl,hb1⟩:=lB r1;obtain⟨b2,rfl,hb2⟩:=lB r2;have ti:i<ts.length:=(My.mp ht).1;have kl:fx.length=(HL (ts.take i)).length:=by have:=congrArg QI ek;simpa using this
  have Zz:=v4 (ts.take i) [];rw[Ng] at Zz;have kl2:fx.length<=2*i:=by rw[kl];unfold HL;simp only[Qt] at Zz;lia
  have e1:=qV ek t.fr (.bl true);have e2:=qV e1 t.to (.bl true);have le1:=gF fx (qt t.fr) (.bl true);have n1:b1≠d:=CT hb1 ed (by intro z;cases z);have n2:b2≠d:=CT hb2 ed (by intro z;cases z);have n3:at_≠d:=CT hat ed (by intro z;cases z);walk_at "";refine bI (SqT.of hat) (v:=.ref b1) rfl ?_;refine⟨d,_,rfl,DPut.t ed (k:=qt t.fr) (by rw[xF];exact hb1) (aX (by lia)),?_⟩;walk_at "";refine bI (SqT.of (by rw[av n3];exact hat)) (v:=.ref b2) rfl ?_;refine⟨d,_,rfl,DPut.t ak (k:=qt t.to) (by rw[xF,av n2];exact hb2) (aX (by lia)),?_⟩;rw[E5];refine⟨_,_,rfl,fun b o q=>?_,ak,?_⟩
  ·rw[av (aC q nd)];exact S _ _ q
  ·rw[e2];congr 1;have et:ts.take (i+1)=ts.take i++[t]:=by rw[Nx,ht];rfl
   rw[et];exact(AD [] (ts.take i) t).symm
 ·rintro σ H2 ⟨fx,u,rfl,S,ed,ek⟩;rw[lx,MV (MB _)] at ek;walk_at "";refine⟨d,fx,rfl,ed,fun l bs nl pr=>?_⟩;have S2:=au nl (.lst (bs.map V.ref));exact k l _ ⟨S.trans S2,S.free nl,_,ak,(Ae ek pr).same S2⟩
end Vs
namespace G2
end G2
namespace Ti
end Ti
namespace Sz
end Sz
namespace Sf
end Sf
namespace Rw
end Rw
namespace Cl
end Cl
namespace Mk
end Mk
namespace L2
open PySem
theorem C2{c:TT}{tb:TS}{D:bJ}{H:Hp}(W:Nat->St->Hp->Prop)(m:Nat)(h0:W m σ H)(hs:∀m σ H,W m σ H->c σ H fun b H1=>if b=true then ∃N:St->Hp->Prop,(∀σ' H',N σ' H'->∃m',m'<m/\W m' σ' H')/\tb {D with nx:=N,ct:=N,bk:=D.nx} σ H1 else D.nx σ H1):qu c tb D σ H:=⟨W,⟨m,h0⟩,hs⟩
end L2
namespace Dn
open PySem L2 Fr G1 Sm Vs G2 Rk Sz
open PySem.W (Dat kqdOk)
def pr(t:Tn):Tp:=(t.fr,t.to)
end Dn
namespace L2
open PySem
theorem EJ{to ti:TE}{t:DU}{H:Hp}{Q:St->Hp->Prop}(h:to σ H fun o H1=>ti σ H1 fun i H2=>t o i v H2 fun H3=>Q σ H3):Dw to ti t v σ H Q:=h
end L2
namespace Lo
end Lo
namespace Bo
end Bo
namespace Br
end Br
namespace Fr
theorem zV{b:Int}(hb:b≠0)(L:Gd.Low t b q d):q=(RN t b).num/\d=((RN t b).den:Int):=by
 obtain⟨pos,low,worth⟩:=L;have e:RN t b=RN q d:=(Rat.divInt_eq_divInt_iff hb (by lia)).mpr worth.symm
 have cp:Nat.Coprime q.natAbs d.natAbs:=by
  unfold Gd.gd at low;unfold Nat.Coprime
  have:Int.gcd q d=Nat.gcd q.natAbs d.natAbs:=rfl
  lia
 have m:Rat.mk' q d.natAbs (by lia) cp=RN q d:=by
  rw[Rat.mk_eq_divInt];congr 1;lia
 rw[e,<- m];exact⟨rfl,by show d=(d.natAbs:Int);lia⟩
end Fr
namespace Tr
open PySem L2 Fr G1 Sm Vs G2 Rk Sz Sf Rw Ti
open PySem.W (Dat kqdOk)
def dQ(x:Rat):Dat:=dI [x.num,(x.den:Int)]
def oN(K:Fg):Sp:=fun vs H Q _=>∃t b:Int,vs=[.int t,.int b]/\b≠0/\t.natAbs<2 ^ 8000/\b.natAbs<2 ^ 8000/\∀(p:Addr) (H':Hp),Same H H'->Rz K H' (.ref p) (dQ (RN t b))->Q (.ref p) H'
def tF(K:Fg):TS:=(ar (a_ (xr (dA (tB (aW oA [] E0 (ag (ac 0) am)))) (dA (tB (aW oA [] E0 (ag (ac 1) am)))))
 gT
 bc)
 (ar (a_ (bq (aA jL (ac 1) (tC (.int 0))))
 gT
 bc)
 (ar (aQ (aW BO [] E0 (ag (ac 0) (ag (ac 1) am))) (aJ 2))
 (ar (a_ (bq (aA xw (ac 1) (tC (.int 0))))
 (aQ (x_ (rU fun i=>.int (-i)) (ac 2)) (aJ 2))
 bc)
 (aU (f_ (ag (aA wO (ac 0) (ac 2)) (ag (aA wO (ac 1) (ac 2)) am))))))))
theorem Cj{K:Fg}{N:List Str}(hN:N.length=3)(h:oN K vs H Q E):tF K (ends Q) (L2.start N vs) H:=by
 obtain⟨t,b,rfl,b0,ht,hb,k⟩:=h;rw[L2.bv hN];walk_at "t";unfold tF;have p2:(2:Nat) ^ 8000<2 ^ 9000:=Nat.pow_lt_pow_right (by decide) (by decide);generalize (2:Nat) ^ 8000=P at ht hb p2;have gp:=Gd.wb (a:=t) b0;have gl:=Gd.JK (a:=t) b0
 have fin:∀d:Int,(d=Gd.gd t b/\0<b\/d = - Gd.gd t b/\b<0)->aU (f_ (ag (aA wO (ac 0) (ac 2)) (ag (aA wO (ac 1) (ac 2)) am))) (ends Q) [some (.int t),some (.int b),some (.int d)] H:=by
  intro d hd;obtain⟨e1,e2⟩:=zV b0 (Gd.EC b0 hd);have dn:d≠0:=by rcases hd with⟨z,_⟩|⟨z,_⟩ <;> lia
  have dw:d.natAbs<2 ^ 9000:=by
   refine Nk ?_ (MJ hb p2);rcases hd with⟨z,_⟩|⟨z,_⟩ <;> lia
  walk_at "";refine⟨_,_,rfl,rfl,⟨dn,dw⟩,?_⟩;walk_at "";refine⟨_,_,rfl,rfl,⟨dn,dw⟩,?_⟩;walk_at "";refine⟨cC,fun p np=>?_⟩;show Q (.ref p) (upd H p (.tup [.int (t.fdiv d),.int (b.fdiv d)]));rw[e1,e2];exact k p _ (au np _) (.tup ak (RpL.ints [_,_]))
 walk_at "";refine⟨t,rfl,?_⟩;walk_at "";refine⟨b,rfl,?_⟩;walk_at "";refine bL (fun z=>absurd z b0) (fun _=>?_);walk_at "";refine⟨t,b,rfl,?_⟩;walk_at "";refine bL (fun c=>?_) (fun c=>?_)
 ·obtain h2:=fin _ (.inr ⟨rfl,c⟩);refine JC ?_;fail "1";refine uM (i:=2) rfl ?_;refine Jh ?_;refine Ao ?_;exact h2
 ·exact fin _ (.inl ⟨rfl,by lia⟩)
open Fr
open PySem L2 Fr G1 Sm Vs G2 Rk Sz Sf Rw Ti Lo
end Tr
namespace Rd
end Rd
namespace Wq
end Wq
namespace Nv
open PySem L2 Fr G1 Sm Vs
open PySem.W (Dat kqdOk kqdP kqdPs)
structure Cn (K:Fg) (mg:Str->Option Mu) (nq:Addr):Prop where
 MOST_STUFFS:∃t,mg "MOST_STUFFS"=some (.int 5 t)
 MOST_SIGNS:∃t,mg "MOST_SIGNS"=some (.int 8 t)
 MOST_PIECES:∃t,mg "MOST_PIECES"=some (.int 3 t)
 MOST_TURNINGS:∃t,mg "MOST_TURNINGS"=some (.int 8 t)
 MOST_HEAPS:∃t,mg "MOST_HEAPS"=some (.int 8 t)
 NOUGHT:mg "NOUGHT"=some (.ref nq)
 two:∀H:Hp,SqT K H nq [.int 0,.int 1]
theorem szL:sizeLine=16777216:=by decide
def oP(K:Fg):Sp:=fun vs H Q _=>∃(p q:Addr) (a b c d:Int),vs=[.ref p,.ref q]/\SqT K H p [.int a,.int b]/\SqT K H q [.int c,.int d]/\xp a d/\xp c b/\Q (.bl (decide (a*d<c*b))) H
def oi(K:Fg):TS:=(aU (aA xw (aA Io (aA (bB K) (ac 0) (tC (.int 0))) (aA (bB K) (ac 1) (tC (.int 1)))) (aA Io (aA (bB K) (ac 1) (tC (.int 0))) (aA (bB K) (ac 0) (tC (.int 1))))))
theorem yZ{K:Fg}{N:List Str}(hN:N.length=2)(h:oP K vs H Q E):oi K (ends Q) (L2.start N vs) H:=by
 obtain⟨p,q,a,b,c,d,rfl,hp,hq,m1,m2,k⟩:=h;rw[L2.bv hN];walk_at "t";unfold oi;walk_at "";refine bI hp (v:=.int a) rfl ?_;walk_at "";refine bI hq (v:=.int d) rfl ?_;refine jB m1 ?_;walk_at "";refine bI hq (v:=.int c) rfl ?_;walk_at "";refine bI hp (v:=.int b) rfl ?_;refine jB m2 ?_;walk_at "";exact k
theorem Ak{Q:VK}{i j:Str}(h:Q (.bl (!decide (j.cps.toList<i.cps.toList))) H):uf (.str i) (.str j) H Q:=⟨i,j,rfl,rfl,h⟩
theorem Mq:(("a":Str)).cps.toList=[97]:=by decide +kernel
theorem Mp:(("z":Str)).cps.toList=[122]:=by decide +kernel
theorem pP{r:V->Hp->(Nat->Hp->Prop)->Prop}{te:TE}{H:Hp}{Q:VK}(h:te σ H fun x H1=>r x H1 fun n H2=>(n:Int)<2 ^ 63/\Q (.int n) H2):oq r te σ H Q:=h
theorem Ey{ws:List Str}(h:ws.Nodup):(ws.map Nw).Nodup:=by
 induction ws with
 |nil=>exact Pa
 |cons w ws ih =>
  rw[NE] at h;rw[Nm,NE];refine⟨fun z=>?_,ih h.2⟩;obtain⟨v,hv,e⟩:=MR.mp z;cases e;exact h.1 hv
theorem rG{α:Type}[DecidableEq α]:∀{l hs:List α},l.Nodup->(∀x∈l,x∈hs)->l.length<=hs.length
 |[],_,_,_=>NH _
 |x :: l,hs,nd,sub=>by
  rw[NE] at nd;have hx:=sub x MM
  have h:=rG (l:=l) (hs:=hs.erase x) nd.2 fun y hy=>by
   refine(Va ?_).mpr (sub y (MO _ hy));rintro rfl;exact nd.1 hy
  rw[Tj hx] at h
  have:=Uh hx
  rw[Nl];lia
theorem Aw{hs:List (List Int)}(nd:hs.Nodup):(dJ hs h).Nodup:=by
 unfold dJ;split
 ·exact nd
 ·rename_i z;exact mJ nd z
theorem vW{x:List Int}(m:x∈dJ hs h):x∈hs\/x=h:=by
 unfold dJ at m;split at m
 ·exact .inl m
 ·rcases Ni.mp m with z|z
  ·exact .inl z
  ·exact .inr (MK.mp z)
theorem AE{ps:List (List Int)}:∀(ts:List Tn) (hs:List (List Int)),hs.Nodup->(∀x∈hs,x∈ps)->(∀t∈ts,t.fr∈ps/\t.to∈ps)->(jC hs ts).Nodup/\∀x∈jC hs ts,x∈ps
 |[],hs,nd,sub,_=>⟨nd,sub⟩
 |t :: ts,hs,nd,sub,ht=>by
  have h0:=ht t MM;refine AE ts (dJ (dJ hs t.fr) t.to) (Aw (Aw nd)) (fun x hx=>?_) fun u hu=>ht u (MO _ hu)
  rcases vW hx with z|z
  ·rcases vW z with y|y
   ·exact sub x y
   ·rw[y];exact h0.1
  ·rw[z];exact h0.2
def lM(ts:List Tn):Prop:=1<=ts.length/\ts.length<=8/\(ts.map AO).Nodup/\(∀t∈ts,t.fr≠t.to)/\(HL ts).length<=8
def dE(t:Tn):Dat:=.tuple [dI t.fr,dI t.to]
theorem Ap(ns:List Int):kqdPs (ns.map PV)=ns.map V6:=by
 induction ns with
 |nil=>rw[Se,kqdPs];rfl
 |cons n ns ih=>rw[Nm,kqdPs,ih,kqdP];rfl
theorem AA(n:Nat)(ns:List Int):iZ n (ns.map V6)=true:=by
 induction ns with
 |nil=>rw[Se,iZ]
 |cons m ns ih=>rw[Nm,iZ,ih,ib];rfl
theorem EN(t:Tn):L2.Good (dE t):=by
 have e:kqdP (dE t)=.tuple [.tuple (t.fr.map V6),.tuple (t.to.map V6)]:=by
  unfold dE;rw[kqdP,kqdPs,kqdPs,kqdPs,kqdP,kqdP,Ap,Ap]
 refine⟨?_,?_,_,e⟩
 ·show((dI t.fr :: [dI t.to]).all (kqdOk 7))=true;rw[RQ,RQ,List.all_nil,uB t.fr 6,uB t.to 6];rfl
 ·rw[e,ib,iZ,iZ,iZ,ib,ib,AA,AA];rfl
theorem IL{ts:List Tn}(h:(ts.map AO).Nodup):(ts.map dE).Nodup:=by
 induction ts with
 |nil=>exact Pa
 |cons t ts ih =>
  rw[Nm,NE] at h;rw[Nm,NE];refine⟨fun z=>h.1 ?_,ih h.2⟩;obtain⟨u,hu,e⟩:=MR.mp z;have e':=VO e;have e1:=AV (Po e').1;have e2:=AV (Po (Po e').2).1;refine MR.mpr ⟨u,hu,?_⟩;unfold AO;rw[e1,e2]
theorem EA(c d:Nat):(([c]:List Nat) < [d])↔c<d:=by
 rw[UJ];constructor
 ·rintro(z|⟨_,z⟩)
  ·exact z
  ·cases z
 ·exact .inl
theorem DP{K:Fg}{bs:List Bool}{n i:Nat}{b:Bool}(hn:n<=900)(hi:i<n)(eb:bs[i]?=some b)(A:AccZ K H0 D H2 ((bs.take i).map Rb))(S:Same H2 H3):ve D n i (fun j H=>AccZ K H0 D H ((bs.take j).map Rb)) (.bl b) H3:=by
 refine cF hi ((A.on S).js (.bl b) (aX (by rw[Mv,Ng];lia)) fun H4 A4=>?_);show AccZ K H0 D H4 ((bs.take (i+1)).map Rb);rw[Nx,eb,M8];exact A4
def pI(c:Nat):Bool:=decide (97<=c) && decide (c<=122)
def uQ(w:Str):Bool:=decide (1<=w.cps.size/\w.cps.size<=8) && (w.cps.toList.map pI).all id
def Plain(w:Str):Prop:=w.cps.all (· < 128)=true/\w.cps.size<=800
def oJ(K:Fg):Sp:=fun vs H Q _=>∃w:Str,vs=[.str w]/\Plain w/\∀H',Same H H'->Q (.bl (uQ w)) H'
def n_ (K:Fg):TS:=(ar (a_ (xr (dA (tB (bQ (eR K) (ag (ac 0) (ag (tC (.ty "str")) am))))) (dA (bq (gU Cv Cv (tC (.int 1)) (bQ Ip (ag (ac 0) am)) (tC (.int 8))))))
 (aU (tC (.bl false)))
 bc)
 (aU (bQ (uh K) (ag (fh (Di (ac 0)) (gU uf uf (tC (.str "a")) (ac 0) (tC (.str "z")))) am))))
theorem yX{K:Fg}{N:List Str}(hN:N.length=1)(h:oJ K vs H Q E):n_ K (ends Q) (L2.start N vs) H:=by
 obtain⟨w,rfl,⟨asc,w800⟩,k⟩:=h;rw[L2.bv hN];walk_at "t";unfold uQ at k
 have no : ¬ (1<=w.cps.size/\w.cps.size<=8)->Q (.bl false) H:=fun z=>by
  have:=k H (Same.refl _)
  rw[decide_eq_false z] at this;exact this
 unfold n_;walk_at "";refine aR (.str w) gH ?_;walk_at "";refine Jn (by rw[szL];show w.cps.size<=_;lia) ?_;have el:w.length=w.cps.size:=rfl;rw[el];walk_at "";refine bL (fun w1=>?_) (fun z=>?_)
 ·walk_at "";refine bP (fun z=>?_) (fun w8=>?_)
  ·walk_at "";exact no (by lia)
  ·rw[decide_eq_true (show 1<=w.cps.size/\w.cps.size<=8 by lia),Pp] at k;walk_at "";refine⟨w,rfl,asc,?_⟩;generalize Y1:w.cps.toList.map pI=bs at k;have lb:bs.length=w.cps.size:=by rw[<- Y1,Mv,NP]
   refine wk fun D nD=>⟨fun j H3=>AccZ K H D H3 ((bs.take j).map Rb),AccZ.start (Same.refl _) nD,?_,?_⟩
   ·intro i c H2 hc A;have hi:i<w.cps.size:=(NR.mp hc).1;have eb:bs[i]?=some (pI c):=by rw[<- Y1,ME,NM,hc];rfl
    have fin:=DP (n:=w.cps.size) (by lia) hi eb A (Same.refl _);unfold pI at fin;walk_at "";refine Ak ?_;rw[Mq];walk_at "";refine bP (fun z=>?_) (fun z=>?_)
    ·rw[EA] at z;rw[decide_eq_true (show 97<=c by lia),Pp] at fin;walk_at "";refine Ak ?_;rw[Mp]
     have e:(!decide (([122]:List Nat) < [c]))=decide (c<=122):=by
      by_cases q:c<=122
      ·rw[decide_eq_true q,decide_eq_false (by rw[EA];lia)];rfl
      ·rw[decide_eq_false q,decide_eq_true (by rw[EA];lia)];rfl
     have e2:(⟨#[c]⟩:Str).cps.toList=[c]:=rfl;rw[e];exact fin
    ·rw[EA] at z;rw[decide_eq_false (show ¬ 97<=c by lia),Su] at fin;walk_at "";exact fin
   ·intro H2 A;rw[<- lb,MV (MB _)] at A;refine rW (AccZ.bls A) ?_;exact k H2 A.same
 ·walk_at "";exact no (by lia)
def StOk(ws:List Str):Prop:=(1<=ws.length/\ws.length<=5)/\(∀w∈ws,uQ w=true)/\ws.Nodup
def gY(K:Fg)(C:Addr):Sp:=fun vs H Q E=>∃(a:Addr) (ws:List Str),vs=[.ref a]/\(SqL K H a (ws.map V.str)\/H a=some (.tup (ws.map V.str)))/\(∀w∈ws,Plain w)/\ws.length<=20/\(StOk ws->∀(p:Addr) (H':Hp),Same H H'->H' p=some (.tup (ws.map V.str))->Q (.ref p) H')/\(¬ StOk ws->∀H',Same H H'->E (.ref C) none H')
theorem A7:cnt ds<ds.length↔¬ ds.Nodup:=by
 have h1:=A0 ds;have h2:=sk ds;constructor
 ·intro z q
  have:=h1.mpr q
  lia
 ·intro z
  have:cnt ds≠ds.length:=fun q=>z (h1.mp q)
  lia
theorem GH{ws:List Str}(h:(ws.map Nw).Nodup):ws.Nodup:=by
 induction ws with
 |nil=>exact Pa
 |cons w ws ih =>
  rw[Nm,NE] at h;rw[NE];exact⟨fun z=>h.1 (MR.mpr ⟨w,z,rfl⟩),ih h.2⟩
def nX(K:Fg)(E:XK)(x:Ex0.Ad):TS:=(ar (a_ (dA (bq (gU Cv Cv (tC (.int 1)) (bQ (b8 K) (ag (ac 0) am)) (tC (.int 5)))))
 (eJ E x.c1 (tC (.str "a vessel has one to five stuffs")))
 bc)
 (ar (a_ (dA (tB (bQ (uh K) (ag (fh (Dj K (ac 0)) (aW (oJ K) [] E0 (ag (ac 0) am))) am))))
 (eJ E x.c1 (tC (.str "a stuff is a word of one to eight signs from a to z")))
 bc)
 (ar (a_ (bq (aA xw (oq (Ij K) (ac 0)) (bQ (b8 K) (ag (ac 0) am))))
 (eJ E x.c1 (tC (.str "no two stuffs have the same word")))
 bc)
 (aU (bQ (fA K) (ag (ac 0) am))))))
theorem yU{K:Fg}{x:Ex0.Ad}{N:List Str}(hN:N.length=1)(h:gY K x.c1 vs H Q E):nX K E x (ends Q) (L2.start N vs) H:=by
 obtain⟨a,ws,rfl,hz,pl,w20,k,ke⟩:=h;have ha:SqL K H a (ws.map V.str)\/SqT K H a (ws.map V.str):=hz.imp id SqT.of;rw[L2.bv hN];walk_at "t";have lm:(ws.map V.str).length=ws.length:=Mv ..;have bad:∀(H':Hp) (m:Str),Same H H'->¬ StOk ws->eJ E x.c1 (tC (.str m)) (ends Q) [some (.ref a)] H':=fun H' m S z=>⟨rfl,ke z H' S⟩
 unfold nX;walk_at "";refine⟨a,_,rfl,ha,?_⟩;rw[lm];walk_at "";refine bL (fun w1=>?_) (fun z=>?_)
 ·walk_at "";refine bP (fun z=>?_) (fun w5=>?_)
  ·exact bad H _ (Same.refl _) fun q=>by have:=q.1;lia
  ·walk_at "";generalize Y1:ws.map uQ=bs;have lb:bs.length=(ws.map V.str).length:=by rw[<- Y1,Mv,Mv]
   refine wl ha fun D nD=>⟨fun j H3=>AccZ K H D H3 ((bs.take j).map Rb),AccZ.start (Same.refl _) nD,fun i H2 A=>A.same,?_,?_⟩
   ·intro i y H2 hy A;have hi:i<(ws.map V.str).length:=(My.mp hy).1;rw[ME] at hy;obtain⟨w,hw,rfl⟩:=MI.mp hy;have eb:bs[i]?=some (uQ w):=by rw[<- Y1,ME,hw];rfl
    walk_at "";exact⟨w,rfl,pl w (MH hw),fun H3 S3=>DP (by lia) hi eb A S3⟩
   ·intro H2 A;rw[<- lb,MV (MB _)] at A;walk_at "";refine rW (AccZ.bls A) ?_;cases Yz:bs.all id with
    |false =>
     walk_at "";refine bad H2 _ A.same fun q=>?_
     have:bs.all id=true:=by
      rw[<- Y1,NK];intro b hb;obtain⟨w,hw,rfl⟩:=MR.mp hb;exact q.2.1 w hw
     rw[Yz] at this;cases this
    |true =>
     walk_at "";have hc:=sk (ws.map Nw);have Y8:=A7 (ds:=ws.map Nw);rw[Mv] at hc Y8
     have so : ¬ (cnt (ws.map Nw)<ws.length)->StOk ws:=fun z=>by
      refine⟨⟨by lia,by lia⟩,fun w hw=>?_,GH (Q3 fun q=>z (Y8.mpr q))⟩;rw[<- Y1,NK] at Yz;exact Yz _ (MR.mpr ⟨w,hw,rfl⟩)
     refine pP ?_;walk_at "";rcases hz with hL|hT
     ·have h2:=A.same.seq hL;refine⟨.L,a,ws,rfl,h2,by lia,?_⟩;refine⟨by lia,?_⟩;walk_at "";refine⟨a,_,rfl,.inl h2,?_⟩;rw[lm];walk_at "";refine bL (fun z=>?_) (fun z=>?_)
      ·exact bad H2 _ A.same fun q=>Y8.mp (by lia) (Ey q.2.2)
      ·walk_at "";refine rT h2 fun p np=>?_
       exact k (so (by lia)) p _ (A.same.trans (au np _)) ak
     ·have h2:SqT K H2 a (ws.map V.str):=SqT.of (A.same _ _ hT);refine⟨.T,a,ws,rfl,h2,by lia,?_⟩;refine⟨by lia,?_⟩;walk_at "";refine⟨a,_,rfl,.inr h2,?_⟩;rw[lm];walk_at "";refine bL (fun z=>?_) (fun z=>?_)
      ·exact bad H2 _ A.same fun q=>Y8.mp (by lia) (Ey q.2.2)
      ·walk_at "";refine vU h2 ?_;exact k (so (by lia)) a _ A.same (A.same _ _ hT)
 ·walk_at "";exact bad H _ (Same.refl _) fun q=>by have:=q.1;lia
def okN(x:Int):Bool:=decide (0<=x) && decide (x<=3)
def AC(n:Nat)(h:List Int):Bool:=decide (h.length=n) && (h.map okN).all id
def jK(K:Fg):Sp:=fun vs H Q _=>∃(a:Addr) (h:List Int) (n:Int),vs=[.ref a,.int n]/\(SqL K H a (h.map V.int)\/SqT K H a (h.map V.int))/\h.length<=100/\0<=n/\∀H',Same H H'->Q (.bl (AC n.toNat h)) H'
def oa(K:Fg):TS:=(ar (a_ (xr (dA (tB (Fp K (ac 0)))) (bq (aA Bp (bQ (b8 K) (ag (ac 0) am)) (ac 1))))
 (aU (tC (.bl false)))
 bc)
 (aU (bQ (uh K) (ag (fh (Dj K (ac 0)) (j6 (aW oA [] E0 (ag (ac 0) am)) (gU Cv Cv (tC (.int 0)) (ac 0) (tC (.int 3))))) am))))
theorem yY{K:Fg}{N:List Str}(hN:N.length=2)(h:jK K vs H Q E):oa K (ends Q) (L2.start N vs) H:=by
 obtain⟨a,h,n,rfl,ha,h100,n0,k⟩:=h;rw[L2.bv hN];walk_at "t";have lm:(h.map V.int).length=h.length:=Mv ..;unfold AC at k;unfold oa;walk_at "";refine⟨a,rfl,ha.imp (fun z=>⟨_,z⟩) (fun z=>⟨_,z⟩),?_⟩;walk_at "";refine⟨a,_,rfl,ha,?_⟩;rw[lm];walk_at "";refine bP (fun z=>?_) (fun z=>?_)
 ·walk_at ""
  have:=k H (Same.refl _)
  rw[decide_eq_false (show ¬ h.length=n.toNat by lia)] at this;exact this
 ·rw[decide_eq_true (show h.length=n.toNat by lia),Pp] at k;walk_at "";generalize Y1:h.map okN=bs at k;have lb:bs.length=(h.map V.int).length:=by rw[<- Y1,Mv,Mv]
  refine wl ha fun D nD=>⟨fun j H3=>AccZ K H D H3 ((bs.take j).map Rb),AccZ.start (Same.refl _) nD,fun i H2 A=>A.same,?_,?_⟩
  ·intro i y H2 hy A;have hi:i<(h.map V.int).length:=(My.mp hy).1;rw[ME] at hy;obtain⟨m,hm,rfl⟩:=MI.mp hy;have eb:bs[i]?=some (okN m):=by rw[<- Y1,ME,hm];rfl
   have fin:=DP (K:=K) (H0:=H) (by lia) hi eb A (Same.refl _);unfold okN at fin;walk_at "";refine⟨m,rfl,?_⟩;walk_at "";refine bL (fun z=>?_) (fun z=>?_)
   ·rw[decide_eq_true z,Pp] at fin;walk_at "";exact fin
   ·rw[decide_eq_false z,Su] at fin;walk_at "";exact fin
  ·intro H2 A;rw[<- lb,MV (MB _)] at A;refine rW (AccZ.bls A) ?_;exact k H2 A.same
theorem IK{ts:List Tn}(h:(ts.map dE).Nodup):(ts.map AO).Nodup:=by
 induction ts with
 |nil=>exact Pa
 |cons t ts ih =>
  rw[Nm,NE] at h;rw[Nm,NE];refine⟨fun z=>h.1 ?_,ih h.2⟩;obtain⟨u,hu,e⟩:=MR.mp z;refine MR.mpr ⟨u,hu,?_⟩;have e1:u.fr=t.fr:=congrArg Prod.fst e;have e2:u.to=t.to:=congrArg Prod.snd e;unfold dE;rw[e1,e2]
def oO(K:Fg)(C:Addr):Sp:=fun vs H Q E=>∃(v:V) (ts:List Tn),vs=[v]/\Rz K H v (.tuple (ts.map dT))/\ts.length<=12/\(lM ts->∀H',Same H H'->Q .non H')/\(¬ lM ts->∀H',Same H H'->E (.ref C) none H')
def tH(K:Fg)(E:XK)(x:Ex0.Ad):TS:=(ar (a_ (dA (bq (gU Cv Cv (tC (.int 1)) (bQ (b8 K) (ag (ac 0) am)) (tC (.int 8)))))
 (eJ E x.c4 (tC (.str "a vessel has one to eight turnings")))
 bc)
 (ar (a_ (tB (bQ (Gb K) (ag (fh (mr K (ac 0)) (aA (zg K) (aA (bB K) (ac 0) (tC (.int 0))) (aA (bB K) (ac 0) (tC (.int 1))))) am)))
 (eJ E x.c4 (tC (.str "a turning leads to another heap")))
 bc)
 (ar (a_ (bq (aA xw (oq (Ik K) (fh (mr K (ac 0)) (xq (y_ K) (ac 0) eO (gq (tC (.int 2)))))) (bQ (b8 K) (ag (ac 0) am))))
 (eJ E x.c4 (tC (.str "no two turnings have the same from and the same to")))
 bc)
 (a_ (bq (aA F_ (bQ (b8 K) (ag (aW (kc K) [] E0 (ag (ac 0) am)) am)) (tC (.int 8))))
 (eJ E x.c4 (tC (.str "a vessel has at most eight unlike heaps")))
 bc))))
theorem Co{K:Fg}{x:Ex0.Ad}{N:List Str}(hN:N.length=1)(h:oO K x.c4 vs H Q E):tH K E x (ends Q) (L2.start N vs) H:=by
 obtain⟨v,ts,rfl,rv,Z_,k,ke⟩:=h;obtain⟨a,xs,rfl,ha,rx⟩:=rv.cf;have lx:xs.length=ts.length:=by rw[rx.length,Mv]
 rw[L2.bv hN];walk_at "t";have bad:∀(H':Hp) (m:Str),Same H H'->¬ lM ts->eJ E x.c4 (tC (.str m)) (ends Q) [some (.ref a)] H':=fun H' m S z=>⟨rfl,ke z H' S⟩
 unfold tH;walk_at "";refine mO (SqT.of ha) ?_;walk_at "";refine bL (fun t1=>?_) (fun z=>by walk_at "";exact bad H _ (Same.refl _) fun q=>by have:=q.1;lia);walk_at "";refine bP (fun z=>bad H _ (Same.refl _) fun q=>by have:=q.2.1;lia) (fun t8=>?_);walk_at "";refine GR (SqT.of ha) ?_;generalize Y1:ts.map (fun t=>decide (t.fr=t.to))=bs;have lb:bs.length=xs.length:=by rw[<- Y1,Mv,lx]
 refine f8 (xs:=xs) fun D nD=>⟨fun j H3=>AccZ K H D H3 ((bs.take j).map Rb),AccZ.start (Same.refl _) nD,fun i H2 _ A=>SqT.of (A.same _ _ ha),?_,?_⟩
 ·intro i z H2 hz A;obtain⟨dd,g1,g2⟩:=rx.get hz;rw[ME] at g1;obtain⟨t,ht,rfl⟩:=MI.mp g1;have li:i<xs.length:=(My.mp hz).1;have eb:bs[i]?=some (decide (t.fr=t.to)):=by rw[<- Y1,ME,ht];rfl
  have fin:=DP (K:=K) (H0:=H) (n:=xs.length) (by lia) li eb A (Same.refl _);obtain⟨b,v1,v2,v3,rfl,hb,r1,r2,_⟩:=pZ (g2.same A.same);walk_at "";refine bI (SqT.of hb) (v:=v1) rfl ?_;walk_at "";refine bI (SqT.of hb) (v:=v2) rfl ?_;refine GY r1.rep r2.rep (uB _ 7) (uB _ 7) (fun z=>?_) (fun z=>?_)
  ·rw[decide_eq_true (AV z)] at fin;exact fin
  ·rw[decide_eq_false (fun q=>z (by rw[q]))] at fin;exact fin
 intro H2 A;rw[<- lb,MV (MB _)] at A;walk_at "";refine LM (AccZ.bls A) ?_;have Z0:=A.same _ _ ha;have rx2:=rx.same A.same;cases ZJ:bs.any id with
 |true =>
  walk_at "";refine bad H2 _ A.same fun q=>?_
  rw[<- Y1,TD] at ZJ;obtain⟨b,hb,e⟩:=ZJ;obtain⟨t,ht,rfl⟩:=MR.mp hb;exact q.2.2.2.1 t ht (of_decide_eq_true e)
 |false =>
  have ne:∀t∈ts,t.fr≠t.to:=fun t ht e=>by
   rw[<- Y1,Wa] at ZJ;exact ZJ _ (MR.mpr ⟨t,ht,rfl⟩) (decide_eq_true e)
  walk_at "";refine pP ?_;walk_at "";refine GR (SqT.of Z0) ?_;refine f8 (xs:=xs) fun D' nD'=>⟨fun j H3=>AccZ K H2 D' H3 ((ts.take j).map dE),AccZ.start (Same.refl _) nD',fun i H3 _ B=>SqT.of (B.same _ _ Z0),?_,?_⟩
  ·intro i z H3 hz B;obtain⟨dd,g1,g2⟩:=rx2.get hz;rw[ME] at g1;obtain⟨t,ht,rfl⟩:=MI.mp g1;have li:i<ts.length:=(My.mp ht).1;obtain⟨b,v1,v2,v3,rfl,hb,r1,r2,_⟩:=pZ (g2.same B.same);walk_at "";refine GP (SqT.of hb) (by show ¬ (HT.sIx 3 0 none=0/\HT.sIx 3 3 (some 2)=3);decide) fun p np=>?_
   have S4:=au np (.tup (gI [v1,v2,v3] none (some 2)));have r4:Rz K (upd H3 p (.tup (gI [v1,v2,v3] none (some 2)))) (.ref p) (dE t):=.tup (xs:=[v1,v2]) ak (.cons (r1.same S4) (.cons (r2.same S4) .nil));refine cF (by lia) ((B.on S4).js r4 (aX ?_) fun H5 B5=>?_)
   ·rw[Mv,Ng];lia
   ·show AccZ K H2 D' H5 ((ts.take (i+1)).map dE);rw[Nx,ht,M8];exact B5
  intro H3 B;rw[lx,MV (MB _)] at B;obtain⟨ys,hD,ry⟩:=B.at_;refine⟨.L,D',ys,ts.map dE,rfl,SqL.of hD,ry.rep,?_,by rw[Mv];lia,?_⟩
  ·intro d hd;obtain⟨t,_,rfl⟩:=MR.mp hd;exact EN t
  have hc:=sk (ts.map dE);have Y8:=A7 (ds:=ts.map dE);rw[Mv] at hc Y8;refine⟨by lia,?_⟩;have S03:=A.same.trans B.same;walk_at "";refine mO (SqT.of (S03 _ _ ha)) ?_;rw[lx];walk_at "";refine bL (fun z=>bad H3 _ S03 fun q=>Y8.mp (by lia) (IL q.2.2.1)) (fun z=>?_);have nd:(ts.map AO).Nodup:=IK (Q3 fun q=>z (by have:=Y8.mpr q;lia));walk_at "";refine⟨.ref a,ts,rfl,rv.same S03,by lia,fun p H4 C=>?_⟩;obtain⟨zs,hp,lz,_⟩:=C.sq;rw[Mv] at lz;walk_at "";refine cr hp ?_;walk_at "";refine bL (fun z=>bad H4 _ (S03.trans C.same) fun q=>by have:=q.2.2.2.2;lia) (fun z=>?_);walk_at "";exact k ⟨by lia,by lia,nd,ne,by lia⟩ H4 (S03.trans C.same)
end Nv
namespace L2
open PySem PySem.Spec PyProof.Rows
def Ga(_:Fg):R2:=fun x y H Q=>∃a b xs ys,x=.ref a/\y=.ref b/\H a=some (.tup xs)/\H b=some (.tup ys)/\xs.length+ys.length<=sizeLine/\∀(l:Addr) (H':Hp),Same H H'->H' l=some (.tup (xs++ys))->Q (.ref l) H'
section
variable{X:Cx}
theorem zA:ft X (binaryOp .Add) (Ga X.K):=by
 intro ξ s σ H x y v u Q I rx ry h;obtain⟨a,b,xs,ys,rfl,rfl,ha,hb,hz,q⟩:=h;by_cases hx:xs=[]
 ·cases rx;cases ry;obtain⟨fm,r1,p1,_⟩:=I.tuple (SqT.of ha);obtain⟨Zu,r2,p2,_⟩:=I.tuple (SqT.of hb);have e0:fm=[]:=r1.pE.mpr hx;obtain⟨⟨cls,dd,data,sl⟩,ho,hc,n,hd⟩:=id p1;obtain⟨⟨cls2,dd2,data2,sl2⟩,ZC,Y8,n2,hd2⟩:=id p2;simp only at hc hd Y8 hd2;subst hc hd Y8 hd2;exact Wj ⟨_,ho,rfl⟩ ⟨_,ZC,rfl⟩ Tv VF Rv Rm (Q5 _ _) (tuple_addW0 a b fm.toArray Zu.toArray n n2 dd dd2 sl sl2 (by simp[e0])) ⟨ho,ZC,⟨.ref b,H,I,rfl,q b H (Same.refl _) (by rw[hx,RW];exact hb)⟩⟩
 ·exact Gv ξ s σ H _ _ v u Q I rx ry ⟨a,b,xs,ys,rfl,rfl,SqT.of ha,SqT.of hb,hx,hz,fun e=>q a H (Same.refl _) (by rw[e,OT];exact ha),fun _ p np=>q p _ (au np _) ak⟩
end
end L2
namespace Nv
open PySem L2 Fr G1 Sm Vs
open PySem.W (Dat kqdOk kqdP kqdPs)
theorem Cz{w:Str}(h:∀c∈w.cps.toList,c<128)(l:w.cps.size<=800):Plain w:=by
 refine⟨?_,l⟩;rw[NY];intro c hc;exact decide_eq_true (h c (by simpa using hc))
theorem wy(h:wt w):Plain w:=Cz (fun c hc=>by have:=h.2.2 c hc;lia) (by have:w.cps.size<=8:=h.2.1;lia)
theorem HR(h:wt w):uQ w=true:=by
 unfold uQ;have h1:1<=w.cps.size:=h.1;have h8:w.cps.size<=8:=h.2.1;rw[decide_eq_true ⟨h1,h8⟩,Pp,NK];intro b hb;obtain⟨c,hc,rfl⟩:=MR.mp hb
 have:=h.2.2 c hc
 show(decide (97<=c) && decide (c<=122))=true;rw[decide_eq_true this.1,decide_eq_true this.2];rfl
theorem KA(h:eG ws)(w1:1<=ws.length)(w5:ws.length<=5):StOk ws:=⟨⟨w1,w5⟩,fun w hw=>HR (h.2 w hw),h.1⟩
theorem DI{k:Int}(h0:0<=k):gI xs none (some k)=xs.take k.toNat:=by
 have e:k=((k.toNat:Nat):Int):=by lia
 unfold gI;rw[HT.vC,SA];generalize hk:k.toNat=m at e;rw[e,HT.oZ,Nat.sub_zero];by_cases q:m<=xs.length
 ·rw[PK q]
 ·rw[Pw (by lia),MV (MB _),MV (by lia)]
theorem DJ{k:Int}(h0:0<=k):gI xs (some k) none=xs.drop k.toNat:=by
 have e:k=((k.toNat:Nat):Int):=by lia
 unfold gI;rw[HT.vC];generalize hk:k.toNat=m at e;rw[e,HT.oZ];by_cases q:m<=xs.length
 ·rw[PK q,MV (by rw[Oe];exact MB _)]
 ·rw[Pw (by lia),Ov (MB _),Ov (by lia),List.take_nil]
end Nv
namespace Lk
end Lk
namespace Mb
end Mb
namespace Lc
end Lc
namespace Wd
open PySem L2 Fr G1 Sm Vs Dn Rk
open PySem.W (Dat kqdOk)
def yq(K:Fg):Sp:=fun vs H Q _=>∃(v w:V) (t:Tn) (c:List Int),vs=[v,w]/\Rz K H v (dT t)/\Rz K H w (dI c)/\t.fr.length<=100/\∀H',Same H H'->Q (.bl (EQ (pr t) c)) H'
def xZ(K:Fg):TS:=(aU (bQ (uh K) (ag (jZ (Dg K .T .T (ag (aA (bB K) (ac 0) (tC (.int 0))) (ag (ac 1) am))) 2 (AH K 2 (pW (aJ 0) (pW (aJ 1) AI))) (aA Cv (ac 0) (ac 1))) am)))
theorem FX{K:Fg}{N:List Str}(hN:N.length=2)(h:yq K vs H Q E):xZ K (ends Q) (L2.start N vs) H:=by
 obtain⟨v,w,t,c,rfl,rv,rw_,hl,k⟩:=h;obtain⟨a,w1,w2,w3,rfl,ha,q1,q2,_⟩:=pZ rv;obtain⟨b,rfl,hb⟩:=lB rw_;obtain⟨f,rfl,hf⟩:=lB q1;rw[L2.bv hN];walk_at "t";unfold xZ;have lz:(SK t.fr c).length=min t.fr.length c.length:=Rf;walk_at "";refine bI (SqT.of ha) (v:=.ref f) rfl ?_;walk_at "";refine⟨f,b,_,_,rfl,SqT.of hf,SqT.of hb,?_⟩;have ml:min (t.fr.map V.int).length (c.map V.int).length=(SK t.fr c).length:=by rw[Mv,Mv,lz]
 refine DL (xs:=t.fr.map V.int) (ys:=c.map V.int) fun D nD=>⟨fun i H2=>AccZ K H D H2 ((((SK t.fr c).take i).map fun z=>decide (z.1<=z.2)).map Rb),by simpa using AccZ.start (Same.refl _) nD,fun i H2 _ A=>⟨SqT.of (A.same _ _ hf),SqT.of (A.same _ _ hb)⟩,?_,?_⟩
 ·intro i x y H2 T e1 e2 A nT us hu
  obtain⟨u1,u2',rfl⟩:∃u0 u1,us=[u0,u1]:=by
   match us,hu with
   |[u0,u1],_=>exact⟨u0,u1,rfl⟩
  rw[ME] at e1 e2;obtain⟨m1,f1,rfl⟩:=MI.mp e1;obtain⟨m2,f2,rfl⟩:=MI.mp e2;have ez:(SK t.fr c)[i]?=some (m1,m2):=by rw[OV];exact⟨f1,f2⟩
  have li:i<(SK t.fr c).length:=(My.mp ez).1;refine An (SqT.of ak) rfl ?_;walk_at "";refine⟨⟨[some (.int m1),some (.int m2)],rfl,rfl⟩,?_⟩;walk_at "";refine cF (by rw[ml];exact li) ?_;refine(A.on (au nT _)).js (.bl (decide (m1<=m2))) (aX (by rw[Mv,Mv,Ng];lia)) fun H4 A4=>?_
  show AccZ K H D H4 ((((SK t.fr c).take (i+1)).map fun z=>decide (z.1<=z.2)).map Rb);rw[Nx,ez,M8,M8];exact A4
 ·intro H2 A;rw[ml,MV (MB _)] at A;walk_at "";refine rW A.bls ?_;have e:((SK t.fr c).map fun z=>decide (z.1<=z.2)).all id=EQ (pr t) c:=by unfold EQ;rw[List.all_map];rfl
  rw[e];exact k H2 A.same
def yp(K:Fg):Sp:=fun vs H Q _=>∃(v w:V) (t:Tn) (c:List Int),vs=[v,w]/\Rz K H v (dT t)/\Rz K H w (dI c)/\t.fr.length=c.length/\t.to.length=c.length/\c.length<=100/\∀(p:Addr) (H':Hp),Same H H'->Rz K H' (.ref p) (dI (beh (pr t) c))->Q (.ref p) H'
theorem JX{t:Tn}{c:List Int}{i:Nat}{m1 m2 m3:Int}(f1:t.fr[i]?=some m1)(f2:t.to[i]?=some m2)(f3:c[i]?=some m3):(beh (pr t) c)[i]?=some (m3-m1+m2):=by
 have li:i<c.length:=(My.mp f3).1;unfold beh;rw[ME,Vz li];show some (pt c i-pt t.fr i+pt t.to i)=_;unfold pt;rw[Op,f3,Op,f1,Op,f2];rfl
theorem JW(t:Tp)(c:List Int):(beh t c).length=c.length:=by unfold beh;rw[Mv,QG]
def xY(K:Fg):TS:=(aU (bQ (fA K) (ag (jZ (G5 K (ag (ac 1) (ag (aA (bB K) (ac 0) (tC (.int 0))) (ag (aA (bB K) (ac 0) (tC (.int 1))) am)))) 3 (AH K 3 (pW (aJ 0) (pW (aJ 1) (pW (aJ 2) AI)))) (aA dj (aA wP (ac 0) (ac 1)) (ac 2))) am)))
theorem FV{K:Fg}{N:List Str}(hN:N.length=2)(h:yp K vs H Q E):xY K (ends Q) (L2.start N vs) H:=by
 obtain⟨v,w,t,c,rfl,rv,rw_,l1,l2,hl,k⟩:=h;obtain⟨a,w1,w2,w3,rfl,ha,q1,q2,_⟩:=pZ rv;obtain⟨b,rfl,hb⟩:=lB rw_;obtain⟨f,rfl,hf⟩:=lB q1;obtain⟨g,rfl,hg⟩:=lB q2;rw[L2.bv hN];walk_at "t";unfold xY;have lb:=JW (pr t) c;walk_at "";refine Jb ?_;walk_at "";refine bI (SqT.of ha) (v:=.ref f) rfl ?_;walk_at "";refine bI (SqT.of ha) (v:=.ref g) rfl ?_;walk_at "";refine⟨b,f,g,_,_,_,rfl,SqT.of hb,SqT.of hf,SqT.of hg,?_⟩;refine AX (xs:=c.map V.int) (ys:=t.fr.map V.int) (zs:=t.to.map V.int) (m:=c.length) (Mv _) (by rw[Mv];exact l1) (by rw[Mv];exact l2) fun D nD=>⟨fun i H2=>AccZ K H D H2 (((beh (pr t) c).take i).map PV),by simpa using AccZ.start (Same.refl _) nD,fun i H2 _ A=>⟨SqT.of (A.same _ _ hb),SqT.of (A.same _ _ hf),SqT.of (A.same _ _ hg)⟩,?_,?_⟩
 ·intro i x y u H2 T e1 e2 e3 A nT us hu
  obtain⟨u1,u2,u3,rfl⟩:∃u0 u1 u2,us=[u0,u1,u2]:=by
   match us,hu with
   |[u0,u1,u2],_=>exact⟨u0,u1,u2,rfl⟩
  rw[ME] at e1 e2 e3;obtain⟨m1,f1,rfl⟩:=MI.mp e1;obtain⟨m2,f2,rfl⟩:=MI.mp e2;obtain⟨m3,f3,rfl⟩:=MI.mp e3;have li:i<c.length:=(My.mp f1).1;have ec:=JX f2 f3 f1;refine An (SqT.of ak) rfl ?_;walk_at "";refine⟨⟨[some (.int m1),some (.int m2),some (.int m3)],rfl,rfl⟩,?_⟩;walk_at "";refine cF li ?_;refine(A.on (au nT _)).js (.int _) (aX (by rw[Mv,Ng];lia)) fun H4 A4=>?_
  show AccZ K H D H4 (((beh (pr t) c).take (i+1)).map PV);rw[Nx,ec,M8];exact A4
 ·intro H2 A;rw[MV (by lia)] at A;walk_at "";refine rT (SqL.of (AccZ.ints A)) fun p np=>?_
  exact k p _ (A.same.trans (au np _)) (.tup ak (RpL.ints _))
def xT (K:Fg):TS:=(ar (dS (yd K (ag (ac 0) (ag (xt [(tC (.str "the turning at place ")),(tI (ac 1)),(tC (.str " of the row cannot be made"))] NC) am))))
 (Ic K (ac 0) (ac 1) "at"))
theorem JF{n:Nat}(h:n<1000):(a7 (n:Int)).length<=11:=P6 (by lia) (by decide) (by lia)
theorem IQ{n:Nat}(h:n<1000):((n:Int).natAbs).log2<1920:=by
 rw[Int.natAbs_natCast];by_cases z:n=0
 ·subst z;decide
 ·have:=(W4 z (k:=10)).mpr (by lia)
  lia
theorem FS{K:Fg}  {vs:List V}    {N:List Str} (hN:N.length=2) (h:qA K C "at" vs H Q E):xT K (ends Q) (L2.start N vs) H:=by
 obtain⟨e,n,rfl,hn,he,hS,hF,k⟩:=h;rw[L2.bv hN];walk_at "t";have hi:=JF hn;have hs:(1000:Nat)<=sizeLine:=by decide
 unfold xT;walk_at "";unfold yd;walk_at "";refine hX (by decide) ?_;walk_at "";refine⟨IQ hn,?_⟩
 have l1:(NC++Om "the turning at place " ++ a7 (n:Int)).length<=100:=by
  rw[Nb,show(NC++Om "the turning at place ").length=21 by decide +kernel];lia
 refine hX (by lia) ?_;walk_at "";refine hX (by rw[Nb,show(Om " of the row cannot be made").length=26 by decide +kernel];lia) ?_;walk_at "";refine⟨e,C,none,_,rfl,he,hS,?_⟩;exact⟨_,rfl,_,rfl,e,C,rfl,he,hF,k⟩
end Wd
namespace Tw
open PySem L2 Fr G1 Sm Vs
open PySem.W (Dat kqdOk)
def bK (w:Str) (n:Int):Str:=if n=1 then w else NC++a7 n ++ " " ++ w
def ba(ws:List Str)(h:List Int):List Str:=(ws.zip h).filterMap fun p=>if 0<p.2 then some (bK p.1 p.2) else none
def bF (ws:List Str) (h:List Int):Str:=if ba ws h=[] then "0" else Wp " + " (ba ws h)
def bH (q d:Int):Str:=if d=1 then a7 q else NC++a7 q ++ "/" ++ a7 d
def turnT (ws:List Str) (t:Tn):Str:=NC++bF ws t.fr ++ " -> " ++ bF ws t.to ++ " @ " ++ bH t.q t.d
theorem eM{i:Int}(h0:0<=i)(h1:i<=10000000000):i.natAbs.log2<1920:=by
 by_cases z:i.natAbs=0
 ·rw[z];decide
 ·exact(W4 z).mpr (Nc (show i.natAbs<2 ^ 34 by lia) (QR (by decide) (by decide)))
theorem dY{i:Int}(h0:0<=i)(h1:i<=10000000000):(a7 i).length<=11:=P6 h0 (by decide) (by lia)
theorem LQ:NC++a7 2 ++ " "=("2 ":Str):=by decide +kernel
theorem LP:NC++a7 3 ++ " "=("3 ":Str):=by decide +kernel
theorem IT:(("2 ":Str)).length=2:=by decide +kernel
theorem IS:(("3 ":Str)).length=2:=by decide +kernel
theorem IR:((" + ":Str)).length=3:=by decide +kernel
theorem pJ:((" -> ":Str)).length=4:=by decide +kernel
theorem zZ:((" @ ":Str)).length=3:=by decide +kernel
theorem zY:(("/":Str)).length=1:=by decide +kernel
theorem IU:((" ":Str)).length=1:=by decide +kernel
theorem K6:(("0":Str)).length=1:=by decide +kernel
theorem kO:NC.length=0:=by decide +kernel
theorem szL:sizeLine=16777216:=by decide
theorem i6(w:Str):bK w 1=w:=if_pos rfl
theorem j8(w:Str):bK w 2=("2 ":Str)++w:=by unfold bK;rw[if_neg (by decide),LQ]
theorem j7(w:Str):bK w 3=("3 ":Str)++w:=by unfold bK;rw[if_neg (by decide),LP]
theorem three{n:Int}(h0:0<n)(h3:n<=3):n=1\/n=2\/n=3:=by lia
theorem mF{w:Str}{n:Int}(hw:w.length<=8)(h0:0<n)(h3:n<=3):(bK w n).length<=10:=by
 rcases three h0 h3 with rfl|rfl|rfl
 ·rw[i6];lia
 ·rw[j8,M0,IT];lia
 ·rw[j7,M0,IS];lia
def WsOk(ws:List Str):Prop:=ws.length<=5/\∀w∈ws,w.length<=8/\O8 w=true
theorem qy(h1:O8 a=true)(h2:O8 b=true):O8 (a++b)=true:=by
 unfold O8 at *;show(a.cps++b.cps).all _=true;rw[Array.all_append,h1,h2];rfl
theorem yf{n:Int}(hw:O8 w=true)(h0:0<n)(h3:n<=3):O8 (bK w n)=true:=by
 rcases three h0 h3 with rfl|rfl|rfl
 ·rw[i6];exact hw
 ·rw[j8];exact qy (by decide +kernel) hw
 ·rw[j7];exact qy (by decide +kernel) hw
theorem iP{h:List Int}(ow:WsOk ws)(oh:∀x∈h,0<=x/\x<=3){p:Str}(m:p∈ba ws h):p.length<=10/\O8 p=true:=by
 obtain⟨q,hq,e⟩:=N9.mp m;obtain⟨m1,m2⟩:=OU (a:=q.1) (b:=q.2) hq;by_cases z:0<q.2
 ·rw[if_pos z] at e;cases MY e;exact⟨mF (ow.2 _ m1).1 z (oh _ m2).2,yf (ow.2 _ m1).2 z (oh _ m2).2⟩
 ·rw[if_neg z] at e;cases e
theorem fY:(ba ws h).length<=ws.length:=by
 refine Np (Q_ _ _) ?_;rw[Rf];lia
theorem Ed{l:List Str}(h:∀p∈l,p.length<=10):(l.map (·.length)).sum<=10*l.length:=by
 induction l with
 |nil=>simp
 |cons a r ih =>
  have h1:=h a MM;have h2:=ih fun p hp=>h p (MO _ hp)
  simp only[Nm,List.sum_cons,Nl];lia
theorem dL{h:List Int}(ow:WsOk ws)(oh:∀x∈h,0<=x/\x<=3):(bF ws h).length<=65:=by
 unfold bF;split
 ·rw[K6];lia
 ·show(PySem.Builtin.Str.glued _ _).length<=65;rw[UK];have h1:=StrLaws.join_length_le " + " (ba ws h);have h2:=Ed fun p hp=>(iP ow oh hp).1
  have h3:=fY (ws:=ws) (h:=h);have h4:=ow.1;rw[IR] at h1;lia
theorem hG(p:jh q d):(bH q d).length<=23:=by
 have h1:=dY (i:=q) (by have:=p.1;lia) p.2.2.2.1;have h2:=dY (i:=d) (by have:=p.2.1;lia) p.2.2.2.2;unfold bH;split
 ·lia
 ·rw[O6,M0,M0,zY];lia
theorem kA{ws:List Str}{h:List Int}{i:Nat}{w:Str}{n:Int}(e1:ws[i]?=some w)(e2:h[i]?=some n):ba (ws.take (i+1)) (h.take (i+1))=ba (ws.take i) (h.take i)++(if 0<n then [bK w n] else []):=by
 have l1:=(My.mp e1).1;have l2:=(My.mp e2).1;unfold ba;rw[Nx,Nx,e1,e2,Xz,Xz,List.zip_append (by rw[Ng,Ng];lia),UL];congr 1;by_cases z:0<n
 ·simp[z]
 ·simp[z]
def oG:Sp:=fun vs H Q _=>∃(w:Str) (n:Int),vs=[.str w,.int n]/\w.length<=8/\0<n/\n<=3/\Q (.str (bK w n)) H
def nY(K:Fg):TS:=(ar (a_ (bq (aA jL (ac 1) (tC (.int 1))))
 (aU (ac 0))
 bc)
 (aU (xt [(tI (ac 1)),(tC (.str " ")),(wD (ac 0))] NC)))
theorem yV{K:Fg}{N:List Str}(hN:N.length=2)(h:oG vs H Q E):nY K (ends Q) (L2.start N vs) H:=by
 obtain⟨w,n,rfl,hw,h0,h3,k⟩:=h;rw[L2.bv hN];walk_at "t";have ln:=dY (i:=n) (by lia) (by lia);unfold nY;walk_at "";refine bL (fun z=>?_) (fun z=>?_)
 ·walk_at "";subst z;rw[i6] at k;exact k
 ·walk_at "";refine⟨(eM (i:=n) (by lia) (by lia)),?_⟩;refine hX (by rw[M0,kO,szL];lia) ?_;walk_at "";refine hX (by rw[M0,M0,kO,IU,szL];lia) ?_;walk_at "";refine C_ (by rw[szL];lia) ?_;refine hX (by rw[M0,M0,M0,kO,IU,szL];lia) ?_;walk_at "";unfold bK at k;rw[if_neg z] at k;exact k
def oK(K:Fg):Sp:=fun vs H Q _=>∃(v1 v2:V) (ws:List Str) (h:List Int),vs=[v1,v2]/\Rz K H v1 (.tuple (ws.map Nw))/\Rz K H v2 (dI h)/\WsOk ws/\bi ws.length h/\∀H',Same H H'->Q (.str (bF ws h)) H'
theorem JV{K:Fg}{ws:List Str}(h:Rz K H v (.tuple (ws.map Nw))):∃a:Addr,v=.ref a/\H a=some (.tup (ws.map V.str)):=by
 obtain⟨a,xs,e,ha,r⟩:=h.cf;cases RpL.gr r;exact⟨a,e,ha⟩
theorem mK(p:(ba ws h)=[]):bF ws h = "0":=if_pos p
theorem kZ(p:(ba ws h)≠[]):bF ws h=Wp " + " (ba ws h):=if_neg p
theorem rX{h:List Int} (ow:WsOk ws) (oh:∀x∈h,0<=x/\x<=3):((ba ws h).map (·.length)).sum+(ba ws h).length*((" + ":Str)).length<=16777216:=by
 have h2:=Ed fun p hp=>(iP ow oh hp).1
 have h3:=fY (ws:=ws) (h:=h);have h4:=ow.1;rw[IR];lia
def tw(K:Fg):TS:=(ar (aQ (yb (Dg K .T .T (ag (ac 0) (ag (ac 1) am))) 2 (AH K 2 (pW (aJ 0) (pW (aJ 1) AI))) (bq (aA F_ (ac 1) (tC (.int 0)))) (aW oG [] E0 (ag (ac 0) (ag (ac 1) am)))) (aJ 2))
 (ar (a_ (bq (aA jL (bQ (b8 K) (ag (ac 2) am)) (tC (.int 0))))
 (aU (tC (.str "0")))
 bc)
 (aU (j4 K "str" (vF K) (tC (.str " + ")) (ag (ac 2) am)))))
theorem Ch{K:Fg}{N:List Str}(hN:N.length=3)(h:oK K vs H Q E):tw K (ends Q) (L2.start N vs) H:=by
 obtain⟨v1,v2,ws,h,rfl,r1,r2,ow,oh,k⟩:=h;obtain⟨a,rfl,ha⟩:=JV r1;obtain⟨b,rfl,hb⟩:=lB r2;rw[L2.bv hN];walk_at "t";unfold tw;walk_at "";refine⟨a,b,_,_,rfl,SqT.of ha,SqT.of hb,?_⟩;refine AZ (xs:=ws.map V.str) (ys:=h.map V.int) fun D nD=>?_
 have ml:min (ws.map V.str).length (h.map V.int).length=ws.length:=by rw[Mv,Mv,oh.1,Nat.min_self]
 refine⟨fun i H2=>AccZ K H D H2 ((ba (ws.take i) (h.take i)).map Nw),AccZ.start (Same.refl _) nD,fun i H2 _ A=>⟨SqT.of (A.same _ _ ha),SqT.of (A.same _ _ hb)⟩,?_,?_⟩
 ·intro i y1 y2 H2 T e1 e2 A nT us hu
  obtain⟨u0,u1,rfl⟩:∃u0 u1,us=[u0,u1]:=by
   match us,hu with
   |[u0,u1],_=>exact⟨u0,u1,rfl⟩
  rw[ME] at e1 e2;obtain⟨w,f1,rfl⟩:=MI.mp e1;obtain⟨n,f2,rfl⟩:=MI.mp e2;have li:i<ws.length:=(My.mp f1).1;have sn:=kA f1 f2;have on:=oh.2 n (MH f2);have lw:=(ow.2 w (MH f1)).1;refine An (SqT.of ak) rfl ?_;walk_at "";refine⟨⟨[some (.str w),some (.int n)],rfl,rfl⟩,?_⟩;walk_at "";refine bL (fun z=>?_) (fun z=>?_)
  ·walk_at "";refine⟨w,n,rfl,lw,z,on.2,?_⟩;refine cF (by rw[ml];exact li) ?_;refine(A.on (au nT _)).js (.str (bK w n)) (aX ?_) fun H4 A4=>?_
   ·rw[Mv]
    have:=fY (ws:=ws.take i) (h:=h.take i)
    rw[Ng] at this
    have:=ow.1
    lia
   ·show AccZ K H D H4 ((ba (ws.take (i+1)) (h.take (i+1))).map Nw);rw[sn,if_pos z,M8];exact A4
  ·refine BP (by rw[ml];exact li) ?_;show AccZ K H D _ ((ba (ws.take (i+1)) (h.take (i+1))).map Nw);rw[sn,if_neg z,OT];exact A.on (au nT _)
 ·intro H2 A;rw[ml,MV (MB _),MV (by rw[oh.1];exact MB _)] at A;have hD:=AccZ.strs A;walk_at "";refine cr (SqL.of hD) ?_;walk_at "";refine bL (fun z=>?_) (fun z=>?_)
  ·walk_at "";have p:ba ws h=[]:=On.mp (by rw[Mv] at z;lia);rw[mK p] at k;exact k H2 A.same
  ·walk_at "";have p:ba ws h≠[]:=fun q=>z (by rw[q];rfl)
   rw[kZ p] at k;refine⟨rfl,?_⟩;walk_at "";exact EH (SqL.of hD) (rX ow oh.2) (k H2 A.same)
def tM(K:Fg):Sp:=fun vs H Q _=>∃(v:V) (q d:Int),vs=[v]/\Rz K H v (dI [q,d])/\jh q d/\Q (.str (bH q d)) H
def s_(K:Fg):TS:=(ar (aQ (aA (bB K) (ac 0) (tC (.int 0))) (aJ 1))
 (ar (aQ (aA (bB K) (ac 0) (tC (.int 1))) (aJ 2))
 (ar (a_ (bq (aA jL (ac 2) (tC (.int 1))))
 (aU (tI (ac 1)))
 bc)
 (aU (xt [(tI (ac 1)),(tC (.str "/")),(tI (ac 2))] NC)))))
theorem Cb{K:Fg}{N:List Str}(hN:N.length=3)(h:tM K vs H Q E):s_ K (ends Q) (L2.start N vs) H:=by
 obtain⟨v,q,d,rfl,r,p,k⟩:=h;obtain⟨a,rfl,ha⟩:=lB r;rw[L2.bv hN];walk_at "t";have q0:=p.1;have d0:=p.2.1;have q1:=p.2.2.2.1;have d1:=p.2.2.2.2;have lq:=dY (i:=q) (by lia) (by lia);have ld:=dY (i:=d) (by lia) (by lia);unfold s_;walk_at "";refine bI (SqT.of ha) (v:=.int q) rfl ?_;walk_at "";refine bI (SqT.of ha) (v:=.int d) rfl ?_;walk_at "";unfold bH at k;refine bL (fun z=>?_) (fun z=>?_)
 ·rw[if_pos z] at k;walk_at "";exact⟨(eM (i:=q) (by lia) (by lia)),k⟩
 ·rw[if_neg z] at k;walk_at "";refine⟨(eM (i:=q) (by lia) (by lia)),?_⟩;refine hX (by rw[M0,kO,szL];lia) ?_;walk_at "";refine hX (by rw[M0,M0,kO,zY,szL];lia) ?_;walk_at "";refine⟨(eM (i:=d) (by lia) (by lia)),?_⟩;refine hX (by rw[M0,M0,M0,kO,zY,szL];lia) ?_;walk_at "";exact k
def TtOk(ws:List Str)(t:Tn):Prop:=bi ws.length t.fr/\bi ws.length t.to/\jh t.q t.d
def oE(K:Fg):Sp:=fun vs H Q _=>∃(v1 v2:V) (ws:List Str) (t:Tn),vs=[v1,v2]/\Rz K H v1 (.tuple (ws.map Nw))/\Rz K H v2 (dT t)/\WsOk ws/\TtOk ws t/\∀H',Same H H'->Q (.str (turnT ws t)) H'
def sW(K:Fg):TS:=(ar (aQ (aW (oK K) [] E0 (ag (ac 0) (ag (aA (bB K) (ac 1) (tC (.int 0))) am))) (aJ 2))
 (ar (aQ (aW (oK K) [] E0 (ag (ac 0) (ag (aA (bB K) (ac 1) (tC (.int 1))) am))) (aJ 3))
 (ar (aQ (aW (tM K) [] E0 (ag (aA (bB K) (ac 1) (tC (.int 2))) am)) (aJ 4))
 (aU (xt [(wD (ac 2)),(tC (.str " -> ")),(wD (ac 3)),(tC (.str " @ ")),(wD (ac 4))] NC)))))
theorem B9{K:Fg}{N:List Str}(hN:N.length=5)(h:oE K vs H Q E):sW K (ends Q) (L2.start N vs) H:=by
 obtain⟨v1,v2,ws,t,rfl,r1,r2,ow,⟨o1,o2,op⟩,k⟩:=h;obtain⟨a,w1,w2,w3,rfl,ha,q1,q2,q3⟩:=pZ r2;rw[L2.bv hN];walk_at "t";have l1:=dL ow o1.2;have l2:=dL ow o2.2;have l3:=hG op;unfold sW;walk_at "";refine bI (SqT.of ha) (v:=w1) rfl ?_;walk_at "";refine⟨v1,w1,ws,t.fr,rfl,r1,q1,ow,o1,fun H1 S1=>?_⟩;have ha1:=S1 _ _ ha;walk_at "";refine bI (SqT.of ha1) (v:=w2) rfl ?_;walk_at "";refine⟨v1,w2,ws,t.to,rfl,r1.same S1,q2.same S1,ow,o2,fun H2 S2=>?_⟩;have Z0:=S2 _ _ ha1;walk_at "";refine bI (SqT.of Z0) (v:=w3) rfl ?_;walk_at "";refine⟨w3,t.q,t.d,rfl,(q3.same S1).same S2,op,?_⟩;walk_at "";refine C_ (by rw[szL];lia) ?_;refine hX (by rw[M0,kO,szL];lia) ?_;walk_at "";refine hX (by rw[M0,M0,kO,pJ,szL];lia) ?_;walk_at "";refine C_ (by rw[szL];lia) ?_;refine hX (by rw[M0,M0,M0,kO,pJ,szL];lia) ?_;walk_at "";refine hX (by rw[M0,M0,M0,M0,kO,pJ,zZ,szL];lia) ?_;walk_at "";refine C_ (by rw[szL];lia) ?_;refine hX (by rw[M0,M0,M0,M0,M0,kO,pJ,zZ,szL];lia) ?_;walk_at "";exact k H2 (S1.trans S2)
def LZ(ws:List Str)(ts:List Tn):Prop:=WsOk ws/\ts.length<=8/\∀t∈ts,TtOk ws t
theorem BI{K:Fg}{H:Hp}{σ:St}{Q:VK}{te:TE}(ok:LZ ws ts)(hb:H b=some (.tup xs))(rx:RzL K H xs (ts.map dT))
  (ht:∀(H2:Hp) (v:V) (t:Tn) (Q':VK),Same H H2->Rz K H2 v (dT t)->TtOk ws t->(∀H',Same H2 H'->Q' (.str (turnT ws t)) H')->te (some v :: σ) H2 Q')
  (hq:∀(D:Addr) (H':Hp),AccZ K H D H' ((ts.map (turnT ws)).map Nw)->Q (.ref D) H'):cZ (sQ K b) te σ Q H:=by
 have lx:xs.length=ts.length:=by rw[rx.length,Mv]
 refine f8 (xs:=xs) fun D nD=>⟨fun i H2=>AccZ K H D H2 (((ts.take i).map (turnT ws)).map Nw),AccZ.start (Same.refl _) nD,fun i H2 _ A=>SqT.of (A.same _ _ hb),?_,?_⟩
 ·intro i z H2 hz A;obtain⟨dd,g1,g2⟩:=rx.get hz;rw[ME] at g1;obtain⟨t,et,rfl⟩:=MI.mp g1;have li:i<ts.length:=(My.mp et).1;have ln:=ok.2.1;refine ht H2 z t _ A.same (g2.same A.same) (ok.2.2 t (MH et)) fun H3 S3=>?_
  refine cF (by lia) ((A.on S3).js (.str _) (aX ?_) fun H4 A4=>?_)
  ·rw[Mv,Mv,Ng];lia
  ·show AccZ K H D H4 (((ts.take (i+1)).map (turnT ws)).map Nw);rw[Nx,et,M8,M8];exact A4
 ·intro H2 A;rw[lx,MV (MB _)] at A;exact hq D H2 A
theorem Ha{n:Int} (h0:0<n) (h3:n<=3):lG [V.str "",.str w,.str (("2 ":Str)++w),.str (("3 ":Str)++w)] n=some (.str (bK w n)):=by
 rcases three h0 h3 with rfl|rfl|rfl
 ·rw[i6];rfl
 ·rw[j8];rfl
 ·rw[j7];rfl
end Tw
namespace Tp2
open PySem L2 Str
open PySem.Builtin.Str (strSub subAt)
abbrev cl(s:Str):List Nat:=s.cps.toList
theorem bo(a b:Str):cl (a++b)=cl a++cl b:=by
 show(a.cps++b.cps).toList=_;rw[P9]
theorem bY(a:Str):(cl a).length=a.length:=by show a.cps.toList.length=a.cps.size;rw[NP]
theorem sr(h:cl a=cl b):a=b:=Str.ext' (Array.toList_inj.mp h)
theorem pA:gS z y i↔i+y.length<=z.length/\((cl z).drop i).take y.length=cl y:=by
 unfold gS;rw[StrLaws.subAt_eq,beq_iff_eq]
theorem eU{j c:Nat}(h:gS z y i)(hc:(cl y)[j]?=some c):(cl z)[i+j]?=some c:=by
 obtain⟨_,e⟩:=pA.mp h;have lj:j<y.length:=by rw[<- bY];exact(My.mp hc).1
 rw[<- e,Ta lj,SH] at hc;exact hc
theorem eT(a y b:Str):gS (a++y++b) y a.length:=by
 refine pA.mpr ⟨by rw[Nb,Nb];lia,?_⟩;rw[bo,bo,N6,List.drop_append_of_le_length (by rw[bY];exact MB _),Ov (by rw[bY];exact MB _),RW,<- bY y,Vh]
theorem cV(a y b:Str):strSub (a++y++b) 0 a.length=a:=sr (by
 show(strSub (a++y++b) 0 a.length).cps.toList=_
 rw[RD]
 show((cl (a++y++b)).drop 0).take (a.length-0)=cl a
 rw[SA,Nat.sub_zero,bo,bo,N6,<- bY a,Vh])
theorem di(a y b:Str):strSub (a++y++b) (a.length+y.length) (a++y++b).length=b:=sr (by
 show(strSub (a++y++b) (a.length+y.length) (a++y++b).length).cps.toList=_
 rw[RD]
 show((cl (a++y++b)).drop (a.length+y.length)).take _=cl b
 have l:(cl (a++y)).length=a.length+y.length:=by rw[bY,Nb]
 rw[bo,<- l,Vi,Nb]
 rw[MV]
 rw[bY,l,Nb];lia)
theorem mU{b:Str}{y0 y1:Nat}(h0:(cl y)[0]?=some y0)(h1:(cl y)[1]?=some y1)(na:y1∉cl a)(ne:y1≠y0):∀k,k<a.length->¬ gS (a++y++b) y k:=by
 intro k hk o;have c:=eU o h1;rw[bo,bo,N6] at c;rcases OI (k+1) a.length with l|l
 ·rw[Nu (by rw[bY];exact l)] at c;exact na (MH c)
 ·have e:k+1=a.length:=by lia
  rw[Nr (by rw[bY];lia),bY,e,Ui,Nu (My.mp h0).1,h0] at c;exact ne (MY c).symm
theorem JM{b:Str}{y0:Nat}(h0:(cl y)[0]?=some y0)(na:y0∉cl a):∀k,k<a.length->¬ gS (a++y++b) y k:=by
 intro k hk o;have c:=eU o h0;rw[bo,bo,N6,Um,Nu (by rw[bY];exact hk)] at c;exact na (MH c)
theorem GF{y0:Nat}(h0:(cl y)[0]?=some y0)(nz:y0∉cl z):∀i,¬ gS z y i:=fun i o=>by
 have c:=eU o h0;exact nz (MH c)
theorem IV{a:Str}{y0:Nat}(h0:(cl y)[0]?=some y0)(l1:y.length=1)(nb:y0∉cl b):∀k,a.length<k->¬ gS (a++y++b) y k:=by
 intro k hk o;have c:=eU o h0;rw[bo,Um,Nr (by rw[bY,Nb];lia)] at c;exact nb (MH c)
def pls:Str:=" + "
theorem zo:cl pls=[32,43,32]:=by decide +kernel
theorem o9:pls.length=3:=by decide +kernel
def pos:List Str->List Nat
 |[]=>[]
 |[_]=>[]
 |p :: q :: r=>p.length :: (pos (q :: r)).map (· + (p.length+3))
theorem Df(p q:Str)(r:List Str):OD pls (p :: q :: r)=p++pls++OD pls (q :: r):=rfl
theorem vJ:∀(ps:List Str),(∀p∈ps,43∉cl p)->∀m,(cl (OD pls ps))[m]?=some 43->∃i∈pos ps,m=i+1
 |[],_,m,h=>by
  have:cl (OD pls [])=[]:=by decide +kernel
  rw[this] at h;cases h
 |[p],hp,m,h=>absurd (MH h) (hp p MM)
 |p :: q :: r,hp,m,h=>by
  rw[Df,bo,bo,N6,zo] at h;rcases OI m p.length with l|l
  ·rw[Nu (by rw[bY];exact l)] at h;exact absurd (MH h) (hp p MM)
  ·rw[Nr (by rw[bY];exact l),bY] at h;obtain⟨d,rfl⟩:∃d,m=p.length+d:=⟨m-p.length,by lia⟩
   rw[Nat.add_sub_cancel_left] at h
   match d,h with
   |0,h=>cases h
   |1,_=>exact⟨p.length,MM,rfl⟩
   |2,h=>cases h
   |d+3,h =>
    obtain⟨i,hi,e⟩:=vJ (q :: r) (fun x hx=>hp x (MO _ hx)) d h;exact⟨i+(p.length+3),MO _ (MR.mpr ⟨i,hi,rfl⟩),by lia⟩
theorem zG{a:Str}(h:gS z y i):gS (a++z) y (i+a.length):=by
 obtain⟨l,e⟩:=pA.mp h;refine pA.mpr ⟨by rw[Nb];lia,?_⟩;rw[bo,Nat.add_comm,<- Xo,<- bY a,Vi];exact e
theorem zm:∀(ps:List Str),∀i∈pos ps,gS (OD pls ps) pls i
 |[],_,h=>by cases h
 |[_],_,h=>by cases h
 |p :: q :: r,i,h=>by
  rcases MD.mp h with rfl|h
  ·rw[Df];exact eT _ _ _
  ·obtain⟨j,hj,rfl⟩:=MR.mp h
   have:=zG (a:=p++pls) (zm (q :: r) j hj)
   rw[Nb,o9] at this;exact this
theorem uj:∀(ps:List Str),(pos ps).Pairwise fun i j=>i+3<=j
 |[]=>.nil
 |[_]=>.nil
 |p :: q :: r=>by
  refine VH.cons (fun x hx=>?_) ?_
  ·obtain⟨j,_,rfl⟩:=MR.mp hx;lia
  ·rw[Ww];exact(uj (q :: r)).imp fun h=>by lia
theorem uE{ps:List Str}(hp:∀p∈ps,43∉cl p)(h:gS (OD pls ps) pls i):i∈pos ps:=by
 have c:=eU h (j:=1) (c:=43) (by rw[zo];rfl);obtain⟨k,hk,e⟩:=vJ ps hp _ c
 have:i=k:=by lia
 rw[this];exact hk
theorem kf:∀{l1 l2:List Nat},l1.Pairwise (· < ·)->l2.Pairwise (· < ·)->(∀x,x∈l1↔x∈l2)->l1=l2
 |[],[],_,_,_=>rfl
 |[],b :: l2,_,_,h=>absurd ((h b).mpr MM) (by simp)
 |a :: l1,[],_,_,h=>absurd ((h a).mp MM) (by simp)
 |a :: l1,b :: l2,p1,p2,h=>by
  have q1:=Ri.mp p1;have q2:=Ri.mp p2
  have e:a=b:=by
   rcases MD.mp ((h a).mp MM) with e|m
   ·exact e
   ·rcases MD.mp ((h b).mpr MM) with e|m2
    ·exact e.symm
    ·have:=q1.1 b m2;have:=q2.1 a m;lia
  subst e;rw[kf q1.2 q2.2 fun x=>⟨fun hx=>?_,fun hx=>?_⟩]
  ·rcases MD.mp ((h x).mp (MO _ hx)) with e|m
   ·have:=q1.1 x hx;lia
   ·exact m
  ·rcases MD.mp ((h x).mpr (MO _ hx)) with e|m
   ·have:=q2.1 x hx;lia
   ·exact m
theorem CQ{ps:List Str}(hp:∀p∈ps,43∉cl p):iV (OD pls ps) pls=pos ps:=by
 refine kf ?_ ((uj ps).imp fun h=>by lia) fun x=>?_
 ·unfold iV;exact VH.filter _ RA
 ·rw[jO];exact⟨uE hp,zm ps x⟩
theorem q_{l:List Nat}(h:l.Pairwise fun i j=>i+3<=j){i:Nat}(hi:i∈l)(hj:j∈l)(lt:i<j):i+3<=j:=by
 induction l with
 |nil=>cases hi
 |cons a l ih =>
  have q:=Ri.mp h;rcases MD.mp hi with rfl|hi'
  ·rcases MD.mp hj with rfl|hj'
   ·lia
   ·exact q.1 j hj'
  ·rcases MD.mp hj with rfl|hj'
   ·have:=q.1 i hi';lia
   ·exact ih q.2 hi' hj'
theorem m_{ps:List Str}(hp:∀p∈ps,43∉cl p):Apart (OD pls ps) pls:=fun i j hi hj lt=>by
 rw[o9];exact q_ (uj ps) (uE hp hi) (uE hp hj) lt
theorem vM:∀(ps:List Str) (a:Str),ps≠[]->NL (a++OD pls ps) 3 a.length ((pos ps).map (· + a.length))=ps
 |[],_,h=>absurd rfl h
 |[p],a,_=>by
  show[strSub (a++p) a.length (a++p).length]=[p]
  have:=di a NC p
  rw[Str.append_empty] at this;rw[show a.length+NC.length=a.length from Um _] at this;rw[this]
 |p :: q :: r,a,_=>by
  show strSub (a++OD pls (p :: q :: r)) a.length (p.length+a.length) :: NL (a++OD pls (p :: q :: r)) 3 (p.length+a.length+3) (((pos (q :: r)).map (· + (p.length+3))).map (· + a.length))=_
  have e1:a++OD pls (p :: q :: r)=(a++p++pls)++OD pls (q :: r):=by
   rw[Df];simp only[WU]
  have ih:=vM (q :: r) (a++p++pls) (by simp);have l:(a++p++pls).length=p.length+a.length+3:=by rw[Nb,Nb,o9];lia
  rw[l] at ih
  have e2:((pos (q :: r)).map (· + (p.length+3))).map (· + a.length)=(pos (q :: r)).map (· + (p.length+a.length+3)):=by
   rw[PX];exact R_ fun x _=>by show x+(p.length+3)+a.length=x+(p.length+a.length+3);lia
  rw[e1,e2,ih];congr 1;refine sr ?_;show(strSub ((a++p++pls)++OD pls (q :: r)) a.length (p.length+a.length)).cps.toList=_;rw[RD];show((cl ((a++p++pls)++OD pls (q :: r))).drop a.length).take (p.length+a.length-a.length)=cl p;rw[bo,bo,bo,N6,N6,<- bY a,Vi,Nat.add_sub_cancel,<- bY p,Vh]
theorem mG{ps:List Str}(hp:∀p∈ps,43∉cl p)(ne:ps≠[]):NL (OD pls ps) pls.length 0 (iV (OD pls ps) pls)=ps:=by
 have h:=vM ps NC ne;rw[O6] at h;rw[CQ hp,o9]
 have e:(pos ps).map (· + NC.length)=pos ps:=by
  rw[show(fun x=>x+NC.length)=id from funext fun x=>Um x,List.map_id]
 rw[e] at h;exact h
end Tp2
namespace Md
open PySem L2 Fr G1 Sm Vs
open PySem.W (Dat kqdOk kqdP kqdPs)
theorem Hv(n:Nat):(Nq n true).all id=true:=by
 rw[NK];intro x hx;rw[(V7.mp hx).2];rfl
theorem Ak{Q:VK}{i j:Str}(h:Q (.bl (!decide (j.cps.toList<i.cps.toList))) H):uf (.str i) (.str j) H Q:=⟨i,j,rfl,rfl,h⟩
theorem yA{c d:Nat}(h:d<=c) : ¬ (([c]:List Nat) < [d]):=by
 rw[UJ];rintro(z|⟨_,z⟩)
 ·lia
 ·cases z
end Md
namespace Tr2
open PySem L2 Fr G1 Sm Vs Tw Tp2 Md Tr
open PySem.W (Dat kqdOk)
open PySem.Builtin.Str (strSub)
def Lt(s:Str):Prop:=∀c∈cl s,97<=c/\c<=122
def Hs(s:Str):Prop:=∀c∈cl s,(97<=c/\c<=122)\/c=48\/c=50\/c=51\/c=32\/c=43
def Ps(s:Str):Prop:=∀c∈cl s,(97<=c/\c<=122)\/c=48\/c=50\/c=51\/c=32
theorem Ps.app(h1:Ps a)(h2:Ps b):Ps (a++b):=fun c hc=>by
 rw[bo] at hc;rcases Ni.mp hc with h|h
 ·exact h1 c h
 ·exact h2 c h
theorem Hs.app(h1:Hs a)(h2:Hs b):Hs (a++b):=fun c hc=>by
 rw[bo] at hc;rcases Ni.mp hc with h|h
 ·exact h1 c h
 ·exact h2 c h
theorem Ps.hs(h:Ps s):Hs s:=fun c hc=>by have:=h c hc;lia
theorem Lt.ps(h:Lt s):Ps s:=fun c hc=>.inl (h c hc)
theorem Az:∀{ps:List Str},(∀p∈ps,Ps p)->Hs (OD pls ps)
 |[],_=>fun c hc=>by rw[show cl (OD pls [])=[] by decide +kernel] at hc;cases hc
 |[p],h=>(h p MM).hs
 |p :: q :: r,h=>by
  rw[Df];refine((h p MM).hs.app ?_).app (Az fun x hx=>h x (MO _ hx));intro c hc;rw[zo] at hc;simp only[MD,MF,or_false] at hc;lia
theorem vo(l:List Str):Wp " + " l=OD pls l:=by first|exact UK _ _|exact Str.glued_eq_join _ _
theorem vH{n:Int}(hw:Lt w)(h0:0<n)(h3:n<=3):Ps (bK w n):=by
 have d2:Ps ("2 ":Str):=fun c hc=>by
  rw[show cl ("2 ":Str)=[50,32] by decide +kernel] at hc;simp only[MD,MF,or_false] at hc;lia
 have d3:Ps ("3 ":Str):=fun c hc=>by
  rw[show cl ("3 ":Str)=[51,32] by decide +kernel] at hc;simp only[MD,MF,or_false] at hc;lia
 rcases three h0 h3 with rfl|rfl|rfl
 ·rw[i6];exact hw.ps
 ·rw[j8];exact d2.app hw.ps
 ·rw[j7];exact d3.app hw.ps
theorem cJ{ws:List Str}{h:List Int}(ow:∀w∈ws,Lt w)(oh:∀x∈h,0<=x/\x<=3):Hs (bF ws h):=by
 unfold bF;split
 ·intro c hc;rw[show cl ("0":Str)=[48] by decide +kernel] at hc;simp only[MD,MF,or_false] at hc;lia
 ·rw[vo];refine Az fun p hp=>?_
  obtain⟨q,hq,e⟩:=N9.mp hp;obtain⟨m1,m2⟩:=OU (a:=q.1) (b:=q.2) hq;by_cases z:0<q.2
  ·rw[if_pos z] at e;cases MY e;exact vH (ow _ m1) z (oh _ m2).2
  ·rw[if_neg z] at e;cases e
abbrev Key:=Int ⊕ Str
abbrev Pt:=Str×Str×Int
def fF(L:List Pt):List (Key×V):=L.foldl (fun kv t=>dm kv (.inr t.2.1) (.int t.2.2)) []
theorem rO(L:List Pt)(t:Pt):fF (L++[t])=dm (fF L) (.inr t.2.1) (.int t.2.2):=by unfold fF;rw[WB];rfl
theorem pL{L:List Pt}{i:Nat}{t:Pt}(e:L[i]?=some t):fF (L.take (i+1))=dm (fF (L.take i)) (.inr t.2.1) (.int t.2.2):=by
 rw[Nx,e];exact rO _ _
theorem Gc{kv:List (Key×V)}{k:Key}{v:V}:(dm kv k v).length<=kv.length+1:=by
 unfold dm;split
 ·rw[Mv];lia
 ·rw[M3];exact MB _
theorem rN(L:List Pt):∀i,(fF (L.take i)).length<=i
 |0=>MB _
 |i+1=>by
  cases e:L[i]? with
  |none=>rw[Nx,e,show(none:Option Pt).toList=[] from rfl,OT];have:=rN L i;lia
  |some t=>rw[pL e];have:=rN L i;have:=Gc (kv:=fF (L.take i)) (k:=.inr t.2.1) (v:=.int t.2.2);lia
theorem Ab{w:Str}:∀{L:List Pt},(∀t∈L,t.2.1≠w)->∀kv:List (Key×V),cq kv (.inr w)=none->cq (L.foldl (fun kv t=>dm kv (.inr t.2.1) (.int t.2.2)) kv) (.inr w)=none
 |[],_,kv,h=>h
 |t :: L,ne,kv,h=>by
  refine Ab (fun x hx=>ne x (MO _ hx)) _ ?_;rw[nN,if_neg (fun z=>ne t MM (WW z).symm)];exact h
theorem Ac{w:Str}{v:V}:∀{L:List Pt},(∀t∈L,t.2.1≠w)->∀kv:List (Key×V),cq kv (.inr w)=some v->cq (L.foldl (fun kv t=>dm kv (.inr t.2.1) (.int t.2.2)) kv) (.inr w)=some v
 |[],_,kv,h=>h
 |t :: L,ne,kv,h=>by
  refine Ac (fun x hx=>ne x (MO _ hx)) _ ?_;rw[nN,if_neg (fun z=>ne t MM (WW z).symm)];exact h
theorem Aa{w:Str}{n:Int}{p:Str}:∀{L:List Pt},(L.map (·.2.1)).Nodup->(p,w,n)∈L->∀kv:List (Key×V),cq (L.foldl (fun kv t=>dm kv (.inr t.2.1) (.int t.2.2)) kv) (.inr w)=some (.int n)
 |t :: L,nd,m,kv=>by
  rw[Nm,NE] at nd;rcases MD.mp m with rfl|m
  ·refine Ac (fun x hx z=>nd.1 (MR.mpr ⟨x,hx,z⟩)) _ ?_;rw[nN,if_pos rfl]
  ·exact Aa nd.2 m _
def pz(ws:List Str)(h:List Int):List (Str×Int):=(ws.zip h).filter fun p=>decide (0<p.2)
theorem g9(ws:List Str)(h:List Int):ba ws h=(pz ws h).map fun p=>bK p.1 p.2:=by
 unfold ba pz
 induction ws.zip h with
 |nil=>rfl
 |cons q r ih =>
  rw[Oh,QY];by_cases z:0<q.2
  ·rw[if_pos z,if_pos (decide_eq_true z),Nm,ih]
  ·rw[if_neg z,if_neg (by simpa using z),ih]
def b4 (ws:List Str) (h:List Int):List Pt:=if ba ws h=[] then [("0","0",1)] else (pz ws h).map fun p=>(bK p.1 p.2,p.1,p.2)
theorem GG:∀{ws:List Str} {h:List Int},ws.Nodup->((pz ws h).map (·.1)).Nodup:=by
 intro ws
 induction ws with
 |nil=>intro h _;exact Pa
 |cons w ws ih =>
  intro h nd;rw[NE] at nd;cases h with
  |nil=>exact Pa
  |cons n h =>
   show(((w,n) :: ws.zip h).filter _ |>.map _).Nodup;rw[QY];split
   ·rw[Nm,NE];refine⟨fun z=>?_,ih nd.2⟩;obtain⟨q,hq,e⟩:=MR.mp z;have m:=(Oq.mp hq).1;obtain⟨m1,_⟩:=OU (a:=q.1) (b:=q.2) m;exact nd.1 (by rw[<- show q.1=w from e];exact m1)
   ·exact ih nd.2
theorem uK{ws:List Str}{h:List Int}(nd:ws.Nodup)(ow:∀w∈ws,Lt w)(oh:∀x∈h,0<=x){i:Nat}{w:Str}{n:Int}(ew:ws[i]?=some w)(en:h[i]?=some n):(cq (fF (b4 ws h)) (.inr w)).getD (.int 0)=.int n:=by
 have mz:(w,n)∈ws.zip h:=MH (i:=i) (by rw[OV];exact⟨ew,en⟩)
 have keyAt:∀q∈ws.zip h,q.1=w->q.2=n:=by
  intro q hq e;obtain⟨j,hj⟩:=Vj hq;obtain⟨j1,j2⟩:=OV.mp hj
  have:i=j:=jN nd ew (by rw[<- e];exact j1)
  subst this;rw[en] at j2;exact(MY j2).symm
 by_cases z:0<n
 ·have m:(w,n)∈pz ws h:=Oq.mpr ⟨mz,decide_eq_true z⟩;have ne:ba ws h≠[]:=by rw[g9];intro e;rw[OR.mp e] at m;cases m
  have:=Aa (w:=w) (n:=n) (p:=bK w n) (L:=b4 ws h) (by
   unfold b4;rw[if_neg ne,PX];exact GG nd) (by
   unfold b4;rw[if_neg ne];exact MR.mpr ⟨_,m,rfl⟩) []
  unfold fF;rw[this];rfl
 ·have n0:n=0:=by have:=oh n (MH en);lia
  subst n0
  have:=Ab (w:=w) (L:=b4 ws h) (by
   intro t ht e
   unfold b4 at ht
   split at ht
   ·rw[MK.mp ht] at e
    have hz:=ow w (MH ew) 48 (by rw[<- e];rw[show cl (("0",("0":Str),(1:Int)):Pt).2.1=[48] by decide +kernel];exact MM)
    lia
   ·obtain⟨q,hq,rfl⟩:=MR.mp ht
    obtain⟨mq,pq⟩:=Oq.mp hq
    have:=keyAt q mq e
    have:=of_decide_eq_true pq
    lia) [] rfl
  unfold fF;rw[this];rfl
def kvPW:List (Key×V):=[(.inr "",.int 1),(.inr "2",.int 2),(.inr "3",.int 3)]
inductive sN:Str->Str->Int->Prop
 |one {w:Str}:32∉cl w->sN w w 1
 |two {w:Str}:32∉cl w->sN (("2":Str) ++ " " ++ w) w 2
 |three {w:Str}:32∉cl w->sN (("3":Str) ++ " " ++ w) w 3
theorem iW(h:Lt w):32∉cl w:=fun z=>by have:=h 32 z;lia
theorem im{ws:List Str}{h:List Int}(ow:∀w∈ws,Lt w/\w.length<=8)(oh:∀x∈h,0<=x/\x<=3):∀t∈b4 ws h,sN t.1 t.2.1 t.2.2/\t.1.length<=10/\43∉cl t.1:=by
 intro t ht;unfold b4 at ht;split at ht
 ·rw[MK.mp ht];exact⟨.one (by decide +kernel),by decide +kernel,by decide +kernel⟩
 ·obtain⟨q,hq,rfl⟩:=MR.mp ht;obtain⟨mq,pq⟩:=Oq.mp hq;obtain⟨m1,m2⟩:=OU (a:=q.1) (b:=q.2) mq;obtain⟨lw,l8⟩:=ow _ m1;have q0:=of_decide_eq_true pq;have q3:=(oh _ m2).2;have Z9:43∉cl (bK q.1 q.2):=fun z=>by have:=vH lw q0 q3 43 z;lia
  refine⟨?_,mF l8 q0 q3,Z9⟩;show sN (bK q.1 q.2) q.1 q.2;rcases three q0 q3 with e|e|e
  ·rw[e,i6];exact .one (iW lw)
  ·rw[e,j8,show("2 ":Str)=("2":Str) ++ " " by decide +kernel];exact .two (iW lw)
  ·rw[e,j7,show("3 ":Str)=("3":Str) ++ " " by decide +kernel];exact .three (iW lw)
theorem ic:bF ws h=OD pls ((b4 ws h).map (·.1)):=by
 unfold bF b4;split
 ·rfl
 ·rw[vo,g9,PX];rfl
theorem g_:b4 ws h≠[]:=by
 unfold b4;split
 ·simp
 ·rename_i z;intro e;rw[g9] at z;exact z (by rw[OR.mp e];rfl)
theorem iQ{ws:List Str}(l5:ws.length<=5):(b4 ws h).length<=5:=by
 unfold b4;split
 ·show 1<=5;decide
 ·rw[Mv];refine Np (UF _ _) ?_;rw[Rf];lia
theorem Dl(h:Hs s):s.cps.all (· < 128)=true:=by
 rw[NY];intro c hc
 have:=h c (by simpa using hc)
 exact decide_eq_true (by lia)
def WdOk(ws:List Str):Prop:=ws.Nodup/\ws.length<=5/\∀w∈ws,Lt w/\w.length<=8
theorem WdOk.lt(h:WdOk ws):∀w∈ws,Lt w:=fun w hw=>(h.2.2 w hw).1
theorem WdOk.ok(h:WdOk ws):WsOk ws:=⟨h.2.1,fun w hw=>⟨(h.2.2 w hw).2,by
 unfold O8
 rw[NY]
 intro c hc
 have:=(h.2.2 w hw).1 c (by simpa using hc)
 exact decide_eq_true (by lia)⟩⟩
def oM(K:Fg):Sp:=fun vs H Q _=>∃(v:V) (ws:List Str) (h:List Int),vs=[v,.str (bF ws h)]/\Rz K H v (.tuple (ws.map Nw))/\WdOk ws/\bi ws.length h/\∀(p:Addr) (H':Hp),Same H H'->Rz K H' (.ref p) (dI h)->Q (.ref p) H'
def Ko(d:Addr)(H H':Hp):Prop:=∀b o,b≠d->H b=some o->H' b=some o
theorem C8{Q:VK}{i j:Str}(h:Q (.bl (!decide (i=j))) H):Bp (.str i) (.str j) H Q:=⟨rfl,by
 by_cases e:i=j
 ·subst e;simpa using h
 ·simpa[e] using h⟩
theorem KW:cq kvPW (.inr "")=some (.int 1):=by rfl
theorem KU:cq kvPW (.inr "2")=some (.int 2):=by rfl
theorem KS:cq kvPW (.inr "3")=some (.int 3):=by rfl
theorem Bd:(cl (" ":Str))[0]?=some 32:=by decide +kernel
theorem FD{K:Fg} {H:Hp} {Q:VK}   (c:sN s w n) (l:s.length<=10) (k:∀p u,H p=none->cq kvPW (.inr u)=some (.int n)->∀m,Q (.ref p) (upd H p (.tup [.str u,m,.str w]))):zc (.str s) [.str " "] H Q:=by
 have hs:s.length<=sizeLine:=by have:(10:Nat)<=sizeLine:=(by decide);lia
 refine⟨s," ",rfl,rfl,by decide +kernel,hs,?_⟩;cases c with
 |one h=>exact .inr ⟨GF Bd h,fun p np=>k p "" np KW _⟩
 |two h =>
  refine .inl ⟨("2":Str).length,eT _ _ _,IV Bd (by decide +kernel) h,fun p np=>?_⟩;rw[cV,di];exact k p "2" np KU _
 |three h =>
  refine .inl ⟨("3":Str).length,eT _ _ _,IV Bd (by decide +kernel) h,fun p np=>?_⟩;rw[cV,di];exact k p "3" np KS _
def tE(K:Fg):TS:=(ar (aQ Eb (aJ 2))
 (ar (fw (k9 K (j4 K "str" Eh (ac 1) (ag (tC (.str " + ")) am))) (aJ 3)
 (ar (aQ (j4 K "str" zc (ac 3) (ag (tC (.str " ")) am)) (aJ 4))
 (yL (ac 2) (aA (bB K) (ac 4) (tC (.int 2))) (Fo kvPW (aA (bB K) (ac 4) (tC (.int 0))) (tC (.int 0))))))
 (aU (bQ (fA K) (ag (fh (mr K (ac 0)) (Ec (ac 3) (ac 0) (tC (.int 0)))) am)))))
theorem Ci{K:Fg}{N:List Str}(hN:N.length=5)(h:oM K vs H Q E):tE K (ends Q) (L2.start N vs) H:=by
 obtain⟨v,ws,h,rfl,rv,ow,oh,k⟩:=h;obtain⟨a,rfl,ha⟩:=JV rv;rw[L2.bv hN];walk_at "t";have o3:∀x∈h,0<=x/\x<=3:=oh.2;have cp:=im ow.2.2 o3;have hj:=ic (ws:=ws) (h:=h)
 have Z9:∀p∈(b4 ws h).map (·.1),43∉cl p:=fun p hp=>by
  obtain⟨t,ht,rfl⟩:=MR.mp hp;exact(cp t ht).2.2
 have lH:=dL ow.ok o3;have asc:=Dl (cJ ow.lt o3);have l5:=iQ (h:=h) ow.2.1;have neL:=g_ (ws:=ws) (h:=h)
 have kvw:∀i w,ws[i]?=some w->∃n,h[i]?=some n/\(cq (fF (b4 ws h)) (.inr w)).getD (.int 0)=.int n:=fun i w ew=>by
  have li:i<h.length:=by rw[oh.1];exact(My.mp ew).1
  exact⟨_,Mw li,uK ow.1 ow.lt (fun x hx=>(o3 x hx).1) ew (Mw li)⟩
 generalize b4 ws h=L at cp hj Z9 l5 neL kvw;rw[hj] at lH asc ⊢;unfold tE;walk_at "";intro d nd;have Sd:=au nd (.dK []);have hd0:upd H d (.dK []) d=some (.dK (fF (L.take 0))):=ak;generalize upd H d (.dK [])=H1 at Sd hd0 ⊢;walk_at "";refine⟨rfl,?_⟩;walk_at "";refine⟨_,pls,rfl,rfl,by decide +kernel,by lia,m_ Z9,asc,by decide +kernel,fun l nl=>?_⟩;rw[mG Z9 (by intro e;exact neL (OR.mp e))];have hl:upd H1 l (.lst ((L.map (·.1)).map V.str)) l=some (.lst ((L.map (·.1)).map V.str)):=ak;have S2:=Sd.trans (au nl (.lst ((L.map (·.1)).map V.str)));have hd2:upd H1 l (.lst ((L.map (·.1)).map V.str)) d=some (.dK (fF (L.take 0))):=(au nl _) _ _ hd0;have nld:l≠d:=fun z=>by rw[z,hd0] at nl;cases nl
 generalize upd H1 l (.lst ((L.map (·.1)).map V.str))=H2 at hl S2 hd2 ⊢;refine C3 (SqL.of hl) ?_;refine jP (xs:=(L.map (·.1)).map V.str) (fun i σ H3=>∃u3 u4:Option V,σ=[some (.ref a),some (.str (OD pls (L.map (·.1)))),some (.ref d),u3,u4]/\Ko d H2 H3/\H3 d=some (.dK (fF (L.take i)))) ⟨none,none,rfl,fun _ _ _ z=>z,hd2⟩ (fun i σ H3 _ ⟨_,_,_,B,_⟩=>SqL.of (B _ _ nld hl)) ?_ ?_
 ·rintro i y σ H3 e1 ⟨u3,u4,rfl,B3,hd3⟩;rw[ME,ME] at e1;obtain⟨z,e2,rfl⟩:=MI.mp e1;obtain⟨t,et,rfl⟩:=MI.mp e2;obtain⟨c1,c2,_⟩:=cp t (MH et);have li:=(My.mp et).1;walk_at "";refine⟨rfl,?_⟩;walk_at "";refine FD (K:=K) c1 c2 fun p u np pu m=>?_
  have hp:upd H3 p (.tup [.str u,m,.str t.2.1]) p=some (.tup [.str u,m,.str t.2.1]):=ak;have B4:Ko d H2 (upd H3 p (.tup [.str u,m,.str t.2.1])):=fun b o nb q=>(au np _) _ _ (B3 b o nb q)
  have hd4:upd H3 p (.tup [.str u,m,.str t.2.1]) d=some (.dK (fF (L.take i))):=(au np _) _ _ hd3;generalize upd H3 p (.tup [.str u,m,.str t.2.1])=H4 at hp B4 hd4 ⊢;walk_at "";unfold Fo;walk_at "";refine bI (SqT.of hp) (v:=.str u) rfl ?_;walk_at "";refine⟨.inr u,rfl,?_⟩;rw[pu];walk_at "";refine bI (SqT.of hp) (v:=.str t.2.1) rfl ?_;refine⟨d,_,rfl,DPut.k (k:=.inr t.2.1) hd4 ?_,?_⟩
  ·exact aX (by have:=rN L i;lia)
  ·exact⟨_,_,rfl,fun b o nb q=>by rw[av nb];exact B4 b o nb q,by rw[ak,pL et];rfl⟩
 ·rintro σ H3 ⟨u3,u4,rfl,B3,hd3⟩;rw[Mv,Mv,MV (MB _)] at hd3;have ha3:H3 a=some (.tup (ws.map V.str)):=B3 _ _ (aC ha nd) (S2 _ _ ha);have S3:Same H H3:=fun b o q=>B3 b o (aC q nd) (S2 b o q)
  walk_at "";refine⟨a,rfl,⟨_,SqT.of ha3⟩,?_⟩;refine f8 (xs:=ws.map V.str) fun D nD=>⟨fun i H4=>AccZ K H3 D H4 ((h.take i).map PV),by simpa using AccZ.start (Same.refl _) nD,fun i H4 _ A=>SqT.of (A.same _ _ ha3),?_,?_⟩
  ·intro i y H4 e1 A;have hi:i<(ws.map V.str).length:=(My.mp e1).1;rw[ME] at e1;obtain⟨w,ew,rfl⟩:=MI.mp e1;obtain⟨n,en,ev⟩:=kvw i w ew;walk_at "";refine⟨_,rfl,d,rfl,.inl ⟨_,.inl (A.same _ _ hd3)⟩,?_⟩;walk_at "";refine⟨_,DGet.k (k:=.inr w) (A.same _ _ hd3),?_⟩;rw[ev];refine cF hi (A.js (.int n) (aX (by rw[Mv,Ng];have:=oh.1;have:=ow.2.1;lia)) fun H5 A5=>?_);show AccZ K H3 D H5 ((h.take (i+1)).map PV);rw[Nx,en,M8];exact A5
  ·intro H4 A;rw[Mv,MV (by rw[oh.1];exact MB _)] at A;walk_at "";refine rT (SqL.of (AccZ.ints A)) fun p np=>?_
   exact k p _ (S3.trans (A.same.trans (au np _))) (.tup ak (RpL.ints _))
theorem ig(m:Nat):∀c∈cl (a7 (m:Int)),48<=c/\c<=57:=fun c hc=>by
 rw[show cl (a7 (m:Int))=_ from RE m] at hc;obtain⟨ch,hch,e⟩:=MR.mp hc;rw[<- e];exact PyProof.Rows.digit_range (Si (by decide) (by decide) hch)
theorem pQ(m:Nat):a7 (m:Int)≠("":Str):=fun z=>by
 have e:cl (a7 (m:Int))=[]:=by rw[z];decide +kernel
 rw[show cl (a7 (m:Int))=_ from RE m] at e;have h:=UG 10 m;rw[OR.mp e] at h;exact absurd h (by decide)
theorem Mc:(("0":Str)).cps.toList=[48]:=by decide +kernel
theorem Ma:(("9":Str)).cps.toList=[57]:=by decide +kernel
def vA(K:Fg):Sp:=fun vs H Q _=>∃n:Int,vs=[.str (a7 n)]/\0<=n/\n<=10000000000/\∀H',Same H H'->Q (.int n) H'
def xQ (K:Fg):TS:=(ar (a_ (xr (bq (aA jL (ac 0) (tC (.str "")))) (dA (tB (bQ (uh K) (ag (fh (Di (ac 0)) (gU uf uf (tC (.str "0")) (ac 0) (tC (.str "9")))) am)))))
 (aU (tC (.int 0)))
 bc)
 (aU (bQ Iq (ag (ac 0) am))))
theorem FO{K:Fg}{N:List Str}(hN:N.length=1)(h:vA K vs H Q E):xQ K (ends Q) (L2.start N vs) H:=by
 obtain⟨n,rfl,n0,n1,k⟩:=h;rw[L2.bv hN];walk_at "t";obtain⟨ir,il⟩:=Av n0 n1;have l11:=Tw.dY n0 n1;obtain⟨m,rfl⟩:=Rs n0;have dg:=ig m;have ne:=pQ m;unfold xQ;walk_at "";rw[decide_eq_false ne];walk_at ""
 have asc:(a7 (m:Int)).cps.all (· < 128)=true:=by
  rw[NY];intro c hc
  have:=dg c (by simpa using hc)
  exact decide_eq_true (by lia)
 refine⟨_,rfl,asc,?_⟩;have sz:(a7 (m:Int)).cps.size<=11:=l11;refine wk fun D nD=>⟨fun j H3=>AccZ K H D H3 ((Nq j true).map Rb),AccZ.start (Same.refl _) nD,?_,?_⟩
 ·intro i c H2 hc A;have lc:=dg c (MH (by rw[NM];exact hc));have hi:i<(a7 (m:Int)).cps.size:=(NR.mp hc).1;walk_at "";refine Ak ?_;rw[Mc];walk_at "";refine bP (fun _=>?_) (fun z=>absurd z (yA lc.1));walk_at "";refine Ak ?_;rw[Ma,decide_eq_false (yA lc.2)];exact DM (H0:=H) (by lia) hi (fun _ _=>Iff.rfl) A (Same.refl _)
 ·intro H2 A;walk_at "";refine rW (AccZ.bls A) ?_;rw[Hv];walk_at "";exact⟨_,_,rfl,ir,il,k H2 A.same⟩
def tN(K:Fg):Sp:=fun vs H Q _=>∃q d:Int,vs=[.str (bH q d)]/\jh q d/\∀(p:Addr) (H':Hp),Same H H'->Rz K H' (.ref p) (dI [q,d])->Q (.ref p) H'
theorem wF:(cl ("/":Str))[0]?=some 47:=by decide +kernel
theorem rH{n:Int}(n0:0<=n):47∉cl (a7 n):=fun z=>by
 obtain⟨m,rfl⟩:=Rs n0
 have:=ig m 47 z;lia
theorem kK{n:Int}(h0:0<n)(h1:n<=10000000000):n.natAbs<2 ^ 8000:=Nc (show n.natAbs<2 ^ 34 by lia) (QR (by decide) (by decide))
theorem CJ(h:jh q d):dI [q,d]=Tr.dQ (RN q d):=by
 obtain⟨_,d0,g,_,_⟩:=h;obtain⟨e1,e2⟩:=zV (t:=q) (b:=d) (q:=q) (d:=d) (by lia) ⟨d0,g,rfl⟩;unfold Tr.dQ;rw[<- e1,<- e2]
def xP(K:Fg):TS:=(a_ (xr (bq (aA jL (ac 2) (tC (.int 0)))) (bq (aA jL (ac 3) (tC (.int 0)))))
 (aU (tC .non))
 bc)
def tm (K:Fg):TS:=(ar (aQ (j4 K "str" Cu (ac 0) (ag (tC (.str "/")) am)) (aJ 1))
 (ar (aQ (aW (vA K) [] E0 (ag (aA (bB K) (ac 1) (tC (.int 0))) am)) (aJ 2))
 (ar (aQ (Kz (bq (aA jL (aA (bB K) (ac 1) (tC (.int 1))) (tC (.str "")))) (tC (.int 1)) (aW (vA K) [] E0 (ag (aA (bB K) (ac 1) (tC (.int 2))) am))) (aJ 3))
 (ar (xP K)
 (aU (aW (oN K) [] E0 (ag (ac 2) (ag (ac 3) am))))))))
theorem Cc{K:Fg}{N:List Str}(hN:N.length=4)(h:tN K vs H Q E):tm K (ends Q) (L2.start N vs) H:=by
 obtain⟨q,d,rfl,po,k⟩:=h;rw[L2.bv hN];walk_at "t";have lp:=hG po;obtain⟨q0,d0,g1,q1,d1⟩:=id po;have hz:(bH q d).length<=sizeLine:=by rw[Tw.szL];lia
 have rest:∀(p:Addr) (H2:Hp) (σ:St),Same H H2->σ=[some (.str (bH q d)),some (.ref p),some (.int q),some (.int d)] ->
   (ar (xP K)
    (aU (aW (oN K) [] E0 (ag (ac 2) (ag (ac 3) am))))) (ends Q) σ H2:=by
  rintro p H2 σ S2 rfl;walk_at "";unfold xP;walk_at "";refine bL (fun z=>absurd z (by lia)) (fun _=>?_);walk_at "";refine bL (fun z=>absurd z (by lia)) (fun _=>?_);walk_at "";refine⟨q,d,rfl,by lia,kK q0 q1,kK d0 d1,fun o H3 S3 r3=>k o H3 (S2.trans S3) ?_⟩;rw[CJ po];exact r3
 unfold tm;walk_at "";refine⟨rfl,?_⟩;walk_at "";refine⟨_,"/",rfl,rfl,by decide +kernel,hz,?_⟩;by_cases e1:d=1
 ·refine .inr ⟨?_,fun p np=>?_⟩
  ·rw[show bH q d=a7 q from if_pos e1];exact GF wF (rH (by lia))
  ·have hp:upd H p (.tup [.str (bH q d),.str NC,.str NC]) p=some (.tup [.str (bH q d),.str NC,.str NC]):=ak;have S1:=au np (.tup [.str (bH q d),.str NC,.str NC]);generalize upd H p (.tup [.str (bH q d),.str NC,.str NC])=H1 at hp S1 ⊢;walk_at "";refine bI (SqT.of hp) (v:=.str (bH q d)) rfl ?_;walk_at "";refine⟨q,by rw[show bH q d=a7 q from if_pos e1];rfl,by lia,q1,fun H2 S2=>?_⟩;walk_at "";refine bI (SqT.of (S2 _ _ hp)) (v:=.str NC) rfl ?_;walk_at "";rw[show decide (NC=("":Str))=true by decide +kernel];walk_at "";refine rest p H2 _ (S1.trans S2) ?_;rw[e1];rfl
 ·have ep:bH q d=a7 q ++ "/" ++ a7 d:=by
   unfold bH;rw[if_neg e1,O6]
  refine .inl ⟨(a7 q).length,?_,?_,fun p np=>?_⟩
  ·rw[ep];exact eT _ _ _
  ·rw[ep];exact JM wF (rH (by lia))
  ·have es1:strSub (bH q d) 0 (a7 q).length=a7 q:=by rw[ep];exact cV _ _ _
   have es2:strSub (bH q d) ((a7 q).length+("/":Str).length) (bH q d).length=a7 d:=by rw[ep];exact di _ _ _
   rw[es1,es2];have hp:upd H p (.tup [.str (a7 q),.str "/",.str (a7 d)]) p=some (.tup [.str (a7 q),.str "/",.str (a7 d)]):=ak;have S1:=au np (.tup [.str (a7 q),.str "/",.str (a7 d)]);generalize upd H p (.tup [.str (a7 q),.str "/",.str (a7 d)])=H1 at hp S1 ⊢;walk_at "";refine bI (SqT.of hp) (v:=.str (a7 q)) rfl ?_;walk_at "";refine⟨q,rfl,by lia,q1,fun H2 S2=>?_⟩;walk_at "";refine bI (SqT.of (S2 _ _ hp)) (v:=.str "/") rfl ?_;walk_at "";rw[show decide (("/":Str) = "")=false by decide +kernel];walk_at "";refine bI (SqT.of (S2 _ _ hp)) (v:=.str (a7 d)) rfl ?_;walk_at "";refine⟨d,rfl,by lia,d1,fun H3 S3=>?_⟩;exact rest p H3 _ (S1.trans (S2.trans S3)) rfl
def oF(K:Fg):Sp:=fun vs H Q _=>∃(v:V) (ws:List Str) (t:Tn),vs=[v,.str (turnT ws t)]/\Rz K H v (.tuple (ws.map Nw))/\WdOk ws/\TtOk ws t/\∀(p:Addr) (H':Hp),Same H H'->Rz K H' (.ref p) (dT t)->Q (.ref p) H'
theorem EW:(cl (" -> ":Str))[0]?=some 32:=by decide +kernel
theorem EV:(cl (" -> ":Str))[1]?=some 45:=by decide +kernel
theorem EU:(cl (" @ ":Str))[0]?=some 32:=by decide +kernel
theorem ET:(cl (" @ ":Str))[1]?=some 64:=by decide +kernel
theorem bN(ws:List Str) (t:Tn):turnT ws t=bF ws t.fr ++ " -> " ++ (bF ws t.to ++ " @ " ++ bH t.q t.d):=by
 unfold turnT;rw[O6];simp only[WU]
theorem xE(ow:WsOk ws)(ok:TtOk ws t):(turnT ws t).length<=200:=by
 have h1:=dL ow ok.1.2;have h2:=dL ow ok.2.1.2;have h3:=hG ok.2.2;rw[bN,Nb,Nb,Nb,Nb,pJ,zZ];lia
def nW (K:Fg):TS:=(ar (aQ (j4 K "str" Cu (ac 1) (ag (tC (.str " -> ")) am)) (aJ 2))
 (ar (aQ (j4 K "str" Cu (aA (bB K) (ac 2) (tC (.int 2))) (ag (tC (.str " @ ")) am)) (aJ 3))
 (ar (aQ (aW (tN K) [] E0 (ag (aA (bB K) (ac 3) (tC (.int 2))) am)) (aJ 4))
 (ar (a_ (bq (aA o5 (ac 4) (tC .non)))
 (aU (tC .non))
 bc)
 (ar (aQ (f_ (ag (aW (oM K) [] E0 (ag (ac 0) (ag (aA (bB K) (ac 2) (tC (.int 0))) am))) (ag (aW (oM K) [] E0 (ag (ac 0) (ag (aA (bB K) (ac 3) (tC (.int 0))) am))) (ag (ac 4) am)))) (aJ 5))
 (ar (a_ (bq (aA Bp (aW (oE K) [] E0 (ag (ac 0) (ag (ac 5) am))) (ac 1)))
 (aU (tC .non))
 bc)
 (aU (ac 5))))))))
theorem yT{K:Fg}{N:List Str}(hN:N.length=6)(h:oF K vs H Q E):nW K (ends Q) (L2.start N vs) H:=by
 obtain⟨v,ws,t,rfl,rv,ow,ok,k⟩:=h;rw[L2.bv hN];walk_at "t";have lt:=xE ow.ok ok;have sz:=Tw.szL;have Yb:=cJ ow.lt ok.1.2;have hs2:=cJ ow.lt ok.2.1.2;unfold nW;walk_at "";refine⟨rfl,?_⟩;walk_at "";refine⟨_," -> ",rfl,rfl,by decide +kernel,by lia,.inl ⟨(bF ws t.fr).length,?_,?_,fun p np=>?_⟩⟩
 ·rw[bN];exact eT _ _ _
 ·rw[bN];exact mU EW EV (fun z=>by have:=Yb 45 z;lia) (by decide)
 have es1:strSub (turnT ws t) 0 (bF ws t.fr).length=bF ws t.fr:=by rw[bN];exact cV _ _ _
 have es2:strSub (turnT ws t) ((bF ws t.fr).length+(" -> ":Str).length) (turnT ws t).length=bF ws t.to ++ " @ " ++ bH t.q t.d:=by rw[bN];exact di _ _ _
 rw[es1,es2];have hp:upd H p (.tup [.str (bF ws t.fr),.str " -> ",.str (bF ws t.to ++ " @ " ++ bH t.q t.d)]) p=some (.tup [.str (bF ws t.fr),.str " -> ",.str (bF ws t.to ++ " @ " ++ bH t.q t.d)]):=ak;have S1:=au np (.tup [.str (bF ws t.fr),.str " -> ",.str (bF ws t.to ++ " @ " ++ bH t.q t.d)]);generalize upd H p (.tup [.str (bF ws t.fr),.str " -> ",.str (bF ws t.to ++ " @ " ++ bH t.q t.d)])=H1 at hp S1 ⊢;walk_at "";refine bI (SqT.of hp) (v:=.str (bF ws t.to ++ " @ " ++ bH t.q t.d)) rfl ?_;refine⟨rfl,?_⟩;walk_at "";refine⟨_," @ ",rfl,rfl,by decide +kernel,?_,.inl ⟨(bF ws t.to).length,eT _ _ _,mU EU ET (fun z=>by have:=hs2 64 z;lia) (by decide),fun p2 np2=>?_⟩⟩
 ·rw[bN,Nb] at lt;lia
 rw[cV,di];have hp2:upd H1 p2 (.tup [.str (bF ws t.to),.str " @ ",.str (bH t.q t.d)]) p2=some (.tup [.str (bF ws t.to),.str " @ ",.str (bH t.q t.d)]):=ak;have S2:=au np2 (.tup [.str (bF ws t.to),.str " @ ",.str (bH t.q t.d)]);generalize upd H1 p2 (.tup [.str (bF ws t.to),.str " @ ",.str (bH t.q t.d)])=H2 at hp2 S2 ⊢;have S12:=S1.trans S2;walk_at "";refine bI (SqT.of hp2) (v:=.str (bH t.q t.d)) rfl ?_;walk_at "";refine⟨t.q,t.d,rfl,ok.2.2,fun p3 H3 S3 r3=>?_⟩;have S13:=S12.trans S3;walk_at "";rw[decide_eq_false (fun z:V.ref p3=V.non=>by cases z)];walk_at "";refine bI (SqT.of ((S2.trans S3) _ _ hp)) (v:=.str (bF ws t.fr)) rfl ?_;walk_at "";refine⟨v,ws,t.fr,rfl,rv.same S13,ow,ok.1,fun p4 H4 S4 r4=>?_⟩;walk_at "";refine bI (SqT.of ((S3.trans S4) _ _ hp2)) (v:=.str (bF ws t.to)) rfl ?_;walk_at "";refine⟨v,ws,t.to,rfl,rv.same (S13.trans S4),ow,ok.2.1,fun p5 H5 S5 r5=>?_⟩;walk_at "";refine⟨iK,fun p6 np6=>?_⟩;have S6:=au np6 (.tup [.ref p4,.ref p5,.ref p3]);have r6:Rz K (upd H5 p6 (.tup [.ref p4,.ref p5,.ref p3])) (.ref p6) (dT t):=.tup ak (.cons ((r4.same S5).same S6) (.cons (r5.same S6) (.cons (((r3.same S4).same S5).same S6) .nil)));generalize upd H5 p6 (.tup [.ref p4,.ref p5,.ref p3])=H6 at S6 r6 ⊢;have S16:=S13.trans (S4.trans (S5.trans S6));walk_at "";refine⟨v,.ref p6,ws,t,rfl,rv.same S16,r6,ow.ok,ok,fun H7 S7=>?_⟩;walk_at "";refine C8 ?_;rw[decide_eq_true rfl];walk_at "";exact k p6 H7 (S16.trans S7) (r6.same S7)
end Tr2
namespace Cm
end Cm
namespace Cg
end Cg
namespace Bg
end Bg
namespace Gu
end Gu
namespace L2
open PySem PySem.Spec PyProof.Rows
def F3:V->Option Int->Option Int->Hp->VK->Prop:=fun x lo hi H Q=>∃z,x=.str z/\z.length<=sizeLine/\Q (.str (Qd z lo hi)) H
theorem Fw:J7 X F3:=by
 intro ξ s σ H x v vl vu lo hi sl Q I rx hs pl pu h;obtain⟨z,rfl,hz,q⟩:=h;obtain⟨t,rfl⟩:=rx;refine⟨"str",_,SB.lookup,Qk _ _ _,?_⟩
 have fin:∀(l u:Option (Int×Tok)),l.map (·.1)=lo->u.map (·.1)=hi->(sliceMade z t l u none).post (EP X ξ σ Q) s:=by
  intro l u el eu
  have e:sliceMade z t l u none=if ((1:Int) == 1 && (M9 lo hi 1 z.length).length == z.length)=true then Made.val (.str z t) else .str ⟨((M9 lo hi 1 z.length).filterMap (z.cps[·]?)).toArray⟩:=by
   unfold sliceMade slicePicked;rw[el,eu];rfl
  rw[e];have lt:=Txt.slice_le z lo hi;unfold Qd at lt q;exact post_val_or_str ⟨Np lt hz,fun t' k=>⟨.str _,H,I.tok k,⟨t',rfl⟩,q⟩⟩
 cases pl with
 |none =>
  cases pu with
  |none=>exact NT (l:=none) (u:=none) (st:=none) hs rfl (fin none none rfl rfl)
  |int j tj=>exact NT (l:=none) (u:=some (j,tj)) (st:=none) hs rfl (fin none (some (j,tj)) rfl rfl)
 |int i ti =>
  cases pu with
  |none=>exact NT (l:=some (i,ti)) (u:=none) (st:=none) hs rfl (fin (some (i,ti)) none rfl rfl)
  |int j tj=>exact NT (l:=some (i,ti)) (u:=some (j,tj)) (st:=none) hs rfl (fin (some (i,ti)) (some (j,tj)) rfl rfl)
end L2
namespace Tg
open PySem L2 Tp2
open PySem.Builtin.Str (strSub)
theorem Ix(l:List Nat)(a:Nat):∀c,((N7 c).map (fun k=>a+k)).filterMap (l[·]?)=(l.drop a).take c
 |0=>rfl
 |c+1=>by rw[List.range_succ,M8,UL,Ix l a c,Nx,SH];cases e:l[a+c]? <;> simp[e]
theorem yu(s:Str)(lo hi:Option Int):∃a c,cl (Qd s lo hi)=((cl s).drop a).take c:=by
 unfold Qd;split
 ·exact⟨0,(cl s).length,by rw[SA,RL]⟩
 ·obtain⟨st,cc,e,h0⟩:∃(st:Int) (cc:Nat),M9 lo hi 1 s.length=(N7 cc).map (fun k:Nat=>(st+1*(k:Int)).toNat)/\0<=st:=by
   refine⟨_,_,rfl,?_⟩;cases lo with
   |none=>exact Int.le_refl _
   |some i=>simp only[show(1:Int) > 0 by decide,if_true];exact Int.le_max_left ..
  refine⟨st.toNat,cc,?_⟩;rw[e,show(fun k:Nat=>(st+1*(k:Int)).toNat)=fun k=>st.toNat+k from funext fun k=>by lia];show List.filterMap (fun x=>s.cps[x]?) _=_;rw[<- Ix];congr 1;funext x;exact(NM ..).symm
theorem yt(s:Str)(lo hi:Option Int):List.Sublist (cl (Qd s lo hi)) (cl s):=by
 obtain⟨a,c,e⟩:=yu s lo hi;rw[e];exact(SV _ _).trans (Wv _ _)
abbrev wQ(s y:Str):List Str:=NL s y.length 0 (xf s y)
theorem AW{a b a' b' y:Str}(h:a++y++b=a'++y++b')(h1:∀k,k<a.length->¬ gS (a++y++b) y k)(h2:∀k,k<a'.length->¬ gS (a'++y++b') y k):a=a'/\b=b':=by
 have o1:=eT a y b;have o2:=eT a' y b'
 have l:a.length=a'.length:=by
  rcases PZ a.length a'.length with l|l|l
  ·exact absurd (h ▸ o1) (h2 _ l)
  ·exact l
  ·exact absurd (h ▸ o2) (h1 _ l)
 have e1:=cV a y b;have e2:=di a y b;rw[h] at e1 e2;rw[l,cV] at e1;rw[l,di] at e2;exact⟨e1.symm,e2.symm⟩
theorem wg{y:Str}(hy:y.length≠0)(h:∀i,¬ gS z y i):wQ z y=[z]:=by
 have e:xf z y=[]:=by
  show Rt z y 0 z.length (z.length+1)=_;rw[pB (fun i j hi=>absurd hi (h i)) hy];exact RM.mpr fun i hi=>h i (jO.mp hi)
 show NL z y.length 0 (xf z y)=_;rw[e];show[strSub z 0 z.length]=_;rw[S0]
theorem DH{a b y:Str}(hy:y.length≠0)(h:∀k,gS (a++y++b) y k->k=a.length):wQ (a++y++b) y=[a,b]:=by
 have e:xf (a++y++b) y=[a.length]:=by
  show Rt _ y 0 _ _=_;rw[pB (fun i j hi hj lt=>absurd lt (by rw[h i hi,h j hj];lia)) hy];refine kf ((RA).filter _) (List.pairwise_singleton _ _) fun k=>?_
  rw[jO,MK];exact⟨h k,fun e=>by rw[e];exact eT a y b⟩
 show NL _ y.length 0 (xf _ y)=_;rw[e];show[strSub (a++y++b) 0 a.length,strSub (a++y++b) (a.length+y.length) (a++y++b).length]=_;rw[cV,di]
theorem Fv{c o:Nat}(hc:(cl y)[o]?=some c)(one:∀j,(cl y)[j]?=some c->j=o)(ha:c∉cl a)(hb:c∉cl b)(h:gS (a++y++b) y k):k=a.length:=by
 have g:=eU h hc;rw[bo,bo] at g;by_cases l1:k+o<(cl a).length
 ·rw[N6,Nu l1] at g;exact absurd (MH g) ha
 ·by_cases l2:k+o<(cl a).length+(cl y).length
  ·rw[Nu (by rw[M3];exact l2),Nr (by lia)] at g
   have:=one _ g
   have:=bY a
   lia
  ·rw[Nr (by rw[M3];lia)] at g;exact absurd (MH g) hb
theorem Fu{c o:Nat}(hc:(cl y)[o]?=some c)(hz:c∉cl z)(k:Nat) : ¬ gS z y k:=fun h=>hz (MH (eU h hc))
open PySem L2 Fr G1 Sm Vs Tw Tp2 Tr
open Tr2 (Lt Hs cJ iW ig pQ Mc Ma wF rH kvPW fF pL rN Pt Key b4 im ic g_ iQ uK WdOk sN Ko C8 Bd bN EW EV EU ET KW KU KS)
open PySem.W (Dat kqdOk)
def Big:Nat:=10 ^ 300
def val(s:Str):Nat:=NumText.digitsVal (cl s)
theorem vk(k:Nat):val (a7 k)=k:=by
 unfold val;rw[show cl (a7 (k:Int))=_ from RE k,PySem.W.KIN.val_back]
def va(q d:Int):Prop:=0<q/\0<d/\Gd.gd q d=1/\q<Big/\d<Big
theorem kB(h:va q d):∃i j:Nat,q=i/\d=j/\0<i/\0<j/\i<Big/\j<Big:=⟨q.toNat,d.toNat,by have:=h.1;lia,by have:=h.2.1;lia,by have:=h.1;lia,by have:=h.2.1;lia,by have:=h.1;have:=h.2.2.2.1;lia,by have:=h.2.1;have:=h.2.2.2.2;lia⟩
def TtG(ws:List Str)(t:Tn):Prop:=bi ws.length t.fr/\bi ws.length t.to/\va t.q t.d
end Tg
namespace Tg
open PySem L2 Fr G1 Sm Vs Tw Tp2 Tr
open Tr2 (Lt Hs cJ iW kvPW fF pL rN rO Pt b4 im ic g_ iQ uK WdOk sN Ko C8 Bd bN EW EV EU ET KW KU KS)
open PySem.W (Dat kqdOk)
open PySem.Builtin.Str (strSub)
theorem qX(ow:WdOk ws) (oh:bi ws.length h):wQ (bF ws h) " + "=(b4 ws h).map (·.1):=by
 have cp:=im ow.2.2 oh.2
 have Z9:∀p∈(b4 ws h).map (·.1),43∉cl p:=fun p hp=>by
  obtain⟨t,ht,rfl⟩:=MR.mp hp;exact(cp t ht).2.2
 show NL (bF ws h) pls.length 0 (xf (bF ws h) pls)=_;rw[ic];show NL _ pls.length 0 (Rt _ pls 0 _ _)=_;rw[pB (m_ Z9) (by decide +kernel)];exact mG Z9 fun e=>g_ (OR.mp e)
end Tg
namespace Tg
open PySem L2 Fr G1 Sm Vs Tw Tp2 Tr
open Tr2 (Lt Hs cJ WdOk C8 bN EW EV EU ET)
open Nv (StOk lM Plain AC okN gY)
open PySem.W (Dat kqdOk)
theorem HU{t u:Tn}(h1:t.fr=u.fr)(h2:t.to=u.to)(h3:t.q=u.q)(h4:t.d=u.d):t=u:=by
 cases t;cases u;simp only at h1 h2 h3 h4;subst h1 h2 h3 h4;rfl
end Tg
namespace Tg
open PySem L2 Fr G1 Sm Vs Tw Tp2 Tr
open Tr2 (Lt Hs cJ iW WdOk b4 g9 pz Ko)
open PySem.W (Dat kqdOk)
theorem qw{n n':Int}(hw:Lt w)(Z3:Lt w')(h0:0<n)(h3:n<=3)(h0':0<n')(h3':n'<=3)(e:bK w n=bK w' n'):w=w'/\n=n':=by
 have b2:∀u:Str,32∈cl (("2 ":Str)++u):=fun u=>by rw[bo];exact OJ _ (by decide +kernel)
 have b3:∀u:Str,32∈cl (("3 ":Str)++u):=fun u=>by rw[bo];exact OJ _ (by decide +kernel)
 have c2:cl ("2 ":Str)=[50,32]:=by decide +kernel
 have c3:cl ("3 ":Str)=[51,32]:=by decide +kernel
 rcases three h0 h3 with rfl|rfl|rfl <;> rcases three h0' h3' with rfl|rfl|rfl <;> simp only[i6,j8,j7] at e
 ·exact⟨e,rfl⟩
 ·exact absurd (e ▸ b2 w') (iW hw)
 ·exact absurd (e ▸ b3 w') (iW hw)
 ·exact absurd (e.symm ▸ b2 w) (iW Z3)
 ·have:=congrArg cl e
  rw[bo,bo] at this;exact⟨sr (TN this),rfl⟩
 ·have:=congrArg cl e
  rw[bo,bo,c2,c3] at this;cases this
 ·exact absurd (e.symm ▸ b3 w) (iW Z3)
 ·have:=congrArg cl e
  rw[bo,bo,c2,c3] at this;cases this
 ·have:=congrArg cl e
  rw[bo,bo] at this;exact⟨sr (TN this),rfl⟩
theorem mR{s:Str} (ow:WdOk ws) (oh:bi ws.length h) (e:bF ws h=s) (z:s≠"0"):ba ws h=wQ s " + ":=by
 have ne:ba ws h≠[]:=fun q=>z (by rw[<- e];exact if_pos q)
 rw[<- e,qX ow oh];unfold b4;rw[if_neg ne,g9,PX];rfl
end Tg
namespace Tg
open PySem L2 Fr G1 Sm Vs Tw Tp2 Tr
open Tr2 (Lt Hs cJ iW ig pQ rH wF WdOk bN)
open PySem.W (Dat kqdOk)
theorem H_:∀j,(cl ("/":Str))[j]?=some 47->j=0:=fun j h=>by
 have:=(My.mp h).1
 rw[show(cl ("/":Str)).length=1 by decide +kernel] at this;lia
theorem qW(h:va q d):(d=1/\wQ (bH q d) "/"=[a7 q])\/(d≠1/\wQ (bH q d) "/"=[a7 q,a7 d]):=by
 have q0:=h.1;have d0:=h.2.1;by_cases z:d=1
 ·refine .inl ⟨z,?_⟩;rw[show bH q d=a7 q from if_pos z];exact wg (by decide +kernel) (GF wF (rH (by lia)))
 ·refine .inr ⟨z,?_⟩;rw[show bH q d=a7 q ++ "/" ++ a7 d by unfold bH;rw[if_neg z,O6]];exact DH (by decide +kernel) fun k o=>Fv wF H_ (rH (by lia)) (rH (by lia)) o
end Tg
namespace Tg
open PySem L2 Fr G1 Sm Vs Tw Tp2 Tr
open Tr2 (Lt Hs cJ iW ig WdOk bN EW EV EU ET)
open PySem.W (Dat kqdOk)
theorem ky:∀{ws:List Str} {h h':List Int},ws.Nodup->(∀w∈ws,Lt w)->bi ws.length h->bi ws.length h'->ba ws h=ba ws h'->h=h'
 |[],h,h',_,_,o,o',_=>by rw[On.mp o.1,On.mp o'.1]
 |w :: ws,[],_,_,_,o,_,_=>by cases o.1
 |w :: ws,_ :: _,[],_,_,_,o',_=>by cases o'.1
 |w :: ws,n :: h,n' :: h',nd,lt,o,o',e=>by
  rw[NE] at nd;have on:=o.2 n MM;have on':=o'.2 n' MM;have oh:bi ws.length h:=⟨by have:=o.1;rw[Nl,Nl] at this;lia,fun x hx=>o.2 x (MO _ hx)⟩
  have oh':bi ws.length h':=⟨by have:=o'.1;rw[Nl,Nl] at this;lia,fun x hx=>o'.2 x (MO _ hx)⟩
  have un:∀n (h:List Int),ba (w :: ws) (n :: h)=(if 0<n then some (bK w n) else none).toList++ba ws h:=fun n h=>by
   unfold ba;rw[List.zip_cons_cons,Oh];split
   ·rename_i z;rw[z];rfl
   ·rename_i z;rw[z];rfl
  have far:∀n (h:List Int) (r:List Str),0<n->n<=3->bi ws.length h->bK w n :: r≠ba ws h:=fun n h r n0 n3 oh e=>by
   have m:bK w n∈ba ws h:=by rw[<- e];exact MM
   obtain⟨q,hq,eq⟩:=N9.mp m;obtain⟨m1,m2⟩:=OU (a:=q.1) (b:=q.2) hq;by_cases z:0<q.2
   ·rw[if_pos z] at eq
    have:=(qw (lt _ (MO _ m1)) (lt w MM) z (oh.2 _ m2).2 n0 n3 (MY eq)).1
    exact nd.1 (this ▸ m1)
   ·rw[if_neg z] at eq;cases eq
  rw[un,un] at e;by_cases z:0<n
  ·by_cases z':0<n'
   ·rw[if_pos z,if_pos z'] at e;have e':bK w n :: ba ws h=bK w n' :: ba ws h':=e;rw[Uv] at e';rw[(qw (lt w MM) (lt w MM) z on.2 z' on'.2 e'.1).2,ky nd.2 (fun x hx=>lt x (MO _ hx)) oh oh' e'.2]
   ·rw[if_pos z,if_neg z'] at e;exact absurd e (far n h' _ z on.2 oh')
  ·by_cases z':0<n'
   ·rw[if_neg z,if_pos z'] at e;exact absurd e.symm (far n' h _ z' on'.2 oh)
   ·rw[if_neg z,if_neg z'] at e;rw[show n=n' by lia,ky nd.2 (fun x hx=>lt x (MO _ hx)) oh oh' e]
theorem my(ow:WdOk ws) (oh:bi ws.length h) (e:bF ws h = "0"):ba ws h=[]:=by
 by_cases ne:ba ws h=[]
 ·exact ne
 ·have e2:=qX ow oh;rw[e,wg (by decide +kernel) (Fu (c:=43) (o:=1) (by decide +kernel) (by decide +kernel))] at e2;unfold Tr2.b4 at e2;rw[if_neg ne,PX] at e2;have m:("0":Str)∈(Tr2.pz ws h).map ((·.1)∘fun p=>(bK p.1 p.2,p.1,p.2)):=by rw[<- e2];exact MM
  obtain⟨q,hq,eq⟩:=MR.mp m;have hz:=(Oq.mp hq).1;have q0:=of_decide_eq_true (Oq.mp hq).2;obtain⟨m1,m2⟩:=OU (a:=q.1) (b:=q.2) hz;have s0:bK q.1 q.2 = "0":=eq;have lw:=(ow.2.2 _ m1).1;rcases three q0 (oh.2 _ m2).2 with z|z|z
  ·rw[z,i6] at s0
   have:=lw 48 (by rw[s0];decide +kernel)
   lia
  ·rw[z,j8] at s0
   have:=congrArg cl s0
   rw[bo,show cl ("2 ":Str)=[50,32] by decide +kernel,show cl ("0":Str)=[48] by decide +kernel] at this;cases this
  ·rw[z,j7] at s0
   have:=congrArg cl s0
   rw[bo,show cl ("3 ":Str)=[51,32] by decide +kernel,show cl ("0":Str)=[48] by decide +kernel] at this;cases this
theorem vY(ow:WdOk ws)(o:bi ws.length h)(o':bi ws.length h')(e:bF ws h=bF ws h'):h=h':=by
 refine ky ow.1 ow.lt o o' ?_;by_cases z:bF ws h' = "0"
 ·rw[my ow o' z,my ow o (e.trans z)]
 ·rw[mR ow o e z,mR ow o' rfl z]
theorem pR{a b:Nat}(h:a7 (a:Int)=a7 (b:Int)):a=b:=by rw[<- vk a,h,vk]
theorem CK(o:va q d)(o':va q' d')(e:bH q d=bH q' d'):q=q'/\d=d':=by
 have h:=qW o;have h':=qW o';rw[e] at h;obtain⟨a,b,rfl,rfl,_⟩:=kB o;obtain⟨a',b',rfl,rfl,_⟩:=kB o';rcases h with⟨z,h⟩|⟨z,h⟩ <;> rcases h' with⟨z',h'⟩|⟨z',h'⟩ <;> rw[h] at h'
 ·rw[pR (Po h').1];exact⟨rfl,z.trans z'.symm⟩
 ·exact absurd (congrArg QI h') (by simp)
 ·exact absurd (congrArg QI h') (by simp)
 ·rw[Uv,Uv] at h';rw[pR h'.1,pR h'.2.1];exact⟨rfl,rfl⟩
theorem vq(ow:WdOk ws)(o:TtG ws t)(o':TtG ws t')(e:turnT ws t=turnT ws t'):t=t':=by
 rw[bN,bN] at e;have n45:∀{u:Tn},TtG ws u->45∉cl (bF ws u.fr):=fun o z=>by have:=cJ ow.lt o.1.2 45 z;lia
 have n64:∀{u:Tn},TtG ws u->64∉cl (bF ws u.to):=fun o z=>by have:=cJ ow.lt o.2.1.2 64 z;lia
 obtain⟨e1,e2⟩:=AW e (mU EW EV (n45 o) (by decide)) (mU EW EV (n45 o') (by decide));obtain⟨e3,e4⟩:=AW e2 (mU EU ET (n64 o) (by decide)) (mU EU ET (n64 o') (by decide));obtain⟨e5,e6⟩:=CK o.2.2 o'.2.2 e4;exact HU (vY ow o.1 o'.1 e1) (vY ow o.2.1 o'.2.1 e3) e5 e6
theorem Gq(h:va q d):∀c∈cl (bH q d),47<=c/\c<=57:=by
 obtain⟨a,b,rfl,rfl,_⟩:=kB h;intro c hc;unfold bH at hc;split at hc
 ·have:=ig a c hc;lia
 ·rw[O6,bo,bo] at hc;rcases Ni.mp hc with z|z
  ·rcases Ni.mp z with z|z
   ·have:=ig a c z;lia
   ·rw[show cl ("/":Str)=[47] by decide +kernel,MK] at z;lia
  ·have:=ig b c z;lia
end Tg
namespace Tg
open PySem L2 Fr G1 Sm Vs Tw Tp2 Tr
open Tr2 (Lt Hs cJ WdOk bN)
open PySem.W (Dat kqdOk)
def fW(K:Fg):Sp:=fun vs H Q _=>∃(a:Addr) (v2:V) (ws:List Str) (h:List Int),vs=[.ref a,v2]/\H a=some (.lst (ws.map V.str))/\Rz K H v2 (dI h)/\WsOk ws/\bi ws.length h/\∀H',Same H H'->Q (.str (bF ws h)) H'
def jJ(K:Fg):Sp:=fun vs H Q _=>∃(a:Addr) (v2:V) (ws:List Str) (t:Tn),vs=[.ref a,v2]/\H a=some (.lst (ws.map V.str))/\Rz K H v2 (dT t)/\WsOk ws/\TtOk ws t/\∀H',Same H H'->Q (.str (turnT ws t)) H'
def jW(K:Fg):TS:=(ar (aQ (cz am) (aJ 2))
 (ar (fw (k8 (ag (bQ (b8 K) (ag (ac 0) am)) am)) (aJ 3)
 (a_ (bq (aA F_ (aA (bB K) (ac 1) (ac 3)) (tC (.int 0))))
 (dS (j4 K "list" cE (ac 2) (ag (aA (aZ K) (cz (ag (tC (.str "")) (ag (aA (aZ K) (ac 0) (ac 3)) (ag (aA eK (tC (.str "2 ")) (aA (aZ K) (ac 0) (ac 3))) (ag (aA eK (tC (.str "3 ")) (aA (aZ K) (ac 0) (ac 3))) am))))) (aA (bB K) (ac 1) (ac 3))) am)))
 bc))
 (ar (a_ (bq (aA (zg K) (ac 2) (cz am)))
 (aU (tC (.str "0")))
 bc)
 (aU (j4 K "str" (vF K) (tC (.str " + ")) (ag (ac 2) am))))))
theorem wL{K:Fg}{N:List Str}(hN:N.length=4)(h:fW K vs H Q E):jW K (ends Q) (L2.start N vs) H:=by
 obtain⟨a,v2,ws,h,rfl,ha,r2,ow,oh,k⟩:=h;obtain⟨b,rfl,hb⟩:=lB r2;rw[L2.bv hN];walk_at "t";have w5:=ow.1;unfold jW;walk_at "";refine⟨by decide,fun l nl=>?_⟩;walk_at "";have Sl:=au nl (.lst []);refine cr (SqL.of (Sl _ _ ha)) ?_;have lm:(ws.map V.str).length=ws.length:=Mv ..;rw[lm];walk_at "";have lm':((ws.length:Nat):Int).toNat=ws.length:=by lia
 rw[lm'];refine cX (fun i σ H2=>∃u3:Option V,σ=[some (.ref a),some (.ref b),some (.ref l),u3]/\AccZ K H l H2 ((ba (ws.take i) (h.take i)).map Nw)) ⟨none,rfl,AccZ.start (Same.refl _) nl⟩ ?_ ?_
 ·rintro i σ H2 hi ⟨u3,rfl,A⟩;have hi2:i<h.length:=by rw[oh.1];exact hi
  have f1:ws[i]?=some ws[i]:=Mw hi;have f2:h[i]?=some h[i]:=Mw hi2;have sn:=kA f1 f2;have on:=oh.2 _ (Qf hi2);have lw:=(ow.2 _ (Qf hi)).1;generalize ws[i]=w at f1 sn lw;generalize h[i]=n at f2 sn on;have g1:(ws.map V.str)[i]?=some (.str w):=by rw[ME,f1];rfl
  have g2:(h.map V.int)[i]?=some (.int n):=by rw[ME,f2];rfl
  have Z0:=A.same _ _ ha;have hb2:=A.same _ _ hb;walk_at "";refine bI (SqT.of hb2) (v:=.int n) (by rw[Pl];exact bz g2) ?_;walk_at "";refine bL (fun z=>?_) (fun z=>?_)
  ·walk_at "";refine⟨A.ty,?_⟩;walk_at "";refine bh (SqL.of Z0) (v:=.str w) (by rw[Pl];exact bz g1) ?_;walk_at "";refine bh (SqL.of Z0) (v:=.str w) (by rw[Pl];exact bz g1) ?_;refine fL (by rw[IT,Tw.szL];lia) ?_;walk_at "";refine bh (SqL.of Z0) (v:=.str w) (by rw[Pl];exact bz g1) ?_;refine fL (by rw[IS,Tw.szL];lia) ?_;walk_at "";refine⟨yz,fun q nq=>?_⟩;have Sq:=au nq (.lst [V.str "",.str w,.str (("2 ":Str)++w),.str (("3 ":Str)++w)]);walk_at "";refine bI (SqT.of (Sq _ _ hb2)) (v:=.int n) (by rw[Pl];exact bz g2) ?_;refine bh (SqL.of ak) (Ha z on.2) ?_;walk_at "";refine kY (A.on Sq) (.str (bK w n)) (aX ?_) fun H4 A4 _ _ _=>?_
   ·rw[Mv]
    have:=fY (ws:=ws.take i) (h:=h.take i)
    rw[Ng] at this;lia
   walk_at "";refine⟨_,rfl,?_⟩;rw[sn,if_pos z,M8];exact A4
  ·walk_at "";refine⟨_,rfl,?_⟩;rw[sn,if_neg z,OT];exact A
 ·rintro σ H2 ⟨u3,rfl,A⟩;rw[MV (MB _),MV (by rw[oh.1];exact MB _)] at A;walk_at "";refine⟨by decide,fun q nq=>?_⟩;have Sq:=au nq (.lst []);have A2:=A.on Sq;have hD:=AccZ.strs A2
  have okp:kqdOk 8 (.list ((ba ws h).map Nw))=true:=by
   show(((ba ws h).map Nw).all (kqdOk 7))=true;rw[NK];intro x hx;obtain⟨i,hi,rfl⟩:=MR.mp hx;exact(iP ow oh.2 hi).2
  refine GY (d:=.list ((ba ws h).map Nw)) (e:=.list []) A2.rep (.lst (SqL.of ak) .nil) okp (by decide +kernel) (fun z=>?_) (fun z=>?_)
  ·walk_at ""
   have p:ba ws h=[]:=by
    have:=Dat.list.inj z
    exact OR.mp this
   rw[mK p] at k;exact k _ A2.same
  ·walk_at "";have p:ba ws h≠[]:=fun q=>z (by rw[q];rfl)
   rw[kZ p] at k;refine⟨rfl,?_⟩;walk_at "";exact EH (SqL.of hD) (rX ow oh.2) (k _ A2.same)
def jV(K:Fg):TS:=(ar (aQ (bQ Cs (ag (aA (bB K) (aA (bB K) (ac 1) (tC (.int 2))) (tC (.int 0))) am)) (aJ 2))
 (ar (a_ (bq (aA F_ (aA (bB K) (aA (bB K) (ac 1) (tC (.int 2))) (tC (.int 1))) (tC (.int 1))))
 (aQ (aA eK (aA eK (ac 2) (tC (.str "/"))) (bQ Cs (ag (aA (bB K) (aA (bB K) (ac 1) (tC (.int 2))) (tC (.int 1))) am))) (aJ 2))
 bc)
 (ar (aQ (aA eK (aA eK (aW (fW K) [] E0 (ag (ac 0) (ag (aA (bB K) (ac 1) (tC (.int 0))) am))) (tC (.str " -> "))) (aW (fW K) [] E0 (ag (ac 0) (ag (aA (bB K) (ac 1) (tC (.int 1))) am)))) (aJ 3))
 (aU (aA eK (aA eK (ac 3) (tC (.str " @ "))) (ac 2))))))
theorem wK{K:Fg}{N:List Str}(hN:N.length=4)(h:jJ K vs H Q E):jV K (ends Q) (L2.start N vs) H:=by
 obtain⟨g,v2,ws,t,rfl,hg,r2,ow,⟨o1,o2,op⟩,k⟩:=h;obtain⟨a,w1,w2,w3,rfl,ha,q1,q2,q3⟩:=pZ r2;obtain⟨c,rfl,hc⟩:=lB q3;rw[L2.bv hN];walk_at "t";have l1:=dL ow o1.2;have l2:=dL ow o2.2;have l3:=hG op;have lq:=dY (i:=t.q) (by have:=op.1;lia) op.2.2.2.1;have ld:=dY (i:=t.d) (by have:=op.2.1;lia) op.2.2.2.2;have sq:=eM (i:=t.q) (by have:=op.1;lia) op.2.2.2.1;have sd:=eM (i:=t.d) (by have:=op.2.1;lia) op.2.2.2.2
 have fin:∀D':bJ,D'.rt=(ends Q).rt->(ar (aQ (aA eK (aA eK (aW (fW K) [] E0 (ag (ac 0) (ag (aA (bB K) (ac 1) (tC (.int 0))) am))) (tC (.str " -> "))) (aW (fW K) [] E0 (ag (ac 0) (ag (aA (bB K) (ac 1) (tC (.int 1))) am)))) (aJ 3))
   (aU (aA eK (aA eK (ac 3) (tC (.str " @ "))) (ac 2)))) D' [some (.ref g),some (.ref a),some (.str (bH t.q t.d)),none] H:=by
  intro D' eD;walk_at "";refine bI (SqT.of ha) (v:=w1) rfl ?_;walk_at "";refine⟨g,w1,ws,t.fr,rfl,hg,q1,ow,o1,fun H1 S1=>?_⟩;walk_at "";refine fL (by rw[pJ,Tw.szL];lia) ?_;walk_at "";refine bI (SqT.of (S1 _ _ ha)) (v:=w2) rfl ?_;walk_at "";refine⟨g,w2,ws,t.to,rfl,S1 _ _ hg,q2.same S1,ow,o2,fun H2 S2=>?_⟩;refine fL (by rw[M0,pJ,Tw.szL];lia) ?_;walk_at "";refine fL (by rw[M0,M0,pJ,zZ,Tw.szL];lia) ?_;walk_at "";refine fL (by rw[M0,M0,M0,pJ,zZ,Tw.szL];lia) ?_;rw[eD]
  have:=k H2 (S1.trans S2)
  unfold turnT at this;rw[O6] at this;exact this
 unfold jV;walk_at "";refine bI (SqT.of ha) (v:=.ref c) rfl ?_;walk_at "";refine bI (SqT.of hc) (v:=.int t.q) rfl ?_;walk_at "";refine EF sq ?_;walk_at "";refine bI (SqT.of ha) (v:=.ref c) rfl ?_;walk_at "";refine bI (SqT.of hc) (v:=.int t.d) rfl ?_;walk_at "";refine bL (fun z=>?_) (fun z=>?_)
 ·walk_at "";refine fL (by rw[zY,Tw.szL];lia) ?_;walk_at "";refine bI (SqT.of ha) (v:=.ref c) rfl ?_;walk_at "";refine bI (SqT.of hc) (v:=.int t.d) rfl ?_;walk_at "";refine EF sd ?_;refine fL (by rw[M0,zY,Tw.szL];lia) ?_
  have e:a7 t.q++("/":Str)++a7 t.d=bH t.q t.d:=by
   unfold bH;rw[if_neg (by lia),O6]
  rw[e];exact fin _ rfl
 ·have e:a7 t.q=bH t.q t.d:=by
   unfold bH;rw[if_pos (by have:=op.2.1;lia)]
  rw[e];exact fin _ rfl
end Tg
namespace L2
open PySem PySem.Spec PyProof.Rows
section
variable{K:Fg}{ta tv:TE}{f m:Str}{σ:St}{H:Hp}{Q:VK}{D:bJ}{C:Addr}{sp:Sp}{Yt:List V}{E:XK}{t:TA}
theorem kX(h:ta σ H fun x H1=>∃a C dx fs v,x=.ref a/\H1 a=some (.ins C dx fs)/\Cls K C/\dh K C f/\fs.lookup f=some v/\Q v H1):cP K ta f σ H Q:=h
theorem fK(h:tv σ H fun y H1=>ta σ H1 fun x H2=>∃a C dx fs,x=.ref a/\H2 a=some (.ins C dx fs)/\Cls K C/\dh K C f/\fs.length<1000/\D.nx σ (upd H2 a (.ins C dx (bD f y fs)))):l7 K ta tv f D σ H:=h
theorem kW(h:ta σ H fun x H1=>∃a dx fs,x=.ref a/\H1 a=some (.ins C dx fs)/\fs.lookup m=none/\t σ H1 fun vs H2=>sp (x :: (vs++Yt)) H2 Q E):fg C m sp Yt E ta t σ H Q:=h
end
end L2
local macro_rules | `(tactic| walk_at "d")=>`(tactic| repeat first|fail "1"|with_reducible first|refine L2.kX ?_|refine L2.fK ?_|refine L2.kW ?_)
namespace Dk
open PySem L2 Fr G1 Sm Vs
open PySem.W (Dat kqdOk)
structure Kl (K:Fg) (mg:Str->Option Mu) (D:Addr):Prop where
 cl:Cls K D
 mD:mg "Desk"=some (.ref D)
 n1:dh K D "stuffs"
 n2:dh K D "turnings"
 n3:dh K D "pieces"
 n4:dh K D "deeds"
structure Ds where
 dx:Addr
 l:Addr
 ws:List Str
 ts:List Tn
 c:List Int
 n:Nat
abbrev pX (vs vt vp:V) (l:Addr):List (Str×V):=[("stuffs",vs),("turnings",vt),("pieces",vp),("deeds",.ref l)]
def Up(M:List Addr)(H H':Hp):Prop:=∀b o,b∉M->H b=some o->H' b=some o
section
variable{K:Fg}{C a:Addr}{H H' H2:Hp}{d:Ds}{vs vt vp:V}{xs:List V}{mg:Str->Option Mu}{Q:VK}{M:List Addr}
theorem Up.of_same(e:Same H H'):Up M H H':=fun b o _ q=>e b o q
theorem Up.trans(e:Up M H H')(f:Up M H' H2):Up M H H2:=fun b o n q=>f b o n (e b o n q)
theorem Up.agr(e:Up M H H')(h:∀b∈M,∀xs,H b≠some (.tup xs)):Agr (fun _=>False) H H':=⟨fun b xs q=>e b _ (fun z=>h b z xs q) q,fun _ _ z=>z.elim⟩
theorem Cw{v:V} :bD "turnings" v (pX vs vt vp l)=pX vs v vp l:=by
 unfold pX;rw[bD,if_neg (by decide),bD,if_pos rfl]
theorem Iv{v:V} :bD "pieces" v (pX vs vt vp l)=pX vs vt v l:=by
 unfold pX;rw[bD,if_neg (by decide),bD,if_neg (by decide),bD,if_pos rfl]
end
structure Hz (ws:List Str):Prop where
 st:Nv.StOk ws
 pl:∀w∈ws,Nv.Plain w
theorem vn{K:Fg}{H:Hp}(h:H a=some (.ins C dx fs))(o:HO):Up [a] H (upd H a o)/\∀{v:V} {x:Dat},Rz K H v x->Rz K (upd H a o) v x :=
 ⟨fun b u nb e=>by rw[av (fun z=>nb (by rw[z];exact MK.mpr rfl))];exact e,fun r=>r.agr (Agr.GC h (fun _ z=>by cases z) fun z=>z)⟩
theorem RzL.of_get{K:Fg}{H:Hp}:∀{vs:List V} {ds:List Dat},vs.length=ds.length->(∀(i:Nat) (d:Dat),ds[i]?=some d->∃v,vs[i]?=some v/\Rz K H v d)->RzL K H vs ds
 |[],[],_,_=>.nil
 |[],_ :: _,h,_=>by cases h
 |_ :: _,[],h,_=>by cases h
 |v :: vs,d :: ds,h,g=>by
  obtain⟨w,e,r⟩:=g 0 d rfl;cases e;exact .cons r (RzL.of_get (N3 h) fun i e he=>g (i+1) e he)
def dP(p:Str×Int):Dat:=.tuple [.str p.1,.int p.2]
theorem Ai{ta:TA}{H:Hp}{Q:VK}(h:ta σ H fun vs H1=>∃a b xv yv,vs=[.ref a,.ref b]/\H1 a=some (.tup xv)/\H1 b=some (.tup yv)/\xv.length=yv.length/\xv.length<=1000 /\
 ∀S YO H',H1 S=none->Same H1 H'->H' S=some (.lst YO)->YO.length=xv.length->Ka H' xv yv xv.length YO->Q (.ref S) H'):oo ta σ H Q:=h
structure DOk (d:Ds):Prop where
 st:Nv.StOk d.ws
 pl:∀w∈d.ws,Nv.Plain w
 wd:Tr2.WdOk d.ws
 ln:d.c.length=d.ws.length
 tt:∀t∈d.ts,Tw.TtOk d.ws t
 ck:d.ts=[]\/Nv.lM d.ts
theorem DOk.l8(o:DOk d):d.ts.length<=8:=by
 rcases o.ck with z|z
 ·rw[z];decide
 ·exact z.2.1
theorem vz(h:∀c∈Tp2.cl s,c<128):O8 s=true:=by
 unfold O8;rw[NY];intro c hc
 have:=h c (by simpa using hc)
 exact decide_eq_true (by lia)
theorem IB(h:jh q d):Tg.va q d:=by
 have b:(10000000000:Int)<(Tg.Big:Int):=by unfold Tg.Big;decide +kernel
 exact⟨h.1,h.2.1,h.2.2.1,by have:=h.2.2.2.1;lia,by have:=h.2.2.2.2;lia⟩
theorem BF(o:Tw.TtOk ws t):Tg.TtG ws t:=⟨o.1,o.2.1,IB o.2.2⟩
theorem sT(ow:Tr2.WdOk ws)(o:Tw.TtOk ws t):kqdOk 7 (.str (Tw.turnT ws t))=true:=by
 refine vz fun c hc=>?_
 rw[Tr2.bN,Tp2.bo,Tp2.bo,Tp2.bo,Tp2.bo] at hc
 have hh:∀{h:List Int},bi ws.length h->c∈Tp2.cl (Tw.bF ws h)->c<128:=fun oh z=>by
  have:=Tr2.cJ ow.lt oh.2 c z
  lia
 simp only[Ni] at hc;rcases hc with(z|z)|(z|z)|z
 ·exact hh o.1 z
 ·rw[show Tp2.cl (" -> ":Str)=[32,45,62,32] by decide +kernel] at z;simp only[MD,MF,or_false] at z;lia
 ·exact hh o.2.1 z
 ·rw[show Tp2.cl (" @ ":Str)=[32,64,32] by decide +kernel] at z;simp only[MD,MF,or_false] at z;lia
 ·have:=Tg.Gq (IB o.2.2) c z;lia
open Dn (EQ beh pr)
def first(ts:List Tn)(t:Tn)(j:Nat):Prop:=ts[j]?=some t/\∀m,m<j->ts[m]?≠some t
theorem wc:∀{ts:List Tn} {t:Tn},t∈ts->∃j,first ts t j
 |[],_,h=>by cases h
 |u :: ts,t,h=>by
  by_cases e:u=t
  ·exact⟨0,by rw[e];rfl,fun m hm=>absurd hm (R6 _)⟩
  ·obtain⟨j,h1,h2⟩:=wc (ts:=ts) (t:=t) (by rcases MD.mp h with z|z;exact absurd z.symm e;exact z);refine⟨j+1,h1,fun m hm=>?_⟩;cases m with
   |zero=>exact fun z=>e (MY z)
   |succ m=>exact h2 m (by lia)
theorem vx{ts:List Tn}(ow:Tr2.WdOk ws)(o:∀u∈ts,Tw.TtOk ws u)(ot:Tw.TtOk ws t):Nw (Tw.turnT ws t)∈(ts.map (Tw.turnT ws)).map Nw↔t∈ts:=by
 constructor
 ·intro h;obtain⟨s,hs,e⟩:=MR.mp h;obtain⟨u,hu,e2⟩:=MR.mp hs;rw[<- Tg.vq ow (BF (o u hu)) (BF ot) (e2.trans (Vg e))];exact hu
 ·intro h;exact MR.mpr ⟨_,MR.mpr ⟨t,h,rfl⟩,rfl⟩
theorem C5{K:Fg}{E:XK}{D:bJ}(s:sL K C)(a:sM K C f)(k:∀dx H',Same H H'->E (.ref C) (some dx) H'):jY E C (qA K C f) (tC (.int 0)) D σ H:=by
 obtain⟨v,e,h⟩:=C4 (K:=K) (E:=E) (D:=D) (i:=0) (σ:=[some (.int ((0:Nat):Int))]) (H:=H) (n:=0) s a rfl (by decide) fun dx H' S _=>k dx H' S
 cases e;exact h
end Dk
namespace Dk
open PySem L2 Fr G1 Sm Vs
open PySem.W (Dat kqdOk)
theorem vZ(o:bi n h):Nv.AC n h=true:=by
 unfold Nv.AC;rw[decide_eq_true o.1,Pp,NK];intro b hb;obtain⟨x,hx,rfl⟩:=MR.mp hb;unfold Nv.okN;rw[decide_eq_true (o.2 x hx).1,decide_eq_true (o.2 x hx).2];rfl
def oC(K:Fg):Sp:=fun vs H Q _=>∃(v:V) (ts:List Tn) (ws:List Str),vs=[v,.int (ws.length:Int)]/\Rz K H v (.tuple (ts.map dT))/\(∀t∈ts,Tw.TtOk ws t)/\ws.length<=5/\ts.length<=8 /\
 ∀(p:Addr) (H':Hp),Same H H'->Rz K H' (.ref p) (.tuple (ts.map dT))->Q (.ref p) H'
def nV(K:Fg)(nq:Addr):TS:=(ar (fw (mr K (ac 0)) (aJ 2)
 (a_ (xr (dA (tB (aW (Nv.jK K) [] E0 (ag (aA (bB K) (ac 2) (tC (.int 0))) (ag (ac 1) am))))) (dA (tB (aW (Nv.jK K) [] E0 (ag (aA (bB K) (ac 2) (tC (.int 1))) (ag (ac 1) am))))))
 gT
 bc))
 (ar (fw (mr K (ac 0)) (aJ 2)
 (a_ (dA (tB (aW (Nv.oP K) [] E0 (ag (tC (.ref nq)) (ag (aA (bB K) (ac 2) (tC (.int 2))) am)))))
 gT
 bc))
 (aU (bQ (fA K) (ag (fh (mr K (ac 0)) (f_ (ag (bQ (fA K) (ag (aA (bB K) (ac 0) (tC (.int 0))) am)) (ag (bQ (fA K) (ag (aA (bB K) (ac 0) (tC (.int 1))) am)) (ag (bQ (fA K) (ag (aA (bB K) (ac 0) (tC (.int 2))) am)) am))))) am)))))
theorem yS{K:Fg}(G:Nv.Cn K mg nq){N:List Str}(hN:N.length=3)(h:oC K vs H Q E):nV K nq (ends Q) (L2.start N vs) H:=by
 obtain⟨v,ts,ws,rfl,rv,ok,w5,l8,k⟩:=h;obtain⟨a,xs,rfl,ha,rx⟩:=rv.cf;have lx:xs.length=ts.length:=by rw[rx.length,Mv]
 rw[L2.bv hN];walk_at "t"
 have at_:∀{i:Nat} {z:V} {H2:Hp},Same H H2->xs[i]?=some z->∃t,ts[i]?=some t/\Tw.TtOk ws t/\Rz K H2 z (dT t)/\∃(p b1 b2 b3:Addr),z=.ref p/\H2 p=some (.tup [.ref b1,.ref b2,.ref b3])/\H2 b1=some (.tup (t.fr.map V.int))/\H2 b2=some (.tup (t.to.map V.int))/\H2 b3=some (.tup [.int t.q,.int t.d]):=by
  intro i z H2 S2 hz;obtain⟨dd,g1,g2⟩:=rx.get hz;rw[ME] at g1;obtain⟨t,ht,rfl⟩:=MI.mp g1;obtain⟨p,v1,v2,v3,rfl,hp,r1,r2,r3⟩:=pZ (g2.same S2);obtain⟨b1,ys,rfl,h1,q1⟩:=r1.cf;obtain⟨b2,zs,rfl,h2,q2⟩:=r2.cf;obtain⟨b3,us,rfl,h3,q3⟩:=r3.cf;cases q1.ints_of;cases q2.ints_of;cases RpL.ints_of (ns:=[t.q,t.d]) q3;exact⟨t,ht,ok t (MH ht),g2.same S2,p,b1,b2,b3,rfl,hp,h1,h2,h3⟩
 unfold nV;walk_at "";refine GQ (SqT.of ha) ?_;refine uR (xs:=xs) (fun i σ H2=>Same H H2/\∃u:Option V,σ=[some (.ref a),some (.int (ws.length:Int)),u]) ⟨Same.refl _,none,rfl⟩ (fun i σ H2 _ p=>SqT.of (p.1 _ _ ha)) ?_ ?_
 ·rintro i z σ H2 hz ⟨S2,u,rfl⟩;obtain⟨t,ht,⟨o1,o2,op⟩,_,p,b1,b2,b3,rfl,hp,h1,h2,h3⟩:=at_ S2 hz;walk_at "";refine bI (SqT.of hp) (v:=.ref b1) rfl ?_;walk_at "";refine⟨b1,_,_,rfl,.inr (SqT.of h1),by have:=o1.1;lia,by lia,fun H3 S3=>?_⟩;rw[Ol,vZ o1];walk_at "";refine bI (SqT.of (S3 _ _ hp)) (v:=.ref b2) rfl ?_;walk_at "";refine⟨b2,_,_,rfl,.inr (SqT.of (S3 _ _ h2)),by have:=o2.1;lia,by lia,fun H4 S4=>?_⟩;rw[Ol,vZ o2];walk_at "";exact⟨S2.trans (S3.trans S4),_,rfl⟩
 rintro σ H2 ⟨S2,u,rfl⟩;walk_at "";refine GQ (SqT.of (S2 _ _ ha)) ?_;refine uR (xs:=xs) (fun i σ H3=>Same H H3/\∃u:Option V,σ=[some (.ref a),some (.int (ws.length:Int)),u]) ⟨S2,u,rfl⟩ (fun i σ H2 _ p=>SqT.of (p.1 _ _ ha)) ?_ ?_
 ·rintro i z σ H3 hz ⟨S3,u,rfl⟩;obtain⟨t,ht,⟨o1,o2,op⟩,_,p,b1,b2,b3,rfl,hp,h1,h2,h3⟩:=at_ S3 hz;walk_at "";refine bI (SqT.of hp) (v:=.ref b3) rfl ?_;walk_at "";have q0:=op.1;have q1:=op.2.2.2.1;have d0:=op.2.1;have d1:=op.2.2.2.2;refine⟨nq,b3,0,1,t.q,t.d,rfl,G.two _,SqT.of h3,⟨Gd.BA (Gd.wide (by lia)),Gd.BA (Gd.wide (by lia))⟩,⟨Gd.BA (Gd.wide (by lia)),Gd.BA (Gd.wide (by lia))⟩,?_⟩;walk_at "";refine bP (fun z=>absurd z (by lia)) (fun _=>?_);walk_at "";exact⟨S3,_,rfl⟩
 rintro σ H3 ⟨S3,u,rfl⟩;walk_at "";refine GR (SqT.of (S3 _ _ ha)) ?_;refine f8 (xs:=xs) fun D nD=>⟨fun i H4=>AccZ K H3 D H4 ((ts.take i).map dT),AccZ.start (Same.refl _) nD,fun i H4 _ A=>SqT.of (A.same _ _ (S3 _ _ ha)),?_,?_⟩
 ·intro i z H4 hz A;obtain⟨t,ht,⟨o1,o2,op⟩,_,p,b1,b2,b3,rfl,hp,h1,h2,h3⟩:=at_ (S3.trans A.same) hz;have li:i<ts.length:=(My.mp ht).1;walk_at "";refine bI (SqT.of hp) (v:=.ref b1) rfl ?_;walk_at "";refine vU (SqT.of h1) ?_;walk_at "";refine bI (SqT.of hp) (v:=.ref b2) rfl ?_;walk_at "";refine vU (SqT.of h2) ?_;walk_at "";refine bI (SqT.of hp) (v:=.ref b3) rfl ?_;walk_at "";refine vU (SqT.of h3) ?_;walk_at "";refine⟨iK,fun pt npt=>?_⟩;have S7:=au npt (.tup [.ref b1,.ref b2,.ref b3])
  have r7:Rz K (upd H4 pt (.tup [.ref b1,.ref b2,.ref b3])) (.ref pt) (dT t) :=
   .tup ak (.cons (.tup (S7 _ _ h1) (RpL.ints _)) (.cons (.tup (S7 _ _ h2) (RpL.ints _)) (.cons (.tup (S7 _ _ h3) (RpL.ints [_,_])) .nil)))
  refine cF (by lia) ((A.on S7).js r7 (aX ?_) fun H8 A8=>?_)
  ·rw[Mv,Ng];lia
  ·show AccZ K H3 D H8 ((ts.take (i+1)).map dT);rw[Nx,ht,M8];exact A8
 ·intro H4 A;rw[lx,MV (MB _)] at A;obtain⟨ys,hD,ry⟩:=A.at_;refine rT (SqL.of hD) fun p np=>?_
  have S5:=au np (.tup ys);exact k p _ (S3.trans (A.same.trans S5)) (.tup ak (ry.same S5))
def tO(K:Fg):Sp:=fun vs H Q _=>∃(v1 v2:V) (ws:List Str) (ts:List Tn),vs=[v1,v2]/\Rz K H v1 (.tuple (ws.map Nw))/\Rz K H v2 (.tuple (ts.map dT))/\Hz ws/\(∀t∈ts,Tw.TtOk ws t)/\Nv.lM ts /\
 ∀(p:Addr) (H':Hp),Same H H'->Rz K H' (.ref p) (dV ws ts)->Q (.ref p) H'
def tu(K:Fg)(x:Ex0.Ad):TS:=(ar (aQ (aW (Nv.gY K x.c1) [] E0 (ag (ac 0) am)) (aJ 2))
 (ar (aQ (aW (oC K) [] E0 (ag (ac 1) (ag (bQ (b8 K) (ag (ac 2) am)) am))) (aJ 3))
 (ar (dS (aW (Nv.oO K x.c4) [] E0 (ag (ac 3) am)))
 (aU (f_ (ag (ac 2) (ag (ac 3) am)))))))
theorem Ce{K:Fg}{N:List Str}(hN:N.length=4)(h:tO K vs H Q E):tu K x (ends Q) (L2.start N vs) H:=by
 obtain⟨v1,v2,ws,ts,rfl,r1,r2,wo,to,ck,k⟩:=h;obtain⟨a,xs,rfl,ha,rx⟩:=r1.cf;cases rx.gr;rw[L2.bv hN];walk_at "t";have w5:=wo.st.1.2;unfold tu;walk_at "";refine⟨a,ws,rfl,.inr ha,wo.pl,by lia,fun _ p H1 S1 hp=>?_,fun z=>absurd wo.st z⟩;walk_at "";refine mO (SqT.of hp) ?_;rw[Mv];walk_at "";refine⟨v2,ts,ws,rfl,r2.same S1,to,w5,ck.2.1,fun q H2 S2 rq=>?_⟩;walk_at "";refine⟨.ref q,ts,rfl,rq,by have:=ck.2.1;lia,fun _ H3 S3=>?_,fun z=>absurd ck z⟩;walk_at "";refine⟨cC,fun r nr=>?_⟩;have S4:=au nr (.tup [.ref p,.ref q]);exact k r _ (S1.trans (S2.trans (S3.trans S4))) (.tup ak (.cons (.tup (S4 _ _ (S3 _ _ (S2 _ _ hp))) (RpL.strs _)) (.cons ((rq.same S3).same S4) .nil)))
open PySem L2 Fr G1 Sm Vs Dn Rk Wd
theorem K2(t:Tn):kqdOk 7 (dT t)=true:=by
 show([dI t.fr,dI t.to,dI [t.q,t.d]].all (kqdOk 6))=true;rw[RQ,RQ,RQ,List.all_nil,uB t.fr 5,uB t.to 5,uB [t.q,t.d] 5];rfl
theorem K1(ts:List Tn):kqdOk 8 (.list (ts.map dT))=true:=by
 show((ts.map dT).all (kqdOk 7))=true;rw[NK];intro x hx;obtain⟨t,_,rfl⟩:=MR.mp hx;exact K2 t
def ym(K:Fg):Sp:=fun vs H Q _=>∃(r p x:Addr) (xs ys:List V) (ts po:List Tn) (ns:List Int),vs=[.ref r,.ref p,.ref x]/\H r=some (.lst xs)/\RzL K H xs (ts.map dT)/\H p=some (.lst ys)/\RzL K H ys (po.map dT)/\H x=some (.lst (ns.map V.int))/\3<=ns.length/\(∀n∈ns,Mx n)/\po≠[] /\
 ∀(v:V) (t:Tn) (H':Hp),Same H H'->(t∈ts\/t∈po)->Rz K H' v (dT t)->Q v H'
theorem Ks{K:Fg}{ts:List Tn}(rx:RzL K H xs (ts.map dT))(ne:ts≠[])(n:Int):∃(v:V) (t:Tn),lG xs (n % (xs.length:Int))=some v/\t∈ts/\ts[(n % (xs.length:Int)).toNat]?=some t/\Rz K H v (dT t):=by
 have lx:xs.length=ts.length:=by rw[rx.length,Mv]
 have l0:0<ts.length:=P_.mpr ne;have h0:=Ot n (show(xs.length:Int)≠0 by lia);have h1:=N0 n (show 0<(xs.length:Int) by lia);generalize n % (xs.length:Int)=m at h0 h1;have lm:m.toNat<xs.length:=by lia
 obtain⟨d,g1,g2⟩:=rx.get (Mw lm);rw[ME] at g1;obtain⟨t,ht,rfl⟩:=MI.mp g1;refine⟨xs[m.toNat],t,?_,MH ht,ht,g2⟩
 have:=bz (xs:=xs) (Mw lm)
 rwa [VB h0] at this
theorem eF{ns:List Int}{i:Nat}{n:Int}(h:ns[i]?=some n):lG (ns.map V.int) ((i:Nat):Int)=some (.int n):=bz (by rw[ME,h];rfl)
def xO(K:Fg):TS:=(ar (a_ (ye (bq (aA xw (aA bU (aA (aZ K) (ac 2) (tC (.int 1))) (tC (.int 5))) (tC (.int 3)))) (bq (aA (ue K) (ac 0) (cz am))))
 (aU (aA (aZ K) (ac 0) (aA bU (aA (aZ K) (ac 2) (tC (.int 2))) (bQ (b8 K) (ag (ac 0) am)))))
 bc)
 (aU (aA (aZ K) (ac 1) (aA bU (aA (aZ K) (ac 2) (tC (.int 2))) (bQ (b8 K) (ag (ac 1) am))))))
theorem FN{K:Fg}{N:List Str}(hN:N.length=3)(h:ym K vs H Q E):xO K (ends Q) (L2.start N vs) H:=by
 obtain⟨r,p,x,xs,ys,ts,po,ns,rfl,hr,rx,hp,ry,hx,l3,mx,ne,q⟩:=h;rw[L2.bv hN];walk_at "t";have lx:xs.length=ts.length:=by rw[rx.length,Mv]
 have g1:ns[1]?=some ns[1]:=Mw (by lia);have g2:ns[2]?=some ns[2]:=Mw (by lia);have lp0:0<po.length:=P_.mpr ne;have ly:ys.length=po.length:=by rw[ry.length,Mv]
 have pool:∀H',Same H H'->(aZ K (V.ref x) (V.int 2) H' fun x1 H1=>bQ (b8 K) (ag (ac 1) am) [some (V.ref r),some (V.ref p),some (V.ref x)] H1 fun y H2=>bU x1 y H2 fun y H2=>aZ K (V.ref p) y H2 (ends Q).rt):=fun H' S=>by
  refine bh (SqL.of (S _ _ hx)) (eF g2) ?_;walk_at "";refine cr (SqL.of (S _ _ hp)) ?_;refine jB (show(0:Int)<(ys.length:Int) by lia) ?_;obtain⟨v,t,e,m,_,rt⟩:=Ks (ry.same S) ne ns[2];exact bh (SqL.of (S _ _ hp)) e (q v t H' S (.inr m) rt)
 unfold xO;walk_at "";refine bh (SqL.of hx) (eF g1) ?_;walk_at "";refine bL (fun _=>?_) (fun _=>?_)
 ·walk_at "";refine⟨by decide,fun l nl=>?_⟩;have S1:=au nl (.lst []);have h1:upd H l (.lst []) l=some (.lst []):=ak;generalize upd H l (.lst [])=H1 at S1 h1 ⊢;refine GS (d:=.list (ts.map dT)) (e:=.list []) (.lst (SqL.of (S1 _ _ hr)) (rx.same S1).rep) (.lst (SqL.of h1) .nil) (K1 _) (by decide +kernel) (fun z=>?_) (fun z=>?_)
  ·have nt:ts≠[]:=fun e=>z (by rw[e];rfl)
   have lt0:0<ts.length:=P_.mpr nt;walk_at "";refine bh (SqL.of (S1 _ _ hx)) (eF g2) ?_;walk_at "";refine cr (SqL.of (S1 _ _ hr)) ?_;refine jB (show(0:Int)<(xs.length:Int) by lia) ?_;obtain⟨v,t,e,m,_,rt⟩:=Ks (rx.same S1) nt ns[2];exact bh (SqL.of (S1 _ _ hr)) e (q v t H1 S1 (.inl m) rt)
  ·walk_at "";exact pool H1 S1
 ·walk_at "";exact pool H (Same.refl _)
theorem wj(ns:List Int)(lo hi:Option Int):∃cells:List Int,gI (ns.map V.int) lo hi=cells.map V.int/\cells.length<=ns.length:=by
 refine⟨(ns.drop (HT.sIx (ns.map V.int).length 0 lo)).take (HT.sIx (ns.map V.int).length (ns.map V.int).length hi-HT.sIx (ns.map V.int).length 0 lo),?_,?_⟩
 ·unfold gI;rw[XA,XB]
 ·rw[Ng,Oe];lia
def Ku(m:Nat)(t:Tn):Prop:=bi m t.fr/\bi m t.to/\jh t.q t.d
def iH(K:Fg):Sp:=fun vs H Q _=>∃(a:Addr) (ns:List Int) (m:Nat),vs=[.ref a,.int (m:Int)]/\SqL K H a (ns.map V.int)/\ns.length<=63/\m<=5 /\
 ∀(p:Addr) (H':Hp) (po:List Tn),AccZ K H p H' (po.map dT)->po≠[]->(∀t∈po,Ku m t)->Q (.ref p) H'
def xW(K:Fg):TS:=(a_ (ye (bq (aA jL (aA bU (aA (aZ K) (ac 4) (tC (.int 5))) (tC (.int 3))) (tC (.int 1)))) (bq (aA F_ (bQ (b8 K) (ag (ac 2) am)) (tC (.int 0)))))
 (aQ (aA (bB K) (aA (aZ K) (ac 2) (aA bU (aA (aZ K) (ac 4) (tC (.int 0))) (bQ (b8 K) (ag (ac 2) am)))) (tC (.int 1))) (aJ 6))
 bc)
def og (K:Fg):TS:=(dS (j4 K "list" cE (ac 2) (ag (f_ (ag (ac 6) (ag (ac 7) (ag (aW (yn K) [] E0 (ag (aA dj (tC (.int 1)) (aA bU (aA (aZ K) (ac 4) (tC (.int 2))) (tC (.int 99)))) (ag (aA dj (tC (.int 1)) (aA bU (aA (aZ K) (ac 4) (tC (.int 3))) (tC (.int 9)))) am))) am)))) am)))
def iD(K:Fg):TS:=(ar (aQ (cz am) (aJ 2))
 (ar (fw (k9 K (aA Iu (xq (F2 K) (ac 0) (gq (tC (.int 3))) (gq (tC (.int 12)))) (cz (ag (aW (mH K) [] E0 (ag (ac 0) (ag (tC (.int 3)) am))) am)))) (aJ 3)
 (ar (aQ (aW (oH K) [] E0 (ag (ac 3) (ag (tC (.int 6)) am))) (aJ 4))
 (ar (aQ (aA dj (tC (.int 1)) (aA bU (aA (aZ K) (ac 4) (tC (.int 4))) (tC (.int 3)))) (aJ 5))
 (ar (aQ (aW (qB K) [] E0 (ag (aA (aZ K) (ac 4) (tC (.int 0))) (ag (ac 1) (ag (ac 5) am)))) (aJ 6))
 (ar (aQ (aW (qB K) [] E0 (ag (aA (aZ K) (ac 4) (tC (.int 1))) (ag (ac 1) (ag (ac 5) am)))) (aJ 7))
 (ar (a_ (bq (aA jL (aA bU (aA (aZ K) (ac 4) (tC (.int 5))) (tC (.int 3))) (tC (.int 0))))
 (aQ (aW (qB K) [] E0 (ag (tC (.int 0)) (ag (ac 1) (ag (tC (.int 1)) am)))) (aJ 7))
 bc)
 (ar (xW K)
 (og K))))))))
 (aU (ac 2))))
theorem ud{K:Fg}{N:List Str}(hN:N.length=8)(h:iH K vs H Q E):iD K (ends Q) (L2.start N vs) H:=by
 obtain⟨a,ns,m,rfl,ha,l63,m5,q⟩:=h;rw[L2.bv hN];walk_at "t";unfold iD;walk_at "";refine⟨by decide,fun l nl=>?_⟩;have Al:AccZ K H l (upd H l (.lst [])) ([].map dT):=AccZ.start (Same.refl _) nl;generalize upd H l (.lst [])=H1 at Al ⊢;walk_at "";obtain⟨cs,ec,lc⟩:=wj ns (some 3) (some 12);refine⟨a,_,rfl,Al.same.seq ha,fun l2 n2=>?_⟩;rw[ec];have S2:=au n2 (.lst (cs.map V.int));have h2:upd H1 l2 (.lst (cs.map V.int)) l2=some (.lst (cs.map V.int)):=ak;have A2:=Al.on S2;generalize upd H1 l2 (.lst (cs.map V.int))=H2 at S2 h2 A2 ⊢;walk_at "";refine⟨a,ns,3,rfl,A2.same.seq ha,by decide,?_⟩;generalize cellOf ns 3=c3;walk_at "";refine⟨tP,fun l4 n4=>?_⟩;have S4:=au n4 (.lst [.int c3]);have h4:upd H2 l4 (.lst [.int c3]) l4=some (.lst [.int c3]):=ak;have A4:=A2.on S4;generalize upd H2 l4 (.lst [.int c3])=H4 at S4 h4 A4 ⊢;refine⟨l2,l4,_,_,rfl,rfl,S4 _ _ h2,h4,by rw[Mv,Oi];simp only[OW];lia,fun l3 n3=>?_⟩;have S3:=au n3 (.lst (cs.map V.int++[.int c3]));have h3:upd H4 l3 (.lst (cs.map V.int++[.int c3])) l3=some (.lst ((cs++[c3]).map V.int)):=by rw[ak,M8];rfl
 have A3:=A4.on S3
 have nl3:l3≠l:=fun e=>by
  obtain⟨ys,hy,_⟩:=A4.at_;rw[<- e,n3] at hy;cases hy
 generalize upd H4 l3 (.lst (cs.map V.int++[.int c3]))=H3 at S3 h3 A3 ⊢;have lcs:(cs++[c3]).length=cs.length+1:=by rw[M3];rfl
 refine C3 (SqL.of h3) ?_;refine jP (xs:=(cs++[c3]).map V.int) (fun i σ H5=>∃(po:List Tn) (u3 u4 u5 u6 u7:Option V),σ=[some (.ref a),some (.int (m:Int)),some (.ref l),u3,u4,u5,u6,u7]/\AccZ K H l H5 (po.map dT)/\po.length=i/\(∀t∈po,Ku m t)/\H5 l3=some (.lst ((cs++[c3]).map V.int))) ⟨[],none,none,none,none,none,rfl,A3,rfl,fun t ht=>(by cases ht),h3⟩ (fun i σ H5 _ p=>by obtain⟨_,_,_,_,_,_,_,_,_,_,e⟩:=p;exact SqL.of e) ?_ ?_
 ·rintro i z σ H5 hz ⟨po,u3,u4,u5,u6,u7,rfl,A5,lp,op,e5⟩;rw[ME] at hz;obtain⟨c,hc,rfl⟩:=MI.mp hz;have li:i<(cs++[c3]).length:=(My.mp hc).1;walk_at "";refine⟨c,6,rfl,by decide,by decide,fun x H6 ms Ax lm mm=>?_⟩;have lm6:ms.length=6:=lm;have hx:=AccZ.ints Ax;have g0:ms[0]?=some ms[0]:=Mw (by lia);have g1:ms[1]?=some ms[1]:=Mw (by lia);have g2:ms[2]?=some ms[2]:=Mw (by lia);have g3:ms[3]?=some ms[3]:=Mw (by lia);have g4:ms[4]?=some ms[4]:=Mw (by lia);have g5:ms[5]?=some ms[5]:=Mw (by lia);have S6:=Ax.same;walk_at "";refine bh (SqL.of hx) (eF g4) ?_;walk_at "";have t0:=Ot ms[4] (show(3:Int)≠0 by decide);have t3:=N0 ms[4] (show(0:Int)<3 by decide);generalize ms[4] % 3=tp at t0 t3 ⊢;refine bh (SqL.of hx) (eF g0) ?_;walk_at "";refine⟨_,_,_,rfl,by lia,by lia,by lia,by lia,fun p1 H7 h1 S7 o1 r1=>?_⟩;walk_at "";refine bh (SqL.of (S7 _ _ hx)) (eF g1) ?_;walk_at "";refine⟨_,_,_,rfl,by lia,by lia,by lia,by lia,fun p2 H8 h2 S8 o2 r2=>?_⟩;have S68:=S7.trans S8;obtain⟨xs0,hl0,rp0⟩:=A5.at_;have lx0:xs0.length=po.length:=by rw[rp0.length,Mv]
  have fin:∀(D:bJ),(∀σ H',(∃(po:List Tn) (u3 u4 u5 u6 u7:Option V),σ=[some (.ref a),some (.int (m:Int)),some (.ref l),u3,u4,u5,u6,u7]/\AccZ K H l H' (po.map dT)/\po.length=i+1/\(∀t∈po,Ku m t)/\H' l3=some (.lst ((cs++[c3]).map V.int)))->D.nx σ H') ->
    ∀(H9:Hp) (v6 v7:V) (k1 k2:List Int),Same H6 H9->bi m k1->bi m k2->Rz K H9 v6 (dI k1)->Rz K H9 v7 (dI k2)->og K D [some (.ref a),some (.int (m:Int)),some (.ref l),some (.int c),some (.ref x),some (.int (1+tp)),some v6,some v7] H9:=by
   intro D hD H9 v6 v7 k1 k2 S9 ok1 ok2 rk1 rk2;unfold og;have S59:=S6.trans S9;have A9:=A5.on S59;walk_at "";refine⟨A9.ty,?_⟩;walk_at "";refine bh (SqL.of (S9 _ _ hx)) (eF g2) ?_;walk_at "";refine bh (SqL.of (S9 _ _ hx)) (eF g3) ?_;walk_at "";have a0:=Ot ms[2] (show(99:Int)≠0 by decide);have a1:=N0 ms[2] (show(0:Int)<99 by decide);have b0:=Ot ms[3] (show(9:Int)≠0 by decide);have b1:=N0 ms[3] (show(0:Int)<9 by decide);refine⟨_,_,rfl,by lia,by lia,by lia,by lia,fun p9 q9 d9 Za S10 pk r10=>?_⟩;walk_at "";refine⟨iK,fun pt npt=>?_⟩;have YT:=au npt (.tup [v6,v7,.ref p9]);have r11:Rz K (upd Za pt (.tup [v6,v7,.ref p9])) (.ref pt) (dT ⟨k1,k2,q9,d9⟩):=.tup ak (.cons ((rk1.same S10).same YT) (.cons ((rk2.same S10).same YT) (.cons (r10.same YT) .nil)));have A11:=(A9.on S10).on YT;have e11:=YT _ _ (S10 _ _ (S59 _ _ e5));generalize upd Za pt (.tup [v6,v7,.ref p9])=H11 at YT r11 A11 e11 ⊢;walk_at "";refine kY A11 r11 (aX (by rw[Mv];lia)) fun H12 A12 _ ot _=>?_
   refine hD _ _ ⟨po++[⟨k1,k2,q9,d9⟩],_,_,_,_,_,rfl,by rw[M8];exact A12,by rw[M3,lp];rfl,fun t ht=>?_,by rw[ot _ nl3];exact e11⟩;rcases Ni.mp ht with z|z
   ·exact op t z
   ·rw[MK.mp z];exact⟨ok1,ok2,pk⟩
  have mid:∀(D:bJ),(∀σ H',(∃(po:List Tn) (u3 u4 u5 u6 u7:Option V),σ=[some (.ref a),some (.int (m:Int)),some (.ref l),u3,u4,u5,u6,u7]/\AccZ K H l H' (po.map dT)/\po.length=i+1/\(∀t∈po,Ku m t)/\H' l3=some (.lst ((cs++[c3]).map V.int)))->D.nx σ H') ->
    ∀(H9:Hp) (v6 v7:V) (k1 k2:List Int),Same H6 H9->bi m k1->bi m k2->Rz K H9 v6 (dI k1)->Rz K H9 v7 (dI k2)->ar (xW K) (og K) D [some (.ref a),some (.int (m:Int)),some (.ref l),some (.int c),some (.ref x),some (.int (1+tp)),some v6,some v7] H9:=by
   intro D hD H9 v6 v7 k1 k2 S9 ok1 ok2 rk1 rk2;have F:=fin D hD;have S59:=S6.trans S9;walk_at "";unfold xW;walk_at "";refine bh (SqL.of (S9 _ _ hx)) (eF g5) ?_;walk_at "";refine bL (fun _=>?_) (fun _=>?_)
   ·walk_at "";refine cr (SqL.of (S59 _ _ hl0)) ?_;walk_at "";refine bL (fun z=>?_) (fun _=>?_)
    ·have ne:po≠[]:=fun e=>by rw[lx0,e] at z;exact absurd z (by decide)
     walk_at "";refine bh (SqL.of (S9 _ _ hx)) (eF g0) ?_;walk_at "";refine cr (SqL.of (S59 _ _ hl0)) ?_;refine jB (show(0:Int)<(xs0.length:Int) by lia) ?_;obtain⟨v,t,e,mt,_,rt⟩:=Ks (rp0.same S59) ne ms[0];refine bh (SqL.of (S59 _ _ hl0)) e ?_;obtain⟨p,w1,w2,w3,rfl,hp,q1,q2,_⟩:=pZ rt;walk_at "";refine bI (SqT.of hp) (v:=w2) rfl ?_;walk_at "";exact F H9 w2 v7 t.to k2 S9 (op t mt).2.1 ok2 q2 rk2
    ·walk_at "";exact F H9 v6 v7 k1 k2 S9 ok1 ok2 rk1 rk2
   ·walk_at "";exact F H9 v6 v7 k1 k2 S9 ok1 ok2 rk1 rk2
  have om:∀{hs:List Int},bi (m:Int).toNat hs->bi m hs:=fun h=>by rwa [Ol] at h
  walk_at "";refine bh (SqL.of (S68 _ _ hx)) (eF g5) ?_;walk_at "";refine bL (fun _=>?_) (fun _=>?_)
  ·walk_at "";refine⟨_,_,_,rfl,by lia,by lia,by decide,by decide,fun p3 H9 h3' S9 o3 r3=>?_⟩;walk_at "";exact mid _ (fun _ _ h=>h) H9 (.ref p1) (.ref p3) h1 h3' (S68.trans S9) (om o1) (om o3) ((r1.same S8).same S9) r3
  ·walk_at "";exact mid _ (fun _ _ h=>h) H8 (.ref p1) (.ref p2) h1 h2 S68 (om o1) (om o2) (r1.same S8) r2
 ·rintro σ H5 ⟨po,u3,u4,u5,u6,u7,rfl,A5,lp,op,e5⟩;walk_at "";refine q l H5 po A5 (fun e=>?_) op;rw[e,Mv,lcs] at lp;cases lp
theorem K3(t:Tn)(l1:t.fr.length<=1000)(l2:t.to.length<=1000):pw 2 (dT t)=true:=by
 have i:∀(ns:List Int),ns.length<=1000->pw 1 (dI ns)=true:=fun ns l=>zE (by rw[Mv];exact l) fun d hd=>by
  obtain⟨n,_,rfl⟩:=MR.mp hd;rfl
 refine zE (by show 3<=1000;decide) fun d hd=>?_
 simp only[MD,MF,or_false] at hd;rcases hd with rfl|rfl|rfl
 ·exact i _ l1
 ·exact i _ l2
 ·exact i [t.q,t.d] (by show 2<=1000;decide)
theorem CP(ss:List Str)(l:ss.length<=1000)(n:Nat):pw (n+1) (.list (ss.map Nw))=true:=GA (by rw[Mv];exact l) fun d hd=>by
 obtain⟨w,_,rfl⟩:=MR.mp hd;cases n <;> rfl
theorem IH(o:DOk d):pw 4 (dV d.ws d.ts)=true:=by
 have l5:=o.st.1.2;have l8:=o.l8;refine zE (by show 2<=1000;decide) fun e he=>?_
 simp only[MD,MF,or_false] at he;rcases he with rfl|rfl
 ·refine zE (by rw[Mv];lia) fun d hd=>?_
  obtain⟨w,_,rfl⟩:=MR.mp hd;rfl
 ·refine zE (by rw[Mv];lia) fun e he=>?_
  obtain⟨t,ht,rfl⟩:=MR.mp he;have ot:=o.tt t ht;exact K3 t (by have:=ot.1.1;lia) (by have:=ot.2.1.1;lia)
theorem GB(o:DOk d):pw 4 (.list ((d.ws.zip d.c).map dP))=true:=by
 have l5:=o.st.1.2;refine GA (by rw[Mv,Rf];lia) fun e he=>?_
 obtain⟨p,_,rfl⟩:=MR.mp he;rfl
end Dk
namespace L2
section
variable{D:bJ}{E:St->XK}{σ:St}{H:Hp}
theorem JB{tc:TT}{t u:TB}(h:tc σ H fun d H1=>if d=true then t D E σ H1 else u D E σ H1):J3 tc t u D E σ H:=h
theorem EE{K:Fg}{t:TB}(h:t D (fun σ'=>Ba K Dv ts D σ') σ H):Fi K Dv t ts D σ H:=h
end
end L2
namespace Dk
open PySem L2 Fr G1 Sm Vs Dn Rk Wd
open PySem.W (Dat kqdOk)
structure Ex (K:Fg) (x:Ex0.Ad):Prop where
 s4:fo K x.c4 x.V
 s5:fo K x.c5 x.V
 s7:fo K x.c7 x.V
 s12:fo K x.c12 x.V
 e7:sL K x.c7
 f7:sM K x.c7 "at"
theorem pT{hs:List (List Int)}{x:List Int}(m:x∈hs):x∈dJ hs h:=by
 unfold dJ;split
 ·exact m
 ·exact Ni.mpr (.inl m)
theorem sf(hs:List (List Int))(h:List Int):h∈dJ hs h:=by
 unfold dJ;split
 ·assumption
 ·exact Ni.mpr (.inr (MK.mpr rfl))
theorem pV:∀(ts:List Tn) {hs:List (List Int)} {x:List Int},x∈hs->x∈jC hs ts
 |[],_,_,m=>m
 |t :: ts,_,_,m=>pV ts (pT (pT m))
theorem v0:∀{ts:List Tn} {hs:List (List Int)} {t:Tn},t∈ts->t.fr∈jC hs ts/\t.to∈jC hs ts
 |u :: ts,hs,t,m=>by
  rcases MD.mp m with rfl|z
  ·exact⟨pV ts (pT (sf _ _)),pV ts (sf _ _)⟩
  ·exact v0 (ts:=ts) z
theorem apart{H:Hp}{o u:HO}(h:H a=some o)(g:H b=some u)(n:o≠u):a≠b:=fun e=>by rw[e,g] at h;exact n (MY h).symm
theorem xC(h:eG ws)(w1:1<=ws.length)(w5:ws.length<=5):Hz ws:=⟨Nv.KA h w1 w5,fun w hw=>Nv.wy (h.2 w hw)⟩
theorem Kx(h:eG ws)(w5:ws.length<=5):Tr2.WdOk ws:=⟨h.1,w5,fun w hw=>⟨(h.2 w hw).2.2,(h.2 w hw).2.1⟩⟩
theorem zO{H:Hp}(nx:H x=none)(nd:H dx=none)(U:Up [x] (upd (upd H dx (.own x)) x (.ins C dx [])) H'):Same H H':=fun b o e=>U _ _ (fun m=>aC e nx (MK.mp m)) (by rw[av (aC e nx),av (aC e nd)];exact e)
theorem Jm{sp:Sp}{Yt:List V}{t:TA}{H:Hp}{Q:VK}(h:t σ H fun vs H1=>∀x dx,H1 x=none->H1 dx=none->dx≠x->sp (.ref x :: (vs++Yt)) (upd (upd H1 dx (.own x)) x (.ins C dx [])) (fun v H2=>v=.non/\Q (.ref x) H2) E):wC C sp Yt E t σ H Q:=h
end Dk
namespace Dh
open PySem L2 Fr G1 Sm Vs Dk
open PySem.W (Dat kqdOk)
structure Ds where
 dx:Addr
 l:Addr
 ws:List Str
 ts:List Tn
 c:List Int
 h:List (List Tn×List Int)
def dH(p:List Tn×List Int):Dat:=.tuple [.tuple (p.1.map dT),dI p.2]
structure At (K:Fg) (C:Addr) (H:Hp) (a:Addr) (d:Ds) (vs vt vp:V) (xs:List V):Prop where
 ins:H a=some (.ins C d.dx (pX vs vt vp d.l))
 own:H d.dx=some (.own a)
 lst:H d.l=some (.lst xs)
 hx:RzL K H xs (d.h.map dH)
 s:Rz K H vs (.tuple (d.ws.map Nw))
 t:Rz K H vt (.tuple (d.ts.map dT))
 p:Rz K H vp (dI d.c)
def Desk(K:Fg)(C:Addr)(H:Hp)(a:Addr)(d:Ds):Prop:=∃vs vt vp xs,At K C H a d vs vt vp xs
section
variable{K:Fg}{C a:Addr}{H H' H2:Hp}{d:Ds}{vs vt vp:V}{xs:List V}{mg:Str->Option Mu}{Q:VK}{M:List Addr}
theorem At.same(A:At K C H a d vs vt vp xs)(e:Same H H'):At K C H' a d vs vt vp xs:=⟨e _ _ A.ins,e _ _ A.own,e _ _ A.lst,A.hx.same e,A.s.same e,A.t.same e,A.p.same e⟩
theorem At.len(A:At K C H a d vs vt vp xs):xs.length=d.h.length:=by rw[A.hx.length,Mv]
theorem Desk.same(A:Desk K C H a d)(e:Same H H'):Desk K C H' a d:=by obtain⟨vs,vt,vp,xs,B⟩:=A;exact⟨vs,vt,vp,xs,B.same e⟩
theorem At.ne(A:At K C H a d vs vt vp xs):a≠d.l:=fun e=>by have:=A.ins;rw[e,A.lst] at this;cases this
theorem fS(k:Kl K mg C) (A:At K C H a d vs vt vp xs) {P:V->Prop} (q:P vs):∃a' C' dx fs v,V.ref a=.ref a'/\H a'=some (.ins C' dx fs)/\Cls K C'/\dh K C' "stuffs"/\fs.lookup ("stuffs":Str)=some v/\P v:=⟨a,C,_,_,vs,rfl,A.ins,k.cl,k.n1,rfl,q⟩
theorem fT(k:Kl K mg C) (A:At K C H a d vs vt vp xs) {P:V->Prop} (q:P vt):∃a' C' dx fs v,V.ref a=.ref a'/\H a'=some (.ins C' dx fs)/\Cls K C'/\dh K C' "turnings"/\fs.lookup ("turnings":Str)=some v/\P v:=⟨a,C,_,_,vt,rfl,A.ins,k.cl,k.n2,rfl,q⟩
theorem fP(k:Kl K mg C) (A:At K C H a d vs vt vp xs) {P:V->Prop} (q:P vp):∃a' C' dx fs v,V.ref a=.ref a'/\H a'=some (.ins C' dx fs)/\Cls K C'/\dh K C' "pieces"/\fs.lookup ("pieces":Str)=some v/\P v:=⟨a,C,_,_,vp,rfl,A.ins,k.cl,k.n3,rfl,q⟩
theorem fD(k:Kl K mg C) (A:At K C H a d vs vt vp xs) {P:V->Prop} (q:P (.ref d.l)):∃a' C' dx fs v,V.ref a=.ref a'/\H a'=some (.ins C' dx fs)/\Cls K C'/\dh K C' "deeds"/\fs.lookup ("deeds":Str)=some v/\P v:=⟨a,C,_,_,.ref d.l,rfl,A.ins,k.cl,k.n4,rfl,q⟩
theorem At.nt(A:At K C H a d vs vt vp xs):∀b∈[a,d.l],∀ys,H b≠some (.tup ys):=by
 intro b hb ys e;simp only[MD,MF,or_false] at hb;rcases hb with rfl|rfl
 ·rw[A.ins] at e;cases e
 ·rw[A.lst] at e;cases e
theorem At.rz(A:At K C H a d vs vt vp xs)(e:Up [a,d.l] H H')(r:Rz K H v x):Rz K H' v x:=r.agr (e.agr A.nt)
theorem At.dne(A:At K C H a d vs vt vp xs):d.dx≠a/\d.dx≠d.l:=by
 constructor
 ·intro e;have:=A.own;rw[e,A.ins] at this;cases this
 ·intro e;have:=A.own;rw[e,A.lst] at this;cases this
theorem up3{l:Addr}:Up [a,l] H (upd (upd (upd H l o) a u) a w):=fun b x nb e=>by
 simp only[MD,MF,or_false,not_or] at nb;rw[av nb.1,av nb.1,av nb.2];exact e
end
def iF(K:Fg)(C:Addr):Sp:=fun vs H Q _=>∃(a:Addr) (v1 v2:V) (d:Ds) (ts:List Tn) (c:List Int),vs=[.ref a,v1,v2]/\Desk K C H a d/\Rz K H v1 (.tuple (ts.map dT))/\Rz K H v2 (dI c)/\d.h.length<1000 /\
 ∀H',Up [a,d.l] H H'->Desk K C H' a {d with ts:=ts,c:=c,h:=d.h++[(d.ts,d.c)]}->Q .non H'
def xR (K:Fg):TS:=(ar (dS (j4 K "list" cE (cP K (ac 0) "deeds") (ag (f_ (ag (cP K (ac 0) "turnings") (ag (cP K (ac 0) "pieces") am))) am)))
 (ar (l7 K (ac 0) (ac 1) "turnings")
 (l7 K (ac 0) (ac 2) "pieces")))
theorem FQ{K:Fg}(k:Kl K mg C){N:List Str}(hN:N.length=3)(h:iF K C vs H Q E):xR K (ends Q) (L2.start N vs) H:=by
 obtain⟨a,v1,v2,d,ts,c,rfl,⟨vs,vt,vp,xs,A⟩,r1,r2,n9,q⟩:=h;rw[L2.bv hN];walk_at "t";unfold xR;walk_at "d";refine fD k A ?_;refine⟨uN A.lst,?_⟩;walk_at "d";refine fT k A ?_;walk_at "d";refine fP k A ?_;walk_at "d";refine⟨cC,fun p np=>?_⟩;have S1:Same H (upd H p (.tup [vt,vp])):=au np _;have A1:=A.same S1;have rp:Rz K (upd H p (.tup [vt,vp])) (.ref p) (dH (d.ts,d.c)):=.tup ak (.cons A1.t (.cons A1.p .nil));generalize upd H p (.tup [vt,vp])=H1 at S1 A1 rp ⊢;walk_at "d";refine⟨d.l,xs,_,rfl,rfl,A1.lst,by rw[A.len,Oi];lia,?_⟩;walk_at "d";refine⟨a,C,d.dx,_,rfl,by rw[av A.ne];exact A1.ins,k.cl,k.n2,by show 4<1000;decide,?_⟩;walk_at "d";refine⟨a,C,d.dx,_,rfl,ak,k.cl,k.n3,by rw[Cw];show 4<1000;decide,?_⟩;have U1:=up3 (H:=H1) (a:=a) (l:=d.l) (o:=.lst (xs++[.ref p])) (u:=.ins C d.dx (bD "turnings" v1 (pX vs vt vp d.l))) (w:=.ins C d.dx (bD "pieces" v2 (bD "turnings" v1 (pX vs vt vp d.l))));have U:=(Up.of_same S1).trans U1;refine q _ U ⟨vs,v1,v2,xs++[.ref p],⟨?_,?_,?_,?_,A.rz U A.s,A.rz U r1,A.rz U r2⟩⟩
 ·show upd _ a _ a=_;rw[ak,Cw,Iv]
 ·show upd _ a _ d.dx=_;rw[av A.dne.1,av A.dne.1,av A.dne.2];exact A1.own
 ·show upd _ a _ d.l=_;rw[av A.ne.symm,av A.ne.symm,ak]
 ·show RzL K _ _ ((d.h++[(d.ts,d.c)]).map dH);rw[M8];exact(A1.hx.agr (U1.agr A1.nt)).append (.cons (A1.rz U1 rp) .nil)
def cQ(K:Fg)(C:Addr):Sp:=fun vs H Q _=>∃(a dx b:Addr) (ws:List Str),vs=[.ref a,.ref b]/\H a=some (.ins C dx [])/\H dx=some (.own a)/\SqL K H b (ws.map V.str)/\Hz ws /\
 ∀(H':Hp) (l:Addr),H l=none->Up [a] H H'->Desk K C H' a ⟨dx,l,ws,[],Nq ws.length 0,[]⟩->Q .non H'
def xS (K:Fg) (x:Ex0.Ad):TS:=(ar (l7 K (ac 0) (aW (Nv.gY K x.c1) [] E0 (ag (ac 1) am)) "stuffs")
 (ar (l7 K (ac 0) (f_ am) "turnings")
 (ar (l7 K (ac 0) (aA (Il K) (f_ (ag (tC (.int 0)) am)) (bQ (b8 K) (ag (cP K (ac 0) "stuffs") am))) "pieces")
 (l7 K (ac 0) (cz am) "deeds"))))
theorem FR{K:Fg}(k:Kl K mg C){N:List Str}(hN:N.length=2)(h:cQ K C vs H Q E):xS K x (ends Q) (L2.start N vs) H:=by
 obtain⟨a,dx,b,ws,rfl,ha,Zh,hb,wo,q⟩:=h;rw[L2.bv hN];walk_at "t";unfold xS;walk_at "d";refine⟨b,ws,rfl,.inl hb,wo.pl,by have:=wo.st.1.2;lia,fun _ p H1 S1 hp=>?_,fun z=>absurd wo.st z⟩;walk_at "d";refine⟨a,C,dx,[],rfl,S1 _ _ ha,k.cl,k.n1,by decide,?_⟩;have rs1:Rz K H1 (.ref p) (.tuple (ws.map Nw)):=.tup hp (.strs ws);obtain⟨U2,r2⟩:=vn (K:=K) (S1 _ _ ha) (.ins C dx (bD "stuffs" (.ref p) []));have U2:=(Up.of_same S1).trans U2;have rs:=r2 rs1;have i2:upd H1 a (.ins C dx (bD "stuffs" (.ref p) [])) a=some (.ins C dx [("stuffs",.ref p)]):=ak;generalize upd H1 a (.ins C dx (bD "stuffs" (.ref p) []))=H2 at U2 rs i2 ⊢;clear r2;walk_at "d";refine⟨by decide,fun p2 n2=>?_⟩;walk_at "d";have S3:Same H2 (upd H2 p2 (.tup [])):=au n2 _;have rt:Rz K (upd H2 p2 (.tup [])) (.ref p2) (.tuple []):=.tup ak .nil;generalize upd H2 p2 (.tup [])=H3 at S3 rt ⊢;refine⟨a,C,dx,_,rfl,S3 _ _ i2,k.cl,k.n2,by show 1<1000;decide,?_⟩;obtain⟨U4,r4⟩:=vn (K:=K) (S3 _ _ i2) (.ins C dx (bD "turnings" (.ref p2) [("stuffs",.ref p)]));have U4:=(U2.trans (Up.of_same S3)).trans U4;have rs:=r4 (rs.same S3);have rt:=r4 rt
 have i4:upd H3 a (.ins C dx (bD "turnings" (.ref p2) [("stuffs",.ref p)])) a=some (.ins C dx [("stuffs",.ref p),("turnings",.ref p2)]):=by
  rw[ak,bD,if_neg (by decide),bD]
 generalize upd H3 a (.ins C dx (bD "turnings" (.ref p2) [("stuffs",.ref p)]))=H4 at U4 rs rt i4 ⊢;clear r4;walk_at "d";refine⟨by decide,fun p3 n3=>?_⟩;walk_at "d";have S5:Same H4 (upd H4 p3 (.tup [.int 0])):=au n3 _;have h3:upd H4 p3 (.tup [.int 0]) p3=some (.tup [.int 0]):=ak;generalize upd H4 p3 (.tup [.int 0])=H5 at S5 h3 ⊢;refine⟨a,C,dx,_,_,rfl,S5 _ _ i4,k.cl,k.n1,rfl,?_⟩;walk_at "d";obtain⟨p',xs,e,hp5,rx5⟩:=(rs.same S5).cf;cases e;have ex:=rx5.gr;subst ex;refine mO (SqT.of hp5) ?_;have h15:=wo.st.1;refine⟨p3,.int 0,ws.length,rfl,by rw[Mv],h3,h15.1,h15.2,fun l6 H6 S6 h6=>?_⟩;have S46:=S5.trans S6;walk_at "d";refine⟨a,C,dx,_,rfl,S46 _ _ i4,k.cl,k.n3,by show 2<1000;decide,?_⟩
 have rp:Rz K H6 (.ref l6) (dI (Nq ws.length 0)):=.tup h6 (by
  have:=RpL.ints (K:=K) (S:=F0) (H:=H6) (Nq ws.length 0)
  rwa [List.map_replicate] at this)
 obtain⟨U7,r7⟩:=vn (K:=K) (S46 _ _ i4) (.ins C dx (bD "pieces" (.ref l6) [("stuffs",.ref p),("turnings",.ref p2)]));have U7:=(U4.trans (Up.of_same S46)).trans U7;have rs:=r7 (rs.same S46);have rt:=r7 (rt.same S46);have rp:=r7 rp
 have i7:upd H6 a (.ins C dx (bD "pieces" (.ref l6) [("stuffs",.ref p),("turnings",.ref p2)])) a=some (.ins C dx [("stuffs",.ref p),("turnings",.ref p2),("pieces",.ref l6)]):=by
  rw[ak,bD,if_neg (by decide),bD,if_neg (by decide),bD]
 generalize upd H6 a (.ins C dx (bD "pieces" (.ref l6) [("stuffs",.ref p),("turnings",.ref p2)]))=H7 at U7 rs rt rp i7 ⊢;clear r7;walk_at "d";refine⟨by decide,fun l nl=>?_⟩;walk_at "d";have S8:Same H7 (upd H7 l (.lst [])):=au nl _;have hl:upd H7 l (.lst []) l=some (.lst []):=ak;generalize upd H7 l (.lst [])=H8 at S8 hl ⊢;refine⟨a,C,dx,_,rfl,S8 _ _ i7,k.cl,k.n4,by show 3<1000;decide,?_⟩;obtain⟨U9,r9⟩:=vn (K:=K) (S8 _ _ i7) (.ins C dx (bD "deeds" (.ref l) [("stuffs",.ref p),("turnings",.ref p2),("pieces",.ref l6)]));have la:l≠a:=fun z=>by rw[z,i7] at nl;cases nl
 have dna:dx≠a:=fun z=>by rw[z,ha] at Zh;cases Zh
 have nb:∀{b:Addr},b≠a->b∉[a]:=fun h z=>h (MK.mp z)
 have U89:Up [a] H (upd H8 a (.ins C dx (bD "deeds" (.ref l) [("stuffs",.ref p),("turnings",.ref p2),("pieces",.ref l6)]))):=(U7.trans (Up.of_same S8)).trans U9;refine q _ l ?_ U89 ⟨.ref p,.ref p2,.ref l6,[],⟨?_,?_,?_,.nil,r9 (rs.same S8),r9 (rt.same S8),r9 (rp.same S8)⟩⟩
 ·cases z:H l with
  |none=>rfl
  |some o=>have:=U7 _ _ (nb la) z;rw[nl] at this;cases this
 ·rw[ak,bD,if_neg (by decide),bD,if_neg (by decide),bD,if_neg (by decide),bD]
 ·exact U89 _ _ (nb dna) Zh
 ·show upd _ a _ l=_;rw[av la];exact hl
def gX(K:Fg)(C:Addr):Sp:=fun vs H Q _=>∃(a:Addr) (d:Ds),vs=[.ref a]/\Desk K C H a d/\Tw.WsOk d.ws/\d.ts.length<=8/\(∀t∈d.ts,Tw.TtOk d.ws t) /\
 ∀(p:Addr) (H':Hp),AccZ K H p H' ((d.ts.map (Tw.turnT d.ws)).map Nw)->Q (.ref p) H'
def sX (K:Fg):TS:=(aU (fh (mr K (cP K (ac 0) "turnings")) (aW (Tw.oE K) [] E0 (ag (cP K (ac 1) "stuffs") (ag (ac 0) am)))))
theorem B_{K:Fg}(k:Kl K mg C){N:List Str}(hN:N.length=1)(h:gX K C vs H Q E):sX K (ends Q) (L2.start N vs) H:=by
 obtain⟨a,d,rfl,⟨vs,vt,vp,xs,A⟩,wo,l8,to,q⟩:=h;rw[L2.bv hN];walk_at "t";obtain⟨b,ys,rfl,hb,rx⟩:=A.t.cf;unfold sX;walk_at "d";refine fT k A ⟨b,rfl,⟨_,SqT.of hb⟩,?_⟩;refine Tw.BI ⟨wo,l8,to⟩ hb rx (fun H2 z t Q' S2 rz ot q'=>?_) q;walk_at "d";refine fS k (A.same S2) ?_;walk_at "d";exact⟨vs,z,d.ws,t,rfl,A.s.same S2,rz,wo,ot,q'⟩
def oz(K:Fg)(C:Addr):Sp:=fun vs H Q _=>∃(a:Addr) (d:Ds),vs=[.ref a]/\Desk K C H a d/\d.ws.length=d.c.length/\d.ws.length<=5 /\
 ∀(p:Addr) (H':Hp),AccZ K H p H' ((d.ws.zip d.c).map Dk.dP)->Q (.ref p) H'
def tG (K:Fg):TS:=(aU (oo (ag (cP K (ac 0) "stuffs") (ag (cP K (ac 0) "pieces") am))))
theorem Ck{K:Fg}(k:Kl K mg C){N:List Str}(hN:N.length=1)(h:oz K C vs H Q E):tG K (ends Q) (L2.start N vs) H:=by
 obtain⟨a,d,rfl,⟨vs,vt,vp,xs,A⟩,el,l5,q⟩:=h;obtain⟨b,ys,rfl,hb,rx⟩:=A.s.cf;have ey:=rx.gr;subst ey;obtain⟨c,zs,rfl,hc,rz⟩:=(show Rz K H vp (.tuple (d.c.map PV)) from A.p).cf;have ez:=rz.ints_of;subst ez;rw[L2.bv hN];walk_at "t";unfold tG;walk_at "d";refine Ai ?_;walk_at "d";refine fS k A ?_;walk_at "d";refine fP k A ?_;walk_at "d";refine⟨b,c,_,_,rfl,hb,hc,by rw[Mv,Mv];exact el,by rw[Mv];lia,fun S YO H' nS sm hS lv pr=>q S H' ⟨sm,nS,YO,hS,RzL.of_get ?_ fun i e he=>?_⟩⟩
 ·rw[lv,Mv,Mv,Rf];lia
 ·rw[ME] at he;obtain⟨p,hp,rfl⟩:=MI.mp he;obtain⟨w,n⟩:=p;obtain⟨e1,e2⟩:=OV.mp hp;have li:=(My.mp e1).1;obtain⟨T,p1,p2⟩:=pr i (.str w) (.int n) (by rw[Mv];exact li) (by rw[ME,e1];rfl) (by rw[ME,e2];rfl);exact⟨.ref T,p1,.tup p2 (.cons (.str _) (.cons (.int _) .nil))⟩
structure DOk (d:Ds):Prop where
 st:Nv.StOk d.ws
 pl:∀w∈d.ws,Nv.Plain w
 wd:Tr2.WdOk d.ws
 ln:d.c.length=d.ws.length
 tt:∀t∈d.ts,Tw.TtOk d.ws t
 ck:d.ts=[]\/Nv.lM d.ts
theorem DOk.l8(o:DOk d):d.ts.length<=8:=by
 rcases o.ck with z|z
 ·rw[z];decide
 ·exact z.2.1
open Dn (EQ beh pr)
def eP(K:Fg)(C:Addr)(x:Ex0.Ad):Sp:=fun vs H Q E=>∃(a:Addr) (d:Ds) (t:Tn),vs=[.ref a,.str (Tw.turnT d.ws t)]/\Desk K C H a d/\DOk d/\Tw.TtOk d.ws t /\
 (∀(j:Nat) (H':Hp),first d.ts t j->Same H H'->Q (.int j) H')/\(t∉d.ts->∀H',Same H H'->E (.ref x.c5) none H')
def jU (K:Fg) (dD:Addr) (E:XK) (x:Ex0.Ad):TS:=(ar (aQ (fg dD "texts" (gX K dD) [] E0 (ac 0) am) (aJ 2))
 (ar (a_ (bq (aA (F9 K true) (ac 1) (ac 2)))
 (eJ E x.c5 (tC (.str "no turning with this text lies there")))
 bc)
 (aU (j4 K "list" (zf K) (ac 2) (ag (ac 1) am)))))
theorem wJ{K:Fg}(k:Kl K mg C){N:List Str}(hN:N.length=3)(h:eP K C x vs H Q E):jU K C E x (ends Q) (L2.start N vs) H:=by
 obtain⟨a,d,t,rfl,Dd,o,ot,q,qe⟩:=h;obtain⟨vs,vt,vp,xs,A⟩:=id Dd;rw[L2.bv hN];walk_at "t";unfold jU;walk_at "d";refine⟨a,d.dx,_,rfl,A.ins,rfl,?_⟩;walk_at "d";refine⟨a,d,rfl,Dd,o.wd.ok,o.l8,o.tt,fun p H1 A1=>?_⟩;walk_at "d"
 have ka:∀e∈((d.ts.map (Tw.turnT d.ws)).map Nw),kqdOk 8 e=true:=fun e he=>by
  obtain⟨s,hs,rfl⟩:=MR.mp he;obtain⟨u,hu,rfl⟩:=MR.mp hs;exact sT o.wd (o.tt u hu)
 have kd:kqdOk 8 (.str (Tw.turnT d.ws t))=true:=sT o.wd ot;refine C6 (d:=.str (Tw.turnT d.ws t)) (.str _) A1.rep ka kd (fun z=>?_) (fun z=>?_)
 ·walk_at "d";exact⟨rfl,qe (fun m=>z ((vx o.wd o.tt ot).mpr m)) H1 A1.same⟩
 ·walk_at "d";refine⟨A1.ty,?_⟩;walk_at "d";obtain⟨j,h1,h2⟩:=wc ((vx o.wd o.tt ot).mp z);refine GV (d:=.str (Tw.turnT d.ws t)) (j:=j) (.str _) A1.rep ka kd (by rw[ME,ME,h1];rfl) (fun m hm e=>h2 m hm ?_) (by rw[Mv,Mv];have:=o.l8;lia) (q j H1 ⟨h1,h2⟩ A1.same);rw[ME,ME] at e;cases g:d.ts[m]? with
  |none=>rw[g] at e;cases e
  |some u =>
   rw[g] at e;rw[Tg.vq o.wd (BF (o.tt u (MH g))) (BF ot) (Vg (MY e))]
def yj(K:Fg)(C:Addr)(x:Ex0.Ad):Sp:=fun vs H Q E=>∃(a:Addr) (d:Ds) (t:Tn),vs=[.ref a,.str (Tw.turnT d.ws t)]/\Desk K C H a d/\DOk d/\d.h.length<1000/\Tw.TtOk d.ws t /\
 (Nv.lM (d.ts++[t])->∀H',Up [a,d.l] H H'->Desk K C H' a {d with ts:=d.ts++[t],h:=d.h++[(d.ts,d.c)]}->Q .non H')/\(¬ Nv.lM (d.ts++[t])->∀H',Same H H'->E (.ref x.c4) none H')
def Fb (K:Fg) (dD:Addr) (E:XK) (x:Ex0.Ad):TS:=(ar (aQ (aW (Tr2.oF K) [] E0 (ag (cP K (ac 0) "stuffs") (ag (ac 1) am))) (aJ 2))
 (ar (a_ (bq (aA o5 (ac 2) (tC .non)))
 gT
 bc)
 (ar (aQ (aA (Ga K) (cP K (ac 0) "turnings") (f_ (ag (ac 2) am))) (aJ 3))
 (ar (dS (aW (Nv.oO K x.c4) [] E (ag (ac 3) am)))
 (dS (fg dD "keep" (iF K dD) [] E0 (ac 0) (ag (ac 3) (ag (cP K (ac 0) "pieces") am))))))))
theorem Ig{K:Fg}(k:Kl K mg C){N:List Str}(hN:N.length=4)(h:yj K C x vs H Q E):Fb K C E x (ends Q) (L2.start N vs) H:=by
 obtain⟨a,d,t,rfl,Dd,o,n9,ot,q,qe⟩:=h;obtain⟨vs,vt,vp,xs,A⟩:=id Dd;obtain⟨b,ys,rfl,hb,rx⟩:=A.t.cf;have ly:ys.length=d.ts.length:=by rw[rx.length,Mv]
 have l8:=o.l8;rw[L2.bv hN];walk_at "t";unfold Fb;walk_at "d";refine fS k A ?_;walk_at "d";refine⟨vs,d.ws,t,rfl,A.s,o.wd,ot,fun p H1 S1 rp=>?_⟩;walk_at "d";rw[decide_eq_false (show ¬ V.ref p=V.non from fun z=>by cases z)];walk_at "d";refine fT k (A.same S1) ?_;walk_at "d";refine⟨tP,fun p2 n2=>?_⟩;have S2:=au n2 (.tup [.ref p]);have h2:upd H1 p2 (.tup [.ref p]) p2=some (.tup [.ref p]):=ak;generalize upd H1 p2 (.tup [.ref p])=H2 at S2 h2 ⊢;have S02:=S1.trans S2;refine⟨b,p2,ys,_,rfl,rfl,S02 _ _ hb,h2,by rw[ly,Oi];simp only[OW];lia,fun l H3 S3 hl=>?_⟩;have S03:=S02.trans S3;walk_at "d";have rl:Rz K H3 (.ref l) (.tuple ((d.ts++[t]).map dT)):=.tup hl (by rw[M8];exact(rx.same S03).append (.cons (rp.same (S2.trans S3)) .nil));refine⟨.ref l,d.ts++[t],rfl,rl,by rw[M3];simp only[OW];lia,fun ok H4 S4=>?_,fun no H4 S4=>qe no H4 (S03.trans S4)⟩;have Zf:=S03.trans S4;walk_at "d";refine⟨a,d.dx,_,rfl,Zf _ _ A.ins,rfl,?_⟩;walk_at "d";refine fP k (A.same Zf) ?_;walk_at "d";exact⟨a,.ref l,vp,d,d.ts++[t],d.c,rfl,Dd.same Zf,rl.same S4,A.p.same Zf,n9,fun H' U D'=>q ok H' ((Up.of_same Zf).trans U) D'⟩
def tK(K:Fg)(C:Addr)(x:Ex0.Ad):Sp:=fun vs H Q E=>∃(a:Addr) (d:Ds) (t:Tn),vs=[.ref a,.str (Tw.turnT d.ws t)]/\Desk K C H a d/\DOk d/\d.h.length<1000/\Tw.TtOk d.ws t /\
 (∀(j:Nat) (H':Hp),first d.ts t j->Up [a,d.l] H H'->Desk K C H' a {d with ts:=d.ts.take j++d.ts.drop (j+1),h:=d.h++[(d.ts,d.c)]}->Q .non H')/\(t∉d.ts->∀H',Same H H'->E (.ref x.c5) none H')
def xK (K:Fg) (dD:Addr) (E:XK) (x:Ex0.Ad):TS:=(ar (aQ (fg dD "place_of" (eP K dD x) [] E (ac 0) (ag (ac 1) am)) (aJ 2))
 (dS (fg dD "keep" (iF K dD) [] E0 (ac 0) (ag (aA (Ga K) (xq (y_ K) (cP K (ac 0) "turnings") eO (gq (ac 2))) (xq (y_ K) (cP K (ac 0) "turnings") (gq (aA dj (ac 2) (tC (.int 1)))) eO)) (ag (cP K (ac 0) "pieces") am)))))
theorem FJ{K:Fg}(k:Kl K mg C){N:List Str}(hN:N.length=3)(h:tK K C x vs H Q E):xK K C E x (ends Q) (L2.start N vs) H:=by
 obtain⟨a,d,t,rfl,Dd,o,n9,ot,q,qe⟩:=h;obtain⟨vs,vt,vp,xs,A⟩:=id Dd;obtain⟨b,ys,rfl,hb,rx⟩:=A.t.cf;have ly:ys.length=d.ts.length:=by rw[rx.length,Mv]
 have l8:=o.l8;rw[L2.bv hN];walk_at "t";unfold xK;walk_at "d";refine⟨a,d.dx,_,rfl,A.ins,rfl,?_⟩;walk_at "d";refine⟨a,d,t,rfl,Dd,o,ot,fun j H1 fj S1=>?_,qe⟩;have lj:j<d.ts.length:=(My.mp fj.1).1;have A1:=A.same S1;walk_at "d";refine⟨a,d.dx,_,rfl,A1.ins,rfl,?_⟩;walk_at "d";refine fT k A1 ?_;walk_at "d"
 refine GP (SqT.of (S1 _ _ hb)) (by
  intro z
  have:=z.2
  rw[HT.oZ] at this
  lia) fun p np=>?_
 rw[Nv.DI (by lia)];have S2:=au np (.tup (ys.take (j:Int).toNat));have h2:upd H1 p (.tup (ys.take (j:Int).toNat)) p=some (.tup (ys.take (j:Int).toNat)):=ak;generalize upd H1 p (.tup (ys.take (j:Int).toNat))=H2 at S2 h2 ⊢;have A2:=A1.same S2;walk_at "d";refine fT k A2 ?_;walk_at "d"
 refine GP (SqT.of (S2 _ _ (S1 _ _ hb))) (by
  intro z
  have:=z.1
  rw[show(j:Int)+1=((j+1:Nat):Int) by lia,HT.oZ] at this
  lia) fun p2 np2=>?_
 rw[Nv.DJ (by lia),show((j:Int)+1).toNat=j+1 by lia,Ol] at *;have S3:=au np2 (.tup (ys.drop (j+1)));have h3:upd H2 p2 (.tup (ys.drop (j+1))) p2=some (.tup (ys.drop (j+1))):=ak;generalize upd H2 p2 (.tup (ys.drop (j+1)))=H3 at S3 h3 ⊢;refine⟨p,p2,_,_,rfl,rfl,S3 _ _ h2,h3,by rw[Ng,Oe,Oi];lia,fun l H4 S4 hl=>?_⟩;have Zf:=S1.trans (S2.trans (S3.trans S4));walk_at "d";refine fP k (A.same Zf) ?_;walk_at "d"
 have rl:Rz K H4 (.ref l) (.tuple ((d.ts.take j++d.ts.drop (j+1)).map dT)):=.tup hl (by
  rw[M8,XA,XB]
  exact((rx.same Zf).take j).append ((rx.same Zf).drop (j+1)))
 exact⟨a,.ref l,vp,d,_,d.c,rfl,Dd.same Zf,rl,A.p.same Zf,n9,fun H' U D'=>q j H' fj ((Up.of_same Zf).trans U) D'⟩
def tJ (K:Fg) (C:Addr) (x:Ex0.Ad):Sp:=fun vs H Q E=>∃(a:Addr) (d:Ds) (t:Tn),vs=[.ref a,.str (Tw.turnT d.ws t)]/\Desk K C H a d/\DOk d/\d.h.length<1000/\Tw.TtOk d.ws t/\sL K x.c7/\sM K x.c7 "at" /\
 (t∈d.ts->EQ (pr t) d.c=true->∀H',Up [a,d.l] H H'->Desk K C H' a {d with c:=beh (pr t) d.c,h:=d.h++[(d.ts,d.c)]}->Q .non H')/\(t∉d.ts->∀H',Same H H'->E (.ref x.c5) none H') /\
 (t∈d.ts->EQ (pr t) d.c=false->∀dx H',Same H H'->E (.ref x.c7) (some dx) H')
def xJ (K:Fg) (dD:Addr) (E:XK) (x:Ex0.Ad):TS:=(ar (aQ (aA (bB K) (cP K (ac 0) "turnings") (fg dD "place_of" (eP K dD x) [] E (ac 0) (ag (ac 1) am))) (aJ 2))
 (ar (a_ (dA (tB (aW (Wd.yq K) [] E0 (ag (ac 2) (ag (cP K (ac 0) "pieces") am)))))
 (jY E x.c7 (qA K x.c7 "at") (tC (.int 0)))
 bc)
 (dS (fg dD "keep" (iF K dD) [] E0 (ac 0) (ag (cP K (ac 0) "turnings") (ag (aW (Wd.yp K) [] E0 (ag (ac 2) (ag (cP K (ac 0) "pieces") am))) am))))))
theorem FI{K:Fg}(k:Kl K mg C){N:List Str}(hN:N.length=3)(h:tJ K C x vs H Q E):xJ K C E x (ends Q) (L2.start N vs) H:=by
 obtain⟨a,d,t,rfl,Dd,o,n9,ot,hS,hF,q,qe,qn⟩:=h;obtain⟨vs,vt,vp,xs,A⟩:=id Dd;obtain⟨b,ys,rfl,hb,rx⟩:=A.t.cf;have ly:ys.length=d.ts.length:=by rw[rx.length,Mv]
 rw[L2.bv hN];walk_at "t";unfold xJ;walk_at "d";refine fT k A ?_;walk_at "d";refine⟨a,d.dx,_,rfl,A.ins,rfl,?_⟩;walk_at "d";refine⟨a,d,t,rfl,Dd,o,ot,fun j H1 fj S1=>?_,qe⟩;have lj:j<d.ts.length:=(My.mp fj.1).1;have mt:t∈d.ts:=MH fj.1;have gy:ys[j]?=some ys[j]:=Mw (by lia);obtain⟨dd,g1,rz⟩:=rx.get gy;rw[ME,fj.1] at g1;cases MY g1;refine bI (SqT.of (S1 _ _ hb)) (v:=ys[j]) (bz gy) ?_;walk_at "d";refine fP k (A.same S1) ?_;walk_at "d";have l1:t.fr.length=d.c.length:=by rw[o.ln];exact ot.1.1
 have l2:t.to.length=d.c.length:=by rw[o.ln];exact ot.2.1.1
 have l5:=o.st.1.2;have ln:=o.ln;refine⟨ys[j],vp,t,d.c,rfl,rz.same S1,A.p.same S1,by lia,fun H2 S2=>?_⟩;have S02:=S1.trans S2;cases hc:EQ (pr t) d.c with
 |false =>
  walk_at "d";exact C5 hS hF fun dx H' S'=>qn mt hc dx H' (S02.trans S')
 |true =>
  walk_at "d";refine⟨a,d.dx,_,rfl,S02 _ _ A.ins,rfl,?_⟩;walk_at "d";refine fT k (A.same S02) ?_;walk_at "d";refine fP k (A.same S02) ?_;walk_at "d";refine⟨ys[j],vp,t,d.c,rfl,rz.same S02,A.p.same S02,l1,l2,by lia,fun p H3 S3 rp=>?_⟩;have S03:=S02.trans S3;walk_at "d";exact⟨a,.ref b,.ref p,d,d.ts,_,rfl,Dd.same S03,A.t.same S03,rp,n9,fun H' U D'=>q mt hc H' ((Up.of_same S03).trans U) D'⟩
def oy(K:Fg)(C:Addr)(x:Ex0.Ad):Sp:=fun vs H Q E=>∃(a:Addr) (d:Ds) (i:Nat) (w:Str) (c n:Int),vs=[.ref a,.str w,.int n]/\Desk K C H a d/\DOk d/\d.h.length<1000/\d.ws[i]?=some w/\d.c[i]?=some c /\
 (0<=c+n->∀H',Up [a,d.l] H H'->Desk K C H' a {d with c:=d.c.set i (c+n),h:=d.h++[(d.ts,d.c)]}->Q .non H')/\(c+n<0->∀H',Same H H'->E (.ref x.c12) none H')
def xN (K:Fg) (dD:Addr) (E:XK) (x:Ex0.Ad):TS:=(ar (a_ (bq (aA (zd K) (ac 1) (cP K (ac 0) "stuffs")))
 gT
 bc)
 (ar (aQ (Fs (ze K) (cP K (ac 0) "stuffs") (ag (ac 1) am)) (aJ 3))
 (ar (aQ (bQ (gw K) (ag (cP K (ac 0) "pieces") am)) (aJ 4))
 (ar (aQ (aA dj (aA (aZ K) (ac 4) (ac 3)) (ac 2)) (Dw (ac 4) (ac 3) F4))
 (ar (a_ (bq (aA xw (aA (aZ K) (ac 4) (ac 3)) (tC (.int 0))))
 (eJ E x.c12 (tC (.str "there would be fewer pieces than none")))
 bc)
 (dS (fg dD "keep" (iF K dD) [] E0 (ac 0) (ag (cP K (ac 0) "turnings") (ag (bQ (fA K) (ag (ac 4) am)) am)))))))))
theorem FM{K:Fg}(k:Kl K mg C){N:List Str}(hN:N.length=5)(h:oy K C x vs H Q E):xN K C E x (ends Q) (L2.start N vs) H:=by
 obtain⟨a,d,i,w,c,n,rfl,Dd,o,n9,hw,hc,q,qe⟩:=h;obtain⟨vs,vt,vp,xs,A⟩:=id Dd;obtain⟨b,ys,rfl,hb,rx⟩:=A.s.cf;have ey:=rx.gr;subst ey;obtain⟨pc,zs,rfl,hpc,rz⟩:=(show Rz K H vp (.tuple (d.c.map PV)) from A.p).cf;have ez:=rz.ints_of;subst ez;rw[L2.bv hN];walk_at "t"
 have ka:∀e∈(d.ws.map Nw),kqdOk 8 e=true:=fun e he=>by
  obtain⟨s,hs,rfl⟩:=MR.mp he;exact vz fun c hc=>by have:=o.wd.lt s hs c hc;lia
 have kd:kqdOk 8 (.str w)=true:=ka _ (MR.mpr ⟨w,MH hw,rfl⟩);have mw:Nw w∈d.ws.map Nw:=MR.mpr ⟨w,MH hw,rfl⟩;have li:i<d.c.length:=(My.mp hc).1;have l5:=o.st.1.2;have ln:=o.ln;unfold xN;walk_at "d";refine fS k A ?_;refine⟨.str w,d.ws.map Nw,.str _,A.s.rep,ka,kd,?_⟩;walk_at "d";rw[if_neg (by simp[mw])];walk_at "d";unfold Fs;walk_at "d";refine fS k A ⟨⟨b,_,rfl,hb⟩,?_⟩;walk_at "d";refine⟨b,.str w,d.ws.map Nw,.str w,i,rfl,rfl,.str _,A.s.rep,ka,kd,by rw[ME,hw];rfl,fun m hm e=>?_,by rw[Mv];lia,?_⟩
 ·rw[ME] at e;obtain⟨w',g,e2⟩:=MI.mp e;cases Vg e2;have lm:=(My.mp g)
  have lw:=(My.mp hw)
  obtain⟨lm1,lm2⟩:=lm;obtain⟨lw1,lw2⟩:=lw;exact Ow.mp o.st.2.2 m i lm1 lw1 hm (lm2.trans lw2.symm)
 walk_at "d";refine fP k A ?_;walk_at "d";refine Aj (SqT.of hpc) fun l nl=>?_
 have S1:=au nl (.lst (d.c.map V.int));have h1:upd H l (.lst (d.c.map V.int)) l=some (.lst (d.c.map V.int)):=ak;generalize upd H l (.lst (d.c.map V.int))=H1 at S1 h1 ⊢;walk_at "d";refine bh (SqL.of h1) (bz (by rw[ME,hc];rfl)) ?_;walk_at "d";refine EJ (uM (i:=4) rfl (uM (i:=3) rfl ?_));refine⟨l,_,_,i,rfl,rfl,h1,?_,?_⟩
 ·unfold Bs;rw[if_pos (by lia),if_pos (by rw[Mv];lia)];simp
 have S2:Same H (upd H1 l (.lst ((d.c.map V.int).set i (.int (c+n))))):=fun b o e=>by rw[av (aC e nl)];exact S1 _ _ e
 have h2:upd H1 l (.lst ((d.c.map V.int).set i (.int (c+n)))) l=some (.lst ((d.c.set i (c+n)).map V.int)):=by rw[ak,List.map_set]
 show ar _ _ _ _ _;generalize upd H1 l (.lst ((d.c.map V.int).set i (.int (c+n))))=H2 at S2 h2 ⊢;walk_at "d";refine bh (SqL.of h2) (bz (v:=.int (c+n)) (by rw[ME,OM li];rfl)) ?_;walk_at "d";by_cases z:c+n<0
 ·refine bL (fun _=>?_) fun y=>absurd (by simpa using z) y
  walk_at "d";exact⟨rfl,qe z H2 S2⟩
 ·refine bL (fun y=>absurd (by simpa using y) z) fun _=>?_
  walk_at "d";refine⟨a,d.dx,_,rfl,S2 _ _ A.ins,rfl,?_⟩;walk_at "d";refine fT k (A.same S2) ?_;walk_at "d";refine⟨l,_,rfl,.inl ⟨SqL.of h2,fun l3 n3=>?_⟩⟩;have S3:=au n3 (.tup ((d.c.set i (c+n)).map V.int));have h3:upd H2 l3 (.tup ((d.c.set i (c+n)).map V.int)) l3=some (.tup ((d.c.set i (c+n)).map V.int)):=ak;generalize upd H2 l3 (.tup ((d.c.set i (c+n)).map V.int))=H3 at S3 h3 ⊢;have S03:=S2.trans S3;walk_at "d";exact⟨a,vt,.ref l3,d,d.ts,d.c.set i (c+n),rfl,Dd.same S03,A.t.same S03,.tup h3 (.ints _),n9,fun H' U D'=>q (by lia) H' ((Up.of_same S03).trans U) D'⟩
theorem snoc{K:Fg}{S:Addr->Prop}{H:Hp}:∀{ds:List Dat} {xs:List V} {d:Dat},RpL K S H xs (ds++[d])->∃ys y,xs=ys++[y]/\RpL K S H ys ds/\Rp K S H y d
 |[],_,_,.cons r .nil=>⟨[],_,rfl,.nil,r⟩
 |_ :: _,_,_,.cons r rs=>by
  obtain⟨ys,y,e,q,w⟩:=snoc rs;exact⟨_ :: ys,y,by rw[e];rfl,.cons r q,w⟩
def ou(K:Fg)(C:Addr)(x:Ex0.Ad):Sp:=fun vs H Q E=>∃(a:Addr) (d:Ds),vs=[.ref a]/\Desk K C H a d /\
 (∀h p H',d.h=h++[p]->Up [a,d.l] H H'->Desk K C H' a {d with ts:=p.1,c:=p.2,h:=h}->Q .non H')/\(d.h=[]->∀H',Same H H'->E (.ref x.c13) none H')
def xI (K:Fg) (E:XK) (x:Ex0.Ad):TS:=(ar (a_ (bq (aA jL (bQ (b8 K) (ag (cP K (ac 0) "deeds") am)) (tC (.int 0))))
 (eJ E x.c13 (tC (.str "no deed is left that could be undone")))
 bc)
 (ar (aQ (BM K "list" F5 (cP K (ac 0) "deeds")) (aJ 1))
 (ar (l7 K (ac 0) (aA (Bq K) (ac 1) (tC (.int 0))) "turnings")
 (l7 K (ac 0) (aA (Bq K) (ac 1) (tC (.int 1))) "pieces"))))
theorem FH{K:Fg}(k:Kl K mg C){N:List Str}(hN:N.length=2)(h:ou K C x vs H Q E):xI K E x (ends Q) (L2.start N vs) H:=by
 obtain⟨a,d,rfl,⟨vs,vt,vp,xs,A⟩,q,qe⟩:=h;rw[L2.bv hN];walk_at "t";unfold xI;walk_at "d";refine fD k A ?_;walk_at "d";refine cr (SqL.of A.lst) ?_;walk_at "d";refine bL (fun z=>?_) (fun z=>?_)
 ·walk_at "d";exact⟨rfl,qe (On.mp (by have:=A.len;lia)) H (Same.refl _)⟩
 ·obtain⟨h,p,eh⟩:∃h p,d.h=h++[p]:=by
   rcases UM d.h with e|⟨h,p,e⟩
   ·exact absurd (show((xs.length:Nat):Int)=0 by rw[A.len,e];rfl) z
   ·exact⟨h,p,by rw[e,UN]⟩
  have hx:=A.hx;rw[eh,M8] at hx;obtain⟨ys,y,rfl,ry,rp⟩:=snoc hx;obtain⟨b,zs,rfl,hb,rb⟩:=rp.cf;cases rb with
  |cons r1 rb=>cases rb with
   |cons r2 rb=>cases rb with
    |nil =>
  walk_at "d";refine fD k A ?_;walk_at "d";refine⟨uN A.lst,?_⟩;refine⟨d.l,_,.ref b,rfl,rfl,A.lst,by simp,?_⟩;rw[Vk];have nb:d.l≠b:=fun e=>by rw[<- e,A.lst] at hb;cases hb
  have na:a≠b:=fun e=>by rw[<- e,A.ins] at hb;cases hb
  walk_at "d";refine rV (SqT.of (by rw[av nb.symm];exact hb)) rfl ?_;walk_at "d";refine⟨a,C,d.dx,_,rfl,by rw[av A.ne];exact A.ins,k.cl,k.n2,by show 4<1000;decide,?_⟩;walk_at "d";refine rV (SqT.of (by rw[av na.symm,av nb.symm];exact hb)) rfl ?_;walk_at "d";refine⟨a,C,d.dx,_,rfl,ak,k.cl,k.n3,by rw[Cw];show 4<1000;decide,?_⟩;rw[Cw,Iv];refine q h p _ eh up3 ⟨vs,_,_,ys,⟨ak,?_,?_,ry.agr (up3.agr A.nt),A.rz up3 A.s,A.rz up3 r1,A.rz up3 r2⟩⟩
  ·rw[av A.dne.1,av A.dne.1,av A.dne.2];exact A.own
  ·rw[av A.ne.symm,av A.ne.symm,ak]
end Dh
namespace Dh
open PySem L2 Fr G1 Sm Vs Dk
open PySem.W (Dat kqdOk)
def kb(K:Fg)(C:Addr):Sp:=fun vs H Q _=>∃(a:Addr) (d:Ds),vs=[.ref a]/\Desk K C H a d/\DOk d/\d.ts≠[]/\∀(p:Addr) (H':Hp),Same H H'->Rz K H' (.ref p) (dV d.ws d.ts)->Q (.ref p) H'
def nQ (K:Fg):TS:=(aU (aW (tO K) [] E0 (ag (cP K (ac 0) "stuffs") (ag (cP K (ac 0) "turnings") am))))
theorem yQ{K:Fg}(k:Kl K mg C){N:List Str}(hN:N.length=1)(h:kb K C vs H Q E):nQ K (ends Q) (L2.start N vs) H:=by
 obtain⟨a,d,rfl,⟨vs,vt,vp,xs,A⟩,o,ne,q⟩:=h;rw[L2.bv hN];walk_at "t";unfold nQ;walk_at "d";refine fS k A ?_;walk_at "d";refine fT k A ?_;walk_at "d";refine⟨vs,vt,d.ws,d.ts,rfl,A.s,A.t,⟨o.st,o.pl⟩,o.tt,?_,q⟩;rcases o.ck with z|z
 ·exact absurd z ne
 ·exact z
abbrev Pr:=List Tn×List Int
def sn(ws:List Str)(p:Pr):List Dat:=[.list ((p.1.map (Tw.turnT ws)).map Nw),.list ((ws.zip p.2).map Dk.dP)]++(if p.1.isEmpty then [] else [dV ws p.1])
theorem HZ{p:Pr}(h:p.1≠[]):sn ws p=[.list ((p.1.map (Tw.turnT ws)).map Nw),.list ((ws.zip p.2).map Dk.dP),dV ws p.1]:=by
 unfold sn;cases e:p.1 with
 |nil=>exact absurd e h
 |cons t ts=>rfl
theorem L_{K:Fg}(A:AccZ K H0 l H ds)(S:Same H H')(np:H' p=none):Rp K (fun a=>H0 a=none/\a≠p) H' (.ref l) (.list ds):=by
 obtain⟨xs,h1,h2⟩:=A.at_;exact .lst ⟨A.new,fun e=>by rw[<- e,S _ _ h1] at np;cases np⟩ (S _ _ h1) (RpL.z (h2.same S))
def qz(K:Fg)(C:Addr):Sp:=fun vs H Q _=>∃(a:Addr) (d:Ds) (b:Bool),vs=[.ref a,.bl b]/\Desk K C H a d/\DOk d/\b = !d.ts.isEmpty/\∀(p:Addr) (H':Hp),Acc K H p H' (sn d.ws (d.ts,d.c))->Q (.ref p) H'
def xL (K:Fg) (dD:Addr):TS:=(ar (aQ (cz (ag (fg dD "texts" (gX K dD) [] E0 (ac 0) am) (ag (fg dD "count" (oz K dD) [] E0 (ac 0) am) am))) (aJ 2))
 (ar (a_ (tB (ac 1))
 (dS (j4 K "list" cE (ac 2) (ag (fg dD "vessel" (kb K dD) [] E0 (ac 0) am) am)))
 bc)
 (aU (ac 2))))
theorem FK{K:Fg}{N:List Str}(hN:N.length=3)(h:qz K C vs H Q E):xL K C (ends Q) (L2.start N vs) H:=by
 obtain⟨a,d,b,rfl,Dd,o,eb,q⟩:=h;obtain⟨vs,vt,vp,xs,A⟩:=id Dd;rw[L2.bv hN];walk_at "t";unfold xL;walk_at "d";refine⟨a,d.dx,_,rfl,A.ins,rfl,?_⟩;walk_at "d";refine⟨a,d,rfl,Dd,o.wd.ok,o.l8,o.tt,fun p1 H1 A1=>?_⟩;walk_at "d";refine⟨a,d.dx,_,rfl,A1.same _ _ A.ins,rfl,?_⟩;walk_at "d";refine⟨a,d,rfl,Dd.same A1.same,o.ln.symm,o.st.1.2,fun p2 H2 A2=>?_⟩;walk_at "d";refine⟨cC,fun p np=>?_⟩;have S2:=A1.same.trans A2.same;have S3:=au np (.lst [.ref p1,.ref p2]);have A3:Acc K H p (upd H2 p (.lst [.ref p1,.ref p2])) [.list ((d.ts.map (Tw.turnT d.ws)).map Nw),.list ((d.ws.zip d.c).map Dk.dP)]:=⟨S2.trans S3,S2.free np,_,ak,.cons ((L_ A1 A2.same np).same S3) (.cons (((L_ A2 (Same.refl _) np).mono fun b z=>⟨A1.same.free z.1,z.2⟩).same S3) .nil)⟩
 generalize upd H2 p (.lst [.ref p1,.ref p2])=H3 at S3 A3 ⊢;walk_at "d";cases et:d.ts with
 |nil =>
  rw[et] at A3;obtain rfl:b=false:=by rw[eb,et];rfl
  walk_at "d";refine q p H3 ?_;rw[et];exact A3
 |cons t ts =>
  have nt:d.ts≠[]:=by rw[et];exact WV _ _
  obtain rfl:b=true:=by rw[eb,et];rfl
  walk_at "d";refine⟨A3.ty,?_⟩;walk_at "d";refine⟨a,d.dx,_,rfl,A3.same _ _ A.ins,rfl,?_⟩;walk_at "d";refine⟨a,d,rfl,Dd.same A3.same,o,nt,fun p4 H4 S4 r4=>?_⟩;walk_at "d";obtain⟨ys,h1,l1,A5⟩:=(A3.on S4).KY r4;refine⟨p,ys,_,rfl,rfl,h1,by rw[l1];show 2<sizeLine;decide,?_⟩;walk_at "d";refine q p _ ?_;rw[HZ nt];exact A5
theorem DOk.k(o:DOk d):Dk.DOk ⟨d.dx,d.l,d.ws,d.ts,d.c,0⟩:=⟨o.st,o.pl,o.wd,o.ln,o.tt,o.ck⟩
theorem KB(o:DOk d):pw 5 (.list (sn d.ws (d.ts,d.c)))=true:=by
 have l8:=o.l8;refine GA ?_ fun e he=>?_
 ·unfold sn;rw[M3]
  have:(if (d.ts,d.c).1.isEmpty then ([]:List Dat) else [dV d.ws (d.ts,d.c).1]).length<=1:=by split <;> simp
  show 2+_<=1000;lia
 ·rcases Ni.mp he with z|z
  ·simp only[MD,MF,or_false] at z;rcases z with rfl|rfl
   ·exact CP _ (by rw[Mv];show d.ts.length<=1000;lia) 3
   ·exact GB o.k
  ·split at z
   ·cases z
   ·rw[MK.mp z];exact IH o.k
structure Fx where
 a:Addr
 s:Addr
 l:Addr
 dx:Addr
 ws:List Str
abbrev Fx.ds(f:Fx)(h:List Pr)(p:Pr):Ds:=⟨f.dx,f.l,f.ws,p.1,p.2,h⟩
abbrev sd(ws:List Str)(p:Pr):Dat:=.list (sn ws p)
structure Sd (K:Fg) (C:Addr) (M:List Addr) (H:Hp) (f:Fx) (h:List Pr) (p:Pr):Prop where
 dk:Desk K C H f.a (f.ds h p)
 ok:∀q∈h++[p],DOk (f.ds [] q)
 at_:∃xs,H f.s=some (.lst xs)/\RpL K (fun a=>a∉M) H xs ((h++[p]).map (sd f.ws))
 ia:f.a∈M
 il:f.l∈M
 is_:f.s∈M
 ne:f.s≠f.l
 al:∀b∈M,∃o,H b=some o
section
variable{K:Fg}{C:Addr}{M:List Addr}{H H':Hp}{f:Fx}{h:List Pr}{p:Pr}{Q:VK}{E:XK}{vs:List V}{N:List Str}
theorem DOk.hs(o:DOk d){h:List Pr}:DOk {d with h:=h}:=⟨o.st,o.pl,o.wd,o.ln,o.tt,o.ck⟩
theorem Sd.o(A:Sd K C M H f h p):DOk (f.ds h p):=(A.ok p (M5 _ (MK.mpr rfl))).hs
theorem Sd.same(A:Sd K C M H f h p)(S:Same H H'):Sd K C M H' f h p:=by
 obtain⟨xs,h1,h2⟩:=A.at_;exact⟨A.dk.same S,A.ok,⟨xs,S _ _ h1,h2.same S⟩,A.ia,A.il,A.is_,A.ne,fun b hb=>by obtain⟨o,e⟩:=A.al b hb;exact⟨o,S _ _ e⟩⟩
theorem Sd.last(A:Sd K C M H f h p):∃ys y,H f.s=some (.lst (ys++[y]))/\RpL K (fun a=>a∉M) H ys (h.map (sd f.ws))/\Rp K (fun a=>a∉M) H y (sd f.ws p):=by
 obtain⟨xs,h1,h2⟩:=A.at_;rw[M8] at h2;obtain⟨ys,y,rfl,q,w⟩:=snoc h2;exact⟨ys,y,h1,q,w⟩
def fX(K:Fg)(C:Addr):Sp:=fun vs H Q _=>∃(f:Fx) (h:List Pr) (p:Pr) (M:List Addr),vs=[.ref f.a,.ref f.s]/\Sd K C M H f h p/\∀H',Same H H'->Q (.bl true) H'
theorem vP(o:DOk d){P:VK}(rx:Rep K H x (.list ((d.ts.map (Tw.turnT d.ws)).map Nw)))(hv:H v=some (.lst []))(k:P (.bl (!d.ts.isEmpty)) H):ue K x (.ref v) H P:=by
 have ek:kqdOk 8 (.list ((d.ts.map (Tw.turnT d.ws)).map Nw))=true:=by
  show(((d.ts.map (Tw.turnT d.ws)).map Nw).all (kqdOk 7))=true;rw[NK];intro e he;obtain⟨s,hs,rfl⟩:=MR.mp he;obtain⟨u,hu,rfl⟩:=MR.mp hs;exact sT o.wd (o.tt u hu)
 refine GS (e:=.list []) rx (.lst (SqL.of hv) .nil) ek (by decide +kernel) (fun z=>?_) (fun z=>?_)
 ·cases e:d.ts with
  |nil=>exact absurd (by rw[e];rfl) z
  |cons _ _=>rw[e] at k;exact k
 ·cases e:d.ts with
  |nil=>rw[e] at k;exact k
  |cons _ _=>rw[e] at z;cases z
def oj(K:Fg)(dD:Addr):TS:=(aU (aW (gf K 5) [] E0 (ag (aW (qz K dD) [] E0 (ag (ac 0) (ag (aA (ue K) (aA (aZ K) (aA (aZ K) (ac 1) (x_ (rU fun i=>.int (-i)) (tC (.int 1)))) (tC (.int 0))) (cz am)) am))) (ag (aA (aZ K) (ac 1) (x_ (rU fun i=>.int (-i)) (tC (.int 1)))) am))))
theorem y6(hN:N.length=2)(h:fX K C vs H Q E):oj K C (ends Q) (L2.start N vs) H:=by
 obtain⟨f,h,p,M,rfl,A,q⟩:=h;obtain⟨ys,y,hs,ry,rl⟩:=A.last;obtain⟨b,zs,rfl,nb,hb,rz⟩:=rl.zQ;have o:=A.o;rw[L2.bv hN];walk_at "t";unfold oj;walk_at "";refine bh (SqL.of hs) (L2.qi _ _) ?_;obtain⟨z0,g0,r0⟩:=rz.get' (i:=0) (d:=.list ((p.1.map (Tw.turnT f.ws)).map Nw)) (by rfl);walk_at "";refine bh (SqL.of hb) (v:=z0) (bz g0) ?_;walk_at "";refine⟨by decide,fun l nl=>?_⟩;have S1:=au nl (.lst []);have h1:upd H l (.lst []) l=some (.lst []):=ak;generalize upd H l (.lst [])=H1 at S1 h1 ⊢;have es:pw 5 (sd f.ws p)=true:=KB (d:=f.ds h p) o;refine vP (d:=f.ds h p) o (r0.same S1).rep h1 ?_;walk_at "";refine⟨f.a,f.ds h p,_,rfl,A.dk.same S1,o,rfl,fun u H2 A2=>?_⟩;have r1:Ra K H2 (.ref u) (sd f.ws p):=A2.ref.a;have S2:=S1.trans A2.same;walk_at "";refine bh (SqL.of (S2 _ _ hs)) (L2.qi _ _) ?_;exact⟨.ref u,.ref b,_,_,rfl,r1,(rl.same S2).a,es,fun _=>q H2 S2,fun z=>absurd rfl z⟩
def iG(K:Fg):Sp:=fun vs H Q _=>∃(b:Addr) (ws:List Str) (p:Pr) (S:Addr->Prop),vs=[.ref b]/\Rp K S H (.ref b) (sd ws p)/\∀l H',AccZ K H l H' (p.1.map dT)->Q (.ref l) H'
def iC(K:Fg):TS:=(ar (a_ (bq (aA xw (bQ (b8 K) (ag (ac 0) am)) (tC (.int 3))))
 (aU (cz am))
 bc)
 (aU (bQ (gw K) (ag (aA (Bq K) (aA (aZ K) (ac 0) (tC (.int 2))) (tC (.int 1))) am))))
theorem uc(hN:N.length=1)(h:iG K vs H Q E):iC K (ends Q) (L2.start N vs) H:=by
 obtain⟨b,ws,p,S,rfl,r,q⟩:=h;obtain⟨b',zs,e,_,hb,rz⟩:=r.zQ;cases e;rw[L2.bv hN];walk_at "t";unfold iC;walk_at "";refine cr (SqL.of hb) ?_;walk_at "";cases e:p.1 with
 |nil =>
  rw[show sn ws p=[.list [],.list ((ws.zip p.2).map Dk.dP)] by unfold sn;rw[e];rfl] at rz;have lz:zs.length=2:=rz.length;refine bL (fun _=>?_) (fun z=>absurd (show((zs.length:Nat):Int)<3 by lia) z);walk_at "";refine⟨by decide,fun l nl=>q l _ ?_⟩;rw[e];exact AccZ.start (Same.refl _) nl
 |cons t ts =>
  rw[HZ (by rw[e];exact WV _ _)] at rz;have lz:zs.length=3:=rz.length;refine bL (fun z=>absurd (show((zs.length:Nat):Int)<3 from z) (by lia)) (fun _=>?_);obtain⟨z2,g2,r2⟩:=rz.get' (i:=2) (d:=dV ws p.1) (by rfl);obtain⟨c,us,rfl,hc,ru⟩:=r2.cf;obtain⟨z1,g1,r1⟩:=ru.get' (i:=1) (d:=.tuple (p.1.map dT)) (by rfl);obtain⟨v,xs,rfl,hv,rx⟩:=r1.cf;walk_at "";refine bh (SqL.of hb) (bz g2) ?_;walk_at "";refine rV (SqT.of hc) (bz g1) ?_;walk_at "";refine Aj (SqT.of hv) fun l nl=>q l _ ⟨au nl _,nl,xs,ak,?_⟩
  exact(rx.toZ (pC II p.1)).same (au nl _)
theorem up1{H:Hp}{l:Addr}:Up [l] H (upd H l o):=fun b x nb e=>by rw[av (fun z=>nb (MK.mpr z))];exact e
theorem Bi{N:List Addr}(U:Up N H H')(n:∀b∈N,b∈M)(nt:∀b∈N,∀xs,H b≠some (.tup xs)):Agr (fun a=>a∉M) H H':=⟨fun b xs q=>U b _ (fun z=>nt b z xs q) q,fun b xs q e=>U b _ (fun z=>q (n b z)) e⟩
theorem Hw(al:∀b∈M,∃o,H b=some o)(U:Up [f.a,f.l,f.s] H H')(D:Desk K C H' f.a (f.ds h p)){u:HO}(e:H' f.s=some u):∀b∈M,∃o,H' b=some o:=fun b hb=>by
 by_cases z:b∈[f.a,f.l,f.s]
 ·obtain⟨_,_,_,_,A⟩:=D;simp only[MD,MF,or_false] at z;rcases z with rfl|rfl|rfl
  ·exact⟨_,A.ins⟩
  ·exact⟨_,A.lst⟩
  ·exact⟨_,e⟩
 ·obtain⟨o,e⟩:=al b hb;exact⟨o,U b o z e⟩
theorem Desk.beside(D:Desk K C H f.a (f.ds h p))(hs:H f.s=some (.lst zs))(ne:f.s≠f.l):Desk K C (upd H f.s o) f.a (f.ds h p):=by
 obtain⟨ws,vt,vp,xs,B⟩:=D;have sa:f.s≠f.a:=fun e=>by rw[e,B.ins] at hs;cases hs
 have sx:f.s≠f.dx:=fun e=>by have:=B.own;rw[show(f.ds h p).dx=f.dx from rfl,<- e,hs] at this;cases this
 have g:=up1.agr (H':=upd H f.s o) fun b hb zs e=>by rw[MK.mp hb,hs] at e;cases e
 exact⟨ws,vt,vp,xs,⟨by rw[av sa.symm];exact B.ins,by rw[av sx.symm];exact B.own,by rw[av ne.symm];exact B.lst,B.hx.agr g,B.s.agr g,B.t.agr g,B.p.agr g⟩⟩
theorem Up.wide{N N':List Addr}(U:Up N H H')(n:∀b∈N,b∈N'):Up N' H H':=fun b o nb e=>U b o (fun z=>nb (n b z)) e
theorem E6{a l s:Addr}(U:Up [a,l] H H1):Up [a,l,s] H H1:=Up.wide U (by simp)
def qC(K:Fg)(C:Addr):Sp:=fun vs H Q _=>∃(f:Fx) (h:List Pr) (q p:Pr) (M:List Addr),vs=[.ref f.a,.ref f.s]/\Sd K C M H f (h++[q]) p/\∀H',Up [f.a,f.l,f.s] H H'->Sd K C M H' f h q->Q (.bl true) H'
def x8 (K:Fg) (dD:Addr) (x:Ex0.Ad):TS:=(ar (dS (BM K "list" F5 (ac 1)))
 (aU (j6 (aA o5 (fg dD "undo" (ou K dD x) [] E0 (ac 0) am) (tC .non)) (aW (fX K dD) [] E0 (ag (ac 0) (ag (ac 1) am))))))
theorem FZ(hN:N.length=2)(h:qC K C vs H Q E):x8 K C x (ends Q) (L2.start N vs) H:=by
 obtain⟨f,h,g,p,M,rfl,A,q⟩:=h;obtain⟨ys,y,hs,ry,_⟩:=A.last;obtain⟨ws,vt,vp,xs,B⟩:=id A.dk;rw[L2.bv hN];walk_at "t";unfold x8;walk_at "d";refine⟨uN hs,?_⟩;refine⟨f.s,_,y,rfl,rfl,hs,by simp,?_⟩;rw[Vk];have sa:f.s≠f.a:=fun e=>by rw[e,B.ins] at hs;cases hs
 have n1:∀b∈[f.s],∀zs,H b≠some (.tup zs):=fun b hb zs e=>by rw[MK.mp hb,hs] at e;cases e
 have U1:=up1 (H:=H) (l:=f.s) (o:=.lst ys);have D1:=A.dk.beside hs A.ne (o:=.lst ys);have r1:=ry.agr (Bi U1 (fun b hb=>by rw[MK.mp hb];exact A.is_) n1);have h1:upd H f.s (.lst ys) f.s=some (.lst ys):=ak;generalize upd H f.s (.lst ys)=H1 at U1 D1 r1 h1 ⊢;obtain⟨_,_,_,_,B1⟩:=id D1;walk_at "d";refine⟨f.a,f.dx,_,rfl,B1.ins,rfl,?_⟩;walk_at "d";refine⟨f.a,_,rfl,D1,fun h' p' H2 e U2 D2=>?_,fun z=>?_⟩
 ·obtain⟨rfl,e2⟩:=List.append_inj' (show h++[g]=h'++[p'] from e) rfl;obtain rfl:g=p':=(Po e2).1
  have nm:f.s∉[f.a,f.l]:=fun m=>by
   simp only[MD,MF,or_false] at m;rcases m with m|m
   ·exact sa m
   ·exact A.ne m
  have U3:Up [f.a,f.l,f.s] H H2:=(Up.wide U1 (by simp)).trans (E6 U2);have s2:=U2 _ _ nm h1
  have A2:Sd K C M H2 f h g:=⟨D2,fun u hu=>A.ok u (OJ _ hu),⟨ys,s2,r1.agr (Bi U2 (fun b hb=>by
   simp only[MD,MF,or_false] at hb
   rcases hb with rfl|rfl
   ·exact A.ia
   ·exact A.il) B1.nt)⟩,A.ia,A.il,A.is_,A.ne,Hw A.al U3 D2 s2⟩
  walk_at "d";refine bL (fun _=>?_) (fun z=>absurd rfl z);walk_at "d";exact⟨f,h,g,M,rfl,A2,fun H3 S3=>q H3 (U3.trans (Up.of_same S3)) (A2.same S3)⟩
 ·exact absurd (show h++[g]=[] from z) (by simp)
end
open PySem L2 Fr G1 Sm Vs Dk Dn Rk Wd
local macro_rules | `(tactic| walk_at "d")=>`(tactic| repeat first|fail "1"|with_reducible first|refine kX ?_|refine fK ?_|refine kW ?_|refine JB ?_|refine Db ?_|refine JA ?_|refine EE ?_)
section
variable{K:Fg}{C:Addr}{M:List Addr}{H H':Hp}{f:Fx}{h:List Pr}{p:Pr}{Q:VK}{E:XK}{vs:List V}{N:List Str}
theorem IF{ts:List Tn}(o:DOk d)(sl:ts.Sublist d.ts):DOk {d with ts:=ts}:=by
 refine⟨o.st,o.pl,o.wd,o.ln,fun u hu=>o.tt u (sl.subset hu),?_⟩;by_cases e:ts=[]
 ·exact .inl e
 ·rcases o.ck with z|z
  ·rw[z] at sl;exact absurd (List.sublist_nil.mp sl) e
  ·refine .inr ⟨P_.mpr e,Np sl.length_le z.2.1,z.2.2.1.sublist (sl.map _),fun u hu=>z.2.2.2.1 u (sl.subset hu),Np ?_ z.2.2.2.2⟩;have hi:=Nv.AE (ps:=HL d.ts) ts [] Pa (fun x hx=>by cases hx) fun u hu=>v0 (sl.subset hu)
   exact Nv.rG hi.1 hi.2
structure De (K:Fg) (C:Addr) (H:Hp) (a w r l:Addr) (d:Ds) (xs ys:List V) (po:List Tn):Prop where
 D:Desk K C H a d
 hw:H w=some (.lst (d.ws.map V.str))
 hr:H r=some (.lst xs)
 rx:RzL K H xs (d.ts.map dT)
 hp:H l=some (.lst ys)
 ry:RzL K H ys (po.map dT)
theorem De.same(R:De K C H a w r l d xs ys po)(S:Same H H'):De K C H' a w r l d xs ys po:=⟨R.D.same S,S _ _ R.hw,S _ _ R.hr,R.rx.same S,S _ _ R.hp,R.ry.same S⟩
def yo(K:Fg)(C:Addr):Sp:=fun vs H Q _=>∃(a w r l:Addr) (d:Ds) (xs ys:List V) (po:List Tn) (cell:Int),vs=[.ref a,.ref w,.ref r,.ref l,.int cell]/\De K C H a w r l d xs ys po/\DOk d/\d.h.length<1000/\po≠[]/\(∀t∈po,Tw.TtOk d.ws t) /\
 (∀(p:Pr) H',Up [a,d.l] H H'->DOk {d with ts:=p.1,c:=p.2}->Desk K C H' a {d with ts:=p.1,c:=p.2,h:=d.h++[(d.ts,d.c)]}->Q .non H')/\(∀H',Same H H'->Q (.str "refused") H')
def xX(K:Fg)(dD:Addr)(x:Ex0.Ad):TS:=(ar (aQ (aW (oH K) [] E0 (ag (ac 4) (ag (tC (.int 9)) am))) (aJ 5))
 (ar (aQ (tC (.str "refused")) (aJ 6))
 (ar (Fi K x.V (DQ (aQ (aW (Tg.jJ K) [] E0 (ag (ac 1) (ag (aW (ym K) [] E0 (ag (ac 2) (ag (ac 3) (ag (ac 5) am)))) am))) (aJ 7))
 (J3 (bq (aA xw (aA bU (aA (aZ K) (ac 5) (tC (.int 0))) (tC (.int 6))) (tC (.int 2))))
 (mZ 6 dD "put" (yj K dD x) (ac 0) (ag (aW (Tg.jJ K) [] E0 (ag (ac 1) (ag (aA (aZ K) (ac 3) (aA bU (aA (aZ K) (ac 5) (tC (.int 2))) (bQ (b8 K) (ag (ac 3) am)))) am))) am))
 (J3 (bq (aA jL (aA bU (aA (aZ K) (ac 5) (tC (.int 0))) (tC (.int 6))) (tC (.int 2))))
 (mZ 6 dD "take" (tK K dD x) (ac 0) (ag (ac 7) am))
 (J3 (bq (aA xw (aA bU (aA (aZ K) (ac 5) (tC (.int 0))) (tC (.int 6))) (tC (.int 5))))
 (mZ 6 dD "turn" (tJ K dD x) (ac 0) (ag (ac 7) am))
 (DQ (aQ (aA (aZ K) (cz (ag (aA bU (aA (aZ K) (ac 5) (tC (.int 3))) (tC (.int 4))) (ag (aA dj (tC (.int 1)) (aA bU (aA (aZ K) (ac 5) (tC (.int 3))) (tC (.int 9)))) (ag (aA bU (ac 4) (aA KO (tC (.int 10)) (tC (.int 38)))) (ag (aA wP (tC (.int 0)) (aA bU (aA (aZ K) (ac 5) (tC (.int 3))) (tC (.int 5)))) am))))) (aA bU (aA (aZ K) (ac 5) (tC (.int 1))) (tC (.int 4)))) (aJ 8))
 (mZ 6 dD "pour" (oy K dD x) (ac 0) (ag (aA (aZ K) (ac 1) (aA bU (aA (aZ K) (ac 5) (tC (.int 2))) (bQ (b8 K) (ag (ac 1) am)))) (ag (ac 8) am)))))))) (aQ (tC (.str "refused")) (aJ 6)))
 (aU (ac 6)))))
theorem FU(T:Ex K x)(hN:N.length=9)(h:yo K C vs H Q E):xX K C x (ends Q) (L2.start N vs) H:=by
 obtain⟨a,w,r,l,d,xs,ys,po,cell,rfl,R,o,n9,ne,tp,q,qe⟩:=h;rw[L2.bv hN];walk_at "t";unfold xX;walk_at "d";refine⟨cell,9,rfl,by decide,by decide,fun X H1 ns Ax lm mm=>?_⟩;have l9:ns.length=9:=lm;have hx:=AccZ.ints Ax;have R1:=R.same Ax.same;have g0:ns[0]?=some ns[0]:=Mw (by lia);have g1:ns[1]?=some ns[1]:=Mw (by lia);have g2:ns[2]?=some ns[2]:=Mw (by lia);have g3:ns[3]?=some ns[3]:=Mw (by lia);walk_at "d";refine⟨r,l,X,xs,ys,d.ts,po,ns,rfl,R1.hr,R1.rx,R1.hp,R1.ry,hx,by lia,mm,ne,fun v t H2 S2 mt rt=>?_⟩
 have ot:Tw.TtOk d.ws t:=by
  rcases mt with z|z
  ·exact o.tt t z
  ·exact tp t z
 have R2:=R1.same S2;walk_at "d";refine⟨w,v,d.ws,t,rfl,R2.hw,rt,o.wd.ok,ot,fun H3 S3=>?_⟩;have S03:=Ax.same.trans (S2.trans S3);have R3:=R.same S03;have ZP:=S3 _ _ (S2 _ _ hx);obtain⟨_,_,_,_,A⟩:=id R3.D;clear R1 R2
 have no:∀{σ:St} {u:Option V} H4,σ=[some (.ref a),some (.ref w),some (.ref r),some (.ref l),some (.int cell),some (.ref X),some (.str "refused"),some (.str (Tw.turnT d.ws t)),u]->Same H3 H4->aQ (tC (.str "refused")) (aJ 6) {nx:=aU (ac 6) (ends Q),rt:=fun _ _=>False} σ H4:=by
  rintro σ u H4 rfl S4;walk_at "d";exact qe H4 (S03.trans S4)
 have ly:ys.length=po.length:=by rw[R.ry.length,Mv]
 have lp0:0<po.length:=P_.mpr ne;have l1:=o.st.1.1;have ln:=o.ln;walk_at "d";refine bh (SqL.of ZP) (eF g0) ?_;walk_at "d";refine bL (fun _=>?_) (fun _=>?_)
 ·walk_at "d";refine⟨a,d.dx,_,rfl,A.ins,rfl,?_⟩;walk_at "d";refine bh (SqL.of ZP) (eF g2) ?_;walk_at "d";refine cr (SqL.of R3.hp) ?_;refine jB (show(0:Int)<(ys.length:Int) by lia) ?_;obtain⟨v2,t2,e2,m2,_,rt2⟩:=Ks R3.ry ne ns[2];refine bh (SqL.of R3.hp) e2 ?_;walk_at "d";refine⟨w,v2,d.ws,t2,rfl,R3.hw,rt2,o.wd.ok,tp t2 m2,fun H4 S4=>?_⟩;walk_at "d";refine⟨a,d,t2,rfl,R3.D.same S4,o,n9,tp t2 m2,fun ok H5 U D=>?_,fun nk H5 S5=>⟨x.c4,rfl,T.s4,no H5 rfl (S4.trans S5)⟩⟩;walk_at "d";refine q (d.ts++[t2],d.c) H5 ((Up.of_same (S03.trans S4)).trans U) ⟨o.st,o.pl,o.wd,o.ln,fun u hu=>?_,.inr ok⟩ D;rcases Ni.mp hu with z|z
  ·exact o.tt u z
  ·rw[MK.mp z];exact tp t2 m2
 walk_at "d";refine bh (SqL.of ZP) (eF g0) ?_;walk_at "d";refine bL (fun _=>?_) (fun _=>?_)
 ·walk_at "d";refine⟨a,d.dx,_,rfl,A.ins,rfl,?_⟩;walk_at "d";refine⟨a,d,t,rfl,R3.D,o,n9,ot,fun j H5 fj U D=>?_,fun nk H5 S5=>⟨x.c5,rfl,T.s5,no H5 rfl S5⟩⟩;walk_at "d";refine q (d.ts.take j++d.ts.drop (j+1),d.c) H5 ((Up.of_same S03).trans U) (IF o ?_) D;rw[<- List.eraseIdx_eq_take_drop_succ];exact List.eraseIdx_sublist _ _
 walk_at "d";refine bh (SqL.of ZP) (eF g0) ?_;walk_at "d";refine bL (fun _=>?_) (fun _=>?_)
 ·walk_at "d";refine⟨a,d.dx,_,rfl,A.ins,rfl,?_⟩;walk_at "d";refine⟨a,d,t,rfl,R3.D,o,n9,ot,T.e7,T.f7,fun mt hc H5 U D=>?_,fun nk H5 S5=>⟨x.c5,rfl,T.s5,no H5 rfl S5⟩,fun mt hc dx H5 S5=>⟨x.c7,rfl,T.s7,no H5 rfl S5⟩⟩;walk_at "d";exact q (d.ts,beh (pr t) d.c) H5 ((Up.of_same S03).trans U) ⟨o.st,o.pl,o.wd,by show(beh (pr t) d.c).length=_;rw[JW];exact o.ln,o.tt,o.ck⟩ D
 walk_at "d";refine bh (SqL.of ZP) (eF g3) ?_;walk_at "d";refine bh (SqL.of ZP) (eF g3) ?_;walk_at "d";refine jB (show(0:Int)<10 ^ Int.toNat 38 by decide) ?_;walk_at "d";refine bh (SqL.of ZP) (eF g3) ?_;walk_at "d";refine⟨yz,fun b nb=>?_⟩;generalize cell % 10 ^ Int.toNat 38=z;have S4:=au nb (.lst [V.int (ns[3] % 4),V.int (1+ns[3] % 9),.int z,.int (0-ns[3] % 5)]);have h4:upd H3 b (.lst [V.int (ns[3] % 4),V.int (1+ns[3] % 9),.int z,.int (0-ns[3] % 5)]) b=some (.lst ([ns[3] % 4,1+ns[3] % 9,z,0-ns[3] % 5].map V.int)):=ak;generalize upd H3 b (.lst [V.int (ns[3] % 4),V.int (1+ns[3] % 9),.int z,.int (0-ns[3] % 5)])=H4 at S4 h4 ⊢;have R4:=R3.same S4;walk_at "d";refine bh (SqL.of (S4 _ _ ZP)) (eF g1) ?_;walk_at "d";have m0:=Ot ns[1] (show(4:Int)≠0 by decide);have m3:=N0 ns[1] (show(0:Int)<4 by decide);generalize ns[1] % 4=m at m0 m3 ⊢;have lm:m.toNat<([ns[3] % 4,1+ns[3] % 9,z,0-ns[3] % 5]:List Int).length:=by show m.toNat<4;lia
 have e:=eF (Mw lm);rw[VB m0] at e;refine bh (SqL.of h4) e ?_;generalize ([ns[3] % 4,1+ns[3] % 9,z,0-ns[3] % 5]:List Int)[m.toNat]=n;walk_at "d";refine⟨a,d.dx,_,rfl,S4 _ _ A.ins,rfl,?_⟩;walk_at "d";refine bh (SqL.of (S4 _ _ ZP)) (eF g2) ?_;walk_at "d";refine cr (SqL.of R4.hw) ?_;rw[Mv];refine jB (show(0:Int)<(d.ws.length:Int) by lia) ?_;have p0:=Ot ns[2] (show(d.ws.length:Int)≠0 by lia);have p1:=N0 ns[2] (show 0<(d.ws.length:Int) by lia);obtain⟨i,ei⟩:∃i:Nat,ns[2] % (d.ws.length:Int)=(i:Int):=⟨(ns[2] % (d.ws.length:Int)).toNat,by lia⟩
 rw[ei] at p0 p1 ⊢;have li:i<d.ws.length:=by lia
 have ew:d.ws[i]?=some d.ws[i]:=Mw li;have ec:d.c[i]?=some d.c[i]:=Mw (by lia);refine bh (SqL.of R4.hw) (v:=.str d.ws[i]) (bz (by rw[ME,ew];rfl)) ?_;walk_at "d";refine⟨a,d,i,_,_,n,rfl,R4.D,o,n9,ew,ec,fun _ H5 U D=>?_,fun _ H5 S5=>⟨x.c12,rfl,T.s12,no H5 rfl (S4.trans S5)⟩⟩;walk_at "d";exact q (d.ts,d.c.set i (d.c[i]+n)) H5 ((Up.of_same (S03.trans S4)).trans U) ⟨o.st,o.pl,o.wd,by show(d.c.set i _).length=_;rw[Uq];exact o.ln,o.tt,o.ck⟩ D
theorem Sd.beh(A:Sd K C M H f h p)(U:Up [f.a,f.l] H H2):∃zs,H2 f.s=some (.lst zs)/\zs.length=h.length+1/\RpL K (fun a=>a∉M) H2 zs ((h++[p]).map (sd f.ws)):=by
 obtain⟨_,_,_,_,B⟩:=id A.dk;obtain⟨zs,hs,r⟩:=A.at_;refine⟨zs,U _ _ (fun m=>?_) hs,by rw[r.length,Mv,M3];rfl,r.agr (Bi U (fun c hc=>?_) B.nt)⟩
 ·simp only[MD,MF,or_false] at m;rcases m with m|m
  ·have:=B.ins;rw[<- m,hs] at this;cases this
  ·exact A.ne m
 ·simp only[MD,MF,or_false] at hc;rcases hc with rfl|rfl
  ·exact A.ia
  ·exact A.il
theorem Sd.push(A:Sd K C M H f h p)(U:Up [f.a,f.l] H H2)(D2:Desk K C H2 f.a (f.ds (h++[p]) g))(o:DOk (f.ds (h++[p]) g))(s2:H2 f.s=some (.lst zs))(r2:RpL K (fun a=>a∉M) H2 zs ((h++[p]).map (sd f.ws)))(S4:Same H2 H4)(A5:Acc K H4 n H5 (sn f.ws g)) :
  Up [f.a,f.l,f.s] H (upd H5 f.s (.lst (zs++[.ref n])))/\Sd K C M (upd H5 f.s (.lst (zs++[.ref n]))) f (h++[p]) g:=by
 have S5:=S4.trans A5.same;have s5:=S5 _ _ s2;have U3:Up [f.a,f.l,f.s] H (upd H5 f.s (.lst (zs++[.ref n]))):=(E6 (U.trans (Up.of_same S5))).trans (Up.wide up1 (by simp));have D3:=(D2.same S5).beside s5 A.ne (o:=.lst (zs++[.ref n]));have n1:∀c∈[f.s],∀ws,H5 c≠some (.tup ws):=fun c hc ws e=>by rw[MK.mp hc,s5] at e;cases e
 have m1:∀c∈[f.s],c∈M:=fun c hc=>by rw[MK.mp hc];exact A.is_
 have al2:∀c,H4 c=none->c∉M:=fun c hc m=>by
  obtain⟨_,e⟩:=Hw A.al (E6 U) D2 s2 c m;rw[S4 _ _ e] at hc;cases hc
 refine⟨U3,D3,fun c hc=>?_,⟨_,ak,?_⟩,A.ia,A.il,A.is_,A.ne,Hw A.al U3 D3 ak⟩
 ·rcases Ni.mp hc with z|z
  ·exact A.ok c z
  ·rw[MK.mp z];exact o.hs
 ·rw[M8 (l₂:=[g])];exact((r2.same S5).append (.cons (A5.ref.mono al2) .nil)).agr (Bi up1 m1 n1)
def spOn(K:Fg)(C:Addr):Sp:=fun vs H Q _=>∃(f:Fx) (h:List Pr) (p:Pr) (M:List Addr) (w l:Addr) (ys:List V) (po:List Tn) (cell:Int),vs=[.ref f.a,.ref w,.ref l,.ref f.s,.int cell]/\Sd K C M H f h p/\H w=some (.lst (f.ws.map V.str))/\H l=some (.lst ys)/\RzL K H ys (po.map dT)/\po≠[]/\(∀t∈po,Tw.TtOk f.ws t)/\h.length<900 /\
 ∀H' h' p',Up [f.a,f.l,f.s] H H'->Sd K C M H' f h' p'->h'.length<=h.length+1->Q (.bl true) H'
def t_on(K:Fg)(dD:Addr):TS:=(ar (aQ (aW (yo K dD) [] E0 (ag (ac 0) (ag (ac 1) (ag (aW (iG K) [] E0 (ag (aA (aZ K) (ac 3) (x_ (rU fun i=>.int (-i)) (tC (.int 1)))) am)) (ag (ac 2) (ag (ac 4) am)))))) (aJ 5))
 (ar (a_ (bq (aA o5 (ac 5) (tC .non)))
 (dS (j4 K "list" cE (ac 3) (ag (aW (qz K dD) [] E0 (ag (ac 0) (ag (aA (ue K) (fg dD "texts" (gX K dD) [] E0 (ac 0) am) (cz am)) am))) am)))
 bc)
 (aU (j6 (Fm (aA o5 (ac 5) (tC .non)) (aA (zg K) (ac 5) (tC (.str "refused")))) (aW (fX K dD) [] E0 (ag (ac 0) (ag (ac 3) am)))))))
theorem KG(hN:N.length=6)(h:spOn K C vs H Q E):t_on K C (ends Q) (L2.start N vs) H:=by
 obtain⟨f,h,p,M,w,l,ys,po,cell,rfl,A,hw,hp,ry,ne,tp,n9,q⟩:=h;rw[L2.bv hN];walk_at "t";obtain⟨zs,y,hs,rz,rl⟩:=A.last;obtain⟨b,us,rfl,nb,hb,ru⟩:=rl.zQ;unfold t_on;walk_at "d";refine bh (SqL.of hs) (L2.qi _ _) ?_;walk_at "d";refine⟨b,f.ws,p,_,rfl,rl,fun r H1 A1=>?_⟩;obtain⟨xs,hr,rx⟩:=A1.at_;have S1:=A1.same;walk_at "d";refine⟨f.a,w,r,l,f.ds h p,xs,ys,po,cell,rfl,⟨A.dk.same S1,S1 _ _ hw,hr,rx,S1 _ _ hp,ry.same S1⟩,A.o,by show h.length<1000;lia,ne,tp,fun g H2 U o D2=>?_,fun H2 S2=>?_⟩
 ·walk_at "d";refine bL (fun _=>?_) (fun z=>absurd rfl z);obtain⟨_,_,_,_,B2⟩:=id D2;have U:=(Up.of_same S1).trans U;obtain⟨xs,s2,lx,r2⟩:=A.beh U;have D2:Desk K C H2 f.a (f.ds (h++[p]) g):=D2;have o':DOk (f.ds (h++[p]) g):=o.hs;walk_at "d";refine⟨uN s2,?_⟩;walk_at "d";refine⟨f.a,f.dx,_,rfl,B2.ins,rfl,?_⟩;walk_at "d";refine⟨f.a,f.ds (h++[p]) g,rfl,D2,o'.wd.ok,o'.l8,o'.tt,fun u H3 A3=>?_⟩;walk_at "d";refine⟨by decide,fun v nv=>?_⟩;have S4:=A3.same.trans (au nv (.lst []));have A4:=A3.on (au nv (.lst []));have h4:upd H3 v (.lst []) v=some (.lst []):=ak;generalize upd H3 v (.lst [])=H4 at S4 A4 h4 ⊢;refine vP (d:=f.ds (h++[p]) g) o' A4.rep h4 ?_;walk_at "d";refine⟨f.a,f.ds (h++[p]) g,_,rfl,D2.same S4,o',rfl,fun n H5 A5=>?_⟩;walk_at "d";refine⟨f.s,xs,_,rfl,rfl,A5.same _ _ (S4 _ _ s2),by rw[lx,Oi];lia,?_⟩;obtain⟨U3,A6⟩:=A.push U D2 o' s2 r2 S4 A5;generalize upd H5 f.s (.lst (xs++[.ref n]))=H6 at U3 A6 ⊢;walk_at "d";refine bL (fun _=>?_) (fun z=>absurd rfl z);walk_at "d";exact⟨f,h++[p],g,M,rfl,A6,fun H7 S7=>q H7 _ _ (U3.trans (Up.of_same S7)) (A6.same S7) (by rw[M3];exact MB _)⟩
 ·walk_at "d";refine bL (fun z=>by cases z) (fun _=>?_);walk_at "d";refine bL (fun z=>by cases z) (fun _=>?_);walk_at "d";refine GY (d:=.str "refused") (e:=.str "refused") (.str _) (.str _) (by decide +kernel) (by decide +kernel) (fun _=>?_) (fun z=>absurd rfl z);walk_at "d";exact⟨f,h,p,M,rfl,A.same (S1.trans S2),fun H7 S7=>q H7 _ _ (Up.of_same (S1.trans (S2.trans S7))) (A.same (S1.trans (S2.trans S7))) (PP _)⟩
end
section
variable{K:Fg}{C:Addr}{M:List Addr}{H H':Hp}{f:Fx}{h:List Pr}{p:Pr}{Q:VK}{E:XK}{vs:List V}{N:List Str}
def oB(K:Fg)(C:Addr)(x:Ex0.Ad):Sp:=fun vs H Q _=>∃(a:Addr) (d:Ds),vs=[.ref a]/\Desk K C H a d/\d.h=[]/\fo K x.c13 x.V/\∀e H',Same H H'->DZ H' e x.c13->Q (.ref e) H'
def nU(K:Fg)(dD:Addr)(x:Ex0.Ad):TS:=(ar (aQ (tC .non) (aJ 1))
 (ar (Fj K dD "undo" (ou K dD x) x.V 2 1 (ac 0))
 (aU (ac 1))))
theorem yR(hN:N.length=3)(h:oB K C x vs H Q E):nU K C x (ends Q) (L2.start N vs) H:=by
 obtain⟨a,d,rfl,D,eh,sc,q⟩:=h;obtain⟨_,_,_,_,A⟩:=id D;rw[L2.bv hN];walk_at "t";unfold nU;walk_at "";refine Jc ?_;walk_at "";refine⟨a,d.dx,_,rfl,A.ins,rfl,a,d,rfl,D,fun h p _ e=>?_,fun _ H2 S2=>⟨x.c13,rfl,sc,fun e ne=>?_⟩⟩
 ·rw[eh] at e;exact absurd e.symm (by simp)
 ·walk_at "";exact q e _ (S2.trans (au ne _)) ⟨none,ak⟩
def spKd (x:Ex0.Ad):Sp:=fun vs H Q _=>∃e,vs=[.ref e]/\DZ H e x.c13/\∀(p:Addr) (H':Hp),Same H H'->H' p=some (.lst [.str "NoDeed"])->Q (.ref p) H'
theorem KN(T:Ex0.Bk K x x.c13 13)(hN:N.length=2)(h:spKd x vs H Q E):Ex0.ya K x (ends Q) (L2.start N vs) H:=by
 obtain⟨e,rfl,he,q⟩:=h;rw[L2.bv hN];walk_at "t";exact Ex0.Cf T (by decide) he q
abbrev Mf(f:Nat->Fx):List Addr:=[(f 0).a,(f 0).l,(f 0).s,(f 1).a,(f 1).l,(f 1).s]
abbrev Nf(f:Fx):List Addr:=[f.a,f.l,f.s]
theorem two{P:Nat->Prop}{j:Nat}(hj:j<2)(a:P 0)(b:P 1):P j:=by
 match j,hj with
 |0,_=>exact a
 |1,_=>exact b
theorem CS{f:Nat->Fx}{j:Nat}(hj:j<2):∀b∈Nf (f j),b∈Mf f:=two (P:=fun j=>∀b∈Nf (f j),b∈Mf f) hj (by intro b;simp only[MD,MF,or_false];grind) (by intro b;simp only[MD,MF,or_false];grind)
theorem Sd.nt(A:Sd K C M H f h p):∀b∈Nf f,∀xs,H b≠some (.tup xs):=by
 obtain⟨_,_,_,_,B⟩:=A.dk;obtain⟨_,hs,_⟩:=A.at_;intro b hb xs e;simp only[MD,MF,or_false] at hb;rcases hb with rfl|rfl|rfl
 ·rw[B.ins] at e;cases e
 ·rw[B.lst] at e;cases e
 ·rw[hs] at e;cases e
theorem Sd.keep(A:Sd K C M H f h p)(B:Sd K C M H g h' p')(al:∀b∈M,∃o,H' b=some o)(U:Up (Nf g) H H')(na:f.a≠g.a)(nl:f.l≠g.l)(ns:f.s≠g.s)(n1:f.s≠g.l)(n2:f.l≠g.s):Sd K C M H' f h p:=by
 obtain⟨vs,vt,vp,zs,D⟩:=id A.dk;obtain⟨_,_,_,_,G⟩:=id B.dk;obtain⟨xs,hs,rx⟩:=A.at_;obtain⟨_,gs,_⟩:=B.at_
 have ap:∀{b:Addr} {o:HO},H b=some o->(∀C dx fs,o≠.ins C dx fs)->b≠g.l->b≠g.s->H' b=some o:=fun {b o} e i l s=>U b o (fun m=>by
  simp only[MD,MF,or_false] at m
  rcases m with m|m|m
  ·rw[m,G.ins] at e;exact i _ _ _ (MY e).symm
  ·exact l m
  ·exact s m) e
 have g0:=U.agr B.nt
 have gM:=Bi (M:=M) U (fun b hb=>by
  simp only[MD,MF,or_false] at hb
  rcases hb with rfl|rfl|rfl
  ·exact B.ia
  ·exact B.il
  ·exact B.is_) B.nt
 refine⟨⟨vs,vt,vp,zs,⟨U _ _ (fun m=>?_) D.ins,ap D.own (fun _ _ _ z=>by cases z) (apart D.own G.lst fun z=>by cases z) (apart D.own gs fun z=>by cases z),ap D.lst (fun _ _ _ z=>by cases z) nl n2,D.hx.agr g0,D.s.agr g0,D.t.agr g0,D.p.agr g0⟩⟩,A.ok,⟨xs,ap hs (fun _ _ _ z=>by cases z) n1 ns,rx.agr gM⟩,A.ia,A.il,A.is_,A.ne,al⟩;simp only[MD,MF,or_false] at m;rcases m with m|m|m
 ·exact na m
 ·exact apart D.ins G.lst (fun z=>by cases z) m
 ·exact apart D.ins gs (fun z=>by cases z) m
structure Two (K:Fg) (C:Addr) (H:Hp) (f:Nat->Fx) (g:Nat->List Pr×Pr) (w:Nat->Addr) (ro de se l:Addr) (ys:List V) (po:List Tn):Prop where
 sd:∀j,j<2->Sd K C (Mf f) H (f j) (g j).1 (g j).2
 ap:∀i j,i<2->j<2->i≠j->(f i).a≠(f j).a/\(f i).l≠(f j).l/\(f i).s≠(f j).s/\(f i).s≠(f j).l
 hro:H ro=some (.lst [.ref (w 0),.ref (w 1)])
 hde:H de=some (.lst [.ref (f 0).a,.ref (f 1).a])
 hse:H se=some (.lst [.ref (f 0).s,.ref (f 1).s])
 hw:∀j,j<2->H (w j)=some (.lst ((f j).ws.map V.str))
 hl:H l=some (.lst ys)
 ry:RzL K H ys (po.map dT)
 nm:∀b∈[ro,de,se,w 0,w 1,l],b∉Mf f
 ne:po≠[]
 tp:∀j,j<2->∀t∈po,Tw.TtOk (f j).ws t
variable{F:Nat->Fx}{g:Nat->List Pr×Pr}{w:Nat->Addr}{ro de se l:Addr}{ys:List V}{po:List Tn}{j:Nat}
theorem Two.same(T:Two K C H F g w ro de se l ys po)(S:Same H H'):Two K C H' F g w ro de se l ys po:=⟨fun j hj=>(T.sd j hj).same S,T.ap,S _ _ T.hro,S _ _ T.hde,S _ _ T.hse,fun j hj=>S _ _ (T.hw j hj),S _ _ T.hl,T.ry.same S,T.nm,T.ne,T.tp⟩
theorem Two.step(T:Two K C H F g w ro de se l ys po)(hj:j<2)(U:Up (Nf (F j)) H H')(A:Sd K C (Mf F) H' (F j) h p):Two K C H' F (fun i=>if i=j then (h,p) else g i) w ro de se l ys po:=by
 have B:=T.sd j hj;have st:∀{b:Addr} {o:HO},b∈[ro,de,se,w 0,w 1,l]->H b=some o->H' b=some o:=fun {b o} m e=>U b o (fun z=>T.nm b m (CS hj b z)) e
 refine⟨fun i hi=>?_,T.ap,st (by simp) T.hro,st (by simp) T.hde,st (by simp) T.hse,fun i hi=>st (two (P:=fun i=>w i∈[ro,de,se,w 0,w 1,l]) hi (by simp) (by simp)) (T.hw i hi),st (by simp) T.hl,T.ry.agr (U.agr B.nt),T.nm,T.ne,T.tp⟩;by_cases e:i=j
 ·simp only[if_pos e];rw[e];exact A
 ·simp only[if_neg e];obtain⟨a1,a2,a3,a4⟩:=T.ap i j hi hj e;exact(T.sd i hi).keep B A.al U a1 a2 a3 a4 (T.ap j i hj hi (fun z=>e z.symm)).2.2.2.symm
theorem Bu{u v:V}{j:Nat}{P:Nat->V}(hj:j<2)(e0:P 0=u)(e1:P 1=v):lG [u,v] (j:Int)=some (P j):=two (P:=fun j=>lG [u,v] (j:Int)=some (P j)) hj (by rw[e0];rfl) (by rw[e1];rfl)
end
section
variable{K:Fg}{H H':Hp}{σ:St}{Q:VK}{w ro D:Addr}{ws:List Str}
theorem iY(hx:Low x)(hy:Low y):Low (x++y):=fun c hc=>by
 rw[show(x++y).cps.toList=x.cps.toList++y.cps.toList from by simp[RB]] at hc;rcases Ni.mp hc with z|z
 ·exact hx c z
 ·exact hy c z
theorem K5:Low "z":=by
 rw[show("z":Str)=⟨#[122]⟩ by decide +kernel];exact pH (by decide) (by decide)
theorem turned(wo:eG ws) (w5:ws.length<=5) (hw:H w=some (.lst (ws.map V.str))) (q:∀D H' (vs:List Str),AccZ K H D H' (vs.map Nw)->vs.length=ws.length->(∀v∈vs,Low v/\v.length<=9)->Q (.ref D) H'):cZ (vd K w) (aA eK (BK (ac 0) (x_ (rU fun i=>.int (-i)) (tC (.int 1)))) (tC (.str "z"))) σ Q H:=by
 refine io (xs:=ws.map V.str) fun D nD=>⟨fun i H2=>∃vs:List Str,AccZ K H D H2 (vs.map Nw)/\vs.length=i/\∀v∈vs,Low v/\v.length<=9,⟨[],AccZ.start (Same.refl _) nD,rfl,fun v hv=>by cases hv⟩,fun i H2 _ ⟨_,A,_⟩=>SqL.of (A.same _ _ hw),?_,fun H2 ⟨vs,A,l,h⟩=>q D H2 vs A (by rw[l,Mv]) h⟩
 rintro i z H2 hz ⟨vs,A,rfl,hv⟩;have li:vs.length<(ws.map V.str).length:=(My.mp hz).1;have l2:=li;rw[Mv] at l2;rw[ME] at hz;obtain⟨v,hv0,rfl⟩:=MI.mp hz;obtain⟨v1,v8,vl⟩:=wo.2 v (MH hv0);walk_at "";refine Jf ?_;walk_at "";refine⟨v,rfl,rfl,by rw[Oi];lia,fun y yc yl=>?_⟩;walk_at "";refine⟨y,"z",rfl,rfl,by rw[Oi];show y.length+1<=_;lia,?_⟩;refine cF li (A.js (.str _) (aX (by rw[Mv];lia)) fun H4 A4=>⟨vs++[y ++ "z"],by rw[M8];exact A4,by rw[M3];rfl,fun u hu=>?_⟩);rcases Ni.mp hu with z|z
 ·exact hv u z
 ·rw[MK.mp z];exact⟨iY (fun c hc=>vl c (yc c hc)) K5,by rw[Nb];show y.length+1<=9;lia⟩
def L4(us:List Str):Prop:=∀j u,us[j]?=some u->∃(y:Str) (c:Nat),Low y/\y.length<=7/\c=97+j/\u=y ++ ⟨#[c]⟩
theorem IN(h:L4 us)(l5:us.length<=5):eG us:=by
 refine⟨Ow.mpr fun i j hi hj ij e=>?_,fun u hu=>?_⟩
 ·obtain⟨y,c,_,_,ec,e1⟩:=h i _ (Mw hi);obtain⟨z,d,_,_,ed,e2⟩:=h j _ (Mw hj);rw[e1,e2] at e;have e3:=congrArg (fun s:Str=>s.cps.toList) e;simp only[RB,P9] at e3;have e4:=List.append_inj_right' e3 rfl;have e5:c=d:=by simpa using e4
  lia
 ·obtain⟨j,hj⟩:=Vj hu;have lj:j<us.length:=(My.mp hj).1;obtain⟨y,c,yl,y7,ec,rfl⟩:=h j u hj;refine⟨by rw[Nb];show 1<=y.length+1;lia,by rw[Nb];show y.length+1<=8;lia,iY yl (pH (by lia) (by lia))⟩
theorem CY{vs:List Str}(w5:vs.length<=5)(hv:∀v∈vs,Low v/\v.length<=9)(h3:σ[3]?=some (some (.ref ro)))(hro:H ro=some (.lst [.ref n,.ref R]))(hR:H R=some (.lst (vs.map V.str)))(q:∀D H' us,AccZ K H D H' (us.map Nw)->us.length=vs.length->L4 us->Q (.ref D) H') :
  cZ (wu 0 vs.length) (aA eK (xq F3 (aA (aZ K) (aA (aZ K) (ac 4) (tC (.int 1))) (ac 0)) (gq (x_ (rU fun i=>.int (-i)) (tC (.int 7)))) eO) (aA qU (tC (.str "abcde")) (ac 0))) σ Q H:=by
 refine xg fun D nD=>⟨fun i H2=>∃us:List Str,AccZ K H D H2 (us.map Nw)/\us.length=i/\L4 us,⟨[],AccZ.start (Same.refl _) nD,rfl,fun j u e=>by cases e⟩,?_,fun H2 ⟨us,A,l,h⟩=>q D H2 us A l h⟩
 rintro i H2 hi ⟨us,A,rfl,hu⟩;rw[Pl];obtain⟨vl,v9⟩:=hv _ (Qf hi);walk_at "";refine uM (i:=4) (v:=.ref ro) h3 ?_;walk_at "";refine bh (SqL.of (A.same _ _ hro)) (v:=.ref R) rfl ?_;walk_at "";refine bh (SqL.of (A.same _ _ hR)) (v:=.str vs[us.length]) (bz (by rw[ME,Mw hi];rfl)) ?_;walk_at "";refine⟨_,rfl,by rw[Oi];lia,?_⟩;walk_at "";have s7:=K7 vs[us.length];have sl:Low (Qd vs[us.length] (some (-7)) none):=fun c hc=>vl c ((Tg.yt vs[us.length] (some (-7)) none).subset hc)
 generalize Qd vs[us.length] (some (-7)) none=y at s7 sl ⊢;refine C9 (c:=97+us.length) (by decide) (bz ?_) ?_
 ·have:us.length=0\/us.length=1\/us.length=2\/us.length=3\/us.length=4:=by lia
  rcases this with e|e|e|e|e <;> rw[e] <;> decide +kernel
 refine⟨y,_,rfl,rfl,by rw[Oi];show y.length+1<=_;lia,?_⟩;refine cF hi (A.js (.str _) (aX (by rw[Mv];lia)) fun H4 A4=>⟨us++[y ++ ⟨#[97+us.length]⟩],by rw[M8];exact A4,by rw[M3];rfl,fun j u e=>?_⟩);by_cases z:j<us.length
 ·rw[Nu z] at e;exact hu j u e
 ·have lj:j<(us++[y ++ ⟨#[97+us.length]⟩]).length:=(My.mp e).1;rw[M3] at lj;have lj:j<us.length+1:=lj;obtain rfl:j=us.length:=by lia
  rw[Nr (MB _),Ui] at e;exact⟨y,_,sl,s7,rfl,(MY e).symm⟩
mutual
theorem yO{S:Addr->Prop}{s:Addr}(n:H s=none):∀{v:V} {d:Dat},Rp K S H v d->Rp K (fun a=>S a/\a≠s) H v d
 |_,_,.non=>.non
 |_,_,.bl b=>.bl b
 |_,_,.int i=>.int i
 |_,_,.str x=>.str x
 |_,_,.tup h r=>.tup h (ua n r)
 |_,_,.lst hs h r=>.lst ⟨hs,aC h n⟩ h (ua n r)
theorem ua{S:Addr->Prop}{s:Addr}(n:H s=none):∀{vs:List V} {ds:List Dat},RpL K S H vs ds->RpL K (fun a=>S a/\a≠s) H vs ds
 |_,_,.nil=>.nil
 |_,_,.cons h r=>.cons (yO n h) (ua n r)
end
abbrev z0(ws:List Str):Pr:=([],Nq ws.length 0)
theorem HP:∀ws:List Str,(ws.zip (Nq ws.length 0)).map Dk.dP=ws.map fun w=>XC [.str w,.int 0]
 |[]=>rfl
 |w :: ws=>congrArg (XC [.str w,.int 0] :: ·) (HP ws)
theorem seen0(w5:ws.length<=5)(hw:H w=some (.lst (ws.map V.str)))(q:∀s b H',Same H H'->H s=none->H' s=some (.lst [.ref b])->Rp K (fun x=>H x=none/\x≠s) H' (.ref b) (sd ws (z0 ws))->Q (.ref s) H') :
  cz (ag (cz (ag (cz am) (ag (fh (k9 K (ac 0)) (f_ (ag (ac 0) (ag (tC (.int 0)) am)))) am))) am) (some (.ref w) :: σ) H Q:=by
 walk_at "";refine⟨by decide,fun e ne=>?_⟩;have S1:=au ne (.lst []);have h1:upd H e (.lst []) e=some (.lst []):=ak;generalize upd H e (.lst [])=H1 at S1 h1 ⊢;walk_at "";have hw1:=S1 _ _ hw;refine⟨w,rfl,⟨_,SqL.of hw1⟩,io (xs:=ws.map V.str) fun D nD=>⟨fun i H2=>AccZ K H1 D H2 ((ws.take i).map fun w=>XC [.str w,.int 0]),AccZ.start (Same.refl _) nD,fun i H2 _ A=>SqL.of (A.same _ _ hw1),?_,fun H2 A=>?_⟩⟩
 ·intro i z H2 hz A;have li:i<(ws.map V.str).length:=(My.mp hz).1;have l2:=li;rw[Mv] at l2;rw[ME] at hz;obtain⟨v,hv,rfl⟩:=MI.mp hz;walk_at "";refine⟨cC,fun p np=>?_⟩;refine cF li ((A.on (au np _)).js (.tup ak (.cons (.str v) (.cons (.int 0) .nil))) (aX (by rw[Mv,Ng];lia)) fun H4 A4=>?_);rw[Nx,hv,M8];exact A4
 rw[Mv,RL,<- HP] at A;walk_at "";refine⟨cC,fun b nb=>?_⟩;have S3:=au nb (.lst [.ref e,.ref D]);have S03:=S1.trans (A.same.trans S3);have r3:Rp K (fun x=>H x=none) (upd H2 b (.lst [.ref e,.ref D])) (.ref b) (sd ws (z0 ws)):=.lst ((S1.trans A.same).free nb) ak (.cons (.lst ne (S3 _ _ (A.same _ _ h1)) .nil) (.cons ((A.on S3).ref.mono fun x z=>S1.free z) .nil));generalize upd H2 b (.lst [.ref e,.ref D])=H3 at S3 S03 r3 ⊢;walk_at "";refine⟨tP,fun s ns=>?_⟩;have S4:=au ns (.lst [.ref b]);exact q s b _ (S03.trans S4) (S03.free ns) ak ((yO ns r3).same S4)
structure Sn (K:Fg) (H:Hp) (N:List Addr) (s:Addr) (ws:List Str) (H2:Hp):Prop where
 n:H s=none
 at_:∃b,H2 s=some (.lst [.ref b])/\Rp K (fun x=>H x=none/\x∉N) H2 (.ref b) (sd ws (z0 ws))
theorem Sn.upd(A:Sn K H N s ws H2)(nD:s≠D)(hD:H2 D=some (.lst xs))(m:D∈N):Sn K H N s ws (upd H2 D o):=by
 obtain⟨b,h1,r⟩:=A.at_;exact⟨A.n,b,by rw[av nD];exact h1,r.agr (Agr.rE hD fun z=>z.2 m)⟩
theorem Sn.more(A:Sn K H N s ws H2)(S:Same H2 H3)(n:H2 t=none):Sn K H (t :: N) s ws H3:=by
 obtain⟨b,h1,r⟩:=A.at_;exact⟨A.n,b,S _ _ h1,((yO n r).mono fun x z=>⟨z.1.1,fun m=>by rcases MD.mp m with y|y;exact z.2 y;exact z.1.2 y⟩).same S⟩
theorem seen2{ws1:List Str}(l0:ws.length<=5)(l1:ws1.length<=5)(hro:H ro=some (.lst [.ref w,.ref w1]))(h0:H w=some (.lst (ws.map V.str)))(h1:H w1=some (.lst (ws1.map V.str)))
  (q:∀D s t H',Same H H'->H D=none->H' D=some (.lst [.ref s,.ref t])->s≠D->t≠D->s≠t->Sn K H [t,s,D] s ws H'->Sn K H [t,s,D] t ws1 H'->Q (.ref D) H') :
  cZ (vd K ro) (cz (ag (cz (ag (cz am) (ag (fh (k9 K (ac 0)) (f_ (ag (ac 0) (ag (tC (.int 0)) am)))) am))) am)) σ Q H:=by
 refine io (xs:=[.ref w,.ref w1]) fun D nD=>⟨fun i H2=>Same H H2/\match i with
  |0=>H2 D=some (.lst [])
  |1=>∃s,H2 D=some (.lst [.ref s])/\s≠D/\Sn K H [s,D] s ws H2
  |_=>∃s t,H2 D=some (.lst [.ref s,.ref t])/\s≠D/\t≠D/\s≠t/\Sn K H [t,s,D] s ws H2/\Sn K H [t,s,D] t ws1 H2,⟨au nD _,ak⟩,fun i H2 _ A=>SqL.of (A.1 _ _ hro),?_,fun H2 ⟨S,s,t,e,a,b,c,A,B⟩=>q D s t H2 S nD e a b c A B⟩
 have su:∀{H2:Hp} {o:HO},Same H H2->Same H (upd H2 D o):=fun {H2 o} S b u e=>by rw[av (aC e nD)];exact S _ _ e
 intro i z H2 hz ⟨S2,A⟩
 match i,hz with
 |0,hz =>
  cases hz;have A:H2 D=some (.lst []):=A;refine seen0 l0 (S2 _ _ h0) fun s b H3 S3 ns hs r=>?_
  have sD:s≠D:=(aC A ns).symm
  have B:Sn K H [s,D] s ws H3:=⟨S2.free ns,b,hs,r.mono fun x z=>⟨S2.free z.1,fun m=>by
   simp only[MD,MF,or_false] at m
   rcases m with m|m
   ·exact z.2 m
   ·rw[m,A] at z;cases z.1⟩⟩
  exact cF (by show 0<2;decide) ⟨[],S3 _ _ A,by decide,su (S2.trans S3),s,ak,sD,B.upd sD (S3 _ _ A) (by simp)⟩
 |1,hz =>
  cases hz;obtain⟨s,hD,sD,A⟩:=A;refine seen0 l1 (S2 _ _ h1) fun t b H3 S3 nt ht r=>?_
  obtain⟨_,hs,_⟩:=id A.at_;have tD:t≠D:=(aC hD nt).symm;have st:s≠t:=aC hs nt
  have B:Sn K H [t,s,D] t ws1 H3:=⟨S2.free nt,b,ht,r.mono fun x z=>⟨S2.free z.1,fun m=>by
   simp only[MD,MF,or_false] at m
   rcases m with m|m|m
   ·exact z.2 m
   ·rw[m,hs] at z;cases z.1
   ·rw[m,hD] at z;cases z.1⟩⟩
  exact cF (by show 1<2;decide) ⟨[.ref s],S3 _ _ hD,by show 1<sizeLine;decide,su (S2.trans S3),s,t,ak,sD,tD,st,(A.more S3 nt).upd sD (S3 _ _ hD) (by simp),B.upd tD (S3 _ _ hD) (by simp)⟩
end
section
variable{K:Fg}{C a:Addr}{H H':Hp}{Q:VK}{F:Nat->Fx}{g:Nat->List Pr×Pr}{w:Nat->Addr}{ro de se l:Addr}{ys:List V}{po:List Tn}{x:Ex0.Ad}{u0 u1 u6 u7 u8 u9 YY:Option V}
def Fd(K:Fg)(dD:Addr)(x:Ex0.Ad):TS:=(ar (fw (k9 K (ac 4)) (aJ 9)
 (ar (aQ (aW (oB K dD x) [] E0 (ag (ac 9) am)) (aJ 10))
 (a_ (xr (bq (aA o5 (ac 10) (tC .non))) (bq (aA (ue K) (aW (spKd x) [] E0 (ag (ac 10) am)) (cz (ag (tC (.str "NoDeed")) am)))))
 (aU (tC (.bl false)))
 bc)))
 (aU (tC (.bl true))))
theorem KI(T:Two K C H F g w ro de se l ys po)(e0:∀j,j<2->(g j).1=[])(sc:fo K x.c13 x.V)(q:∀H',Q (.bl true) H') :
  Fd K C x (ends Q) [u0,u1,some (.ref l),some (.ref ro),some (.ref de),some (.ref se),u6,u7,u8,u9,YY] H:=by
 unfold Fd;walk_at "";refine C3 (SqL.of T.hde) ?_;refine jP (xs:=[.ref (F 0).a,.ref (F 1).a]) (fun i σ H2=>∃u9 YY:Option V,σ=[u0,u1,some (.ref l),some (.ref ro),some (.ref de),some (.ref se),u6,u7,u8,u9,YY]/\Same H H2) ⟨_,_,rfl,Same.refl _⟩ (fun i σ H2 _ z=>by obtain⟨_,_,_,S⟩:=z;exact SqL.of (S _ _ T.hde)) ?_ ?_
 ·rintro i z σ H2 hz ⟨u9,YY,rfl,S2⟩;have hi:i<2:=(My.mp hz).1;obtain rfl:z=.ref (F i).a:=MY (hz.symm.trans (two (P:=fun i=>[V.ref (F 0).a,V.ref (F 1).a][i]?=some (.ref (F i).a)) hi rfl rfl));walk_at "";refine⟨(F i).a,_,rfl,(T.sd i hi).dk.same S2,e0 i hi,sc,fun e H3 S3 he=>?_⟩;walk_at "";refine bL (fun z=>by cases z) (fun _=>?_);walk_at "";refine⟨e,rfl,he,fun p H4 S4 hp=>?_⟩;walk_at "";refine⟨by decide,fun v nv=>?_⟩;have S5:=au nv (.lst [.str "NoDeed"]);refine GS (d:=.list [.str "NoDeed"]) (e:=.list [.str "NoDeed"]) (.lst (SqL.of (S5 _ _ hp)) (.cons (.str _) .nil)) (.lst (SqL.of ak) (.cons (.str _) .nil)) (by decide +kernel) (by decide +kernel) (fun z=>absurd rfl z) (fun _=>?_);walk_at "";exact⟨_,_,rfl,S2.trans (S3.trans (S4.trans S5))⟩
 ·rintro σ H2 ⟨u9,YY,rfl,S2⟩;walk_at "";exact q H2
theorem Sd.len(A:Sd K C M H f h p):∃xs,H f.s=some (.lst xs)/\xs.length=h.length+1:=by
 obtain⟨xs,h1,r⟩:=A.at_;exact⟨xs,h1,by rw[r.length,Mv,M3];rfl⟩
theorem Two.back(T:Two K C H F g w ro de se l ys po){j:Nat}(hj:j<2)(n:(g j).1≠[]){Q:VK}(k:∀H' g',Up (Nf (F j)) H H'->Two K C H' F g' w ro de se l ys po->(g' j).1.length+1=(g j).1.length->(∀i,i≠j->g' i=g i)->Q (.bl true) H'):qC K C [.ref (F j).a,.ref (F j).s] H Q E0:=by
 have A:=T.sd j hj;rcases UM (g j).1 with e|⟨h,q,e⟩
 ·exact absurd e n
 rw[UN] at e;rw[e] at A;exact⟨F j,h,q,_,Mf F,rfl,A,fun H' U A'=>k H' _ U (T.step hj U A') (by rw[if_pos rfl,e,M3];rfl) fun i hi=>if_neg hi⟩
def Fe(K:Fg)(dD:Addr)(x:Ex0.Ad):TS:=(ar (qu (bq (aA F_ (aA dj (bQ (b8 K) (ag (aA (aZ K) (ac 5) (tC (.int 0))) am)) (bQ (b8 K) (ag (aA (aZ K) (ac 5) (tC (.int 1))) am))) (tC (.int 2))))
 (ar (aQ (bQ F8 (ag (aA xw (bQ (b8 K) (ag (aA (aZ K) (ac 5) (tC (.int 0))) am)) (bQ (b8 K) (ag (aA (aZ K) (ac 5) (tC (.int 1))) am))) am)) (aJ 8))
 (a_ (dA (tB (aW (qC K dD) [] E0 (ag (aA (aZ K) (ac 4) (ac 8)) (ag (aA (aZ K) (ac 5) (ac 8)) am)))))
 (aU (tC (.bl false)))
 bc)))
 (Fd K dD x))
theorem KJ(T:Two K C H F g w ro de se l ys po)(sc:fo K x.c13 x.V)(q:∀H',Q (.bl true) H') :
  Fe K C x (ends Q) [u0,u1,some (.ref l),some (.ref ro),some (.ref de),some (.ref se),u6,u7,u8,u9,YY] H:=by
 unfold Fe;walk_at "";refine C2 (fun m σ H3=>∃(g:Nat->List Pr×Pr) (u8:Option V),m=(g 0).1.length+(g 1).1.length/\σ=[u0,u1,some (.ref l),some (.ref ro),some (.ref de),some (.ref se),u6,u7,u8,u9,YY]/\Two K C H3 F g w ro de se l ys po) _ ⟨g,u8,rfl,rfl,T⟩ ?_;clear T;rintro m σ H3 ⟨g,u8,rfl,rfl,T⟩;obtain⟨x0,h0,l0⟩:=(T.sd 0 (by decide)).len;obtain⟨x1,h1,l1⟩:=(T.sd 1 (by decide)).len;walk_at "";refine bh (SqL.of T.hse) rfl ?_;walk_at "";refine cr (SqL.of h0) ?_;walk_at "";refine bh (SqL.of T.hse) rfl ?_;walk_at "";refine cr (SqL.of h1) ?_;walk_at "";refine bL (fun c=>?_) (fun c=>?_)
 ·refine⟨fun σ H4=>∃(g':Nat->List Pr×Pr) (u8:Option V),(g' 0).1.length+(g' 1).1.length<(g 0).1.length+(g 1).1.length/\σ=[u0,u1,some (.ref l),some (.ref ro),some (.ref de),some (.ref se),u6,u7,u8,u9,YY]/\Two K C H4 F g' w ro de se l ys po,fun σ' H' ⟨g',u8,e,e2,T'⟩=>⟨_,e,g',u8,rfl,e2,T'⟩,?_⟩;walk_at "";refine bh (SqL.of T.hse) rfl ?_;walk_at "";refine cr (SqL.of h0) ?_;walk_at "";refine bh (SqL.of T.hse) rfl ?_;walk_at "";refine cr (SqL.of h1) ?_;walk_at ""
  obtain⟨j,hj,ej,nz⟩:∃j:Nat,j<2/\(if decide ((x0.length:Int)<(x1.length:Int))=true then (1:Int) else 0)=(j:Int)/\(g j).1≠[]:=by
   by_cases z:(x0.length:Int)<(x1.length:Int)
   ·exact⟨1,by decide,by rw[if_pos (decide_eq_true z)];rfl,fun e=>by rw[e,Qt] at l1;lia⟩
   ·exact⟨0,by decide,by rw[if_neg (fun y=>z (of_decide_eq_true y))];rfl,fun e=>by rw[e,Qt] at l0;have:(2:Int)<x0.length+x1.length:=c;lia⟩
  rw[ej];refine bh (SqL.of T.hde) (Bu (P:=fun j=>.ref (F j).a) hj rfl rfl) ?_;walk_at "";refine bh (SqL.of T.hse) (Bu (P:=fun j=>.ref (F j).s) hj rfl rfl) ?_;walk_at "";refine T.back hj nz fun H4 g' _ T4 e4 o4=>?_
  walk_at "";refine⟨g',_,?_,rfl,T4⟩;rcases (show j=0\/j=1 by lia) with rfl|rfl
  ·rw[o4 1 (by decide)];lia
  ·rw[o4 0 (by decide)];lia
 ·walk_at "";have c' : ¬ (2:Int)<x0.length+x1.length:=c;exact KI T (fun j hj=>two (P:=fun j=>(g j).1=[]) hj (On.mp (by lia)) (On.mp (by lia))) sc q
theorem Two.on(T:Two K C H F g w ro de se l ys po){j:Nat}(hj:j<2){Q:VK}(n:(g j).1.length<900)(k:∀H' g',Up (Nf (F j)) H H'->Two K C H' F g' w ro de se l ys po->(∀i,(g' i).1.length<=(g i).1.length+1)->Q (.bl true) H'):spOn K C [.ref (F j).a,.ref (w j),.ref l,.ref (F j).s,.int c] H Q E0 :=
 ⟨F j,(g j).1,(g j).2,Mf F,w j,l,ys,po,c,rfl,T.sd j hj,T.hw j hj,T.hl,T.ry,T.ne,T.tp j hj,n,fun H' h' p' U A' ln=>k H' _ U (T.step hj U A') fun i=>by
  by_cases e:i=j
  ·rw[if_pos e,e];exact ln
  ·rw[if_neg e];exact PP _⟩
theorem other(T:Two K C H F g w ro de se l ys po){j:Nat}(hj:j<2){D:bJ}(k:∀H',Same H H'->D.nx [u0,u1,some (.ref l),some (.ref ro),some (.ref de),some (.ref se),u6,u7,some (.int (j:Int)),u9,YY] H') :
  a_ (dA (tB (aW (fX K C) [] E0 (ag (aA (aZ K) (ac 4) (aA wP (tC (.int 1)) (ac 8))) (ag (aA (aZ K) (ac 5) (aA wP (tC (.int 1)) (ac 8))) am))))) (aU (tC (.bl false))) bc D [u0,u1,some (.ref l),some (.ref ro),some (.ref de),some (.ref se),u6,u7,some (.int (j:Int)),u9,YY] H:=by
 have h1:1-j<2:=by lia
 have ej:(1:Int)-(j:Int)=((1-j:Nat):Int):=by lia
 walk_at "";rw[ej];refine bh (SqL.of T.hde) (Bu (P:=fun j=>.ref (F j).a) h1 rfl rfl) ?_;walk_at "";rw[ej];refine bh (SqL.of T.hse) (Bu (P:=fun j=>.ref (F j).s) h1 rfl rfl) ?_;walk_at "";refine⟨F (1-j),_,_,_,rfl,T.sd _ h1,fun H2 S2=>?_⟩;walk_at "";exact k H2 S2
def Ff(K:Fg)(dD:Addr)(x:Ex0.Ad):TS:=(ar (fw (k9 K (xq (F2 K) (ac 0) (gq (tC (.int 12))) (gq (tC (.int 63))))) (aJ 7)
 (ar (aQ (aA bU (aA ug (ac 7) (tC (.int 16))) (tC (.int 2))) (aJ 8))
 (ar (a_ (ye (bq (aA jL (aA bU (ac 7) (tC (.int 4))) (tC (.int 1)))) (bq (aA F_ (bQ (b8 K) (ag (aA (aZ K) (ac 5) (ac 8)) am)) (tC (.int 1)))))
 (a_ (dA (tB (aW (qC K dD) [] E0 (ag (aA (aZ K) (ac 4) (ac 8)) (ag (aA (aZ K) (ac 5) (ac 8)) am)))))
 (aU (tC (.bl false)))
 bc)
 (a_ (dA (tB (aW (spOn K dD) [] E0 (ag (aA (aZ K) (ac 4) (ac 8)) (ag (aA (aZ K) (ac 3) (ac 8)) (ag (ac 2) (ag (aA (aZ K) (ac 5) (ac 8)) (ag (ac 7) am))))))))
 (aU (tC (.bl false)))
 bc))
 (a_ (dA (tB (aW (fX K dD) [] E0 (ag (aA (aZ K) (ac 4) (aA wP (tC (.int 1)) (ac 8))) (ag (aA (aZ K) (ac 5) (aA wP (tC (.int 1)) (ac 8))) am)))))
 (aU (tC (.bl false)))
 bc))))
 (Fe K dD x))
theorem KL{ns:List Int}(T:Two K C H F g w ro de se l ys po)(hS:SqL K H a (ns.map V.int))(l63:ns.length<=63)(lg:∀j,j<2->(g j).1.length<=70)(sc:fo K x.c13 x.V)(q:∀H',Q (.bl true) H') :
  Ff K C x (ends Q) [some (.ref a),u1,some (.ref l),some (.ref ro),some (.ref de),some (.ref se),u6,u7,u8,u9,YY] H:=by
 unfold Ff;walk_at "";obtain⟨cs,ec,lc⟩:=wj ns (some 12) (some 63);refine⟨a,_,rfl,hS,fun m nm=>?_⟩;rw[ec];have S1:=au nm (.lst (cs.map V.int));have e1:upd H m (.lst (cs.map V.int)) m=some (.lst (cs.map V.int)):=ak;have mM:m∉Mf F:=fun z=>by obtain⟨_,e⟩:=(T.sd 0 (by decide)).al m z;rw[nm] at e;cases e
 have T1:=T.same S1;generalize upd H m (.lst (cs.map V.int))=H1 at S1 e1 T1 ⊢;refine C3 (SqL.of e1) ?_
 refine jP (xs:=cs.map V.int) (fun i σ H2=>∃(g:Nat->List Pr×Pr) (u7 u8:Option V),σ=[some (.ref a),u1,some (.ref l),some (.ref ro),some (.ref de),some (.ref se),u6,u7,u8,u9,YY]/\Two K C H2 F g w ro de se l ys po/\H2 m=some (.lst (cs.map V.int))/\∀j,j<2->(g j).1.length<=70+i)
  ⟨g,_,_,rfl,T1,e1,lg⟩ (fun i σ H2 _ z=>by obtain⟨_,_,_,_,_,e,_⟩:=z;exact SqL.of e) ?_ ?_
 ·clear T T1 lg;rintro i z σ H2 hz ⟨g,u7,u8,rfl,T,e2,lg⟩;rw[ME] at hz;obtain⟨c,hc,rfl⟩:=MI.mp hz;have li:i<cs.length:=(My.mp hc).1;walk_at "";have m0:=Ot (c / 16) (show(2:Int)≠0 by decide);have m2:=N0 (c / 16) (show(0:Int)<2 by decide);obtain⟨j,ej⟩:∃j:Nat,c / 16 % 2=(j:Int):=⟨(c / 16 % 2).toNat,by lia⟩
  rw[ej] at m0 m2 ⊢;have hj:j<2:=by lia
  obtain⟨xj,hx,lx⟩:=(T.sd j hj).len;have lgj:=lg j hj;have ks:∀{H3:Hp},Up (Nf (F j)) H2 H3->H3 m=some (.lst (cs.map V.int)):=fun U=>U _ _ (fun z=>mM (CS hj m z)) e2
  have yes:∀(D:bJ),(∀H' g',Up (Nf (F j)) H2 H'->Two K C H' F g' w ro de se l ys po->(∀i,(g' i).1.length<=(g i).1.length+1)->D.nx [some (.ref a),u1,some (.ref l),some (.ref ro),some (.ref de),some (.ref se),u6,some (.int c),some (.int (j:Int)),u9,YY] H') ->
    a_ (dA (tB (aW (spOn K C) [] E0 (ag (aA (aZ K) (ac 4) (ac 8)) (ag (aA (aZ K) (ac 3) (ac 8)) (ag (ac 2) (ag (aA (aZ K) (ac 5) (ac 8)) (ag (ac 7) am)))))))) (aU (tC (.bl false))) bc D [some (.ref a),u1,some (.ref l),some (.ref ro),some (.ref de),some (.ref se),u6,some (.int c),some (.int (j:Int)),u9,YY] H2:=fun D k=>by
   walk_at "";refine bh (SqL.of T.hde) (Bu (P:=fun j=>.ref (F j).a) hj rfl rfl) ?_;walk_at "";refine bh (SqL.of T.hro) (Bu (P:=fun j=>.ref (w j)) hj rfl rfl) ?_;walk_at "";refine bh (SqL.of T.hse) (Bu (P:=fun j=>.ref (F j).s) hj rfl rfl) ?_;walk_at "";refine T.on hj (by lia) fun H3 g' U T3 ln=>?_
   walk_at "";exact k H3 g' U T3 ln
  refine bL (fun _=>?_) (fun _=>?_)
  ·walk_at "";refine bh (SqL.of T.hse) (Bu (P:=fun j=>.ref (F j).s) hj rfl rfl) ?_;walk_at "";refine cr (SqL.of hx) ?_;walk_at "";refine bL (fun z=>?_) (fun _=>?_)
   ·have z':(1:Int)<xj.length:=z;walk_at "";refine bh (SqL.of T.hde) (Bu (P:=fun j=>.ref (F j).a) hj rfl rfl) ?_;walk_at "";refine bh (SqL.of T.hse) (Bu (P:=fun j=>.ref (F j).s) hj rfl rfl) ?_;walk_at "";refine T.back hj (fun e=>by rw[e,Qt] at lx;lia) fun H3 g' U T3 e3 o3=>⟨true,rfl,Am (EG ?_)⟩
    refine other T3 hj fun H4 S4=>?_
    refine⟨g',_,_,rfl,T3.same S4,S4 _ _ (ks U),fun i hi=>?_⟩
    have:=lg i hi
    by_cases e:i=j
    ·rw[e];lia
    ·rw[o3 i e];lia
   ·refine yes _ fun H3 g' U T3 ln=>other T3 hj fun H4 S4=>⟨g',_,_,rfl,T3.same S4,S4 _ _ (ks U),fun i hi=>?_⟩
    have:=lg i hi;have:=ln i;lia
  ·refine yes _ fun H3 g' U T3 ln=>other T3 hj fun H4 S4=>⟨g',_,_,rfl,T3.same S4,S4 _ _ (ks U),fun i hi=>?_⟩
   have:=lg i hi;have:=ln i;lia
 ·rintro σ H2 ⟨g,u7,u8,rfl,T,_⟩;walk_at "";exact KJ T sc q
def Fh(K:Fg)(dD:Addr)(x:Ex0.Ad):TS:=(ar (fw (k8 (ag (aA (rI CMul fun i j=>.int (i*j)) (tC (.int 70)) (bQ F8 (ag (aA jL (aA bU (aA ug (aW (mH K) [] E0 (ag (ac 0) (ag (tC (.int 0)) am))) (tC (.int 5))) (tC (.int 8))) (tC (.int 1))) am))) am)) (aJ 6)
 (ar (a_ (bq (aA Im (fg dD "pour" (oy K dD x) [] E0 (aA (aZ K) (ac 4) (tC (.int 0))) (ag (aA (aZ K) (ac 1) (aA bU (ac 6) (bQ (b8 K) (ag (ac 1) am)))) (ag (tC (.int 1)) am))) (tC .non)))
 (aU (tC (.bl false)))
 bc)
 (dS (j4 K "list" cE (aA (aZ K) (ac 5) (tC (.int 0))) (ag (aW (qz K dD) [] E0 (ag (aA (aZ K) (ac 4) (tC (.int 0))) (ag (tC (.bl false)) am))) am)))))
 (Ff K dD x))
theorem KM{ns:List Int}(T:Two K C H F g w ro de se l ys po)(hS:∀H',Up (Mf F) H H'->SqL K H' a (ns.map V.int))(l63:ns.length<=63)(g0:∀j,j<2->(g j).1=[])(t0:(g 0).2.1=[])(c0:∀c∈(g 0).2.2,0<=c)(sc:fo K x.c13 x.V)(q:∀H',Q (.bl true) H') :
  Fh K C x (ends Q) [some (.ref a),some (.ref (w 0)),some (.ref l),some (.ref ro),some (.ref de),some (.ref se),u6,u7,u8,u9,YY] H:=by
 unfold Fh;walk_at "";refine⟨a,ns,0,rfl,hS H (Up.of_same (Same.refl _)),by decide,?_⟩;generalize cellOf ns 0=c;walk_at "";obtain⟨n,en,n70⟩:∃n:Nat,(70*if decide (c / 5 % 8=1)=true then (1:Int) else 0).toNat=n/\n<=70:=⟨_,rfl,by split <;> decide⟩
 rw[en]
 refine cX (fun i σ H2=>∃(g:Nat->List Pr×Pr) (u6:Option V),σ=[some (.ref a),some (.ref (w 0)),some (.ref l),some (.ref ro),some (.ref de),some (.ref se),u6,u7,u8,u9,YY]/\Two K C H2 F g w ro de se l ys po/\Up (Mf F) H H2/\(∀j,j<2->(g j).1.length<=i)/\(g 0).2.1=[]/\∀c∈(g 0).2.2,0<=c)
  ⟨g,_,rfl,T,Up.of_same (Same.refl _),fun j hj=>by rw[g0 j hj];exact MB _,t0,c0⟩ ?_ ?_
 ·clear T g0 t0 c0;rintro i σ H2 hi ⟨g,u6,rfl,T,U,lg,t0,c0⟩;have A:=T.sd 0 (by decide);have o:=A.o;have l1:=o.st.1.1;have l0:=lg 0 (by decide);have hw:=T.hw 0 (by decide);obtain⟨_,_,_,_,B⟩:=id A.dk;walk_at "d";refine bh (SqL.of T.hde) rfl ?_;walk_at "d";refine⟨(F 0).a,(F 0).dx,_,rfl,B.ins,rfl,?_⟩;walk_at "d";refine cr (SqL.of hw) ?_;rw[Mv];have l1':1<=(F 0).ws.length:=l1;refine jB (show(0:Int)<((F 0).ws.length:Int) by lia) ?_;have p0:=Ot (0+(i:Int)) (show((F 0).ws.length:Int)≠0 by lia);have p1:=N0 (0+(i:Int)) (show 0<((F 0).ws.length:Int) by lia);obtain⟨m,em⟩:∃m:Nat,(0+(i:Int)) % ((F 0).ws.length:Int)=(m:Int):=⟨((0+(i:Int)) % ((F 0).ws.length:Int)).toNat,by lia⟩
  rw[em] at p0 p1 ⊢;have lm:m<(F 0).ws.length:=by lia
  have lc:m<(g 0).2.2.length:=by have:(g 0).2.2.length=(F 0).ws.length:=o.ln;lia
  have ew:(F 0).ws[m]?=some (F 0).ws[m]:=Mw lm;have ec:(g 0).2.2[m]?=some (g 0).2.2[m]:=Mw lc;have cm:=c0 _ (Qf lc);refine bh (SqL.of hw) (v:=.str (F 0).ws[m]) (bz (by rw[ME,ew];rfl)) ?_;walk_at "d";refine⟨(F 0).a,(F 0).ds (g 0).1 (g 0).2,m,_,_,1,rfl,A.dk,o,by show(g 0).1.length<1000;lia,ew,ec,fun z H3 U3 D3=>?_,fun z=>absurd z (by lia)⟩;have D3:Desk K C H3 (F 0).a ((F 0).ds ((g 0).1++[(g 0).2]) ((g 0).2.1,(g 0).2.2.set m ((g 0).2.2[m]+1))):=D3;have o3:DOk ((F 0).ds ((g 0).1++[(g 0).2]) ((g 0).2.1,(g 0).2.2.set m ((g 0).2.2[m]+1))):=⟨o.st,o.pl,o.wd,by show((g 0).2.2.set m _).length=_;rw[Uq];exact o.ln,o.tt,o.ck⟩
  have st:∀{b:Addr} {o:HO},b∈[ro,de,se,w 0,w 1,l]->H2 b=some o->H3 b=some o:=fun {b o} m e=>U3 b o (fun z=>T.nm b m (CS (j:=0) (by decide) b (by simp only[MD,MF,or_false] at z ⊢;rcases z with z|z <;> simp[z]))) e
  obtain⟨zs,s3,lz,r3⟩:=A.beh U3;walk_at "d";refine bP (fun z=>absurd rfl z) (fun _=>?_);walk_at "d";refine bh (SqL.of (st (by simp) T.hse)) rfl ?_;walk_at "d";refine⟨uN s3,?_⟩;walk_at "d";refine bh (SqL.of (st (by simp) T.hde)) rfl ?_;walk_at "d";refine⟨(F 0).a,_,false,rfl,D3,o3,by show false = !(g 0).2.1.isEmpty;rw[t0];rfl,fun n H4 A4=>?_⟩;walk_at "d";refine⟨(F 0).s,zs,_,rfl,rfl,A4.same _ _ s3,by rw[lz,Oi];lia,?_⟩;obtain⟨U5,A6⟩:=A.push U3 D3 o3 s3 r3 (Same.refl _) A4;have T6:=T.step (by decide) U5 A6;refine⟨_,_,rfl,T6,U.trans (Up.wide U5 (CS (j:=0) (by decide))),fun j hj=>?_,t0,fun c hc=>?_⟩
  ·by_cases e:j=0
   ·rw[if_pos e,M3];show _+1<=_;lia
   ·rw[if_neg e];have:=lg j hj;lia
  ·rcases List.mem_or_eq_of_mem_set hc with z|z
   ·exact c0 c z
   ·lia
 ·rintro σ H2 ⟨g,u6,rfl,T,U,lg,_⟩;walk_at "";exact KL T (hS H2 U) l63 (fun j hj=>by have:=lg j hj;lia) sc q
theorem SqL.up(h:SqL K H a xs)(U:Up M H H')(n:∀b∈M,H b=none):SqL K H' a xs:=by
 have na:∀{o:HO},H a=some o->a∉M:=fun e m=>by rw[n a m] at e;cases e
 rcases h with(e|⟨o,e⟩)|k
 ·exact .inl (.inl (U _ _ (na e) e))
 ·exact .inl (.inr ⟨o,U _ _ (na e) e⟩)
 ·exact .inr k
structure Bg (K:Fg) (H:Hp) (w l:Addr) (ws:List Str) (ys:List V) (po:List Tn):Prop where
 hw:H w=some (.lst (ws.map V.str))
 hl:H l=some (.lst ys)
 ry:RzL K H ys (po.map dT)
theorem Bg.same{w l:Addr}(B:Bg K H w l ws ys po)(S:Same H H'):Bg K H' w l ws ys po:=⟨S _ _ B.hw,S _ _ B.hl,B.ry.same S⟩
theorem JT{dx l:Addr}(h:eG ws)(w1:1<=ws.length)(w5:ws.length<=5):DOk ⟨dx,l,ws,[],Nq ws.length 0,[]⟩:=⟨(xC h w1 w5).st,(xC h w1 w5).pl,Kx h w5,Oj,fun t ht=>(by cases ht),.inl rfl⟩
theorem zP{σ:St}{ro:Addr}{ws:List Str}(h3:σ[3]?=some (some (.ref ro)))(hro:H ro=some (.lst xs))(e:lG xs i=some (.ref r))(hr:H r=some (.lst (ws.map V.str)))(wo:eG ws)(w1:1<=ws.length)(w5:ws.length<=5)
  (k:∀a dx l H',Same H H'->H a=none->H l=none->Desk K C H' a ⟨dx,l,ws,[],Nq ws.length 0,[]⟩->Q (.ref a) H'):wC C (cQ K C) [] E0 (ag (bQ (gw K) (ag (aA (aZ K) (ac 3) (tC (.int i))) am)) am) σ H Q:=by
 refine Jm ?_;walk_at "";refine uM (i:=3) (v:=.ref ro) h3 ?_;walk_at "";refine bh (SqL.of hro) e ?_;walk_at "";refine GT (SqL.of hr) fun h nh=>?_
 have T:=au nh (.lst (ws.map V.str));have hh:upd H h (.lst (ws.map V.str)) h=some (.lst (ws.map V.str)):=ak;generalize upd H h (.lst (ws.map V.str))=H1 at T hh ⊢;walk_at "";intro a dx na nd nx;have M1:Same H1 (upd (upd H1 dx (.own a)) a (.ins C dx [])):=fun b o e=>by rw[av (aC e na),av (aC e nd)];exact e
 exact⟨a,dx,h,ws,rfl,ak,by rw[av nx,ak],SqL.of (M1 _ _ hh),xC wo w1 w5,fun H2 l nl U D=>⟨rfl,k a dx l H2 (T.trans (zO na nd U)) (T.free na) (T.free (M1.free nl)) D⟩⟩
def Fc(K:Fg)(dD:Addr)(x:Ex0.Ad):TS:=(ar (aQ (aW (tL K) [] E0 (ag (ac 0) (ag (tC (.int 1)) (ag (aA dj (tC (.int 1)) (aA bU (aW (mH K) [] E0 (ag (ac 0) (ag (tC (.int 0)) am))) (tC (.int 5)))) am)))) (aJ 1))
 (ar (aQ (aW (iH K) [] E0 (ag (ac 0) (ag (bQ (b8 K) (ag (ac 1) am)) am))) (aJ 2))
 (ar (aQ (cz (ag (ac 1) (ag (Fl K (fh (k9 K (ac 1)) (aA eK (BK (ac 0) (x_ (rU fun i=>.int (-i)) (tC (.int 1)))) (tC (.str "z")))) (x_ (rU fun i=>.int (-i)) (tC (.int 1)))) am))) (aJ 3))
 (ar (aQ (fh (k8 (ag (bQ (b8 K) (ag (ac 1) am)) am)) (aA eK (xq F3 (aA (aZ K) (aA (aZ K) (ac 4) (tC (.int 1))) (ac 0)) (gq (x_ (rU fun i=>.int (-i)) (tC (.int 7)))) eO) (aA qU (tC (.str "abcde")) (ac 0)))) (Dw (ac 3) (tC (.int 1)) F4))
 (ar (aQ (cz (ag (wC dD (cQ K dD) [] E0 (ag (bQ (gw K) (ag (aA (aZ K) (ac 3) (tC (.int 0))) am)) am)) (ag (wC dD (cQ K dD) [] E0 (ag (bQ (gw K) (ag (aA (aZ K) (ac 3) (tC (.int 1))) am)) am)) am))) (aJ 4))
 (ar (aQ (fh (k9 K (ac 3)) (cz (ag (cz (ag (cz am) (ag (fh (k9 K (ac 0)) (f_ (ag (ac 0) (ag (tC (.int 0)) am)))) am))) am))) (aJ 5))
 (Fh K dD x)))))))
theorem Ii{ns:List Int}(sc:fo K x.c13 x.V)(hS:SqL K H a (ns.map V.int))(l63:ns.length<=63)(q:∀H',Q (.bl true) H') :
  Fc K C x (ends Q) [some (.ref a),none,none,none,none,none,none,none,none,none,none] H:=by
 unfold Fc;walk_at "";refine⟨a,ns,0,rfl,hS,by decide,?_⟩;generalize cellOf ns 0=c0;walk_at "";have c50:=Ot c0 (show(5:Int)≠0 by decide);have c55:=N0 c0 (show(0:Int)<5 by decide);refine⟨a,ns,1,1+c0 % 5,rfl,hS,by decide,by lia,by lia,fun w H1 ws A1 wo lw=>?_⟩;have w1':1<=ws.length:=by lia
 have w5:ws.length<=5:=by lia
 have S1:=A1.same;have hw:=AccZ.strs A1;clear A1 lw c50 c55;walk_at "";refine cr (SqL.of hw) ?_;rw[Mv];walk_at "";refine⟨a,ns,ws.length,rfl,S1.seq hS,l63,w5,fun l H2 po A2 ne tp=>?_⟩;obtain⟨ys,hl,ry⟩:=A2.at_;have S2:=S1.trans A2.same;have B:Bg K H2 w l ws ys po:=⟨A2.same _ _ hw,hl,ry⟩
 clear A2 S1 hw hl ry;walk_at "";refine Jg ?_;walk_at "";refine⟨w,rfl,⟨_,SqL.of B.hw⟩,turned wo w5 B.hw fun D H3 vs A3 lv hv=>?_⟩;walk_at "";have S3:=S2.trans A3.same;have B:=B.same A3.same;refine⟨D,_,rfl,rfl,SqL.of (AccZ.strs A3),fun R nR=>?_⟩;have T4:=au nR (.lst (vs.map V.str).reverse);have hR:upd H3 R (.lst (vs.map V.str).reverse) R=some (.lst (vs.reverse.map V.str)):=by rw[ak,List.map_reverse]
 have S4:=S3.trans T4;have B:=B.same T4;generalize upd H3 R (.lst (vs.map V.str).reverse)=H4 at T4 hR S4 B ⊢;clear A3 nR S2 S3 T4;walk_at "";refine⟨cC,fun ro nro=>?_⟩;have T5:=au nro (.lst [.ref w,.ref R]);have hro:upd H4 ro (.lst [.ref w,.ref R]) ro=some (.lst [.ref w,.ref R]):=ak;have fro:=S4.free nro;have wro:w≠ro:=aC B.hw nro;have lro:l≠ro:=aC B.hl nro;have S5:=S4.trans T5;have B:=B.same T5;have hR:=T5 _ _ hR;generalize upd H4 ro (.lst [.ref w,.ref R])=H5 at T5 hro hR S5 B ⊢;clear nro S4 T5;walk_at "";refine cr (SqL.of B.hw) ?_;rw[Mv];walk_at "";have lr:vs.reverse.length=ws.length:=by rw[Sa,lv]
 rw[show(((ws.length:Nat):Int)).toNat=vs.reverse.length by rw[lr];lia];refine CY (by lia) (fun v m=>hv v (WJ.mp m)) rfl hro hR fun D2 H6 us A6 lu lt=>?_
 have hD2:=AccZ.strs A6;have uo:=IN lt (by lia);have dro:D2≠ro:=(aC hro A6.new).symm;have hro:=A6.same _ _ hro;have B:=B.same A6.same;have S6:=S5.trans A6.same;clear A6 S5 hR lt hv;walk_at "";refine EJ (uM (i:=3) rfl (L9 ?_));refine⟨ro,_,_,1,rfl,rfl,hro,rfl,?_⟩;have S7:Same H (upd H6 ro (.lst [.ref w,.ref D2])):=fun b o e=>by rw[av (aC e fro)];exact S6 _ _ e
 have B:Bg K (upd H6 ro (.lst [.ref w,.ref D2])) w l ws ys po:=⟨by rw[av wro];exact B.hw,by rw[av lro];exact B.hl,B.ry.agr (Agr.rE hro fun z=>z)⟩
 have hD2:upd H6 ro (.lst [.ref w,.ref D2]) D2=some (.lst (us.map V.str)):=by rw[av dro];exact hD2
 have hro:upd H6 ro (.lst [.ref w,.ref D2]) ro=some (.lst [.ref w,.ref D2]):=ak;show ar _ _ _ _ (upd H6 ro (.lst [.ref w,.ref D2]));generalize upd H6 ro (.lst [.ref w,.ref D2])=H7 at S7 B hD2 hro ⊢;clear S6 fro wro lro dro;walk_at "";refine zP rfl hro rfl B.hw wo w1' w5 fun a0 dx0 l0 H8 T8 na0 nl0 D0=>?_
 walk_at "";have hD2':=T8 _ _ hD2;have hro':=T8 _ _ hro;refine zP rfl hro' rfl hD2' uo (by lia) (by lia) fun a1 dx1 l1 H9 T9 na1 nl1 D1=>?_
 walk_at "";refine⟨cC,fun de nde=>?_⟩;have ZG:=au nde (.lst [.ref a0,.ref a1]);have hde:upd H9 de (.lst [.ref a0,.ref a1]) de=some (.lst [.ref a0,.ref a1]):=ak;have T7:=T8.trans (T9.trans ZG);have B7:=B;have B:=B.same T7;have ZN:=T7 _ _ hro;have hD20:=T7 _ _ hD2;obtain⟨_,_,_,_,E8⟩:=id D0;obtain⟨_,_,_,_,E9⟩:=id (D0.same T9);obtain⟨_,_,_,_,G9⟩:=id D1;have a01:a0≠a1:=aC E8.ins na1;have l01:l0≠l1:=aC E8.lst nl1;have D0:=(D0.same T9).same ZG;have D1:=D1.same ZG
 have ms:∀b∈[a0,l0,a1,l1],∃o,H9 b=some o:=fun b hb=>by
  simp only[MD,MF,or_false] at hb;rcases hb with rfl|rfl|rfl|rfl
  ·exact⟨_,E9.ins⟩
  ·exact⟨_,E9.lst⟩
  ·exact⟨_,G9.ins⟩
  ·exact⟨_,G9.lst⟩
 have S10:=S7.trans T7
 have nM:∀b∈[a0,l0,a1,l1],H7 b=none:=fun b hb=>by
  simp only[MD,MF,or_false] at hb;rcases hb with rfl|rfl|rfl|rfl
  ·exact na0
  ·exact nl0
  ·exact T8.free na1
  ·exact T8.free nl1
 generalize upd H9 de (.lst [.ref a0,.ref a1])=Za at ZG hde T7 B ZN hD20 D0 D1 S10 ⊢;walk_at "";refine⟨ro,rfl,⟨_,SqL.of ZN⟩,seen2 w5 (by lia) ZN B.hw hD20 fun se s t H11 YT nse hse sD tD st X0 X1=>?_⟩
 have off:∀{b:Addr},b∉[a0,l0,a1,l1]->b≠s->b≠t->b∉[a0,l0,s,a1,l1,t]:=fun {b} h1 h2 h3 m=>by
  simp only[MD,MF,or_false,not_or] at h1 m;rcases m with m|m|m|m|m|m
  ·exact h1.1 m
  ·exact h1.2.1 m
  ·exact h2 m
  ·exact h1.2.2.1 m
  ·exact h1.2.2.2 m
  ·exact h3 m
 have live:∀{b:Addr} {o:HO},Za b=some o->b≠s/\b≠t:=fun e=>⟨aC e X0.n,aC e X1.n⟩
 have old:∀{b:Addr} {o:HO},H7 b=some o->b∉[a0,l0,s,a1,l1,t]:=fun {b o} e=>off (fun m=>by rw[nM b m] at e;cases e) (live (T7 _ _ e)).1 (live (T7 _ _ e)).2
 have ms10:∀b∈[a0,l0,a1,l1],∃o,Za b=some o:=fun b hb=>by obtain⟨o,e⟩:=ms b hb;exact⟨o,ZG _ _ e⟩
 have new:∀{b:Addr},Za b=none->b∉[a0,l0,a1,l1]:=fun {b} e m=>by obtain⟨o,e2⟩:=ms10 b m;rw[e2] at e;cases e
 have nde':de∉[a0,l0,s,a1,l1,t]:=off (fun m=>by obtain⟨o,e2⟩:=ms de m;rw[e2] at nde;cases nde) (live hde).1 (live hde).2;have nse':se∉[a0,l0,s,a1,l1,t]:=off (new nse) sD.symm tD.symm;obtain⟨b0,hs,r0⟩:=X0.at_;obtain⟨b1,ht,r1⟩:=X1.at_
 have al:∀b∈[a0,l0,s,a1,l1,t],∃o,H11 b=some o:=fun b hb=>by
  by_cases z:b∈[a0,l0,a1,l1]
  ·obtain⟨o,e⟩:=ms10 b z;exact⟨o,YT _ _ e⟩
  ·by_cases y:b=s
   ·exact⟨_,by rw[y];exact hs⟩
   ·by_cases v:b=t
    ·exact⟨_,by rw[v];exact ht⟩
    ·exact absurd hb (off z y v)
 have mo:∀x,(Za x=none/\x∉[t,s,se])->x∉[a0,l0,s,a1,l1,t]:=fun x z=>off (new z.1) (fun e=>z.2 (by simp[e])) (fun e=>z.2 (by simp[e]))
 have lu':us.length=ws.length:=by rw[lu,lr]
 have o1:DOk ⟨dx1,l1,us,[],Nq us.length 0,[]⟩:=JT uo (by lia) (by lia)
 have T:Two K C H11 (fun j=>match j with|0=>⟨a0,s,l0,dx0,ws⟩|_=>⟨a1,t,l1,dx1,us⟩) (fun j=>match j with|0=>([],z0 ws)|_=>([],z0 us)) (fun j=>match j with|0=>w|_=>D2) ro de se l ys po:=by
  refine⟨fun j hj=>?_,fun i j hi hj ij=>?_,YT _ _ ZN,YT _ _ hde,hse,fun j hj=>?_,YT _ _ B.hl,B.ry.same YT,fun b hb=>?_,ne,fun j hj u hu=>?_⟩
  ·match j,hj with
   |0,_=>exact⟨D0.same YT,fun q hq=>by rw[MK.mp hq];exact JT wo w1' w5,⟨_,hs,.cons (r0.mono mo) .nil⟩,by simp,by simp,by simp,(live (ZG _ _ E9.lst)).1.symm,al⟩
   |1,_=>exact⟨D1.same YT,fun q hq=>by rw[MK.mp hq];exact o1,⟨_,ht,.cons (r1.mono mo) .nil⟩,by simp,by simp,by simp,(live (ZG _ _ G9.lst)).2.symm,al⟩
  ·match i,j,hi,hj with
   |0,0,_,_=>exact absurd rfl ij
   |0,1,_,_=>exact⟨a01,l01,st,(live (ZG _ _ G9.lst)).1.symm⟩
   |1,0,_,_=>exact⟨a01.symm,l01.symm,st.symm,(live (ZG _ _ E9.lst)).2.symm⟩
   |1,1,_,_=>exact absurd rfl ij
  ·match j,hj with
   |0,_=>exact YT _ _ B.hw
   |1,_=>exact YT _ _ hD20
  ·simp only[MD,MF,or_false] at hb;rcases hb with rfl|rfl|rfl|rfl|rfl|rfl
   ·exact old hro
   ·exact nde'
   ·exact nse'
   ·exact old B7.hw
   ·exact old hD2
   ·exact old B7.hl
  ·match j,hj with
   |0,_=>exact tp u hu
   |1,_=>have:=tp u hu;rw[<- lu'] at this;exact this
 walk_at "";refine KM T (fun H' U=>SqL.up hS ((Up.of_same (S10.trans YT)).trans U) fun b hb=>?_) l63 (fun j hj=>?_) rfl (fun c hc=>?_) sc q
 ·have hb:b∈[a0,l0,s,a1,l1,t]:=hb;by_cases z:b∈[a0,l0,a1,l1]
  ·exact S7.free (nM b z)
  ·by_cases y:b=s
   ·rw[y];exact S10.free X0.n
   ·by_cases v:b=t
    ·rw[v];exact S10.free X1.n
    ·exact absurd hb (off z y v)
 ·match j,hj with
  |0,_=>rfl
  |1,_=>rfl
 ·rw[(V7.mp hc).2];exact Int.le_refl _
end
end Dh
namespace K94
open PySem L2 Fr G1 Sm Vs
open Tr2 (kvPW)
open PySem.W (Dat kqdOk)
open K94H
open Ex0 Kd in
structure sK (K:Fg) (mg:Str->Option Mu) (x:Ad):Prop where
 v:Bl K mg "VesselError" x.V
 vb:Ki K mg "VesselError" x.V
 mv:mg "ValueError"=none
 m0:mg "NoFraction"=some (.ref x.c0)
 m1:mg "NoStuffs"=some (.ref x.c1)
 m2:mg "NoHeap"=some (.ref x.c2)
 m3:mg "NoPace"=some (.ref x.c3)
 m4:mg "NoTurnings"=some (.ref x.c4)
 m5:mg "NoTurning"=some (.ref x.c5)
 m6:mg "NoText"=some (.ref x.c6)
 m7:mg "NotNow"=some (.ref x.c7)
 m8:mg "TooMany"=some (.ref x.c8)
 m9:mg "NoDrain"=some (.ref x.c9)
 m10:mg "NotEven"=some (.ref x.c10)
 m11:mg "NoStuff"=some (.ref x.c11)
 m12:mg "NoPieces"=some (.ref x.c12)
 m13:mg "NoDeed"=some (.ref x.c13)
 n1:xo K mg "NoStuffs" x.c1 BX "ValueError.__new__"
 n4:xo K mg "NoTurnings" x.c4 BX "ValueError.__new__"
 n5:xo K mg "NoTurning" x.c5 BX "ValueError.__new__"
 n12:xo K mg "NoPieces" x.c12 BX "ValueError.__new__"
 n13:xo K mg "NoDeed" x.c13 BX "ValueError.__new__"
 s1:fo K x.c1 x.V
 s4:fo K x.c4 x.V
 s5:fo K x.c5 x.V
 s7:fo K x.c7 x.V
 s12:fo K x.c12 x.V
 s13:fo K x.c13 x.V
 h7:sL K x.c7
 f7:sM K x.c7 "at"
 k13:Bk K x x.c13 13
theorem K9{K:Fg} {mg:Str->Option Mu}  {n:Nat} {t0 t1 t2:Tok} {h0 h1 h2:Int} (hm:mg "PIECES_WRITTEN"=some (.ref D))
  (hl:K.lookup D=some ⟨.type "dict",none,.dict #[⟨h0,.str "" t0,.int 1 u0⟩,⟨h1,.str "2" t1,.int 2 u1⟩,⟨h2,.str "3" t2,.int 3 u2⟩] n,#[]⟩) (e0:h0=hashStr w "") (e1:h1=hashStr w "2") (e2:h2=hashStr w "3") (ns:(D == sysModules)=false):KD P w K mg "PIECES_WRITTEN" D kvPW:=by
 refine⟨hm,ns,fun h X=>⟨[(.inr "",.int 1 u0),(.inr "2",.int 2 u1),(.inr "3",.int 3 u2)],.cons ⟨rfl,_,rfl⟩ (.cons ⟨rfl,_,rfl⟩ (.cons ⟨rfl,_,rfl⟩ .nil)),?_⟩⟩;refine⟨_,_,_,X _ _ hl,⟨rfl,rfl,rfl⟩,rfl,?_,.cons (cw ..) rfl (.cons (cw ..) rfl (.cons (cw ..) rfl .nil)),(by decide:([.inr "",.inr "2",.inr "3"]:List L2.Key).Nodup)⟩;intro e he;have he':e∈[(⟨h0,.str "" t0,.int 1 u0⟩:Tt),⟨h1,.str "2" t1,.int 2 u1⟩,⟨h2,.str "3" t2,.int 3 u2⟩]:=PM.mpr he;rcases MD.mp he' with rfl|he'
 ·exact⟨.inr "",cw ..,e0⟩
 rcases MD.mp he' with rfl|he'
 ·exact⟨.inr "2",cw ..,e1⟩
 ·cases MK.mp he';exact⟨.inr "3",cw ..,e2⟩
theorem BY:aF ["value"] ["value"] (ah (top 17)):=by walk_at "s"
theorem gv:aF ["one","two","rest"] ["one","two"] (ah (top 18)):=by walk_at "s"
theorem t9:aF ["top","bottom","divisor"] ["top","bottom"] (ah (top 19)):=by walk_at "s"
theorem yK:aF ["one","two"] ["one","two"] (ah (top 20)):=by walk_at "s"
theorem wH:aF ["word"] ["word"] (ah (top 28)):=by walk_at "s"
theorem qG:aF ["words"] ["words"] (ah (top 29)):=by walk_at "s"
theorem wI:aF ["pieces","size"] ["pieces","size"] (ah (top 30)):=by walk_at "s"
theorem lU:aF ["rows","size","row"] ["rows","size"] (ah (top 31)):=by walk_at "s"
theorem iM:aF ["turnings"] ["turnings"] (ah (top 32)):=by walk_at "s"
theorem t7:aF ["turnings","found","turning"] ["turnings"] (ah (top 33)):=by walk_at "s"
theorem FC:aF ["words","rows","stuffs","turnings"] ["words","rows"] (ah (top 34)):=by walk_at "s"
theorem oU:aF ["word","pieces"] ["word","pieces"] (ah (top 37)):=by walk_at "s"
theorem qL:aF ["stuffs","heap","parts"] ["stuffs","heap"] (ah (top 38)):=by walk_at "s"
theorem qH:aF ["pace","top","bottom"] ["pace"] (ah (top 39)):=by walk_at "s"
theorem kh:aF ["stuffs","turning","one","two","pace"] ["stuffs","turning"] (ah (top 40)):=by walk_at "s"
theorem kn:aF ["stuffs","text","pieces","part","cut"] ["stuffs","text"] (ah (top 41)):=by walk_at "s"
theorem iL:aF ["text"] ["text"] (ah (top 42)):=by walk_at "s"
theorem km:aF ["text","cut","top","bottom"] ["text"] (ah (top 43)):=by walk_at "s"
theorem kj:aF ["stuffs","text","cut","rest","pace","turning"] ["stuffs","text"] (ah (top 44)):=by walk_at "s"
theorem lY:aF ["turning","count"] ["turning","count"] (ah (top 46)):=by walk_at "s"
theorem ko:aF ["turning","count"] ["turning","count"] (ah (top 47)):=by walk_at "s"
theorem lW:aF ["_law_script","_law_k"] ["_law_script","_law_k"] (ah (top 51)):=by walk_at "s"
theorem qJ:aF ["_law_cell","_law_many","_law_found","_law_number","_law_k"] ["_law_cell","_law_many"] (ah (top 52)):=by walk_at "s"
theorem lV:aF ["_law_one","_law_other","_law_rest"] ["_law_one","_law_other"] (ah (top 53)):=by walk_at "s"
theorem oW:aF ["_law_top","_law_bottom","_law_share"] ["_law_top","_law_bottom"] (ah (top 54)):=by walk_at "s"
theorem tY:aF ["_law_cell","_law_size","_law_number","_law_found","_law_k"] ["_law_cell","_law_size"] (ah (top 55)):=by walk_at "s"
theorem tS:aF ["_law_base_here","_law_place","_law_size","_law_k","_law_signs","_law_other"] ["_law_base_here","_law_place","_law_size","_law_k"] (ah (top 56)):=by walk_at "s"
theorem qI:aF ["_law_script","_law_at","_law_many","_law_cell","_law_size","_law_base_here","_law_words_here","_law_k","_law_word_here"] ["_law_script","_law_at","_law_many"] (ah (top 57)):=by walk_at "s"
theorem tW:aF ["_law_number","_law_many","_law_most","_law_found","_law_k"] ["_law_number","_law_many","_law_most"] (ah (top 58)):=by walk_at "s"
theorem eQ:aF ["_law_found","_law_due","_law_k"] ["_law_found","_law_due"] (ah (top 59)):=by walk_at "s"
theorem qK:aF ["_law_e","_law_found"] ["_law_e"] (ah (top 60)):=by walk_at "s"
theorem jo:aF ["_law_words_here","_law_heap_here","_law_found","_law_k"] ["_law_words_here","_law_heap_here"] (ah (top 61)):=by walk_at "s"
theorem gu:aF ["_law_words_here","_law_turning","_law_pace","_law_sides"] ["_law_words_here","_law_turning"] (ah (top 62)):=by walk_at "s"
theorem tU:aF ["_law_rows","_law_pool","_law_xs"] ["_law_rows","_law_pool","_law_xs"] (ah (top 63)):=by walk_at "s"
theorem jp:aF ["_law_script","_law_many","_law_found","_law_cell","_law_xs","_law_most","_law_one","_law_two"] ["_law_script","_law_many"] (ah (top 64)):=by walk_at "s"
theorem tT:aF ["_law_desk","_law_lies","_law_seen_here"] ["_law_desk","_law_lies"] (ah (top 65)):=by walk_at "s"
theorem tX:aF ["_law_desk","_law_words_here","_law_rows","_law_pool","_law_cell","_law_xs","_law_told","_law_text","_law_pieces"] ["_law_desk","_law_words_here","_law_rows","_law_pool","_law_cell"] (ah (top 66)):=by walk_at "s"
theorem oV:aF ["_law_desk","_law_caught","_law_e"] ["_law_desk"] (ah (top 67)):=by walk_at "s"
theorem jn:aF ["_law_vessel_told"] ["_law_vessel_told"] (ah (top 68)):=by walk_at "s"
theorem lX:aF ["_law_desk","_law_seen_here"] ["_law_desk","_law_seen_here"] (ah (top 69)):=by walk_at "s"
theorem tZ:aF ["_law_desk","_law_seen_here"] ["_law_desk","_law_seen_here"] (ah (top 70)):=by walk_at "s"
theorem yI:aF ["_law_desk","_law_words_here","_law_pool","_law_seen_here","_law_cell","_law_told"] ["_law_desk","_law_words_here","_law_pool","_law_seen_here","_law_cell"] (ah (top 71)):=by walk_at "s"
theorem jr:aF ["self","words"] ["self","words"] (ah (met 49 0)):=by walk_at "s"
theorem qQ:aF ["self","turnings","pieces"] ["self","turnings","pieces"] (ah (met 49 1)):=by walk_at "s"
theorem jq:aF ["self","text","lying"] ["self","text"] (ah (met 49 2)):=by walk_at "s"
theorem t_:aF ["self","text","turning","turnings"] ["self","text"] (ah (met 49 3)):=by walk_at "s"
theorem qO:aF ["self","text","place"] ["self","text"] (ah (met 49 4)):=by walk_at "s"
theorem oX:aF ["self"] ["self"] (ah (met 49 5)):=by walk_at "s"
theorem lZ:aF ["self"] ["self"] (ah (met 49 6)):=by walk_at "s"
theorem qP:aF ["self","word","pieces","place","behind"] ["self","word","pieces"] (ah (met 49 7)):=by walk_at "s"
theorem qN:aF ["self","text","turning"] ["self","text"] (ah (met 49 8)):=by walk_at "s"
theorem oY:aF ["self"] ["self"] (ah (met 49 9)):=by walk_at "s"
theorem qM:aF ["self","ahead"] ["self"] (ah (met 49 10)):=by walk_at "s"
theorem Ee:aF ["_law_script","_law_words_here","_law_pool","_law_rolls","_law_desks","_law_seen_here","_law_k","_law_cell","_law_j","_law_desk","_law_caught"] ["_law_script"] (ah (top 72)):=by walk_at "s"
section
variable{P:MP}{w:M4}{K:Fg}{mg:Str->Option Mu}{base:Heap}{dD:Addr}
seal PE PS PSs PA PT
local macro_rules | `(tactic| walk_at "l")=>`(tactic| (intro h;repeat (first|(obtain⟨e,_⟩:=h;cases e;exact rfl)|obtain⟨_,h⟩:=h)))
abbrev vf (P:MP) (w:M4) (K:Fg) (mg:Str->Option Mu) (base:Heap) (k:Nat):=FnC P w K mg base b_ k "whole" ["value"] oA
abbrev eA (P:MP) (w:M4) (K:Fg) (mg:Str->Option Mu) (base:Heap) (k:Nat):=FnC P w K mg base b_ k "greatest_divisor" ["one","two"] BO
abbrev nH (P:MP) (w:M4) (K:Fg) (mg:Str->Option Mu) (base:Heap) (k:Nat):=FnC P w K mg base b_ k "fraction" ["top","bottom"] (Tr.oN K)
abbrev ww (P:MP) (w:M4) (K:Fg) (mg:Str->Option Mu) (base:Heap) (k:Nat):=FnC P w K mg base b_ k "before" ["one","two"] (Nv.oP K)
abbrev sO (P:MP) (w:M4) (K:Fg) (mg:Str->Option Mu) (base:Heap) (k:Nat):=FnC P w K mg base b_ k "is_word" ["word"] (Nv.oJ K)
abbrev gO (P:MP) (w:M4) (K:Fg) (mg:Str->Option Mu) (base:Heap) (x:Ex0.Ad) (k:Nat):=FnC P w K mg base (ff P w) k "stuffs_of" ["words"] (Nv.gY K x.c1)
abbrev sP (P:MP) (w:M4) (K:Fg) (mg:Str->Option Mu) (base:Heap) (k:Nat):=FnC P w K mg base b_ k "is_heap" ["pieces","size"] (Nv.jK K)
abbrev iq (P:MP) (w:M4) (K:Fg) (mg:Str->Option Mu) (base:Heap) (k:Nat):=FnC P w K mg base b_ k "turnings_of" ["rows","size"] (Dk.oC K)
abbrev df (P:MP) (w:M4) (K:Fg) (mg:Str->Option Mu) (base:Heap) (x:Ex0.Ad) (k:Nat):=FnC P w K mg base (ff P w) k "check_turnings" ["turnings"] (Nv.oO K x.c4)
abbrev nG (P:MP) (w:M4) (K:Fg) (mg:Str->Option Mu) (base:Heap) (k:Nat):=FnC P w K mg base b_ k "heaps_of" ["turnings"] (kc K)
abbrev EY (P:MP) (w:M4) (K:Fg) (mg:Str->Option Mu) (base:Heap) (k:Nat):=FnC P w K mg base b_ k "made" ["words","rows"] (Dk.tO K)
abbrev ji (P:MP) (w:M4) (K:Fg) (mg:Str->Option Mu) (base:Heap) (k:Nat):=FnC P w K mg base b_ k "stuff_text" ["word","pieces"] Tw.oG
abbrev lQ (P:MP) (w:M4) (K:Fg) (mg:Str->Option Mu) (base:Heap) (k:Nat):=FnC P w K mg base b_ k "heap_text" ["stuffs","heap"] (Tw.oK K)
abbrev lN (P:MP) (w:M4) (K:Fg) (mg:Str->Option Mu) (base:Heap) (k:Nat):=FnC P w K mg base b_ k "pace_text" ["pace"] (Tw.tM K)
abbrev eI (P:MP) (w:M4) (K:Fg) (mg:Str->Option Mu) (base:Heap) (k:Nat):=FnC P w K mg base b_ k "turning_text" ["stuffs","turning"] (Tw.oE K)
abbrev gm (P:MP) (w:M4) (K:Fg) (mg:Str->Option Mu) (base:Heap) (k:Nat):=FnC P w K mg base b_ k "heap_guessed" ["stuffs","text"] (Tr2.oM K)
abbrev fe (P:MP) (w:M4) (K:Fg) (mg:Str->Option Mu) (base:Heap) (k:Nat):=FnC P w K mg base b_ k "number_guessed" ["text"] (Tr2.vA K)
abbrev gk (P:MP) (w:M4) (K:Fg) (mg:Str->Option Mu) (base:Heap) (k:Nat):=FnC P w K mg base b_ k "pace_guessed" ["text"] (Tr2.tN K)
abbrev gj (P:MP) (w:M4) (K:Fg) (mg:Str->Option Mu) (base:Heap) (k:Nat):=FnC P w K mg base b_ k "turning_read" ["stuffs","text"] (Tr2.oF K)
abbrev iw (P:MP) (w:M4) (K:Fg) (mg:Str->Option Mu) (base:Heap) (k:Nat):=FnC P w K mg base b_ k "can_be_made" ["turning","count"] (Wd.yq K)
abbrev gn (P:MP) (w:M4) (K:Fg) (mg:Str->Option Mu) (base:Heap) (k:Nat):=FnC P w K mg base b_ k "count_behind" ["turning","count"] (Wd.yp K)
abbrev dy (P:MP) (w:M4) (K:Fg) (mg:Str->Option Mu) (base:Heap) (k:Nat):=FnC P w K mg base b_ k "_law_cell_at" ["_law_script","_law_k"] (mH K)
abbrev gP (P:MP) (w:M4) (K:Fg) (mg:Str->Option Mu) (base:Heap) (k:Nat):=FnC P w K mg base b_ k "_law_mixed" ["_law_cell","_law_many"] (oH K)
abbrev iu (P:MP) (w:M4) (K:Fg) (mg:Str->Option Mu) (base:Heap) (k:Nat):=FnC P w K mg base b_ k "_law_divisor" ["_law_one","_law_other"] BO
abbrev jk (P:MP) (w:M4) (K:Fg) (mg:Str->Option Mu) (base:Heap) (k:Nat):=FnC P w K mg base b_ k "_law_lowest" ["_law_top","_law_bottom"] (yn K)
abbrev nB (P:MP) (w:M4) (K:Fg) (mg:Str->Option Mu) (base:Heap) (k:Nat):=FnC P w K mg base b_ k "_law_base" ["_law_cell","_law_size"] yr
abbrev ni (P:MP) (w:M4) (K:Fg) (mg:Str->Option Mu) (base:Heap) (k:Nat):=FnC P w K mg base b_ k "_law_word" ["_law_base_here","_law_place","_law_size","_law_k"] yk
abbrev lO (P:MP) (w:M4) (K:Fg) (mg:Str->Option Mu) (base:Heap) (k:Nat):=FnC P w K mg base b_ k "_law_words" ["_law_script","_law_at","_law_many"] (tL K)
abbrev nu (P:MP) (w:M4) (K:Fg) (mg:Str->Option Mu) (base:Heap) (k:Nat):=FnC P w K mg base b_ k "_law_heap" ["_law_number","_law_many","_law_most"] (qB K)
abbrev lP (P:MP) (w:M4) (K:Fg) (mg:Str->Option Mu) (base:Heap) (x:Ex0.Ad) (k:Nat):=FnC P w K mg base b_ k "_law_kinds" ["_law_e"] (Dh.spKd x)
abbrev fR (P:MP) (w:M4) (K:Fg) (mg:Str->Option Mu) (base:Heap) (k:Nat):=FnC P w K mg base b_ k "_law_heap_text" ["_law_words_here","_law_heap_here"] (Tg.fW K)
abbrev d_ (P:MP) (w:M4) (K:Fg) (mg:Str->Option Mu) (base:Heap) (k:Nat):=FnC P w K mg base b_ k "_law_turning_text" ["_law_words_here","_law_turning"] (Tg.jJ K)
abbrev nj (P:MP) (w:M4) (K:Fg) (mg:Str->Option Mu) (base:Heap) (k:Nat):=FnC P w K mg base b_ k "_law_pick" ["_law_rows","_law_pool","_law_xs"] (Dk.ym K)
abbrev fU (P:MP) (w:M4) (K:Fg) (mg:Str->Option Mu) (base:Heap) (k:Nat):=FnC P w K mg base b_ k "_law_deed_rows" ["_law_script","_law_many"] (Dk.iH K)
abbrev f9 (P:MP) (w:M4) (K:Fg) (mg:Str->Option Mu) (base:Heap) (dD:Addr) (k:Nat):=FnC P w K mg base b_ k "_law_seen" ["_law_desk","_law_lies"] (Dh.qz K dD)
abbrev nA (P:MP) (w:M4) (K:Fg) (mg:Str->Option Mu) (base:Heap) (dD:Addr) (k:Nat):=FnC P w K mg base b_ k "_law_done" ["_law_desk","_law_words_here","_law_rows","_law_pool","_law_cell"] (Dh.yo K dD)
abbrev jj (P:MP) (w:M4) (K:Fg) (mg:Str->Option Mu) (base:Heap) (x:Ex0.Ad) (dD:Addr) (k:Nat):=FnC P w K mg base b_ k "_law_undone" ["_law_desk"] (Dh.oB K dD x)
abbrev fQ (P:MP) (w:M4) (K:Fg) (mg:Str->Option Mu) (base:Heap) (k:Nat):=FnC P w K mg base b_ k "_law_rows_told" ["_law_vessel_told"] (Dh.iG K)
abbrev dz (P:MP) (w:M4) (K:Fg) (mg:Str->Option Mu) (base:Heap) (dD:Addr) (k:Nat):=FnC P w K mg base b_ k "_law_as_seen" ["_law_desk","_law_seen_here"] (Dh.fX K dD)
abbrev nF (P:MP) (w:M4) (K:Fg) (mg:Str->Option Mu) (base:Heap) (dD:Addr) (k:Nat):=FnC P w K mg base b_ k "_law_back" ["_law_desk","_law_seen_here"] (Dh.qC K dD)
abbrev wv (P:MP) (w:M4) (K:Fg) (mg:Str->Option Mu) (base:Heap) (dD:Addr) (k:Nat):=FnC P w K mg base b_ k "_law_on" ["_law_desk","_law_words_here","_law_pool","_law_seen_here","_law_cell"] (Dh.spOn K dD)
abbrev dR (P:MP) (w:M4) (K:Fg) (mg:Str->Option Mu) (base:Heap) (dD:Addr) (k:Nat):=MtC P w K mg base b_ k dD "keep" ["self","turnings","pieces"] (Dh.iF K dD)
abbrev dO (P:MP) (w:M4) (K:Fg) (mg:Str->Option Mu) (base:Heap) (x:Ex0.Ad) (dD:Addr) (k:Nat):=MtC P w K mg base (ff P w) k dD "place_of" ["self","text"] (Dh.eP K dD x)
abbrev nJ (P:MP) (w:M4) (K:Fg) (mg:Str->Option Mu) (base:Heap) (x:Ex0.Ad) (dD:Addr) (k:Nat):=MtC P w K mg base (ff P w) k dD "put" ["self","text"] (Dh.yj K dD x)
abbrev lS (P:MP) (w:M4) (K:Fg) (mg:Str->Option Mu) (base:Heap) (x:Ex0.Ad) (dD:Addr) (k:Nat):=MtC P w K mg base (ff P w) k dD "take" ["self","text"] (Dh.tK K dD x)
abbrev eB (P:MP) (w:M4) (K:Fg) (mg:Str->Option Mu) (base:Heap) (dD:Addr) (k:Nat):=MtC P w K mg base b_ k dD "texts" ["self"] (Dh.gX K dD)
abbrev iA (P:MP) (w:M4) (K:Fg) (mg:Str->Option Mu) (base:Heap) (dD:Addr) (k:Nat):=MtC P w K mg base b_ k dD "vessel" ["self"] (Dh.kb K dD)
abbrev gR (P:MP) (w:M4) (K:Fg) (mg:Str->Option Mu) (base:Heap) (x:Ex0.Ad) (dD:Addr) (k:Nat):=MtC P w K mg base (ff P w) k dD "pour" ["self","word","pieces"] (Dh.oy K dD x)
abbrev lR (P:MP) (w:M4) (K:Fg) (mg:Str->Option Mu) (base:Heap) (x:Ex0.Ad) (dD:Addr) (k:Nat):=MtC P w K mg base (ff P w) k dD "turn" ["self","text"] (Dh.tJ K dD x)
abbrev jl (P:MP) (w:M4) (K:Fg) (mg:Str->Option Mu) (base:Heap) (dD:Addr) (k:Nat):=MtC P w K mg base b_ k dD "count" ["self"] (Dh.oz K dD)
abbrev gQ (P:MP) (w:M4) (K:Fg) (mg:Str->Option Mu) (base:Heap) (x:Ex0.Ad) (dD:Addr) (k:Nat):=MtC P w K mg base (ff P w) k dD "undo" ["self"] (Dh.ou K dD x)
theorem yJ:aF ["self","at"] ["self","at"] (ah (ini 9)):=by walk_at "s"
theorem Gz(T:sK K mg x)  (G:Nv.Cn K mg nq) {pD:Addr} (XX:KD P w K mg "PIECES_WRITTEN" pD Tr2.kvPW) (DK:Dk.Kl K mg dD)   (F:Fun K "__init__" "NotNow.__init__" (ini 9) f fd) (B:cO mg):FnOk P w K mg base b_ 1 f fd ["self","at"] (qA K x.c7 "at"):=by
 refine F.ok yJ (fun vs H Q E h=>GK h) (fun gV A outer s H vs Q E hr h=>?_);have nd:=yJ.nd;have XG:=fun {M A env}=>@Qu M A env
 have hu:=hr.units;have XS:=Nk (P8 (by decide:1<=64) _) hu;exact⟨Wd.xT K,(ae (a5 (CI rfl T.vb (aa (pv 0) (aa (CC (PJ.cons aP (PJ.cons (ku (pv 1)) (PJ.cons aP PJ.nil)))) af))))
 (aj (Gg (pv 0) (pv 1) rfl))),(Wd.FS rfl h)⟩
theorem CM(F:bt K mg "whole" (top 17) ["value"]) (B:cO mg)  : vf P w K mg base 1 :=
 F.okN BY (fun _ _ _ _=>by walk_at "l") fun f gV A outer s H vs Q E nd hr hu XS XG own h=>⟨D_ K,(aj (aI (dX (aq a8 rfl B.isinstance ao (aa (pv 0) (aa (bp rfl B.int jg rfl) af))) (eL (zr (aq a8 rfl B.isinstance ao (aa (pv 0) (aa (bp rfl B.bool gK rfl) af)))))))),(by obtain⟨i,rfl,k⟩:=h;exact B8 k)⟩
theorem gC(F:bt K mg "greatest_divisor" (top 18) ["one","two"]) (B:cO mg)  : eA P w K mg base 1 :=
 F.okN gv (fun _ _ _ _=>by walk_at "l") fun f gV A outer s H vs Q E nd hr hu XS XG own h=>⟨Fq,(ae (o8 XG (aO um (pv 1) ai (aN _))
 (ae (aG (i:=2) nd rfl (by walk_at "o") (aM zx (pv 0) (pv 1)))
 (ae (aG (i:=0) nd rfl (by walk_at "o") (pv 1))
 (aj (aG (i:=1) nd rfl (by walk_at "o") (pv 2))))))
 (aj (aI (aq wq rfl B.abs ER (aa (pv 0) af))))),(by obtain⟨a,b,rfl,k⟩:=h;exact Eg a b H _ k)⟩
theorem uA(F:bt K mg "fraction" (top 19) ["top","bottom"]) (B:cO mg) (XM:eA P w K mg base 1) (Yh:vf P w K mg base 1):nH P w K mg base 2 :=
 F.okN t9 (fun _ _ _ _=>by walk_at "l") fun f gV A outer s H vs Q E nd hr hu XS XG own h=>⟨Tr.tF K,(ae (aY (PW.pt (pw_or (cG (a9 (aw Yh hr rfl (aa (pv 0) af)))) (pw_or1 (cG (a9 (aw Yh hr rfl (aa (pv 1) af)))))))
 cW
 aB)
 (ae (aY (aO dG (pv 1) ai (aN _))
 cW
 aB)
 (ae (aG (i:=2) nd rfl (by walk_at "o") (aw XM hr rfl (aa (pv 0) (aa (pv 1) af))))
 (ae (aY (aO ju (pv 1) ai (aN _))
 (aj (aG (i:=2) nd rfl (by walk_at "o") (ul jS (pv 2))))
 aB)
 (aj (aI (fB (aa (aM jM (pv 0) (pv 2)) (aa (aM jM (pv 1) (pv 2)) af))))))))),(Tr.Cj rfl h)⟩
theorem zD(F:bt K mg "before" (top 20) ["one","two"]) (B:cO mg)  : ww P w K mg base 1 :=
 F.okN yK (fun _ _ _ _=>by walk_at "l") fun f gV A outer s H vs Q E nd hr hu XS XG own h=>⟨Nv.oi K,(aj (aI (bO ju (aM zw (aK a6 (pv 0) ai (fun _ _=>rfl)) (aK a6 (pv 1) ai (fun _ _=>rfl))) (aM zw (aK a6 (pv 1) ai (fun _ _=>rfl)) (aK a6 (pv 0) ai (fun _ _=>rfl))) (aN _)))),(Nv.yZ rfl h)⟩
theorem wT(G:Nv.Cn K mg nq) {pD:Addr} (XX:KD P w K mg "PIECES_WRITTEN" pD Tr2.kvPW) (DK:Dk.Kl K mg dD) (F:bt K mg "is_word" (top 28) ["word"]) (B:cO mg)  : sO P w K mg base 1 :=
 F.okN wH (fun _ _ _ _=>by walk_at "l") fun f gV A outer s H vs Q E nd hr hu XS XG own h=>⟨Nv.n_ K,(ae (aY (PW.pt (pw_or (cG (a9 (aq a8 rfl B.isinstance ao (aa (pv 0) (aa (bp rfl B.str lF rfl) af))))) (pw_or1 (cG (o7 pd pd ai (aq sy rfl B.len bA (aa (pv 0) af)) (g7 rfl G.MOST_SIGNS))))))
 (aj (aI gb))
 aB)
 (aj (aI (aq (ip rfl) rfl B.all sH (aa (jt (M:=["word"]) (by show dN (ah (top 28)) ["word"] ["word"] _ _;walk_at "c") nd rfl (Em (pv 0)) (fun _ _ _ _ _=>(pb hJ hJ aP (pv 0) aP))) af))))),(Nv.yX rfl h)⟩
theorem rf(T:sK K mg x)  (G:Nv.Cn K mg nq) {pD:Addr} (XX:KD P w K mg "PIECES_WRITTEN" pD Tr2.kvPW) (DK:Dk.Kl K mg dD) (F:bt K mg "stuffs_of" (top 29) ["words"]) (B:cO mg) (Yv:sO P w K mg base 1):gO P w K mg base x 2 :=
 F.okM qG (fun _ _ _ _=>by walk_at "l") fun f gV A outer s H vs Q E nd hr hu XS XG YM h=>⟨Nv.nX K E x,(ae (aY (cG (o7 pd pd ai (aq aE rfl B.len bA (aa (pv 0) af)) (g7 rfl G.MOST_STUFFS)))
 (aj (cT YM rfl rfl T.n1 ND aP))
 aB)
 (ae (aY (cG (a9 (aq (ip rfl) rfl B.all sH (aa (jt (M:=["words"]) (by show dN (ah (top 29)) ["words"] ["words"] _ _;walk_at "c") nd rfl (En (pv 0)) (fun _ _ _ _ _=>(aw Yv hr rfl (aa (pv 0) af)))) af))))
 (aj (cT YM rfl rfl T.n1 ND aP))
 aB)
 (ae (aY (aO ju (qY (yB rfl) rfl B.len rfl B.set (pv 0)) (aq aE rfl B.len bA (aa (pv 0) af)) (aN _))
 (aj (cT YM rfl rfl T.n1 ND aP))
 aB)
 (aj (aI (bf bx rfl B.tuple b7 (aa (pv 0) af))))))),(Nv.yU rfl h)⟩
theorem wU(G:Nv.Cn K mg nq) {pD:Addr} (XX:KD P w K mg "PIECES_WRITTEN" pD Tr2.kvPW) (DK:Dk.Kl K mg dD) (F:bt K mg "is_heap" (top 30) ["pieces","size"]) (B:cO mg) (Yh:vf P w K mg base 1):sP P w K mg base 2 :=
 F.okN wI (fun _ _ _ _=>by walk_at "l") fun f gV A outer s H vs Q E nd hr hu XS XG own h=>⟨Nv.oa K,(ae (aY (PW.pt (pw_or (cG (a9 (Go rfl B.isinstance rfl B.list rfl B.tuple (pv 0)))) (pw_or1 (aO um (aq aE rfl B.len bA (aa (pv 0) af)) (pv 1) (aN _)))))
 (aj (aI gb))
 aB)
 (aj (aI (aq (ip rfl) rfl B.all sH (aa (jt (M:=["pieces","size"]) (by show dN (ah (top 30)) ["pieces","size"] ["pieces","size"] _ _;walk_at "c") nd rfl (En (pv 0)) (fun _ _ _ _ _=>(dX (aw Yh hr rfl (aa (pv 0) af)) (eL (pb pd pd ai (pv 0) (g7 rfl G.MOST_PIECES)))))) af))))),(Nv.yY rfl h)⟩
theorem l_(G:Nv.Cn K mg nq) {pD:Addr} (XX:KD P w K mg "PIECES_WRITTEN" pD Tr2.kvPW) (DK:Dk.Kl K mg dD) (F:bt K mg "turnings_of" (top 31) ["rows","size"]) (B:cO mg) (YF:ww P w K mg base 2) (Ym:sP P w K mg base 2):iq P w K mg base 3 :=
 F.okN lU (fun _ _ _ _=>by walk_at "l") fun f gV A outer s H vs Q E nd hr hu XS XG own h=>⟨Dk.nV K nq,(ae (dB XG rfl (ja (pv 0)) (bE (i:=2) nd rfl (by walk_at "o"))
 (aj (aY (PW.pt (pw_or (cG (a9 (aw Ym hr rfl (aa (aK a6 (pv 2) ai (fun _ _=>rfl)) (aa (pv 1) af))))) (pw_or1 (cG (a9 (aw Ym hr rfl (aa (aK a6 (pv 2) ai (fun _ _=>rfl)) (aa (pv 1) af))))))))
 cW
 aB)))
 (ae (dB XG rfl (ja (pv 0)) (bE (i:=2) nd rfl (by walk_at "o"))
 (aj (aY (cG (a9 (aw YF hr rfl (aa (cj rfl G.NOUGHT rfl) (aa (aK a6 (pv 2) ai (fun _ _=>rfl)) af)))))
 cW
 aB)))
 (aj (aI (bf bx rfl B.tuple b7 (aa (jt (M:=["rows","size","#row"]) (by show dN (ah (top 31)) ["rows","size","row"] ["rows","size","#row"] _ _;walk_at "c") nd rfl (ja (pv 0)) (fun _ _ _ _ _=>(fB (aa (bf bx rfl B.tuple b7 (aa (aK a6 (pv 0) ai (fun _ _=>rfl)) af)) (aa (bf bx rfl B.tuple b7 (aa (aK a6 (pv 0) ai (fun _ _=>rfl)) af)) (aa (bf bx rfl B.tuple b7 (aa (aK a6 (pv 0) ai (fun _ _=>rfl)) af)) af)))))) af)))))),(Dk.yS G rfl h)⟩
theorem iU(T:sK K mg x)  (G:Nv.Cn K mg nq) {pD:Addr} (XX:KD P w K mg "PIECES_WRITTEN" pD Tr2.kvPW) (DK:Dk.Kl K mg dD) (F:bt K mg "check_turnings" (top 32) ["turnings"]) (B:cO mg) (Yo:nG P w K mg base 1):df P w K mg base x 2 :=
 F.okM iM (fun _ _ _ _=>by walk_at "l") fun f gV A outer s H vs Q E nd hr hu XS XG YM h=>⟨Nv.tH K E x,(ae (aY (cG (o7 pd pd ai (aq aE rfl B.len bA (aa (pv 0) af)) (g7 rfl G.MOST_TURNINGS)))
 (aj (cT YM rfl rfl T.n4 ND aP))
 aB)
 (ae (aY (a9 (aq (DO rfl) rfl B.any J0 (aa (jt (M:=["turnings"]) (by show dN (ah (top 32)) ["turnings"] ["turnings"] _ _;walk_at "c") nd rfl (ja (pv 0)) (fun _ _ _ _ _=>(bO (zy hu) (aK a6 (pv 0) ai (fun _ _=>rfl)) (aK a6 (pv 0) ai (fun _ _=>rfl)) (aN _)))) af)))
 (aj (cT YM rfl rfl T.n4 ND aP))
 aB)
 (ae (aY (aO ju (qY (tQ rfl hu) rfl B.len rfl B.set (jt (M:=["turnings"]) (by show dN (ah (top 32)) ["turnings"] ["turnings"] _ _;walk_at "c") nd rfl (ja (pv 0)) (fun _ _ _ _ _=>(dq yw (pv 0) iN (c_ ai))))) (aq aE rfl B.len bA (aa (pv 0) af)) (aN _))
 (aj (cT YM rfl rfl T.n4 ND aP))
 aB)
 (aj (aY (aO uq (aq aE rfl B.len bA (aa (aw Yo hr rfl (aa (pv 0) af)) af)) (g7 rfl G.MOST_HEAPS) (aN _))
 (aj (cT YM rfl rfl T.n4 ND aP))
 aB))))),(Nv.Co rfl h)⟩
theorem uz(F:bt K mg "heaps_of" (top 33) ["turnings"]) (B:cO mg)  : nG P w K mg base 1 :=
 F.okN t7 (fun _ _ _ _=>by walk_at "l") fun f gV A outer s H vs Q E nd hr hu XS XG own h=>⟨jX K,(ae (aG (i:=1) nd rfl (by walk_at "o") CF)
 (ae (dB XG rfl (ja (pv 0)) (bE (i:=2) nd rfl (by walk_at "o"))
 (ae (ui XS (pv 1) (aK a6 (pv 2) ai (fun _ _=>rfl)) gb rfl)
 (aj (ui XS (pv 1) (aK a6 (pv 2) ai (fun _ _=>rfl)) gb rfl))))
 (aj (aI (bf (xk rfl) rfl B.list dM (aa (pv 1) af)))))),(wM rfl h)⟩
theorem Gy(T:sK K mg x) (F:bt K mg "made" (top 34) ["words","rows"]) (B:cO mg) (XO:gO P w K mg base x 3) (X_:iq P w K mg base 3) (xa:df P w K mg base x 3):EY P w K mg base 4 :=
 F.okN FC (fun _ _ _ _=>by walk_at "l") fun f gV A outer s H vs Q E nd hr hu XS XG own h=>⟨Dk.tu K x,(ae (aG (i:=2) nd rfl (by walk_at "o") (g8 XO hr rfl zt (aa (pv 0) af)))
 (ae (aG (i:=3) nd rfl (by walk_at "o") (aw X_ hr rfl (aa (pv 1) (aa (aq aE rfl B.len bA (aa (pv 2) af)) af))))
 (ae (a5 (g8 xa hr rfl zt (aa (pv 3) af)))
 (aj (aI (fB (aa (pv 2) (aa (pv 3) af)))))))),(Dk.Ce rfl h)⟩
theorem pf(F:bt K mg "stuff_text" (top 37) ["word","pieces"]) (B:cO mg)  : ji P w K mg base 1 :=
 F.okN oU (fun _ _ _ _=>by walk_at "l") fun f gV A outer s H vs Q E nd hr hu XS XG own h=>⟨Tw.nY K,(ae (aY (aO dG (pv 1) ai (aN _))
 (aj (aI (pv 0)))
 aB)
 (aj (aI (CC (PJ.cons (ku (pv 1)) (PJ.cons aP (PJ.cons (o_ (pv 0)) PJ.nil))))))),(Tw.yV rfl h)⟩
theorem rm(F:bt K mg "heap_text" (top 38) ["stuffs","heap"]) (B:cO mg) (Yg:ji P w K mg base 1):lQ P w K mg base 2 :=
 F.okN qL (fun _ _ _ _=>by walk_at "l") fun f gV A outer s H vs Q E nd hr hu XS XG own h=>⟨Tw.tw K,(ae (Iw (i:=2) ["word","pieces"] ["stuffs","heap","parts"] nd rfl rfl (by show dN (ah (top 38)) ["stuffs","heap","parts"] ["stuffs","heap","parts"] _ _;walk_at "c") rfl (El (k1:=.T) (k2:=.T) rfl B.zip (aa (pv 0) (aa (pv 1) af))) (fun _ _ _ _ _=>(zq rfl (eS (bE (i:=0) (show(["word","pieces","stuffs","heap","parts"]:List Str).Nodup by decide +kernel) rfl (by walk_at "o")) (eS (bE (i:=1) (show(["word","pieces","stuffs","heap","parts"]:List Str).Nodup by decide +kernel) rfl (by walk_at "o")) uk)))) (fun _ _ _ _ _=>(aO uq (pv 1) ai (aN _))) (fun _ _ _ _ _=>(aw Yg hr rfl (aa (pv 0) (aa (pv 1) af)))))
 (ae (aY (aO dG (aq aE rfl B.len bA (aa (pv 2) af)) ai (aN _))
 (aj (aI aP))
 aB)
 (aj (aI (cb Oc UO UP zL aP (aa (pv 2) af)))))),(Tw.Ch rfl h)⟩
theorem rg(F:bt K mg "pace_text" (top 39) ["pace"]) (B:cO mg)  : lN P w K mg base 1 :=
 F.okN qH (fun _ _ _ _=>by walk_at "l") fun f gV A outer s H vs Q E nd hr hu XS XG own h=>⟨Tw.s_ K,(ae (aG (i:=1) nd rfl (by walk_at "o") (aK a6 (pv 0) ai (fun _ _=>rfl)))
 (ae (aG (i:=2) nd rfl (by walk_at "o") (aK a6 (pv 0) ai (fun _ _=>rfl)))
 (ae (aY (aO dG (pv 2) ai (aN _))
 (aj (aI (Iz (ku (pv 1)))))
 aB)
 (aj (aI (CC (PJ.cons (ku (pv 1)) (PJ.cons aP (PJ.cons (ku (pv 2)) PJ.nil))))))))),(Tw.Cb rfl h)⟩
theorem kC(F:bt K mg "turning_text" (top 40) ["stuffs","turning"]) (B:cO mg) (X7:lQ P w K mg base 2) (Yl:lN P w K mg base 2):eI P w K mg base 3 :=
 F.okN kh (fun _ _ _ _=>by walk_at "l") fun f gV A outer s H vs Q E nd hr hu XS XG own h=>⟨Tw.sW K,(ae (aG (i:=2) nd rfl (by walk_at "o") (aw X7 hr rfl (aa (pv 0) (aa (aK a6 (pv 1) ai (fun _ _=>rfl)) af))))
 (ae (aG (i:=3) nd rfl (by walk_at "o") (aw X7 hr rfl (aa (pv 0) (aa (aK a6 (pv 1) ai (fun _ _=>rfl)) af))))
 (ae (aG (i:=4) nd rfl (by walk_at "o") (aw Yl hr rfl (aa (aK a6 (pv 1) ai (fun _ _=>rfl)) af)))
 (aj (aI (CC (PJ.cons (o_ (pv 2)) (PJ.cons aP (PJ.cons (o_ (pv 3)) (PJ.cons aP (PJ.cons (o_ (pv 4)) PJ.nil))))))))))),(Tw.B9 rfl h)⟩
theorem kG(G:Nv.Cn K mg nq) {pD:Addr} (XX:KD P w K mg "PIECES_WRITTEN" pD Tr2.kvPW) (DK:Dk.Kl K mg dD) (F:bt K mg "heap_guessed" (top 41) ["stuffs","text"]) (B:cO mg)  : gm P w K mg base 1 :=
 F.okN kn (fun _ _ _ _=>by walk_at "l") fun f gV A outer s H vs Q E nd hr hu XS XG own h=>⟨Tr2.tE K,(ae (aG (i:=2) nd rfl (by walk_at "o") CG)
 (ae (dB XG rfl (gz (cb Oc Qn PySem.F.type_str_split CU (pv 1) (aa aP af))) (bE (i:=3) nd rfl (by walk_at "o"))
 (ae (aG (i:=4) nd rfl (by walk_at "o") (cb Oc Sh PySem.F.type_str_rpartition pF (pv 3) (aa aP af)))
 (aj (ui XS (pv 2) (aK a6 (pv 4) ai (fun _ _=>rfl)) (Gn rfl XX (aK a6 (pv 4) ai (fun _ _=>rfl)) ai ⟨rfl,rfl,rfl,rfl⟩) rfl))))
 (aj (aI (bf bx rfl B.tuple b7 (aa (jt (M:=["stuffs","text","pieces","part","cut"]) (by show dN (ah (top 41)) ["stuffs","text","pieces","part","cut"] ["stuffs","text","pieces","part","cut"] _ _;walk_at "c") nd rfl (ja (pv 0)) (fun _ _ _ _ _=>(CH XS (pv 3) (pv 0) ai ⟨rfl,rfl,rfl,rfl⟩))) af)))))),(Tr2.Ci rfl h)⟩
theorem iS(F:bt K mg "number_guessed" (top 42) ["text"]) (B:cO mg)  : fe P w K mg base 1 :=
 F.okN iL (fun _ _ _ _=>by walk_at "l") fun f gV A outer s H vs Q E nd hr hu XS XG own h=>⟨Tr2.xQ K,(ae (aY (PW.pt (pw_or (aO dG (pv 0) aP (aN _)) (pw_or1 (cG (a9 (aq (ip rfl) rfl B.all sH (aa (jt (M:=["text"]) (by show dN (ah (top 42)) ["text"] ["text"] _ _;walk_at "c") nd rfl (Em (pv 0)) (fun _ _ _ _ _=>(pb hJ hJ aP (pv 0) aP))) af)))))))
 (aj (aI ai))
 aB)
 (aj (aI (bf Bc rfl B.int jg (aa (pv 0) af))))),(Tr2.FO rfl h)⟩
theorem kF(F:bt K mg "pace_guessed" (top 43) ["text"]) (B:cO mg) (XI:fe P w K mg base 2) (Yn:nH P w K mg base 2):gk P w K mg base 3 :=
 F.okN km (fun _ _ _ _=>by walk_at "l") fun f gV A outer s H vs Q E nd hr hu XS XG own h=>⟨Tr2.tm K,(ae (aG (i:=1) nd rfl (by walk_at "o") (cb Oc Py QU fC (pv 0) (aa aP af)))
 (ae (aG (i:=2) nd rfl (by walk_at "o") (aw XI hr rfl (aa (aK a6 (pv 1) ai (fun _ _=>rfl)) af)))
 (ae (aG (i:=3) nd rfl (by walk_at "o") (CD (aO dG (aK a6 (pv 1) ai (fun _ _=>rfl)) aP (aN _)) ai (aw XI hr rfl (aa (aK a6 (pv 1) ai (fun _ _=>rfl)) af))))
 (ae (aY (PW.pt (pw_or (aO dG (pv 2) ai (aN _)) (pw_or1 (aO dG (pv 3) ai (aN _)))))
 (aj (aI dF))
 aB)
 (aj (aI (aw Yn hr rfl (aa (pv 2) (aa (pv 3) af))))))))),(Tr2.Cc rfl h)⟩
theorem kE(F:bt K mg "turning_read" (top 44) ["stuffs","text"]) (B:cO mg) (X4:gk P w K mg base 3) (XQ:gm P w K mg base 3) (XD:eI P w K mg base 3):gj P w K mg base 4 :=
 F.okN kj (fun _ _ _ _=>by walk_at "l") fun f gV A outer s H vs Q E nd hr hu XS XG own h=>⟨Tr2.nW K,(ae (aG (i:=2) nd rfl (by walk_at "o") (cb Oc Py QU fC (pv 1) (aa aP af)))
 (ae (aG (i:=3) nd rfl (by walk_at "o") (cb Oc Py QU fC (aK a6 (pv 2) ai (fun _ _=>rfl)) (aa aP af)))
 (ae (aG (i:=4) nd rfl (by walk_at "o") (aw X4 hr rfl (aa (aK a6 (pv 3) ai (fun _ _=>rfl)) af)))
 (ae (aY (aO gh (pv 4) dF (aN _))
 (aj (aI dF))
 aB)
 (ae (aG (i:=5) nd rfl (by walk_at "o") (fB (aa (aw XQ hr rfl (aa (pv 0) (aa (aK a6 (pv 2) ai (fun _ _=>rfl)) af))) (aa (aw XQ hr rfl (aa (pv 0) (aa (aK a6 (pv 3) ai (fun _ _=>rfl)) af))) (aa (pv 4) af)))))
 (ae (aY (aO um (aw XD hr rfl (aa (pv 0) (aa (pv 5) af))) (pv 1) (aN _))
 (aj (aI dF))
 aB)
 (aj (aI (pv 5))))))))),(Tr2.yT rfl h)⟩
theorem mf(F:bt K mg "can_be_made" (top 46) ["turning","count"]) (B:cO mg)  : iw P w K mg base 1 :=
 F.okN lY (fun _ _ _ _=>by walk_at "l") fun f gV A outer s H vs Q E nd hr hu XS XG own h=>⟨Wd.xZ K,(aj (aI (aq (ip rfl) rfl B.all sH (aa (Es ["taken","pieces"] ["turning","count"] (by show dN (ah (top 46)) ["turning","count"] ["turning","count"] _ _;walk_at "c") rfl (El (k1:=.T) (k2:=.T) rfl B.zip (aa (aK a6 (pv 0) ai (fun _ _=>rfl)) (aa (pv 1) af))) (fun _ _ _ _ _=>(zq rfl (eS (bE (i:=0) (show(["taken","pieces","turning","count"]:List Str).Nodup by decide +kernel) rfl (by walk_at "o")) (eS (bE (i:=1) (show(["taken","pieces","turning","count"]:List Str).Nodup by decide +kernel) rfl (by walk_at "o")) uk)))) (fun _ _ _ _ _=>(bO pd (pv 0) (pv 1) (aN _)))) af)))),(Wd.FX rfl h)⟩
theorem kH(F:bt K mg "count_behind" (top 47) ["turning","count"]) (B:cO mg)  : gn P w K mg base 1 :=
 F.okN ko (fun _ _ _ _=>by walk_at "l") fun f gV A outer s H vs Q E nd hr hu XS XG own h=>⟨Wd.xY K,(aj (aI (bf bx rfl B.tuple b7 (aa (Es ["pieces","taken","put"] ["turning","count"] (by show dN (ah (top 47)) ["turning","count"] ["turning","count"] _ _;walk_at "c") rfl (Gh rfl B.zip (aa (pv 1) (aa (aK a6 (pv 0) ai (fun _ _=>rfl)) (aa (aK a6 (pv 0) ai (fun _ _=>rfl)) af)))) (fun _ _ _ _ _=>(zq rfl (eS (bE (i:=0) (show(["pieces","taken","put","turning","count"]:List Str).Nodup by decide +kernel) rfl (by walk_at "o")) (eS (bE (i:=1) (show(["pieces","taken","put","turning","count"]:List Str).Nodup by decide +kernel) rfl (by walk_at "o")) (eS (bE (i:=2) (show(["pieces","taken","put","turning","count"]:List Str).Nodup by decide +kernel) rfl (by walk_at "o")) uk))))) (fun _ _ _ _ _=>(aM b5 (aM vN (pv 0) (pv 1)) (pv 2)))) af)))),(Wd.FV rfl h)⟩
theorem md(F:bt K mg "_law_cell_at" (top 51) ["_law_script","_law_k"]) (B:cO mg)  : dy P w K mg base 1 :=
 F.okN lW (fun _ _ _ _=>by walk_at "l") fun f gV A outer s H vs Q E nd hr hu XS XG own h=>⟨HW K,(ae (aY (aO ju (pv 1) (aq aE rfl B.len bA (aa (pv 0) af)) (aN _))
 (aj (aI (aK aH (pv 0) (pv 1) (fun _ _=>rfl))))
 aB)
 (aj (aI ai))),(by obtain⟨a,ns,k,rfl,hS,h0,q⟩:=h;exact FW hS h0 q)⟩
theorem rj(F:bt K mg "_law_mixed" (top 52) ["_law_cell","_law_many"]) (B:cO mg)  : gP P w K mg base 1 :=
 F.okN qJ (fun _ _ _ _=>by walk_at "l") fun f gV A outer s H vs Q E nd hr hu XS XG own h=>⟨tq K,(ae (aG (i:=2) nd rfl (by walk_at "o") (cg af))
 (ae (aG (i:=3) nd rfl (by walk_at "o") (aM gA (pv 0) ai))
 (ae (aY (aO dG (aM bn (pv 0) ai) ai (aN _))
 (ae (dB XG rfl (cH rfl B.range (aa (pv 1) af)) (bE (i:=4) nd rfl (by walk_at "o"))
 (ae (a5 (cb MQ MS MT aT (pv 2) (aa (aM bn (pv 3) ai) af)))
 (aj (aG (i:=3) nd rfl (by walk_at "o") (aM gA (pv 3) ai)))))
 (aj (aI (pv 2))))
 aB)
 (ae (aG (i:=3) nd rfl (by walk_at "o") (aM bn (aM b5 (aM jb (aM bn (pv 3) ai) ai) ai) ai))
 (ae (dB XG rfl (cH rfl B.range (aa (pv 1) af)) (bE (i:=4) nd rfl (by walk_at "o"))
 (ae (aG (i:=3) nd rfl (by walk_at "o") (aM bn (aM b5 (aM b5 (aM b5 (aM jb (pv 3) (pv 3)) (aM jb ai (pv 3))) (pv 4)) ai) ai))
 (aj (a5 (cb MQ MS MT aT (pv 2) (aa (pv 3) af))))))
 (aj (aI (pv 2)))))))),(Cd rfl h)⟩
theorem ma(F:bt K mg "_law_divisor" (top 53) ["_law_one","_law_other"]) (B:cO mg)  : iu P w K mg base 1 :=
 F.okN lV (fun _ _ _ _=>by walk_at "l") fun f gV A outer s H vs Q E nd hr hu XS XG own h=>⟨Fq,(ae (o8 XG (aO um (pv 1) ai (aN _))
 (ae (aG (i:=2) nd rfl (by walk_at "o") (aM zx (pv 0) (pv 1)))
 (ae (aG (i:=0) nd rfl (by walk_at "o") (pv 1))
 (aj (aG (i:=1) nd rfl (by walk_at "o") (pv 2))))))
 (aj (aI (aq wq rfl B.abs ER (aa (pv 0) af))))),(by obtain⟨a,b,rfl,k⟩:=h;exact Eg a b H _ k)⟩
theorem pi(F:bt K mg "_law_lowest" (top 54) ["_law_top","_law_bottom"]) (B:cO mg) (X9:iu P w K mg base 1):jk P w K mg base 2 :=
 F.okN oW (fun _ _ _ _=>by walk_at "l") fun f gV A outer s H vs Q E nd hr hu XS XG own h=>⟨Fn,(ae (aY (aO ju (pv 1) ai (aN _))
 cW
 aB)
 (ae (aY (aO dG (pv 1) ai (aN _))
 (aj (aG (i:=1) nd rfl (by walk_at "o") ai))
 aB)
 (ae (aG (i:=2) nd rfl (by walk_at "o") (aw X9 hr rfl (aa (pv 0) (aa (pv 1) af))))
 (aj (aI (fB (aa (aM jM (pv 0) (pv 2)) (aa (aM jM (pv 1) (pv 2)) af)))))))),(FP rfl h)⟩
theorem ux(F:bt K mg "_law_base" (top 55) ["_law_cell","_law_size"]) (B:cO mg)  : nB P w K mg base 1 :=
 F.okN tY (fun _ _ _ _=>by walk_at "l") fun f gV A outer s H vs Q E nd hr hu XS XG own h=>⟨x6 K,(ae (aG (i:=2) nd rfl (by walk_at "o") (aM bn (aM b5 (aM jb (aM bn (pv 0) ai) ai) ai) ai))
 (ae (aG (i:=3) nd rfl (by walk_at "o") aP)
 (ae (dB XG rfl (cH rfl B.range (aa (pv 1) af)) (bE (i:=4) nd rfl (by walk_at "o"))
 (ae (aG (i:=2) nd rfl (by walk_at "o") (aM bn (aM b5 (aM b5 (aM b5 (aM jb (pv 2) (pv 2)) (aM jb ai (pv 2))) (pv 4)) ai) ai))
 (aj (aG (i:=3) nd rfl (by walk_at "o") (aM bC (pv 3) (aK rY aP (aM bn (pv 2) ai) (fun _ _=>rfl)))))))
 (aj (aI (pv 3)))))),(FY rfl h)⟩
theorem ur(F:bt K mg "_law_word" (top 56) ["_law_base_here","_law_place","_law_size","_law_k"]) (B:cO mg)  : ni P w K mg base 1 :=
 F.okN tS (fun _ _ _ _=>by walk_at "l") fun f gV A outer s H vs Q E nd hr hu XS XG own h=>⟨xH K,(ae (aG (i:=4) nd rfl (by walk_at "o") aP)
 (ae (aG (i:=5) nd rfl (by walk_at "o") (aK rY (pv 4) (aM bn (aM b5 (cb Oc PySem.F.slot_str_find PySem.F.type_str_find GI (pv 4) (aa (aK rY (pv 0) (pv 1) (fun _ _=>rfl)) af)) (aM jb ai (pv 3))) ai) (fun _ _=>rfl)))
 (aj (aI (aM bC (aM bC (dq yx (pv 0) iN (c_ (pv 1))) (pv 5)) (dq yx (pv 0) (c_ (aM b5 (pv 1) ai)) (c_ (pv 2)))))))),(FG rfl h)⟩
theorem rh(F:bt K mg "_law_words" (top 57) ["_law_script","_law_at","_law_many"]) (B:cO mg) (pe:dy P w K mg base 1) (Yp:nB P w K mg base 1) (Ys:ni P w K mg base 1):lO P w K mg base 2 :=
 F.okN qI (fun _ _ _ _=>by walk_at "l") fun f gV A outer s H vs Q E nd hr hu XS XG own h=>⟨sV K,(ae (aG (i:=3) nd rfl (by walk_at "o") (aw pe hr rfl (aa (pv 0) (aa (pv 1) af))))
 (ae (aG (i:=4) nd rfl (by walk_at "o") (aM b5 ai (aM bn (pv 3) ai)))
 (ae (aG (i:=5) nd rfl (by walk_at "o") (aw Yp hr rfl (aa (aw pe hr rfl (aa (pv 0) (aa (aM b5 (pv 1) ai) af))) (aa ai af))))
 (ae (aG (i:=6) nd rfl (by walk_at "o") (cg af))
 (ae (dB XG rfl (cH rfl B.range (aa (pv 2) af)) (bE (i:=7) nd rfl (by walk_at "o"))
 (ae (aG (i:=8) nd rfl (by walk_at "o") (aw Ys hr rfl (aa (pv 5) (aa (aM bn (aM gA (pv 3) ai) (pv 4)) (aa (pv 4) (aa (pv 7) af))))))
 (ae (aY (aO dG (aM bn (aM gA (pv 3) ai) ai) ai (aN _))
 (aj (aG (i:=8) nd rfl (by walk_at "o") (dq yx (pv 5) iN (c_ (aM b5 (pv 7) ai)))))
 aB)
 (aj (a5 (cb MQ MS MT aT (pv 6) (aa (pv 8) af)))))))
 (aj (aI (pv 6)))))))),(B6 rfl h)⟩
theorem uv(F:bt K mg "_law_heap" (top 58) ["_law_number","_law_many","_law_most"]) (B:cO mg)  : nu P w K mg base 1 :=
 F.okN tW (fun _ _ _ _=>by walk_at "l") fun f gV A outer s H vs Q E nd hr hu XS XG own h=>⟨xU K,(ae (aG (i:=3) nd rfl (by walk_at "o") (cg af))
 (ae (dB XG rfl (cH rfl B.range (aa (pv 1) af)) (bE (i:=4) nd rfl (by walk_at "o"))
 (ae (a5 (cb MQ MS MT aT (pv 3) (aa (aM bn (pv 0) (aM b5 (pv 2) ai)) af)))
 (aj (aG (i:=0) nd rfl (by walk_at "o") (aM gA (pv 0) (aM b5 (pv 2) ai))))))
 (aj (aI (bf bx rfl B.tuple b7 (aa (pv 3) af)))))),(FT rfl h)⟩
theorem CO(F:bt K mg "_law_same" (top 59) ["_law_found","_law_due"]) (B:cO mg):FnC P w K mg base b_ 1 "_law_same" ["_law_found","_law_due"] (gf K 0):=by
 refine F.ok eQ (fun vs H Q E h=>rM h) (fun f gV A outer s H vs Q E hr h=>?_);have nd:=eQ.nd;have XG:=fun {M A env}=>@Qu M A env
 have hu:=hr.units;exact⟨sZ K,(ae (aY (PW.pt (pw_or (a9 (aq a8 rfl B.isinstance ao (aa (pv 1) (aa (bp rfl B.tuple b7 rfl) af)))) (pw_or1 (a9 (aq a8 rfl B.isinstance ao (aa (pv 1) (aa (bp rfl B.list dM rfl) af)))))))
 cW
 aB)
 (ae (aY (a9 (aq a8 rfl B.isinstance ao (aa (pv 1) (aa (bp rfl B.bool gK rfl) af))))
 (aj (aI (dX (aq a8 rfl B.isinstance ao (aa (pv 0) (aa (bp rfl B.bool gK rfl) af))) (eL (bO dG (pv 0) (pv 1) (aN _))))))
 aB)
 (ae (aY (a9 (aq a8 rfl B.isinstance ao (aa (pv 1) (aa (bp rfl B.int jg rfl) af))))
 (aj (aI (dX (aq a8 rfl B.isinstance ao (aa (pv 0) (aa (bp rfl B.int jg rfl) af))) (dX (zr (aq a8 rfl B.isinstance ao (aa (pv 0) (aa (bp rfl B.bool gK rfl) af)))) (eL (bO dG (pv 0) (pv 1) (aN _)))))))
 aB)
 (ae (aY (a9 (aq a8 rfl B.isinstance ao (aa (pv 1) (aa (bp rfl B.str lF rfl) af))))
 (aj (aI (dX (aq a8 rfl B.isinstance ao (aa (pv 0) (aa (bp rfl B.str lF rfl) af))) (eL (bO dG (pv 0) (pv 1) (aN _))))))
 aB)
 (aj (aI (dX (bO gh (pv 1) dF (aN _)) (eL (bO gh (pv 0) dF (aN _)))))))))),(Ca rfl h)⟩
theorem CN{m:Nat} (F:bt K mg "_law_same" (top 59) ["_law_found","_law_due"]) (B:cO mg) (X3:FnC P w K mg base b_ (m+1) "_law_same" ["_law_found","_law_due"] (gf K m)):FnC P w K mg base b_ (m+2) "_law_same" ["_law_found","_law_due"] (gf K (m+1)):=by
 refine F.ok eQ (fun vs H Q E h=>rM h) (fun f gV A outer s H vs Q E hr h=>?_);have nd:=eQ.nd;have XG:=fun {M A env}=>@Qu M A env
 have hu:=hr.units;exact⟨xM K m,(ae (aY (PW.pt (pw_or (a9 (aq a8 rfl B.isinstance ao (aa (pv 1) (aa (bp rfl B.tuple b7 rfl) af)))) (pw_or1 (a9 (aq a8 rfl B.isinstance ao (aa (pv 1) (aa (bp rfl B.list dM rfl) af)))))))
 (ae (aY (PW.pt (pw_or (aO um (aq a8 rfl B.isinstance ao (aa (pv 0) (aa (bp rfl B.tuple b7 rfl) af))) (aq a8 rfl B.isinstance ao (aa (pv 1) (aa (bp rfl B.tuple b7 rfl) af))) (aN _)) (pw_or1 (aO um (aq a8 rfl B.isinstance ao (aa (pv 0) (aa (bp rfl B.list dM rfl) af))) (aq a8 rfl B.isinstance ao (aa (pv 1) (aa (bp rfl B.list dM rfl) af))) (aN _)))))
 (aj (aI gb))
 aB)
 (ae (aY (aO um (aq aE rfl B.len bA (aa (pv 0) af)) (aq aE rfl B.len bA (aa (pv 1) af)) (aN _))
 (aj (aI gb))
 aB)
 (ae (dB XG rfl (cH rfl B.range (aa (aq aE rfl B.len bA (aa (pv 1) af)) af)) (bE (i:=2) nd rfl (by walk_at "o"))
 (aj (aY (cG (a9 (aw X3 hr rfl (aa (aK rZ (pv 0) (pv 2) (fun _ _=>rfl)) (aa (aK rZ (pv 1) (pv 2) (fun _ _=>rfl)) af)))))
 (aj (aI gb))
 aB)))
 (aj (aI gb)))))
 aB)
 (ae (aY (a9 (aq a8 rfl B.isinstance ao (aa (pv 1) (aa (bp rfl B.bool gK rfl) af))))
 (aj (aI (dX (aq a8 rfl B.isinstance ao (aa (pv 0) (aa (bp rfl B.bool gK rfl) af))) (eL (bO dG (pv 0) (pv 1) (aN _))))))
 aB)
 (ae (aY (a9 (aq a8 rfl B.isinstance ao (aa (pv 1) (aa (bp rfl B.int jg rfl) af))))
 (aj (aI (dX (aq a8 rfl B.isinstance ao (aa (pv 0) (aa (bp rfl B.int jg rfl) af))) (dX (zr (aq a8 rfl B.isinstance ao (aa (pv 0) (aa (bp rfl B.bool gK rfl) af)))) (eL (bO dG (pv 0) (pv 1) (aN _)))))))
 aB)
 (ae (aY (a9 (aq a8 rfl B.isinstance ao (aa (pv 1) (aa (bp rfl B.str lF rfl) af))))
 (aj (aI (dX (aq a8 rfl B.isinstance ao (aa (pv 0) (aa (bp rfl B.str lF rfl) af))) (eL (bO dG (pv 0) (pv 1) (aN _))))))
 aB)
 (aj (aI (dX (bO gh (pv 1) dF (aN _)) (eL (bO gh (pv 0) dF (aN _)))))))))),(FL rfl h)⟩
theorem zB(F:bt K mg "_law_same" (top 59) ["_law_found","_law_due"]) (B:cO mg):∀m:Nat,FnC P w K mg base b_ (m+1) "_law_same" ["_law_found","_law_due"] (gf K m)
 |0=>CO F B
 |m+1=>CN F B (zB F B m)
theorem rk(T:sK K mg x) (F:bt K mg "_law_kinds" (top 60) ["_law_e"]) (B:cO mg)  : lP P w K mg base x 1 :=
 F.okN qK (fun _ _ _ _=>by walk_at "l") fun f gV A outer s H vs Q E nd hr hu XS XG own h=>⟨Ex0.ya K x,(ae (aG (i:=1) nd rfl (by walk_at "o") (cg af))
 (ae (aY (a9 (aq bG rfl B.isinstance ao (aa (pv 0) (aa (cj rfl T.m0 rfl) af))))
 (aj (a5 (cb MQ MS MT aT (pv 1) (aa aP af))))
 aB)
 (ae (aY (a9 (aq bG rfl B.isinstance ao (aa (pv 0) (aa (cj rfl T.m1 rfl) af))))
 (aj (a5 (cb MQ MS MT aT (pv 1) (aa aP af))))
 aB)
 (ae (aY (a9 (aq bG rfl B.isinstance ao (aa (pv 0) (aa (cj rfl T.m2 rfl) af))))
 (aj (a5 (cb MQ MS MT aT (pv 1) (aa aP af))))
 aB)
 (ae (aY (a9 (aq bG rfl B.isinstance ao (aa (pv 0) (aa (cj rfl T.m3 rfl) af))))
 (aj (a5 (cb MQ MS MT aT (pv 1) (aa aP af))))
 aB)
 (ae (aY (a9 (aq bG rfl B.isinstance ao (aa (pv 0) (aa (cj rfl T.m4 rfl) af))))
 (aj (a5 (cb MQ MS MT aT (pv 1) (aa aP af))))
 aB)
 (ae (aY (a9 (aq bG rfl B.isinstance ao (aa (pv 0) (aa (cj rfl T.m5 rfl) af))))
 (aj (a5 (cb MQ MS MT aT (pv 1) (aa aP af))))
 aB)
 (ae (aY (a9 (aq bG rfl B.isinstance ao (aa (pv 0) (aa (cj rfl T.m6 rfl) af))))
 (aj (a5 (cb MQ MS MT aT (pv 1) (aa aP af))))
 aB)
 (ae (aY (a9 (aq bG rfl B.isinstance ao (aa (pv 0) (aa (cj rfl T.m7 rfl) af))))
 (aj (a5 (cb MQ MS MT aT (pv 1) (aa aP af))))
 aB)
 (ae (aY (a9 (aq bG rfl B.isinstance ao (aa (pv 0) (aa (cj rfl T.m8 rfl) af))))
 (aj (a5 (cb MQ MS MT aT (pv 1) (aa aP af))))
 aB)
 (ae (aY (a9 (aq bG rfl B.isinstance ao (aa (pv 0) (aa (cj rfl T.m9 rfl) af))))
 (aj (a5 (cb MQ MS MT aT (pv 1) (aa aP af))))
 aB)
 (ae (aY (a9 (aq bG rfl B.isinstance ao (aa (pv 0) (aa (cj rfl T.m10 rfl) af))))
 (aj (a5 (cb MQ MS MT aT (pv 1) (aa aP af))))
 aB)
 (ae (aY (a9 (aq bG rfl B.isinstance ao (aa (pv 0) (aa (cj rfl T.m11 rfl) af))))
 (aj (a5 (cb MQ MS MT aT (pv 1) (aa aP af))))
 aB)
 (ae (aY (a9 (aq bG rfl B.isinstance ao (aa (pv 0) (aa (cj rfl T.m12 rfl) af))))
 (aj (a5 (cb MQ MS MT aT (pv 1) (aa aP af))))
 aB)
 (ae (aY (a9 (aq bG rfl B.isinstance ao (aa (pv 0) (aa (cj rfl T.m13 rfl) af))))
 (aj (a5 (cb MQ MS MT aT (pv 1) (aa aP af))))
 aB)
 (ae (aY (cG (a9 (aq bG rfl B.isinstance ao (aa (pv 0) (aa (bp rfl T.mv qh rfl) af)))))
 (aj (a5 (cb MQ MS MT aT (pv 1) (aa aP af))))
 aB)
 (aj (aI (pv 1))))))))))))))))))),(Dh.KN T.k13 rfl h)⟩
theorem jw(F:bt K mg "_law_heap_text" (top 61) ["_law_words_here","_law_heap_here"]) (B:cO mg)  : fR P w K mg base 1 :=
 F.okN jo (fun _ _ _ _=>by walk_at "l") fun f gV A outer s H vs Q E nd hr hu XS XG own h=>⟨Tg.jW K,(ae (aG (i:=2) nd rfl (by walk_at "o") (cg af))
 (ae (dB XG rfl (cH rfl B.range (aa (aq aE rfl B.len bA (aa (pv 0) af)) af)) (bE (i:=3) nd rfl (by walk_at "o"))
 (aj (aY (aO uq (aK a6 (pv 1) (pv 3) (fun _ _=>rfl)) ai (aN _))
 (aj (a5 (cb MQ MS MT aT (pv 2) (aa (aK aH (cg (aa aP (aa (aK aH (pv 0) (pv 3) (fun _ _=>rfl)) (aa (aM bC aP (aK aH (pv 0) (pv 3) (fun _ _=>rfl))) (aa (aM bC aP (aK aH (pv 0) (pv 3) (fun _ _=>rfl))) af))))) (aK a6 (pv 1) (pv 3) (fun _ _=>rfl)) (fun _ _=>rfl)) af))))
 aB)))
 (ae (aY (aO (zy hu) (pv 2) (cg af) (aN _))
 (aj (aI aP))
 aB)
 (aj (aI (cb Oc UO UP zL aP (aa (pv 2) af))))))),(Tg.wL rfl h)⟩
theorem gB(F:bt K mg "_law_turning_text" (top 62) ["_law_words_here","_law_turning"]) (B:cO mg) (XJ:fR P w K mg base 1):d_ P w K mg base 2 :=
 F.okN gu (fun _ _ _ _=>by walk_at "l") fun f gV A outer s H vs Q E nd hr hu XS XG own h=>⟨Tg.jV K,(ae (aG (i:=2) nd rfl (by walk_at "o") (bf sv rfl B.str lF (aa (aK a6 (aK a6 (pv 1) ai (fun _ _=>rfl)) ai (fun _ _=>rfl)) af)))
 (ae (aY (aO uq (aK a6 (aK a6 (pv 1) ai (fun _ _=>rfl)) ai (fun _ _=>rfl)) ai (aN _))
 (aj (aG (i:=2) nd rfl (by walk_at "o") (aM bC (aM bC (pv 2) aP) (bf sv rfl B.str lF (aa (aK a6 (aK a6 (pv 1) ai (fun _ _=>rfl)) ai (fun _ _=>rfl)) af)))))
 aB)
 (ae (aG (i:=3) nd rfl (by walk_at "o") (aM bC (aM bC (aw XJ hr rfl (aa (pv 0) (aa (aK a6 (pv 1) ai (fun _ _=>rfl)) af))) aP) (aw XJ hr rfl (aa (pv 0) (aa (aK a6 (pv 1) ai (fun _ _=>rfl)) af)))))
 (aj (aI (aM bC (aM bC (pv 3) aP) (pv 2))))))),(Tg.wK rfl h)⟩
theorem uu(F:bt K mg "_law_pick" (top 63) ["_law_rows","_law_pool","_law_xs"]) (B:cO mg)  : nj P w K mg base 1 :=
 F.okN tU (fun _ _ _ _=>by walk_at "l") fun f gV A outer s H vs Q E nd hr hu XS XG own h=>⟨Dk.xO K,(ae (aY (PW.pt (pw_and (aO ju (aM bn (aK aH (pv 2) ai (fun _ _=>rfl)) ai) ai (aN _)) (pw_and1 (aO (vO hu) (pv 0) (cg af) (aN _)))))
 (aj (aI (aK aH (pv 0) (aM bn (aK aH (pv 2) ai (fun _ _=>rfl)) (aq aE rfl B.len bA (aa (pv 0) af))) (fun _ _=>rfl))))
 aB)
 (aj (aI (aK aH (pv 1) (aM bn (aK aH (pv 2) ai (fun _ _=>rfl)) (aq aE rfl B.len bA (aa (pv 1) af))) (fun _ _=>rfl))))),(Dk.FN rfl h)⟩
theorem jx(F:bt K mg "_law_deed_rows" (top 64) ["_law_script","_law_many"]) (B:cO mg) (XN:gP P w K mg base 2) (X2:nu P w K mg base 2) (pe:dy P w K mg base 2) (Yd:jk P w K mg base 2):fU P w K mg base 3 :=
 F.okN jp (fun _ _ _ _=>by walk_at "l") fun f gV A outer s H vs Q E nd hr hu XS XG own h=>⟨Dk.iD K,(ae (aG (i:=2) nd rfl (by walk_at "o") (cg af))
 (ae (dB XG rfl (gz (aM ID (dq yy (pv 0) (c_ ai) (c_ ai)) (cg (aa (aw pe hr rfl (aa (pv 0) (aa ai af))) af)))) (bE (i:=3) nd rfl (by walk_at "o"))
 (ae (aG (i:=4) nd rfl (by walk_at "o") (aw XN hr rfl (aa (pv 3) (aa ai af))))
 (ae (aG (i:=5) nd rfl (by walk_at "o") (aM b5 ai (aM bn (aK aH (pv 4) ai (fun _ _=>rfl)) ai)))
 (ae (aG (i:=6) nd rfl (by walk_at "o") (aw X2 hr rfl (aa (aK aH (pv 4) ai (fun _ _=>rfl)) (aa (pv 1) (aa (pv 5) af)))))
 (ae (aG (i:=7) nd rfl (by walk_at "o") (aw X2 hr rfl (aa (aK aH (pv 4) ai (fun _ _=>rfl)) (aa (pv 1) (aa (pv 5) af)))))
 (ae (aY (aO dG (aM bn (aK aH (pv 4) ai (fun _ _=>rfl)) ai) ai (aN _))
 (aj (aG (i:=7) nd rfl (by walk_at "o") (aw X2 hr rfl (aa ai (aa (pv 1) (aa ai af))))))
 aB)
 (ae (aY (PW.pt (pw_and (aO dG (aM bn (aK aH (pv 4) ai (fun _ _=>rfl)) ai) ai (aN _)) (pw_and1 (aO uq (aq aE rfl B.len bA (aa (pv 2) af)) ai (aN _)))))
 (aj (aG (i:=6) nd rfl (by walk_at "o") (aK a6 (aK aH (pv 2) (aM bn (aK aH (pv 4) ai (fun _ _=>rfl)) (aq aE rfl B.len bA (aa (pv 2) af))) (fun _ _=>rfl)) ai (fun _ _=>rfl))))
 aB)
 (aj (a5 (cb MQ MS MT aT (pv 2) (aa (fB (aa (pv 6) (aa (pv 7) (aa (aw Yd hr rfl (aa (aM b5 ai (aM bn (aK aH (pv 4) ai (fun _ _=>rfl)) ai)) (aa (aM b5 ai (aM bn (aK aH (pv 4) ai (fun _ _=>rfl)) ai)) af))) af)))) af)))))))))))
 (aj (aI (pv 2))))),(Dk.ud rfl h)⟩
theorem ut(G:Nv.Cn K mg nq) {pD:Addr} (XX:KD P w K mg "PIECES_WRITTEN" pD Tr2.kvPW) (DK:Dk.Kl K mg dD) (F:bt K mg "_law_seen" (top 65) ["_law_desk","_law_lies"]) (B:cO mg) (XY:eB P w K mg base dD 5) (YQ:jl P w K mg base dD 5) (YI:iA P w K mg base dD 5):f9 P w K mg base dD 6 :=
 F.okN tT (fun _ _ _ _=>by walk_at "l") fun f gV A outer s H vs Q E nd hr hu XS XG own h=>⟨Dh.xL K dD,(ae (aG (i:=2) nd rfl (by walk_at "o") (cg (aa (iO (pv 0) DK.cl XY hr kx) (aa (iO (pv 0) DK.cl YQ hr kx) af))))
 (ae (aY (a9 (pv 1))
 (aj (a5 (cb MQ MS MT aT (pv 2) (aa (iO (pv 0) DK.cl YI hr kx) af))))
 aB)
 (aj (aI (pv 2))))),(Dh.FK rfl h)⟩
theorem uw(T:sK K mg x)  (G:Nv.Cn K mg nq) {pD:Addr} (XX:KD P w K mg "PIECES_WRITTEN" pD Tr2.kvPW) (DK:Dk.Kl K mg dD) (F:bt K mg "_law_done" (top 66) ["_law_desk","_law_words_here","_law_rows","_law_pool","_law_cell"]) (B:cO mg) (XN:gP P w K mg base 6) (XF:d_ P w K mg base 6) (Yr:nj P w K mg base 6) (Zv:nJ P w K mg base x dD 6) (Y4:lS P w K mg base x dD 6) (Y5:lR P w K mg base x dD 6) (Yx:gR P w K mg base x dD 6):nA P w K mg base dD 7 :=
 F.okN tX (fun _ _ _ _=>by walk_at "l") fun f gV A outer s H vs Q E nd hr hu XS XG own h=>⟨Dh.xX K dD x,(ae (aG (i:=5) nd rfl (by walk_at "o") (aw XN hr rfl (aa (pv 4) (aa ai af))))
 (ae (aG (i:=6) nd rfl (by walk_at "o") aP)
 (ae (Ge own rfl T.v (D9 (aG (i:=7) nd rfl (by walk_at "o") (aw XF hr rfl (aa (pv 1) (aa (aw Yr hr rfl (aa (pv 2) (aa (pv 3) (aa (pv 5) af)))) af))))
 (E7 (aO ju (aM bn (aK aH (pv 5) ai (fun _ _=>rfl)) ai) ai (aN _))
 (jH (i:=6) nd rfl rfl (pv 0) DK.cl Zv hr (aa (aw XF hr rfl (aa (pv 1) (aa (aK aH (pv 3) (aM bn (aK aH (pv 5) ai (fun _ _=>rfl)) (aq aE rfl B.len bA (aa (pv 3) af))) (fun _ _=>rfl)) af))) af))
 (E7 (aO dG (aM bn (aK aH (pv 5) ai (fun _ _=>rfl)) ai) ai (aN _))
 (jH (i:=6) nd rfl rfl (pv 0) DK.cl Y4 hr (aa (pv 7) af))
 (E7 (aO ju (aM bn (aK aH (pv 5) ai (fun _ _=>rfl)) ai) ai (aN _))
 (jH (i:=6) nd rfl rfl (pv 0) DK.cl Y5 hr (aa (pv 7) af))
 (D9 (aG (i:=8) nd rfl (by walk_at "o") (aK aH (cg (aa (aM bn (aK aH (pv 5) ai (fun _ _=>rfl)) ai) (aa (aM b5 ai (aM bn (aK aH (pv 5) ai (fun _ _=>rfl)) ai)) (aa (aM bn (pv 4) (aM IC ai ai)) (aa (aM vN ai (aM bn (aK aH (pv 5) ai (fun _ _=>rfl)) ai)) af))))) (aM bn (aK aH (pv 5) ai (fun _ _=>rfl)) ai) (fun _ _=>rfl)))
 (jH (i:=6) nd rfl rfl (pv 0) DK.cl Yx hr (aa (aK aH (pv 1) (aM bn (aK aH (pv 5) ai (fun _ _=>rfl)) (aq aE rfl B.len bA (aa (pv 1) af))) (fun _ _=>rfl)) (aa (pv 8) af)))))))) (fun _=>(aj (aG (i:=6) nd rfl (by walk_at "o") aP))))
 (aj (aI (pv 6)))))),(Dh.FU ⟨T.s4,T.s5,T.s7,T.s12,T.h7,T.f7⟩ rfl h)⟩
theorem ph(T:sK K mg x)  (G:Nv.Cn K mg nq) {pD:Addr} (XX:KD P w K mg "PIECES_WRITTEN" pD Tr2.kvPW) (DK:Dk.Kl K mg dD) (F:bt K mg "_law_undone" (top 67) ["_law_desk"]) (B:cO mg) (Yy:gQ P w K mg base x dD 1):jj P w K mg base x dD 2 :=
 F.okN oV (fun _ _ _ _=>by walk_at "l") fun f gV A outer s H vs Q E nd hr hu XS XG own h=>⟨Dh.nU K dD x,(ae (aG (i:=1) nd rfl (by walk_at "o") dF)
 (ae (Gf (n:=2) (y:=1) (pv 0) DK.cl Yy hr own rfl T.v nd rfl rfl rfl rfl)
 (aj (aI (pv 1))))),(Dh.yR rfl h)⟩
theorem jv(F:bt K mg "_law_rows_told" (top 68) ["_law_vessel_told"]) (B:cO mg)  : fQ P w K mg base 1 :=
 F.okN jn (fun _ _ _ _=>by walk_at "l") fun f gV A outer s H vs Q E nd hr hu XS XG own h=>⟨Dh.iC K,(ae (aY (aO ju (aq aE rfl B.len bA (aa (pv 0) af)) ai (aN _))
 (aj (aI (cg af)))
 aB)
 (aj (aI (bf dZ rfl B.list dM (aa (aK rZ (aK aH (pv 0) ai (fun _ _=>rfl)) ai (fun _ _=>rfl)) af))))),(Dh.uc rfl h)⟩
theorem me(F:bt K mg "_law_as_seen" (top 69) ["_law_desk","_law_seen_here"]) (B:cO mg) (X3:FnC P w K mg base b_ 6 "_law_same" ["_law_found","_law_due"] (gf K 5)) (XE:f9 P w K mg base dD 6):dz P w K mg base dD 7 :=
 F.okN lX (fun _ _ _ _=>by walk_at "l") fun f gV A outer s H vs Q E nd hr hu XS XG own h=>⟨Dh.oj K dD,(aj (aI (aw X3 hr rfl (aa (aw XE hr rfl (aa (pv 0) (aa (bO (vO hu) (aK aH (aK aH (pv 1) (ul jS ai) (fun _ _=>rfl)) ai (fun _ _=>rfl)) (cg af) (aN _)) af))) (aa (aK aH (pv 1) (ul jS ai) (fun _ _=>rfl)) af))))),(Dh.y6 rfl h)⟩
theorem uy(T:sK K mg x)  (G:Nv.Cn K mg nq) {pD:Addr} (XX:KD P w K mg "PIECES_WRITTEN" pD Tr2.kvPW) (DK:Dk.Kl K mg dD) (F:bt K mg "_law_back" (top 70) ["_law_desk","_law_seen_here"]) (B:cO mg) (wp:dz P w K mg base dD 7) (Yy:gQ P w K mg base x dD 7):nF P w K mg base dD 8 :=
 F.okN tZ (fun _ _ _ _=>by walk_at "l") fun f gV A outer s H vs Q E nd hr hu XS XG own h=>⟨Dh.x8 K dD x,(ae (a5 (Et MQ UQ UR Ez (pv 1)))
 (aj (aI (dX (bO gh (iO (pv 0) DK.cl Yy hr zt) dF (aN _)) (eL (aw wp hr rfl (aa (pv 0) (aa (pv 1) af)))))))),(Dh.FZ rfl h)⟩
theorem zC(G:Nv.Cn K mg nq) {pD:Addr} (XX:KD P w K mg "PIECES_WRITTEN" pD Tr2.kvPW) (DK:Dk.Kl K mg dD) (F:bt K mg "_law_on" (top 71) ["_law_desk","_law_words_here","_law_pool","_law_seen_here","_law_cell"]) (B:cO mg) (Yq:nA P w K mg base dD 7) (XV:fQ P w K mg base 7) (wp:dz P w K mg base dD 7) (XE:f9 P w K mg base dD 7) (XY:eB P w K mg base dD 7):wv P w K mg base dD 8 :=
 F.okN yI (fun _ _ _ _=>by walk_at "l") fun f gV A outer s H vs Q E nd hr hu XS XG own h=>⟨Dh.t_on K dD,(ae (aG (i:=5) nd rfl (by walk_at "o") (aw Yq hr rfl (aa (pv 0) (aa (pv 1) (aa (aw XV hr rfl (aa (aK aH (pv 3) (ul jS ai) (fun _ _=>rfl)) af)) (aa (pv 2) (aa (pv 4) af)))))))
 (ae (aY (aO gh (pv 5) dF (aN _))
 (aj (a5 (cb MQ MS MT aT (pv 3) (aa (aw XE hr rfl (aa (pv 0) (aa (bO (vO hu) (iO (pv 0) DK.cl XY hr kx) (cg af) (aN _)) af))) af))))
 aB)
 (aj (aI (dX (K0 (bO gh (pv 5) dF (aN _)) (eL (bO (zy hu) (pv 5) aP (aN _)))) (eL (aw wp hr rfl (aa (pv 0) (aa (pv 3) af))))))))),(Dh.KG rfl h)⟩
theorem jA(T:sK K mg x)  (G:Nv.Cn K mg nq) {pD:Addr} (XX:KD P w K mg "PIECES_WRITTEN" pD Tr2.kvPW) (DK:Dk.Kl K mg dD) (F:gc K dD "__init__" "Desk.__init__" (met 49 0) ["self","words"]) (B:cO mg) (XO:gO P w K mg base x 2):MtC P w K mg base b_ 3 dD "__init__" ["self","words"] (Dh.cQ K dD) :=
 F.okN jr (fun _ _ _ _=>by walk_at "l") fun f gV A outer s H vs Q E nd hr hu XS XG own h=>⟨Dh.xS K x,(ae (i_ (pv 0) (g8 XO hr rfl zt (aa (pv 1) af)) rfl)
 (ae (i_ (pv 0) (fB af) rfl)
 (ae (i_ (pv 0) (aM Gr (fB (aa ai af)) (aq aE rfl B.len bA (aa (bT (pv 0) rfl) af))) rfl)
 (aj (i_ (pv 0) (cg af) rfl))))),(Dh.FR DK rfl h)⟩
theorem rD(G:Nv.Cn K mg nq) {pD:Addr} (XX:KD P w K mg "PIECES_WRITTEN" pD Tr2.kvPW) (DK:Dk.Kl K mg dD) (F:gc K dD "keep" "Desk.keep" (met 49 1) ["self","turnings","pieces"]) (B:cO mg)  : dR P w K mg base dD 1 :=
 F.okN qQ (fun _ _ _ _=>by walk_at "l") fun f gV A outer s H vs Q E nd hr hu XS XG own h=>⟨Dh.xR K,(ae (a5 (cb MQ MS MT aT (bT (pv 0) rfl) (aa (fB (aa (bT (pv 0) rfl) (aa (bT (pv 0) rfl) af))) af)))
 (ae (i_ (pv 0) (pv 1) rfl)
 (aj (i_ (pv 0) (pv 2) rfl)))),(Dh.FQ DK rfl h)⟩
theorem jy(T:sK K mg x)  (G:Nv.Cn K mg nq) {pD:Addr} (XX:KD P w K mg "PIECES_WRITTEN" pD Tr2.kvPW) (DK:Dk.Kl K mg dD) (F:gc K dD "place_of" "Desk.place_of" (met 49 2) ["self","text"]) (B:cO mg) (XY:eB P w K mg base dD 4):dO P w K mg base x dD 5 :=
 F.okM jq (fun _ _ _ _=>by walk_at "l") fun f gV A outer s H vs Q E nd hr hu XS XG YM h=>⟨Dh.jU K dD E x,(ae (aG (i:=2) nd rfl (by walk_at "o") (iO (pv 0) DK.cl XY hr kx))
 (ae (aY (aO (zv hu) (pv 1) (pv 2) (by with_unfolding_all rfl))
 (aj (cT YM rfl rfl T.n5 ND aP))
 aB)
 (aj (aI (cb MQ PySem.F.slot_list_index PySem.F.type_list_index (CV hu) (pv 2) (aa (pv 1) af)))))),(Dh.wJ DK rfl h)⟩
theorem uC(T:sK K mg x)  (G:Nv.Cn K mg nq) {pD:Addr} (XX:KD P w K mg "PIECES_WRITTEN" pD Tr2.kvPW) (DK:Dk.Kl K mg dD) (F:gc K dD "put" "Desk.put" (met 49 3) ["self","text"]) (B:cO mg) (X5:gj P w K mg base 4) (xa:df P w K mg base x 4) (XW:dR P w K mg base dD 4):nJ P w K mg base x dD 5 :=
 F.okM t_ (fun _ _ _ _=>by walk_at "l") fun f gV A outer s H vs Q E nd hr hu XS XG YM h=>⟨Dh.Fb K dD E x,(ae (aG (i:=2) nd rfl (by walk_at "o") (aw X5 hr rfl (aa (bT (pv 0) rfl) (aa (pv 1) af))))
 (ae (aY (aO gh (pv 2) dF (aN _))
 cW
 aB)
 (ae (aG (i:=3) nd rfl (by walk_at "o") (aM zA (bT (pv 0) rfl) (fB (aa (pv 2) af))))
 (ae (a5 (g8 xa hr rfl YM.pass (aa (pv 3) af)))
 (aj (a5 (kr (pv 0) DK.cl XW hr kx (aa (pv 3) (aa (bT (pv 0) rfl) af))))))))),(Dh.Ig DK rfl h)⟩
theorem rB(T:sK K mg x)  (G:Nv.Cn K mg nq) {pD:Addr} (XX:KD P w K mg "PIECES_WRITTEN" pD Tr2.kvPW) (DK:Dk.Kl K mg dD) (F:gc K dD "take" "Desk.take" (met 49 4) ["self","text"]) (B:cO mg) (XT:dO P w K mg base x dD 5) (XW:dR P w K mg base dD 5):lS P w K mg base x dD 6 :=
 F.okM qO (fun _ _ _ _=>by walk_at "l") fun f gV A outer s H vs Q E nd hr hu XS XG YM h=>⟨Dh.xK K dD E x,(ae (aG (i:=2) nd rfl (by walk_at "o") (kr (pv 0) DK.cl XT hr YM.pass (aa (pv 1) af)))
 (aj (a5 (kr (pv 0) DK.cl XW hr kx (aa (aM zA (dq yw (bT (pv 0) rfl) iN (c_ (pv 2))) (dq yw (bT (pv 0) rfl) (c_ (aM b5 (pv 2) ai)) iN)) (aa (bT (pv 0) rfl) af)))))),(Dh.FJ DK rfl h)⟩
theorem pj(G:Nv.Cn K mg nq) {pD:Addr} (XX:KD P w K mg "PIECES_WRITTEN" pD Tr2.kvPW) (DK:Dk.Kl K mg dD) (F:gc K dD "texts" "Desk.texts" (met 49 5) ["self"]) (B:cO mg) (XD:eI P w K mg base 3):eB P w K mg base dD 4 :=
 F.okN oX (fun _ _ _ _=>by walk_at "l") fun f gV A outer s H vs Q E nd hr hu XS XG own h=>⟨Dh.sX K,(aj (aI (jt (M:=["self"]) (by show dN (ah (met 49 5)) ["self"] ["self"] _ _;walk_at "c") nd rfl (ja (bT (pv 0) rfl)) (fun _ _ _ _ _=>(aw XD hr rfl (aa (bT (pv 1) rfl) (aa (pv 0) af))))))),(Dh.B_ DK rfl h)⟩
theorem mh(G:Nv.Cn K mg nq) {pD:Addr} (XX:KD P w K mg "PIECES_WRITTEN" pD Tr2.kvPW) (DK:Dk.Kl K mg dD) (F:gc K dD "vessel" "Desk.vessel" (met 49 6) ["self"]) (B:cO mg) (YZ:EY P w K mg base 4):iA P w K mg base dD 5 :=
 F.okN lZ (fun _ _ _ _=>by walk_at "l") fun f gV A outer s H vs Q E nd hr hu XS XG own h=>⟨Dh.nQ K,(aj (aI (aw YZ hr rfl (aa (bT (pv 0) rfl) (aa (bT (pv 0) rfl) af))))),(Dh.yQ DK rfl h)⟩
theorem rC(T:sK K mg x)  (G:Nv.Cn K mg nq) {pD:Addr} (XX:KD P w K mg "PIECES_WRITTEN" pD Tr2.kvPW) (DK:Dk.Kl K mg dD) (F:gc K dD "pour" "Desk.pour" (met 49 7) ["self","word","pieces"]) (B:cO mg) (XW:dR P w K mg base dD 1):gR P w K mg base x dD 2 :=
 F.okM qP (fun _ _ _ _=>by walk_at "l") fun f gV A outer s H vs Q E nd hr hu XS XG YM h=>⟨Dh.xN K dD E x,(ae (aY (aO (zu hu) (pv 1) (bT (pv 0) rfl) (by with_unfolding_all rfl))
 cW
 aB)
 (ae (aG (i:=3) nd rfl (by walk_at "o") (IA PySem.F.slot_tuple_index PySem.F.type_tuple_index (zM hu) (bT (pv 0) rfl) (aa (pv 1) af)))
 (ae (aG (i:=4) nd rfl (by walk_at "o") (bf dZ rfl B.list dM (aa (bT (pv 0) rfl) af)))
 (ae (Ek (aM b5 (aK aH (pv 4) (pv 3) (fun _ _=>rfl)) (pv 2)) (Eo (pv 4) (pv 3) qF))
 (ae (aY (aO ju (aK aH (pv 4) (pv 3) (fun _ _=>rfl)) ai (aN _))
 (aj (cT YM rfl rfl T.n12 ND aP))
 aB)
 (aj (a5 (kr (pv 0) DK.cl XW hr kx (aa (bT (pv 0) rfl) (aa (bf bx rfl B.tuple b7 (aa (pv 4) af)) af)))))))))),(Dh.FM DK rfl h)⟩
theorem rA(T:sK K mg x)  (G:Nv.Cn K mg nq) {pD:Addr} (XX:KD P w K mg "PIECES_WRITTEN" pD Tr2.kvPW) (DK:Dk.Kl K mg dD) (F:gc K dD "turn" "Desk.turn" (met 49 8) ["self","text"]) (B:cO mg) (X8:iw P w K mg base 5) (XZ:gn P w K mg base 5) (XW:dR P w K mg base dD 5) (XT:dO P w K mg base x dD 5) (YH:HH P w K mg base 1 "NotNow" x.c7 (qA K x.c7 "at")):lR P w K mg base x dD 6 :=
 F.okM qN (fun _ _ _ _=>by walk_at "l") fun f gV A outer s H vs Q E nd hr hu XS XG YM h=>⟨Dh.xJ K dD E x,(ae (aG (i:=2) nd rfl (by walk_at "o") (aK a6 (bT (pv 0) rfl) (kr (pv 0) DK.cl XT hr YM.pass (aa (pv 1) af)) (fun _ _=>rfl)))
 (ae (aY (cG (a9 (aw X8 hr rfl (aa (pv 2) (aa (bT (pv 0) rfl) af)))))
 (aj (zj YM rfl rfl YH (hr.mono (by decide)) ai))
 aB)
 (aj (a5 (kr (pv 0) DK.cl XW hr kx (aa (bT (pv 0) rfl) (aa (aw XZ hr rfl (aa (pv 2) (aa (bT (pv 0) rfl) af))) af))))))),(Dh.FI DK rfl h)⟩
theorem pp(G:Nv.Cn K mg nq) {pD:Addr} (XX:KD P w K mg "PIECES_WRITTEN" pD Tr2.kvPW) (DK:Dk.Kl K mg dD) (F:gc K dD "count" "Desk.count" (met 49 9) ["self"]) (B:cO mg)  : jl P w K mg base dD 1 :=
 F.okN oY (fun _ _ _ _=>by walk_at "l") fun f gV A outer s H vs Q E nd hr hu XS XG own h=>⟨Dh.tG K,(aj (aI (wS rfl rfl B.list rfl B.zip (aa (bT (pv 0) rfl) (aa (bT (pv 0) rfl) af))))),(Dh.Ck DK rfl h)⟩
theorem rn(T:sK K mg x)  (G:Nv.Cn K mg nq) {pD:Addr} (XX:KD P w K mg "PIECES_WRITTEN" pD Tr2.kvPW) (DK:Dk.Kl K mg dD) (F:gc K dD "undo" "Desk.undo" (met 49 10) ["self"]) (B:cO mg)  : gQ P w K mg base x dD 1 :=
 F.okM qM (fun _ _ _ _=>by walk_at "l") fun f gV A outer s H vs Q E nd hr hu XS XG YM h=>⟨Dh.xI K E x,(ae (aY (aO dG (aq aE rfl B.len bA (aa (bT (pv 0) rfl) af)) ai (aN _))
 (aj (cT YM rfl rfl T.n13 ND aP))
 aB)
 (ae (aG (i:=1) nd rfl (by walk_at "o") (Et MQ UQ UR Ez (bT (pv 0) rfl)))
 (ae (i_ (pv 0) (aK rZ (pv 1) ai (fun _ _=>rfl)) rfl)
 (aj (i_ (pv 0) (aK rZ (pv 1) ai (fun _ _=>rfl)) rfl))))),(Dh.FH DK rfl h)⟩
theorem IG(T:sK K mg x)  (G:Nv.Cn K mg nq) {pD:Addr} (XX:KD P w K mg "PIECES_WRITTEN" pD Tr2.kvPW) (DK:Dk.Kl K mg dD)   (F:Fun K "law" "law" (top 72) f fd) (B:cO mg) (Yk:lO P w K mg base 8) (XU:fU P w K mg base 8) (Ye:jj P w K mg base x dD 8) (XE:f9 P w K mg base dD 8) (wp:dz P w K mg base dD 8) (Yc:nF P w K mg base dD 8) (pe:dy P w K mg base 8) (YG:wv P w K mg base dD 8) (Yj:lP P w K mg base x 8) (Yi:MkC P w K mg base b_ 7 dD ["self","words"] (Dh.cQ K dD)) (Yx:gR P w K mg base x dD 8):FnOk P w K mg base b_ 9 f fd ["_law_script"] (spLaw K):=by
 refine F.ok Ee (fun vs H Q E h=>?_) (fun gV A outer s H vs Q E hr h=>?_)
 ·obtain⟨a,ns,rfl,_⟩:=h;rfl
 have nd:=Ee.nd;have hu:=hr.units;have XG:=fun {M A env}=>@Qu M A env
 exact⟨Dh.Fc K dD x,(ae (aG (i:=1) nd rfl (by walk_at "o") (aw Yk hr rfl (aa (pv 0) (aa ai (aa (aM b5 ai (aM bn (aw pe hr rfl (aa (pv 0) (aa ai af))) ai)) af)))))
 (ae (aG (i:=2) nd rfl (by walk_at "o") (aw XU hr rfl (aa (pv 0) (aa (aq aE rfl B.len bA (aa (pv 1) af)) af))))
 (ae (aG (i:=3) nd rfl (by walk_at "o") (cg (aa (pv 1) (aa (Gj (jt (M:=["_law_script","_law_words_here","_law_pool","_law_rolls","_law_desks","_law_seen_here","_law_k","_law_cell","_law_j","_law_desk","_law_caught"]) (by show dN (ah (top 72)) ["_law_script","_law_words_here","_law_pool","_law_rolls","_law_desks","_law_seen_here","_law_k","_law_cell","_law_j","_law_desk","_law_caught"] ["_law_script","_law_words_here","_law_pool","_law_rolls","_law_desks","_law_seen_here","_law_k","_law_cell","_law_j","_law_desk","_law_caught"] _ _;walk_at "c") nd rfl (gz (pv 1)) (fun _ _ _ _ _=>(aM bC (Gi (pv 0) (ul jS ai)) aP))) (ul jS ai)) af))))
 (ae (Ek (jt (M:=["_law_script","_law_words_here","_law_pool","_law_rolls","_law_desks","_law_seen_here","#_law_k","_law_cell","_law_j","_law_desk","_law_caught"]) (by show dN (ah (top 72)) ["_law_script","_law_words_here","_law_pool","_law_rolls","_law_desks","_law_seen_here","_law_k","_law_cell","_law_j","_law_desk","_law_caught"] ["_law_script","_law_words_here","_law_pool","_law_rolls","_law_desks","_law_seen_here","#_law_k","_law_cell","_law_j","_law_desk","_law_caught"] _ _;walk_at "c") nd rfl (cH rfl B.range (aa (aq aE rfl B.len bA (aa (pv 1) af)) af)) (fun _ _ _ _ _=>(aM bC (dq Fw (aK aH (aK aH (pv 4) ai (fun _ _=>rfl)) (pv 0) (fun _ _=>rfl)) (c_ (ul jS ai)) iN) (aK rY aP (pv 0) (fun _ _=>rfl))))) (Eo (pv 3) ai qF))
 (ae (aG (i:=4) nd rfl (by walk_at "o") (cg (aa (Er Yi hr rfl DK.mD (aa (bf dZ rfl B.list dM (aa (aK aH (pv 3) ai (fun _ _=>rfl)) af)) af)) (aa (Er Yi hr rfl DK.mD (aa (bf dZ rfl B.list dM (aa (aK aH (pv 3) ai (fun _ _=>rfl)) af)) af)) af))))
 (ae (KZ (M:=["_law_script","_law_words_here","_law_pool","_law_rolls","_law_desks","_law_seen_here","_law_k","_law_cell","_law_j","_law_desk","_law_caught"]) (i:=5) nd rfl rfl (by show dN (ah (top 72)) ["_law_script","_law_words_here","_law_pool","_law_rolls","_law_desks","_law_seen_here","_law_k","_law_cell","_law_j","_law_desk","_law_caught"] ["_law_script","_law_words_here","_law_pool","_law_rolls","_law_desks","_law_seen_here","_law_k","_law_cell","_law_j","_law_desk","_law_caught"] _ _;walk_at "c") rfl (gz (pv 3)) (fun _ _ _ _ _=>(cg (aa (cg (aa (cg af) (aa (jt (M:=["_law_roll","_law_script","_law_words_here","_law_pool","_law_rolls","_law_desks","_law_seen_here","_law_k","_law_cell","_law_j","_law_desk","_law_caught"]) (by show dN (KE _ (ah (top 72))) ["_law_roll","_law_script","_law_words_here","_law_pool","_law_rolls","_law_desks","_law_seen_here","_law_k","_law_cell","_law_j","_law_desk","_law_caught"] ["_law_roll","_law_script","_law_words_here","_law_pool","_law_rolls","_law_desks","_law_seen_here","_law_k","_law_cell","_law_j","_law_desk","_law_caught"] _ _;walk_at "c") (show(["_law_roll","_law_script","_law_words_here","_law_pool","_law_rolls","_law_desks","_law_seen_here","_law_k","_law_cell","_law_j","_law_desk","_law_caught"]:List Str).Nodup by decide +kernel) rfl (gz (pv 0)) (fun _ _ _ _ _=>(fB (aa (pv 0) (aa ai af))))) af))) af))))
 (ae (dB XG rfl (cH rfl B.range (aa (aM jb ai (bf sA rfl B.int jg (aa (bO dG (aM bn (aM gA (aw pe hr rfl (aa (pv 0) (aa ai af))) ai) ai) ai (aN _)) af))) af)) (bE (i:=6) nd rfl (by walk_at "o"))
 (ae (aY (aO Gs (kr (aK aH (pv 4) ai (fun _ _=>rfl)) DK.cl Yx hr zt (aa (aK aH (pv 1) (aM bn (pv 6) (aq aE rfl B.len bA (aa (pv 1) af))) (fun _ _=>rfl)) (aa ai af))) dF (aN _))
 (aj (aI gb))
 aB)
 (aj (a5 (cb MQ MS MT aT (aK aH (pv 5) ai (fun _ _=>rfl)) (aa (aw XE hr rfl (aa (aK aH (pv 4) ai (fun _ _=>rfl)) (aa gb af))) af))))))
 (ae (dB XG rfl (gz (dq yy (pv 0) (c_ ai) (c_ ai))) (bE (i:=7) nd rfl (by walk_at "o"))
 (ae (aG (i:=8) nd rfl (by walk_at "o") (aM bn (aM gA (pv 7) ai) ai))
 (ae (aY (PW.pt (pw_and (aO dG (aM bn (pv 7) ai) ai (aN _)) (pw_and1 (aO uq (aq aE rfl B.len bA (aa (aK aH (pv 5) (pv 8) (fun _ _=>rfl)) af)) ai (aN _)))))
 (aj (aY (cG (a9 (aw Yc hr rfl (aa (aK aH (pv 4) (pv 8) (fun _ _=>rfl)) (aa (aK aH (pv 5) (pv 8) (fun _ _=>rfl)) af)))))
 (aj (aI gb))
 aB))
 (aj (aY (cG (a9 (aw YG hr rfl (aa (aK aH (pv 4) (pv 8) (fun _ _=>rfl)) (aa (aK aH (pv 3) (pv 8) (fun _ _=>rfl)) (aa (pv 2) (aa (aK aH (pv 5) (pv 8) (fun _ _=>rfl)) (aa (pv 7) af))))))))
 (aj (aI gb))
 aB)))
 (aj (aY (cG (a9 (aw wp hr rfl (aa (aK aH (pv 4) (aM vN ai (pv 8)) (fun _ _=>rfl)) (aa (aK aH (pv 5) (aM vN ai (pv 8)) (fun _ _=>rfl)) af)))))
 (aj (aI gb))
 aB)))))
 (ae (o8 XG (aO uq (aM b5 (aq aE rfl B.len bA (aa (aK aH (pv 5) ai (fun _ _=>rfl)) af)) (aq aE rfl B.len bA (aa (aK aH (pv 5) ai (fun _ _=>rfl)) af))) ai (aN _))
 (ae (aG (i:=8) nd rfl (by walk_at "o") (bf sA rfl B.int jg (aa (bO ju (aq aE rfl B.len bA (aa (aK aH (pv 5) ai (fun _ _=>rfl)) af)) (aq aE rfl B.len bA (aa (aK aH (pv 5) ai (fun _ _=>rfl)) af)) (aN _)) af)))
 (aj (aY (cG (a9 (aw Yc hr rfl (aa (aK aH (pv 4) (pv 8) (fun _ _=>rfl)) (aa (aK aH (pv 5) (pv 8) (fun _ _=>rfl)) af)))))
 (aj (aI gb))
 aB))))
 (ae (dB XG rfl (gz (pv 4)) (bE (i:=9) nd rfl (by walk_at "o"))
 (ae (aG (i:=10) nd rfl (by walk_at "o") (aw Ye hr rfl (aa (pv 9) af)))
 (aj (aY (PW.pt (pw_or (aO gh (pv 10) dF (aN _)) (pw_or1 (aO (vO hu) (aw Yj hr rfl (aa (pv 10) af)) (cg (aa aP af)) (aN _)))))
 (aj (aI gb))
 aB))))
 (aj (aI gb)))))))))))),(by obtain⟨a,ns,rfl,hS,hl,k⟩:=h;exact Dh.Ii T.s13 hS hl k)⟩
end
theorem uV{G:Mu->Mu->Mu->Option Addr->Mu->Mu->Ph}{ps:List Str}(e:ps.length=1)(h:∀(a b c:Mu) (d:Option Addr) (x y u0:Mu),bindArgs (G a b c d x y) ⟨[u0],[]⟩=pure (ps.zip [u0]))(a b c:Mu)(d:Option Addr)(x y:Mu)(us:List Mu)(hl:us.length=ps.length):bindArgs (G a b c d x y) ⟨us,[]⟩=pure (ps.zip us):=by
 have e0:us.length=1:=hl.trans e;obtain⟨u0,us,rfl⟩:=MW e0;cases OA (N3 e0);exact h a b c d x y u0
theorem gJ{G:Mu->Mu->Mu->Option Addr->Mu->Mu->Ph}{ps:List Str}(e:ps.length=2)(h:∀(a b c:Mu) (d:Option Addr) (x y u0 u1:Mu),bindArgs (G a b c d x y) ⟨[u0,u1],[]⟩=pure (ps.zip [u0,u1]))(a b c:Mu)(d:Option Addr)(x y:Mu)(us:List Mu)(hl:us.length=ps.length):bindArgs (G a b c d x y) ⟨us,[]⟩=pure (ps.zip us):=by
 have e0:us.length=2:=hl.trans e;obtain⟨u0,us,rfl⟩:=MW e0;have e1:us.length=1:=N3 e0;obtain⟨u1,us,rfl⟩:=MW e1;cases OA (N3 e1);exact h a b c d x y u0 u1
theorem JY{G:Mu->Mu->Mu->Option Addr->Mu->Mu->Ph}{ps:List Str}(e:ps.length=3)(h:∀(a b c:Mu) (d:Option Addr) (x y u0 u1 u2:Mu),bindArgs (G a b c d x y) ⟨[u0,u1,u2],[]⟩=pure (ps.zip [u0,u1,u2]))(a b c:Mu)(d:Option Addr)(x y:Mu)(us:List Mu)(hl:us.length=ps.length):bindArgs (G a b c d x y) ⟨us,[]⟩=pure (ps.zip us):=by
 have e0:us.length=3:=hl.trans e;obtain⟨u0,us,rfl⟩:=MW e0;have e1:us.length=2:=N3 e0;obtain⟨u1,us,rfl⟩:=MW e1;have e2:us.length=1:=N3 e1;obtain⟨u2,us,rfl⟩:=MW e2;cases OA (N3 e2);exact h a b c d x y u0 u1 u2
theorem Mr{G:Mu->Mu->Mu->Option Addr->Mu->Mu->Ph}{ps:List Str}(e:ps.length=4)(h:∀(a b c:Mu) (d:Option Addr) (x y u0 u1 u2 u3:Mu),bindArgs (G a b c d x y) ⟨[u0,u1,u2,u3],[]⟩=pure (ps.zip [u0,u1,u2,u3]))(a b c:Mu)(d:Option Addr)(x y:Mu)(us:List Mu)(hl:us.length=ps.length):bindArgs (G a b c d x y) ⟨us,[]⟩=pure (ps.zip us):=by
 have e0:us.length=4:=hl.trans e;obtain⟨u0,us,rfl⟩:=MW e0;have e1:us.length=3:=N3 e0;obtain⟨u1,us,rfl⟩:=MW e1;have e2:us.length=2:=N3 e1;obtain⟨u2,us,rfl⟩:=MW e2;have e3:us.length=1:=N3 e2;obtain⟨u3,us,rfl⟩:=MW e3;cases OA (N3 e3);exact h a b c d x y u0 u1 u2 u3
theorem Me{G:Mu->Mu->Mu->Option Addr->Mu->Mu->Ph}{ps:List Str}(e:ps.length=5)(h:∀(a b c:Mu) (d:Option Addr) (x y u0 u1 u2 u3 u4:Mu),bindArgs (G a b c d x y) ⟨[u0,u1,u2,u3,u4],[]⟩=pure (ps.zip [u0,u1,u2,u3,u4]))(a b c:Mu)(d:Option Addr)(x y:Mu)(us:List Mu)(hl:us.length=ps.length):bindArgs (G a b c d x y) ⟨us,[]⟩=pure (ps.zip us):=by
 have e0:us.length=5:=hl.trans e;obtain⟨u0,us,rfl⟩:=MW e0;have e1:us.length=4:=N3 e0;obtain⟨u1,us,rfl⟩:=MW e1;have e2:us.length=3:=N3 e1;obtain⟨u2,us,rfl⟩:=MW e2;have e3:us.length=2:=N3 e2;obtain⟨u3,us,rfl⟩:=MW e3;have e4:us.length=1:=N3 e3;obtain⟨u4,us,rfl⟩:=MW e4;cases OA (N3 e4);exact h a b c d x y u0 u1 u2 u3 u4
theorem FnAt{K:Fg}{st:Stmt}{ps:List Str}(X:K.In h)(G:h.Ns mainGlobals mg)(p:HI K n st)(hb:∀(kV doc pm:Mu) (an:Option Addr) (gV ct:Mu) (us:List Mu),us.length=ps.length->bindArgs (Ob n n (cK st) (bM st) (ah st) .none kV doc pm an gV ct) ⟨us,[]⟩=pure (ps.zip us)):bt K mg n st ps:=by
 obtain⟨_,_,_,_,_,_,_,_,_,_,a,l,c,k⟩:=p;exact Dx X G a l c k hb
theorem lJ{K:Fg}{st:Stmt}{ps:List Str}(p:HG K D n q st)(hb:∀(kV doc pm:Mu) (an:Option Addr) (gV ct:Mu) (us:List Mu),us.length=ps.length->bindArgs (Ob n q (cK st) (bM st) (ah st) .none kV doc pm an gV ct) ⟨us,[]⟩=pure (ps.zip us)):gc K D n q st ps:=by
 obtain⟨f,_,_,_,_,_,_,_,_,_,a,l,c,k,i⟩:=p;exact⟨f,_,mT (st:=st) l c k,⟨a,i,k⟩,(mT (st:=st) l c k).binds hb⟩
abbrev Pg:=PySem.Challenge.rw_vesselhall_k94_deeds_undone.prog
theorem fin:PySem.Challenge.rw_vesselhall_k94_deeds_undone.Holds:=by
 refine K94H.headed ?_;intro w K h mg fa X G hfa P0 P20 P40 Z V dD q0 q1 q2 q3 q4 q5 q6 q7 q8 q9 q10 q11 q12 q13 qd0 qd1 qd2 qd3 qd4 qd5 qd6 qd7 qd8 qd9 qd10 qd11 qd12 qd13 qdV fi7 Ni7 nmi7 qni7 bsi7 tli7 sui7 hdi7 abi7 sni7 coi7 ddi7 odi7 ani7 kai7 kbi7 kci7 kdi7 kei7 oci7 kVi7 dci7 pmi7 cdi7 cti7 sli7 tk0 tk1 tk2 tk3 tk4 tn0 tn1 tp0 tp1 tp2 tq0 tq1 tq2 nq pD nqd nqn pDn nqs ph0 ph1 ph2 aV xV zVE gt tk sgV rdV fcV dV mV cs nd rs L7 ni7 fn7 kq7 lf7 cf7 kf7 sa7 nf7 hd7 mr7 aD gD hD pD_ sD mD kD nD0 nD1 nD2 nD3 hcn0 hcn1 hcn2 hcn3 hcn4 hcnN hcnL hpwN hpwL hpw0 hpw1 hpw2 hpwS ms;obtain⟨p0,p1,p2,p3,p4,p5,p6,p7,p8,p9,p10,p11,p12,p13,p14,p15,p16,p17,p18,p19,_⟩:=P0;obtain⟨p20,p21,p22,p23,p24,p25,p26,p27,p28,p29,p30,p31,p32,p33,p34,p35,p36,p37,p38,p39,_⟩:=P20;obtain⟨p40,p41,p42,_⟩:=P40;obtain⟨z0,z1,z2,z3,z4,z5,z6,z7,z8,z9,z10,z11,z12,z13,z14,z15,z16,z17,z18,z19,z20,z21,_⟩:=Z;obtain⟨mt0,mt1,mt2,mt3,mt4,mt5,mt6,mt7,mt8,mt9,mt10,_⟩:=ms;obtain⟨_,_,an,_,_,kV,dc,pm,cd,ct,aL,lL,cL,kL⟩:=p42;cases hfa.symm.trans (Nd X G aL);have zn:=fun {n:Str}=>V8 (n:=n) X G
 have B:cO mg:=⟨zn z0,zn z1,zn z2,zn z3,zn z4,zn z5,zn z6,zn z7,zn z8,zn z9,zn z10,zn z11,zn z12,zn z13,zn z14,zn z15,zn z16,zn z17,zn z18,zn z19,zn z20,zn z21⟩
 refine⟨Ob "law" "law" (cK (top 72)) (bM (top 72)) (ah (top 72)) .none kV dc pm an cd ct,fun s v=>.of_eq rfl,fun base _ _=>?_⟩;have tc:=Ex0.Ky (x:=⟨V,q0,q1,q2,q3,q4,q5,q6,q7,q8,q9,q10,q11,q12,q13⟩) cs;obtain⟨c0,c1,c2,c3,c4,c5,c6,c7,c8,c9,c10,c11,c12,c13,_⟩:=cs;obtain⟨r1,r4,r5,r12,r13,_⟩:=rs;have be7:=Ex0.rK (t:=.type "BaseException") c7.2.2 mr7 (by decide +kernel);have iC7:ExcI K mg "NotNow" q7 fi7:=⟨Nd X G c7.1,⟨_,_,_,_,_,_,_,_,_,_,_,_,_,_,_,_,L7,fun h X=>BJ xV dV mV L7 c7.2.2 mr7 h X⟩,ni7,fn7,kq7⟩
 have T:sK K mg ⟨V,q0,q1,q2,q3,q4,q5,q6,q7,q8,q9,q10,q11,q12,q13⟩:={
   v:=⟨Nd X G aV,_,_,xV,by decide⟩
   vb:=⟨Nd X G aV,sgV,rdV,fcV⟩
   mv:=V8 X G zVE
   m0:=Nd X G c0.1
   m1:=Nd X G c1.1
   m2:=Nd X G c2.1
   m3:=Nd X G c3.1
   m4:=Nd X G c4.1
   m5:=Nd X G c5.1
   m6:=Nd X G c6.1
   m7:=Nd X G c7.1
   m8:=Nd X G c8.1
   m9:=Nd X G c9.1
   m10:=Nd X G c10.1
   m11:=Nd X G c11.1
   m12:=Nd X G c12.1
   m13:=Nd X G c13.1
   n1:=⟨Nd X G c1.1,r1.1⟩
   s1:=⟨ie r1.1,Ex0.wW c1.2.2 r1.2.1⟩
   n4:=⟨Nd X G c4.1,r4.1⟩
   s4:=⟨ie r4.1,Ex0.wW c4.2.2 r4.2.1⟩
   n5:=⟨Nd X G c5.1,r5.1⟩
   s5:=⟨ie r5.1,Ex0.wW c5.2.2 r5.2.1⟩
   h7:=iC7.shape
   f7:=⟨sa7,nf7,hd7,⟨_,[_,_],c7.2.2,mr7,rfl⟩,Ex0.rK c7.2.2 mr7 (by decide +kernel)⟩
   s7:=⟨iC7.ob,Ex0.wW c7.2.2 mr7⟩
   n12:=⟨Nd X G c12.1,r12.1⟩
   s12:=⟨ie r12.1,Ex0.wW c12.2.2 r12.2.1⟩
   n13:=⟨Nd X G c13.1,r13.1⟩
   s13:=⟨ie r13.1,Ex0.wW c13.2.2 r13.2.1⟩
   k13:=Ex0.GO (r:=13) tc nd (by decide) c13.2.2 r13.2.1 r13.2.2 gt tk}
 have DK:Dk.Kl K mg dD:=⟨⟨gD,hD,pD_,sD⟩,Nd X G aD,nD0,nD1,nD2,nD3⟩
 have XX:=K9 (P:=Pg) (Nd X G hpwN) hpwL hpw0 hpw1 hpw2 hpwS;have gG:=G;have G:Nv.Cn K mg nq:=⟨⟨_,Nd X G hcn0⟩,⟨_,Nd X G hcn1⟩,⟨_,Nd X G hcn2⟩,⟨_,Nd X G hcn3⟩,⟨_,Nd X G hcn4⟩,Nd X G hcnN,fun H=>.inr ⟨_,_,_,hcnL,rfl,rfl,cC,.cons ⟨_,rfl⟩ (.cons ⟨_,rfl⟩ .nil)⟩⟩
 have YH:=Fun.iniC (P:=Pg) (w:=w) (base:=base) (k:=1) (sp:=qA K q7 "at") iC7 be7 (Gz (P:=Pg) (w:=w) (base:=base) T G XX DK (mT (st:=ini 9) lf7 cf7 kf7) B) ((mT (st:=ini 9) lf7 cf7 kf7).binds (gJ rfl fun _ _ _ _ _ _ _ _=>rfl)) rfl;have Yh:=CM (P:=Pg) (w:=w) (base:=base) (FnAt X gG p0 (uV rfl fun _ _ _ _ _ _ _=>rfl)) B;have XM:=gC (P:=Pg) (w:=w) (base:=base) (FnAt X gG p1 (gJ rfl fun _ _ _ _ _ _ _ _=>rfl)) B;have YF:=zD (P:=Pg) (w:=w) (base:=base) (FnAt X gG p3 (gJ rfl fun _ _ _ _ _ _ _ _=>rfl)) B;have Yv:=wT (P:=Pg) (w:=w) (base:=base) G XX DK (FnAt X gG p4 (uV rfl fun _ _ _ _ _ _ _=>rfl)) B;have Yo:=uz (P:=Pg) (w:=w) (base:=base) (FnAt X gG p9 (uV rfl fun _ _ _ _ _ _ _=>rfl)) B;have Yg:=pf (P:=Pg) (w:=w) (base:=base) (FnAt X gG p11 (gJ rfl fun _ _ _ _ _ _ _ _=>rfl)) B;have Yl:=rg (P:=Pg) (w:=w) (base:=base) (FnAt X gG p13 (uV rfl fun _ _ _ _ _ _ _=>rfl)) B;have XQ:=kG (P:=Pg) (w:=w) (base:=base) G XX DK (FnAt X gG p15 (gJ rfl fun _ _ _ _ _ _ _ _=>rfl)) B;have XI:=iS (P:=Pg) (w:=w) (base:=base) (FnAt X gG p16 (uV rfl fun _ _ _ _ _ _ _=>rfl)) B;have X8:=mf (P:=Pg) (w:=w) (base:=base) (FnAt X gG p19 (gJ rfl fun _ _ _ _ _ _ _ _=>rfl)) B;have XZ:=kH (P:=Pg) (w:=w) (base:=base) (FnAt X gG p20 (gJ rfl fun _ _ _ _ _ _ _ _=>rfl)) B;have pe:=md (P:=Pg) (w:=w) (base:=base) (FnAt X gG p21 (gJ rfl fun _ _ _ _ _ _ _ _=>rfl)) B;have XN:=rj (P:=Pg) (w:=w) (base:=base) (FnAt X gG p22 (gJ rfl fun _ _ _ _ _ _ _ _=>rfl)) B;have X9:=ma (P:=Pg) (w:=w) (base:=base) (FnAt X gG p23 (gJ rfl fun _ _ _ _ _ _ _ _=>rfl)) B;have Yp:=ux (P:=Pg) (w:=w) (base:=base) (FnAt X gG p25 (gJ rfl fun _ _ _ _ _ _ _ _=>rfl)) B;have Ys:=ur (P:=Pg) (w:=w) (base:=base) (FnAt X gG p26 (Mr rfl fun _ _ _ _ _ _ _ _ _ _=>rfl)) B;have X2:=uv (P:=Pg) (w:=w) (base:=base) (FnAt X gG p28 (JY rfl fun _ _ _ _ _ _ _ _ _=>rfl)) B;have Yj:=rk (P:=Pg) (w:=w) (base:=base) T (FnAt X gG p30 (uV rfl fun _ _ _ _ _ _ _=>rfl)) B;have XJ:=jw (P:=Pg) (w:=w) (base:=base) (FnAt X gG p31 (gJ rfl fun _ _ _ _ _ _ _ _=>rfl)) B;have Yr:=uu (P:=Pg) (w:=w) (base:=base) (FnAt X gG p33 (JY rfl fun _ _ _ _ _ _ _ _ _=>rfl)) B;have XV:=jv (P:=Pg) (w:=w) (base:=base) (FnAt X gG p38 (uV rfl fun _ _ _ _ _ _ _=>rfl)) B;have XW:=rD (P:=Pg) (w:=w) (base:=base) G XX DK (lJ mt1 (JY rfl fun _ _ _ _ _ _ _ _ _=>rfl)) B;have YQ:=pp (P:=Pg) (w:=w) (base:=base) G XX DK (lJ mt9 (uV rfl fun _ _ _ _ _ _ _=>rfl)) B;have Yy:=rn (P:=Pg) (w:=w) (base:=base) T G XX DK (lJ mt10 (uV rfl fun _ _ _ _ _ _ _=>rfl)) B;have Yn:=uA (P:=Pg) (w:=w) (base:=base) (FnAt X gG p2 (gJ rfl fun _ _ _ _ _ _ _ _=>rfl)) B XM Yh;have XO:=rf (P:=Pg) (w:=w) (base:=base) T G XX DK (FnAt X gG p5 (uV rfl fun _ _ _ _ _ _ _=>rfl)) B Yv;have Ym:=wU (P:=Pg) (w:=w) (base:=base) G XX DK (FnAt X gG p6 (gJ rfl fun _ _ _ _ _ _ _ _=>rfl)) B Yh;have xa:=iU (P:=Pg) (w:=w) (base:=base) T G XX DK (FnAt X gG p8 (uV rfl fun _ _ _ _ _ _ _=>rfl)) B Yo;have X7:=rm (P:=Pg) (w:=w) (base:=base) (FnAt X gG p12 (gJ rfl fun _ _ _ _ _ _ _ _=>rfl)) B Yg;have Yd:=pi (P:=Pg) (w:=w) (base:=base) (FnAt X gG p24 (gJ rfl fun _ _ _ _ _ _ _ _=>rfl)) B X9;have Yk:=rh (P:=Pg) (w:=w) (base:=base) (FnAt X gG p27 (JY rfl fun _ _ _ _ _ _ _ _ _=>rfl)) B pe Yp Ys;have XF:=gB (P:=Pg) (w:=w) (base:=base) (FnAt X gG p32 (gJ rfl fun _ _ _ _ _ _ _ _=>rfl)) B XJ;have Ye:=ph (P:=Pg) (w:=w) (base:=base) T G XX DK (FnAt X gG p37 (uV rfl fun _ _ _ _ _ _ _=>rfl)) B Yy;have Yx:=rC (P:=Pg) (w:=w) (base:=base) T G XX DK (lJ mt7 (JY rfl fun _ _ _ _ _ _ _ _ _=>rfl)) B XW;have X_:=l_ (P:=Pg) (w:=w) (base:=base) G XX DK (FnAt X gG p7 (gJ rfl fun _ _ _ _ _ _ _ _=>rfl)) B (YF.mono (by decide:1<=2)) Ym;have XD:=kC (P:=Pg) (w:=w) (base:=base) (FnAt X gG p14 (gJ rfl fun _ _ _ _ _ _ _ _=>rfl)) B X7 (Yl.mono (by decide:1<=2));have X4:=kF (P:=Pg) (w:=w) (base:=base) (FnAt X gG p17 (uV rfl fun _ _ _ _ _ _ _=>rfl)) B (XI.mono (by decide:1<=2)) Yn;have XU:=jx (P:=Pg) (w:=w) (base:=base) (FnAt X gG p34 (gJ rfl fun _ _ _ _ _ _ _ _=>rfl)) B (XN.mono (by decide:1<=2)) (X2.mono (by decide:1<=2)) (pe.mono (by decide:1<=2)) Yd;have ZU:=jA (P:=Pg) (w:=w) (base:=base) T G XX DK (lJ mt0 (gJ rfl fun _ _ _ _ _ _ _ _=>rfl)) B XO;have Yi:=ZU.mkC mD kD;have YZ:=Gy (P:=Pg) (w:=w) (base:=base) T (FnAt X gG p10 (gJ rfl fun _ _ _ _ _ _ _ _=>rfl)) B (XO.mono (by decide:2<=3)) X_ (xa.mono (by decide:2<=3));have X5:=kE (P:=Pg) (w:=w) (base:=base) (FnAt X gG p18 (gJ rfl fun _ _ _ _ _ _ _ _=>rfl)) B X4 (XQ.mono (by decide:1<=3)) XD;have XY:=pj (P:=Pg) (w:=w) (base:=base) G XX DK (lJ mt5 (uV rfl fun _ _ _ _ _ _ _=>rfl)) B XD;have XT:=jy (P:=Pg) (w:=w) (base:=base) T G XX DK (lJ mt2 (gJ rfl fun _ _ _ _ _ _ _ _=>rfl)) B XY;have Zv:=uC (P:=Pg) (w:=w) (base:=base) T G XX DK (lJ mt3 (gJ rfl fun _ _ _ _ _ _ _ _=>rfl)) B X5 (xa.mono (by decide:2<=4)) (XW.mono (by decide:1<=4));have YI:=mh (P:=Pg) (w:=w) (base:=base) G XX DK (lJ mt6 (uV rfl fun _ _ _ _ _ _ _=>rfl)) B YZ;have X3:=zB (P:=Pg) (w:=w) (base:=base) (FnAt X gG p29 (gJ rfl fun _ _ _ _ _ _ _ _=>rfl)) B 5;have XE:=ut (P:=Pg) (w:=w) (base:=base) G XX DK (FnAt X gG p35 (gJ rfl fun _ _ _ _ _ _ _ _=>rfl)) B (XY.mono (by decide:4<=5)) (YQ.mono (by decide:1<=5)) YI;have Y4:=rB (P:=Pg) (w:=w) (base:=base) T G XX DK (lJ mt4 (gJ rfl fun _ _ _ _ _ _ _ _=>rfl)) B XT (XW.mono (by decide:1<=5));have Y5:=rA (P:=Pg) (w:=w) (base:=base) T G XX DK (lJ mt8 (gJ rfl fun _ _ _ _ _ _ _ _=>rfl)) B (X8.mono (by decide:1<=5)) (XZ.mono (by decide:1<=5)) (XW.mono (by decide:1<=5)) XT YH;have Yq:=uw (P:=Pg) (w:=w) (base:=base) T G XX DK (FnAt X gG p36 (Me rfl fun _ _ _ _ _ _ _ _ _ _ _=>rfl)) B (XN.mono (by decide:1<=6)) (XF.mono (by decide:2<=6)) (Yr.mono (by decide:1<=6)) (Zv.mono (by decide:5<=6)) Y4 Y5 (Yx.mono (by decide:2<=6));have wp:=me (P:=Pg) (w:=w) (base:=base) (FnAt X gG p39 (gJ rfl fun _ _ _ _ _ _ _ _=>rfl)) B X3 XE;have Yc:=uy (P:=Pg) (w:=w) (base:=base) T G XX DK (FnAt X gG p40 (gJ rfl fun _ _ _ _ _ _ _ _=>rfl)) B wp (Yy.mono (by decide:1<=7));have YG:=zC (P:=Pg) (w:=w) (base:=base) G XX DK (FnAt X gG p41 (Me rfl fun _ _ _ _ _ _ _ _ _ _ _=>rfl)) B Yq (XV.mono (by decide:1<=7)) wp (XE.mono (by decide:6<=7)) (XY.mono (by decide:4<=7));exact IG (P:=Pg) (w:=w) (base:=base) T G XX DK (mT (st:=top 72) lL cL kL) B (Yk.mono (by decide:2<=8)) (XU.mono (by decide:3<=8)) (Ye.mono (by decide:2<=8)) (XE.mono (by decide:6<=8)) (wp.mono (by decide:7<=8)) Yc (pe.mono (by decide:1<=8)) YG (Yj.mono (by decide:1<=8)) (Yi.mono (by decide:3<=7)) (Yx.mono (by decide:2<=8))
end K94
theorem PySem.Challenge.cw_vesselhall_k94_deeds_undone_holds : PySem.Challenge.rw_vesselhall_k94_deeds_undone.Holds := by
 exact K94.fin
#print axioms PySem.Challenge.cw_vesselhall_k94_deeds_undone_holds

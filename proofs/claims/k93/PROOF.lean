import PyProof.Rows.All
import Wide.All
import Wide.FinOn
import Lean
import KE.KDictList
import KE.KEqDat
import KE.KIntText
import KE.KIsAll
import KE.KRevSl
import PySem.Challenge.RW_vesselhall_k93_whole_desk
set_option compiler.extract_closed false
set_option Elab.async false
set_option linter.all false
set_option maxRecDepth 100000
set_option maxHeartbeats 4000000
local macro_rules | `(tactic| get_elem_tactic_extensible)=>`(tactic| omega)
open PySem in
local macro_rules | `(tactic| wp_step)=>`(tactic| first|(with_reducible first|refine wpAny_pure ?_|refine wpAny_bind ?_|refine wpAny_holding ?_|refine wpAny_standAt ?_|refine wpAny_point ?_|refine wpAny_rule ?_|refine wpAny_letGo ?_|refine wpAny_mkInt' ?_|(refine wpAny_mkStr' ?_ ?a;(case a=>size_fits))|refine wpAny_fresh' ?_|refine wpAny_alloc' ?_|refine wpAny_attempt ?_|refine wpAny_throw ?_|refine wpAny_of_eq (by assumption) ?_|refine wpAny_typeOf (by assumption) ?_|refine wpAny_specialOf_val (by assumption) (by assumption) ?_|refine wpAny_specialOf (by assumption) (by assumption) ?_|refine wpAny_isInstance_val (by assumption) (by assumption) ?_|refine wpAny_isInstance (by assumption) (by assumption) ?_|refine wpAny_call ?_|refine wpAny_runValue ?_|refine wpAny_run ?_)|((with_reducible apply wpAny_load');focus (heap_get;done))|((with_reducible apply wpAny_update');focus (heap_get;done))|((with_reducible apply wpAny_loadPart');focus (heap_get;done))|((with_reducible apply wpAny_updatePart');focus (heap_get;done))|((with_reducible apply wpAny_handled_none);focus (assumption;done))|((with_reducible apply wpAny_ite_false);focus (rfl;done))|((with_reducible apply wpAny_ite_true);focus (rfl;done))|((with_reducible apply wpAny_ite_false);focus (simp[*];done))|((with_reducible apply wpAny_ite_true);focus (simp[*];done))|wp_delta)
local macro_rules | `(tactic| walk_at "o") => `(tactic| first|exact Or.inl rfl|exact Or.inr rfl)
local macro_rules | `(tactic| walk_at "c") => `(tactic| exact ⟨rfl,by decide +kernel,by decide +kernel,by decide +kernel,by decide +kernel,rfl,by decide +kernel,by decide +kernel,by decide +kernel⟩)
local macro_rules | `(tactic| walk_at "s") => `(tactic| exact ⟨rfl,rfl,rfl,by decide +kernel,rfl,by decide +kernel,by decide +kernel⟩)
open PySem.Challenge renaming pw_vesselhall_k93_whole_desk->PW93
open PySem renaming wpAny_bind->K8,Value->K_,wpAny_pure->Le,Shared->Lf,Program->LA,strLen_append->LK,World->LL,importedModules->LV,wpAny_field->L3,Around->L4,wpAny_mono->L6,wpAny_seqItems->Mc,wpAny_callSpecial?_slot->Mn,wpAny_setField_rec->Mr,wpAny_newObj_type->MF,SetTable->MH,wpAny_holding->MJ,treeTable->MQ,wpAny_call_entry->MS,wpAny_pyIter_tuple->MV,wpAny_Call_Name_kw->MX,World->M5,wpAny_truthy_bool->Nk,sizeLine_eq->Nl,OsState->Np,wpAny_pyIter_list->NB,wpAny_loadPart_at->ND,call_meets->NM,wpAny_onRaise->NQ,wpAny_typeNameOfWhole_keyiter->NW,Builtin->NX,FuncData->N2,IsPair->N5,wpAny_execs_nil->Oi,wpAny_passesOwn->Oj,Reads->Os,wpAny_setState_of->Ow,wpAny_attempt->OA,mem_of_lookup->OD,wpAny_setField->OG,wpAny_getItem_str_slice->OI,wpAny_letGo->OL,codeAny_mono->OO,IsZip->OX,wpAny_isInstance->Pl,wpAny_pyIter_zip->Pm,wpAny_isSubtype_exc->Pr,wpAny_standAt->Pw,codeAny_builtin->PF,wpAny_updateSeq->PH,typeIs_str->PL,plainObj_wpAny_Assign_Attribute->Qd,wpAny_execs_cons->Qi,PassesOwn->Qj,wpAny_call->Qk,ClassData->Ql,wpAny_forIn_list->Qq,codeAny_call_builtin->Qy,wpAny_specialOf->QK,isSubtype_stop->Q8,wpAny_rule->Q9,wpAny_letOwnedTupleGo_zip->Rf,wpAny_binaryOp_repeat_ref->Rh,slot_list_getitem->Ro,wpAny_dictEntries->Rt,wpAny_getItem_list_slice->Ry,wpAny_comprehension_free->RC,DictEntry->RL,NameKind->RM,noFill_tuple_add->RN,Shared->R0,Within->R5,Result->R6,wpAny_typeOf->R8,typeIs_int->R_,wpAny_Call_method_late->Sa,meets_dict_get_default->Sb,ExcBaseFacts->Sc,PyData->Sg,codeAny_compStart_list->Sh,wpAny_dictEpoch->SA,wpAny_loadPart'->SD,wpAny_isOneOf_keyiter->SJ,wpAny_isSame_ref_self->SL,toDigits_len_ge->SN,builtinLookup_eq_fast->SQ,ReadsAll->S_,wpAny_newFunctionEnv->Ta,wpAny_newTuple->Tc,OsState->TD,Keyword->TH,OwnTail->TJ,wpAny_Tuple_spliced->TN,seq_tuple_add->T9,evalPart_none->T_,hashStr->Ub,plainId_quiet->Ue,call->Um,IsPart->Us,tupleKind_room_in1->Uu,BindsTo->UN,concat_meets->UP,seqIndex_neg->UQ,call_meetsIn->UT,seqSlot_of->Vw,seqIndex_of->VC,intText?->VX
open PySem.Heap renaming get?_push_of_some->K9,lt_size->Lm,get?_push_size->Lu,get?_update_other->L8,get?_update_self->Mi,size_push->NC,SameBut->Oo,ExtBut->O_,IsTuple->Qb,get?_none_of_le->Qx,get?_push_cases->QC,IsList->Td,get?_update_ne->TU,NotedW->VE,SlotsOnly->VT
open List renaming length_map->La,getElem?_eq_getElem->Lb,getElem?_eq_some_iff->Ld,getElem?_map->Li,mem_cons->Lj,mem_of_getElem?->Ll,not_mem_nil->Lp,take_of_length_le->Lq,mem_map->Ls,mem_singleton->Lx,mem_cons_of_mem->Ly,mem_cons_self->Lz,exists_cons_of_length_eq_add_one->LB,size_toArray->LC,map_append->LD,length_take->LG,replicate->LI,mem_append_right->LO,length_append->LQ,take_add_one->LU,map_cons->LX,mem_append->LZ,length_cons->L0,length_singleton->L9,getElem?_append_right->Ma,nodup_cons->Me,getElem?_append_left->Mf,getD_eq_getElem?_getD->Mm,all_eq_true->MA,append_assoc->MG,length_replicate->MM,length_drop->MR,getElem?_zip_eq_some->MU,mem_filter->M0,filterMap_cons->M6,mem_filterMap->M9,append_nil->Nb,drop_of_length_le->Ng,range->Nh,map_eq_nil_iff->Nj,eq_nil_of_length_eq_zero->Nn,nodup_nil->Nq,all_cons->Nr,forIn_cons->Nw,of_mem_zip->NF,pairwise_iff_getElem->NH,getElem?_eq_none->NI,mem_iff_getElem?->NJ,mem_range->NS,mem_append_left->NT,lookup_cons->N9,zip->Ob,length_zip->Om,map_map->Ot,length_pos_iff->OF,length_eq_zero_iff->OH,lookup->OK,find?_cons->OV,length_filter_le->O1,reverse_cons->O6,forIn_nil->Pa,filter_cons->Pk,length_reverse->Pq,nil_append->PC,pairwise_cons->PM,length->PQ,getElem?_cons_succ->PX,filter_cons_of_pos->P3,filter_cons_of_neg->P4,getElem?_set_self->P7,length_eq_one_iff->Qa,pairwise_lt_range->Qc,contains_iff_mem->Qf,zipIdx_cons->Qo,getElem_mem->Qp,eq_nil_iff_forall_not_mem->Qs,mem_of_mem_drop->QD,length_nil->QG,zipIdx_nil->QJ,map_congr_left->QN,map_nil->QU,zip_cons_cons->Re,length_range->Rs,getElem?_take_of_lt->Rx,Pairwise->RA,any_cons->RB,length_erase_of_mem->RF,cons_append->RI,any_eq_true->RS,append_cancel_left->RZ,length_pos_of_mem->Sn,all_nil->Su,getElem?_toArray->SM,cons_lt_cons_iff->SR,getElem?_set_ne->SW,drop_zero->Tb,replicate_succ'->Th,mem_erase_of_ne->Tl,mem_of_mem_take->To,mem_iff_getElem->Tq,take_left->Tz,drop_left->TC,drop->TK,getElem?_range->TW,map_take->Ug,map_drop->Uh,getElem?_drop->Ux,forIn_toArray->Uz,map_inj_right->UA,filter_append->UC,any_eq_false->UF,take_sublist->UO,ext_getElem?->UU,pairwise_map->U0,nodup_append->Va,foldl_append->Vc,mem_reverse->Vk,take_length->Vq,range'_succ->Vv,map_reverse->Vy,range'->VF,length_set->VH,filter_nil->VN,drop_drop->VW
open Nat renaming le_refl->Lg,ne_of_lt->Lh,lt_trans->Lr,lt_of_lt_of_le->LR,lt_of_le_of_lt->LW,le_trans->Mh,zero_le->Ml,ne_of_gt->Mo,le_of_lt->MC,lt_or_ge->Ny,lt_succ_self->N8,min_eq_right->N_,min_eq_left->Ol,le_succ->Op,lt_trichotomy->Ov,lt_irrefl->Oy,add_le_add_left->OE,pow_le_pow_right->Pb,min_le_right->Pi,zero_add->QR,isDigit_of_mem_toDigits->QX,succ_pos->Sk,add_zero->Sv,not_lt_zero->SB,mod_lt->Uw,sub_self->UZ,lt_succ_of_lt->U3,div_eq_of_lt->Vo,log2_lt->VD
open Option renaming map_eq_some_iff->Ln,bind_eq_some_iff->PR,map_some->QF,isSome_iff_exists->Rv,isSome->Uc,getD_none->Vi,getD_some->Vp,map->VU,toList->V5
open PySem.W renaming kitCls->Lw,kitOne->LJ,findIn->L_,view->Mg,mg_of->MD,keepIn->ME,fnOf->MY,kia_one->Na,kqd_lay->Nd,emptyDict->Nm,boot_heap->No,nsIn->Nu,codeIn->NU,instObj->N1,recOk->Ox,xlAt->ON,hideAll->OU,hasDictIn->O5,openSeen->Pf,plainGet->Ph,kqd_layL->Pj,excIn->Py,callWith_K->PK,isFn->P8,methodCall_KW->Qe,kHook->Qv,makesIn->QE,plainGet_of->QM,of_hideAll->Q1,lookIn->Q4,methodObj->Rm,plainOver->Rn,openGood->RJ,cellsFrom_some->R7,takerIn->Sw,kqd_eqv->Sx,looks_findIn->SX,recFacts_of->TL,hideAll_get->TM,LeftO->TY,WalkO->TZ,mroIn->T0,boot_drawn->Uj,holds_open->Uk,Frag->UD,specialIn->UI,kitx_list->UJ,kitx_dict->UK,boot_toks->Vd,handedIn->Vh,OpenLaw->VI,kqd_any->VJ,SharedT->VO,XL->VR,xl_of->VY,clsIn->V0
open Option.some renaming inj->LF
open PySem.Value renaming ref->LH,none->Ms,type->N0,str->QY,bool->Q0,int->RK,float->VA,isStrOf->VZ
open PySem.Builtin.SmallTypes renaming ownedTupleIsFree->LM,nextOf->LN,ownedTupleHandOut->Ni
open Bool renaming false_ne_true->LP,false_eq_true->LS,and_eq_true->NA,true_and->N7,not_true->O0,and_eq_true_iff->O8,eq_iff_iff->PD,false_and->Q3,eq_false_iff->Rr,not_false->Ts,and_false->Tt,or_false->Ua,noConfusion->Vj
open PySem.Str renaming length_append->LY,empty->Mj,ofString->M8,join->Nt,empty_append->NP,cps_append->Tv,append_assoc->Vx,length->VS
open PySem.F renaming plainAttrs_list->L5,excBase_ValueError->Mt,slot_list_append->My,type_list_append->Mz,plainAttrs_str->MZ,slot_zip_next->M3,slot_dict_keyiterator_next->Nx,slot_tuple_iterator_next->Oa,slot_str_partition->Oc,slot_dict_get->Od,plain_extend_loop->Oh,args_zip_next_1->Ou,entry_zip_next->OJ,called_set->OP,slot_str_split->OR,slot_tuple_mul->OS,slot_int_rmul->O4,type_str_partition->Pe,args_tuple_add_2->Px,args_str_split_2->PB,entry_tuple_add->PU,args_dict_get_3->PV,entry_str_split->PZ,slot_list_clear->P5,type_list_clear->P6,slot_tuple_add->P9,entry_dict_get->P_,args_dict_keyiterator_next_1->Qn,entry_dict_keyiterator_next->Qz,args_tuple_iterator_next_1->QI,entry_tuple_iterator_next->QV,slot_str_rpartition->QW,entry_extend_loop->Rl,args_tuple_mul_2->RG,plainAttrs_dict->RO,slot_tuple_rmul->RW,args_int_rmul_2->RX,entry_tuple_mul->RY,slot_int_index->So,entry_int_rmul->Sr,type_dict_get->SG,fills_int_mul->SO,slot_str_join->SU,type_str_join->SV,excBase_ValueError->SZ,slot_tuple_hash->U1,slot_dict_iter->Vl
open PySem.W.Dat renaming str->Mp,int->NG,bool->OZ,bool->RQ
open PySem.Builtin.Str renaming strSliceIndices->Mq,strKind->Og,occurrences->P2
open PySem.StrLaws renaming partsFrom->Mu,strSub_toList->Qg,sub_whole->Ru,partsBetween_eq->RU,glued_eq_join->SS,last_spec->U_,occ_head->Vu,occBody->VL
open Array renaming getElem?_eq_getElem->Mv,length_toList->Mw,getElem?_eq_some_iff->MB,all_eq_true_iff_forall_mem->MI,getElem?_toList->MN,getElem?_setIfInBounds->OY,mem_toList_iff->O9,toList_append->Pu,forIn_toList->PN,getD->Q_,getElem?_eq_none->Si,append_empty->Ui,append_assoc->Uq,size_push->VM,mk->VQ
open Int renaming emod_lt_of_pos->MK,toNat_natCast->MT,emod_nonneg->Nf,zero_add->Nz,mul_fdiv_cancel_left->Pz,eq_ofNat_of_zero_le->P1,toNat_of_nonneg->QP,pos_of_mul_pos_right->RE,fmod_nonneg_of_pos->Sj,fdiv->Tj,neg_dvd->Tk,fmod_lt_of_pos->Uv,fmod->UW,fmod_def->UX,gcd_dvd_right->UY,gcd_dvd_left->Vn
open PyProof.Rows renaming callWith_type1->ML,callWith_builtin1->NL,slot_tuple_getitem->OB,toString_length_le->OC,AllBare->Qu,intBits_le->RP,subscriptTail_builtinR->R9,FormattedValue_plain->Tf,IntsAre->VP
open Ne renaming symm->MO
open Nat.succ renaming inj->MP
open PySem.Calls renaming spliced_cons->MW,spliced_nil->NY,callWith_builtin->N4,evalArgs_plain->Oq,Name_function_global->Q2
open PySem.Obj renaming mapFields->M4,mapSeq->M_,data_mapFields->NO,isFreed_of_fields->Oe,putSet->Rb,cls_mapFields->Rq
open False renaming elim->M7
open List.cons renaming inj->Nc,injEq->SE
open PySem.SetTable renaming insertAt->NE,advance->Pn,sizeAbove->PP,grown->Rc,sameMemory->TX,fill->Ud,tooFull->Vr,probe->VV,slot->V2,laid->V3
open True renaming intro->NK
open PySem.PyData renaming strOk->NR,eqv->Qm,depthAll->QH,int->UB,canLayAll0->U6
open PySem.SetTable.probe renaming go->NZ
open PySem.Heap.SameBut renaming update->N3
open PySem.Paired renaming length->N6
open PySem.Builtin.Slice renaming slicePlaces->Of,sliceAdjust->Po,sliceApplied->Q5
open Prod.mk renaming inj->On
open PySem.Builtin.Tuple renaming tupleExact->Oz,tupleItemsOf->Q6,tupleHashOf->Rg
open PySem.Shared renaming heap->OM,TypeIs->V4
open PySem.SeqAt renaming readOf->OQ,EqAt->Uo,readsAll_map->Uy,items_eqAt->Vt
open Prod renaming ext->OT
open PySem.PassesOwn renaming never->OW
open PySem.Builtin.List renaming listExtendWith->O7,listSameRef->RH,listItems->Ss
open PySem.Around renaming under_plainId->Pc,under->UL
open Classical renaming byContradiction->Pp
open PyProof.Rows.F renaming plain_set_update_loop->PY,entry_set_update_loop->RT
open PySem.W.KIN renaming signs_num->Qh,signs_num->Uf
open Rat renaming divInt->Qt
open PySem.W.Dat.tuple renaming inj->Qw
open PySem.Builtin.Frozenset renaming updateFrom->QL
open Sum renaming inl->QT,inr->TF
open PySem.Data renaming cell->QZ,seq->US,fields->VB
open PySem.Code renaming quiet_builtin->Q7,isFrame->UM
open PySem.NameKind renaming cell->RD,free->V1
open Std.Legacy renaming Range->RV
open PySem.W.Looks renaming here->Se,here->Ur
open ForInStep renaming yield->Sy
open PySem.Builtin.Int renaming intTooBig->SH,intBits->TQ
open PySem.Builtin.Dict renaming showsAll->SI
open List.Pairwise renaming sublist->SK,nil->UR
open PySem.Heap.UpToSlots renaming trans->SY
open PyProof.Rows.Reads renaming keeps->Tu
open PySem.W.Dat.str renaming inj->Tx
open PySem.EntryCells renaming newEntry->TR
open PySem.W.Hook renaming keeps->Ul,says->UE,obs->Ve,val->Vf,of->VG
open PySem.Heap.IsSliceOf renaming new->Ut
open PySem.Within renaming cons->UG
open PySem.Heap.Ns1 renaming of_empty->UH
open PySem.Txt renaming join->UV,slice->V6
open PySem.W.Dat.list renaming inj->Vb
open PySem.W.XL renaming keeps->Vg
open PySem.IsiPair renaming tupleOfB->Vm
open Sum.inr renaming inj->Vz
abbrev Fg := UD
local macro_rules | `(tactic| walk_at "t")=>`(tactic| simp only[List.map,PQ,LI,RI,PC,QR,Nat.reduceAdd,Nat.reduceSub])
namespace HdT
open PySem PySem.W
def C2:BT->Nat->List Obj->BT
 |T,_,[]=>T
 |T,n,o :: os=>C2 (T.ins n o) (n+1) os
def mB:BT->Nat->List Obj->Bool
 |_,_,[]=>true
 |T,n,o :: os=>match ((T.ins n o).get n).isSome with
  |true=>mB (T.ins n o) (n+1) os
  |false=>false
theorem vQ:∀(os:List Obj) (T:BT) (n:Nat) (life:Life),mB T n os=true->absHeap (C2 T n os) (n+os.length) life=⟨(absHeap T n life).objs++os.toArray,life⟩
 |[],T,n,life,_=>by
  show absHeap T n life=_;rw[show([]:List Obj).toArray = #[] from rfl,Ui];rfl
 |o :: os,T,n,life,h=>by
  unfold mB at h;split at h
  ·rename_i e;have ih:=vQ os (T.ins n o) (n+1) life h;rw[absHeap_ins e] at ih;show absHeap (C2 (T.ins n o) (n+1) os) (n+(os.length+1)) life=_;rw[show n+(os.length+1)=n+1+os.length by lia,ih];show Heap.mk ((absHeap T n life).objs.push o++os.toArray) life=Heap.mk ((absHeap T n life).objs++(o :: os).toArray) life;congr 1;simp
  ·cases h
def BE(tb:String->Option NX)(p:LA)(w:LL)(n₀:Nat)(ann:Option K_):Nat->VO->Thread->Option VO
 |0,_,_=>none
 |n+1,s,t=>match through t with
  |true=>some s
  |false=>match stepOk n₀ ann t with
   |false=>none
   |true=>match stepT (denote tb) p w s t with
    |some (s',t')=>BE tb p w n₀ ann n s' t'
    |none=>none
theorem yC{tb:String->Option NX}{p:LA}{w:LL}{n₀:Nat}{ann:Option K_}:∀{n:Nat} {s r:VO} {t:Thread},BE tb p w n₀ ann n s t=some r->topRun tb p w n₀ ann n s.abs t=some r.abs
 |0,_,_,_,h=>by cases h
 |n+1,s,r,t,h=>by
  unfold BE at h;unfold topRun;cases he:through t with
  |true=>rw[he] at h;cases h;rfl
  |false =>
   rw[he] at h;cases hk:stepOk n₀ ann t with
   |false=>rw[hk] at h;cases h
   |true =>
    rw[hk] at h;cases hs:stepT (denote tb) p w s t with
    |none=>rw[hs] at h;cases h
    |some x=>obtain⟨s₂,t₂⟩:=x;rw[hs] at h;rw[stepT_spec hs];exact yC h
noncomputable def ya (P:Params) (os:TD):VO:=⟨C2 .nil 0 (No P).objs.toList,(No P).objs.toList.length,(No P).life,VQ [],Uj,Vd,os⟩
theorem wt{os:TD}(h:mB .nil 0 (No P).objs.toList=true):(ya P os).abs=⟨No P,VQ [],Uj,Vd,os⟩:=by
 have e:=vQ (No P).objs.toList .nil 0 (No P).life h;rw[QR] at e;unfold VO.abs ya;simp only;rw[e];congr 1
noncomputable def ends (tb:String->Option NX) (mods:List Str) (p:LA) (w:LL) (N:Nat) (os:TD):Option Lf :=
 match (No w.params).isNs mainGlobals with
 |true=>(BE tb p w (No w.params).objs.size ((No w.params).nsMap mainGlobals "__annotations__") N (ya w.params os) (topStub p)).bind fun r =>
   match staticsOk mods (No w.params) r.abs.heap && namesBound p r.abs.heap && gensDone r.abs && laidKept (No w.params) r.abs.heap with
   |true=>some r.abs
   |false=>none
 |false=>none
theorem Gp{p:LA}{w:LL}{os:TD}{r:Lf}(g:mB .nil 0 (No w.params).objs.toList=true)(h:ends treeTable (importedModules p.main.body) p w N os=some r):topFrom treeTable p w N ⟨No w.params,VQ [],Uj,Vd,os⟩=some r:=by
 unfold ends at h;unfold topFrom;cases hi:(No w.params).isNs mainGlobals with
 |false=>rw[hi] at h;cases h
 |true =>
  rw[hi] at h;simp only at h ⊢;obtain⟨x,hx,hr⟩:=PR.mp h
  have:=yC hx
  rw[wt g] at this;show(topRun treeTable p w (No w.params).objs.size ((No w.params).nsMap mainGlobals "__annotations__") N ⟨No w.params,VQ [],Uj,Vd,os⟩ (topStub p)).bind _=_;rw[this];exact hr
theorem left{α:Type}{Yf:Lf->α}{Ya:LL->α}
  (e:opening p=plainProg p.main.scope.names) (hN:Nat.ble 600 N=true) (f:∀s,fenceModules? p s=some s) (g:∀w:LL,mB .nil 0 (No w.params).objs.toList=true)
  (h:∀w os,(ends treeTable (importedModules p.main.body) p w N os).map (fun s=>(openSeen q loose (importedModules p.main.body) Xt true s,Yf s))=some (openGood q loose,Ya w)):LeftO p q loose Xt Yf Ya N:=fun w=>by
 obtain⟨s,hs,hv⟩:=Ln.mp (boot_open e hN f w);unfold openEnds;rw[hs];obtain⟨heap,gens,drawn,toks,os⟩:=s;obtain⟨h1,h2⟩:=On hv;obtain⟨h2,h3⟩:=On h2;obtain⟨h3,h4⟩:=On h3;subst h1 h2 h3 h4;obtain⟨r,hr,hv⟩:=Ln.mp (h w os);show(topFrom treeTable p w N _).map _=_;rw[Gp (g w) hr];exact congrArg some hv
theorem cut4{α β γ δ ε ζ η θ ι:Type}{o:Option Lf}{F:Lf->α×β×γ×δ×ε×ζ×η×θ×ι}{a:α}{b:β}{c:γ}{d:δ}{e:ε}{f:ζ}{g:η}{h:θ}{i:ι}(h1:o.map (fun s=>((F s).1,(F s).2.1))=some (a,b))(h2:o.map (fun s=>(F s).2.2.1)=some c)(h3:o.map (fun s=>((F s).2.2.2.1,(F s).2.2.2.2.1))=some (d,e))
  (h4:o.map (fun s=>((F s).2.2.2.2.2.1,(F s).2.2.2.2.2.2.1,(F s).2.2.2.2.2.2.2.1,(F s).2.2.2.2.2.2.2.2))=some (f,g,h,i)):o.map F=some (a,b,c,d,e,f,g,h,i):=by
 cases o with
 |none=>cases h1
 |some s =>
  have k1:=On (LF h1);have k3:=On (LF h3);have k4:=On (LF h4);have k5:=On k4.2;have k6:=On k5.2;exact congrArg some (OT k1.1 (OT k1.2 (OT (LF h2) (OT k3.1 (OT k3.2 (OT k4.1 (OT k5.1 (OT k6.1 k6.2))))))))
end HdT
namespace K93H
open PySem
def qv:PySem.Program:=Mg PW93 [0,2,3,4,5,6,7,8,9,10,11,12,14,15,16,17,19,20,21,22,23,24,25,26,27,28,29,30,31,33,34,35,36,37,38,39,40,41,43,44,46,48,49,50,51,52,53,54,55,56,57,58,59,60,61,62,63,64,65,66,67,68,69]
theorem said(h:PySem.Challenge.rw_vesselhall_k93_whole_desk.row.Holds):PySem.Challenge.rw_vesselhall_k93_whole_desk.Holds:=by
 w_on;o_law;exact h
theorem booted{α:Type}{Yf:R0->α}{Ya:M5->α}(h:∀w os,(HdT.ends MQ (LV PW93.main.body) PW93 w 8950 os).map (fun s=>(Pf q loose (LV PW93.main.body) Xt true s,Yf s))=some (RJ q loose,Ya w)):TY PW93 q loose Xt Yf Ya 8950 :=
 HdT.left (by kernel_rfl) (by decide) (fun s=>by kernel_rfl) (fun w=>by kernel_rfl) h
local macro_rules | `(tactic| o_head $H)=>`(tactic| refine Uk (q:=K93H.qv) (loose:=["PIECES_WRITTEN"]) (Xt:=fun s=>ON K93H.qv [] s && Ox [] s) (XP:=VR K93H.qv []) (Yf:=Ve $H) (Ya:=Vf $H) (YP:=UE $H) (N:=8950) ?_ (VG $H) (Ul $H) (fun s e=>VY s (O8.mp e).1) Vg (by rfl) (by rfl) (by rfl) (fun s e=>TL (O8.mp e).2) (by rfl) (by first|assumption|decide +kernel) (by decide +kernel) ⟨rfl,rfl,rfl,rfl,rfl,by decide +kernel⟩ ?_ ?_)
set_option maxRecDepth 100000 in
set_option maxHeartbeats 0 in
open PySem.W PyProof.Rows in
theorem pre(hL:∀(α:Type) (Yf:R0->α) (Ya:M5->α),TY PW93 qv ["PIECES_WRITTEN"] (fun s=>ON qv [] s && Ox [] s) Yf Ya 8950) (hP:PySem.Challenge.rw_vesselhall_k93_whole_desk.row.toRowW.promised) (hC:∀(YP:M5->PySem.Heap->Prop) (d:DefRec),TZ qv ["PIECES_WRITTEN"] (VR qv []) YP PySem.Challenge.rw_vesselhall_k93_whole_desk.row.toRowW d [] (fun f vs=>Um f vs)):PySem.Challenge.rw_vesselhall_k93_whole_desk.row.Holds:=by
 w_on;k_head
 ·exact hL _ _ _
 ·exact hP
 ·exact hC _ _
def asl:List Nat:=[2,3,15,17,18,20,21,22,29,30,31,32,35,42,43,44,47,54,55,56,59,66,67,68,71,78,79,80,83,90,91,92,95,102,103,104,107,114,116,117,119,120,121,122,123,126,133,135,136,138,139,140,141,142,145,152,153,154,157,164,165,166,169,171,172,174,175,176,178,179,181,182,183,185,186,188,189,190,192,193,195,196,197,198,201,202,203,206,207,208,211,212,213,216,217,218,221,222,223,225,226,228,229,230,232,233,235,236,237,238,240,241,243,244,245,248,249,250,252,253,255,256,257,259,260,262,263,264,267,268,269,272,273,274,276,277,279,280,281,283,284,286,287,288,291,292,293,296,297,305,307,308,310,311,312,314,315,317,318,319,321,322,324,325,326,328,329,331,332,333,335,336,338,339,340,343,344,345,347,348,350,351,352,354,355,357,358,359,361,362,364,365,366,368,369,371,372,373,375,376,378,379,380,381,382,383,384,387,389,390,392,393,394,396,397,399,400,401,403,404,406,407,408,410,411,413,414,415,417,418,420,421,422,424,425,427,428,429,431,432,434,435,436,438,439,441,442,443,445,446,448,449,450,452,453,455,456,457,459,460,462,463,464,467,468,469,471,472,474,475,476,479,480,481,483,484,486,487,488,490,491,493,494,495,497,498,500,501,502,505,506,507,510,511,512,514,515,517,518,519,522,523,524,527,528]
theorem asl_ok(P:PySem.Params):asl=(pre.heap_1 P).map (·.1):=by kernel_rfl
abbrev b4 (w:M5) (s:R0):=Pf (Mg PW93 [0,2,3,4,5,6,7,8,9,10,11,12,14,15,16,17,19,20,21,22,23,24,25,26,27,28,29,30,31,33,34,35,36,37,38,39,40,41,43,44,46,48,49,50,51,52,53,54,55,56,57,58,59,60,61,62,63,64,65,66,67,68,69]) ["PIECES_WRITTEN"] (LV PW93.main.body) (fun s=>ON (Mg PW93 [0,2,3,4,5,6,7,8,9,10,11,12,14,15,16,17,19,20,21,22,23,24,25,26,27,28,29,30,31,33,34,35,36,37,38,39,40,41,43,44,46,48,49,50,51,52,53,54,55,56,57,58,59,60,61,62,63,64,65,66,67,68,69]) [] s && Ox [] s) true s
open PySem.W PyProof.Rows in
set_option maxRecDepth 100000 in
set_option maxHeartbeats 0 in
theorem yu(w:M5) (os:Np):(HdT.ends MQ (LV PW93.main.body) PW93 (w.withFollow "special-get-raises" false) 8950 os).map (fun s=>((b4 w s).1,(b4 w s).2.1))=some (expectedOf (Mg PW93 [0,2,3,4,5,6,7,8,9,10,11,12,14,15,16,17,19,20,21,22,23,24,25,26,27,28,29,30,31,33,34,35,36,37,38,39,40,41,43,44,46,48,49,50,51,52,53,54,55,56,57,58,59,60,61,62,63,64,65,66,67,68,69]),bltViewBooted):=by
 unfold b4;rw[PySem.W.Fast.te4187177175401517315,PySem.W.Fast.te5923862056798008813,PySem.W.Fast.te14364793385576792824,PySem.W.Fast.te5078774184982237980];kernel_rfl
open PySem.W PyProof.Rows in
set_option maxRecDepth 100000 in
set_option maxHeartbeats 0 in
theorem yt(w:M5) (os:Np):(HdT.ends MQ (LV PW93.main.body) PW93 (w.withFollow "special-get-raises" false) 8950 os).map (fun s=>(b4 w s).2.2.1)=some true:=by
 unfold b4;rw[PySem.W.Fast.te4187177175401517315,PySem.W.Fast.te5923862056798008813,PySem.W.Fast.te14364793385576792824,PySem.W.Fast.te5078774184982237980];kernel_rfl
open PySem.W PyProof.Rows in
set_option maxRecDepth 100000 in
set_option maxHeartbeats 0 in
theorem yr(w:M5) (os:Np):(HdT.ends MQ (LV PW93.main.body) PW93 (w.withFollow "special-get-raises" false) 8950 os).map (fun s=>((b4 w s).2.2.2.1,(b4 w s).2.2.2.2.1))=some (true,pinGoodD (drecsOf (Mg PW93 [0,2,3,4,5,6,7,8,9,10,11,12,14,15,16,17,19,20,21,22,23,24,25,26,27,28,29,30,31,33,34,35,36,37,38,39,40,41,43,44,46,48,49,50,51,52,53,54,55,56,57,58,59,60,61,62,63,64,65,66,67,68,69]))):=by
 unfold b4;rw[PySem.W.Fast.te4187177175401517315,PySem.W.Fast.te5923862056798008813,PySem.W.Fast.te14364793385576792824,PySem.W.Fast.te5078774184982237980];kernel_rfl
open PySem.W PyProof.Rows in
set_option maxRecDepth 100000 in
set_option maxHeartbeats 0 in
theorem yq(w:M5) (os:Np):(HdT.ends MQ (LV PW93.main.body) PW93 (w.withFollow "special-get-raises" false) 8950 os).map (fun s=>((b4 w s).2.2.2.2.2.1,(b4 w s).2.2.2.2.2.2.1,(b4 w s).2.2.2.2.2.2.2.1,(b4 w s).2.2.2.2.2.2.2.2))=some (plainGoodE (Mg PW93 [0,2,3,4,5,6,7,8,9,10,11,12,14,15,16,17,19,20,21,22,23,24,25,26,27,28,29,30,31,33,34,35,36,37,38,39,40,41,43,44,46,48,49,50,51,52,53,54,55,56,57,58,59,60,61,62,63,64,65,66,67,68,69]) (looseW (Mg PW93 [0,2,3,4,5,6,7,8,9,10,11,12,14,15,16,17,19,20,21,22,23,24,25,26,27,28,29,30,31,33,34,35,36,37,38,39,40,41,43,44,46,48,49,50,51,52,53,54,55,56,57,58,59,60,61,62,63,64,65,66,67,68,69]) ["PIECES_WRITTEN"]),plainGoodD (Mg PW93 [0,2,3,4,5,6,7,8,9,10,11,12,14,15,16,17,19,20,21,22,23,24,25,26,27,28,29,30,31,33,34,35,36,37,38,39,40,41,43,44,46,48,49,50,51,52,53,54,55,56,57,58,59,60,61,62,63,64,65,66,67,68,69]) ["PIECES_WRITTEN"],wideGood (Mg PW93 [0,2,3,4,5,6,7,8,9,10,11,12,14,15,16,17,19,20,21,22,23,24,25,26,27,28,29,30,31,33,34,35,36,37,38,39,40,41,43,44,46,48,49,50,51,52,53,54,55,56,57,58,59,60,61,62,63,64,65,66,67,68,69]),clsGoodW (Mg PW93 [0,2,3,4,5,6,7,8,9,10,11,12,14,15,16,17,19,20,21,22,23,24,25,26,27,28,29,30,31,33,34,35,36,37,38,39,40,41,43,44,46,48,49,50,51,52,53,54,55,56,57,58,59,60,61,62,63,64,65,66,67,68,69]) ["PIECES_WRITTEN"]):=by
 unfold b4;rw[PySem.W.Fast.te4187177175401517315,PySem.W.Fast.te5923862056798008813,PySem.W.Fast.te14364793385576792824,PySem.W.Fast.te5078774184982237980];kernel_rfl
theorem seenfalse(w:M5) (os:Np):(HdT.ends MQ (LV PW93.main.body) PW93 (w.withFollow "special-get-raises" false) 8950 os).map (fun s=>Pf (Mg PW93 [0,2,3,4,5,6,7,8,9,10,11,12,14,15,16,17,19,20,21,22,23,24,25,26,27,28,29,30,31,33,34,35,36,37,38,39,40,41,43,44,46,48,49,50,51,52,53,54,55,56,57,58,59,60,61,62,63,64,65,66,67,68,69]) ["PIECES_WRITTEN"] (LV PW93.main.body) (fun s=>ON (Mg PW93 [0,2,3,4,5,6,7,8,9,10,11,12,14,15,16,17,19,20,21,22,23,24,25,26,27,28,29,30,31,33,34,35,36,37,38,39,40,41,43,44,46,48,49,50,51,52,53,54,55,56,57,58,59,60,61,62,63,64,65,66,67,68,69]) [] s && Ox [] s) true s)=some (RJ (Mg PW93 [0,2,3,4,5,6,7,8,9,10,11,12,14,15,16,17,19,20,21,22,23,24,25,26,27,28,29,30,31,33,34,35,36,37,38,39,40,41,43,44,46,48,49,50,51,52,53,54,55,56,57,58,59,60,61,62,63,64,65,66,67,68,69]) ["PIECES_WRITTEN"]):=HdT.cut4 (F:=fun s=>b4 w s) (yu w os) (yt w os) (yr w os) (yq w os)
set_option maxRecDepth 100000 in
set_option maxHeartbeats 0 in
theorem hookfalse(w:M5) (os:Np):(HdT.ends MQ (LV PW93.main.body) PW93 (w.withFollow "special-get-raises" false) 8950 os).map (fun s=>asl.map s.heap.get?)=some ((pre.heap_1 (w.withFollow "special-get-raises" false).params).map fun p=>some p.2):=by
 unfold asl;rw[PySem.W.Fast.te5923862056798008813,PySem.W.Fast.te14364793385576792824,PySem.W.Fast.te5078774184982237980];kernel_rfl
abbrev cJ (w:M5) (s:R0):=Pf (Mg PW93 [0,2,3,4,5,6,7,8,9,10,11,12,14,15,16,17,19,20,21,22,23,24,25,26,27,28,29,30,31,33,34,35,36,37,38,39,40,41,43,44,46,48,49,50,51,52,53,54,55,56,57,58,59,60,61,62,63,64,65,66,67,68,69]) ["PIECES_WRITTEN"] (LV PW93.main.body) (fun s=>ON (Mg PW93 [0,2,3,4,5,6,7,8,9,10,11,12,14,15,16,17,19,20,21,22,23,24,25,26,27,28,29,30,31,33,34,35,36,37,38,39,40,41,43,44,46,48,49,50,51,52,53,54,55,56,57,58,59,60,61,62,63,64,65,66,67,68,69]) [] s && Ox [] s) true s
open PySem.W PyProof.Rows in
set_option maxRecDepth 100000 in
set_option maxHeartbeats 0 in
theorem BA(w:M5) (os:Np):(HdT.ends MQ (LV PW93.main.body) PW93 (w.withFollow "special-get-raises" true) 8950 os).map (fun s=>((cJ w s).1,(cJ w s).2.1))=some (expectedOf (Mg PW93 [0,2,3,4,5,6,7,8,9,10,11,12,14,15,16,17,19,20,21,22,23,24,25,26,27,28,29,30,31,33,34,35,36,37,38,39,40,41,43,44,46,48,49,50,51,52,53,54,55,56,57,58,59,60,61,62,63,64,65,66,67,68,69]),bltViewBooted):=by
 unfold cJ;rw[PySem.W.Fast.te4187177175401517315,PySem.W.Fast.te5923862056798008813,PySem.W.Fast.te14364793385576792824,PySem.W.Fast.te5078774184982237980];kernel_rfl
open PySem.W PyProof.Rows in
set_option maxRecDepth 100000 in
set_option maxHeartbeats 0 in
theorem Bz(w:M5) (os:Np):(HdT.ends MQ (LV PW93.main.body) PW93 (w.withFollow "special-get-raises" true) 8950 os).map (fun s=>(cJ w s).2.2.1)=some true:=by
 unfold cJ;rw[PySem.W.Fast.te4187177175401517315,PySem.W.Fast.te5923862056798008813,PySem.W.Fast.te14364793385576792824,PySem.W.Fast.te5078774184982237980];kernel_rfl
open PySem.W PyProof.Rows in
set_option maxRecDepth 100000 in
set_option maxHeartbeats 0 in
theorem By(w:M5) (os:Np):(HdT.ends MQ (LV PW93.main.body) PW93 (w.withFollow "special-get-raises" true) 8950 os).map (fun s=>((cJ w s).2.2.2.1,(cJ w s).2.2.2.2.1))=some (true,pinGoodD (drecsOf (Mg PW93 [0,2,3,4,5,6,7,8,9,10,11,12,14,15,16,17,19,20,21,22,23,24,25,26,27,28,29,30,31,33,34,35,36,37,38,39,40,41,43,44,46,48,49,50,51,52,53,54,55,56,57,58,59,60,61,62,63,64,65,66,67,68,69]))):=by
 unfold cJ;rw[PySem.W.Fast.te4187177175401517315,PySem.W.Fast.te5923862056798008813,PySem.W.Fast.te14364793385576792824,PySem.W.Fast.te5078774184982237980];kernel_rfl
open PySem.W PyProof.Rows in
set_option maxRecDepth 100000 in
set_option maxHeartbeats 0 in
theorem Bx(w:M5) (os:Np):(HdT.ends MQ (LV PW93.main.body) PW93 (w.withFollow "special-get-raises" true) 8950 os).map (fun s=>((cJ w s).2.2.2.2.2.1,(cJ w s).2.2.2.2.2.2.1,(cJ w s).2.2.2.2.2.2.2.1,(cJ w s).2.2.2.2.2.2.2.2))=some (plainGoodE (Mg PW93 [0,2,3,4,5,6,7,8,9,10,11,12,14,15,16,17,19,20,21,22,23,24,25,26,27,28,29,30,31,33,34,35,36,37,38,39,40,41,43,44,46,48,49,50,51,52,53,54,55,56,57,58,59,60,61,62,63,64,65,66,67,68,69]) (looseW (Mg PW93 [0,2,3,4,5,6,7,8,9,10,11,12,14,15,16,17,19,20,21,22,23,24,25,26,27,28,29,30,31,33,34,35,36,37,38,39,40,41,43,44,46,48,49,50,51,52,53,54,55,56,57,58,59,60,61,62,63,64,65,66,67,68,69]) ["PIECES_WRITTEN"]),plainGoodD (Mg PW93 [0,2,3,4,5,6,7,8,9,10,11,12,14,15,16,17,19,20,21,22,23,24,25,26,27,28,29,30,31,33,34,35,36,37,38,39,40,41,43,44,46,48,49,50,51,52,53,54,55,56,57,58,59,60,61,62,63,64,65,66,67,68,69]) ["PIECES_WRITTEN"],wideGood (Mg PW93 [0,2,3,4,5,6,7,8,9,10,11,12,14,15,16,17,19,20,21,22,23,24,25,26,27,28,29,30,31,33,34,35,36,37,38,39,40,41,43,44,46,48,49,50,51,52,53,54,55,56,57,58,59,60,61,62,63,64,65,66,67,68,69]),clsGoodW (Mg PW93 [0,2,3,4,5,6,7,8,9,10,11,12,14,15,16,17,19,20,21,22,23,24,25,26,27,28,29,30,31,33,34,35,36,37,38,39,40,41,43,44,46,48,49,50,51,52,53,54,55,56,57,58,59,60,61,62,63,64,65,66,67,68,69]) ["PIECES_WRITTEN"]):=by
 unfold cJ;rw[PySem.W.Fast.te4187177175401517315,PySem.W.Fast.te5923862056798008813,PySem.W.Fast.te14364793385576792824,PySem.W.Fast.te5078774184982237980];kernel_rfl
theorem seentrue(w:M5) (os:Np):(HdT.ends MQ (LV PW93.main.body) PW93 (w.withFollow "special-get-raises" true) 8950 os).map (fun s=>Pf (Mg PW93 [0,2,3,4,5,6,7,8,9,10,11,12,14,15,16,17,19,20,21,22,23,24,25,26,27,28,29,30,31,33,34,35,36,37,38,39,40,41,43,44,46,48,49,50,51,52,53,54,55,56,57,58,59,60,61,62,63,64,65,66,67,68,69]) ["PIECES_WRITTEN"] (LV PW93.main.body) (fun s=>ON (Mg PW93 [0,2,3,4,5,6,7,8,9,10,11,12,14,15,16,17,19,20,21,22,23,24,25,26,27,28,29,30,31,33,34,35,36,37,38,39,40,41,43,44,46,48,49,50,51,52,53,54,55,56,57,58,59,60,61,62,63,64,65,66,67,68,69]) [] s && Ox [] s) true s)=some (RJ (Mg PW93 [0,2,3,4,5,6,7,8,9,10,11,12,14,15,16,17,19,20,21,22,23,24,25,26,27,28,29,30,31,33,34,35,36,37,38,39,40,41,43,44,46,48,49,50,51,52,53,54,55,56,57,58,59,60,61,62,63,64,65,66,67,68,69]) ["PIECES_WRITTEN"]):=HdT.cut4 (F:=fun s=>cJ w s) (BA w os) (Bz w os) (By w os) (Bx w os)
set_option maxRecDepth 100000 in
set_option maxHeartbeats 0 in
theorem hooktrue(w:M5) (os:Np):(HdT.ends MQ (LV PW93.main.body) PW93 (w.withFollow "special-get-raises" true) 8950 os).map (fun s=>asl.map s.heap.get?)=some ((pre.heap_1 (w.withFollow "special-get-raises" true).params).map fun p=>some p.2):=by
 unfold asl;rw[PySem.W.Fast.te5923862056798008813,PySem.W.Fast.te14364793385576792824,PySem.W.Fast.te5078774184982237980];kernel_rfl
theorem hooks:TY PW93 qv ["PIECES_WRITTEN"] (fun s=>ON qv [] s && Ox [] s) (fun s=>asl.map s.heap.get?) (fun w=>(pre.heap_1 w.params).map fun p=>some p.2) 8950 :=
 booted (PySem.W.byRow2 "special-get-raises" (fun w=>fun os=>by
  obtain⟨s,e,a⟩:=Ln.mp (seenfalse w os)
  have b:=hookfalse w os
  rw[e] at b ⊢
  exact congrArg some (OT a (LF b))) (fun w=>fun os=>by
  obtain⟨s,e,a⟩:=Ln.mp (seentrue w os)
  have b:=hooktrue w os
  rw[e] at b ⊢
  exact congrArg some (OT a (LF b))))
end K93H
set_option Elab.async false
set_option linter.all false
set_option maxRecDepth 100000
set_option maxHeartbeats 4000000
set_option Elab.async false
set_option linter.all false
set_option maxRecDepth 100000
namespace L2
open PySem PySem.Spec PyProof.Rows
abbrev Key:=Sum Int Str
def wU:Key->K_->Bool
 |.inl k,v=>K_.isInt k v
 |.inr x,v=>VZ x v
def JR(w:LL):Key->Int
 |.inl k=>hashInt k
 |.inr x=>hashStr w x
theorem bW:∀{k:Key} {v:K_},wU k v=true->(∃i t,k=QT i/\v=RK i t)\/(∃x t,k=TF x/\v=QY x t)
 |.inl i,v,h=>by
  obtain⟨t,e⟩:=K_.isInt_shape (k:=i) (v:=v) h;exact .inl ⟨i,t,rfl,e⟩
 |.inr x,v,h=>by
  obtain⟨t,e⟩:=K_.isStrOf_shape (x:=x) (v:=v) h;exact .inr ⟨x,t,rfl,e⟩
theorem zV(i:Int)(t:Tok):wU (.inl i) (.int i t)=true:=by simp[wU,K_.isInt]
theorem zU(x:Str)(t:Tok):wU (.inr x) (.str x t)=true:=by simp[wU,VZ]
theorem HY(a b:Int):decide ((QT a:Key)=QT b)=(a == b):=by
 by_cases e:a=b
 ·subst e;simp
 ·have h : ¬ (QT a:Key)=QT b:=fun q=>e (QT.inj q)
  rw[decide_eq_false h];exact(beq_eq_false_iff_ne.mpr e).symm
theorem HV(a b:Str):decide ((TF a:Key)=TF b)=decide (a=b):=by
 by_cases e:a=b
 ·subst e;simp
 ·have h : ¬ (TF a:Key)=TF b:=fun q=>e (Vz q)
  rw[decide_eq_false h,decide_eq_false e]
theorem HX(a:Int)(b:Str):decide ((QT a:Key)=TF b)=false:=decide_eq_false (fun q=>nomatch q)
theorem HW(a:Str)(b:Int):decide ((TF a:Key)=QT b)=false:=decide_eq_false (fun q=>nomatch q)
def cb(prog:LA)(w:LL):PySem.KeyKind prog w Key where
 is:=wU
 hash:=JR w
 inj:=fun v a b ha hb=>by
  rcases bW ha with⟨i,t,rfl,rfl⟩|⟨x,t,rfl,rfl⟩
  ·rcases bW hb with⟨j,u,rfl,e⟩|⟨y,u,rfl,e⟩
   ·injection e with e1 _;rw[e1]
   ·exact nomatch e
  ·rcases bW hb with⟨j,u,rfl,e⟩|⟨y,u,rfl,e⟩
   ·exact nomatch e
   ·injection e with e1 _;rw[e1]
 byValue:=fun k v h=>by
  rcases bW h with⟨i,t,rfl,rfl⟩|⟨x,t,rfl,rfl⟩ <;> rfl
 pyHash:=fun hv h=>by
  rcases bW hv with⟨i,t,rfl,rfl⟩|⟨x,t,rfl,rfl⟩
  ·exact wpAny_pyHash_int h
  ·exact wpAny_pyHash_str h
 eqBool:=fun hu hv h=>by
  rcases bW hu with⟨i,t,rfl,rfl⟩|⟨x,t,rfl,rfl⟩
  ·rcases bW hv with⟨j,u,rfl,rfl⟩|⟨y,u,rfl,rfl⟩
   ·rw[HY] at h;exact wpAny_eqBool_int h
   ·rw[HX] at h;exact Uo.int_str i t y u _ _ _ _ h
  ·rcases bW hv with⟨j,u,rfl,rfl⟩|⟨y,u,rfl,rfl⟩
   ·rw[HW] at h;exact Uo.str_int x t j u _ _ _ _ h
   ·rw[HV] at h;exact wpAny_eqBool_str h
 «strs»:=fun k x t v h=>by
  rcases bW h with⟨i,u,rfl,e⟩|⟨y,u,rfl,e⟩
  ·exact nomatch e
  ·injection e with e1 _
   subst e1;cases v <;> rfl
theorem uu(prog:LA)(w:LL)(i:Int)(t:Tok):(cb prog w).is (.inl i) (.int i t)=true:=zV i t
theorem cB(prog:LA)(w:LL)(x:Str)(t:Tok):(cb prog w).is (.inr x) (.str x t)=true:=zU x t
inductive V where
 |non|bl (b:Bool)|int (i:Int)|str (x:Str)|byt (b:Array UInt8)|flt (b:UInt64)|ref (a:Addr)|ty (n:String)
 deriving DecidableEq
def RelV:V->K_->Prop
 |.non,u=>u=Ms
 |.bl b,u=>u=Q0 b
 |.int i,u=>∃t,u=RK i t
 |.str x,u=>∃t,u=QY x t
 |.byt b,u=>∃t,u=K_.bytes b t
 |.flt b,u=>∃t,u=VA b t
 |.ref a,u=>u=LH a
 |.ty n,u=>u=N0 n
abbrev Vals:List V->List K_->Prop:=Paired RelV
theorem Vals.length(r:Vals xs us):xs.length=us.length:=N6 r
theorem Vals.get:∀{xs:List V} {us:List K_} {i:Nat} {x:V},Vals xs us->xs[i]?=some x->∃u,us[i]?=some u/\RelV x u
 |_,_,_,_,.nil,e=>by simp at e
 |_,_,0,_,.cons r _,e=>by simp at e;subst e;exact⟨_,rfl,r⟩
 |_,_,i+1,x,.cons _ t,e=>by
  obtain⟨u,h1,h2⟩:=Vals.get (i:=i) (x:=x) t (by simpa using e);exact⟨u,by simpa using h1,h2⟩
theorem Vals.set{x:V}{u:K_}(r:RelV x u):∀{xs:List V} {us:List K_} (i:Nat),Vals xs us->Vals (xs.set i x) (us.set i u)
 |_,_,_,.nil=>.nil
 |_,_,0,.cons _ t=>.cons r t
 |_,_,i+1,.cons q t=>.cons q (Vals.set r i t)
theorem Vals.append:∀{xs ys:List V} {us ws:List K_},Vals xs us->Vals ys ws->Vals (xs++ys) (us++ws)
 |_,_,_,_,.nil,s=>s
 |_,_,_,_,.cons r t,s=>.cons r (Vals.append t s)
theorem Vals.take:∀{xs:List V} {us:List K_} (n:Nat),Vals xs us->Vals (xs.take n) (us.take n)
 |_,_,0,_=>.nil
 |_,_,_+1,.nil=>.nil
 |_,_,n+1,.cons r t=>.cons r (Vals.take n t)
theorem Vals.drop:∀{xs:List V} {us:List K_} (n:Nat),Vals xs us->Vals (xs.drop n) (us.drop n)
 |_,_,0,r=>r
 |_,_,_+1,.nil=>.nil
 |_,_,n+1,.cons _ t=>Vals.drop n t
def RelO:Option V->Option K_->Prop
 |some v,some u=>RelV v u
 |none,none=>True
 |_,_=>False
def KV{κ:Type}:List (κ×V)->List (κ×K_)->Prop:=Paired fun(p:κ×V) (q:κ×K_)=>p.1=q.1/\RelV p.2 q.2
def kV:Key->V
 |.inl i=>.int i
 |.inr x=>.str x
inductive HO where
 |lst (xs:List V)
 |tup (xs:List V)
 |dK (fx:List (Key×V))|dT (fx:List (List Key×V))
 |set (S:Int->Bool) (n:Nat)
 |ins (C dx:Addr) (fs:List (Str×V))
 |own (x:Addr)
 |xd (fs:List (Str×V))
 |met (f x:Addr)
 |rng (lo hi:Int)
 |frz (o:Obj) (u:HO)
 |tbl (ps:Array K_)
 |ext (φ:Heap->Prop)
abbrev Hp:=Addr->Option HO
def upd(H:Hp)(a:Addr)(o:HO):Hp:=fun b=>if b=a then some o else H b
theorem am:upd H a o a=some o:=by unfold upd;rw[if_pos rfl]
theorem aC{a b:Addr}(h:b≠a):upd H a o b=H b:=by unfold upd;rw[if_neg h]
theorem EC:upd (upd H a o) a u=upd H a u:=by
 funext b;unfold upd;split <;> rfl
theorem CB{H:Hp}{o u:HO}(h:H a=some o)(h':H b=some u)(d:o≠u):a≠b:=by
 intro e;subst e;rw[h] at h';exact d (LF h')
theorem au{H:Hp}{o:HO}(h:H a=some o)(h':H b=none):a≠b:=by
 intro e;subst e;rw[h] at h';cases h'
def TupD (h:Heap) (a:Addr) (items:Array K_):Prop:=∃o,h.get? a=some o/\(o.cls=.type "tuple"/\∃n,o.data=.seq items n)/\o.dict=none
theorem TupD.tup{h:Heap}{a:Addr}{items:Array K_}(t:TupD h a items):IsTup h a items:=let ⟨o,e,c,_⟩:=t;⟨o,e,c⟩
theorem TupD.lt(t:TupD h a items):a<h.objs.size:=t.tup.lt
theorem TupD.new(h:Heap) (items:Array K_):TupD (h.push {cls:=.type "tuple",data:=.seq items}) h.objs.size items:=⟨_,Lu _ rfl,⟨rfl,_,rfl⟩,rfl⟩
section
variable(P:LA)(w:LL)
def ci(H:Hp)(h:Heap)(a:Addr):HO->Prop
 |.lst xs=>xs.length<=sizeLine/\∃(fm:List K_) (n:Nat),Vals xs fm/\h.get? a=some {cls:=.type "list",data:=.seq fm.toArray n}
 |.tup xs=>xs.length<=sizeLine/\∃fm:List K_,Vals xs fm/\TupD h a fm.toArray
 |.dK fx=>fx.length<=sizeLine/\(a == sysModules)=false/\∃vs,KV fx vs/\h.DictOf (cb P w) a vs
 |.dT fx=>fx.length<=sizeLine/\(a == sysModules)=false/\∃xs:List (List Key×Addr×K_),
   Paired (fun(p:List Key×V) (q:List Key×Addr×K_)=>p.1=q.1/\H q.2.1=some (.tup (p.1.map kV))/\RelV p.2 q.2.2) fx xs /\
   ∃o es ep,h.get? a=some o/\o.ExactDict/\o.data=.dict es ep/\es.toList=xs.map (entryOfKey (tupleKind (cb P w)))/\(xs.map (·.1)).Nodup
 |.set S n=>h.SetOf (intKind P w) a S n
 |.ins C dx fs=>H dx=some (.own a)/\fs.length<=1000/\dx≠a/\h.get? a=some (N1 C dx) /\
   ∃mA,h.Ns1 dx mA/\(∀f,RelO (fs.lookup f) (mA f))/\R5 mA (fs.map (·.1))
 |.own _=>∃o,h.get? a=some o
 |.xd fs=>∃mA,h.Ns1 a mA/\∀f,RelO (fs.lookup f) (mA f)
 |.rng lo hi=>∃t u v,h.get? a=some {cls:=.type "range",data:=.fields #[.int lo t,.int hi u,.int 1 v]}
 |.frz o u=>h.get? a=some o/\ci H h a u
 |.tbl ps=>h.get? a=some {cls:=.none,data:=.fields ps}
 |.met f x=>h.get? a=some (Rm (.ref f) (.ref x))
 |.ext φ=>φ h/\(∃o,h.get? a=some o)/\∀h1 h2:Heap,φ h1->(∀o,h1.get? a=some o->h2.get? a=some o)->φ h2
def HOk(H:Hp)(h:Heap):Prop:=∀a o,H a=some o->ci P w H h a o
end
section
variable{P:LA}{w:LL}{H H':Hp}{h h':Heap}{a:Addr}{o:HO}
theorem ci.lt(x:ci P w H h a o):a<h.objs.size:=by
 cases o with
 |lst xs=>obtain⟨_,_,_,_,e⟩:=x;exact Lm e
 |tup xs=>obtain⟨_,_,_,p⟩:=x;exact p.lt
 |dK fx=>obtain⟨_,_,_,_,o,_,_,e,_⟩:=x;exact Lm e
 |dT fx=>obtain⟨_,_,_,_,o,_,_,e,_⟩:=x;exact Lm e
 |set S n=>obtain⟨o,_,_,_,e,_⟩:=x;exact Lm e
 |ins C dx fs=>obtain⟨_,_,_,e,_⟩:=x;exact Lm e
 |own y=>obtain⟨_,e⟩:=x;exact Lm e
 |xd fs=>obtain⟨_,⟨_,_,_,e,_⟩,_⟩:=x;exact Lm e
 |rng lo hi=>obtain⟨_,_,_,e⟩:=x;exact Lm e
 |frz ob u=>obtain⟨e,_⟩:=x;exact Lm e
 |tbl ps=>exact Lm (show h.get? a=some _ from x)
 |met f y=>exact Lm (show h.get? a=some _ from x)
 |ext φ=>obtain⟨_,⟨_,e⟩,_⟩:=x;exact Lm e
theorem Paired.mapP{α β:Type}{F G:α->β->Prop}:∀{l₁:List α} {l₂:List β},Paired F l₁ l₂->(∀a b,F a b->G a b)->Paired G l₁ l₂
 |_,_,.nil,_=>.nil
 |_,_,.cons r t,f=>.cons (f _ _ r) (Paired.mapP t f)
theorem ci.stay(x:ci P w H h a o)(k:∀b u,(b=a\/H b=some (.own a))->h.get? b=some u->h'.get? b=some u)
  (ho:∀b,H b=some (.own a)->H' b=some (.own a)) (ht:∀b xs,H b=some (.tup xs)->H' b=some (.tup xs)):ci P w H' h' a o:=by
 induction o with
 |lst xs=>obtain⟨z,fm,n,r,e⟩:=x;exact⟨z,fm,n,r,k _ _ (.inl rfl) e⟩
 |tup xs=>obtain⟨z,fm,r,ob,e,c⟩:=x;exact⟨z,fm,r,ob,k _ _ (.inl rfl) e,c⟩
 |dK fx=>obtain⟨z,y,vs,r,ob,es,ep,e,c⟩:=x;exact⟨z,y,vs,r,ob,es,ep,k _ _ (.inl rfl) e,c⟩
 |dT fx =>
  obtain⟨z,y,xs,r,ob,es,ep,e,c⟩:=x;exact⟨z,y,xs,Paired.mapP r fun p q z=>⟨z.1,ht _ _ z.2.1,z.2.2⟩,ob,es,ep,k _ _ (.inl rfl) e,c⟩
 |set S n=>obtain⟨ob,es,ep,t,e,c⟩:=x;exact⟨ob,es,ep,t,k _ _ (.inl rfl) e,c⟩
 |ins C dx fs =>
  obtain⟨d,z,ne,e,mA,⟨od,es,ep,e2,c⟩,r⟩:=x;exact⟨ho _ d,z,ne,k _ _ (.inl rfl) e,mA,⟨od,es,ep,k _ _ (.inr d) e2,c⟩,r⟩
 |own y=>obtain⟨ob,e⟩:=x;exact⟨ob,k _ _ (.inl rfl) e⟩
 |xd fs=>obtain⟨mA,⟨od,es,ep,e,c⟩,r⟩:=x;exact⟨mA,⟨od,es,ep,k _ _ (.inl rfl) e,c⟩,r⟩
 |rng lo hi=>obtain⟨t,u,v,e⟩:=x;exact⟨t,u,v,k _ _ (.inl rfl) e⟩
 |frz ob u ih=>obtain⟨e,q⟩:=x;exact⟨k _ _ (.inl rfl) e,ih q⟩
 |tbl ps =>
  have e:h.get? a=some {cls:=.none,data:=.fields ps}:=x;show h'.get? a=some {cls:=.none,data:=.fields ps};exact k a _ (.inl rfl) e
 |met f y =>
  have e:h.get? a=some (Rm (.ref f) (.ref y)):=x;show h'.get? a=some (Rm (.ref f) (.ref y));exact k a _ (.inl rfl) e
 |ext φ=>obtain⟨p,⟨o,e⟩,st⟩:=x;exact⟨st _ _ p fun o q=>k _ _ (.inl rfl) q,⟨o,k _ _ (.inl rfl) e⟩,st⟩
theorem HOk.lt(x:HOk P w H h)(e:H a=some o):a<h.objs.size:=(x a o e).lt
theorem HOk.fresh(x:HOk P w H h)(e:h.objs.size<=a):H a=none:=by
 cases q:H a with
 |none=>rfl
 |some u=>exact absurd (LR (x.lt q) e) (Oy _)
theorem HOk.kept(x:HOk P w H h)(k:∀b u,h.get? b=some u->h'.get? b=some u):HOk P w H h':=fun a o e =>
 (x a o e).stay (fun b u _ q=>k b u q) (fun _ q=>q) fun _ _ q=>q
theorem HOk.laid(x:HOk P w H h)(k:∀b u,h.get? b=some u->h'.get? b=some u)(hp:h.objs.size<=a)(new:ci P w (upd H a o) h' a o):HOk P w (upd H a o) h':=fun b u e=>by
 have hn:=x.fresh hp;by_cases hb:b=a
 ·subst hb;rw[am] at e;cases e;exact new
 ·rw[aC hb] at e;exact(x b u e).stay (fun c v _ q=>k c v q) (fun c q=>by rw[aC (au q hn)];exact q) fun c xs q=>by rw[aC (au q hn)];exact q
end
def Rd(H:Hp)(a:Addr)(u:HO):Prop:=H a=some u\/∃o,H a=some (.frz o u)
theorem Rd.ok(r:Rd H a u)(x:HOk P w H h):ci P w H h a u:=by
 rcases r with r|⟨o,r⟩
 ·exact x a u r
 ·obtain⟨_,q⟩:=x a _ r;exact q
def Jd:Option HO->Prop
 |some (.lst _)=>True
 |some (.dK _)=>True
 |some (.dT _)=>True
 |some (.set _ _)=>True
 |some (.ins _ _ _)=>True
 |some (.ext _)=>True
 |_=>False
section
variable{P:LA}{w:LL}{H:Hp}{h h':Heap}{x e:Addr}{o':HO}
theorem HOk.write(ok:HOk P w H h)(mu:Jd (H x))(he:e=x\/H e=some (.own x))(k:∀b u,b≠e->h.get? b=some u->h'.get? b=some u)(Zs:∃u,h'.get? e=some u)
  (new:ci P w (upd H x o') h' x o'):HOk P w (upd H x o') h':=fun b u q=>by
 have nown:∀c y,H c=some (.own y)->c≠x:=fun c y r z=>by subst z;rw[r] at mu;exact mu
 have ntup:∀c xs,H c=some (.tup xs)->c≠x:=fun c xs r z=>by subst z;rw[r] at mu;exact mu
 by_cases hb:b=x
 ·subst hb;rw[am] at q;cases q;exact new
 ·rw[aC hb] at q;by_cases XU:b=e
  ·have q':H b=some (.own x):=by
    rcases he with z|z
    ·exact absurd (XU.trans z) hb
    ·rw[XU];exact z
   rw[q] at q';cases q';obtain⟨v,hv⟩:=Zs;exact⟨v,by rw[XU];exact hv⟩
  ·refine(ok b u q).stay (fun c v hc r=>k c v ?_ r) (fun c r=>by rw[aC (nown c b r)];exact r) fun c xs r=>by rw[aC (ntup c xs r)];exact r
   rcases hc with rfl|hc
   ·exact XU
   ·rintro rfl;rcases he with z|z
    ·exact nown c b hc z
    ·rw[hc] at z;cases z;exact hb rfl
end
structure Un (fs ex:List Addr) (H H':Hp) (h h':Heap):Prop where
 keep:∀b o,h.get? b=some o->H b=none->b∉fs->b∉ex->h'.get? b=some o
 slot:∀b o,h.get? b=some o->H b=none->b∈fs->b∉ex->∃sl,h'.get? b=some {o with slots:=sl}
 free:∀b o,h.get? b=some o->H b=none->b∉ex->H' b=none
 there:∀b o,h.get? b=some o->b∉ex->∃o',h'.get? b=some o'
 tups:∀b xs,H b=some (.tup xs)->H' b=some (.tup xs)
 frzs:∀b o u,H b=some (.frz o u)->H' b=some (.frz o u)
 tbls:∀b ps,H b=some (.tbl ps)->∃more,H' b=some (.tbl (ps++more))
section
variable{fs fs' ex ex':List Addr}{H H1 H2:Hp}{h h1 h2 h':Heap}{a x e:Addr}{o:HO}
theorem Un.any(u:Un fs ex H H1 h h1){b:Addr}{ob:Obj}(q:h.get? b=some ob)(n:H b=none)(hx:b∉ex):∃sl,h1.get? b=some {ob with slots:=sl}:=by
 by_cases hb:b∈fs
 ·exact u.slot b ob q n hb hx
 ·exact⟨ob.slots,u.keep b ob q n hb hx⟩
theorem Un.kept(k:∀b u,h.get? b=some u->h'.get? b=some u):Un fs ex H H h h' :=
 ⟨fun b ob q _ _ _=>k b ob q,fun b ob q _ _ _=>⟨ob.slots,k b ob q⟩,fun _ _ _ n _=>n,fun b ob q _=>⟨ob,k b ob q⟩,fun _ _ q=>q,fun _ _ _ q=>q,fun _ ps q=>⟨#[],by rw[q];simp⟩⟩
theorem Un.refl:Un fs ex H H h h:=Un.kept fun _ _ q=>q
theorem Un.laid(k:∀b u,h.get? b=some u->h'.get? b=some u)(hp:h.objs.size<=a)(hn:H a=none):Un fs ex H (upd H a o) h h' where
 keep:=fun b u q _ _ _=>k b u q
 slot:=fun b u q _ _ _=>⟨u.slots,k b u q⟩
 free:=fun b u q n _=>by rw[aC (Lh (LR (Lm q) hp))];exact n
 there:=fun b u q _=>⟨u,k b u q⟩
 tups:=fun b xs q=>by rw[aC (au q hn)];exact q
 frzs:=fun b u xs q=>by rw[aC (au q hn)];exact q
 tbls:=fun b ps q=>⟨#[],by rw[aC (au q hn),q];simp⟩
theorem Un.write(mu:Jd (H x))(he:e=x\/H e=some (.own x))(k:∀b u,b≠e->h.get? b=some u->h'.get? b=some u)(Zs:∃u,h'.get? e=some u):Un fs ex H (upd H x o) h h':=by
 have hx:∀b,H b=none->b≠x:=fun b n z=>by subst z;rw[n] at mu;exact mu
 have hb:∀b,H b=none->b≠e:=fun b n z=>by
  subst z;rcases he with r|r
  ·exact hx b n r
  ·rw[n] at r;cases r
 have hm:∀b u,H b=some u->¬ Jd (some u)->b≠x:=fun b u q nm z=>by subst z;rw[q] at mu;exact nm mu
 refine⟨fun b u q n _ _=>k b u (hb b n) q,fun b u q n _ _=>⟨u.slots,k b u (hb b n) q⟩,fun b u q n _=>by rw[aC (hx b n)];exact n,fun b u q _=>?_,
  fun b xs q=>by rw[aC (hm b _ q fun z=>z)];exact q,fun b u xs q=>by rw[aC (hm b _ q fun z=>z)];exact q,fun b ps q=>⟨#[],by rw[aC (hm b _ q fun z=>z),q];simp⟩⟩
 by_cases XU:b=e
 ·subst XU;exact Zs
 ·exact⟨u,k b u XU q⟩
end
def Jp(h:Heap)(H:Hp):List Addr:=(Nh h.objs.size).filter fun a=>(H a).isSome
def pI(h:Heap)(H:Hp):Heap:=OU h (Jp h H)
theorem Ao(h:Heap)(H:Hp):(pI h H).objs.size=h.objs.size:=PySem.W.hideAll_size _ _
theorem CY{h:Heap}{H:Hp}{b:Addr}{o:Obj}(e:h.get? b=some o)(n:H b=none):(pI h H).get? b=some o :=
 TM _ e fun hm=>by
  have q:(H b).isSome=true:=(M0.mp hm).2;rw[n] at q;simp at q
theorem FO{b:Addr}{o:Obj}(e:(pI h H).get? b=some o):h.get? b=some o/\H b=none:=by
 have e':h.get? b=some o:=Q1 (Jp h H) e;refine⟨e',?_⟩;cases q:H b with
 |none=>rfl
 |some x =>
  have hm:b∈Jp h H:=M0.mpr ⟨NS.mpr (Lm e'),by simp[q]⟩;have z:(pI h H).get? b=none:=PySem.W.hideAll_none (Jp h H) hm;rw[z] at e;cases e
structure Mod (K:Fg) (mg:Str->Option K_) (base:Heap):Prop where
 kin:K.In base
 glob:base.Ns mainGlobals mg
 blt:∃mb,base.Ns builtinsNs mb/\∀x:Str,x≠"__name__"->mb x=bootBuiltins x
 nolimit:base.NoLimit
structure Cx where
 prog:LA
 w:LL
 K:Fg
 mg:Str->Option K_
 base:Heap
 A:L4
 N:List Str
 s₀:Lf
 H₀:Hp
 env:Env
 outer:List Env
 stack:List Env
 ex:List Addr
 fn:Str->Bool
 calm:Bool
 pn:List (Addr×Obj)
 xe:K_->Lf->Prop
def frs(l:List Env):List Addr:=l.filterMap (·.frame)
abbrev Cx.fs(X:Cx):List Addr:=frs X.outer
def Jt(sc:Scope)(x:Str):Prop:=sc.names.lookup x=some .local\/sc.names.lookup x=some .cell\/sc.names.lookup x=some .free
def Loc(sc:Scope)(x:Str):Prop:=sc.names.lookup x=some .local\/sc.names.lookup x=some .cell
def Look(env:Env)(h:Heap)(m:Str->Option K_)(x:Str)(u:K_):Prop :=
 (env.kindOf x=some .local/\m x=some u)\/((env.kindOf x=some .cell\/env.kindOf x=some .free)/\∃c,env.cells.lookup x=some c/\h.IsCell c (some u))
structure Cx.Ok (X:Cx):Prop where
 mod:Mod X.K X.mg X.base
 kind:X.env.scope.kind=.function
 glob:X.env.globals=mainGlobals
 blt:X.env.builtins=builtinsNs
 above:X.s₀.heap.objs.size<=X.env.locals
 inj:∀x y c,X.env.cells.lookup x=some c->X.env.cells.lookup y=some c->x=y
 has:∀x,(X.env.kindOf x=some .cell\/X.env.kindOf x=some .free)->∃c,X.env.cells.lookup x=some c
 cab:∀x c,X.fn x=true->X.env.cells.lookup x=some c->X.s₀.heap.objs.size<=c
 hd:X.calm=true->X.A.handled=none
 frames:X.A.frames=some X.stack
 stk:X.stack=X.outer\/(X.stack=X.env :: X.outer/\X.env.frame=some X.env.locals)
 exf:∀b∈X.ex,b≠X.env.locals/\∀x c,X.env.cells.lookup x=some c->c≠b
 bs:∀b o,X.base.get? b=some o->X.s₀.heap.get? b=some o/\X.H₀ b=none
 bsz:X.base.objs.size<=X.s₀.heap.objs.size
 noex:∀b o,X.base.get? b=some o->b∉X.ex
 exfs:∀b∈X.ex,b∉X.fs
 funs:X.s₀.heap.FunFrames X.base X.outer
 frf:∀b∈X.fs,X.H₀ b=none
structure Inv (X:Cx) (pins:List (Addr×Obj)) (σ:List (Option V)) (H:Hp) (s:Lf):Prop where
 ok:X.Ok
 os:s.os=X.s₀.os
 bare:Qu s.gens
 base:Un X.fs X.ex X.H₀ H X.s₀.heap s.heap
 loc:∃m,s.heap.Ns X.env.locals m/\∀(i:Nat) (x:Str) (v:V),X.N[i]?=some x->σ[i]?=some (some v)->Jt X.env.scope x->∃u,RelV v u/\Look X.env s.heap m x u
 cell:∀x c,X.env.cells.lookup x=some c->∃v,s.heap.IsCell c v
 free:H X.env.locals=none
 freeC:∀x c,X.env.cells.lookup x=some c->H c=none
 pin:∀p∈X.pn++pins,s.heap.get? p.1=some p.2/\H p.1=none/\p.1≠X.env.locals/\p.1∉X.fs/\∀v,p.2.data≠.cell v
 hok:HOk X.prog X.w H s.heap
 len:σ.length=X.N.length
section
variable{X:Cx}{pins:List (Addr×Obj)}{σ:List (Option V)}{H H':Hp}{s:Lf}{h':Heap}
theorem Cx.Ok.nofr(ok:X.Ok){b:Addr}{o:Obj}(e:X.base.get? b=some o):b∉X.fs:=fun hb=>by
 have:=(ok.funs.mem hb).1
 rw[e] at this;cases this
theorem Inv.bs(I:Inv X pins σ H s):∀b o,X.base.get? b=some o->s.heap.get? b=some o/\H b=none:=fun b o e =>
 ⟨I.base.keep b o (I.ok.bs b o e).1 (I.ok.bs b o e).2 (I.ok.nofr e) (I.ok.noex b o e),I.base.free b o (I.ok.bs b o e).1 (I.ok.bs b o e).2 (I.ok.noex b o e)⟩
theorem Inv.bk(I:Inv X pins σ H s):∀b o,X.base.get? b=some o->s.heap.get? b=some o:=fun b o e=>(I.bs b o e).1
theorem Inv.mod(I:Inv X pins σ H s):Mod X.K X.mg X.base:=I.ok.mod
theorem Inv.kIn(I:Inv X pins σ H s):X.K.In s.heap:=I.ok.mod.kin.keeps I.bk
theorem Inv.lt(I:Inv X pins σ H s):X.env.locals<s.heap.objs.size:=let ⟨_,hn,_⟩:=I.loc;hn.lt
theorem Inv.sz(I:Inv X pins σ H s):X.s₀.heap.objs.size<=s.heap.objs.size:=Mh I.ok.above (MC I.lt)
theorem Inv.nofs(I:Inv X pins σ H s){a:Addr}(h:s.heap.objs.size<=a):a∉X.fs:=fun hb=>by
 obtain⟨_,o,ho,_⟩:=I.ok.funs.mem hb;exact absurd (LR (Lm ho) (Mh I.sz h)) (Oy _)
theorem Inv.cne(I:Inv X pins σ H s):∀x c,X.env.cells.lookup x=some c->c≠X.env.locals:=fun x c e z=>by
 obtain⟨v,o,ho,hd⟩:=I.cell x c e;obtain⟨m,⟨o',es,ep,XE,X6,_⟩,_⟩:=I.loc;rw[z,XE] at ho;cases ho;rw[X6] at hd;cases hd
theorem Inv.funs(I:Inv X pins σ H s):s.heap.FunFrames X.base X.outer:=by
 have all:∀(l:List Env),(∀b∈frs l,b∈X.fs)->X.s₀.heap.FunFrames X.base l->s.heap.FunFrames X.base l:=by
  intro l
  induction l with
  |nil=>intro _ _;trivial
  |cons env r ih =>
   intro hs hl;obtain⟨hk,⟨L,o,hf,hn,ho,hd⟩,hr⟩:=hl;have hL:L∈X.fs:=hs L (by unfold frs;rw[M6,hf];exact Lz);obtain⟨sl,e⟩:=I.base.slot L o ho (I.ok.frf L hL) hL fun z=>I.ok.exfs L z hL
   exact⟨hk,⟨L,_,hf,hn,e,hd⟩,ih (fun b hb=>hs b (by unfold frs;rw[M6,hf];exact Ly _ hb)) hr⟩
 exact all X.outer (fun _ hb=>hb) I.ok.funs
theorem Inv.stack(I:Inv X pins σ H s):s.heap.FunFrames X.base X.stack:=by
 rcases I.ok.stk with e|⟨e,hf⟩
 ·rw[e];exact I.funs
 ·rw[e];obtain⟨m,hn,_⟩:=I.loc;refine .cons (by rw[I.ok.kind];decide) hf hn ?_ I.funs;exact Qx (Mh I.ok.bsz I.ok.above)
theorem Inv.x_(I:Inv X pins σ H s):∀b∈frs X.stack,b∈X.env.locals :: X.fs:=fun b hb=>by
 rcases I.ok.stk with e|⟨e,hf⟩
 ·rw[e] at hb;exact Ly _ hb
 ·rw[e] at hb;unfold frs at hb;rw[M6,hf] at hb;exact hb
theorem Inv.jO(I:Inv X pins σ H s):∀b∈frs X.stack,H b=none:=fun b hb=>by
 rcases Lj.mp (I.x_ b hb) with e|hb
 ·rw[e];exact I.free
 ·obtain⟨_,o,ho,_⟩:=I.ok.funs.mem hb;exact I.base.free b o ho (I.ok.frf b hb) fun z=>I.ok.exfs b z hb
theorem Inv.step{t':Nat}{d':Drawn}{ch:List Addr}(I:Inv X pins σ H s)
  (hch:∀b∈ch,(b∈X.ex\/X.s₀.heap.objs.size<=b)/\b≠X.env.locals/\(∀x c,X.env.cells.lookup x=some c->c≠b)/\∀p∈X.pn++pins,p.1≠b)
  (keep:∀b o,b≠X.env.locals->b∉X.fs->b∉ch->s.heap.get? b=some o->H b=none->h'.get? b=some o)
  (slot:∀b o,b≠X.env.locals->b∈X.fs->b∉ch->s.heap.get? b=some o->H b=none->∃sl,h'.get? b=some {o with slots:=sl}) (free:∀b o,b∉ch->s.heap.get? b=some o->H b=none->H' b=none)
  (there:∀b o,b∉ch->s.heap.get? b=some o->∃o',h'.get? b=some o')
  (tups:∀b xs,H b=some (.tup xs)->H' b=some (.tup xs)) (frzs:∀b o u,H b=some (.frz o u)->H' b=some (.frz o u)) (tbls:∀b ps,H b=some (.tbl ps)->∃more,H' b=some (.tbl (ps++more)))
  (ns:∀m,s.heap.Ns X.env.locals m->h'.Ns X.env.locals m) (hok:HOk X.prog X.w H' h') (hg:Qu g') :
  Inv X pins σ H' {s with heap:=h',gens:=g',drawn:=d',toks:=t'}:=by
 have neL:∀b o,X.s₀.heap.get? b=some o->b≠X.env.locals:=fun b o e=>Lh (LR (Lm e) I.ok.above)
 have Y_:∀b o,X.s₀.heap.get? b=some o->b∉X.ex->b∉ch:=fun b o e hx hb=>by
  rcases (hch b hb).1 with z|z
  ·exact hx z
  ·exact absurd (LR (Lm e) z) (Oy _)
 have cellK:∀x c,X.env.cells.lookup x=some c->∀v,s.heap.IsCell c v->h'.IsCell c v:=fun x c e v ⟨o,ho,hd⟩=>by
  have nch:c∉ch:=fun z=>(hch c z).2.2.1 x c e rfl
  by_cases hc:c∈X.fs
  ·obtain⟨sl,q⟩:=slot c o (I.cne x c e) hc nch ho (I.freeC x c e);exact⟨_,q,hd⟩
  ·exact⟨o,keep c o (I.cne x c e) hc nch ho (I.freeC x c e),hd⟩
 refine⟨I.ok,I.os,hg,⟨fun b o e n hb hx=>?_,fun b o e n hb hx=>?_,fun b o e n hx=>?_,fun b o e hx=>?_,fun b xs e=>tups b xs (I.base.tups b xs e),fun b o xs e=>frzs b o xs (I.base.frzs b o xs e),fun b ps e=>?_⟩,?_,fun x c e=>?_,?_,fun x c e=>?_,fun p hp=>?_,hok,I.len⟩
 ·exact keep b o (neL b o e) hb (Y_ b o e hx) (I.base.keep b o e n hb hx) (I.base.free b o e n hx)
 ·obtain⟨sl,e1⟩:=I.base.slot b o e n hb hx;obtain⟨XO,e2⟩:=slot b _ (neL b o e) hb (Y_ b o e hx) e1 (I.base.free b o e n hx);exact⟨XO,e2⟩
 ·obtain⟨o',e1⟩:=I.base.there b o e hx;exact free b o' (Y_ b o e hx) e1 (I.base.free b o e n hx)
 ·obtain⟨o',e1⟩:=I.base.there b o e hx;exact there b o' (Y_ b o e hx) e1
 ·obtain⟨m1,e1⟩:=I.base.tbls b ps e;obtain⟨m2,e2⟩:=tbls b _ e1;exact⟨m1++m2,by rw[e2,Uq]⟩
 ·obtain⟨m,hn,hl⟩:=I.loc;refine⟨m,ns m hn,fun i x v e1 e2 e3=>?_⟩;obtain⟨u,r,l⟩:=hl i x v e1 e2 e3;refine⟨u,r,?_⟩;rcases l with l|⟨k,c,e,z⟩
  ·exact .inl l
  ·exact .inr ⟨k,c,e,cellK x c e _ z⟩
 ·obtain⟨v,z⟩:=I.cell x c e;exact⟨v,cellK x c e v z⟩
 ·obtain⟨m,⟨o,_,_,ho,_⟩,_⟩:=I.loc;exact free _ o (fun z=>(hch _ z).2.1 rfl) ho I.free
 ·obtain⟨v,o,ho,hd⟩:=I.cell x c e;exact free c o (fun z=>(hch c z).2.2.1 x c e rfl) ho (I.freeC x c e)
 ·obtain⟨e,n,ne,nf,d⟩:=I.pin p hp;have nch:p.1∉ch:=fun z=>(hch p.1 z).2.2.2 p hp rfl
  exact⟨keep p.1 p.2 ne nf nch e n,free p.1 p.2 nch e n,ne,nf,d⟩
theorem Inv.un{t':Nat}(I:Inv X pins σ H s)(u:Un X.fs [] H H' s.heap h')(hok:HOk X.prog X.w H' h'):Inv X pins σ H' {s with heap:=h',toks:=t'}:=by
 obtain⟨m,⟨o,es,ep,ho,r⟩,_⟩:=id I.loc;obtain⟨sl,hL⟩:=u.any ho I.free (by simp)
 exact I.step (g':=s.gens) (d':=s.drawn) (ch:=[]) (fun _ z=>nomatch z) (fun b o _ hb _ e n=>u.keep b o e n hb (by simp)) (fun b o _ hb _ e n=>u.slot b o e n hb (by simp)) (fun b o _ e n=>u.free b o e n (by simp)) (fun b o _ e=>u.there b o e (by simp)) u.tups u.frzs u.tbls (fun m' hm=>by
  obtain⟨o',W0,YW,XE,r'⟩:=hm
  rw[ho] at XE;cases XE
  exact⟨_,W0,YW,hL,r'⟩) hok I.bare
theorem Inv.call{t':Nat}{d':Drawn}(I:Inv X pins σ H s)(u:Un (frs X.stack) ch H H' s.heap h')(hok:HOk X.prog X.w H' h')(hg:Qu g')
  (hch:∀b∈ch,(b∈X.ex\/X.s₀.heap.objs.size<=b)/\b≠X.env.locals/\(∀x c,X.env.cells.lookup x=some c->c≠b)/\∀p∈X.pn++pins,p.1≠b) :
  Inv X pins σ H' {s with heap:=h',gens:=g',drawn:=d',toks:=t'}:=by
 obtain⟨m,⟨o,es,ep,ho,r⟩,_⟩:=id I.loc;obtain⟨sl,hL⟩:=u.any ho I.free fun z=>(hch _ z).2.1 rfl
 exact I.step (ch:=ch) hch (fun b o hL hb hc e n=>u.keep b o e n (fun z=>(Lj.mp (I.x_ b z)).elim hL hb) hc) (fun b o _ _ hc e n=>u.any e n hc) (fun b o hc e n=>u.free b o e n hc) (fun b o hc e=>u.there b o e hc) u.tups u.frzs u.tbls (fun m' hm=>by
  obtain⟨o',W0,YW,XE,r'⟩:=hm
  rw[ho] at XE;cases XE
  exact⟨_,W0,YW,hL,r'⟩) hok hg
theorem Inv.turned{t':Nat}{it:Addr}(I:Inv X pins σ H s)(k:∀b o,b≠it->s.heap.get? b=some o->h'.get? b=some o)(hn:H it=none)(hL:it≠X.env.locals)
  (h1:it∈X.ex\/X.s₀.heap.objs.size<=it) (h2:∀x c,X.env.cells.lookup x=some c->c≠it) (h3:∀p∈X.pn++pins,p.1≠it):Inv X pins σ H {s with heap:=h',toks:=t'}:=by
 have nit:∀b u,H b=some u->b≠it:=fun b u e z=>by rw[z,hn] at e;cases e
 refine I.step (g':=s.gens) (d':=s.drawn) (ch:=[it]) (fun b hb=>?_) (fun b o _ _ hc e _=>k b o (fun z=>hc (by simp[z])) e) (fun b o _ _ hc e _=>⟨o.slots,k b o (fun z=>hc (by simp[z])) e⟩) (fun _ _ _ _ n=>n)
  (fun b o hc e=>⟨o,k b o (fun z=>hc (by simp[z])) e⟩) (fun _ _ e=>e) (fun _ _ _ e=>e) (fun b ps e=>⟨#[],by rw[e];simp⟩) (fun m hm=>?_) (fun b u e=>?_) I.bare
 ·have e:b=it:=by simpa using hb
  subst e;exact⟨h1,hL,h2,h3⟩
 ·obtain⟨o,es,ep,ho,r⟩:=hm;exact⟨o,es,ep,k _ o (MO hL) ho,r⟩
 ·refine(I.hok b u e).stay (fun c v hc q=>k c v ?_ q) (fun _ q=>q) fun _ _ q=>q
  rcases hc with z|z
  ·rw[z];exact nit b u e
  ·exact nit c _ z
theorem Inv.tok(I:Inv X pins σ H s)(t:Nat):Inv X pins σ H {s with toks:=t}:=I.un (h':=s.heap) (t':=t) Un.refl I.hok
theorem Inv.kept{t':Nat}(I:Inv X pins σ H s)(k:∀b u,s.heap.get? b=some u->h'.get? b=some u):Inv X pins σ H {s with heap:=h',toks:=t'}:=I.un (Un.kept k) (I.hok.kept k)
theorem Inv.laid{a:Addr}{t':Nat}(I:Inv X pins σ H s)(k:∀b u,s.heap.get? b=some u->h'.get? b=some u)(hp:s.heap.objs.size<=a)(new:ci X.prog X.w (upd H a o) h' a o) :
  Inv X pins σ (upd H a o) {s with heap:=h',toks:=t'}:=I.un (Un.laid k hp (I.hok.fresh hp)) (I.hok.laid k hp new)
theorem Inv.write{e:Addr}{t':Nat}(I:Inv X pins σ H s)(mu:Jd (H x))(he:e=x\/H e=some (.own x))(k:∀b u,b≠e->s.heap.get? b=some u->h'.get? b=some u)(Zs:∃u,h'.get? e=some u)
  (new:ci X.prog X.w (upd H x o) h' x o):Inv X pins σ (upd H x o) {s with heap:=h',toks:=t'}:=I.un (Un.write mu he k Zs) (I.hok.write mu he k Zs new)
theorem Inv.zc{X3:List (Addr×Obj)}(I:Inv X pins σ H s)(h:∀p∈X3,s.heap.get? p.1=some p.2/\H p.1=none/\p.1≠X.env.locals/\p.1∉X.fs/\∀v,p.2.data≠.cell v):Inv X X3 σ H s :=
 ⟨I.ok,I.os,I.bare,I.base,I.loc,I.cell,I.free,I.freeC,fun p hp=>(LZ.mp hp).elim (fun z=>I.pin p (NT _ z)) (h p),I.hok,I.len⟩
theorem o8{N:List Str}(hN:N.Nodup){i j:Nat}{x:Str}(a:N[i]?=some x)(b:N[j]?=some x):i=j:=by
 obtain⟨h1,e1⟩:=Ld.mp a;obtain⟨h2,e2⟩:=Ld.mp b;exact(List.getElem_inj hN).mp (e1.trans e2.symm)
theorem ql{i:Nat}{x:Str}{Q:Unit->Lf->Prop}(I:Inv X pins σ H s)(hN:X.N.Nodup)(hi:X.N[i]?=some x)(hx:Loc X.env.scope x)(r:RelV v u)
  (h:∀s',Inv X pins (σ.set i (some v)) H s'->(∃a,Oo a s.heap s'.heap/\(a=X.env.locals\/X.env.cells.lookup x=some a))->Q () s') (hf:X.fn x=true\/X.env.scope.names.lookup x=some .local:=by first|exact .inl rfl|exact .inr rfl|assumption):wpAny M A (storeName X.env x u) Q E s:=by
 obtain⟨m,hn,hl⟩:=id I.loc;have hcls:(X.env.scope.kind == .class || (X.env.scope.kind == .module && X.env.locals != X.env.globals))=false:=by rw[I.ok.kind];rfl
 have ZW:i<σ.length:=by rw[I.len];exact(Ld.mp hi).1
 have cne:=I.cne
 have tracked:∀{a:Addr} {h':Heap},(∃o,s.heap.get? a=some o/\H a=none)->Oo a s.heap h'->HOk X.prog X.w H h':=fun {a h'} ha hs b ob e=>by
  obtain⟨_,_,YD⟩:=ha;refine(I.hok b ob e).stay (fun c w' hc q=>(hs.2 c ?_).trans q) (fun _ q=>q) fun _ _ q=>q
  rintro rfl;rcases hc with rfl|hc
  ·rw[YD] at e;cases e
  ·rw[YD] at hc;cases hc
 rcases hx with hk|hk
 ·refine wpAny_storeName_local hk hn (fun h' hn' hs=>?_) hcls;obtain⟨oL,_,_,hoL,_⟩:=id hn;refine h _ ⟨I.ok,I.os,I.bare,⟨fun b o e n hb hx=>?_,fun b o e n hb hx=>?_,I.base.free,fun b o e hx=>?_,I.base.tups,I.base.frzs,I.base.tbls⟩,⟨_,hn',fun j y v' e1 e2 e3=>?_⟩,fun y c e=>?_,I.free,I.freeC,fun p hp=>?_,tracked ⟨oL,hoL,I.free⟩ hs,by simpa using I.len⟩ ⟨_,hs,.inl rfl⟩
  ·exact(hs.2 b (Lh (LR (Lm e) I.ok.above))).trans (I.base.keep b o e n hb hx)
  ·obtain⟨sl,e1⟩:=I.base.slot b o e n hb hx;exact⟨sl,(hs.2 b (Lh (LR (Lm e) I.ok.above))).trans e1⟩
  ·obtain⟨o',e1⟩:=I.base.there b o e hx;exact⟨o',(hs.2 b (Lh (LR (Lm e) I.ok.above))).trans e1⟩
  ·by_cases hj:j=i
   ·subst hj;rw[hi] at e1;cases e1;rw[P7 ZW] at e2;cases e2;exact⟨u,r,.inl ⟨hk,by simp⟩⟩
   ·rw[SW (MO hj)] at e2;obtain⟨u',r',q⟩:=hl j y v' e1 e2 e3;refine⟨u',r',?_⟩;rcases q with⟨k,e⟩|⟨k,c,e,z⟩
    ·refine .inl ⟨k,?_⟩
     have:y≠x:=fun e=>hj (o8 hN e1 (e ▸ hi))
     simp[this,e]
    ·exact .inr ⟨k,c,e,z.sameBut hs (cne y c e)⟩
  ·obtain⟨w',z⟩:=I.cell y c e;exact⟨w',z.sameBut hs (cne y c e)⟩
  ·obtain⟨e,n,ne,nf,d⟩:=I.pin p hp;exact⟨(hs.2 p.1 ne).trans e,n,ne,nf,d⟩
 ·have hfn:X.fn x=true:=by
   rcases hf with z|z
   ·exact z
   ·rw[z] at hk;cases hk
  obtain⟨c,hc⟩:=I.ok.has x (.inl hk);obtain⟨w',z⟩:=I.cell x c hc;refine wpAny_storeName_cell I.ok.kind hk hc z (fun h' Wh hs=>?_);obtain⟨oc,Zv,hocd⟩:=id z;refine h {s with heap:=h'} ⟨I.ok,I.os,I.bare,⟨fun b o e n hb hx=>?_,fun b o e n hb hx=>?_,I.base.free,fun b o e hx=>?_,I.base.tups,I.base.frzs,I.base.tbls⟩,⟨m,hn.sameBut hs (MO (cne x c hc)),fun j y v' e1 e2 e3=>?_⟩,fun y c' e=>?_,I.free,I.freeC,fun p hp=>?_,tracked ⟨oc,Zv,I.freeC x c hc⟩ hs,by simpa using I.len⟩ ⟨c,hs,.inr hc⟩
  ·exact(hs.2 b (Lh (LR (Lm e) (I.ok.cab x c hfn hc)))).trans (I.base.keep b o e n hb hx)
  ·obtain⟨sl,e1⟩:=I.base.slot b o e n hb hx;exact⟨sl,(hs.2 b (Lh (LR (Lm e) (I.ok.cab x c hfn hc)))).trans e1⟩
  ·obtain⟨o',e1⟩:=I.base.there b o e hx;exact⟨o',(hs.2 b (Lh (LR (Lm e) (I.ok.cab x c hfn hc)))).trans e1⟩
  ·by_cases hj:j=i
   ·subst hj;rw[hi] at e1;cases e1;rw[P7 ZW] at e2;cases e2;exact⟨u,r,.inr ⟨.inl hk,c,hc,Wh⟩⟩
   ·rw[SW (MO hj)] at e2;obtain⟨u',r',q⟩:=hl j y v' e1 e2 e3;refine⟨u',r',?_⟩;rcases q with q|⟨k,c',e,z'⟩
    ·exact .inl q
    ·refine .inr ⟨k,c',e,z'.sameBut hs ?_⟩;rintro rfl;exact hj (o8 hN e1 (I.ok.inj _ _ _ e hc ▸ hi))
  ·by_cases hcc:c'=c
   ·subst hcc;exact⟨_,Wh⟩
   ·obtain⟨w2,z2⟩:=I.cell y c' e;exact⟨w2,z2.sameBut hs hcc⟩
  ·obtain⟨e,n,ne,nf,d⟩:=I.pin p hp;refine⟨(hs.2 p.1 ?_).trans e,n,ne,nf,d⟩;intro q;rw[q,Zv] at e;have q':oc=p.2:=LF e;exact d w' (by rw[<- q'];exact hocd)
theorem vh{i:Nat}{x:Str}{Q:Unit->Lf->Prop}(I:Inv X pins σ H s)(hN:X.N.Nodup)(hi:X.N[i]?=some x)(hx:Loc X.env.scope x)(r:RelV v u)
  (h:∀s',Inv X pins (σ.set i (some v)) H s'->Q () s') (hf:X.fn x=true\/X.env.scope.names.lookup x=some .local:=by first|exact .inl rfl|exact .inr rfl|assumption):wpAny M A (storeName X.env x u) Q E s :=
 ql I hN hi hx r (fun s' I' _=>h s' I') hf
theorem Inv.call'{s':Lf}(I:Inv X pins σ H s)(ho:s'.os=s.os)(u:Un (frs X.stack) ch H H' s.heap s'.heap)(hok:HOk X.prog X.w H' s'.heap)(hg:Qu s'.gens)
  (hch:∀b∈ch,(b∈X.ex\/X.s₀.heap.objs.size<=b)/\b≠X.env.locals/\(∀x c,X.env.cells.lookup x=some c->c≠b)/\∀p∈X.pn++pins,p.1≠b):Inv X pins σ H' s':=by
 obtain⟨h',g',d',t',o'⟩:=s';have e:o'=s.os:=ho;subst e;exact I.call (g':=g') (t':=t') (d':=d') u hok hg hch
end
abbrev XK:=K_->Option Addr->Hp->Prop
abbrev St:=List (Option V)
abbrev VK:=V->Hp->Prop
abbrev TE:=St->Hp->VK->Prop
abbrev TT:=St->Hp->(Bool->Hp->Prop)->Prop
abbrev TA:=St->Hp->(List V->Hp->Prop)->Prop
structure cq where
 nx:St->Hp->Prop
 rt:VK
 bk:St->Hp->Prop:=fun _ _=>False
 ct:St->Hp->Prop:=fun _ _=>False
abbrev TS:=cq->St->Hp->Prop
def EP(X:Cx)(pins:List (Addr×Obj))(σ:St)(Q:VK)(u:K_)(s':Lf):Prop:=∃v H',Inv X pins σ H' s'/\RelV v u/\Q v H'
def TP(X:Cx)(pins:List (Addr×Obj))(σ:St)(Q:Bool->Hp->Prop)(b:Bool)(s':Lf):Prop:=∃H',Inv X pins σ H' s'/\Q b H'
def AP(X:Cx)(pins:List (Addr×Obj))(σ:St)(Q:List V->Hp->Prop)(us:List K_)(s':Lf):Prop:=∃vs H',Inv X pins σ H' s'/\Vals vs us/\Q vs H'
def SP(X:Cx)(pins:List (Addr×Obj))(D:cq)(f:Flow)(s':Lf):Prop :=
 match f with
 |.next=>∃σ' H',Inv X pins σ' H' s'/\D.nx σ' H'
 |.brk=>∃σ' H',Inv X pins σ' H' s'/\D.bk σ' H'
 |.cont=>∃σ' H',Inv X pins σ' H' s'/\D.ct σ' H'
 |.ret u=>∃v σ' H',Inv X pins σ' H' s'/\RelV v u/\D.rt v H'
def PE(X:Cx)(e:Expr)(t:TE):Prop :=
 ∀(pins:List (Addr×Obj)) (s:Lf) (σ:St) (H:Hp) (Q:VK),Inv X pins σ H s->t σ H Q->wpAny (model X.prog X.w) X.A (eval e X.env) (EP X pins σ Q) X.xe s
def PT(X:Cx)(e:Expr)(t:TT):Prop :=
 ∀(pins:List (Addr×Obj)) (s:Lf) (σ:St) (H:Hp) (Q:Bool->Hp->Prop),Inv X pins σ H s->t σ H Q->wpAny (model X.prog X.w) X.A (isTrue e X.env (eval e X.env)) (TP X pins σ Q) X.xe s
def PW(X:Cx)(e:Expr)(t:TT):Prop :=
 ∀(whole:Sem K_) (pins:List (Addr×Obj)) (s:Lf) (σ:St) (H:Hp) (Q:Bool->Hp->Prop),Inv X pins σ H s->t σ H Q->wpAny (model X.prog X.w) X.A (isTrue e X.env whole) (TP X pins σ Q) X.xe s
theorem PW.pt(h:PW X e t):PT X e t:=h _
def PA(X:Cx)(es:List Expr)(t:TA):Prop :=
 ∀(pos:Pos) (pins:List (Addr×Obj)) (s:Lf) (σ:St) (H:Hp) (Q:List V->Hp->Prop),Inv X pins σ H s->t σ H Q->wpAny (model X.prog X.w) X.A (spliced (backTo pos (starEach es X.env))) (AP X pins σ Q) X.xe s
def PS(X:Cx)(st:Stmt)(t:TS):Prop :=
 ∀(pins:List (Addr×Obj)) (s:Lf) (σ:St) (H:Hp) (D:cq),Inv X pins σ H s->t D σ H->wpAny (model X.prog X.w) X.A (exec st X.env) (SP X pins D) X.xe s
def PSs(X:Cx)(st:List Stmt)(t:TS):Prop :=
 ∀(pins:List (Addr×Obj)) (s:Lf) (σ:St) (H:Hp) (D:cq),Inv X pins σ H s->t D σ H->wpAny (model X.prog X.w) X.A (execs st X.env) (SP X pins D) X.xe s
theorem bp{α:Type}{t:Sem α}{Q Q':α->Lf->Prop}(h:wpAny M A t Q E s)(hQ:∀a s,Q a s->Q' a s):wpAny M A t Q' E s:=L6 h hQ fun _ _ x=>x
section
variable{X:Cx}
def ae(i:Nat):TE:=fun σ H Q=>∃v,σ[i]?=some (some v)/\Q v H
def tC(v:V):TE:=fun _ H Q=>Q v H
theorem Hq{i:Nat} {x:Str} {pos:Pos} (hN:X.N[i]?=some x) (hv:Jt X.env.scope x) (hd:(x == ("__debug__":Str))=false:=by decide) (hcd:(x == ("__classdict__":Str))=false:=by decide):PE X (.Name x pos) (ae i):=by
 intro pins s σ H Q I h;obtain⟨v,e,h⟩:=h;obtain⟨m,hn,hl⟩:=I.loc;obtain⟨u,r,l⟩:=hl i x v hN e hv;have fin:EP X pins σ Q u s:=⟨v,H,I,r,h⟩
 rcases l with⟨hk,hm⟩|⟨hk,c,hc,YB⟩
 ·exact wpAny_Name (wpAny_loadName_local I.ok.kind hk hn hm fin) hd
 ·rcases hk with hk|hk
  ·exact wpAny_Name (wpAny_loadName_cell I.ok.kind hk hc YB fin) hd
  ·exact wpAny_Name (wpAny_loadName_free I.ok.kind hk hc YB fin hcd) hd
theorem aj{i j pos}:PE X (.Constant (.int i) j pos) (tC (.int i)):=fun _ _ _ H _ I h=>wpAny_Constant_int ⟨.int i,H,I.tok _,⟨_,rfl⟩,h⟩
theorem eI{b j pos}:PE X (.Constant (.bool b) j pos) (tC (.bl b)):=fun _ _ _ H _ I h=>Constant_bool ⟨.bl b,H,I,rfl,h⟩
theorem gU{j pos}:PE X (.Constant .none j pos) (tC .non):=fun _ _ _ H _ I h=>Constant_none ⟨.non,H,I,rfl,h⟩
theorem bi{x j pos}:PE X (.Constant (.str x) j pos) (tC (.str x)):=fun _ _ _ H _ I h=>Calls.Constant_str ⟨.str x,H,I.tok _,⟨_,rfl⟩,h⟩
def Gl(X:Cx)(x:Str):Prop:=X.env.kindOf x=some .globalImplicit
theorem fB{H:Hp}{u:K_}{pos:Pos}{Q:K_->Lf->Prop}(I:Inv X pins σ H s)(hg:Gl X x)(hm:X.mg x=some u)(h:Q u s)
  (hd:(x == ("__debug__":Str))=false:=by decide):wpAny (model X.prog X.w) X.A (eval (.Name x pos) X.env) Q E s :=
 Q2 I.ok.kind hg (Calls.loadGlobal_global (by rw[I.ok.glob];exact I.mod.glob.keeps I.bk) hm h) hd
theorem fC{H:Hp}{u:K_}{pos:Pos}{Q:K_->Lf->Prop}(I:Inv X pins σ H s)(hg:Gl X x)(hm:X.mg x=none)(hv:bootBuiltins x=some u)(h:Q u s)
  (hn:x≠"__name__":=by decide) (hd:(x == ("__debug__":Str))=false:=by decide):wpAny (model X.prog X.w) X.A (eval (.Name x pos) X.env) Q E s:=by
 obtain⟨mb,h1,h2⟩:=I.mod.blt;exact Q2 I.ok.kind hg (Calls.loadGlobal_builtin (by rw[I.ok.glob];exact I.mod.glob.keeps I.bk) hm (by rw[I.ok.blt];exact h1.keeps I.bk) ((h2 x hn).trans hv) h) hd
theorem zi{u:K_} {pos:Pos} (hg:Gl X x) (hm:X.mg x=some u) (r:RelV v u) (hd:(x == ("__debug__":Str))=false:=by decide):PE X (.Name x pos) (tC v) :=
 fun _ _ _ H _ I h=>fB I hg hm ⟨v,H,I,r,h⟩ hd
theorem br{u:K_} {pos:Pos} (hg:Gl X x) (hm:X.mg x=none) (hv:bootBuiltins x=some u) (r:RelV v u) (hn:x≠"__name__":=by decide) (hd:(x == ("__debug__":Str))=false:=by decide):PE X (.Name x pos) (tC v) :=
 fun _ _ _ H _ I h=>fC I hg hm hv ⟨v,H,I,r,h⟩ hn hd
variable{a b:Expr}{ta tb:TE}{pos:Pos}
def tB(t:TE):TT:=fun σ H Q=>t σ H fun x H1=>∃c,x=.bl c/\Q c H1
theorem bA(h:PE X e t)(he:∀whole,isTrue e X.env whole=(do let v <- whole;standAt e.pos;holding [v] (truthy v)):=by intro _;rfl):PT X e (tB t):=by
 intro pins s σ H Q I hw;refine isTrue_plain (bp (h pins s σ H _ I hw) fun v s1 ⟨x,H1,I1,r1,q1⟩=>?_) (he _);obtain⟨d,rfl,q⟩:=q1;cases r1;exact Nk ⟨H1,I1,q⟩
variable{tA tB':TT}{rest:List Expr}
def nU(t u:TT):TT:=fun σ H Q=>t σ H fun c H1=>if c=true then u σ H1 Q else Q false H1
def xm(t u:TT):TT:=fun σ H Q=>t σ H fun c H1=>if c=true then Q true H1 else u σ H1 Q
def dJ(t:TT):TT:=fun σ H Q=>t σ H fun c H1=>Q (!c) H1
theorem pw_and1(ha:PT X a tA):PW X (.BoolOp .And [a] pos) tA:=by
 intro wh pins s σ H Q I h;refine isTrue_and (bp (ha pins s σ H Q I h) fun c s1 e=>?_);cases c with
 |true=>exact isTrue_and_nil e
 |false=>exact e
theorem pw_or1(ha:PT X a tA):PW X (.BoolOp .Or [a] pos) tA:=by
 intro wh pins s σ H Q I h;refine isTrue_or (bp (ha pins s σ H Q I h) fun c s1 e=>?_);cases c with
 |false=>exact isTrue_or_nil e
 |true=>exact e
theorem pw_and(ha:PT X a tA)(hb:PW X (.BoolOp .And (b :: rest) pos) tB'):PW X (.BoolOp .And (a :: b :: rest) pos) (nU tA tB'):=by
 intro wh pins s σ H Q I h;refine isTrue_and (bp (ha pins s σ H _ I h) fun c s1 ⟨H1,I1,q1⟩=>?_);cases c with
 |true=>exact hb wh pins s1 σ H1 Q I1 q1
 |false=>exact⟨H1,I1,q1⟩
theorem pw_or(ha:PT X a tA)(hb:PW X (.BoolOp .Or (b :: rest) pos) tB'):PW X (.BoolOp .Or (a :: b :: rest) pos) (xm tA tB'):=by
 intro wh pins s σ H Q I h;refine isTrue_or (bp (ha pins s σ H _ I h) fun c s1 ⟨H1,I1,q1⟩=>?_);cases c with
 |true=>exact⟨H1,I1,q1⟩
 |false=>exact hb wh pins s1 σ H1 Q I1 q1
theorem cu(ha:PT X a tA):PT X (.UnaryOp .Not a pos) (dJ tA):=by
 intro pins s σ H Q I h;exact isTrue_not (ha pins s σ H (fun c H1=>Q (!c) H1) I h)
def jL(ta tb:TE):TE:=fun σ H Q=>ta σ H fun x H1=>∃c,x=.bl c/\if c=true then tb σ H1 Q else Q (.bl false) H1
def Bs(ta tb:TE):TE:=fun σ H Q=>ta σ H fun x H1=>∃c,x=.bl c/\if c=true then Q (.bl true) H1 else tb σ H1 Q
def Bt(ta:TE):TE:=fun σ H Q=>ta σ H fun x H1=>∃c,x=.bl c/\Q (.bl (!c)) H1
theorem dY{op}(h:PE X a t):PE X (.BoolOp op [a] pos) t:=fun pins s σ H Q I hw=>BoolOp_one (h pins s σ H Q I hw)
theorem dZ(ha:PE X a ta)(hb:PE X (.BoolOp .And (b :: rest) pos) tb):PE X (.BoolOp .And (a :: b :: rest) pos) (jL ta tb):=by
 intro pins s σ H Q I h;refine BoolOp_and (bp (ha pins s σ H _ I h) fun v s1 ⟨x,H1,I1,r1,q1⟩=>?_);obtain⟨c,rfl,q1⟩:=q1;cases r1;refine Nk ?_;cases c with
 |true=>exact hb pins s1 σ H1 Q I1 q1
 |false=>exact⟨.bl false,H1,I1,rfl,q1⟩
theorem Hr(ha:PE X a ta)(hb:PE X (.BoolOp .Or (b :: rest) pos) tb):PE X (.BoolOp .Or (a :: b :: rest) pos) (Bs ta tb):=by
 intro pins s σ H Q I h;refine BoolOp_or (bp (ha pins s σ H _ I h) fun v s1 ⟨x,H1,I1,r1,q1⟩=>?_);obtain⟨c,rfl,q1⟩:=q1;cases r1;refine Nk ?_;cases c with
 |false=>exact hb pins s1 σ H1 Q I1 q1
 |true=>exact⟨.bl true,H1,I1,rfl,q1⟩
theorem zf(ha:PE X a ta):PE X (.UnaryOp .Not a pos) (Bt ta):=by
 intro pins s σ H Q I h;refine UnaryOp_ (bp (ha pins s σ H _ I h) fun v s1 ⟨x,H1,I1,r1,q1⟩=>?_);obtain⟨c,rfl,q1⟩:=q1;cases r1;exact not_of (Nk ⟨.bl (!c),H1,I1,rfl,q1⟩)
def Jz(t:TT)(ta tb:TE):TE:=fun σ H Q=>t σ H fun c H1=>if c=true then ta σ H1 Q else tb σ H1 Q
theorem Ci(hc:PT X c tA)(ha:PE X a ta)(hb:PE X b tb):PE X (.IfExp c a b pos) (Jz tA ta tb):=by
 intro pins s σ H Q I h;refine wpAny_IfExp (bp (hc pins s σ H _ I h) fun d s1 ⟨H1,I1,q1⟩=>?_);cases d with
 |true=>exact ha pins s1 σ H1 Q I1 q1
 |false=>exact hb pins s1 σ H1 Q I1 q1
end
def SqL(K:Fg)(H:Hp)(a:Addr)(xs:List V):Prop :=
 Rd H a (.lst xs) \/
  ∃(o:Obj) (fm:Array K_) (n:Nat),K.lookup a=some o/\o.cls=.type "list"/\o.dict=none/\o.data=.seq fm n/\fm.size<=sizeLine/\Vals xs fm.toList
def SqT(K:Fg)(H:Hp)(a:Addr)(xs:List V):Prop :=
 Rd H a (.tup xs) \/
  ∃(o:Obj) (fm:Array K_) (n:Nat),K.lookup a=some o/\o.cls=.type "tuple"/\o.data=.seq fm n/\fm.size<=sizeLine/\Vals xs fm.toList
def KG:K_->Option V
 |.none=>some .non
 |.bool b=>some (.bl b)
 |.int i _=>some (.int i)
 |.str x _=>some (.str x)
 |.bytes b _=>some (.byt b)
 |.float b _=>some (.flt b)
 |.ref a=>some (.ref a)
 |.type n=>some (.ty n)
 |_=>none
theorem RelV.abs(r:RelV x u):KG u=some x:=by
 cases x with
 |non=>cases r;rfl
 |bl _=>cases r;rfl
 |int _=>obtain⟨t,rfl⟩:=r;rfl
 |str _=>obtain⟨t,rfl⟩:=r;rfl
 |byt _=>obtain⟨t,rfl⟩:=r;rfl
 |flt _=>obtain⟨t,rfl⟩:=r;rfl
 |ref _=>cases r;rfl
 |ty _=>cases r;rfl
theorem RelV.inj(r:RelV x u)(q:RelV y u):x=y:=LF (r.abs.symm.trans q.abs)
theorem Vals.inj:∀{xs ys:List V} {us:List K_},Vals xs us->Vals ys us->xs=ys
 |_,_,_,.nil,.nil=>rfl
 |_,_,_,.cons r t,.cons r' t'=>by rw[r.inj r',Vals.inj t t']
section
variable{X:Cx}{pins:List (Addr×Obj)}{σ:St}{H:Hp}{s:Lf}{a:Addr}{xs ys:List V}
theorem SqL.of{K:Fg}(h:H a=some (.lst xs)):SqL K H a xs:=.inl (.inl h)
theorem SqT.of{K:Fg}(h:H a=some (.tup xs)):SqT K H a xs:=.inl (.inl h)
theorem Inv.list(I:Inv X pins σ H s)(h:SqL X.K H a xs):∃fm:List K_,Vals xs fm/\PlainL s.heap a fm.toArray/\xs.length<=sizeLine:=by
 rcases h with h|⟨o,fm,n,hk,hc,hd,hs,hz,r⟩
 ·obtain⟨z,fm,n,r,e⟩:=h.ok I.hok;exact⟨fm,r,⟨_,n,e,rfl,rfl,rfl⟩,z⟩
 ·refine⟨fm.toList,r,⟨o,n,I.kIn a o hk,hc,hd,by simpa using hs⟩,?_⟩;have e:=r.length;simp only[Mw] at e;lia
theorem Inv.tuple(I:Inv X pins σ H s)(h:SqT X.K H a xs):∃fm:List K_,Vals xs fm/\IsTup s.heap a fm.toArray/\xs.length<=sizeLine:=by
 rcases h with h|⟨o,fm,n,hk,hc,hs,hz,r⟩
 ·obtain⟨z,fm,r,p⟩:=h.ok I.hok;exact⟨fm,r,p.tup,z⟩
 ·refine⟨fm.toList,r,⟨o,I.kIn a o hk,hc,n,by simpa using hs⟩,?_⟩;have e:=r.length;simp only[Mw] at e;lia
theorem Inv.vF(I:Inv X pins σ H s)(h:SqL X.K H a xs)(h':SqL X.K H a ys):xs=ys:=by
 obtain⟨fm,r,⟨o,n,e,_,_,d⟩,_⟩:=I.list h;obtain⟨its',r',⟨o',n',e',_,_,d'⟩,_⟩:=I.list h';rw[e] at e';cases e';rw[d] at d';injection d' with d1 _
 have:fm=its':=by simpa using congrArg Array.toList d1
 subst this;exact r.inj r'
theorem Inv.qf(I:Inv X pins σ H s)(h:SqT X.K H a xs)(h':SqT X.K H a ys):xs=ys:=by
 obtain⟨fm,r,⟨o,e,_,n,d⟩,_⟩:=I.tuple h;obtain⟨its',r',⟨o',e',_,n',d'⟩,_⟩:=I.tuple h';rw[e] at e';cases e';rw[d] at d';injection d' with d1 _
 have:fm=its':=by simpa using congrArg Array.toList d1
 subst this;exact r.inj r'
end
abbrev Cx.wish(X:Cx)(E:K_->Lf->Prop):Cx:={X with xe:=E}
abbrev Cx.nox(X:Cx):Cx:=X.wish fun _ _=>False
theorem Cx.Ok.wish{X:Cx}(ok:X.Ok)(E:K_->Lf->Prop):(X.wish E).Ok :=
 ⟨ok.mod,ok.kind,ok.glob,ok.blt,ok.above,ok.inj,ok.has,ok.cab,ok.hd,ok.frames,ok.stk,ok.exf,ok.bs,ok.bsz,ok.noex,ok.exfs,ok.funs,ok.frf⟩
theorem Cx.Ok.eY{X:Cx}(ok:(X.wish E).Ok):X.Ok :=
 ⟨ok.mod,ok.kind,ok.glob,ok.blt,ok.above,ok.inj,ok.has,ok.cab,ok.hd,ok.frames,ok.stk,ok.exf,ok.bs,ok.bsz,ok.noex,ok.exfs,ok.funs,ok.frf⟩
section
variable{X:Cx}{pins:List (Addr×Obj)}{σ:St}{H:Hp}{s:Lf}{E:K_->Lf->Prop}
theorem Inv.wish(I:Inv X pins σ H s)(E:K_->Lf->Prop):Inv (X.wish E) pins σ H s:=⟨I.ok.wish E,I.os,I.bare,I.base,I.loc,I.cell,I.free,I.freeC,I.pin,I.hok,I.len⟩
theorem Inv.eY(I:Inv (X.wish E) pins σ H s):Inv X pins σ H s:=⟨I.ok.eY,I.os,I.bare,I.base,I.loc,I.cell,I.free,I.freeC,I.pin,I.hok,I.len⟩
theorem SP.eY{D:cq}(h:SP (X.wish E) pins D f s'):SP X pins D f s':=by
 cases f with
 |next=>obtain⟨σ',H',I,q⟩:=h;exact⟨σ',H',I.eY,q⟩
 |brk=>obtain⟨σ',H',I,q⟩:=h;exact⟨σ',H',I.eY,q⟩
 |cont=>obtain⟨σ',H',I,q⟩:=h;exact⟨σ',H',I.eY,q⟩
 |ret u=>obtain⟨v,σ',H',I,r,q⟩:=h;exact⟨v,σ',H',I.eY,r,q⟩
theorem PSs.nox{st:List Stmt}(h:PSs X.nox st t):PSs X st t:=fun pins s σ H D I hw =>
 L6 (h pins s σ H D (I.wish _) hw) (fun _ _ q=>q.eY) fun _ _ z=>M7 z
end
section
variable{X:Cx}{st:Stmt}{rest:List Stmt}{t u:TS}{e:Expr}{te:TE}{pos:Pos}
def a9:TS:=fun D σ H=>D.nx σ H
def av(t u:TS):TS:=fun D σ H=>t {D with nx:=u D} σ H
theorem aI:PSs X [] a9:=fun _ _ σ H _ I h=>Oi ⟨σ,H,I,h⟩
theorem af(h1:PS X st t)(h2:PSs X rest u):PSs X (st :: rest) (av t u):=by
 intro pins s σ H D I h;refine Qi (bp (h1 pins s σ H {D with nx:=u D} I h) fun f s1 q=>?_);cases f with
 |next =>
  obtain⟨σ',H',I',q⟩:=q;exact h2 pins s1 σ' H' D I' q
 |ret v=>exact q
 |brk=>exact q
 |cont=>exact q
theorem ao(h1:PS X st t):PSs X [st] t:=by
 intro pins s σ H D I h;refine Qi (bp (h1 pins s σ H D I h) fun f s1 q=>?_);cases f with
 |next=>exact Oi q
 |ret v=>exact q
 |brk=>exact q
 |cont=>exact q
theorem Inv.quiet{H:Hp}(I:Inv X pins σ H s):interactive X.env=false:=by simp[interactive,I.ok.kind]
def dL(te:TE):TS:=fun D σ H=>te σ H fun _ H1=>D.nx σ H1
theorem bM(he:PE X e te)(hs:swapsWith e none pos.line X.env=pure false:=by rfl):PS X (.Expr e pos) (dL te):=by
 intro pins s σ H D I h;exact wpAny_Expr_any (bp (he pins s σ H _ I h) fun v s1 ⟨x,H1,I1,r1,q1⟩=>⟨σ,H1,I1,q1⟩) I.quiet hs
def aY(te:TE):TS:=fun D σ H=>te σ H D.rt
theorem aK(he:PE X e te):PS X (.Return (some e) pos) (aY te):=by
 intro pins s σ H D I h;exact wpAny_Return_some (bp (he pins s σ H _ I h) fun v s1 ⟨x,H1,I1,r1,q1⟩=>⟨x,σ,H1,I1,r1,q1⟩)
def a6(c:TT)(t u:TS):TS:=fun D σ H=>c σ H fun b H1=>if b=true then t D σ H1 else u D σ H1
theorem a7(hc:PT X c tc)(ha:PSs X a t)(hb:PSs X b u):PS X (.If c a b pos) (a6 tc t u):=by
 intro pins s σ H D I h;refine wpAny_If (bp (hc pins s σ H _ I h) fun d s1 ⟨H1,I1,q1⟩=>?_);cases d with
 |true=>exact ha pins s1 σ H1 D I1 q1
 |false=>exact hb pins s1 σ H1 D I1 q1
def gO:TS:=fun _ _ _=>False
theorem c_:PSs X sts gO:=fun _ _ _ _ _ _ h=>h.elim
end
abbrev TG:=V->St->Hp->(St->Hp->Prop)->Prop
abbrev Du:=List V->St->Hp->(St->Hp->Prop)->Prop
def PG(X:Cx)(target:Expr)(t:TG):Prop :=
 ∀(pins:List (Addr×Obj)) (s:Lf) (σ:St) (H:Hp) (v:V) (u:K_) (Q:St->Hp->Prop),Inv X pins σ H s->RelV v u->t v σ H Q ->
  wpAny (model X.prog X.w) X.A (assign target X.env u) (fun _ s'=>∃σ' H',Inv X pins σ' H' s'/\Q σ' H') X.xe s
def Jv(X:Cx)(ts:List Expr)(t:Du):Prop :=
 ∀(pins:List (Addr×Obj)) (s:Lf) (σ:St) (H:Hp) (vs:List V) (us:List K_) (Q:St->Hp->Prop),Inv X pins σ H s->Vals vs us->t vs σ H Q ->
  wpAny (model X.prog X.w) X.A (assignInOrder ((assignEach ts X.env).map (·.2)) us) (fun _ s'=>∃σ' H',Inv X pins σ' H' s'/\Q σ' H') X.xe s
abbrev Dt:=V->V->V->Hp->(Hp->Prop)->Prop
def Jc(X:Cx)(t:Dt):Prop :=
 ∀(pins:List (Addr×Obj)) (s:Lf) (σ:St) (H:Hp) (o i v:V) (ov iv u:K_) (Q:Hp->Prop),Inv X pins σ H s->RelV o ov->RelV i iv->RelV v u->t o i v H Q ->
  wpAny (model X.prog X.w) X.A (setItem ov iv u) (fun _ s'=>∃H',Inv X pins σ H' s'/\Q H') X.xe s
section
variable{X:Cx}{pos:Pos}
def aH(i:Nat):TG:=fun v σ H Q=>Q (σ.set i (some v)) H
theorem a5{i:Nat}{x:Str}(hN:X.N.Nodup)(hi:X.N[i]?=some x)(hx:Loc X.env.scope x)(hf:X.fn x=true\/X.env.scope.names.lookup x=some .local:=by first|exact .inl rfl|exact .inr rfl|assumption):PG X (.Name x pos) (aH i):=by
 intro pins s σ H v u Q I r h;exact wpAny_assign_Name (vh I hN hi hx r (fun s' I'=>⟨_,H,I',h⟩) hf)
def pM:Du:=fun vs σ H Q=>vs=[]/\Q σ H
def fK(t:TG)(u:Du):Du:=fun vs σ H Q=>∃v r,vs=v :: r/\t v σ H fun σ' H'=>u r σ' H' Q
theorem gA:Jv X [] pM:=by
 intro pins s σ H vs us Q I r h;obtain⟨e,h⟩:=h;subst e;cases r;exact assignInOrder_nil ⟨σ,H,I,h⟩
theorem bU(h1:PG X e t)(h2:Jv X es u)
  (hs:(assignEach (e :: es) X.env).map (·.2)=assign e X.env :: (assignEach es X.env).map (·.2):=by rfl):Jv X (e :: es) (fK t u):=by
 intro pins s σ H vs us Q I r h;obtain⟨v,vr,e1,h⟩:=h;subst e1;cases r with
 |cons r rr =>
  rw[hs];refine assignInOrder_cons (bp (h1 pins s σ H _ _ _ I r h) fun _ s1 ⟨σ1,H1,I1,q1⟩=>?_);exact h2 pins s1 σ1 H1 _ _ Q I1 rr q1
def pL(K:Fg)(n:Nat)(t:Du):TG:=fun v σ H Q=>∃a xs,v=.ref a/\SqT K H a xs/\xs.length=n/\t xs σ H Q
theorem j7{n:Nat}(hc:X.calm=true)(h:Jv X es t)
  (hn:(assignEach es X.env).length=n:=by rfl) (hst:(assignEach es X.env).findIdx? (·.1)=none:=by rfl):PG X (.Tuple es k pos) (pL X.K n t):=by
 intro pins s σ H v u Q I r hw;obtain⟨a,xs,e1,hq,hl,hw⟩:=hw;subst e1;cases r;obtain⟨fm,rv,ht,hz⟩:=I.tuple hq;refine assign_Tuple_tuple (I.ok.hd hc) ht (by simp[hn,<- hl,rv.length]) hst fun h' hx=>?_
 have I1:Inv X pins σ H {s with heap:=h'}:=I.kept (t':=s.toks) fun b o e=>hx b o (Lh (Lm e)) e
 exact h pins _ σ H xs _ Q I1 (by simpa using rv) hw
def C6(to ti:TE)(t:Dt):TG:=fun v σ H Q=>to σ H fun o H1=>ti σ H1 fun i H2=>t o i v H2 fun H3=>Q σ H3
theorem DR(ho:PE X o to)(hi:PE X i ti)(hs:Jc X t)
  (ha:∀v,assign (.Subscript o i pos) X.env v=(do
   let ov <- holding [v] (eval o X.env)
   let iv <- holding [v,ov] (eval i X.env)
   standAt pos
   holding [v,ov,iv] (setItem ov iv v)
   release [v,ov,iv] []):=by intro _;rfl):PG X (.Subscript o i pos) (C6 to ti t):=by
 intro pins s σ H v u Q I r h;rw[ha];refine K8 (MJ (bp (ho pins s σ H _ I h) fun ov s1 ⟨x,H1,I1,r1,q1⟩=>?_));refine K8 (MJ (bp (hi pins s1 σ H1 _ I1 q1) fun iv s2 ⟨y,H2,I2,r2,q2⟩=>?_));refine K8 (Pw (K8 (MJ (bp (hs pins s2 σ H2 x y v ov iv u _ I2 r1 r2 r q2) fun _ s3 ⟨H3,I3,q3⟩=>?_))));exact wpAny_release ⟨σ,H3,I3,q3⟩
def aR(te:TE)(g:TG):TS:=fun D σ H=>te σ H fun x H1=>g x σ H1 D.nx
theorem qR(he:PE X e te)(hg:PG X tg g)(hs:swapsWithSole [tg] e pos.line X.env=pure false:=by rfl)(hw:swappedStores [tg] e X.env=pure none:=by rfl)
  (h1:(assignEach [tg] X.env).map (·.2)=[assign tg X.env]:=by rfl):PS X (.Assign [tg] e pos) (aR te g):=by
 intro pins s σ H D I h;refine wpAny_Assign_stores (bp (he pins s σ H _ I h) fun v s1 ⟨x,H1,I1,r1,q1⟩=>?_) hs hw;rw[h1];exact bp (hg pins s1 σ H1 x v _ I1 r1 q1) fun _ s2 q=>q
theorem aF{i:Nat}{x:Str}(hN:X.N.Nodup)(hi:X.N[i]?=some x)(hx:Loc X.env.scope x)(he:PE X e te)(hs:swapsWith e (some (.Name x pos')) pos.line X.env=pure false:=by rfl)(hf:X.fn x=true\/X.env.scope.names.lookup x=some .local:=by first|exact .inl rfl|exact .inr rfl|assumption) :
  PS X (.Assign [.Name x pos'] e pos) (aR te (aH i)):=by
 intro pins s σ H D I h;refine wpAny_Assign_Name (bp (he pins s σ H _ I h) fun v s1 ⟨y,H1,I1,r1,q1⟩=>?_) hs;exact vh I1 hN hi hx r1 (fun s2 I2=>⟨_,H1,I2,q1⟩) hf
end
section
variable{X:Cx}{pos:Pos}
def xY(c:TT)(tb:TS):TS:=fun D σ H=>∃W:Nat->St->Hp->Prop,(∃m,W m σ H)/\∀m σ H,W m σ H ->
 c σ H fun b H1=>if b=true then ∃N:St->Hp->Prop,(∀σ' H',N σ' H'->∃m',m'<m/\W m' σ' H')/\tb {D with nx:=N,ct:=N,bk:=D.nx} σ H1 else D.nx σ H1
theorem vw(hp:Qj (model X.prog X.w) X.A X.env X.xe)(hc:PT X c tc)(hb:PSs X body tb):PS X (.While c body [] pos) (xY tc tb):=by
 intro pins s σ H D I h;obtain⟨W,⟨m0,w0⟩,turn⟩:=h;refine wpAny_While (codeAny_whileLoop (fun n s'=>∃σ' H',Inv X pins σ' H' s'/\W n σ' H') ?_ m0 ⟨σ,H,I,w0⟩);rintro n s1 ⟨σ1,H1,I1,w1⟩;refine Oj hp (bp (hc pins s1 σ1 H1 _ I1 (turn n σ1 H1 w1)) fun b s2 ⟨H2,I2,q2⟩=>?_);cases b with
 |true =>
  obtain⟨N,hN,q2⟩:=q2;rw[if_pos rfl];refine Oj hp (bp (hb pins s2 σ1 H2 _ I2 q2) fun f s3 q3=>?_);cases f with
  |next =>
   obtain⟨σ3,H3,I3,n3⟩:=q3;obtain⟨m',hm,w3⟩:=hN σ3 H3 n3;exact⟨m',hm,σ3,H3,I3,w3⟩
  |cont =>
   obtain⟨σ3,H3,I3,n3⟩:=q3;obtain⟨m',hm,w3⟩:=hN σ3 H3 n3;exact⟨m',hm,σ3,H3,I3,w3⟩
  |brk=>exact q3
  |ret v=>exact q3
 |false =>
  rw[if_neg LP];exact Oi ⟨σ1,H2,I2,q2⟩
end
structure It where
 go:Nat->Hp->Prop
 yld:Nat->Hp->V->Hp->Prop
 stop:Nat->Hp->Prop
def ft(X:Cx)(pins:List (Addr×Obj))(H:Hp)(b:Addr):Prop :=
 H b=none/\b≠X.env.locals/\b∉X.fs/\(b∈X.ex\/X.s₀.heap.objs.size<=b)/\(∀x c,X.env.cells.lookup x=some c->c≠b)/\∀p∈X.pn++pins,p.1≠b
theorem Inv.fpOk{H H':Hp}{b:Addr}(I:Inv X pins σ H s)(hb:s.heap.objs.size<=b)(hn:H' b=none):ft X pins H' b:=by
 refine⟨hn,Mo (LR I.lt hb),I.nofs hb,.inr (Mh I.sz hb),fun x c e z=>?_,fun p hp z=>?_⟩
 ·obtain⟨v,q⟩:=I.cell x c e;exact absurd (LR q.lt (by rw[z];exact hb)) (Oy _)
 ·exact absurd (LR (Lm (I.pin p hp).1) (by rw[z];exact hb)) (Oy _)
structure pV (P:LA) (w:LL) (K:Fg) (tg:Expr) (J:It) (fp:List Addr) (it:Addr) (tn:Nat->Heap->Prop):Prop where
 mem:it∈fp
 obj:∀i h,tn i h->∀b∈fp,∃o,h.get? b=some o/\∀v,o.data≠.cell v
 keep:∀i h h',tn i h->(∀b∈fp,∀o,h.get? b=some o->h'.get? b=some o)->tn i h'
 item:∀(X:Cx),X.prog=P->X.w=w->X.K=K->X.calm=true->∀(i:Nat) (pins:List (Addr×Obj)) (s:Lf) (σ:St) (H:Hp) (E:K_->Lf->Prop),Inv X pins σ H s->(∀b∈fp,ft X pins H b)->tn i s.heap->J.go i H ->
  wpAny (model P w) X.A (pyNext (.ref it)) (fun r s1=>∃u,r=some u /\
   wpAny (model P w) X.A (letOwnedTupleGo tg (.ref it) u) (fun _ s2=>∃x H',Inv X pins σ H' s2/\RelV x u/\J.yld i H x H'/\tn (i+1) s2.heap/\∀b∈fp,H' b=none) E s1) E s
 done:∀(X:Cx),X.prog=P->X.w=w->X.K=K->X.calm=true->∀(i:Nat) (pins:List (Addr×Obj)) (s:Lf) (σ:St) (H:Hp) (E:K_->Lf->Prop),Inv X pins σ H s->(∀b∈fp,ft X pins H b)->tn i s.heap->J.stop i H ->
  wpAny (model P w) X.A (pyNext (.ref it)) (fun r s1=>r=none/\Inv X pins σ H s1) E s
 self:∀(A:L4) (i:Nat) (s:Lf) (Q:K_->Lf->Prop) (E:K_->Lf->Prop),tn i s.heap->Q (.ref it) s->wpAny (model P w) A (pyIter (.ref it)) Q E s
abbrev TI:=St->Hp->(It->Hp->Prop)->Prop
def K1(X:Cx)(pins:List (Addr×Obj))(σ:St)(tg:Expr)(R:It->Hp->Prop)(Zx:K_)(s2:Lf):Prop :=
 ∃(it:Addr) (fp:List Addr) (tn:Nat->Heap->Prop) (J:It) (H':Hp),Zx=.ref it/\Inv X pins σ H' s2/\pV X.prog X.w X.K tg J fp it tn/\tn 0 s2.heap/\(∀b∈fp,ft X pins H' b)/\R J H'
def PI(X:Cx)(tg iter:Expr)(wi:TI):Prop :=
 ∀(pins:List (Addr×Obj)) (s:Lf) (σ:St) (H:Hp) (R:It->Hp->Prop),Inv X pins σ H s->wi σ H R ->
  wpAny (model X.prog X.w) X.A (eval iter X.env) (fun v s1=>wpAny (model X.prog X.w) X.A (pyIter v) (K1 X pins σ tg R) X.xe s1) X.xe s
theorem C3{E:K_->Lf->Prop} {s:Lf}  {it:Addr}  {o:Obj}   {Q:Unit->Lf->Prop} (ho:s.heap.get? it=some o) (hc:o.cls=.type n) (hd:o.data=.fields vs)
    (hn:["enumerate", "zip", "dict_itemiterator", "dict_reverseitemiterator", "odict_iterator", "itertools.zip_longest", "itertools.pairwise"].contains n=false) (hQ:Q () s):wpAny M A (letOwnedTupleGo tg (.ref it) u) Q E s := by
  unfold letOwnedTupleGo
  cases tg <;> first
    |exact Le hQ
    | (cases u <;> first
        |exact Le hQ
        | (refine K8 (wpAny_load ho ?_)
           rw[hc, hd]
           show wpAny M A (if (["enumerate", "zip", "dict_itemiterator", "dict_reverseitemiterator", "odict_iterator", "itertools.zip_longest", "itertools.pairwise"].contains n && vs[0]? == some (rawInt _))=true then _ else _) Q E s
           rw[if_neg (by intro h; rw[hn, Q3] at h; cases h)]
           exact Le hQ))
def uN(K:Fg)(a:Addr):It :=
 ⟨fun i H=>∃xs x,SqL K H a xs/\xs[i]?=some x,fun i H x H'=>H'=H/\∀xs,SqL K H a xs->xs[i]?=some x,fun i H=>∃xs,SqL K H a xs/\xs.length<=i⟩
def sH(K:Fg)(a:Addr):It :=
 ⟨fun i H=>∃xs x,SqT K H a xs/\xs[i]?=some x,fun i H x H'=>H'=H/\∀xs,SqT K H a xs->xs[i]?=some x,fun i H=>∃xs,SqT K H a xs/\xs.length<=i⟩
def xj(lo:Int)(n:Nat):It:=⟨fun i _=>i<n,fun i H x H'=>H'=H/\x=.int (lo+i),fun i _=>n<=i⟩
theorem qd{K:Fg}(a it:Addr):pV P w K tg (uN K a) [it] it (fun i h=>h.IsListIter it a i) where
 mem:=by simp
 obj:=fun i h st b hb=>by
  have e:b=it:=by simpa using hb
  subst e;obtain⟨o,e,c,d⟩:=st;exact⟨o,e,fun v z=>by rw[d] at z;cases z⟩
 keep:=fun i h h' st k=>st.at fun o e=>k it (by simp) o e
 item:=by
  intro X hP hw hK hc i pins s σ H E I hf st hg;subst hP hw hK;obtain⟨xs,x,hq,hx⟩:=hg;obtain⟨fm,rv,p,hz⟩:=I.list hq;obtain⟨u,hu,ru⟩:=rv.get hx;obtain⟨f0,f1,f2,f3,f4,f5⟩:=hf it (by simp);refine wpAny_pyNext_list_item st p.isList (x:=u) (by simpa using hu) fun h' Xy sb=>?_
  have I1:Inv X pins σ H {s with heap:=h'}:=I.turned (t':=s.toks) (fun b o hb e=>(sb.2 b hb).trans e) f0 f1 f3 f4 f5;obtain⟨o,e,c,d⟩:=id Xy;exact⟨u,rfl,C3 (s:={s with heap:=h'}) e c d (by decide) ⟨x,H,I1,ru,⟨rfl,fun ys hy=>by rw[I.vF hy hq];exact hx⟩,Xy,fun b hb=>(hf b hb).1⟩⟩
 done:=by
  intro X hP hw hK hc i pins s σ H E I hf st hg;subst hP hw hK;obtain⟨xs,hq,hx⟩:=hg;obtain⟨fm,rv,p,hz⟩:=I.list hq;obtain⟨f0,f1,f2,f3,f4,f5⟩:=hf it (by simp);have hl:=rv.length;exact wpAny_pyNext_list_end (I.ok.hd hc) st p.isList (by simp;lia) fun h' eb=>⟨rfl,I.turned (t':=s.toks) (fun b o hb e=>eb b o hb e) f0 f1 f3 f4 f5⟩
 self:=fun _ _ _ _ _ st h=>wpAny_pyIter_listiter st h
theorem lV{K:Fg}(a it:Addr):pV P w K tg (sH K a) [it] it (fun i h=>h.IsTupleIter it a i) where
 mem:=by simp
 obj:=fun i h st b hb=>by
  have e:b=it:=by simpa using hb
  subst e;obtain⟨o,e,c,d⟩:=st;exact⟨o,e,fun v z=>by rw[d] at z;cases z⟩
 keep:=fun i h h' st k=>st.at fun o e=>k it (by simp) o e
 item:=by
  intro X hP hw hK hc i pins s σ H E I hf st hg;subst hP hw hK;obtain⟨xs,x,hq,hx⟩:=hg;obtain⟨fm,rv,p,hz⟩:=I.tuple hq;obtain⟨u,hu,ru⟩:=rv.get hx;obtain⟨f0,f1,f2,f3,f4,f5⟩:=hf it (by simp);refine wpAny_pyNext_tuple_item st (show s.heap.IsTuple a fm.toArray from p) (x:=u) (by simpa using hu) fun h' Xy sb=>?_
  have I1:Inv X pins σ H {s with heap:=h'}:=I.turned (t':=s.toks) (fun b o hb e=>(sb.2 b hb).trans e) f0 f1 f3 f4 f5;obtain⟨o,e,c,d⟩:=id Xy;exact⟨u,rfl,C3 (s:={s with heap:=h'}) e c d (by decide) ⟨x,H,I1,ru,⟨rfl,fun ys hy=>by rw[I.qf hy hq];exact hx⟩,Xy,fun b hb=>(hf b hb).1⟩⟩
 done:=by
  intro X hP hw hK hc i pins s σ H E I hf st hg;subst hP hw hK;obtain⟨xs,hq,hx⟩:=hg;obtain⟨fm,rv,p,hz⟩:=I.tuple hq;obtain⟨f0,f1,f2,f3,f4,f5⟩:=hf it (by simp);have hl:=rv.length;exact wpAny_pyNext_tuple_end (I.ok.hd hc) st (show s.heap.IsTuple a fm.toArray from p) (by simp;lia) fun h' eb=>⟨rfl,I.turned (t':=s.toks) (fun b o hb e=>eb b o hb e) f0 f1 f3 f4 f5⟩
 self:=fun _ _ _ _ _ st h=>wpAny_pyIter_tupleiter st h
theorem wg{K:Fg}(it:Addr)(lo:Int)(n:Nat):pV P w K tg (xj lo n) [it] it (fun i h=>IsRangeIter h it (lo+(i:Nat)*1) ((n:Int)-(i:Nat)) 1) where
 mem:=by simp
 obj:=fun i h st b hb=>by
  have e:b=it:=by simpa using hb
  subst e
  exact⟨_,st,fun v z=>by
   have z':VB _=QZ v:=z
   cases z'⟩
 keep:=fun i h h' st k=>k it (by simp) _ st
 item:=by
  intro X hP hw hK hc i pins s σ H E I hf st hg;subst hP hw hK;obtain⟨f0,f1,f2,f3,f4,f5⟩:=hf it (by simp);have W:=Walks.range (prog:=X.prog) (w:=X.w) (I.ok.hd hc) it lo 1 n;refine W.item i s _ _ hg st fun v h' tk hv Xy kk=>?_
  obtain⟨t,rfl⟩:=hv;have I1:Inv X pins σ H {s with heap:=h',toks:=tk}:=I.turned (fun b o hb e=>kk b o (by simpa using hb) e) f0 f1 f3 f4 f5;refine⟨_,rfl,C3 (s:={s with heap:=h',toks:=tk}) (n:="range_iterator") Xy rfl rfl (by decide) ⟨.int (lo+i),H,I1,⟨t,?_⟩,⟨rfl,rfl⟩,Xy,fun b hb=>(hf b hb).1⟩⟩;rw[Int.mul_one]
 done:=by
  intro X hP hw hK hc i pins s σ H E I hf st hg;subst hP hw hK;obtain⟨f0,f1,f2,f3,f4,f5⟩:=hf it (by simp);exact wpAny_pyNext_range_end (I.ok.hd hc) st (by have:n<=i:=hg;lia) fun h' eb=>⟨rfl,I.turned (t':=s.toks) (fun b o hb e=>eb b o hb e) f0 f1 f3 f4 f5⟩
 self:=fun _ _ _ _ _ st h=>wpAny_pyIter_rangeiter st h
section
variable{X:Cx}{tg:Expr}
def kM(K:Fg)(tl:TE):TI:=fun σ H R=>tl σ H fun x H1=>∃a,x=.ref a/\(∃xs,SqL K H1 a xs)/\R (uN K a) H1
def kK(K:Fg)(tl:TE):TI:=fun σ H R=>tl σ H fun x H1=>∃a,x=.ref a/\(∃xs,SqT K H1 a xs)/\R (sH K a) H1
theorem eP(hl:PE X l tl):PI X tg l (kM X.K tl):=by
 intro pins s σ H R I h;refine bp (hl pins s σ H _ I h) fun v s1 ⟨x,H1,I1,r1,q1⟩=>?_
 obtain⟨a,e,⟨xs,hq⟩,q⟩:=q1;subst e;cases r1;obtain⟨fm,rv,p,hz⟩:=I1.list hq;refine NB p.isList ?_;refine⟨s1.heap.objs.size,[s1.heap.objs.size],_,_,H1,rfl,I1.kept (t':=s1.toks) fun b o e=>K9 _ e,qd a _,⟨_,Lu _ rfl,rfl,rfl⟩,fun b hb=>?_,q⟩;have e:b=s1.heap.objs.size:=by simpa using hb
 subst e;exact I1.fpOk (Lg _) (I1.hok.fresh (Lg _))
theorem gT(hl:PE X l tl):PI X tg l (kK X.K tl):=by
 intro pins s σ H R I h;refine bp (hl pins s σ H _ I h) fun v s1 ⟨x,H1,I1,r1,q1⟩=>?_
 obtain⟨a,e,⟨xs,hq⟩,q⟩:=q1;subst e;cases r1;obtain⟨fm,rv,p,hz⟩:=I1.tuple hq;refine MV (show s1.heap.IsTuple a fm.toArray from p) ?_;refine⟨s1.heap.objs.size,[s1.heap.objs.size],_,_,H1,rfl,I1.kept (t':=s1.toks) fun b o e=>K9 _ e,lV a _,⟨_,Lu _ rfl,rfl,rfl⟩,fun b hb=>?_,q⟩;have e:b=s1.heap.objs.size:=by simpa using hb
 subst e;exact I1.fpOk (Lg _) (I1.hok.fresh (Lg _))
theorem B0{H:Hp}{R:It->Hp->Prop}{lo hi:Int}{t u v:Tok}{tk:Nat}(I:Inv X pins σ H s)(h1 : -(2 ^ 62)<=lo)(h2:lo<2 ^ 62)(h3 : -(2 ^ 62)<=hi)(h4:hi<2 ^ 62)
  (q:R (xj lo (hi-lo).toNat) H):wpAny (model X.prog X.w) X.A (pyIter (.ref s.heap.objs.size)) (K1 X pins σ tg R) E {s with heap:=s.heap.push {cls:=.type "range",data:=.fields #[.int lo t,.int hi u,.int 1 v]},toks:=tk}:=by
 refine wpAny_pyIter_range (IsRange.new ..) (small_one h1 h2 h3 h4) ?_;have I1:Inv X pins σ H {s with heap:=s.heap.push {cls:=.type "range",data:=.fields #[.int lo t,.int hi u,.int 1 v]},toks:=tk}:=I.kept fun b o e=>K9 _ e
 refine⟨(s.heap.push {cls:=.type "range",data:=.fields #[.int lo t,.int hi u,.int 1 v]}).objs.size,[(s.heap.push {cls:=.type "range",data:=.fields #[.int lo t,.int hi u,.int 1 v]}).objs.size],_,_,H,rfl,
  I1.kept (t':=tk) fun b o e=>K9 _ e,wg _ lo (hi-lo).toNat,?_,fun b hb=>?_,q⟩
 ·have e1:lo+((0:Nat):Int)*1=lo:=by simp
  have e2:(((hi-lo).toNat:Nat):Int)-((0:Nat):Int)=NX.Range.rangeSize lo hi 1:=by rw[rangeSize_one];split <;> lia
  show IsRangeIter _ _ (lo+((0:Nat):Int)*1) ((((hi-lo).toNat:Nat):Int)-((0:Nat):Int)) 1;rw[e1,e2];exact Lu _ rfl
 ·have e:b=(s.heap.push {cls:=.type "range",data:=.fields #[.int lo t,.int hi u,.int 1 v]}).objs.size:=by simpa using hb
  subst e;exact I1.fpOk (Lg _) (I1.hok.fresh (Lg _))
def iS(ta:TA):TI:=fun σ H R=>ta σ H fun vs H1=>∃j:Int,vs=[.int j]/\-(2 ^ 62)<=j/\j<2 ^ 62/\R (xj 0 j.toNat) H1
theorem b_{a:Expr} {ta:TA} {p pos:Pos} (hg:Gl X "range") (hm:X.mg "range"=none) (ha:PA X [a] ta) (hs:starEach [a] X.env=[(false,eval a X.env)]:=by rfl):PI X tg (.Call (.Name "range" p) [a] [] pos) (iS ta):=by
 intro pins s σ H R I h;refine Call_ (fC I hg hm boot_range (ML (bp (ha pos pins s σ H _ I h) fun us s1 ⟨vs,H1,I1,r1,q1⟩=>?_) hs rfl));obtain⟨j,e,q1,q2,q⟩:=q1;subst e;cases r1 with
 |cons r rr =>
  cases rr;obtain⟨t,rfl⟩:=r;exact call_range_1 (B0 I1 (by lia) (by lia) q1 q2 (by simpa using q))
def eF(wi:TI)(g:TG)(tb:TS):TS:=fun D σ H=>wi σ H fun J H1=>∃W:Nat->Nat->St->Hp->Prop,(∃m,W 0 m σ H1)/\∀i m σ H,W i m σ H ->
 (J.stop i H/\D.nx σ H)\/(J.go i H/\∃N:St->Hp->Prop,(∀σ' H',N σ' H'->∃m',m'<m/\W (i+1) m' σ' H')/\∀x H',J.yld i H x H'->g x σ H' fun σ2 H2=>tb {D with nx:=N,ct:=N,bk:=D.nx} σ2 H2)
def vA(fp:List Addr)(h:Heap):List (Addr×Obj):=fp.filterMap fun b=>(h.get? b).map fun o=>(b,o)
theorem cD{fp:List Addr}{h:Heap}{b:Addr}{o:Obj}(hb:b∈fp)(e:h.get? b=some o):(b,o)∈vA fp h:=M9.mpr ⟨b,hb,by rw[e];rfl⟩
theorem zu{p:Addr×Obj}(hp:p∈vA fp h):p.1∈fp/\h.get? p.1=some p.2:=by
 obtain⟨b,hb,e⟩:=M9.mp hp;cases q:h.get? b with
 |none=>rw[q] at e;cases e
 |some o =>
  rw[q] at e;have e':(b,o)=p:=LF e;subst e';exact⟨hb,q⟩
theorem Inv.pinned{H:Hp}{fp:List Addr}(I:Inv X pins σ H s)(hf:∀b∈fp,ft X pins H b)(ho:∀b∈fp,∃o,s.heap.get? b=some o/\∀v,o.data≠.cell v):Inv X (pins++vA fp s.heap) σ H s :=
 I.zc fun p hp=>(LZ.mp hp).elim (fun z=>I.pin p (LO _ z)) fun z=>by
  obtain⟨hb,e⟩:=zu z;obtain⟨f0,f1,f2,_⟩:=hf p.1 hb;obtain⟨o,e',d⟩:=ho p.1 hb;rw[e] at e';cases e';exact⟨e,f0,f1,f2,d⟩
theorem Inv.fV{pins pl:List (Addr×Obj)}{H:Hp}(I:Inv X (pins++pl) σ H s):Inv X pins σ H s:=I.zc fun p hp=>I.pin p (LO _ (NT _ hp))
theorem cS{iter:Expr}{pos:Pos}(hp:Qj (model X.prog X.w) X.A X.env X.xe)(hc:X.calm=true)(hi:PI X tg iter wi)(hg:PG X tg g)(hb:PSs X body tb)
  (hs:∀x,foldedSetIterable iter X.env x=pure x:=by intro _;rfl):PS X (.For tg iter body [] pos) (eF wi g tb):=by
 intro pins s σ H D I h;refine wpAny_For (bp (hi pins s σ H _ I h) fun v s1 h1=>bp h1 fun Zx s2 h2=>?_) hs;obtain⟨it,fp,tn,J,H2,e,I2,T,Zj,f2,W,⟨m0,w0⟩,turn⟩:=h2;subst e;have Xd:∀{H':Hp},(∀b∈fp,H' b=none)->∀b∈fp,ft X pins H' b:=fun hn b hb=>⟨hn b hb,(f2 b hb).2⟩
 refine codeAny_forLoop_any (fun n s'=>∃i σ' H',Inv X pins σ' H' s'/\tn i s'.heap/\(∀b∈fp,H' b=none)/\W i n σ' H') ?_ m0 ⟨0,σ,H2,I2,Zj,fun b hb=>(f2 b hb).1,w0⟩;rintro n s3 ⟨i,σ3,H3,I3,st3,fr3,w3⟩;rcases turn i n σ3 H3 w3 with⟨stop,qn⟩|⟨go,N,hN,step⟩
 ·refine Oj hp (bp (T.done X rfl rfl rfl hc i pins s3 σ3 H3 X.xe I3 (Xd fr3) st3 stop) fun r s4 ⟨hr,I4⟩=>?_);subst hr;exact Oi ⟨σ3,H3,I4,qn⟩
 ·refine Oj hp (bp (T.item X rfl rfl rfl hc i pins s3 σ3 H3 X.xe I3 (Xd fr3) st3 go) fun r s4 ⟨u,hr,h4⟩=>?_);subst hr;refine Oj hp (bp h4 fun _ s5 ⟨x,H5,I5,r5,y5,Yw,YY⟩=>?_);have I5':=I5.pinned (Xd YY) (T.obj _ _ Yw);refine Oj hp (bp (hg _ s5 σ3 H5 x u _ I5' r5 (step x H5 y5)) fun _ s6 ⟨σ6,H6,I6,q6⟩=>?_);refine Oj hp (bp (hb _ s6 σ6 H6 _ I6 q6) fun f s7 q7=>?_)
  have again:∀{σ7:St} {H7:Hp},Inv X (pins++vA fp s5.heap) σ7 H7 s7->N σ7 H7->∃m,m<n/\∃i σ' H',Inv X pins σ' H' s7/\tn i s7.heap/\(∀b∈fp,H' b=none)/\W i m σ' H':=fun {σ7 H7} I7 n7=>by
   obtain⟨m',hm,w7⟩:=hN σ7 H7 n7;refine⟨m',hm,i+1,σ7,H7,I7.fV,T.keep _ _ _ Yw fun b hb o e=>(I7.pin (b,o) (LO _ (LO _ (cD hb e)))).1,fun b hb=>?_,w7⟩;obtain⟨o,e,d⟩:=T.obj _ _ Yw b hb;exact(I7.pin (b,o) (LO _ (LO _ (cD hb e)))).2.1
  cases f with
  |next=>obtain⟨σ7,H7,I7,n7⟩:=q7;exact again I7 n7
  |cont=>obtain⟨σ7,H7,I7,n7⟩:=q7;exact again I7 n7
  |brk=>obtain⟨σ7,H7,I7,q7⟩:=q7;exact⟨σ7,H7,I7.fV,q7⟩
  |ret v=>obtain⟨x7,σ7,H7,I7,r7,q7⟩:=q7;exact⟨x7,σ7,H7,I7.fV,r7,q7⟩
end
theorem C9{K:Fg}{xs:List V}{g:TG}{tb:TS}{D:cq}{H:Hp}(Pv:Nat->St->Hp->Prop)(h0:Pv 0 σ H)(hl:∀i σ H,i<=xs.length->Pv i σ H->SqL K H a xs)
  (hs:∀i x σ H,xs[i]?=some x->Pv i σ H->g x σ H fun σ2 H2=>tb {D with nx:=Pv (i+1),ct:=Pv (i+1),bk:=D.nx} σ2 H2) (hd:∀σ H,Pv xs.length σ H->D.nx σ H) :
  ∃W:Nat->Nat->St->Hp->Prop,(∃m,W 0 m σ H)/\∀i m σ H,W i m σ H ->
   ((uN K a).stop i H/\D.nx σ H)\/((uN K a).go i H/\∃N:St->Hp->Prop,(∀σ' H',N σ' H'->∃m',m'<m/\W (i+1) m' σ' H')/\∀x H',(uN K a).yld i H x H'->g x σ H' fun σ2 H2=>tb {D with nx:=N,ct:=N,bk:=D.nx} σ2 H2):=by
 refine⟨fun i m σ H=>m=xs.length-i/\i<=xs.length/\Pv i σ H,⟨xs.length,by simp,Ml _,h0⟩,?_⟩;rintro i m σ H ⟨rfl,hi,p⟩;have q:=hl i σ H hi p;by_cases Wm:i<xs.length
 ·refine .inr ⟨⟨xs,xs[i],q,by simp[Wm]⟩,Pv (i+1),fun σ' H' p'=>⟨xs.length-(i+1),by lia,rfl,Wm,p'⟩,fun x H' y=>?_⟩;obtain⟨e,y⟩:=y;subst e;exact hs i x σ _ (y xs q) p
 ·have e:i=xs.length:=by lia
  subst e;exact .inl ⟨⟨xs,q,Lg _⟩,hd σ H p⟩
theorem Gn{K:Fg}{xs:List V}{g:TG}{tb:TS}{D:cq}{H:Hp}(Pv:Nat->St->Hp->Prop)(h0:Pv 0 σ H)(hl:∀i σ H,i<=xs.length->Pv i σ H->SqT K H a xs)
  (hs:∀i x σ H,xs[i]?=some x->Pv i σ H->g x σ H fun σ2 H2=>tb {D with nx:=Pv (i+1),ct:=Pv (i+1),bk:=D.nx} σ2 H2) (hd:∀σ H,Pv xs.length σ H->D.nx σ H) :
  ∃W:Nat->Nat->St->Hp->Prop,(∃m,W 0 m σ H)/\∀i m σ H,W i m σ H ->
   ((sH K a).stop i H/\D.nx σ H)\/((sH K a).go i H/\∃N:St->Hp->Prop,(∀σ' H',N σ' H'->∃m',m'<m/\W (i+1) m' σ' H')/\∀x H',(sH K a).yld i H x H'->g x σ H' fun σ2 H2=>tb {D with nx:=N,ct:=N,bk:=D.nx} σ2 H2):=by
 refine⟨fun i m σ H=>m=xs.length-i/\i<=xs.length/\Pv i σ H,⟨xs.length,by simp,Ml _,h0⟩,?_⟩;rintro i m σ H ⟨rfl,hi,p⟩;have q:=hl i σ H hi p;by_cases Wm:i<xs.length
 ·refine .inr ⟨⟨xs,xs[i],q,by simp[Wm]⟩,Pv (i+1),fun σ' H' p'=>⟨xs.length-(i+1),by lia,rfl,Wm,p'⟩,fun x H' y=>?_⟩;obtain⟨e,y⟩:=y;subst e;exact hs i x σ _ (y xs q) p
 ·have e:i=xs.length:=by lia
  subst e;exact .inl ⟨⟨xs,q,Lg _⟩,hd σ H p⟩
theorem Ay{lo:Int}{n:Nat}{g:TG}{tb:TS}{D:cq}{H:Hp}(Pv:Nat->St->Hp->Prop)(h0:Pv 0 σ H)
  (hs:∀i σ H,i<n->Pv i σ H->g (.int (lo+i)) σ H fun σ2 H2=>tb {D with nx:=Pv (i+1),ct:=Pv (i+1),bk:=D.nx} σ2 H2) (hd:∀σ H,Pv n σ H->D.nx σ H) :
  ∃W:Nat->Nat->St->Hp->Prop,(∃m,W 0 m σ H)/\∀i m σ H,W i m σ H ->
   ((xj lo n).stop i H/\D.nx σ H)\/((xj lo n).go i H/\∃N:St->Hp->Prop,(∀σ' H',N σ' H'->∃m',m'<m/\W (i+1) m' σ' H')/\∀x H',(xj lo n).yld i H x H'->g x σ H' fun σ2 H2=>tb {D with nx:=N,ct:=N,bk:=D.nx} σ2 H2):=by
 refine⟨fun i m σ H=>m=n-i/\i<=n/\Pv i σ H,⟨n,by simp,Ml _,h0⟩,?_⟩;rintro i m σ H ⟨rfl,hi,p⟩;by_cases Wm:i<n
 ·refine .inr ⟨Wm,Pv (i+1),fun σ' H' p'=>⟨n-(i+1),by lia,rfl,Wm,p'⟩,fun x H' y=>?_⟩;obtain⟨e,y⟩:=y;subst e y;exact hs i σ _ Wm p
 ·have e:i=n:=by lia
  subst e;exact .inl ⟨Lg _,hd σ H p⟩
theorem Bh{c:TT}{tb:TS}{D:cq}{H:Hp}(Pv:St->Hp->Prop)(μ:St->Hp->Nat)(h0:Pv σ H)
  (hs:∀σ H,Pv σ H->c σ H fun b H1=>if b=true then tb {D with nx:=fun σ' H'=>Pv σ' H'/\μ σ' H'<μ σ H,ct:=fun σ' H'=>Pv σ' H'/\μ σ' H'<μ σ H,bk:=D.nx} σ H1 else D.nx σ H1)
  (mono:∀σ H Q Q',(∀b H1,Q b H1->Q' b H1)->c σ H Q->c σ H Q'):xY c tb D σ H:=by
 refine⟨fun m σ H=>m=μ σ H/\Pv σ H,⟨_,rfl,h0⟩,?_⟩;rintro m σ H ⟨rfl,p⟩;refine mono σ H _ _ (fun b H1 q=>?_) (hs σ H p);cases b with
 |true=>exact⟨_,fun σ' H' ⟨p',l⟩=>⟨_,l,rfl,p'⟩,q⟩
 |false=>exact q
abbrev R2:=V->V->Hp->VK->Prop
def fq(X:Cx)(f:K_->K_->Sem K_)(r:R2):Prop :=
 ∀(pins:List (Addr×Obj)) (s:Lf) (σ:St) (H:Hp) (x y:V) (v u:K_) (Q:VK),Inv X pins σ H s->RelV x v->RelV y u->r x y H Q ->
  wpAny (model X.prog X.w) X.A (f v u) (EP X pins σ Q) X.xe s
def KI(X:Cx)(f:K_->Sem K_)(r:V->Hp->VK->Prop):Prop :=
 ∀(pins:List (Addr×Obj)) (s:Lf) (σ:St) (H:Hp) (x:V) (v:K_) (Q:VK),Inv X pins σ H s->RelV x v->r x H Q ->
  wpAny (model X.prog X.w) X.A (f v) (EP X pins σ Q) X.xe s
def iZ(X:Cx)(f:K_)(r:List V->Hp->VK->Prop):Prop :=
 ∀(pins:List (Addr×Obj)) (s:Lf) (σ:St) (H:Hp) (xs:List V) (us:List K_) (Q:VK),Inv X pins σ H s->Vals xs us->r xs H Q ->
  wpAny (model X.prog X.w) X.A (call f us) (EP X pins σ Q) X.xe s
def aB(r:R2)(ta tb:TE):TE:=fun σ H Q=>ta σ H fun x H1=>tb σ H1 fun y H2=>r x y H2 Q
def G0(r:V->Hp->VK->Prop)(ta:TE):TE:=fun σ H Q=>ta σ H fun x H1=>r x H1 Q
def rI(C:Int->Int->Prop)(g:Int->Int->V):R2:=fun x y H Q=>∃i j,x=.int i/\y=.int j/\C i j/\Q (g i j) H
def t_(g:Int->Int->V):R2:=fun x y H Q=>∃i j,x=.int i/\y=.int j/\Q (g i j) H
def rU(g:Int->V):V->Hp->VK->Prop:=fun x H Q=>∃i,x=.int i/\Q (g i) H
section
variable{X:Cx}{a b c:Expr}{ta tb tc:TE}{pos:Pos}
theorem Gy(ha:PE X a ta)(hb:PE X b tb){H:Hp}{R:V->V->Hp->Prop}(I:Inv X pins σ H s)
  (h:ta σ H fun x H1=>tb σ H1 fun y H2=>R x y H2)  {f:K_->K_->Sem K_}
  (hf:∀v u s2 x y H2,Inv X pins σ H2 s2->RelV x v->RelV y u->R x y H2->wpAny (model X.prog X.w) X.A (f v u) Q X.xe s2) :
  wpAny (model X.prog X.w) X.A (eval a X.env) (fun v s₁=>wpAny (model X.prog X.w) X.A (eval b X.env) (fun u s₂=>wpAny (model X.prog X.w) X.A (f v u) Q X.xe s₂) X.xe s₁) X.xe s:=by
 refine bp (ha pins s σ H _ I h) fun v s1 ⟨x,H1,I1,r1,q1⟩=>?_
 refine bp (hb pins s1 σ H1 _ I1 q1) fun u s2 ⟨y,H2,I2,r2,q2⟩=>?_
 exact hf v u s2 x y H2 I2 r1 r2 q2
theorem aN(ho:fq X (binaryOp op) r)(ha:PE X a ta)(hb:PE X b tb):PE X (.BinOp a op b pos) (aB r ta tb):=by
 intro pins s σ H Q I h;exact wpAny_BinOp (Gy ha hb I h fun v u s2 x y H2 I2 rx ry q=>ho pins s2 σ H2 x y v u Q I2 rx ry q)
theorem Fw(ho:KI X (unaryOp op) r)(ha:PE X a ta):PE X (.UnaryOp op a pos) (G0 r ta):=by
 intro pins s σ H Q I h;exact UnaryOp_ (bp (ha pins s σ H _ I h) fun v s1 ⟨x,H1,I1,r1,q1⟩=>ho pins s1 σ H1 x v Q I1 r1 q1)
theorem FI{f:K_->K_->Sem K_}{C:Int->Int->Prop}{g:Int->Int->Int}
  (rule:∀(i j:Int) (t u:Tok) (s:Lf) (Q:K_->Lf->Prop) (E:K_->Lf->Prop),C i j->Q (.int (g i j) s.toks) {s with toks:=s.toks+1}->wpAny (model X.prog X.w) X.A (f (.int i t) (.int j u)) Q E s) :
  fq X f (rI C fun i j=>.int (g i j)):=by
 intro pins s σ H x y v u Q I rx ry h;obtain⟨i,j,rfl,rfl,hc,q⟩:=h;obtain⟨t,rfl⟩:=rx;obtain⟨t',rfl⟩:=ry;exact rule i j t t' s _ _ hc ⟨.int (g i j),H,I.tok _,⟨_,rfl⟩,q⟩
theorem HB{f:K_->K_->Sem K_}{g:Int->Int->Int}
  (rule:∀(i j:Int) (t u:Tok) (s:Lf) (Q:K_->Lf->Prop) (E:K_->Lf->Prop),Q (.int (g i j) s.toks) {s with toks:=s.toks+1}->wpAny (model X.prog X.w) X.A (f (.int i t) (.int j u)) Q E s) :
  fq X f (t_ fun i j=>.int (g i j)):=by
 intro pins s σ H x y v u Q I rx ry h;obtain⟨i,j,rfl,rfl,q⟩:=h;obtain⟨t,rfl⟩:=rx;obtain⟨t',rfl⟩:=ry;exact rule i j t t' s _ _ ⟨.int (g i j),H,I.tok _,⟨_,rfl⟩,q⟩
theorem Ct{f:K_->K_->Sem K_}{g:Int->Int->Bool}
  (rule:∀(i j:Int) (t u:Tok) (s:Lf) (Q:K_->Lf->Prop) (E:K_->Lf->Prop),Q (.bool (g i j)) s->wpAny (model X.prog X.w) X.A (f (.int i t) (.int j u)) Q E s) :
  fq X f (t_ fun i j=>.bl (g i j)):=by
 intro pins s σ H x y v u Q I rx ry h;obtain⟨i,j,rfl,rfl,q⟩:=h;obtain⟨t,rfl⟩:=rx;obtain⟨t',rfl⟩:=ry;exact rule i j t t' s _ _ ⟨.bl (g i j),H,I,rfl,q⟩
def GQ(i j:Int):Prop:=0<j/\j<1073741824
def Jl(i j:Int):Prop:=0<=j/\j<=1000000/\i.natAbs<2 ^ 64
def CMul(i j:Int):Prop:=(-(2 ^ 64)<i/\i<2 ^ 64)\/(-(2 ^ 64)<j/\j<2 ^ 64)
theorem CMul.ok(h:CMul i j):IntMulOk i j:=by
 rcases h with⟨h1,h2⟩|⟨h1,h2⟩
 ·exact .of_left (intBits_le_64 h1 h2)
 ·exact .of_right (intBits_le_64 h1 h2)
theorem bO:fq X (binaryOp .Add) (t_ fun i j=>.int (i+j)):=HB fun _ _ _ _ _ _ _ q=>add_int q
theorem vE:fq X (binaryOp .Sub) (t_ fun i j=>.int (i-j)):=HB fun _ _ _ _ _ _ _ q=>sub_int q
theorem kc:fq X (binaryOp .Mult) (rI CMul fun i j=>.int (i*j)):=FI fun _ _ _ _ _ _ _ hc q=>mul_int q hc.ok
theorem fy:fq X (binaryOp .FloorDiv) (rI GQ fun i j=>.int (i / j)):=FI fun i j _ _ _ _ _ hc q=>by
 have h1:(0:Int)<j:=hc.1;have h2:j<1073741824:=hc.2;exact floordiv_int (by lia) (by rw[Int.fdiv_eq_ediv_of_nonneg i (by lia)];exact q) (.inl (PyProof.noPylong_small (by lia)))
theorem bu:fq X (binaryOp .Mod) (rI (fun _ j=>0<j) fun i j=>.int (i % j)):=FI fun i j _ _ _ _ _ hc q=>by
 have h1:(0:Int)<j:=hc;exact mod_int' (by lia) (by rw[Int.fmod_eq_emod_of_nonneg i (by lia)];exact q)
theorem zo:fq X (binaryOp .Mod) (rI (fun _ j=>j≠0) fun i j=>.int (i.fmod j)):=FI fun _ _ _ _ _ _ _ hc q=>mod_int' hc q
theorem Hy:fq X (binaryOp .Pow) (rI Jl fun i j=>.int (i ^ j.toNat)):=FI fun _ _ _ _ _ _ _ hc q=>pow_int_small hc.1 hc.2.1 hc.2.2 q
theorem K3{f:K_->Sem K_}{g:Int->Int}
  (rule:∀(i:Int) (t:Tok) (s:Lf) (Q:K_->Lf->Prop) (E:K_->Lf->Prop),Q (.int (g i) s.toks) {s with toks:=s.toks+1}->wpAny (model X.prog X.w) X.A (f (.int i t)) Q E s) :
  KI X f (rU fun i=>.int (g i)):=by
 intro pins s σ H x v Q I rx h;obtain⟨i,rfl,q⟩:=h;obtain⟨t,rfl⟩:=rx;exact rule i t s _ _ ⟨.int (g i),H,I.tok _,⟨_,rfl⟩,q⟩
theorem xx:KI X (unaryOp .USub) (rU fun i=>.int (-i)):=K3 fun _ _ _ _ _ q=>neg_int q
end
def Ha:V->V->Bool
 |.non,.non=>true|.non,.int _=>true|.int _,.non=>true|.non,.bl _=>true|.bl _,.non=>true|.non,.str _=>true|.str _,.non=>true
 |.int _,.int _=>true|.bl _,.bl _=>true|.str _,.str _=>true|.byt _,.byt _=>true
 |.int _,.str _=>true|.str _,.int _=>true|.bl _,.str _=>true|.str _,.bl _=>true
 |_,_=>false
def fw:R2:=fun x y H Q=>Ha x y=true/\Q (.bl (decide (x=y))) H
def A0:R2:=fun x y H Q=>Ha x y=true/\Q (.bl (!decide (x=y))) H
theorem AB:decide (V.int i=V.int j)=(i == j):=by
 rw[PD];simp
theorem Ei:decide (V.bl i=V.bl j)=(i == j):=by
 rw[PD];simp
theorem AA:decide (V.str i=V.str j)=(i == j):=by
 rw[PD];simp
theorem AC:decide (V.byt i=V.byt j)=(i.toList == j.toList):=by
 rw[PD];cases i;cases j;simp
section
variable{X:Cx}{a b c:Expr}{ta tb tc:TE}{pos:Pos}
theorem bC{H:Hp}{Q:VK}{k':Bool}(I:Inv X pins σ H s)(q:Q (.bl k) H)(e:k=k'):EP X pins σ Q (.bool k') s:=by
 subst e;exact⟨.bl k,H,I,rfl,q⟩
theorem cg:fq X (compareOp .Eq) fw:=by
 intro pins s σ H x y v u Q I rx ry h;obtain⟨hs,q⟩:=h;cases x with
 |non =>
  cases rx;cases y with
  |non=>cases ry;exact PySem.EqNone.eq_none_none (bC I q (by simp))
  |bl j=>cases ry;exact PySem.EqNone.eq_none_bool (bC I q (by simp))
  |int j=>obtain⟨t',rfl⟩:=ry;exact PySem.EqNone.eq_none_int (bC I q (by simp))
  |str j=>obtain⟨t',rfl⟩:=ry;exact PySem.EqNone.eq_none_str (bC I q (by simp))
  |_=>exact absurd (show false=true from hs) LP
 |bl i =>
  cases rx;cases y with
  |non=>cases ry;exact PySem.EqNone.eq_bool_none (bC I q (by simp))
  |bl j=>cases ry;exact eq_bool (bC I q Ei)
  |str j=>obtain⟨t',rfl⟩:=ry;exact PySem.EqMixed.eq_bool_str (bC I q (by simp))
  |_=>exact absurd (show false=true from hs) LP
 |int i =>
  obtain⟨t,rfl⟩:=rx;cases y with
  |non=>cases ry;exact PySem.EqNone.eq_int_none (bC I q (by simp))
  |int j=>obtain⟨t',rfl⟩:=ry;exact eq_int (bC I q AB)
  |str j=>obtain⟨t',rfl⟩:=ry;exact PySem.EqMixed.eq_int_str (bC I q (by simp))
  |_=>exact absurd (show false=true from hs) LP
 |str i =>
  obtain⟨t,rfl⟩:=rx;cases y with
  |non=>cases ry;exact PySem.EqNone.eq_str_none (bC I q (by simp))
  |bl j=>cases ry;exact PySem.EqMixed.eq_str_bool (bC I q (by simp))
  |int j=>obtain⟨t',rfl⟩:=ry;exact PySem.EqMixed.eq_str_int (bC I q (by simp))
  |str j=>obtain⟨t',rfl⟩:=ry;exact eq_str (bC I q AA)
  |_=>exact absurd (show false=true from hs) LP
 |byt i =>
  obtain⟨t,rfl⟩:=rx;cases y with
  |byt j=>obtain⟨t',rfl⟩:=ry;exact PySem.W.eq_bytes (bC I q AC)
  |_=>exact absurd (show false=true from hs) LP
 |_=>cases y <;> exact absurd (show false=true from hs) LP
theorem ud:fq X (compareOp .NotEq) A0:=by
 intro pins s σ H x y v u Q I rx ry h;obtain⟨hs,q⟩:=h;cases x with
 |non =>
  cases rx;cases y with
  |non=>cases ry;exact PySem.EqNone.ne_none_none (bC I q (by simp))
  |bl j=>cases ry;exact PySem.EqNone.ne_none_bool (bC I q (by simp))
  |int j=>obtain⟨t',rfl⟩:=ry;exact PySem.EqNone.ne_none_int (bC I q (by simp))
  |str j=>obtain⟨t',rfl⟩:=ry;exact PySem.EqNone.ne_none_str (bC I q (by simp))
  |_=>exact absurd (show false=true from hs) LP
 |bl i =>
  cases rx;cases y with
  |non=>cases ry;exact PySem.EqNone.ne_bool_none (bC I q (by simp))
  |bl j=>cases ry;exact ne_bool (bC I q (congrArg not Ei))
  |str j=>obtain⟨t',rfl⟩:=ry;exact PySem.EqMixed.ne_bool_str (bC I q (by simp))
  |_=>exact absurd (show false=true from hs) LP
 |int i =>
  obtain⟨t,rfl⟩:=rx;cases y with
  |non=>cases ry;exact PySem.EqNone.ne_int_none (bC I q (by simp))
  |int j=>obtain⟨t',rfl⟩:=ry;exact ne_int (bC I q (congrArg not AB))
  |str j=>obtain⟨t',rfl⟩:=ry;exact PySem.EqMixed.ne_int_str (bC I q (by simp))
  |_=>exact absurd (show false=true from hs) LP
 |str i =>
  obtain⟨t,rfl⟩:=rx;cases y with
  |non=>cases ry;exact PySem.EqNone.ne_str_none (bC I q (by simp))
  |bl j=>cases ry;exact PySem.EqMixed.ne_str_bool (bC I q (by simp))
  |int j=>obtain⟨t',rfl⟩:=ry;exact PySem.EqMixed.ne_str_int (bC I q (by simp))
  |str j=>obtain⟨t',rfl⟩:=ry;exact ne_str (bC I q (congrArg not AA))
  |_=>exact absurd (show false=true from hs) LP
 |byt i =>
  obtain⟨t,rfl⟩:=rx;cases y with
  |byt j=>obtain⟨t',rfl⟩:=ry;exact PySem.W.ne_bytes (bC I q (congrArg not AC))
  |_=>exact absurd (show false=true from hs) LP
 |_=>cases y <;> exact absurd (show false=true from hs) LP
theorem oU:fq X (compareOp .Lt) (t_ fun i j=>.bl (decide (i<j))):=Ct fun _ _ _ _ _ _ _ q=>lt_int q
theorem oV:fq X (compareOp .LtE) (t_ fun i j=>.bl (decide (i<=j))):=Ct fun _ _ _ _ _ _ _ q=>le_int q
theorem wJ:fq X (compareOp .Gt) (t_ fun i j=>.bl (decide (j<i))):=Ct fun _ _ _ _ _ _ _ q=>gt_int q
theorem HA:fq X (compareOp .GtE) (t_ fun i j=>.bl (decide (j<=i))):=Ct fun _ _ _ _ _ _ _ q=>ge_int q
theorem ma:fq X (compareOp .Is) (fun x y H Q=>y=.non/\Q (.bl (decide (x=.non))) H):=by
 intro pins s σ H x y v u Q I rx ry h;obtain⟨rfl,q⟩:=h;cases ry;refine is_none_gen (bC I q ?_)
 cases x <;> first
  |(cases rx;rfl)
  |(obtain⟨t,rfl⟩:=rx;rfl)
theorem aO(b:Expr){op:CmpOp}(h:op≠.In:=by decide)(h2:op≠.NotIn:=by decide):behindInMarks op b=false:=by
 have e1:(op == CmpOp.In)=false:=by cases op <;> first|rfl|exact absurd rfl h
 have e2:(op == CmpOp.NotIn)=false:=by cases op <;> first|rfl|exact absurd rfl h2
 cases b <;> simp[behindInMarks,e1,e2]
theorem bF(ho:fq X (compareOp op) r)(ha:PE X a ta)(hb:PE X b tb)(hm:behindInMarks op b=false):PE X (.Compare a [op] [b] pos) (aB r ta tb):=by
 intro pins s σ H Q I h;exact wpAny_Compare1 (Gy ha hb I h fun v u s2 x y H2 I2 rx ry q=>ho pins s2 σ H2 x y v u Q I2 rx ry q) hm
def bg(t:TE):TT:=fun σ H Q=>t σ H fun x H'=>∃k,x=.bl k/\Q k H'
theorem aP(ho:fq X (compareOp op) r)(ha:PE X a ta)(hb:PE X b tb)(hm:behindInMarks op b=false):PT X (.Compare a [op] [b] pos) (bg (aB r ta tb)):=by
 intro pins s σ H Q I h
 refine wpAny_isTrue_Compare1 (bp (ha pins s σ H _ I h) fun v s1 ⟨x,H1,I1,r1,q1⟩=>bp (hb pins s1 σ H1 _ I1 q1) fun u s2 ⟨y,H2,I2,r2,q2⟩ =>
  bp (ho pins s2 σ H2 x y v u _ I2 r1 r2 q2) fun c s3 ⟨z,H3,I3,r3,k,e,q3⟩=>?_) hm
 subst e;cases r3;exact Nk ⟨H3,I3,q3⟩
def gP(r r':R2)(ta tb tc:TE):TE:=fun σ H Q=>ta σ H fun x H1=>tb σ H1 fun y H2=>r x y H2 fun z H3=>∃k,z=.bl k /\
 (if k=true then tc σ H3 fun w' H4=>r' y w' H4 Q else Q (.bl false) H3)
theorem oS(ho:fq X (compareOp op) r)(XE:fq X (compareOp op') r')(ha:PE X a ta)(hb:PE X b tb)(hc:PE X c tc)
  (hm:lastMarks [op,op'] [b,c]=false:=by with_unfolding_all rfl):PE X (.Compare a [op,op'] [b,c] pos) (gP r r' ta tb tc):=by
 intro pins s σ H Q I h
 refine Compare_chain (bp (ha pins s σ H _ I h) fun v s1 ⟨x,H1,I1,r1,q1⟩=>chain_link (bp (hb pins s1 σ H1 _ I1 q1) fun u s2 ⟨y,H2,I2,r2,q2⟩ =>
  bp (ho pins s2 σ H2 x y v u _ I2 r1 r2 q2) fun d s3 ⟨z,H3,I3,r3,k,e,q3⟩=>?_)) hm
 subst e;cases r3;refine Nk ?_;cases k with
 |false=>exact ite_ff ⟨.bl false,H3,I3,rfl,q3⟩
 |true=>exact ite_tt (chain_last (bp (hc pins s3 σ H3 _ I3 q3) fun w' s4 ⟨z',H4,I4,r4,q4⟩=>XE pins s4 σ H4 y z' u w' Q I4 r2 r4 q4))
theorem oO(ho:fq X (compareOp op) r)(XE:fq X (compareOp op') r')(ha:PE X a ta)(hb:PE X b tb)(hc:PE X c tc)
  (hm:lastMarks [op,op'] [b,c]=false:=by with_unfolding_all rfl):PT X (.Compare a [op,op'] [b,c] pos) (bg (gP r r' ta tb tc)):=by
 intro pins s σ H Q I h
 refine isTrue_chain (bp (ha pins s σ H _ I h) fun v s1 ⟨x,H1,I1,r1,q1⟩=>test_link (bp (hb pins s1 σ H1 _ I1 q1) fun u s2 ⟨y,H2,I2,r2,q2⟩ =>
  bp (ho pins s2 σ H2 x y v u _ I2 r1 r2 q2) fun d s3 ⟨z,H3,I3,r3,k,e,q3⟩=>?_)) hm
 subst e;cases r3;refine Nk ?_;cases k with
 |false =>
  obtain⟨k',e',q'⟩:=q3;cases e';exact ite_ff ⟨H3,I3,q'⟩
 |true =>
  refine ite_tt (test_last (bp (hc pins s3 σ H3 _ I3 q3) fun w' s4 ⟨z',H4,I4,r4,q4⟩=>bp (XE pins s4 σ H4 y z' u w' _ I4 r2 r4 q4) fun d' s5 ⟨z2,H5,I5,r5,k2,e2,q5⟩=>?_));subst e2;cases r5;exact Nk ⟨H5,I5,q5⟩
theorem mf:(sizeLine:Nat)<2 ^ 63:=by rw[Nl];decide
theorem bN:fq X (binaryOp .Add) (fun x y H Q=>∃i j,x=.str i/\y=.str j/\i.length+j.length<=sizeLine/\Q (.str (i++j)) H):=by
 intro pins s σ H x y v u Q I rx ry h;obtain⟨i,j,rfl,rfl,hz,q⟩:=h;obtain⟨t,rfl⟩:=rx;obtain⟨t',rfl⟩:=ry;exact add_str (fun t' tk=>⟨.str (i++j),H,I.tok _,⟨_,rfl⟩,q⟩) hz
theorem vals1{x:V}{us:List K_}(r:Vals [x] us):∃u,us=[u]/\RelV x u:=by
 cases r with
 |cons r1 r2=>cases r2;exact⟨_,rfl,r1⟩
theorem vals2{x y:V}{us:List K_}(r:Vals [x,y] us):∃u w',us=[u,w']/\RelV x u/\RelV y w':=by
 cases r with
 |cons r1 r2 =>
  cases r2 with
  |cons r3 r4=>cases r4;exact⟨_,_,rfl,r1,r3⟩
theorem wa:iZ X (.builtin "abs") (fun xs H Q=>∃i,xs=[.int i]/\Q (.int (if i<0 then -i else i)) H):=by
 intro pins s σ H xs us Q I r h;obtain⟨i,rfl,q⟩:=h;obtain⟨u,rfl,t,rfl⟩:=vals1 r;exact call_abs_int fun u tk=>⟨.int (if i<0 then -i else i),H,I.tok _,⟨_,rfl⟩,q⟩
end
structure ObjM (h:Heap) (x dx C:Addr) (mA:Str->Option K_):Prop where
 obj:h.get? x=some (N1 C dx)
 ns:h.Ns1 dx mA
 ne:dx≠x
theorem zF{h:Heap}(n:h.Ns1 dx mA):∃od,h.get? dx=some od/\∀name,Q4 name od=some (mA name):=by
 obtain⟨o,es,ep,ho,hd,hk,_,hm⟩:=n;refine⟨o,ho,fun name=>?_⟩;have e:=hm name;unfold nsFind findBy at e;rw[<- Array.find?_toList] at e;unfold Q4;rw[hd];dsimp only;split
 ·rename_i y q;rw[q] at e;exact congrArg some e
 ·rename_i q;rw[q] at e
  have a:es.toList.any (·.refKey)=false:=by
   rw[UF];intro y hy;obtain⟨z,t,hkey⟩:=hk y (O9.mp hy);simp[RL.refKey,hkey]
  have a' : ¬ es.toList.any (·.refKey)=true:=by rw[a];exact LP
  rw[if_neg a'];exact congrArg some e
theorem ObjM.look(I:ObjM h x dx C mA):∃od,PySem.W.InstAt h x (N1 C dx) C (some od)/\∀name,Q4 name od=some (mA name) :=
 let ⟨od,ho,hl⟩:=zF I.ns
 ⟨od,⟨I.obj,rfl,rfl,ho⟩,hl⟩
section
variable{prog:LA}{w:LL}{A:L4}{E:K_->Lf->Prop}{s:Lf}{K:Fg}{x dx C f:Addr}{mA:Str->Option K_}{name:Str}{v:K_}
theorem C5{Q:K_->Lf->Prop}(X:K.In s.heap)(I:ObjM s.heap x dx C mA)(hg:Ph K C name=true)(hh:O5 K C=true)
  (ha:L_ K (.ref C) name=some none) (hv:mA name=some v) (hv':Vh v=true) (h:Q v {s with toks:=s.toks+1}) :
  wpAny (model prog w) A (getAttr (.ref x) name expr) Q E s:=by
 obtain⟨od,J,hl⟩:=I.look;exact PySem.W.get_value X J (QM hg).1 (PySem.W.findObj_own hh ha rfl (by rw[hl,hv])) hv' h
theorem C4{Q:K_×List K_->Lf->Prop}(X:K.In s.heap)(I:ObjM s.heap x dx C mA)(hg:Ph K C name=true)
  (hf:L_ K (.ref C) name=some (some (.ref f))) (ht:P8 K (.ref f)=true) (hv:mA name=none) (h:Q (.ref f,[.ref x]) s) :
  wpAny (model prog w) A (getMethod (.ref x) name pl) Q E s:=by
 obtain⟨od,J,hl⟩:=I.look;exact PySem.W.method_fn X J (QM hg).1 (QM hg).2 hf (beq_iff_eq.mp ht) (by show(Q4 name od).map (·.isSome)=some false;rw[hl,hv];rfl) h
theorem EX{Q:Unit->Lf->Prop}(X:K.In s.heap)(I:ObjM s.heap x dx C mA)
  (hs:L_ K (.ref C) "__setattr__"=some (some (.builtin "object.__setattr__"))) (hp:Rn K C=true) (ht:Sw K C name=some none) (hh:O5 K C=true)
  (hw:R5 mA ns) (hsz:ns.length<=sizeLine)
  (h:∀h',ObjM h' x dx C (fun y=>if y=name then some v else mA y)->Oo dx s.heap h'->Q () {s with heap:=h',toks:=s.toks+2}) :
  wpAny (model prog w) A (setAttr (.ref x) name v) Q E s:=by
 obtain⟨od,J,hl⟩:=I.look;refine PySem.W.set_plain X J hs (PySem.W.osa_open (s:={s with toks:=s.toks+1}) (r:=none) X J hp ht fun b=>?_);obtain⟨cd,hc,X6⟩:=PySem.W.any_some hh;have hx:s.heap.get? x=some ⟨.ref C,some dx,.plain,#[]⟩:=I.obj;refine K8 (Le (K8 (K8 (wpAny_loadPart hx (K8 (Ur (s:={s with toks:=s.toks+1}) (PySem.W.looks_clsIn X hc) ?_))))));rw[X6];refine Le (a:=some dx) (K8 (Le (K8 ?_)));refine wpAny_nsSet1 (s:={s with toks:=s.toks+1}) I.ns fun h' hn2 hs2=>?_
 obtain⟨oD,esD,epD,hoD,hdD,hcD⟩:=hn2.count (UG name v hw);refine K8 (wpAny_lookBehind hoD (by rw[hdD];exact pastItsLine_dict (Mh hcD (by rw[L0];lia))) ?_);exact Le (h _ ⟨(hs2.2 _ (MO I.ne)).trans I.obj,hn2,I.ne⟩ hs2)
theorem CF{vs:List K_}{kw:List (Str×K_)}(X:K.In s.heap)(hm:QE K C=true)
  (hi:L_ K (.ref C) "__init__"=some (some (.ref f))) (hf:PySem.W.typeIn K (.ref f)=some (.type "function"))
  (h:codeAny (model prog w) (A.under (.builtin "type.__call__" ⟨.ref C :: vs,kw⟩)) (.call (.ref f) ⟨.ref (s.heap.objs.size+1) :: vs,kw⟩) (PySem.W.InitBack (s.heap.objs.size+1) R)
   {s with heap:=(s.heap.push Nm).push (N1 C s.heap.objs.size)}) :
  codeAny (model prog w) A (.call (.ref C) ⟨vs,kw⟩) R s:=by
 obtain⟨hh,g,d,t,os⟩:=s;exact PySem.W.make_core (PySem.W.makes_of X hm) (SX X hi) (fun self=>PySem.W.bind_fn X self hf) (.inl rfl) h
end
def bE(f:Str)(v:V):List (Str×V)->List (Str×V)
 |[]=>[(f,v)]
 |(g,x) :: r=>if g=f then (g,v) :: r else (g,x) :: bE f v r
theorem kr(f g:Str)(v:V):∀fs:List (Str×V),(bE f v fs).lookup g=if g=f then some v else fs.lookup g
 |[]=>by
  show OK g [(f,v)]=_;by_cases h:g=f
  ·have hb:(g == f)=true:=beq_iff_eq.mpr h;simp only[OK,hb,if_pos h]
  ·have hb:(g == f)=false:=beq_eq_false_iff_ne.mpr h;simp only[OK,hb,if_neg h]
 |(k,x) :: r=>by
  have ih:=kr f g v r;rw[show bE f v ((k,x) :: r)=(if k=f then (k,v) :: r else (k,x) :: bE f v r) from rfl];by_cases hk:k=f
  ·rw[if_pos hk];by_cases h:g=k
   ·have hb:(g == k)=true:=beq_iff_eq.mpr h;simp only[OK,hb,if_pos (h.trans hk)]
   ·have hb:(g == k)=false:=beq_eq_false_iff_ne.mpr h;simp only[OK,hb,if_neg (fun e:g=f=>h (e.trans hk.symm))]
  ·rw[if_neg hk];by_cases h:g=k
   ·have hb:(g == k)=true:=beq_iff_eq.mpr h;simp only[OK,hb,if_neg (fun e:g=f=>hk (h.symm.trans e))]
   ·have hb:(g == k)=false:=beq_eq_false_iff_ne.mpr h;simp only[OK,hb];exact ih
theorem kE(f:Str)(v:V):∀fs:List (Str×V),f∈(bE f v fs).map (·.1)/\∀g,g∈fs.map (·.1)->g∈(bE f v fs).map (·.1)
 |[]=>⟨by simp[bE],fun g h=>by simp at h⟩
 |(k,x) :: r=>by
  obtain⟨i1,i2⟩:=kE f v r;rw[show bE f v ((k,x) :: r)=(if k=f then (k,v) :: r else (k,x) :: bE f v r) from rfl];by_cases hk:k=f
  ·rw[if_pos hk];subst hk;exact⟨by simp,fun g h=>by simpa using h⟩
  ·rw[if_neg hk];refine⟨?_,fun g h=>?_⟩
   ·rw[LX];exact Ly _ i1
   ·rw[LX] at h ⊢;rcases Lj.mp h with e|e
    ·exact Lj.mpr (.inl e)
    ·exact Ly _ (i2 g e)
theorem ku(f:Str)(v:V):∀fs:List (Str×V),(bE f v fs).length<=fs.length+1
 |[]=>by simp[bE]
 |(k,x) :: r=>by
  have ih:=ku f v r;rw[show bE f v ((k,x) :: r)=(if k=f then (k,v) :: r else (k,x) :: bE f v r) from rfl];by_cases hk:k=f
  ·rw[if_pos hk,L0,L0];lia
  ·rw[if_neg hk,L0,L0];lia
theorem RelO.some_of{v:V}(r:RelO (some v) o):∃u,o=some u/\RelV v u:=by
 cases o with
 |none=>exact(show False from r).elim
 |some u=>exact⟨u,rfl,r⟩
theorem RelO.none_of(r:RelO none o):o=none:=by
 cases o with
 |none=>rfl
 |some u=>exact(show False from r).elim
theorem Au(r:RelV v u):Vh u=true:=by
 cases v with
 |non=>cases (show u=Ms from r);rfl
 |bl b=>cases (show u=Q0 b from r);rfl
 |int i=>obtain⟨t,e⟩:=(show ∃t,u=RK i t from r);cases e;rfl
 |str x=>obtain⟨t,e⟩:=(show ∃t,u=QY x t from r);cases e;rfl
 |byt b=>obtain⟨t,e⟩:=(show ∃t,u=K_.bytes b t from r);cases e;rfl
 |flt b=>obtain⟨t,e⟩:=(show ∃t,u=VA b t from r);cases e;rfl
 |ref a=>cases (show u=LH a from r);rfl
 |ty n=>cases (show u=N0 n from r);rfl
section
variable{P:LA}{w:LL}{H H':Hp}{h h':Heap}{a C dx:Addr}{fs fs':List (Str×V)}
theorem pF(hok:HOk P w H h)(e:H a=some (.ins C dx fs)):∃mA,ObjM h a dx C mA/\(∀f,RelO (fs.lookup f) (mA f))/\R5 mA (fs.map (·.1))/\fs.length<=1000/\H dx=some (.own a):=by
 obtain⟨d,z,ne,ob,mA,n,r,q⟩:=(show ci P w H h a (.ins C dx fs) from hok a _ e)
 exact⟨mA,⟨ob,n,ne⟩,r,q,z,d⟩
end
structure Cls (K:Fg) (C:Addr):Prop where
 pg:Ph K C Mj=true
 hd:O5 K C=true
 po:Rn K C=true
 sa:L_ K (.ref C) "__setattr__"=some (some (.builtin "object.__setattr__"))
theorem Cls.get{K:Fg}(c:Cls K C)(f:Str):Ph K C f=true:=c.pg
def dy(K:Fg)(C:Addr)(f:Str):Prop:=L_ K (.ref C) f=some none
theorem dy.taker{K:Fg}(n:dy K C f):Sw K C f=some none:=by
 unfold Sw;rw[show L_ K (.ref C) f=some none from n];rfl
structure AW (K:Fg) (C:Addr) (m:Str) (f:Addr):Prop where
 at_:L_ K (.ref C) m=some (some (.ref f))
 fn:P8 K (.ref f)=true
 kp:ME K (.ref f)=true
section
variable{X:Cx}{pins:List (Addr×Obj)}{σ:St}{H:Hp}{s:Lf}{a C dx:Addr}{fs:List (Str×V)}{f:Str}{v:V}{A:L4}{E:K_->Lf->Prop}
theorem wZ{Q:K_->Lf->Prop}(I:Inv X pins σ H s)(e:H a=some (.ins C dx fs))(c:Cls X.K C)(n:dy X.K C f)(l:fs.lookup f=some v)
  (h:∀u s',Inv X pins σ H s'->RelV v u->Q u s'):wpAny (model X.prog X.w) A (getAttr (.ref a) f b) Q E s:=by
 obtain⟨mA,O,r,_,_,_⟩:=pF I.hok e;obtain⟨u,hu,ru⟩:=RelO.some_of (v:=v) (o:=mA f) (by rw[<- l];exact r f);exact C5 I.kIn O (c.get f) c.hd n hu (Au ru) (h u _ (I.tok _) ru)
theorem iV{Q:K_×List K_->Lf->Prop}(I:Inv X pins σ H s)(e:H a=some (.ins C dx fs))(c:Cls X.K C)(k:AW X.K C m g)(l:fs.lookup m=none)
  (h:Q (.ref g,[.ref a]) s):wpAny (model X.prog X.w) A (getMethod (.ref a) m pl) Q E s:=by
 obtain⟨mA,O,r,_,_,_⟩:=pF I.hok e;have hn:mA m=none:=RelO.none_of (by rw[<- l];exact r m);exact C4 I.kIn O (c.get m) k.at_ k.fn hn h
theorem wv{Q:Unit->Lf->Prop}(I:Inv X pins σ H s)(e:H a=some (.ins C dx fs))(c:Cls X.K C)(n:dy X.K C f)(hl:fs.length<1000)(ry:RelV y u)
  (h:∀s',Inv X pins σ (upd H a (.ins C dx (bE f y fs))) s'->Q () s'):wpAny (model X.prog X.w) A (setAttr (.ref a) f u) Q E s:=by
 obtain⟨mA,O,r,wi,_,ho⟩:=pF I.hok e;have hz:(fs.map (·.1)).length<=sizeLine:=by rw[La,Nl];lia
 refine EX I.kIn O c.sa c.po n.taker c.hd wi hz fun h' O' sb=>h _ ?_
 have hd:∃o,h'.get? dx=some o:=let ⟨o,_,_,e',_⟩:=O'.ns;⟨o,e'⟩
 refine I.write (x:=a) (e:=dx) (by rw[e];exact NK) (.inr ho) (fun b q hb z=>(sb.2 b hb).trans z) hd ?_;refine⟨by rw[aC O.ne];exact ho,?_,O.ne,O'.obj,_,O'.ns,fun g=>?_,fun g hg=>?_⟩
 ·have:=ku f y fs;lia
 ·show RelO ((bE f y fs).lookup g) (if g=f then some u else mA g);rw[kr];by_cases q:g=f
  ·rw[if_pos q,if_pos q];exact ry
  ·rw[if_neg q,if_neg q];exact r g
 ·by_cases q:g=f
  ·rw[q];exact(kE f y fs).1
  ·refine(kE f y fs).2 g (wi g fun z=>hg ?_);show(if g=f then some u else mA g)=none;rw[if_neg q];exact z
theorem Inv.made(I:Inv X pins σ H s):Inv X pins σ (upd (upd H s.heap.objs.size (.own (s.heap.objs.size+1))) (s.heap.objs.size+1) (.ins C s.heap.objs.size []))
  {s with heap:=(s.heap.push Nm).push (N1 C s.heap.objs.size)}:=by
 have e1:(s.heap.push Nm).get? s.heap.objs.size=some Nm:=Lu s.heap rfl
 have e2:((s.heap.push Nm).push (N1 C s.heap.objs.size)).get? (s.heap.objs.size+1)=some (N1 C s.heap.objs.size):=by
  have:=Lu (s.heap.push Nm) (o:=N1 C s.heap.objs.size) rfl
  rwa [NC] at this
 have e3:(s.heap.push Nm).Ns s.heap.objs.size (fun _=>none):=⟨Nm,#[],_,e1,rfl,(fun e he=>absurd he (by simp)),fun _=>rfl⟩
 have I1:=I.laid (a:=s.heap.objs.size) (o:=.own (s.heap.objs.size+1)) (h':=s.heap.push Nm) (t':=s.toks) (fun b u q=>K9 _ q) (Lg _) ⟨_,e1⟩;refine I1.laid (a:=s.heap.objs.size+1) (o:=.ins C s.heap.objs.size []) (t':=s.toks) (fun b u q=>K9 _ q) (Nat.le_of_eq (NC _ _)) ?_;have ne:s.heap.objs.size≠s.heap.objs.size+1:=Lh (N8 _);refine⟨by rw[aC ne,am],Ml _,ne,e2,fun _=>none,(UH e3).at fun o q=>K9 _ q,fun _=>NK,fun y hy=>absurd rfl hy⟩
theorem GB{f:Str}{pos:Pos}{s:Lf}(hb:attributeBase e f env (eval e env)=eval e env)
  (h:wpAny (model prog w) A (eval e env) (fun o s₁=>wpAny (model prog w) A (getAttr o f true) Q E s₁) E s):wpAny (model prog w) A (eval (.Attribute e f pos) env) Q E s :=
 Attribute_any_ h (by rw[arm_eval_Attribute,hb])
end
def cY(K:Fg)(ta:TE)(f:Str):TE:=fun σ H Q=>ta σ H fun x H1=>∃a C dx fs v,x=.ref a/\H1 a=some (.ins C dx fs)/\Cls K C/\dy K C f/\fs.lookup f=some v/\Q v H1
def qG(K:Fg)(ta tv:TE)(f:Str):TS:=fun D σ H=>tv σ H fun y H1=>ta σ H1 fun x H2=>∃a C dx fs,x=.ref a/\H2 a=some (.ins C dx fs)/\Cls K C/\dy K C f/\fs.length<1000 /\
 D.nx σ (upd H2 a (.ins C dx (bE f y fs)))
section
variable{X:Cx}{o e value:Expr}{f:Str}{pos pos' tpos:Pos}{ta tv:TE}
theorem b6(he:PE X e ta)(hb:attributeBase e f X.env (eval e X.env)=eval e X.env):PE X (.Attribute e f pos) (cY X.K ta f):=by
 intro pins s σ H Q I h;refine GB hb (bp (he pins s σ H _ I h) fun u s1 ⟨x,H1,I1,rx,a,C,dx,fs,v,ex,ea,c,n,l,q⟩=>?_);subst ex;obtain rfl:u=LH a:=rx;exact wZ I1 ea c n l fun u' s2 I2 ru=>⟨v,H1,I2,ru,q⟩
theorem lZ(ha:PE X o ta)(hv:PE X value tv)(hs:swapsWith value (some (.Attribute o f pos')) pos.line X.env=pure false):PS X (.Assign [.Attribute o f pos'] value pos) (qG X.K ta tv f):=by
 intro pins s σ H D I h;refine Qd (bp (hv pins s σ H _ I h) fun u s1 ⟨y,H1,I1,ry,q⟩=>bp (ha pins s1 σ H1 _ I1 q) fun ov s2 ⟨x,H2,I2,rx,a,C,dx,fs,ex,ea,c,n,l,q2⟩=>?_) hs;subst ex;obtain rfl:ov=LH a:=rx;exact wv I2 ea c n l ry fun s3 I3=>⟨σ,_,I3,q2⟩
end
section
variable{X:Cx}{pins:List (Addr×Obj)}{σ:St}{H:Hp}{s:Lf}{A:L4}{E:K_->Lf->Prop}{Q:K_->Lf->Prop}{c:K_}{b:Bool}
inductive TyOf (K:Fg) (H:Hp):V->K_->Prop where
 |non:TyOf K H .non (.type "NoneType")
 |bl (x:Bool):TyOf K H (.bl x) (.type "bool")
 |int (i:Int):TyOf K H (.int i) (.type "int")
 |str (x:Str):TyOf K H (.str x) (.type "str")
 |flt (x:UInt64):TyOf K H (.flt x) (.type "float")
 |lst {a:Addr} {xs:List V} (e:H a=some (.lst xs)):TyOf K H (.ref a) (.type "list")
 |frz {a:Addr} {o:Obj} {xs:List V} (e:H a=some (.frz o (.lst xs))):TyOf K H (.ref a) (.type "list")
 |tup {a:Addr} {xs:List V} (e:H a=some (.tup xs)):TyOf K H (.ref a) (.type "tuple")
 |dK {a:Addr} {fx:List (Key×V)} (e:H a=some (.dK fx)):TyOf K H (.ref a) (.type "dict")
 |dT {a:Addr} {fx:List (List Key×V)} (e:H a=some (.dT fx)):TyOf K H (.ref a) (.type "dict")
 |ins {a C dx:Addr} {fs:List (Str×V)} (e:H a=some (.ins C dx fs)) (cl:Cls K C) (ha:L_ K (.ref C) "__class__"=some (some (.builtin "object.__class__")))
   (hn:UI K (.builtin "object.__class__") "__get__"=some (some (.builtin "getset_descriptor.__get__"))) (htk:PySem.W.takesIn K (.builtin "object.__class__")=some true)
   (hm:T0 K C (.type "object")=some true):TyOf K H (.ref a) (.ref C)
theorem Ae(I:Inv X pins σ H s)(rx:RelV x u)(ty:TyOf X.K H x t)(e:LJ X.K t c=some b)(h:∀tk,Q (.bool b) {s with toks:=tk}) :
  wpAny (model X.prog X.w) A (call (.builtin "isinstance") [u,c]) Q E s:=by
 cases ty with
 |non=>cases (show u=Ms from rx);exact Na PySem.W.kitx_none I.kIn NK e (fun z=>nomatch z) h
 |bl y=>cases (show u=Q0 y from rx);exact Na PySem.W.kitx_bool I.kIn NK e (fun z=>nomatch z) h
 |int i=>obtain⟨t,q⟩:=(show ∃t,u=RK i t from rx);cases q;exact Na PySem.W.kitx_int I.kIn NK e (fun z=>nomatch z) h
 |str y=>obtain⟨t,q⟩:=(show ∃t,u=QY y t from rx);cases q;exact Na PySem.W.kitx_str I.kIn NK e (fun z=>nomatch z) h
 |flt y=>obtain⟨t,q⟩:=(show ∃t,u=VA y t from rx);cases q;exact Na PySem.W.kitx_float I.kIn NK e (fun z=>nomatch z) h
 |@lst a xs ea =>
  cases (show u=LH a from rx);obtain⟨_,_,n,_,h1⟩:=(show ci X.prog X.w H s.heap a (.lst xs) from I.hok a _ ea)
  exact Na UJ I.kIn ⟨_,h1,rfl⟩ e (fun z=>nomatch z) h
 |@frz a ob xs ea =>
  cases (show u=LH a from rx);obtain⟨_,_,_,n,_,h1⟩:=(show ci X.prog X.w H s.heap a (.frz ob (.lst xs)) from I.hok a _ ea)
  exact Na UJ I.kIn ⟨_,h1,rfl⟩ e (fun z=>nomatch z) h
 |@tup a xs ea =>
  cases (show u=LH a from rx);obtain⟨_,_,_,p⟩:=(show ci X.prog X.w H s.heap a (.tup xs) from I.hok a _ ea)
  obtain⟨o,h1,⟨h2,_⟩,_⟩:=p;exact Na PySem.W.kitx_tuple I.kIn ⟨o,h1,h2⟩ e (fun z=>nomatch z) h
 |@dK a fx ea =>
  cases (show u=LH a from rx);obtain⟨_,_,vs,_,p⟩:=(show ci X.prog X.w H s.heap a (.dK fx) from I.hok a _ ea)
  obtain⟨o,es,ep,h1,h2,_⟩:=p;exact Na UK I.kIn ⟨o,h1,h2.1⟩ e (fun z=>nomatch z) h
 |@dT a fx ea =>
  cases (show u=LH a from rx);obtain⟨_,_,xs,_,o,es,ep,h1,h2,_⟩:=(show ci X.prog X.w H s.heap a (.dT fx) from I.hok a _ ea)
  exact Na UK I.kIn ⟨o,h1,h2.1⟩ e (fun z=>nomatch z) h
 |@ins a C dx fs ea cl ha hn htk hm =>
  cases (show u=LH a from rx);obtain⟨mA,O,_⟩:=pF I.hok ea;obtain⟨od,J,_⟩:=O.look;exact Na (PySem.W.kitx_own (cl.get _) cl.hd ha hn htk hm) I.kIn J e (fun z=>nomatch z) h
end
structure Room (k:Nat) (A:L4):Prop where
 hd:A.handled=none
 dp:A.depth+3*k+5<recursionLimit
 un:A.units+16*k+200<cLine
theorem Room.mono{j:Nat}(r:Room k A)(h:j<=k):Room j A:=⟨r.hd,by have:=r.dp;lia,by have:=r.un;lia⟩
theorem Room.deeper{k:Nat}(r:Room (k+1) A)(env:Env):Room k (A.deeper env) :=
 ⟨r.hd,by have:=r.dp;show A.depth+1+3*k+5<_;lia,by have:=r.un;show A.units+3+16*k+200<_;lia⟩
theorem wR{A:L4}  {us:List K_} {kw:List (Str×K_)}:(A.under (.builtin "type.__call__" ⟨.ref C :: us,kw⟩)).depth=A.depth+1:=by
 first|rfl|simp[UL,Code.weight,Code.isCreation,Code.isGuard,Code.isCaller,Code.frames,UM,guardIds]
theorem wQ{A:L4}  {us:List K_} {kw:List (Str×K_)}:(A.under (.builtin "type.__call__" ⟨.ref C :: us,kw⟩)).units=A.units+1:=by
 first|rfl|simp[UL,Code.cUnits,Code.frames,UM]
theorem Room.make{k:Nat}  (r:Room (k+1) A) (C:Addr) (us:List K_) (kw:List (Str×K_)):Room k (A.under (.builtin "type.__call__" ⟨.ref C :: us,kw⟩)) :=
 ⟨r.hd,by have:=r.dp;rw[wR];lia,by have:=r.un;rw[wQ];lia⟩
theorem Room.depth(r:Room k A):A.depth<recursionLimit:=by have:=r.dp;lia
theorem Room.units(r:Room k A):A.units+64<cLine:=by have:=r.un;lia
def aq:TA:=fun _ H Q=>Q [] H
def ag(ta:TE)(tr:TA):TA:=fun σ H Q=>ta σ H fun x H1=>tr σ H1 fun xs H2=>Q (x :: xs) H2
section
variable{X:Cx}{e:Expr}{es:List Expr}{te:TE}{t:TA}{pos:Pos}
theorem ah:PA X [] aq:=fun _ _ _ _ H Q I h=>NY ⟨[],H,I,.nil,h⟩
theorem ac(ha:PE X e te)(hr:PA X es t)(hs:starEach (e :: es) X.env=(false,eval e X.env) :: starEach es X.env:=by rfl):PA X (e :: es) (ag te t):=by
 intro pos pins s σ H Q I h;rw[hs];show wpAny _ _ (spliced ((false,eval e X.env) :: backTo pos (starEach es X.env))) _ _ s;refine MW (bp (ha pins s σ H _ I h) fun u s1 ⟨x,H1,I1,r1,q1⟩=>?_);exact bp (hr pos pins s1 σ H1 _ I1 q1) fun us s2 ⟨xs,H2,I2,r2,q2⟩=>⟨x :: xs,H2,I2,.cons r1 r2,q2⟩
def dX(t:TA):TE:=fun σ H Q=>t σ H fun xs H1=>xs.length<=sizeLine/\∀p,H1 p=none->Q (.ref p) (upd H1 p (.tup xs))
def cX(t:TA):TE:=fun σ H Q=>t σ H fun xs H1=>xs.length<=sizeLine/\∀p,H1 p=none->Q (.ref p) (upd H1 p (.lst xs))
theorem cK{x1}(h:PA X es t):PE X (.Tuple es x1 pos) (dX t):=by
 intro pins s σ H Q I hq;refine TN (bp (h pos pins s σ H _ I hq) fun us s1 ⟨xs,H1,I1,r,z,q⟩=>⟨by rw[<- r.length];exact z,?_⟩);have hf:H1 s1.heap.objs.size=none:=I1.hok.fresh (Lg _);refine⟨.ref s1.heap.objs.size,upd H1 s1.heap.objs.size (.tup xs),I1.laid (t':=s1.toks) (fun b u e=>K9 _ e) (Lg _) ?_,rfl,q _ hf⟩;exact⟨z,us,r,TupD.new _ _⟩
theorem b5(h:PA X es t):PE X (.List es pos) (cX t):=by
 intro pins s σ H Q I hq;refine wpAny_List_spliced (bp (h pos pins s σ H _ I hq) fun us s1 ⟨xs,H1,I1,r,z,q⟩=>⟨by rw[<- r.length];exact z,?_⟩);have hf:H1 s1.heap.objs.size=none:=I1.hok.fresh (Lg _);refine⟨.ref s1.heap.objs.size,upd H1 s1.heap.objs.size (.lst xs),I1.laid (t':=s1.toks) (fun b u e=>K9 _ e) (Lg _) ?_,rfl,q _ hf⟩;exact⟨z,us,0,r,Lu _ rfl⟩
end
abbrev Sp:=List V->Hp->VK->XK->Prop
abbrev jB:=List Env->Hp->Lf->XK->K_->Lf->Prop
structure Env0 (P:LA) (w:LL) (K:Fg) (mg:Str->Option K_) (base:Heap) (A:L4) (outer:List Env) (s:Lf) (H:Hp):Prop where
 frames:A.frames=some outer
 mod:Mod K mg base
 bs:∀b o,base.get? b=some o->s.heap.get? b=some o/\H b=none
 bsz:base.objs.size<=s.heap.objs.size
 funs:s.heap.FunFrames base outer
 frf:∀b∈frs outer,H b=none
 hok:HOk P w H s.heap
 bare:Qu s.gens
def CE(outer:List Env)(P:LA)(w:LL)(H:Hp)(s:Lf)(Q:VK)(u:K_)(s':Lf):Prop :=
 ∃v H',s'.os=s.os/\Qu s'.gens/\Un (frs outer) [] H H' s.heap s'.heap/\HOk P w H' s'.heap/\RelV v u/\Q v H'
def CR(CX:jB)(outer:List Env)(P:LA)(w:LL)(H:Hp)(s:Lf)(Q:VK)(E:XK)(r:R6)(s':Lf):Prop :=
 match r with
 |.ok (.ret u)=>CE outer P w H s Q u s'
 |.ok _=>False
 |.error e=>CX outer H s E e s'
structure FnOk (P:LA) (w:LL) (K:Fg) (mg:Str->Option K_) (base:Heap) (CX:jB) (k:Nat) (f:Addr) (fd:N2) (ps:List Str) (sp:Sp):Prop where
 len:∀vs H Q E,sp vs H Q E->vs.length=ps.length
 run:∀(A:L4) (outer:List Env) (s:Lf) (H:Hp) (args:Args) (us:List K_) (vs:List V) (Q:VK) (E:XK),Room k A->Env0 P w K mg base A outer s H->UN s fd args (ps.zip us)->Vals vs us->sp vs H Q E ->
  codeAny (model P w) A (.call (.ref f) args) (CR CX outer P w H s Q E) s
theorem FnOk.mono{K:Fg}{CX:jB}{k:Nat}(F:FnOk P w K mg base CX j f fd ps sp)(h:j<=k) :
  FnOk P w K mg base CX k f fd ps sp:=⟨F.len,fun A outer s H args us vs Q E hr=>F.run A outer s H args us vs Q E (hr.mono h)⟩
theorem Env0.make{K:Fg}(e:Env0 P w K mg base A outer s H)(C:Addr)(us:List K_)(kw:List (Str×K_)) :
  Env0 P w K mg base (A.under (.builtin "type.__call__" ⟨.ref C :: us,kw⟩)) outer s H:=⟨by first|exact e.frames|(simpa[UL,Code.envs,UM,pushEnvs] using e.frames),e.mod,e.bs,e.bsz,e.funs,e.frf,e.hok,e.bare⟩
section
variable{X:Cx}{pins:List (Addr×Obj)}{σ:St}{H:Hp}{s s':Lf}
theorem Inv.env0(I:Inv X pins σ H s):Env0 X.prog X.w X.K X.mg X.base X.A X.stack s H :=
 ⟨I.ok.frames,I.ok.mod,I.bs,Mh I.ok.bsz I.sz,I.stack,I.jO,I.hok,I.bare⟩
theorem Inv.after(I:Inv X pins σ H s)(h:CE X.stack X.prog X.w H s Q u s'):EP X pins σ Q u s':=by
 obtain⟨v,H',os,bare,un,hok,r,q⟩:=h;obtain⟨hh,g,d,t,os'⟩:=s';obtain rfl:os'=s.os:=os;exact⟨v,H',I.call (h':=hh) (g':=g) (d':=d) (t':=t) (ch:=[]) un hok bare (fun b z=>absurd z (by simp)),r,q⟩
end
def a4(sp:Sp)(WR:List V)(E:XK)(t:TA):TE:=fun σ H Q=>t σ H fun vs H1=>sp (vs++WR) H1 Q E
def gq(C:Addr)(m:Str)(sp:Sp)(WR:List V)(E:XK)(ta:TE)(t:TA):TE:=fun σ H Q=>ta σ H fun x H1=>∃a dx fs,x=.ref a/\H1 a=some (.ins C dx fs)/\fs.lookup m=none /\
 t σ H1 fun vs H2=>sp (x :: (vs++WR)) H2 Q E
def xZ(C:Addr)(sp:Sp)(WR:List V)(E:XK)(t:TA):TE:=fun σ H Q=>t σ H fun vs H1=>∀x dx,H1 x=none->H1 dx=none->dx≠x ->
 sp (.ref x :: (vs++WR)) (upd (upd H1 dx (.own x)) x (.ins C dx [])) (fun v H2=>v=.non/\Q (.ref x) H2) E
def Binds(K:Fg)(fd:N2)(ps:List Str)(ds:List K_):Prop :=
 ∀(s:Lf) (us:List K_),K.In s.heap->(us++ds).length=ps.length->UN s fd ⟨us,[]⟩ (ps.zip (us++ds))
theorem Binds.all{K:Fg}{ps:List Str}(h:∀us:List K_,us.length=ps.length->bindArgs fd ⟨us,[]⟩=pure (ps.zip us)):Binds K fd ps []:=fun s us _ hl=>by
 rw[Nb] at hl ⊢;exact .of_eq (h us hl)
def dj(CX:jB)(X:Cx)(E:XK):Prop:=∀(pins:List (Addr×Obj)) (σ:St) (H:Hp) (s:Lf) (e:K_) (s':Lf),Inv X pins σ H s->CX X.stack H s E e s'->X.xe e s'
section
variable{X:Cx}{CX:jB}{k:Nat}{f C:Addr}{fd:N2}{ps:List Str}{sp:Sp}{WR:List V}{ds:List K_}{E:XK}{x m:Str}{p pos apos:Pos}{e o:Expr}{es:List Expr}{ta:TE}{t:TA}
theorem yB{H:Hp}(F:FnOk X.prog X.w X.K X.mg X.base CX k f fd ps sp)(hr:Room k X.A)(hb:Binds X.K fd ps ds)(hd:Vals WR ds)(hx:dj CX X E)
  (I:Inv X pins σ H s) (r:Vals vs us) (h:sp (vs++WR) H Q E):wpAny (model X.prog X.w) X.A (call (.ref f) us) (EP X pins σ Q) X.xe s:=by
 have r2:Vals (vs++WR) (us++ds):=r.append hd;have hl:(us++ds).length=ps.length:=by rw[<- r2.length];exact F.len _ _ _ _ h
 refine Qk (OO (F.run X.A X.stack s H ⟨us,[]⟩ (us++ds) (vs++WR) Q E hr I.env0 (hb s us I.kIn hl) r2 h) fun r s' hq=>?_);cases r with
 |error e=>exact hx pins σ H s e s' I hq
 |ok fl =>
  cases fl with
  |ret u=>exact I.after hq
  |next=>exact M7 hq
  |brk=>exact M7 hq
  |cont=>exact M7 hq
theorem FC(F:FnOk X.prog X.w X.K X.mg X.base CX k f fd ps sp)(hr:Room k X.A)(hg:Gl X x)(hm:X.mg x=some (.ref f))(hk:ME X.K (.ref f)=true)(hb:Binds X.K fd ps ds)(hd:Vals WR ds)(hx:dj CX X E)
  (ha:PA X (e :: es) t) (hdb:(x == ("__debug__":Str))=false:=by decide) (he:starEach (e :: es) X.env=(false,eval e X.env) :: starEach es X.env:=by rfl) (W5:(backTo pos (starEach es X.env)).any (·.1)=false:=by rfl) :
  PE X (.Call (.Name x p) (e :: es) [] pos) (a4 sp WR E t):=by
 intro pins s σ H Q I h;refine MX (fB I hg hm ?_ hdb);refine PK (h₀:=X.base) I.ok.mod.kin hk (bp (ha pos pins s σ H _ I h) fun us s1 ⟨vs,H1,I1,r,q⟩=>⟨I1.kIn,?_⟩) he W5;exact yB F hr hb hd hx I1 r q
theorem Fx(he:PE X o ta)(c:Cls X.K C)(hm:AW X.K C m f)(F:FnOk X.prog X.w X.K X.mg X.base CX k f fd ps sp)(hr:Room k X.A)(hb:Binds X.K fd ps ds)(hd:Vals WR ds)(hx:dj CX X E)(ha:PA X (e :: es) t)
  (hst:starEach (e :: es) X.env=(false,eval e X.env) :: starEach es X.env:=by rfl) (W5:(backTo pos (starEach es X.env)).any (·.1)=false:=by rfl)
  (ht:eval (.Call (.Attribute o m apos) (e :: es) [] pos) X.env=(do
   let ov <- eval o X.env
   standAt apos.atName
   let (f,first) <- holding [ov] (getMethod ov m pl)
   callWith pos f first (backTo pos (starEach (e :: es) X.env)) (backToKw pos (keywordEach [] X.env))):=by rfl) :
  PE X (.Call (.Attribute o m apos) (e :: es) [] pos) (gq C m sp WR E ta t):=by
 intro pins s σ H Q I h;refine Qe (pl:=pl) (bp (he pins s σ H _ I h) fun u s1 ⟨x,H1,I1,rx,a,dx,fs,ex,ea,l,q⟩=>?_) ht;subst ex;obtain rfl:u=LH a:=rx;refine iV I1 ea c hm l ?_;refine PK (first:=[.ref a]) (h₀:=X.base) I.ok.mod.kin hm.kp (bp (ha pos pins s1 σ H1 _ I1 q) fun us s2 ⟨vs,H2,I2,r,q2⟩=>⟨I2.kIn,?_⟩) hst W5;exact yB (us:=.ref a :: us) (vs:=.ref a :: vs) F hr hb hd hx I2 (.cons rfl r) q2
theorem Cf(he:PE X o ta)(c:Cls X.K C)(hm:AW X.K C m f)(F:FnOk X.prog X.w X.K X.mg X.base CX k f fd ps sp)(hr:Room k X.A)(hb:Binds X.K fd ps ds)(hd:Vals WR ds)(hx:dj CX X E)
  (ht:eval (.Call (.Attribute o m apos) [] [] pos) X.env=(do
   let ov <- eval o X.env
   standAt apos.atName
   let (f,first) <- holding [ov] (getMethod ov m pl)
   callWith pos f first (backTo pos (starEach [] X.env)) (backToKw pos (keywordEach [] X.env))):=by rfl) :
  PE X (.Call (.Attribute o m apos) [] [] pos) (gq C m sp WR E ta aq):=by
 intro pins s σ H Q I h;refine Qe (pl:=pl) (bp (he pins s σ H _ I h) fun u s1 ⟨x,H1,I1,rx,a,dx,fs,ex,ea,l,q⟩=>?_) ht;subst ex;obtain rfl:u=LH a:=rx;refine iV I1 ea c hm l ?_;exact PySem.W.callWith_K0 (first:=[.ref a]) I1.kIn hm.kp (yB (us:=[.ref a]) (vs:=[.ref a]) F hr hb hd hx I1 (.cons rfl .nil) q)
structure Mk (K:Fg) (C f:Addr):Prop where
 makes:QE K C=true
 init:L_ K (.ref C) "__init__"=some (some (.ref f))
 fn:P8 K (.ref f)=true
 kp:ME K (.ref C)=true
theorem BD{H:Hp}{Q:VK}(M:Mk X.K C f)(F:FnOk X.prog X.w X.K X.mg X.base CX k f fd ps sp)(hr:Room (k+1) X.A)(hb:Binds X.K fd ps ds)(hd:Vals WR ds)
  (hx:dj CX X E) (I:Inv X pins σ H s) (r:Vals vs us)
  (h:∀x dx,H x=none->H dx=none->dx≠x->sp (.ref x :: (vs++WR)) (upd (upd H dx (.own x)) x (.ins C dx [])) (fun v H2=>v=.non/\Q (.ref x) H2) E) :
  wpAny (model X.prog X.w) X.A (call (.ref C) us) (EP X pins σ Q) X.xe s:=by
 have hq:=h (s.heap.objs.size+1) s.heap.objs.size (I.hok.fresh (Op _)) (I.hok.fresh (Lg _)) (Lh (N8 _));have I2:=Inv.made (C:=C) I;have r2:Vals (V.ref (s.heap.objs.size+1) :: (vs++WR)) (LH (s.heap.objs.size+1) :: (us++ds)):=.cons rfl (r.append hd)
 have hl:(LH (s.heap.objs.size+1) :: us++ds).length=ps.length:=by
  have e:=r2.length;rw[F.len _ _ _ _ hq] at e;exact e.symm
 refine Qk (CF (f:=f) I.kIn M.makes M.init (beq_iff_eq.mp M.fn) (OO (F.run _ X.stack _ _ ⟨LH (s.heap.objs.size+1) :: us,[]⟩ (LH (s.heap.objs.size+1) :: (us++ds)) _ _ E (hr.make C us [])
  (I2.env0.make C us []) (hb _ (LH (s.heap.objs.size+1) :: us) I2.kIn hl) r2 hq) fun r s' XY=>?_))
 cases r with
 |error e=>exact hx pins σ _ _ e s' I2 XY
 |ok fl =>
  cases fl with
  |ret u =>
   obtain⟨v,H',I3,rv,ev,q3⟩:=I2.after XY;subst ev;exact⟨rv,⟨V.ref (s.heap.objs.size+1),H',I3,rfl,q3⟩⟩
  |next=>exact M7 XY
  |brk=>exact M7 XY
  |cont=>exact M7 XY
theorem Fy(M:Mk X.K C f)(F:FnOk X.prog X.w X.K X.mg X.base CX k f fd ps sp)(hr:Room (k+1) X.A)(hg:Gl X x)(hm:X.mg x=some (.ref C))(hb:Binds X.K fd ps ds)(hd:Vals WR ds)(hx:dj CX X E)
  (ha:PA X (e :: es) t) (hdb:(x == ("__debug__":Str))=false:=by decide) (he:starEach (e :: es) X.env=(false,eval e X.env) :: starEach es X.env:=by rfl) (W5:(backTo pos (starEach es X.env)).any (·.1)=false:=by rfl) :
  PE X (.Call (.Name x p) (e :: es) [] pos) (xZ C sp WR E t):=by
 intro pins s σ H Q I h;refine MX (fB I hg hm ?_ hdb);refine PK (h₀:=X.base) I.ok.mod.kin M.kp (bp (ha pos pins s σ H _ I h) fun us s1 ⟨vs,H1,I1,r,q⟩=>⟨I1.kIn,?_⟩) he W5;exact BD M F hr hb hd hx I1 r q
end
structure aJ (N P:List Str) (sc:Scope):Prop where
 kind:sc.kind=.function
 co:sc.isCoroutine=false
 gen:sc.isGenerator=false
 nd:N.Nodup
 pre:N.take P.length=P
 par:∀x∈P,sc.names.lookup x=some .local\/sc.names.lookup x=some .cell
 nofree:∀y∈sc.names,y.2≠.free
theorem sj{kindOf:Str->Option RM}{x:Str}:∀{binds:List (Str×K_)} {m:Str->Option K_},(∀v,(x,v)∉binds)->bindL kindOf binds m x=m x
 |[],_,_=>rfl
 |(n,v) :: r,m,h=>by
  unfold bindL;rw[sj fun w hw=>h w (Ly _ hw)];split
  ·have:x≠n:=by rintro rfl;exact h v Lz
   simp[this]
  ·rfl
theorem sr{kindOf:Str->Option RM}{x:Str}:∀{binds:List (Str×K_)} {m:Str->Option K_},(∀v,(x,v)∉binds)->bindC kindOf binds m x=m x
 |[],_,_=>rfl
 |(n,v) :: r,m,h=>by
  unfold bindC;rw[sr fun w hw=>h w (Ly _ hw)];split
  ·rfl
  ·have:x≠n:=by rintro rfl;exact h v Lz
   simp[this]
theorem sk{kindOf:Str->Option RM}{x:Str}{v:K_}:∀{P:List Str} {vs:List K_} {i:Nat} {m:Str->Option K_},P.Nodup->P[i]?=some x->vs[i]?=some v->kindOf x=some .local ->
  bindL kindOf (P.zip vs) m x=some v
 |[],_,_,_,_,h,_,_=>by simp at h
 |_ :: _,[],_,_,_,_,h,_=>by simp at h
 |p :: P,w :: vs,0,m,nd,h1,h2,hk=>by
  simp at h1 h2;subst h1;subst h2;show bindL kindOf ((p,w) :: P.zip vs) m p=_;unfold bindL;rw[sj fun v hv=>(Me.mp nd).1 (NF hv).1,if_pos hk];simp
 |p :: P,w :: vs,i+1,m,nd,h1,h2,hk=>by
  show bindL kindOf ((p,w) :: P.zip vs) m x=_;unfold bindL;exact sk (i:=i) (Me.mp nd).2 (by simpa using h1) (by simpa using h2) hk
theorem sv{kindOf:Str->Option RM}{x:Str}{v:K_}:∀{P:List Str} {vs:List K_} {i:Nat} {m:Str->Option K_},P.Nodup->P[i]?=some x->vs[i]?=some v->kindOf x≠some .local ->
  bindC kindOf (P.zip vs) m x=some v
 |[],_,_,_,_,h,_,_=>by simp at h
 |_ :: _,[],_,_,_,_,h,_=>by simp at h
 |p :: P,w :: vs,0,m,nd,h1,h2,hk=>by
  simp at h1 h2;subst h1;subst h2;show bindC kindOf ((p,w) :: P.zip vs) m p=_;unfold bindC;rw[sr fun v hv=>(Me.mp nd).1 (NF hv).1,if_neg hk];simp
 |p :: P,w :: vs,i+1,m,nd,h1,h2,hk=>by
  show bindC kindOf ((p,w) :: P.zip vs) m x=_;unfold bindC;exact sv (i:=i) (Me.mp nd).2 (by simpa using h1) (by simpa using h2) hk
def start(N:List Str)(vs:List V):St:=vs.map some++LI (N.length-vs.length) none
def cV(CX:jB)(P:LA)(w:LL)(K:Fg)(mg:Str->Option K_)(base:Heap)(N:List Str)(qual:Str)(scope:Scope)(f:Addr)(cd:K_)(A:L4)(outer:List Env)(s:Lf)(H:Hp)(E:XK):Cx where
 prog:=P
 w:=w
 K:=K
 mg:=mg
 base:=base
 A:=A.deeper (envOfC qual scope s.heap.objs.size f cd)
 N:=N
 s₀:=s
 H₀:=H
 env:=envOfC qual scope s.heap.objs.size f cd
 outer:=outer
 stack:=envOfC qual scope s.heap.objs.size f cd :: outer
 ex:=[]
 calm:=true
 fn:=fun _=>true
 pn:=[]
 xe:=fun e s'=>wpAny (model P w) (A.deeper (envOfC qual scope s.heap.objs.size f cd)) (leaving (envOfC qual scope s.heap.objs.size f cd) e) (fun _ XG=>CX outer H s E e XG) (fun e' XG=>CX outer H s E e' XG) s'
theorem v_{sc:Scope}(h:sc.names.lookup x=some .cell):∃c,(cellsFrom n sc.names []).lookup x=some c:=by
 have q:=R7 sc.names n [] (.inl h);exact Rv.mp q
theorem Ag{CX:jB}{K:Fg}{A:L4}{vs:List V}
  (S:aJ N ps scope) (hd:A.handled=none) (e0:Env0 P w K mg base A outer s H) (hl:vs.length=ps.length) (r:Vals vs us)
  (x:InCallC s s.heap.objs.size (bindL (envOfC qual scope s.heap.objs.size f cd).kindOf (ps.zip us) fun _=>none) (cellsFrom (s.heap.objs.size+1) scope.names []) (bindC (envOfC qual scope s.heap.objs.size f cd).kindOf (ps.zip us) fun _=>none) s1) :
  Inv (cV CX P w K mg base N qual scope f cd A outer s H E) [] (start N vs) H s1:=by
 have W5:ps.length<=N.length:=by have:=congrArg PQ S.pre;rw[LG] at this;lia
 obtain⟨h1,tk,rfl,hk⟩:=x.done;have noA:∀b:Addr,b∉(cV CX P w K mg base N qual scope f cd A outer s H E).ex:=fun b z=>absurd (show b∈([]:List Addr) from z) (by simp)
 refine⟨⟨e0.mod,S.kind,rfl,rfl,Lg _,fun y z c h1 h2=>?_,fun y hy=>?_,fun y c _ h=>?_,fun _=>hd,L4.frames_deeper e0.frames,.inr ⟨rfl,rfl⟩,fun b z=>absurd z (noA b),e0.bs,e0.bsz,fun b _ _=>noA b,fun b z=>absurd z (noA b),e0.funs,e0.frf⟩,
  rfl,e0.bare,Un.kept hk,⟨_,x.toInCall.ns,fun i y v h1 h2 h3=>?_⟩,fun y c h=>⟨_,x.cell y c h⟩,e0.hok.fresh (Lg _),fun y c h=>?_,fun p hp=>absurd (show p∈([]:List (Addr×Obj)) from hp) (by simp),e0.hok.kept hk,?_⟩
 ·exact name_of_addr x.apart (OD h1) (OD h2)
 ·have hy:scope.names.lookup y=some .cell\/scope.names.lookup y=some .free:=hy;rcases hy with hy|hy
  ·exact v_ hy
  ·exact absurd rfl (S.nofree _ (OD hy))
 ·exact MC (x.above y c (OD h))
 ·have hi:i<vs.length:=by
   unfold start at h2;by_cases hi:i<vs.length
   ·exact hi
   ·rw[Ma (by simpa using hi)] at h2;rw[List.getElem?_replicate] at h2;split at h2 <;> cases h2
  have ha:vs[i]?=some v:=by
   unfold start at h2;rw[Mf (by simpa using hi),Li] at h2;cases e:vs[i]? with
   |none=>rw[e] at h2;cases h2
   |some a=>rw[e] at h2;cases h2;rfl
  obtain⟨u,hu,rv⟩:=r.get ha
  have hp:ps[i]?=some y:=by
   rw[<- S.pre,Rx (by lia)];exact h1
  have ndP:ps.Nodup:=by rw[<- S.pre];exact S.nd.sublist (UO _ _)
  refine⟨u,rv,?_⟩;rcases S.par y (Ll hp) with k|k
  ·exact .inl ⟨k,sk ndP hp hu k⟩
  ·obtain⟨c,e⟩:=v_ (n:=s.heap.objs.size+1) k;refine .inr ⟨.inl k,c,e,?_⟩;have q:=x.cell y c e;rw[sv ndP hp hu (by show scope.names.lookup y≠_;rw[k];decide)] at q;exact q
 ·exact e0.hok.fresh (MC (x.above y c (OD h)))
 ·unfold start;show _=N.length;rw[LQ,La,MM];lia
theorem Go{CX:jB}{K:Fg}{dV kV oc:K_}{od:Option Addr}
  {XN:Array (Option K_)}  {sp:Sp} (lk:K.lookup f=some ⟨oc,od,.func (MY name qual params body scope dV kV doc pm an gV ct),XN⟩) (hcd:NU K gV qual=true) (S:aJ N ps scope)
  (len:∀vs H Q E,sp vs H Q E->vs.length=ps.length)
  (hbody:∀(A:L4) (outer:List Env) (s:Lf) (H:Hp) (vs:List V) (Q:VK) (E:XK),Room k (A.deeper (envOfC qual scope s.heap.objs.size f gV))->sp vs H Q E ->
   ∃t,PSs (cV CX P w K mg base N qual scope f gV A outer s H E) body t/\t {nx:=fun _ H'=>Q .non H',rt:=Q} (start N vs) H) :
  FnOk P w K mg base CX (k+1) f (MY name qual params body scope dV kV doc pm an gV ct) ps sp:=by
 refine⟨len,fun A outer s H args us vs Q E hr e0 hb r hsp=>?_⟩;have hl:=len _ _ _ _ hsp;have KX:K.In s.heap:=e0.mod.kin.keeps fun b o e=>(e0.bs b o e).1
 have lim:s.heap.NoLimit:=e0.mod.nolimit.keeps fun b o e=>(e0.bs b o e).1
 have ZX:∀y∈ps.zip us,scope.names.lookup y.1=some .local\/(scope.names.lookup y.1=some .cell/\((cellsFrom (s.heap.objs.size+1) scope.names []).lookup y.1).isSome=true):=fun⟨n,v⟩ hy=>by
  rcases S.par n (NF hy).1 with q|q
  ·exact .inl q
  ·exact .inr ⟨q,R7 _ _ _ (.inl q)⟩
 refine codeAny_call_function hr.depth (KX _ _ lk) rfl S.co S.gen rfl (PySem.W.codeRec_of KX hcd) (hb _ _ _ _ ?_);refine wpAny_newFunctionEnv_cells S.kind ZX fun env he s1 x=>?_
 subst he;refine⟨lim.keeps x.toInCall.keep,codeAny_func ?_⟩;obtain⟨t,ht,hq⟩:=hbody A outer s H vs Q E (hr.deeper _) hsp;have I:Inv (cV CX P w K mg base N qual scope f gV A outer s H E) [] (start N vs) H s1:=Ag S hr.hd e0 hl r x;refine L6 (ht [] s1 (start N vs) H _ I hq) (fun fl s' hs=>?_) fun e s' hs=>hs
 have fin:∀{σ':St} {H':Hp} {v:V} {u:K_},Inv (cV CX P w K mg base N qual scope f gV A outer s H E) [] σ' H' s'->RelV v u->Q v H'->CE outer P w H s Q u s' :=
  fun {σ' H' v u} J rv q=>⟨v,H',J.os,J.bare,J.base,J.hok,rv,q⟩
 cases fl with
 |ret u =>
  obtain⟨v,σ',H',J,rv,q⟩:=hs;exact fin J rv q
 |next =>
  obtain⟨σ',H',J,q⟩:=hs;exact fin (v:=V.non) (u:=Ms) J rfl q
 |brk =>
  obtain⟨_,_,_,q⟩:=hs;exact M7 q
 |cont =>
  obtain⟨_,_,_,q⟩:=hs;exact M7 q
section
variable{X:Cx}{x:Str}{p pos:Pos}{e:Expr}{es:List Expr}{t:TA}{id T:String}{r:List V->Hp->VK->Prop}
def bY(r:List V->Hp->VK->Prop)(t:TA):TE:=fun σ H Q=>t σ H fun vs H1=>r vs H1 Q
theorem aA(hc:iZ X (.builtin id) r) (hg:Gl X x) (hm:X.mg x=none) (hv:bootBuiltins x=some (.builtin id)) (ha:PA X (e :: es) t) (hn:x≠"__name__":=by decide) (hdb:(x == ("__debug__":Str))=false:=by decide)
  (he:starEach (e :: es) X.env=(false,eval e X.env) :: starEach es X.env:=by rfl) (W5:(backTo pos (starEach es X.env)).any (·.1)=false:=by rfl):PE X (.Call (.Name x p) (e :: es) [] pos) (bY r t):=by
 intro pins s σ H Q I h;refine MX (fC I hg hm hv ?_ hn hdb);exact NL (bp (ha pos pins s σ H _ I h) fun us s1 ⟨vs,H1,I1,r1,q1⟩=>hc pins s1 σ H1 vs us Q I1 r1 q1) he W5
theorem bc(hc:iZ X (.type T) r) (hg:Gl X x) (hm:X.mg x=none) (hv:bootBuiltins x=some (.type T)) (ha:PA X (e :: es) t) (hn:x≠"__name__":=by decide) (hdb:(x == ("__debug__":Str))=false:=by decide)
  (he:starEach (e :: es) X.env=(false,eval e X.env) :: starEach es X.env:=by rfl) (W5:(backTo pos (starEach es X.env)).any (·.1)=false:=by rfl):PE X (.Call (.Name x p) (e :: es) [] pos) (bY r t):=by
 intro pins s σ H Q I h;refine MX (fC I hg hm hv ?_ hn hdb);exact ML (bp (ha pos pins s σ H _ I h) fun us s1 ⟨vs,H1,I1,r1,q1⟩=>hc pins s1 σ H1 vs us Q I1 r1 q1) he W5
end
end L2
namespace HT
open PySem PyProof.Rows
section
variable{prog:LA}{w:LL}{A:L4}{E:K_->Lf->Prop}{s:Lf}
theorem Gw{vs ws:List K_}{Q:K_->Lf->Prop}(ht:IsTup s.heap t vs.toArray)(hb:IsTup s.heap b ws.toArray)(hv:vs≠[])
  (h1:ws=[]->Q (.ref t) s) (h2:ws≠[]->Q (.ref s.heap.objs.size) {s with heap:=s.heap.push {cls:=.type "tuple",data:=.seq (vs++ws).toArray}})
  (hsz:vs.length+ws.length<=sizeLine):wpAny (model prog w) A (binaryOp .Add (.ref t) (.ref b)) Q E s:=by
 obtain⟨⟨cls,dd,data,sl⟩,ho,hc,n,hd⟩:=id ht;obtain⟨⟨cls2,dd2,data2,sl2⟩,Y5,XA,n2,hd2⟩:=id hb;simp only at hc hd XA hd2;subst hc hd XA hd2;have e:vs.toArray++ws.toArray=(vs++ws).toArray:=by simp
 by_cases hw:ws=[]
 ·exact UP ⟨_,ho,rfl⟩ ⟨_,Y5,rfl⟩ RN T9 P9 PU (Px _ _)
   (tuple_addW1 t b vs.toArray ws.toArray n n2 dd dd2 sl sl2 (by simpa using hv) (by simp[hw])) ⟨ho,Y5,h1 hw⟩
 ·refine UP ⟨_,ho,rfl⟩ ⟨_,Y5,rfl⟩ RN T9 P9 PU (Px _ _)
   (tuple_addW2 t b vs.toArray ws.toArray n n2 dd dd2 sl sl2 (by simpa using hv) (by simpa using hw) (by rw[LC,LC];exact hsz)) ⟨ho,Y5,?_⟩
  rw[e];exact h2 hw
def sIx(n d:Nat):Option Int->Nat
 |none=>d
 |some v=>if v<0 then (v+(n:Int)).toNat else min v.toNat n
theorem vk(n d:Nat):sIx n d none=d:=rfl
theorem iF(n d k:Nat):sIx n d (some (k:Int))=min k n:=by
 show(if (k:Int)<0 then ((k:Int)+(n:Int)).toNat else min (k:Int).toNat n)=min k n;rw[if_neg (by lia),MT]
theorem Hb(n d:Nat)(hd:d<=n)(o:Option Int):sIx n d o<=n:=by
 cases o with
 |none=>exact hd
 |some v =>
  show(if v<0 then (v+(n:Int)).toNat else min v.toNat n)<=n;by_cases hv:v<0
  ·rw[if_pos hv];lia
  ·rw[if_neg hv];exact Pi _ _
theorem AN(v:Int)(n d:Nat):(if v<0 then max (v+(n:Int)) 0 else min v (n:Int))=((sIx n d (some v):Nat):Int):=by
 show(if v<0 then max (v+(n:Int)) 0 else min v (n:Int))=(((if v<0 then (v+(n:Int)).toNat else min v.toNat n):Nat):Int)
 by_cases hv:v<0
 ·simp only[if_pos hv];lia
 ·simp only[if_neg hv];lia
theorem xh(lo hi:Option Int)(n:Nat):Po lo hi 1 (n:Int)=(((sIx n 0 lo:Nat):Int),((sIx n n hi:Nat):Int)):=by
 have h1 : ¬ ((1:Int)<0):=by lia
 unfold Po;simp only[h1,if_false];refine OT ?_ ?_
 ·cases lo with
  |none=>rfl
  |some v=>exact AN v n 0
 ·cases hi with
  |none=>rfl
  |some v=>exact AN v n n
theorem wH(i j:Nat):Of (i:Int) (j:Int) 1=j-i:=by
 unfold Of;have h1:(1:Int) > 0:=by lia
 simp only[h1,if_true,Int.ediv_one];split <;> lia
theorem lY{Q:Option Int->Lf->Prop}(p:Us v o)(h:Q o s):wpAny (model prog w) A (NX.Slice.slicePartIndex v) Q E s:=by
 cases p with
 |none=>exact slicePart_none h
 |int i t=>exact slicePart_int h
theorem jg{lo:Option Int}{Q:Int×Int×Nat->Lf->Prop}(hs:s.heap.IsSliceOf sl vl vu .none)(pl:Us vl lo)(pu:Us vu hi)
  (h:Q (((sIx n 0 lo:Nat):Int),1,sIx n n hi-sIx n 0 lo) s):wpAny (model prog w) A (Q5 (.ref sl) (pure (n:Int))) Q E s:=by
 obtain⟨os,Yb,hcs,hds⟩:=id hs;unfold Q5 NX.Slice.sliceFields;refine K8 (K8 (L3 Yb hds (x:=vl) rfl (K8 (L3 Yb hds (x:=vu) rfl (K8 (L3 Yb hds (x:=.none) rfl (Le ?_)))))));refine K8 (slicePart_none ?_);show wpAny _ _ (if ((1:Int) == 0)=true then _ else _) _ _ s;rw[if_neg (by decide)];refine K8 (lY pl (K8 (lY pu (K8 (Le ?_)))));show wpAny _ _ (match Po lo hi 1 (n:Int) with|(lo,hi)=>pure (lo,(1:Int),Of lo hi 1)) _ _ s;rw[xh lo hi n];show wpAny _ _ (pure (((sIx n 0 lo:Nat):Int),(1:Int),Of ((sIx n 0 lo:Nat):Int) ((sIx n n hi:Nat):Int) 1)) _ _ s;rw[wH];exact Le h
theorem Ce(xs:Array K_)(i k:Nat):((Nh k).filterMap fun(m:Nat)=>xs[((i:Int)+(m:Int)*1).toNat]?).toArray=((xs.toList.drop i).take k).toArray:=by
 have e:(fun(m:Nat)=>xs[((i:Int)+(m:Int)*1).toNat]?)=fun m=>xs[i+m]?:=by
  funext m
  have:((i:Int)+(m:Int)*1).toNat=i+m:=by lia
  rw[this]
 rw[e]
 have:=pick_run xs i k
 rw[List.filterMap_map] at this;have e2:((fun x=>xs[x]?)∘fun x=>i+x)=fun m=>xs[i+m]?:=rfl
 rw[e2] at this;rw[this]
theorem iW{lo:Option Int}{Q:K_->Lf->Prop}(ht:IsTup s.heap t items)(hs:s.heap.IsSliceOf sl vl vu .none)(pl:Us vl lo)(pu:Us vu hi)
  (hw : ¬ (sIx items.size 0 lo=0/\sIx items.size items.size hi=items.size))
  (h:Q (.ref s.heap.objs.size) {s with heap:=s.heap.push {cls:=.type "tuple",data:=.seq ((items.toList.drop (sIx items.size 0 lo)).take (sIx items.size items.size hi-sIx items.size 0 lo)).toArray}})
  (hsz:items.size<=sizeLine):wpAny (model prog w) A (getItem (.ref t) (.ref sl)) Q E s:=by
 have XD:sizeOk (.seq ((items.toList.drop (sIx items.size 0 lo)).take (sIx items.size items.size hi-sIx items.size 0 lo)).toArray):=by
  show((items.toList.drop (sIx items.size 0 lo)).take (sIx items.size items.size hi-sIx items.size 0 lo)).toArray.size<=sizeLine;rw[LC,LG,MR,Mw];lia
 have hj:sIx items.size items.size hi<=items.size:=Hb _ _ (Lg _) hi;obtain⟨os,Yb,hcs,hds⟩:=id hs;have hTs:s.TypeIs (.ref sl) "slice":=⟨os,Yb,hcs⟩
 unfold getItem
 try with_reducible refine MJ ?_
 first|refine K8 (Le ?_)|skip
 refine K8 (wpAny_sequenceKey ht.typeIs (by decide) ?_)
 refine K8 (Mn (name:=M8 "__getitem__") ht.typeIs OB
  (MS OB ht.typeIs entry_tuple_getitem ?_ (args_tuple_getitem _ _)))
 show wpAny _ _ (Q6 (.ref t) >>= _) _ _ s;refine K8 (tupleItemsOf_ ht ?_);refine K8 (R8 hTs ?_);rw[if_pos (by decide)];refine K8 (jg hs pl pu ?_)
 have Zu : ¬ ((((sIx items.size 0 lo:Nat):Int) == 0 && (1:Int) == 1 && (sIx items.size items.size hi-sIx items.size 0 lo) == items.size)=true):=by
  intro q;rw[NA,NA] at q;have q1:((sIx items.size 0 lo:Nat):Int)=0:=eq_of_beq q.1.1;have q2:sIx items.size items.size hi-sIx items.size 0 lo=items.size:=eq_of_beq q.2;exact hw ⟨by lia,by lia⟩
 show wpAny _ _ (if (((sIx items.size 0 lo:Nat):Int) == 0 && (1:Int) == 1 && (sIx items.size items.size hi-sIx items.size 0 lo) == items.size)=true then _ else _) _ _ s;rw[if_neg Zu,Ce]
 first
  |exact K8 (m:=Oz _) (MF (Le ⟨_,rfl,Le h⟩) XD)
  |exact K8 (m:=Oz _) (MF (K8 (Le (Le ⟨_,rfl,Le h⟩))) XD)
  |exact K8 (K8 (m:=Oz _) (MF (Le (Le ⟨_,rfl,Le h⟩)) XD))
  |exact K8 (K8 (m:=Oz _) (MF (Le ⟨_,rfl,Le h⟩) XD))
end
end HT
namespace L2
open PySem PySem.Spec PyProof.Rows
abbrev TO:=St->Hp->(Option Int->Hp->Prop)->Prop
def PO(X:Cx)(e:Option Expr)(t:TO):Prop :=
 ∀(pins:List (Addr×Obj)) (s:Lf) (σ:St) (H:Hp) (Q:Option Int->Hp->Prop),Inv X pins σ H s->t σ H Q ->
  wpAny (model X.prog X.w) X.A (evalPart e X.env) (fun u s'=>∃o H',Inv X pins σ H' s'/\Us u o/\Q o H') X.xe s
def dh:TO:=fun _ H Q=>Q none H
def fh(t:TE):TO:=fun σ H Q=>t σ H fun x H1=>∃i,x=.int i/\Q (some i) H1
section
variable{X:Cx}{e:Expr}{te:TE}{lo hi:Option Expr}{tl th:TO}{pos p2:Pos}
theorem eB:PO X none dh:=by
 intro pins s σ H Q I h;rw[T_];exact Le ⟨none,H,I,.none,h⟩
theorem cj(h:PE X e te):PO X (some e) (fh te):=by
 intro pins s σ H Q I hw;rw[evalPart_some];refine bp (h pins s σ H _ I hw) fun u s1 ⟨x,H1,I1,r1,q1⟩=>?_
 obtain⟨i,rfl,q⟩:=q1;obtain⟨t,rfl⟩:=r1;exact⟨some i,H1,I1,.int i t,q⟩
def Ju(X:Cx)(r:V->Option Int->Option Int->Hp->VK->Prop):Prop :=
 ∀(pins:List (Addr×Obj)) (s:Lf) (σ:St) (H:Hp) (x:V) (v vl vu:K_) (lo hi:Option Int) (sl:Addr) (Q:VK),Inv X pins σ H s->RelV x v->s.heap.IsSliceOf sl vl vu .none->Us vl lo->Us vu hi->r x lo hi H Q ->
  ∃T id,typeLookup (.type T) "__getitem__"=pure (some (.builtin id))/\s.TypeIs v T/\wpAny (model X.prog X.w) X.A (getItem v (.ref sl)) (EP X pins σ Q) X.xe s
def tw(r:V->Option Int->Option Int->Hp->VK->Prop)(te:TE)(tl th:TO):TE:=fun σ H Q=>te σ H fun x H1=>tl σ H1 fun l H2=>th σ H2 fun u H3=>r x l u H3 Q
theorem cf(hr:Ju X r)(he:PE X e te)(hl:PO X lo tl)(hu:PO X hi th):PE X (.Subscript e (.Slice lo hi none p2) pos) (tw r te tl th):=by
 intro pins s σ H Q I h;refine Subscript_ (bp (he pins s σ H _ I h) fun v s1 ⟨x,H1,I1,r1,q1⟩=>?_);refine wpAny_Slice (bp (hl pins s1 σ H1 _ I1 q1) fun vl s2 ⟨l,H2,I2,pl,q2⟩=>bp (hu pins s2 σ H2 _ I2 q2) fun vu s3 ⟨u,H3,I3,pu,q3⟩=>?_);rw[T_];refine Le ?_;have I4:Inv X pins σ H3 {s3 with heap:=s3.heap.push {cls:=.type "slice",data:=.fields #[vl,vu,.none]}}:=I3.kept (t':=s3.toks) fun b ob q=>K9 _ q
 obtain⟨T,id,hT,ht,hg⟩:=hr pins {s3 with heap:=s3.heap.push {cls:=.type "slice",data:=.fields #[vl,vu,.none]}} σ H3 x v vl vu l u s3.heap.objs.size Q I4 r1 (Ut ..) pl pu q3;show wpAny (model X.prog X.w) X.A (subscriptTail e (.Slice lo hi none p2) v (.ref s3.heap.objs.size)) (EP X pins σ Q) X.xe {s3 with heap:=s3.heap.push {cls:=.type "slice",data:=.fields #[vl,vu,.none]}};exact tail_any (ops:=[.ref s3.heap.objs.size,v]) ht hT hg (by with_unfolding_all rfl)
def f_(xs:List V)(lo hi:Option Int):List V:=(xs.drop (HT.sIx xs.length 0 lo)).take (HT.sIx xs.length xs.length hi-HT.sIx xs.length 0 lo)
theorem kP(xs:List V)(lo hi:Option Int):(f_ xs lo hi).length<=xs.length:=by
 unfold f_;rw[LG,MR];lia
def j6(K:Fg):V->Option Int->Option Int->Hp->VK->Prop:=fun x lo hi H Q=>∃a xs,x=.ref a/\SqT K H a xs /\
 ¬ (HT.sIx xs.length 0 lo=0/\HT.sIx xs.length xs.length hi=xs.length)/\∀p,H p=none->Q (.ref p) (upd H p (.tup (f_ xs lo hi)))
theorem i6:Ju X (j6 X.K):=by
 intro pins s σ H x v vl vu lo hi sl Q I rx hs pl pu h;obtain⟨a,xs,rfl,hx,hw,q⟩:=h;cases rx;obtain⟨fm,r,ht,hz⟩:=I.tuple hx;have hlen:fm.toArray.size=xs.length:=by rw[LC];exact r.length.symm
 refine⟨"tuple",_,OB.lookup,ht.typeIs,?_⟩;refine HT.iW ht hs pl pu (by rw[hlen];exact hw) ?_ (by rw[hlen];exact hz);rw[hlen];refine⟨.ref s.heap.objs.size,_,I.laid (t':=s.toks) (o:=.tup (f_ xs lo hi)) (fun b ob q=>K9 _ q) (Lg _) ?_,rfl,q _ (I.hok.fresh (Lg _))⟩;exact⟨Mh (kP xs lo hi) hz,_,(r.drop (HT.sIx xs.length 0 lo)).take (HT.sIx xs.length xs.length hi-HT.sIx xs.length 0 lo),TupD.new _ _⟩
def JG(K:Fg):R2:=fun x y H Q=>∃a b xs ys,x=.ref a/\y=.ref b/\SqT K H a xs/\SqT K H b ys/\xs≠[]/\xs.length+ys.length<=sizeLine /\
 (ys=[]->Q (.ref a) H)/\(ys≠[]->∀p,H p=none->Q (.ref p) (upd H p (.tup (xs++ys))))
theorem Vals.o9(r:Vals xs us):us=[]↔xs=[]:=by
 cases r with
 |nil=>simp
 |cons _ _=>simp
theorem FH:fq X (binaryOp .Add) (JG X.K):=by
 intro pins s σ H x y v u Q I rx ry h;obtain⟨a,b,xs,ys,rfl,rfl,ha,hb,hx,hz,q1,q2⟩:=h;cases rx;cases ry;obtain⟨fm,r1,p1,_⟩:=I.tuple ha;obtain⟨X0,r2,p2,_⟩:=I.tuple hb;refine HT.Gw p1 p2 (fun z=>hx (r1.o9.mp z)) (fun z=>⟨.ref a,H,I,rfl,q1 (r2.o9.mp z)⟩) (fun z=>?_) (by rw[<- r1.length,<- r2.length];exact hz);refine⟨.ref s.heap.objs.size,_,I.laid (t':=s.toks) (o:=.tup (xs++ys)) (fun b ob q=>K9 _ q) (Lg _) ?_,rfl,q2 (fun w=>z (r2.o9.mpr w)) _ (I.hok.fresh (Lg _))⟩;exact⟨by rw[LQ];exact hz,_,r1.append r2,TupD.new _ _⟩
end
def CT(n:Nat)(i:Int):Option Nat:=if 0<=i then (if i<n then some i.toNat else none) else if -(n:Int)<=i then some (i+n).toNat else none
def mO{α:Type}(xs:List α)(i:Int):Option α:=(CT xs.length i).bind fun j=>xs[j]?
theorem Ab{j:Nat}(h:CT n i=some j):seqIndex? i n=some j/\j<n/\-(n:Int)<=i/\i<n:=by
 unfold CT at h;by_cases h0:0<=i
 ·rw[if_pos h0] at h;by_cases h1:i<n
  ·rw[if_pos h1] at h;have e:i.toNat=j:=LF h;exact⟨by rw[VC h0 h1,e],by lia,by lia,h1⟩
  ·rw[if_neg h1] at h;cases h
 ·rw[if_neg h0] at h;by_cases h1 : -(n:Int)<=i
  ·rw[if_pos h1] at h;have e:(i+n).toNat=j:=LF h;exact⟨by rw[UQ (by lia) h1,e],by lia,h1,by lia⟩
  ·rw[if_neg h1] at h;cases h
theorem uJ{α:Type}{xs:List α}{v:α}(h:mO xs i=some v):∃j,seqIndex? i xs.length=some j/\xs[j]?=some v/\j<xs.length/\-(xs.length:Int)<=i/\i<xs.length:=by
 unfold mO at h;cases e:CT xs.length i with
 |none=>rw[e] at h;cases h
 |some j =>
  rw[e] at h;obtain⟨h1,h2,h3,h4⟩:=Ab e;exact⟨j,h1,h,h2,h3,h4⟩
theorem bQ{α:Type}{xs:List α}{j:Nat}{v:α}(h:xs[j]?=some v):mO xs (j:Int)=some v:=by
 have hj:j<xs.length:=(Ld.mp h).1
 have e:CT xs.length (j:Int)=some j:=by
  unfold CT;rw[if_pos (by lia),if_pos (by lia)];simp
 unfold mO;rw[e];exact h
def GJ(b:Expr):Prop:=∀o i,subscripted b false o i=operate [o,i] (getItem o i)
def IxR(X:Cx)(r:R2):Prop :=
 ∀(value slice:Expr) (pins:List (Addr×Obj)) (s:Lf) (σ:St) (H:Hp) (x y:V) (v u:K_) (Q:VK),Inv X pins σ H s->RelV x v->RelV y u->r x y H Q ->
  subscripted slice false v u=operate [v,u] (getItem v u)->wpAny (model X.prog X.w) X.A (subscriptTail value slice v u) (EP X pins σ Q) X.xe s
def Ba(X:Cx)(id:String)(r:V->List V->Hp->VK->Prop):Prop :=
 ∀(pins:List (Addr×Obj)) (s:Lf) (σ:St) (H:Hp) (x:V) (xs:List V) (v:K_) (us:List K_) (Q:VK),Inv X pins σ H s->RelV x v->Vals xs us->r x xs H Q ->
  wpAny (model X.prog X.w) X.A (call (.builtin id) (v :: us)) (EP X pins σ Q) X.xe s
section
variable{X:Cx}{a b:Expr}{ta tb:TE}{pos:Pos}
theorem IxR.or(h:IxR X r)(h':IxR X r'):IxR X (fun x y H Q=>r x y H Q\/r' x y H Q):=by
 intro value slice pins s σ H x y v u Q I rx ry q hs;rcases q with q|q
 ·exact h value slice pins s σ H x y v u Q I rx ry q hs
 ·exact h' value slice pins s σ H x y v u Q I rx ry q hs
theorem aQ(hr:IxR X r)(ha:PE X a ta)(hb:PE X b tb)(hs:GJ b):PE X (.Subscript a b pos) (aB r ta tb):=by
 intro pins s σ H Q I h;exact Subscript_ (Gy ha hb I h fun v u s2 x y H2 I2 rx ry q=>hr a b pins s2 σ H2 x y v u Q I2 rx ry q (hs _ _))
def bz(K:Fg):R2:=fun x y H Q=>∃p xs i v,x=.ref p/\y=.int i/\SqL K H p xs/\mO xs i=some v/\Q v H
def bh(K:Fg):R2:=fun x y H Q=>∃p xs i v,x=.ref p/\y=.int i/\SqT K H p xs/\mO xs i=some v/\Q v H
def wD:R2:=fun x y H Q=>∃z i c,x=.str z/\y=.int i/\z.length<=sizeLine/\mO z.cps.toList i=some c/\Q (.str ⟨#[c]⟩) H
theorem aT:IxR X (bz X.K):=by
 intro value slice pins s σ H x y v u Q I rx ry h hs;obtain⟨p,xs,i,z,rfl,rfl,hq,he,q⟩:=h;cases rx;obtain⟨t,rfl⟩:=ry;obtain⟨fm,r,pl,hz⟩:=I.list hq;obtain⟨j,h1,h2,h3,h4,h5⟩:=uJ he;obtain⟨w,ew,rw'⟩:=r.get h2;have hl:=r.length;have hn:=mf;have fin:EP X pins σ Q w s:=⟨z,H,I,rw',q⟩
 by_cases h0:0<=i
 ·have hj:i.toNat=j:=by
   rw[VC h0 h5] at h1;exact LF h1
  exact item_listR pl.isList h0 (by lia) (by rw[hj];simpa using ew) fin hs
 ·have hj:(i+(fm.toArray.size:Int)).toNat=j:=by
   rw[UQ (by lia) h4] at h1;rw[LC,<- hl];exact LF h1
  exact R9 (x:=w) pl.isList.typeIs Ro.lookup
   (wpAny_getItem_list_neg (Q:=fun r s'=>r=w/\EP X pins σ Q r s') pl.isList (by lia) (by rw[LC] <;> lia) (by lia) (by rw[hj];simpa using ew) ⟨rfl,fin⟩) hs
theorem aX:IxR X (bh X.K):=by
 intro value slice pins s σ H x y v u Q I rx ry h hs;obtain⟨p,xs,i,z,rfl,rfl,hq,he,q⟩:=h;cases rx;obtain⟨t,rfl⟩:=ry;obtain⟨fm,r,pl,hz⟩:=I.tuple hq;obtain⟨j,h1,h2,h3,h4,h5⟩:=uJ he;obtain⟨w,ew,rw'⟩:=r.get h2;have hl:=r.length;have hn:=mf;have fin:EP X pins σ Q w s:=⟨z,H,I,rw',q⟩
 exact R9 (x:=w) pl.typeIs slot_tuple_getitem.lookup
  (getItem_tuple (j:=j) (Q:=fun r s'=>r=w/\EP X pins σ Q r s') pl (by lia) (by lia) (by rw[LC,<- hl];exact h1) (by simpa using ew) ⟨rfl,fin⟩) hs
theorem vJ:IxR X wD:=by
 intro value slice pins s σ H x y v u Q I rx ry h hs;obtain⟨z,i,c,rfl,rfl,hz,he,q⟩:=h;obtain⟨t,rfl⟩:=rx;obtain⟨t',rfl⟩:=ry;obtain⟨j,h1,h2,h3,h4,h5⟩:=uJ he;have hl:z.cps.toList.length=z.length:=by simp[VS]
 rw[hl] at h1 h4 h5;have hn:=mf
 exact tail_any (PL s z t) slot_str_getitem.lookup (getItem_str (c:=c) (by
  have e1:decide (i < -(2 ^ 63:Int))=false:=decide_eq_false (by lia)
  have e2:decide (i≥2 ^ 63)=false:=decide_eq_false (by lia)
  rw[e1,e2,Ua]) (by rw[h1];simpa using h2) ⟨.str ⟨#[c]⟩,H,I.tok _,⟨_,rfl⟩,q⟩) hs
def Fp(K:Fg):R2:=fun x y H Q=>bz K x y H Q\/bh K x y H Q\/wD x y H Q
theorem Ed:IxR X (Fp X.K):=aT.or (aX.or vJ)
theorem wP(fm:List K_) (n j:Nat) (u:K_):M_ (·.setIfInBounds j u) {cls:=.type "list",data:=.seq fm.toArray n} = {cls:=.type "list",data:=.seq (fm.set j u).toArray n}:=by
 simp[M_]
theorem Inv.lst{pins:List (Addr×Obj)}{σ:St}{H:Hp}{s:Lf}{p:Addr}{xs:List V}(I:Inv X pins σ H s)(h:H p=some (.lst xs)) :
  ∃(fm:List K_) (n:Nat),Vals xs fm/\s.heap.get? p=some {cls:=.type "list",data:=.seq fm.toArray n}/\xs.length<=sizeLine:=by
 obtain⟨z,fm,n,r,e⟩:=I.hok p _ h;exact⟨fm,n,r,e,z⟩
theorem Inv.HJ{H:Hp}{fm its':List K_}{f:Obj->Obj}(I:Inv X pins σ H s)(h:H p=some (.lst xs))
  (ho:s.heap.get? p=some {cls:=.type "list",data:=.seq fm.toArray n}) (hf:f {cls:=.type "list",data:=.seq fm.toArray n} = {cls:=.type "list",data:=.seq its'.toArray n'}) (r:Vals ys its') (hz:ys.length<=sizeLine) (t:Nat) :
  Inv X pins σ (upd H p (.lst ys)) {s with heap:=s.heap.update p f,toks:=t}:=by
 have e:(s.heap.update p f).get? p=some {cls:=.type "list",data:=.seq its'.toArray n'}:=by
  rw[Mi f ho (by rw[hf] <;> rfl),hf]
 refine I.write (x:=p) (e:=p) (by rw[h];trivial) (.inl rfl) (fun b u hb q=>(L8 _ _ (MO hb)).trans q) ⟨_,e⟩ ?_;exact⟨hz,its',n',r,e⟩
def Fo:V->V->V->Hp->(Hp->Prop)->Prop:=fun o i v H Q=>∃p xs k j,o=.ref p/\i=.int k/\H p=some (.lst xs)/\CT xs.length k=some j/\Q (upd H p (.lst (xs.set j v)))
theorem qt:Jc X Fo:=by
 intro pins s σ H o i v ov iv u Q I ro ri rv h;obtain⟨p,xs,k,j,rfl,rfl,hp,hj,q⟩:=h;cases ro;obtain⟨t,rfl⟩:=ri;obtain⟨fm,n,r,ho,hz⟩:=I.lst hp;obtain⟨h1,h2,h3,h4⟩:=Ab hj;have hl:=r.length;have hn:=mf
 have I':Inv X pins σ (upd H p (.lst (xs.set j v))) {s with heap:=s.heap.update p (M_ (·.setIfInBounds j u))} :=
  I.HJ hp ho (wP fm n j u) (r.set rv j) (by rw[VH];exact hz) s.toks
 by_cases h0:0<=k
 ·have hk:k.toNat=j:=by
   rw[VC h0 h4] at h1;exact LF h1
  exact PySem.W.ki_setAt ho h0 (by lia) (by rw[LC,<- hl];exact h4) (by rw[hk];exact⟨_,I',q⟩)
 ·have hk:(k+(fm.toArray.size:Int)).toNat=j:=by
   rw[UQ (by lia) h3] at h1;rw[LC,<- hl];exact LF h1
  exact PySem.W.ki_setBack ho (by lia) (by rw[LC,<- hl];exact h3) (by lia) (by rw[hk];exact⟨_,I',q⟩)
theorem qr(lo hi:Option Int)(n:Nat):(sliceBounds lo hi none n).1=((HT.sIx n 0 lo:Nat):Int)/\(sliceBounds lo hi none n).2.1=((HT.sIx n n hi:Nat):Int)/\(sliceBounds lo hi none n).2.2=1:=by
 refine⟨?_,?_,rfl⟩
 ·cases lo with
  |none=>simp[sliceBounds,HT.sIx]
  |some i =>
   simp only[sliceBounds,HT.sIx,Vi,show(1:Int) > 0 by decide,if_true];by_cases h:i<0
   ·simp only[h,if_true] <;> lia
   ·simp only[h,if_false] <;> lia
 ·cases hi with
  |none=>simp[sliceBounds,HT.sIx]
  |some i =>
   simp only[sliceBounds,HT.sIx,Vi,show(1:Int) > 0 by decide,if_true];by_cases h:i<0
   ·simp only[h,if_true] <;> lia
   ·simp only[h,if_false] <;> lia
theorem oB(fm:List K_)(lo hi:Option Int):slicePick fm.toArray lo hi none=((fm.drop (HT.sIx fm.length 0 lo)).take (HT.sIx fm.length fm.length hi-HT.sIx fm.length 0 lo)).toArray:=by
 obtain⟨h1,h2,h3⟩:=qr lo hi fm.toArray.size;unfold slicePick;rw[h1,h2,h3];simp only[sliceRange_one,pick_run,LC] <;> rfl
def Fn(K:Fg):V->Option Int->Option Int->Hp->VK->Prop:=fun x lo hi H Q=>∃a xs,x=.ref a/\SqL K H a xs/\∀p,H p=none->Q (.ref p) (upd H p (.lst (f_ xs lo hi)))
theorem yn:Ju X (Fn X.K):=by
 intro pins s σ H x v vl vu lo hi sl Q I rx hs pl pu h;obtain⟨a,xs,rfl,hx,q⟩:=h;cases rx;obtain⟨fm,r,ht,hz⟩:=I.list hx;have hlen:=r.length;refine⟨"list",_,Ro.lookup,ht.isList.typeIs,?_⟩;refine Ry ht.isList hs pl pu .none (by simp) ?_ (by rw[LC] <;> lia);rw[oB,<- hlen];refine⟨.ref s.heap.objs.size,_,I.laid (t':=s.toks) (o:=.lst (f_ xs lo hi)) (fun b ob q=>K9 _ q) (Lg _) ?_,rfl,q _ (I.hok.fresh (Lg _))⟩;exact⟨Mh (kP xs lo hi) hz,_,0,(r.drop (HT.sIx xs.length 0 lo)).take (HT.sIx xs.length xs.length hi-HT.sIx xs.length 0 lo),Lu _ rfl⟩
theorem aM:iZ X (.builtin "len") (fun xs H Q=>∃p ys,xs=[.ref p]/\(SqL X.K H p ys\/SqT X.K H p ys)/\Q (.int ys.length) H):=by
 intro pins s σ H xs us Q I r h;obtain⟨p,ys,rfl,hq,q⟩:=h;obtain⟨u,rfl,rx⟩:=vals1 r;cases rx;have hn:=mf;rcases hq with hq|hq
 ·obtain⟨fm,r',pl,hz⟩:=I.list hq;have hlen:=r'.length;exact Calls.call_len_list pl.isList (by simp only[LC] <;> lia) ⟨.int ys.length,H,I.tok _,⟨s.toks+1,by rw[LC,hlen]⟩,q⟩
 ·obtain⟨fm,r',pl,hz⟩:=I.tuple hq;have hlen:=r'.length;exact len_tuple pl (by simp only[LC] <;> lia) ⟨.int ys.length,H,I.tok _,⟨s.toks+1,by rw[LC,hlen]⟩,q⟩
theorem se:iZ X (.builtin "len") (fun xs H Q=>∃z,xs=[.str z]/\z.length<=sizeLine/\Q (.int z.length) H):=by
 intro pins s σ H xs us Q I r h;obtain⟨z,rfl,hz,q⟩:=h;obtain⟨u,rfl,t,rfl⟩:=vals1 r;have hn:=mf;exact len_str (by lia) ⟨.int z.length,H,I.tok _,⟨_,rfl⟩,q⟩
theorem jb:iZ X (.type "list") (fun xs H Q=>∃p ys,xs=[.ref p]/\(SqL X.K H p ys\/SqT X.K H p ys)/\∀l,H l=none->Q (.ref l) (upd H l (.lst ys))):=by
 intro pins s σ H xs us Q I r h;obtain⟨p,ys,rfl,hq,q⟩:=h;obtain⟨u,rfl,rx⟩:=vals1 r;cases rx
 have fin:∀(fm:List K_),Vals ys fm->ys.length<=sizeLine->∀(h':Heap) (c':Nat),(∀b o',s.heap.get? b=some o'->h'.get? b=some o') ->
   h'.get? s.heap.objs.size=some {cls:=.type "list",dict:=none,data:=.seq fm.toArray c',slots:=#[]}->EP X pins σ Q (.ref s.heap.objs.size) {s with heap:=h'}:=fun fm r' hz h' c' kp e =>
  ⟨.ref s.heap.objs.size,_,I.laid (t':=s.toks) kp (Lg _) (show ci X.prog X.w _ h' _ (.lst ys) from⟨hz,fm,c',r',e⟩),rfl,q _ (I.hok.fresh (Lg _))⟩
 rcases hq with hq|hq
 ·obtain⟨fm,r',pl,hz⟩:=I.list hq;have hlen:=r'.length;obtain⟨o,ho,hc,n,hd⟩:=pl.isList;exact call_list_seq p (.inl rfl) ho hc hd (fun h' c' kp e=>fin fm r' hz h' c' kp e) (by simp only[LC] <;> lia)
 ·obtain⟨fm,r',pl,hz⟩:=I.tuple hq;have hlen:=r'.length;obtain⟨o,ho,hc,n,hd⟩:=pl;exact call_list_seq p (.inr rfl) ho hc hd (fun h' c' kp e=>fin fm r' hz h' c' kp e) (by simp only[LC] <;> lia)
theorem aZ:iZ X (.type "tuple") (fun xs H Q=>∃p ys,xs=[.ref p]/\((SqL X.K H p ys/\∀l,H l=none->Q (.ref l) (upd H l (.tup ys)))\/(SqT X.K H p ys/\Q (.ref p) H))):=by
 intro pins s σ H xs us Q I r h;obtain⟨p,ys,rfl,h⟩:=h;obtain⟨u,rfl,rx⟩:=vals1 r;cases rx;rcases h with⟨hq,q⟩|⟨hq,q⟩
 ·obtain⟨fm,r',pl,hz⟩:=I.list hq;have hlen:=r'.length;refine call_tuple_list pl.isList (fun h' kp=>?_) (by simp only[LC] <;> lia);have I1:Inv X pins σ H {s with heap:=h'}:=I.kept (t':=s.toks) kp
  have I2:Inv X pins σ (upd H h'.objs.size (.tup ys)) {s with heap:=h'.push {cls:=.type "tuple",data:=.seq fm.toArray}} :=
   I1.laid (t':=s.toks) (fun b o e=>K9 _ e) (Lg _) (show ci X.prog X.w _ _ _ (.tup ys) from⟨hz,fm,r',TupD.new _ _⟩)
  exact⟨.ref h'.objs.size,_,I2,rfl,q _ (I1.hok.fresh (Lg _))⟩
 ·obtain⟨fm,r',pl,hz⟩:=I.tuple hq;exact call_tuple_same pl ⟨.ref p,H,I,rfl,q⟩
def ED(K:Fg)(T:String)(x:V)(H:Hp):Prop:=match x with
 |.str _=>T = "str"
 |.int _=>T = "int"
 |.ref p=>(T = "list"/\∃xs,SqL K H p xs)\/(T = "tuple"/\∃o,K.lookup p=some o/\o.cls=.type "tuple"/\o.dict=none) \/
   (T = "dict"/\((∃fx,H p=some (.dK fx))\/∃fx,H p=some (.dT fx)))\/(T = "set"/\∃S n,H p=some (.set S n))
 |_=>False
theorem DC{H:Hp}(I:Inv X pins σ H s)(r:RelV x v)(ty:ED X.K T x H) :
  s.TypeIs v T/\∀a,v=.ref a->∃ob,s.heap.get? a=some ob/\ob.dict=none:=by
 cases x with
 |str z =>
  obtain⟨t,rfl⟩:=r;cases (show T = "str" from ty);exact⟨PL s z t,fun _ e=>nomatch e⟩
 |int i =>
  obtain⟨t,rfl⟩:=r;cases (show T = "int" from ty);exact⟨R_ s i t,fun _ e=>nomatch e⟩
 |ref p =>
  cases r;rcases ty with⟨rfl,xs,hq⟩|⟨rfl,o,hk,hc,hd⟩|⟨rfl,hk⟩|⟨rfl,S,n,hk⟩
  ·obtain⟨fm,_,pl,_⟩:=I.list hq;refine⟨pl.isList.typeIs,fun a e=>?_⟩;cases e;obtain⟨o,n,e,c,hd,_⟩:=pl;exact⟨o,e,hd⟩
  ·refine⟨⟨o,I.kIn p o hk,hc⟩,fun a e=>?_⟩;cases e;exact⟨o,I.kIn _ o hk,hd⟩
  ·have z:∃o,s.heap.get? p=some o/\o.ExactDict:=by
    rcases hk with⟨fx,hk⟩|⟨fx,hk⟩
    ·obtain⟨_,_,_,_,o,_,_,e,ex,_⟩:=I.hok p _ hk;exact⟨o,e,ex⟩
    ·obtain⟨_,_,_,_,o,_,_,e,ex,_⟩:=I.hok p _ hk;exact⟨o,e,ex⟩
   obtain⟨o,e,ex⟩:=z;refine⟨⟨o,e,ex.1⟩,fun a e2=>?_⟩;cases e2;exact⟨o,e,ex.2.1⟩
  ·obtain⟨o,_,_,_,e,ex,_⟩:=I.hok p _ hk;refine⟨⟨o,e,ex.1⟩,fun a e2=>?_⟩;cases e2;exact⟨o,e,ex.2.1⟩
 |_=>exact M7 ty
def wq(K:Fg)(T:String)(r:V->List V->Hp->VK->Prop)(to:TE):TE:=fun σ H Q=>to σ H fun x H1=>ED K T x H1/\r x [] H1 Q
def lg(K:Fg)(T:String)(r:V->List V->Hp->VK->Prop)(to:TE)(t:TA):TE:=fun σ H Q=>to σ H fun x H1=>ED K T x H1/\t σ H1 fun xs H2=>r x xs H2 Q
variable{o e:Expr}{es:List Expr}{to:TE}{t:TA}{name:Str}{apos V9:Pos}{T id:String}{r:V->List V->Hp->VK->Prop}
theorem vC(pa:PlainAttrs T) (slot:Slot T name id) (Z9:typeOf (.builtin id)=pure (.type "method_descriptor")) (hm:Ba X id r) (ho:PE X o to)
  (hbase:attributeBase o name X.env (eval o X.env)=eval o X.env:=by rfl) (hline:(apos.endLine == V9.line)=true:=by rfl):PE X (.Call (.Attribute o name apos) [] [] V9) (wq X.K T r to):=by
 intro pins s σ H Q I h;refine wpAny_Call_method0_late hbase hline (bp (ho pins s σ H _ I h) fun v s1 ⟨x,H1,I1,r1,ty,q1⟩=>?_);obtain⟨h1,h2⟩:=DC I1 r1 ty;exact⟨T,id,pa,slot,Z9,h1,h2,N4 rfl (PySem.evalArgs_none (hm pins s1 σ H1 x [] v [] Q I1 r1 .nil q1))⟩
theorem fo(pa:PlainAttrs T) (slot:Slot T name id) (Z9:typeOf (.builtin id)=pure (.type "method_descriptor")) (hm:Ba X id r) (ho:PE X o to) (ha:PA X (e :: es) t)
  (hbase:attributeBase o name X.env (eval o X.env)=eval o X.env:=by rfl)
  (hfew:((backTo V9 (starEach (e :: es) X.env)).all (fun x=>!x.1) && (backToKw V9 (keywordEach [] X.env)).all (fun x=>x.1.isSome)
   && decide ((e :: es).length+([]:List TH).length+(if ([]:List TH).isEmpty then 0 else 1)<30))=true:=by rfl)
  (hline:(apos.endLine == V9.line)=true:=by rfl) (hs:starEach (e :: es) X.env=(false,eval e X.env) :: starEach es X.env:=by rfl) (Xu:(backTo V9 (starEach es X.env)).any (·.1)=false:=by rfl) :
  PE X (.Call (.Attribute o name apos) (e :: es) [] V9) (lg X.K T r to t):=by
 intro pins s σ H Q I h;refine Sa hbase hfew hline rfl (bp (ho pins s σ H _ I h) fun v s1 ⟨x,H1,I1,r1,ty,q1⟩=>?_);obtain⟨h1,h2⟩:=DC I1 r1 ty;refine⟨T,id,pa,slot,Z9,h1,h2,?_⟩;have hA:=ha V9 pins s1 σ H1 _ I1 q1;rw[hs] at hA ⊢;refine N4 (by show(false || (backTo V9 (starEach es X.env)).any (·.1))=false;rw[Xu] <;> rfl) (Oq ?_);exact bp hA fun us s2 ⟨vs,H2,I2,r2,q2⟩=>hm pins s2 σ H2 x vs v us Q I2 r1 r2 q2
end
def KL(X:Cx)(id:String)(r:V->List V->Hp->VK->Prop):Prop :=
 ∀(pins:List (Addr×Obj)) (s:Lf) (σ:St) (H:Hp) (x:V) (xs:List V) (v:K_) (us:List K_) (Q:VK),Inv X pins σ H s->RelV x v->Vals xs us->r x xs H Q ->
  wpAny (model X.prog X.w) X.A (call (.builtin id) (v :: us)) (EP X pins σ Q) X.xe s
theorem Vals.one:∀{x:V} {us:List K_},Vals [x] us->∃u,us=[u]/\RelV x u
 |_,_,.cons r .nil=>⟨_,rfl,r⟩
theorem Vals.zero:∀{us:List K_},Vals [] us->us=[]
 |_,.nil=>rfl
theorem Vals.reverse(h:Vals xs us):Vals xs.reverse us.reverse:=by
 induction h with
 |nil=>exact .nil
 |cons r t ih=>rw[O6,O6];exact Vals.append ih (.cons r .nil)
section
variable{X:Cx}{pins:List (Addr×Obj)}{σ:St}{H:Hp}{s:Lf}{l b:Addr}{xs ys zs:List V}
theorem Inv.lset{fm its':List K_}{f:Array K_->Array K_}{t':Nat}(I:Inv X pins σ H s)(hH:H l=some (.lst xs))
  (e:s.heap.get? l=some {cls:=.type "list",data:=.seq fm.toArray n}) (hf:f fm.toArray=its'.toArray) (hv:Vals ys its') (hz:ys.length<=sizeLine) :
  Inv X pins σ (upd H l (.lst ys)) {s with heap:=s.heap.update l (M_ f),toks:=t'}:=by
 have q:=PySem.IsL.update e f;rw[hf] at q;refine I.write (x:=l) (e:=l) (by rw[hH];exact trivial) (.inl rfl) (fun b' u hb hu=>(L8 s.heap (M_ f) (MO hb)).trans hu) ⟨_,q⟩ ?_;exact⟨hz,its',_,hv,q⟩
theorem Inv.lnew{t':Nat}(I:Inv X pins σ H s)(hv:Vals ys fm)(hz:ys.length<=sizeLine) :
  Inv X pins σ (upd H s.heap.objs.size (.lst ys)) {s with heap:=s.heap.push {cls:=.type "list",data:=.seq fm.toArray},toks:=t'} :=
 I.laid (fun _ _ q=>K9 _ q) (Lg _) ⟨hz,fm,0,hv,Lu _ rfl⟩
theorem Inv.fresh(I:Inv X pins σ H s):H s.heap.objs.size=none:=I.hok.fresh (Lg _)
theorem Inv.lstM(I:Inv X pins σ H s) (hH:H l=some (.lst xs)):xs.length<=sizeLine/\∃(fm:List K_) (n:Nat),Vals xs fm/\xs.length=fm.length/\s.heap.get? l=some {cls:=.type "list",data:=.seq fm.toArray n}:=by
 obtain⟨z,fm,n,r,e⟩:=I.hok l _ hH;exact⟨z,fm,n,r,r.length,e⟩
end
section
variable{X:Cx}
def di:V->List V->Hp->VK->Prop:=fun x vs H Q=>∃l xs y,x=.ref l/\vs=[y]/\H l=some (.lst xs)/\xs.length<sizeLine/\Q .non (upd H l (.lst (xs++[y])))
theorem ca:KL X "list.append" di:=by
 intro pins s σ H x vs v us Q I rx rv h;obtain⟨l,xs,y,rfl,rfl,hH,hz,q⟩:=h;cases rx;obtain⟨u,rfl,ru⟩:=rv.one;obtain⟨z,fm,n,r,hl,e⟩:=I.lstM hH;refine NM F.slot_list_append ⟨_,e,rfl⟩ F.entry_list_append (F.args_list_append_2 _ _) (PySem.list_append l fm.toArray n u (by rw[LC];lia)) ⟨e,?_⟩;refine⟨.non,_,I.lset (its':=fm++[u]) hH e (by simp) (r.append (.cons ru .nil)) ?_,rfl,q⟩;rw[LQ,L9];lia
def vo:V->List V->Hp->VK->Prop:=fun x vs H Q=>∃l xs,x=.ref l/\vs=[]/\H l=some (.lst xs)/\Q .non (upd H l (.lst xs.reverse))
theorem wO:KL X "list.reverse" vo:=by
 intro pins s σ H x vs v us Q I rx rv h;obtain⟨l,xs,rfl,rfl,hH,q⟩:=h;cases rx;have hus:=rv.zero;subst hus;obtain⟨z,fm,n,r,hl,e⟩:=I.lstM hH;refine NM F.slot_list_reverse ⟨_,e,rfl⟩ F.entry_list_reverse (F.args_list_reverse_1 _) (AutoSeq1.list_reverse_list_0 l fm.toArray n (by rw[LC];lia)) ⟨e,?_⟩;refine⟨.non,_,I.lset (its':=fm.reverse) hH e (by simp) r.reverse ?_,rfl,q⟩;rw[Pq];lia
def qO:V->List V->Hp->VK->Prop:=fun x vs H Q=>∃l xs,x=.ref l/\vs=[]/\H l=some (.lst xs)/\Q .non (upd H l (.lst []))
theorem pb:KL X "list.clear" qO:=by
 intro pins s σ H x vs v us Q I rx rv h;obtain⟨l,xs,rfl,rfl,hH,q⟩:=h;cases rx;have hus:=rv.zero;subst hus;obtain⟨z,fm,n,r,hl,e⟩:=I.lstM hH;refine NM F.slot_list_clear ⟨_,e,rfl⟩ F.entry_list_clear (F.args_list_clear_1 _) (AutoSeq1.list_clear_list_0 l fm.toArray n (by rw[LC];lia)) ⟨e,?_⟩;exact⟨.non,_,I.lset (its':=[]) (ys:=[]) hH e rfl .nil (Ml _),rfl,q⟩
def Cb:R2:=fun x y H Q=>∃l b xs zs,x=.ref l/\y=.ref b/\H l=some (.lst xs)/\H b=some (.lst zs)/\xs.length+zs.length<=sizeLine/\∀p,H p=none->Q (.ref p) (upd H p (.lst (xs++zs)))
theorem zp:fq X (binaryOp .Add) Cb:=by
 intro pins s σ H x y v u Q I rx ry h;obtain⟨l,b,xs,zs,rfl,rfl,hH,hB,hz,q⟩:=h;cases rx;cases ry;obtain⟨z,fm,n,r,hl,e⟩:=I.lstM hH;obtain⟨z2,X0,n2,r2,X8,e2⟩:=I.lstM hB;refine PySem.P.add_list e e2 ?_ (by rw[LC,LC];lia);have ea:fm.toArray++X0.toArray=(fm++X0).toArray:=by simp
 rw[ea];exact⟨.ref _,_,I.lnew (t':=s.toks) (r.append r2) (by rw[LQ];lia),rfl,q _ I.fresh⟩
end
end L2
namespace Att
open PySem PySem.W PySem.Calls PyProof.Rows
theorem kJ:∀(ns:List Int) (vs:List K_),WellAll P h vs (ns.map WData.int)->VP vs ns:=by
 intro ns
 induction ns with
 |nil =>
  intro vs w;rw[QU] at w;cases w;exact .nil
 |cons n ns ih =>
  intro vs w;rw[LX] at w;cases w with
  |cons a b =>
   cases a;exact .cons _ _ (ih _ b)
theorem yx{l:OpenLaw}{n:Nat}(hn:l.most=some n)
  (hpre:l.row.toRowW.claim.pre args=true) (hwl:WellAll P h vals args) :
  ∃a vs ns,vals=[LH a]/\args=[WData.list (ns.map WData.int)]/\h.get? a=some {cls:=.type "list",data:=.seq vs.toArray}/\VP vs ns/\ns.length<=n:=by
 have hsh:WShape.hasAll [] args [.list .int]=true:=(pre_splitW hpre).1;have hc:l.pre.holds [] {args:=args}=true:=(pre_splitW hpre).2;obtain⟨d,r,rfl,h1,h2⟩:=hasAllW_cons hsh;obtain rfl:=hasAllW_nil h2;obtain⟨xs,rfl,h3⟩:=hasW_list h1;obtain⟨ns,rfl⟩:=items_int h3
 have hlen:ns.length<=n:=by
  unfold OpenLaw.pre at hc
  have h4:(WTm.not (.lt (.lit (.int (n:Int))) (.len (.arg 0)))).holds [] {args:=[.list (ns.map .int)]}=true:=by
   have h4:=(holds_andW hc).1;rw[hn] at h4;exact h4
  have h5:=condW_of h4 (w_not (w_lt w_lit (w_len_list (w_arg rfl))));rw[La] at h5;refine Nat.le_of_not_lt fun q=>?_
  have q':(n:Int)<((ns.length:Nat):Int):=by lia
  first
   |(rw[decide_eq_true q'] at h5;exact absurd h5 (by decide))
   |(simp at h5;omega)
 cases hwl with
 |cons w1 w2 =>
  cases w2;cases w1 with
  |list ho WX=>exact⟨_,_,ns,rfl,rfl,ho,kJ ns _ WX,hlen⟩
theorem y6(l:OpenLaw)(args:List WData):l.row.toRowW.claim.post args (.bool true) args=true :=
 postW_of (r:=l.row.toRowW) (X:=(true == true))
  (show WShape.has [] (.bool true) .bool=true by first|rfl|decide|simp[WShape.has,WShape.arms,WShape.armsAll])
  (show(WTm.eq .res (.lit (.bool true))).value [] {args:=args,res:=some (.bool true),after:=args}=some (.bool (true == true)) from w_eq_bool (w_res rfl) w_lit) rfl
theorem uI{l:OpenLaw}{n:Nat}{XP:(Str->Option K_)->Heap->Prop}{YP:LL->Heap->Prop}{d:DefRec}
  (hn:l.most=some n) (ZQ:d.params.defaults=[])
  (call:∀(w:LL) (s₀ s₁:Lf) (mg mb:Str->Option K_) (fa:Addr) (o:Obj) (pm cd doc:K_) (a:Addr) (vs:List K_) (ns:List Int),
   Ground q loose [] XP w s₀ mg mb s₁.heap->YP w s₁.heap ->
   s₁.heap.get? fa=some o->o.data=.func (docDef d.name d.params d.body d.scope pm cd doc)->s₁.heap.CodeRec cd d.name->mg d.name=some (.ref fa) ->
   s₁.heap.get? a=some {cls:=.type "list",data:=.seq vs.toArray}->VP vs ns->ns.length<=n->s₁.gens = #[] ->
   codeAny (model l.prog w) callerA (.call (.ref fa) ⟨[.ref a],[]⟩) (fun r s'=>r=.ok (.ret (.bool true))/\OldK s₁.heap s'.heap/\s'.os=s₁.os/\Qu s'.gens) s₁) :
  WalkO q loose XP YP l.row.toRowW d [] (fun f vs=>Um f vs):=by
 intro w s₀ s₁ mg mb G Y fa o pm cd doc dV kV ho hd hcd hD Z0 hg args vals as hpre hlay hrd hwl hlo;obtain rfl:dV=.none:=Dflts.none hD ZQ;obtain rfl:kV=.none:=Dflts.noKw hD;obtain⟨a,vs,ns,rfl,rfl,Y6,hints,hlen⟩:=yx hn hpre hwl;refine enter_call (OO (call w s₀ s₁ mg mb fa o pm cd doc a vs ns G Y ho (fd_plain hd) hcd Z0 Y6 hints hlen hg) fun r s' hq=>?_);obtain⟨rfl,h2,h3,h4⟩:=hq;exact⟨.inl ⟨.bool true,.bool true,[],rfl,fun _=>rfl,.bool true,y6 l _,fun _=>⟨UR,fun _ hm=>(nomatch hm)⟩⟩,h2,h3,h4⟩
end Att
namespace L2
open PySem PySem.Spec PyProof.Rows
theorem pZ:∀{vs:List K_} {ns:List Int},VP vs ns->Vals (ns.map V.int) vs
 |_,_,.nil=>.nil
 |_,_,.cons n t h=>.cons ⟨t,rfl⟩ (pZ h)
def GK(H:Hp):Prop:=∀b,H b=none\/∃o xs,H b=some (.frz o (.lst xs))
theorem CH{K:Fg}{CX:jB}{a:Addr}{x:Str}{sp:Sp}{s₁:Lf}{vs:List K_}
  (KX:K.In s₁.heap) (X_:s₁.heap.Ns mainGlobals mg) (hb:s₁.heap.Ns builtinsNs mb) (hbb:∀x:Str,x≠"__name__"->mb x=bootBuiltins x) (hlim:s₁.heap.NoLimit) (hg:s₁.gens = #[])
  (ha:s₁.heap.get? a=some {cls:=.type "list",data:=.seq vs.toArray}) (hi:VP vs ns) (hl:ns.length<=sizeLine) (hr:Room k callerA)
  (F:∀base:Heap,K.In base->base.Ns mainGlobals mg->FnOk P w K mg base CX k fa fd [x] sp) (ZO:∀(s:Lf) (u:K_),UN s fd ⟨[u],[]⟩ [(x,u)])
  (hsp:∀H:Hp,GK H->SqL K H a (ns.map V.int)->sp [.ref a] H (fun v _=>v=.bl true) fun _ _ _=>False)
  (hCX:∀H e s',CX [] H s₁ (fun _ _ _=>False) e s'->False) :
  codeAny (model P w) callerA (.call (.ref fa) ⟨[.ref a],[]⟩) (fun r s'=>r=.ok (.ret (.bool true))/\OldK s₁.heap s'.heap/\s'.os=s₁.os/\Qu s'.gens) s₁:=by
 have rv:=pZ hi;have lenV:=hi.length
 have core:∀H:Hp,GK H->SqL K H a (ns.map V.int)->HOk P w H s₁.heap->(∀b,H b≠none->b=a)->(H a≠none->K.lookup a=none) ->
   codeAny (model P w) callerA (.call (.ref fa) ⟨[.ref a],[]⟩) (fun r s'=>r=.ok (.ret (.bool true))/\OldK s₁.heap s'.heap/\s'.os=s₁.os/\Qu s'.gens) s₁:=by
  intro H hO hS hok hA hK;have Xz:∀{b:Addr} {o:Obj},s₁.heap.get? b=some o->H b=none->(pI s₁.heap H).get? b=some o:=fun e n=>CY e n
  have noA:∀{b:Addr} {o:Obj} {es:Array RL} {ep:Nat},s₁.heap.get? b=some o->o.data=.dict es ep->H b=none:=fun {b o es ep} e d=>by
   cases q:H b with
   |none=>rfl
   |some u =>
    have e':b=a:=hA b (by rw[q];simp);subst e';rw[ha] at e;cases e;have d':US vs.toArray _=Data.dict es ep:=d;cases d'
  have nsK:∀{b:Addr} {m:Str->Option K_},s₁.heap.Ns b m->(pI s₁.heap H).Ns b m:=fun {b m} ⟨o,es,ep,e,d,r⟩=>⟨o,es,ep,Xz e (noA e d),d,r⟩
  have hKb:K.In (pI s₁.heap H):=fun b o e=>Xz (KX b o e) (by
   cases q:H b with
   |none=>rfl
   |some u =>
    have e':b=a:=hA b (by rw[q];simp)
    subst e'
    rw[hK (by rw[q];simp)] at e;cases e)
  have hM:Mod K mg (pI s₁.heap H):=⟨hKb,nsK X_,⟨mb,nsK hb,hbb⟩,let ⟨mc,h1,h2⟩:=hlim;⟨mc,nsK h1,h2⟩⟩
  have e0:Env0 P w K mg (pI s₁.heap H) callerA [] s₁ H:=⟨rfl,hM,fun b o e=>FO e,Nat.le_of_eq (Ao _ _),trivial,fun b hb=>absurd (show b∈([]:List Addr) from hb) (by simp),hok,.of_eq hg⟩
  refine OO ((F _ hKb (nsK X_)).run callerA [] s₁ H ⟨[.ref a],[]⟩ [.ref a] [.ref a] _ _ hr e0 (ZO s₁ (.ref a)) (.cons rfl .nil) (hsp H hO hS)) fun r s' h=>?_
  cases r with
  |error e=>exact(hCX H e s' h).elim
  |ok fl =>
   cases fl with
   |next=>exact M7 h
   |brk=>exact M7 h
   |cont=>exact M7 h
   |ret u =>
    obtain⟨v,H',os,bare,un,hok',r',q⟩:=h;have q':v=.bl true:=q;subst q';obtain rfl:u=Q0 true:=r';refine⟨rfl,OldK.of_keep fun b o e=>?_,os,bare⟩;cases q:H b with
    |none=>exact un.keep b o e q (by intro z;exact absurd (show b∈([]:List Addr) from z) (by simp)) (by simp)
    |some u =>
     rcases hO b with z|⟨ob,xs,z⟩
     ·rw[q] at z;cases z
     ·have z2:=un.frzs b ob _ z;obtain⟨e1,_⟩:=hok b _ z;obtain⟨e2,_⟩:=hok' b _ z2;rw[e] at e1;cases e1;exact e2
 cases hk:K.lookup a with
 |some o =>
  have e:=KX a o hk;rw[ha] at e;cases e;refine core (fun _=>none) (fun _=>.inl rfl) (.inr ⟨_,vs.toArray,_,hk,rfl,rfl,rfl,by rw[LC,lenV];exact hl,by simpa using rv⟩) (fun b u z=>by have z':(none:Option HO)=some u:=z;cases z') (fun b z=>absurd rfl z) fun z=>absurd rfl z
 |none =>
  refine core (fun b=>if b=a then some (.frz {cls:=.type "list",data:=.seq vs.toArray} (.lst (ns.map V.int))) else none) (fun b=>?_) (.inl (.inr ⟨{cls:=.type "list",data:=.seq vs.toArray},if_pos rfl⟩)) (fun b u z=>?_) (fun b z=>?_) fun _=>hk
  ·by_cases hb:b=a
   ·exact .inr ⟨_,_,if_pos hb⟩
   ·exact .inl (if_neg hb)
  ·by_cases hb:b=a
   ·have z':=(if_pos hb).symm.trans z;cases z';subst hb;exact⟨ha,by rw[La];exact hl,vs,_,rv,ha⟩
   ·have z':=(if_neg hb).symm.trans z;cases z'
  ·by_cases hb:b=a
   ·exact hb
   ·exact absurd (if_neg hb) z
theorem EB{l:VI}{n:Nat}{XP:(Str->Option K_)->Heap->Prop}{YP:LL->Heap->Prop}{d:DefRec}{K:Params->UD}{CX:LL->jB}{sp:LL->Sp}{x:Str}
  (hn:l.most=some n) (hn2:n<=sizeLine) (ZQ:d.params.defaults=[]) (hr:Room k callerA)
  (hY:∀(w:LL) (h:Heap),YP w h->(K w.params).In h)
  (F:∀(w:LL) (mg:Str->Option K_) (fa:Addr) (h:Heap),(K w.params).In h->h.Ns mainGlobals mg->mg d.name=some (.ref fa) ->
   ∃fd:N2,(∀(s:Lf) (u:K_),UN s fd ⟨[u],[]⟩ [(x,u)]) /\
    ∀base:Heap,(K w.params).In base->base.Ns mainGlobals mg->FnOk l.prog w (K w.params) mg base (CX w) k fa fd [x] (sp w))
  (hsp:∀(w:LL) (H:Hp) (a:Addr) (ns:List Int),ns.length<=n->GK H->SqL (K w.params) H a (ns.map V.int)->sp w [.ref a] H (fun v _=>v=.bl true) fun _ _ _=>False)
  (hCX:∀(w:LL) (H:Hp) (s:Lf) (e:K_) (s':Lf),CX w [] H s (fun _ _ _=>False) e s'->False) :
  TZ q loose XP YP l.row.toRowW d [] (fun f vs=>Um f vs):=by
 refine Att.uI hn ZQ fun w s₀ s₁ mg mb fa o pm cd doc a vs ns G Y ho hd hcd Z0 Y6 hints hlen hg=>?_
 have KX:=hY w _ Y;obtain⟨fd,hb,hF⟩:=F w mg fa _ KX G.T.g Z0;exact CH KX G.T.g G.T.b G.T.builtins G.T.nolimit hg Y6 hints (Mh hlen hn2) hr hF hb (fun H hO hS=>hsp w H a ns hlen hO hS) fun H e s'=>hCX w H s₁ e s'
def cN(s:Stmt):Arguments:=match s with
 |.FunctionDef _ a _ _ _ _ _ _ _ _=>a
 |_=>{posonlyargs:=[],args:=[],vararg:=none,kwonlyargs:=[],kw_defaults:=[],kwarg:=none,defaults:=[]}
def bK(s:Stmt):List Stmt:=match s with
 |.FunctionDef _ _ b _ _ _ _ _ _ _=>b
 |_=>[]
def ai(s:Stmt):Scope:=match s with
 |.FunctionDef _ _ _ _ _ _ sc _ _ _=>sc
 |_=>{kind:=.function,names:=[],isGenerator:=false,isCoroutine:=false}
abbrev b9:jB:=fun _ _ _ _ _ _=>False
abbrev E0:XK:=fun _ _ _=>False
theorem lJ:dj b9 X E0:=fun _ _ _ _ _ _ _ h=>h.elim
structure Fun (K:Fg) (x qual:Str) (st:Stmt) (f:Addr) (fd:N2):Prop where
 ex:∃(oc:K_) (od:Option Addr) (kV doc pm:K_) (an:Option Addr) (gV ct:K_) (XN:Array (Option K_)),
  fd=MY x qual (cN st) (bK st) (ai st) .none kV doc pm an gV ct/\K.lookup f=some ⟨oc,od,.func fd,XN⟩/\NU K gV qual=true
 kp:ME K (.ref f)=true
section
variable{P:LA}{w:LL}{K:Fg}{mg:Str->Option K_}{base:Heap}
theorem Fun.ok{st:Stmt}{sp:Sp}(F:Fun K x qual st f fd)(S:aJ N ps (ai st))(len:∀vs H Q E,sp vs H Q E->vs.length=ps.length)
  (hbody:∀(gV:K_) (A:L4) (outer:List Env) (s:Lf) (H:Hp) (vs:List V) (Q:VK) (E:XK),Room k (A.deeper (envOfC qual (ai st) s.heap.objs.size f gV))->sp vs H Q E ->
   ∃t,PSs (cV b9 P w K mg base N qual (ai st) f gV A outer s H E).nox (bK st) t/\t {nx:=fun _ H'=>Q .non H',rt:=Q} (start N vs) H):FnOk P w K mg base b9 (k+1) f fd ps sp:=by
 obtain⟨oc,od,kV,doc,pm,an,gV,ct,XN,rfl,lk,hcd⟩:=F.ex;refine Go lk hcd S len fun A outer s H vs Q E hr hsp=>?_
 obtain⟨t,h,q⟩:=hbody gV A outer s H vs Q E hr hsp;exact⟨t,h.nox,q⟩
theorem Fun.binds{st:Stmt}{ps:List Str}(F:Fun K x qual st f fd)
  (h:∀(kV doc pm:K_) (an:Option Addr) (gV ct:K_) (us:List K_),us.length=ps.length->bindArgs (MY x qual (cN st) (bK st) (ai st) .none kV doc pm an gV ct) ⟨us,[]⟩=pure (ps.zip us)):Binds K fd ps []:=by
 obtain⟨oc,od,kV,doc,pm,an,gV,ct,XN,rfl,lk,hcd⟩:=F.ex;exact .all (h kV doc pm an gV ct)
theorem mE{st:Stmt}{oc:K_}{od:Option Addr}{XN:Array (Option K_)}{kV:K_}(l:K.lookup f=some ⟨oc,od,.func (MY x qual (cN st) (bK st) (ai st) .none kV doc pm an gV ct),XN⟩)
  (c:NU K gV qual=true) (k:ME K (.ref f)=true):Fun K x qual st f (MY x qual (cN st) (bK st) (ai st) .none kV doc pm an gV ct):=⟨⟨oc,od,kV,doc,pm,an,gV,ct,XN,rfl,l,c⟩,k⟩
end
theorem aU{n:Nat}(h:n<=1000):n<sizeLine:=LW h (by decide)
section
variable{X:Cx}
theorem pv(i:Nat) {x:Str} {pos:Pos} (hN:X.N[i]?=some x:=by rfl) (hv:Jt X.env.scope x:=by first|exact Or.inl rfl|exact Or.inr (Or.inl rfl)|exact Or.inr (Or.inr rfl)) (hd:(x == ("__debug__":Str))=false:=by decide)
  (hcd:(x == ("__classdict__":Str))=false:=by decide):PE X (.Name x pos) (ae i):=Hq hN hv hd hcd
end
theorem Ac{A B:Prop}(h:B):if false=true then A else B:=by
 rw[if_neg LP];exact h
theorem wY{A B:Prop}(h:A):if true=true then A else B:=by
 rw[if_pos rfl];exact h
def Same(H H':Hp):Prop:=∀b o,H b=some o->H' b=some o
theorem Same.refl(H:Hp):Same H H:=fun _ _ h=>h
theorem Same.trans(a:Same H H1)(b:Same H1 H2):Same H H2:=fun c o h=>b c o (a c o h)
theorem Same.free(e:Same H H')(h:H' l=Option.none):H l=Option.none:=by
 cases q:H l with
 |none=>rfl
 |some o =>
  rw[e l o q] at h;cases h
theorem Same.seq{K:Fg}(e:Same H H')(h:SqL K H a xs):SqL K H' a xs:=by
 rcases h with(h|⟨o,h⟩)|h
 ·exact .inl (.inl (e _ _ h))
 ·exact .inl (.inr ⟨o,e _ _ h⟩)
 ·exact .inr h
section
variable{κ:Type}[DecidableEq κ]
def cr(fx:List (κ×V))(k:κ):Option V:=(fx.find? fun kv=>decide (kv.1=k)).map (·.2)
def dA(fx:List (κ×V))(k:κ)(v:V):List (κ×V) :=
 if (fx.any fun kv=>decide (kv.1=k))=true then fx.map (fun kv=>if kv.1=k then (kv.1,v) else kv) else fx++[(k,v)]
theorem cG{p:κ×V}{r:List (κ×V)}{k:κ}(e:p.1=k):cr (p :: r) k=some p.2:=by simp[cr,OV,e]
theorem cH{p:κ×V}{r:List (κ×V)}{k:κ}(e : ¬ p.1=k):cr (p :: r) k=cr r k:=by simp[cr,OV,e]
theorem jq(k:κ):∀fx:List (κ×V),(fx.any fun kv=>decide (kv.1=k))=(cr fx k).isSome
 |[]=>rfl
 |p :: r=>by
  rw[RB];by_cases e:p.1=k
  ·simp only[cG e,decide_eq_true e,Bool.true_or,Option.isSome_some]
  ·rw[cH e,decide_eq_false e,Bool.false_or];exact jq k r
theorem uX(k j:κ)(y:V):∀fx:List (κ×V),cr (fx.map fun kv=>if kv.1=k then (kv.1,y) else kv) j=(cr fx j).map fun x=>if j=k then y else x
 |[]=>rfl
 |p :: r=>by
  have ih:=uX k j y r;rw[LX];by_cases h:p.1=k
  ·rw[if_pos h];by_cases e:p.1=j
   ·rw[cG (p:=(p.1,y)) e,cG e,QF,if_pos (e.symm.trans h)]
   ·rw[cH (p:=(p.1,y)) e,cH e,ih]
  ·rw[if_neg h];by_cases e:p.1=j
   ·rw[cG (p:=p) e,cG e,QF,if_neg (fun z=>h (e.trans z))]
   ·rw[cH (p:=p) e,cH e,ih]
theorem p_(k j:κ)(y:V):∀fx:List (κ×V),cr fx k=none->cr (fx++[(k,y)]) j=if j=k then some y else cr fx j
 |[],_=>by
  by_cases e:k=j
  ·rw[if_pos e.symm];exact cG (p:=(k,y)) e
  ·rw[if_neg (fun z=>e z.symm)];exact cH (p:=(k,y)) e
 |p :: r,hn=>by
  rw[RI];have hk : ¬ p.1=k:=fun z=>by rw[cG z] at hn;cases hn
  rw[cH hk] at hn;have ih:=p_ k j y r hn;by_cases e:p.1=j
  ·rw[cG e,cG e,if_neg (fun z=>hk (e.trans z))]
  ·rw[cH e,cH e,ih]
theorem nh(fx:List (κ×V))(k j:κ)(y:V):cr (dA fx k y) j=if j=k then some y else cr fx j:=by
 unfold dA;by_cases a:(fx.any fun kv=>decide (kv.1=k))=true
 ·rw[if_pos a,uX];rw[jq] at a;by_cases e:j=k
  ·obtain⟨x,hx⟩:=Rv.mp a;rw[if_pos e,e,hx,QF,if_pos rfl]
  ·rw[if_neg e];cases cr fx j with
   |none=>rfl
   |some x=>rw[QF,if_neg e]
 ·rw[if_neg a];refine p_ k j y fx ?_;rw[jq] at a;cases q:cr fx k with
  |none=>rfl
  |some x=>rw[q] at a;exact(a rfl).elim
theorem gF(fx:List (κ×V))(k:κ)(v:V):(dA fx k v).length<=fx.length+1:=by
 unfold dA;split
 ·rw[La];lia
 ·rw[LQ,L0,QG];lia
theorem RelO.Af(r:RelO o u):o.isSome=u.isSome:=by
 cases o with
 |none=>cases u with
  |none=>rfl
  |some _=>exact(show False from r).elim
 |some _=>cases u with
  |none=>exact(show False from r).elim
  |some _=>rfl
theorem RelO.getD(r:RelO o u)(rd:RelV d d'):RelV (o.getD d) (u.getD d'):=by
 cases o with
 |none=>cases u with
  |none=>exact rd
  |some _=>exact(show False from r).elim
 |some _=>cases u with
  |none=>exact(show False from r).elim
  |some _=>exact r
theorem KV.val{fx:List (κ×V)}{vs:List (κ×K_)}(r:KV fx vs)(k:κ):RelO (cr fx k) (valueAt vs k):=by
 unfold KV at r
 induction r with
 |nil=>exact NK
 |@cons p q ps qs h t ih =>
  obtain⟨h1,h2⟩:=h;by_cases e:p.1=k
  ·have e':q.1=k:=h1.symm.trans e;have b:valueAt (q :: qs) k=some q.2:=by simp[valueAt,OV,e']
   rw[cG e,b];exact h2
  ·have e' : ¬ q.1=k:=fun z=>e (h1.trans z)
   have b:valueAt (q :: qs) k=valueAt qs k:=by simp[valueAt,OV,e']
   rw[cH e,b];exact ih
theorem KV.any{fx:List (κ×V)}{vs:List (κ×K_)}(r:KV fx vs)(k:κ):(fx.any fun kv=>decide (kv.1=k))=vs.any fun kv=>decide (kv.1=k):=by
 unfold KV at r
 induction r with
 |nil=>rfl
 |cons h t ih=>rw[RB,RB,ih,h.1]
theorem KV.repl{fx:List (κ×V)}{vs:List (κ×K_)}(r:KV fx vs)(k:κ)(ry:RelV y u) :
  KV (fx.map fun kv=>if kv.1=k then (kv.1,y) else kv) (vs.map fun kv=>if kv.1=k then (kv.1,u) else kv):=by
 unfold KV at r ⊢
 induction r with
 |nil=>exact .nil
 |@cons p q ps qs h t ih =>
  rw[LX,LX];refine .cons ?_ ih;obtain⟨h1,h2⟩:=h;by_cases e:p.1=k
  ·rw[if_pos e,if_pos (h1.symm.trans e)];exact⟨h1,ry⟩
  ·rw[if_neg e,if_neg (fun z=>e (h1.trans z))];exact⟨h1,h2⟩
theorem KV.put{fx:List (κ×V)}{vs:List (κ×K_)}(r:KV fx vs)(k:κ)(ry:RelV y u):KV (dA fx k y) (stored vs k u):=by
 unfold dA stored;rw[r.any k];by_cases e:(vs.any fun kv=>decide (kv.1=k))=true
 ·rw[if_pos e,if_pos e];exact r.repl k ry
 ·rw[if_neg e,if_neg e];exact Paired.snoc r ⟨rfl,ry⟩
theorem KV.length{fx:List (κ×V)}{vs:List (κ×K_)}(r:KV fx vs):fx.length=vs.length:=N6 r
end
theorem CQ(r:RelV (kV k) u):(cb P w).is k u=true:=by
 cases k with
 |inl i=>obtain⟨t,e⟩:=(show ∃t,u=RK i t from r);subst e;exact uu P w i t
 |inr x=>obtain⟨t,e⟩:=(show ∃t,u=QY x t from r);subst e;exact cB P w x t
theorem rT{P:LA}{w:LL}:∀{ks:List Key} {us:List K_},Vals (ks.map kV) us->ItemsAre (cb P w) ks us
 |[],_,r=>by rw[QU] at r;cases r;exact .nil
 |k :: ks,_,r=>by
  rw[LX] at r;cases r with
  |cons h t=>exact .cons (CQ h) (rT t)
abbrev KT(H:Hp):List (List Key×V)->List (List Key×Addr×K_)->Prop:=Paired fun p q=>p.1=q.1/\H q.2.1=some (.tup (p.1.map kV))/\RelV p.2 q.2.2
theorem KT.val(r:KT H fx xs)(k:List Key):RelO (cr fx k) ((atKey xs k).map (·.2)):=by
 induction r with
 |nil=>exact NK
 |@cons p q ps qs h t ih =>
  obtain⟨h1,_,h2⟩:=h;by_cases e:p.1=k
  ·have e':q.1=k:=h1.symm.trans e;have b:atKey (q :: qs) k=some q.2:=by simp[atKey,OV,e']
   rw[cG e,b];exact h2
  ·have e' : ¬ q.1=k:=fun z=>e (h1.trans z)
   have b:atKey (q :: qs) k=atKey qs k:=by simp[atKey,OV,e']
   rw[cH e,b];exact ih
theorem KT.repl(r:KT H fx xs)(k:List Key)(ry:RelV y u) :
  KT H (fx.map fun kv=>if kv.1=k then (kv.1,y) else kv) (xs.map (putAt k u)):=by
 induction r with
 |nil=>exact .nil
 |@cons p q ps qs h t ih =>
  rw[LX,LX];refine .cons ?_ ih;obtain⟨h1,h2,h3⟩:=h;unfold putAt;by_cases e:p.1=k
  ·rw[if_pos e,if_pos (h1.symm.trans e)];exact⟨h1,h2,ry⟩
  ·rw[if_neg e,if_neg (fun z=>e (h1.trans z))];exact⟨h1,h2,h3⟩
theorem KT.put(r:KT H fx xs)(k:List Key)(hb:H b=some (.tup (k.map kV)))(ry:RelV y u) :
  KT H (dA fx k y) (storedH xs k b u):=by
 have e:(fx.any fun kv=>decide (kv.1=k))=(atKey xs k).isSome:=by
  rw[jq,(r.val k).Af,Option.isSome_map]
 unfold dA storedH;rw[e];by_cases q:(atKey xs k).isSome=true
 ·rw[if_pos q,if_pos q];exact r.repl k ry
 ·rw[if_neg q,if_neg q];exact Paired.snoc r ⟨rfl,hb,ry⟩
theorem KT.keeps{H':Hp}(r:KT H fx xs)(ht:∀b ys,H b=some (.tup ys)->H' b=some (.tup ys)):KT H' fx xs :=
 Paired.mapP r fun _ _ z=>⟨z.1,ht _ _ z.2.1,z.2.2⟩
section
variable{P:LA}{w:LL}{H:Hp}{h:Heap}{a:Addr}
theorem Hf(ok:HOk P w H h)(e:Rd H a u):ci P w H h a u:=e.ok ok
theorem Gs(ok:HOk P w H h)(e:Rd H a (.dK fx)):fx.length<=sizeLine/\(a == sysModules)=false/\∃vs,KV fx vs/\h.DictOf (cb P w) a vs :=
 show ci P w H h a (.dK fx) from Hf ok e
theorem KC(ok:HOk P w H h)(e:H a=some (.dK fx)):fx.length<=sizeLine/\(a == sysModules)=false/\∃vs,KV fx vs/\h.DictOf (cb P w) a vs:=Gs ok (.inl e)
theorem zR{ks:List Key}(ok:HOk P w H h)(e:H a=some (.tup (ks.map kV))):(tupleKind (cb P w)).is h ks a:=by
 obtain⟨_,fm,r,o,h1,⟨h2,n,h3⟩,_⟩:=(show ci P w H h a (.tup (ks.map kV)) from ok a _ e)
 exact⟨o,fm.toArray,n,h1,h2,h3,by simpa using rT r⟩
theorem Gq(ok:HOk P w H h)(e:Rd H a (.dT fx)):fx.length<=sizeLine/\(a == sysModules)=false /\
  ∃xs,KT H fx xs/\h.DictOfH (tupleKind (cb P w)) a xs:=by
 obtain⟨z,y,xs,r,o,es,ep,h1,h2,h3,h4,h5⟩:=(show ci P w H h a (.dT fx) from Hf ok e)
 refine⟨z,y,xs,r,o,es,ep,h1,h2,h3,h4,fun x hx=>?_,h5⟩
 have all:∀{l:List (List Key×V)} {m:List (List Key×Addr×K_)},KT H l m->∀x∈m,(tupleKind (cb P w)).is h x.1 x.2.1:=by
  intro l m q
  induction q with
  |nil=>intro x hx;exact nomatch hx
  |@cons p q ps qs hq t ih =>
   intro x hx;rcases Lj.mp hx with e|hx
   ·subst e;exact zR ok (by rw[<- hq.1];exact hq.2.1)
   ·exact ih x hx
 exact all r x hx
theorem IK(ok:HOk P w H h)(e:H a=some (.dT fx)):fx.length<=sizeLine/\(a == sysModules)=false /\
  ∃xs,KT H fx xs/\h.DictOfH (tupleKind (cb P w)) a xs:=Gq ok (.inl e)
end
def DGet(H:Hp)(a:Addr)(y:V)(r:Option V):Prop :=
 (∃fx k,Rd H a (.dK fx)/\y=kV k/\r=cr fx k)\/∃fx k b,Rd H a (.dT fx)/\y=.ref b/\H b=some (.tup (k.map kV))/\r=cr fx k
def DPut(H:Hp)(a:Addr)(y v:V)(H':Hp):Prop :=
 (∃fx k,H a=some (.dK fx)/\y=kV k/\fx.length<sizeLine/\H'=upd H a (.dK (dA fx k v))) \/
 ∃fx k b,H a=some (.dT fx)/\y=.ref b/\H b=some (.tup (k.map kV))/\fx.length<sizeLine/\H'=upd H a (.dT (dA fx k v))
theorem DGet.k{H:Hp}{k:Key}(e:H a=some (.dK fx)):DGet H a (kV k) (cr fx k):=.inl ⟨fx,k,.inl e,rfl,rfl⟩
theorem DPut.k{H:Hp}{k:Key}(e:H a=some (.dK fx))(hl:fx.length<sizeLine):DPut H a (kV k) v (upd H a (.dK (dA fx k v))):=.inl ⟨fx,k,e,rfl,hl,rfl⟩
theorem DPut.t{H:Hp}{k:List Key}(e:H a=some (.dT fx))(eb:H b=some (.tup (k.map kV)))(hl:fx.length<sizeLine) :
  DPut H a (.ref b) v (upd H a (.dT (dA fx k v))):=.inr ⟨fx,k,b,e,rfl,eb,hl,rfl⟩
section
variable{X:Cx}{pins:List (Addr×Obj)}{σ:St}{H:Hp}{s:Lf}{a:Addr}{y v:V}{u r:K_}{o:Option V}{A:L4}{E:K_->Lf->Prop}
theorem Inv.big(I:Inv X pins σ H s):sysModules<s.heap.objs.size:=by
 have h:mainGlobals<s.heap.objs.size:=(I.mod.glob.keeps I.bk).lt;exact Lr (by decide) h
theorem AE{t':Nat}(I:Inv X pins σ H s)(mu:Jd (H a))(hs:Oo a s.heap h')(he:∃q,h'.get? a=some q)(new:ci X.prog X.w (upd H a ob) h' a ob) :
  Inv X pins σ (upd H a ob) {s with heap:=h',toks:=t'} :=
 I.write (x:=a) (e:=a) mu (.inl rfl) (fun b q hb z=>(hs.2 b hb).trans z) he new
theorem IL{h':Heap}{fx:List (Key×V)}(z:fx.length<=sizeLine)(hd:(a == sysModules)=false)(rel:KV fx vs)(dd:h'.DictOf (cb P w) a vs) :
  ci P w H' h' a (.dK fx):=⟨z,hd,vs,rel,dd⟩
theorem AF{Q:Unit->Lf->Prop}(hu:A.units+1<cLine)(I:Inv X pins σ H s)(g:DPut H a y v H')(ry:RelV y u)(rv:RelV v r)(h:∀s',Inv X pins σ H' s'->Q () s') :
  wpAny (model X.prog X.w) A (setItem (.ref a) u r) Q E s:=by
 rcases g with⟨fx,k,e,ey,l,eH⟩|⟨fx,k,b,e,ey,eb,l,eH⟩
 ·subst ey eH;obtain⟨z,hd,vs,rel,dd⟩:=KC I.hok e;have hz:vs.length<=sizeLine:=by rw[<- rel.length];exact z
  have hl:(dA fx k v).length<=sizeLine:=by have:=gF fx k v;lia
  refine wpAny_setItem_pairs (hsz:=hz) (CQ ry) dd fun h' YV hs=>h _ ?_
  have he:∃q,h'.get? a=some q:=let ⟨q,_,_,hq,_⟩:=YV;⟨q,hq⟩
  exact AE I (by rw[e];exact NK) hs he (IL hl hd (rel.put k rv) YV)
 ·subst ey eH;cases (show u=LH b from ry);obtain⟨z,hd,xs,rel,dd⟩:=IK I.hok e;have hz:xs.length<=sizeLine:=by rw[<- N6 rel];exact z
  have hl:(dA fx k v).length<=sizeLine:=by have:=gF fx k v;lia
  refine wpAny_setItem_heap (hsz:=hz) (Uu hu) (zR I.hok eb) dd fun h' YV hs=>h _ ?_
  obtain⟨q,es,ep,hq,h2,h3,h4,_,h5⟩:=YV;refine AE I (by rw[e];exact NK) hs ⟨q,hq⟩ ⟨hl,hd,_,(rel.put k eb rv).keeps fun c ys ec=>?_,q,es,ep,hq,h2,h3,h4,h5⟩;rw[aC (CB ec e (fun z=>nomatch z))];exact ec
end
def yA(td ty tv:TE):TS:=fun D σ H=>tv σ H fun v H1=>td σ H1 fun x H2=>ty σ H2 fun y H3=>∃a H4,x=.ref a/\DPut H3 a y v H4/\D.nx σ H4
section
variable{X:Cx}{o i e value:Expr}{pos pos' tpos:Pos}{td ty tv:TE}
theorem ub(hu:X.A.units+1<cLine)(ho:PE X o td)(hi:PE X i ty)(hv:PE X value tv)(hs:swapsWith value (some (.Subscript o i pos')) pos.line X.env=pure false) :
  PS X (.Assign [.Subscript o i pos'] value pos) (yA td ty tv):=by
 intro pins s σ H D I h;refine wpAny_Assign_Subscript (bp (hv pins s σ H _ I h) fun r s1 ⟨v,H1,I1,rv,q1⟩=>bp (ho pins s1 σ H1 _ I1 q1) fun u s2 ⟨x,H2,I2,rx,q2⟩=>bp (hi pins s2 σ H2 _ I2 q2) fun iv s3 ⟨y,H3,I3,ry,a,H4,ex,g,q3⟩=>?_) hs;subst ex;obtain rfl:u=LH a:=rx;exact AF hu I3 g ry rv fun s4 I4=>⟨σ,H4,I4,q3⟩
end
theorem Dc(h:Heap) (hb:sysModules<h.objs.size):ci P w H (h.push {cls:=.type "dict",data:=.dict #[]}) h.objs.size (.dK []) :=
 ⟨Ml _,beq_eq_false_iff_ne.mpr (MO (Lh hb)),[],.nil,Heap.DictOf.new h⟩
theorem C_(h:Heap) (hb:sysModules<h.objs.size):ci P w H (h.push {cls:=.type "dict",data:=.dict #[]}) h.objs.size (.dT []) :=
 ⟨Ml _,beq_eq_false_iff_ne.mpr (MO (Lh hb)),[],.nil,_,#[],0,Lu _ rfl,⟨rfl,rfl,rfl⟩,rfl,rfl,Nq⟩
def DF:TE:=fun _ H Q=>∀p,H p=none->Q (.ref p) (upd H p (.dK []))
def DE:TE:=fun _ H Q=>∀p,H p=none->Q (.ref p) (upd H p (.dT []))
section
variable{X:Cx}{pos:Pos}
theorem Ck:PE X (.Dict [] [] pos) DF:=fun pins s σ H Q I h =>
 wpAny_Dict_empty ⟨.ref s.heap.objs.size,_,I.laid (a:=s.heap.objs.size) (o:=.dK []) (t':=s.toks) (fun _ _ q=>K9 _ q) (Lg _) (Dc s.heap I.big),rfl,h _ (I.hok.fresh (Lg _))⟩
theorem Cj:PE X (.Dict [] [] pos) DE:=fun pins s σ H Q I h =>
 wpAny_Dict_empty ⟨.ref s.heap.objs.size,_,I.laid (a:=s.heap.objs.size) (o:=.dT []) (t':=s.toks) (fun _ _ q=>K9 _ q) (Lg _) (C_ s.heap I.big),rfl,h _ (I.hok.fresh (Lg _))⟩
end
structure M2 (X:Cx) (o:Expr) (m:Str) (apos:Pos) (e f:Expr) (V9:Pos):Prop where
 base:attributeBase o m X.env (eval o X.env)=eval o X.env
 few:((backTo V9 (starEach [e,f] X.env)).all (fun x=>!x.1) && (backToKw V9 (keywordEach [] X.env)).all (fun x=>x.1.isSome)
  && decide (([e,f]:List Expr).length+([]:List TH).length+(if ([]:List TH).isEmpty then 0 else 1)<30))=true
 line:(apos.endLine == V9.line)=true
 trees:backTo V9 (starEach [e,f] X.env)=[(false,eval e X.env),(false,eval f X.env)]
def K2(H:Hp)(a:Addr):Prop:=(∃fx,Rd H a (.dK fx))\/∃fx,Rd H a (.dT fx)
theorem IC{H:Hp}(I:Inv X pins σ H s)(d:K2 H a) :
  s.TypeIs (.ref a) "dict"/\(∀b,LH a=.ref b->∃ob,s.heap.get? b=some ob/\ob.dict=none)/\(a == sysModules)=false:=by
 rcases d with⟨fx,e⟩|⟨fx,e⟩
 ·obtain⟨_,hd,vs,_,dd⟩:=Gs I.hok e;refine⟨dd.typeIs,fun b q=>?_,hd⟩;cases q;obtain⟨ob,_,_,h1,h2,_⟩:=dd;exact⟨ob,h1,h2.2.1⟩
 ·obtain⟨_,hd,xs,_,dd⟩:=Gq I.hok e;refine⟨dd.typeIs,fun b q=>?_,hd⟩;cases q;obtain⟨ob,_,_,h1,h2,_⟩:=dd;exact⟨ob,h1,h2.2.1⟩
section
variable{X:Cx}{pins:List (Addr×Obj)}{σ:St}{H:Hp}{s:Lf}{a:Addr}{y d:V}{u r:K_}{o:Option V}{A:L4}{E:K_->Lf->Prop}
theorem IN{Q:K_->Lf->Prop}(hu:A.units+1<cLine)(I:Inv X pins σ H s)(g:DGet H a y o)(ry:RelV y u)(rd:RelV d r)(h:∀w' s',Inv X pins σ H s'->RelV (o.getD d) w'->Q w' s') :
  wpAny (model X.prog X.w) A (call (.builtin "dict.get") [.ref a,u,r]) Q E s:=by
 rcases g with⟨fx,k,e,ey,l⟩|⟨fx,k,b,e,ey,eb,l⟩
 ·subst ey;obtain⟨z,hd,vs,rel,dd⟩:=Gs I.hok e;refine UT Od dd.typeIs P_ (PV _ _ _) (Sb (cb X.prog X.w) a (CQ ry) hd r) ⟨_,dd.mapOf,h _ _ (I.tok _) ?_⟩;rw[l];exact(rel.val k).getD rd
 ·subst ey;cases (show u=LH b from ry);obtain⟨z,hd,xs,rel,dd⟩:=Gq I.hok e;refine UT Od dd.typeIs P_ (PV _ _ _) (meetsH_dict_get_default (tupleKind (cb X.prog X.w)) a b hd r) ⟨Uu hu,k,xs,zR I.hok eb,dd,h _ _ (I.tok _) ?_⟩;rw[l];exact(rel.val k).getD rd
end
def DG(td ty tx:TE):TE:=fun σ H Q=>td σ H fun x H1=>∃a,x=.ref a/\K2 H1 a/\ty σ H1 fun y H2=>tx σ H2 fun z H3=>∃o,DGet H3 a y o/\Q (o.getD z) H3
section
variable{X:Cx}{o e f:Expr}{apos V9:Pos}{td ty tx:TE}
theorem Co(hu:X.A.units+1<cLine) (ho:PE X o td) (he:PE X e ty) (hf:PE X f tx) (m:M2 X o "get" apos e f V9):PE X (.Call (.Attribute o "get" apos) [e,f] [] V9) (DG td ty tx):=by
 intro pins s σ H Q I h;refine wpAny_Call_method m.base m.few m.line RO Od SG (bp (ho pins s σ H _ I h) fun u s1 ⟨x,H1,I1,rx,a,ex,d,q1⟩=>?_);subst ex;obtain rfl:u=LH a:=rx;obtain⟨t1,t2,_⟩:=IC I1 d;refine⟨t1,t2,?_⟩;rw[m.trees]
 refine N4 rfl (Oq (MW (bp (he pins s1 σ H1 _ I1 q1) fun iv s2 ⟨y,H2,I2,ry,q2⟩ =>
  MW (bp (hf pins s2 σ H2 _ I2 q2) fun fv s3 ⟨z,H3,I3,rz,ov,g,q3⟩=>NY ?_))))
 exact IN hu I3 g ry rz fun w' s4 I4 rw'=>⟨_,H3,I4,rw',q3⟩
end
open PySem PySem.W
def KU(K:Frag):List Str->Prop
 |[]=>True
 |n :: r=>nsIn K mainGlobals n=some none/\KU K r
def Jk(K:Frag):List (Str×Addr×Ql)->Prop
 |[]=>True
 |(n,q,d) :: r=>(nsIn K mainGlobals n=some (some (.ref q))/\typeIn K (.ref q)=some (.type "type")/\clsIn K q=some d)/\Jk K r
def KM (K:Frag) (q:Addr):Prop:=findIn K (.ref q) "__getattribute__"=some (some (.builtin "BaseException.__getattribute__"))/\findIn K (.ref q) "__getattr__"=some none/\findIn K (.ref q) "__class__"=some (some (.builtin "object.__class__"))
def I_(K:Frag)(V:Addr):List (Addr×Ql)->Prop
 |[]=>True
 |(q,d) :: r=>(excIn K q [.type "ValueError",.type "Exception",.type "BaseException",.type "object"] "ValueError.__new__"=true/\d.mro=[.ref q,.ref V,.type "ValueError",.type "Exception",.type "BaseException",.type "object"]/\KM K q)/\I_ K V r
end L2
set_option Elab.async false
set_option linter.all false
set_option maxRecDepth 100000
set_option maxHeartbeats 4000000
namespace K93H
open PySem PySem.Spec PyProof.Rows L2
def top(i:Nat):Stmt:=PW93.main.body.getD i (.Pass ⟨0,0,0,0⟩)
def ini(i:Nat):Stmt:=match top i with
 |.ClassDef _ _ _ b _ _ _ _ _ _ _=>b.getD 0 (.Pass ⟨0,0,0,0⟩)
 |_=>.Pass ⟨0,0,0,0⟩
def met(i j:Nat):Stmt:=match top i with
 |.ClassDef _ _ _ b _ _ _ _ _ _ _=>b.getD j (.Pass ⟨0,0,0,0⟩)
 |_=>.Pass ⟨0,0,0,0⟩
def spLaw(K:Fg):Sp:=fun vs H Q _=>∃(a:Addr) (ns:List Int),vs=[.ref a]/\SqL K H a (ns.map V.int)/\ns.length<=63/\∀H',Q (.bl true) H'
def GO(K:Fg)(n:Str)(st:Stmt):Prop:=∃(f:Addr) (od an:Option Addr) (sl:Array (Option K_)) (oc kV dc pm cd ct:K_),Nu K mainGlobals n=some (some (.ref f))/\K.lookup f=some ⟨oc,od,.func (MY n n (cN st) (bK st) (ai st) .none kV dc pm an cd ct),sl⟩/\NU K cd n=true/\ME K (.ref f)=true
theorem fnIn{K:Fg}{st:Stmt}{od:Option Addr}{sl:Array (Option K_)}{oc kV:K_}(a:Nu K mainGlobals n=some (some (.ref f)))(l:K.lookup f=some ⟨oc,od,.func (MY n n (cN st) (bK st) (ai st) .none kV dc pm an cd ct),sl⟩)(c:NU K cd n=true)(k:ME K (.ref f)=true):GO K n st:=⟨f,od,an,sl,oc,kV,dc,pm,cd,ct,a,l,c,k⟩
local macro_rules | `(tactic| fail "f")=>`(tactic| (refine' fnIn ?a ?l ?c ?k;(case a=>k_is);(case l=>k_is);(case c=>k_is);(case k=>k_is)))
def GM(K:Fg)(D:Addr)(n q:Str)(st:Stmt):Prop:=∃(f:Addr) (od an:Option Addr) (sl:Array (Option K_)) (oc kV dc pm cd ct:K_),L_ K (.ref D) n=some (some (.ref f))/\K.lookup f=some ⟨oc,od,.func (MY n q (cN st) (bK st) (ai st) .none kV dc pm an cd ct),sl⟩/\NU K cd q=true/\ME K (.ref f)=true/\P8 K (.ref f)=true
theorem JP{K:Fg}{st:Stmt}{od:Option Addr}{sl:Array (Option K_)}{oc kV:K_}(a:L_ K (.ref D) n=some (some (.ref f)))(l:K.lookup f=some ⟨oc,od,.func (MY n q (cN st) (bK st) (ai st) .none kV dc pm an cd ct),sl⟩)(c:NU K cd q=true)(k:ME K (.ref f)=true)(i:P8 K (.ref f)=true):GM K D n q st:=⟨f,od,an,sl,oc,kV,dc,pm,cd,ct,a,l,c,k,i⟩
def Je(K:Fg)(D:Addr):List (Str×Str×Nat×Nat)->Prop
 |[]=>True
 |(n,q,i,j) :: r=>GM K D n q (met i j)/\Je K D r
local macro_rules | `(tactic| fail "m")=>`(tactic| (refine' JP ?a ?l ?c ?k ?i;(case a=>k_is);(case l=>k_is);(case c=>k_is);(case k=>k_is);(case i=>k_is)))
def Dx(K:Fg):List (Str×Nat)->Prop
 |[]=>True
 |(n,i) :: r=>GO K n (top i)/\Dx K r
local macro_rules | `(tactic| walk_at "all")=>`(tactic| repeat' first|exact trivial|(refine And.intro ?_ ?_)|k_is|k_exc|fail "f"|fail "m"|exact rfl|decide)
theorem walk{l:VI}{XP:(Str->Option K_)->Heap->Prop}{YP:LL->Heap->Prop}{d:DefRec}{K:Params->UD}(hn:l.most=some 63)(ZQ:d.params.defaults=[])
  (hY:∀(w:LL) (h:Heap),YP w h->(K w.params).In h)
  (F:∀(w:LL) (mg:Str->Option K_) (fa:Addr) (h:Heap),(K w.params).In h->h.Ns mainGlobals mg->mg d.name=some (.ref fa) ->
   ∃fd:N2,(∀(s:Lf) (u:K_),UN s fd ⟨[u],[]⟩ [("_law_script",u)])/\∀base:Heap,(K w.params).In base->base.Ns mainGlobals mg->FnOk l.prog w (K w.params) mg base b9 9 fa fd ["_law_script"] (spLaw (K w.params))) :
  TZ q loose XP YP l.row.toRowW d [] (fun f vs=>Um f vs) :=
 L2.EB (n:=63) (k:=9) (x:="_law_script") (CX:=fun _=>b9) (sp:=fun w=>spLaw (K w.params)) hn (by decide) ZQ ⟨rfl,by decide,by decide⟩ hY F (fun _ _ a ns hl _ hS=>⟨a,ns,rfl,hS,hl,fun _=>rfl⟩) fun _ _ _ _ _ z=>z
open PySem.W in
set_option maxRecDepth 100000 in
set_option maxHeartbeats 0 in
theorem headed(hW:∀{w:LL} {K:Fg} {h:Heap} {mg:Str->Option K_} {fa:Addr} (X:K.In h) (G:h.Ns mainGlobals mg) (hfa:mg "law"=some (.ref fa))
  (P0:Dx K [("whole",14),("greatest_divisor",15),("fraction",16),("before",17),("is_word",25),("stuffs_of",26),("is_heap",27),("turnings_of",28),("check_turnings",29),("heaps_of",30),("made",31),("stuff_text",34),("heap_text",35),("pace_text",36),("turning_text",37),("heap_guessed",38),("number_guessed",39),("pace_guessed",40),("turning_read",41),("can_be_made",43)]) (P20:Dx K [("count_behind",44),("_law_cell_at",48),("_law_mixed",49),("_law_divisor",50),("_law_lowest",51),("_law_base",52),("_law_word",53),("_law_words",54),("_law_heap",55),("_law_same",56),("_law_heap_text",57),("_law_turning_text",58),("_law_can",59),("_law_step",60),("_law_fits",61),("_law_pick",62),("_law_poured",63),("_law_deed_rows",64),("_law_texts_well",65),("_law_right",66)]) (P40:Dx K [("_law_tried",67),("_law_deed",68),("law",69)]) (Z:KU K ["len","abs","range","isinstance","int","bool","tuple","list","str","zip","set","all","any","min","max","sum","sorted","enumerate","reversed","dict","ord","divmod"])
  {V q1 q4 q5 q7 q12 dD:Addr} {qd1 qd4 qd5 qd7 Zc:Ql} {qdV:Ql} {fi7 Ni7:Addr} {nmi7 qni7:Str} {ZC tli7 sui7:List K_} {ZR ZA:Bool} {sni7:List Str} {ZD:Option Bool} {ZG odi7 ZB:Option Addr} {kai7 kbi7 kci7 kdi7 kei7:Option K_} {oci7 kVi7 ZF pmi7 YU ZE:K_} {sli7:Array (Option K_)} {tk0 tk1 tk2 tk3 tk4 tn0 tn1 tp0 tp1 tp2 tq0 tq1 tq2:Tok} {nq pD:Addr} {nqd:Option Addr} {nqn pDn:Nat} {nqs:Array (Option K_)} {ph0 ph1 ph2:Int}
  (aV:Nu K mainGlobals "VesselError"=some (some (.ref V)))
  (xV:Py K V [.type "ValueError",.type "Exception",.type "BaseException",.type "object"] "ValueError.__new__"=true)
  (zVE:Nu K mainGlobals "ValueError"=some none)
  (sgV:UI K (.ref V) "__getattribute__"=some (some (.builtin "type.__getattribute__")))
  (rdV:PySem.W.readsIn K V (.type "type")=true)
  (fcV:PySem.W.findCls K (.ref V) (.type "type") "__init__"=some (.val (.builtin "ValueError.__init__")))
  (dV:V0 K V=some qdV)
  (mV:qdV.mro=[.ref V]++[.type "ValueError",.type "Exception",.type "BaseException",.type "object"])
  (cs:Jk K [("NoStuffs",q1,qd1),("NoTurnings",q4,qd4),("NoTurning",q5,qd5),("NotNow",q7,qd7),("NoPieces",q12,Zc)])
  (rs:I_ K V [(q1,qd1),(q4,qd4),(q5,qd5),(q12,Zc)])
  (L7:K.lookup q7=some (excClassObj nmi7 qni7 q7 Ni7 ZC tli7 ZR sni7 sui7 ZA ZD ZG kai7 kbi7 kci7 kdi7 kei7 "ValueError.__new__"))
  (ni7:L_ K (.ref q7) "__init__"=some (some (.ref fi7)))
  (fn7:P8 K (.ref fi7)=true)
  (kq7:ME K (.ref q7)=true)
  (lf7:K.lookup fi7=some ⟨oci7,odi7,.func (MY "__init__" "NotNow.__init__" (cN (ini 10)) (bK (ini 10)) (ai (ini 10)) .none kVi7 ZF pmi7 ZB YU ZE),sli7⟩)
  (cf7:NU K YU "NotNow.__init__"=true)
  (kf7:ME K (.ref fi7)=true)
  (sa7:L_ K (.ref q7) "__setattr__"=some (some (.builtin "object.__setattr__")))
  (nf7:L_ K (.ref q7) "at"=some none)
  (hd7:O5 K q7=true)
  (mr7:qd7.mro=[.ref q7,.ref V,.type "ValueError",.type "Exception",.type "BaseException",.type "object"])
  (aD:Nu K mainGlobals "Desk"=some (some (.ref dD)))
  (gD:Ph K dD Mj=true)
  (hD:O5 K dD=true)
  (pD_:Rn K dD=true)
  (sD:L_ K (.ref dD) "__setattr__"=some (some (.builtin "object.__setattr__")))
  (mD:QE K dD=true)
  (kD:ME K (.ref dD)=true)
  (nD0:L_ K (.ref dD) "stuffs"=some none)
  (nD1:L_ K (.ref dD) "turnings"=some none)
  (nD2:L_ K (.ref dD) "pieces"=some none)
  (nD3:L_ K (.ref dD) "deeds"=some none)
  (hcn0:Nu K mainGlobals "MOST_STUFFS"=some (some (.int 5 tk0)))
  (hcn1:Nu K mainGlobals "MOST_SIGNS"=some (some (.int 8 tk1)))
  (hcn2:Nu K mainGlobals "MOST_PIECES"=some (some (.int 3 tk2)))
  (hcn3:Nu K mainGlobals "MOST_TURNINGS"=some (some (.int 8 tk3)))
  (hcn4:Nu K mainGlobals "MOST_HEAPS"=some (some (.int 8 tk4)))
  (hcnN:Nu K mainGlobals "NOUGHT"=some (some (.ref nq)))
  (hcnL:K.lookup nq=some ⟨.type "tuple",nqd,.seq #[.int 0 tn0,.int 1 tn1] nqn,nqs⟩)
  (hpwN:Nu K mainGlobals "PIECES_WRITTEN"=some (some (.ref pD)))
  (hpwL:K.lookup pD=some ⟨.type "dict",none,.dict #[⟨ph0,.str "" tp0,.int 1 tq0⟩,⟨ph1,.str "2" tp1,.int 2 tq1⟩,⟨ph2,.str "3" tp2,.int 3 tq2⟩] pDn,#[]⟩)
  (hpw0:ph0=Ub w "")
  (hpw1:ph1=Ub w "2")
  (hpw2:ph2=Ub w "3")
  (hpwS:(pD == PySem.sysModules)=false)
  (ms:Je K dD [("__init__","Desk.__init__",46,0),("keep","Desk.keep",46,1),("place_of","Desk.place_of",46,2),("put","Desk.put",46,3),("take","Desk.take",46,4),("texts","Desk.texts",46,5),("vessel","Desk.vessel",46,6),("pour","Desk.pour",46,7),("turn","Desk.turn",46,8),("count","Desk.count",46,9)])
  ,∃fd:N2,(∀(s:Lf) (v:K_),UN s fd ⟨[v],[]⟩ [("_law_script",v)])/\∀base:Heap,K.In base->base.Ns mainGlobals mg->FnOk PySem.Challenge.rw_vesselhall_k93_whole_desk.prog w K mg base b9 9 fa fd ["_law_script"] (spLaw K)):PySem.Challenge.rw_vesselhall_k93_whole_desk.Holds:=by
 refine said ?_
 w_on
 refine Uk (q:=qv) (loose:=["PIECES_WRITTEN"]) (Xt:=fun s=>ON qv [] s && Ox [] s) (XP:=VR qv []) (Yf:=Ve (Qv pre.heap_1 asl asl_ok)) (Ya:=Vf (Qv pre.heap_1 asl asl_ok)) (YP:=UE (Qv pre.heap_1 asl asl_ok)) (N:=8950) hooks (VG (Qv pre.heap_1 asl asl_ok)) (Ul (Qv pre.heap_1 asl asl_ok)) (fun s e=>VY s (O8.mp e).1) Vg (by rfl) (by rfl) (by rfl) (fun s e=>TL (O8.mp e).2) (by rfl) (by first|assumption|decide +kernel) (by decide +kernel) ⟨rfl,rfl,rfl,rfl,rfl,by decide +kernel⟩ ?_ ?_
 ·clear hW;w_witness2
 k_fill
 refine walk (l:=PySem.Challenge.rw_vesselhall_k93_whole_desk) rfl rfl (fun w h Y=>PySem.W.kIn_of Y) ?F
 case F =>
  intro w mg fa h KX G Z0;refine' hW KX G Z0 ?_ ?_ ?_ ?_ ?_ ?_ ?_ ?_ ?_ ?_ ?_ ?_ ?_ ?_ ?_ ?_ ?_ ?_ ?_ ?_ ?_ ?_ ?_ ?_ ?_ ?_ ?_ ?_ ?_ ?_ ?_ ?_ ?_ ?_ ?_ ?_ ?_ ?_ ?_ ?_ ?_ ?_ ?_ ?_ ?_ ?_ ?_ ?_ ?_ ?_
  all_goals try walk_at "all"
end K93H
set_option Elab.async false
set_option linter.all false
set_option maxRecDepth 100000
set_option maxHeartbeats 4000000
namespace L2
open PySem PySem.Spec PyProof.Rows
section
variable{X:Cx}{a b c:Expr}{ta tb tc:TE}{pos:Pos}
def Jm(_ j:Int):Prop:=j≠0/\j.natAbs<2 ^ 9000
theorem ju:fq X (binaryOp .FloorDiv) (rI Jm fun i j=>.int (i.fdiv j)):=FI fun i j _ _ _ _ _ hc q=>by
 have h0:j.natAbs≠0:=by have:=hc.1;lia
 exact floordiv_int hc.1 q (.inl (PyProof.noPylong_of_log2 ((VD h0).mpr hc.2)))
def xl(i j:Int):Prop:=i.natAbs<2 ^ 20000/\j.natAbs<2 ^ 20000
theorem xl.ok(h:xl i j):IntMulOk i j:=by
 have h1:=RP h.1;have h2:=RP h.2;unfold IntMulOk
 have e:SH ((TQ i:Int)+(TQ j:Int))=false:=by
  unfold SH;refine decide_eq_false ?_
  have:(40000:Int)<=bitsLine:=by decide
  lia
 intro q;rw[e] at q;simp at q
theorem zm:fq X (binaryOp .Mult) (rI xl fun i j=>.int (i*j)):=FI fun _ _ _ _ _ _ _ hc q=>mul_int q hc.ok
theorem a_:iZ X (.builtin "isinstance") (fun xs H Q=>∃x n t b,xs=[x,.ty n]/\TyOf X.K H x t/\LJ X.K t (.type n)=some b/\Q (.bl b) H):=by
 intro pins s σ H xs us Q I r h;obtain⟨x,n,t,b,rfl,ty,e,q⟩:=h;obtain⟨u,u',rfl,rx,ry⟩:=vals2 r;obtain rfl:u'=N0 n:=ry;exact Ae I rx ty e fun tk=>⟨.bl b,H,I.tok tk,rfl,q⟩
end
structure FnC (P:LA) (w:LL) (K:Fg) (mg:Str->Option K_) (base:Heap) (CX:jB) (k:Nat) (x:Str) (ps:List Str) (sp:Sp):Prop where
 ex:∃(f:Addr) (fd:N2),FnOk P w K mg base CX k f fd ps sp/\mg x=some (.ref f)/\ME K (.ref f)=true/\Binds K fd ps []
structure bw (K:Fg) (mg:Str->Option K_) (x:Str) (st:Stmt) (ps:List Str):Prop where
 ex:∃(f:Addr) (fd:N2),Fun K x x st f fd/\mg x=some (.ref f)/\Binds K fd ps []
section
variable{P:LA}{w:LL}{K:Fg}{mg:Str->Option K_}{base:Heap}{CX:jB}
theorem C7{st:Stmt}{ps:List Str}{oc:K_}{od:Option Addr}{XN:Array (Option K_)}{kV:K_}(X:K.In h)(G:h.Ns mainGlobals mg)
  (a:Nu K mainGlobals x=some (some (.ref f))) (l:K.lookup f=some ⟨oc,od,.func (MY x x (cN st) (bK st) (ai st) .none kV doc pm an gV ct),XN⟩)
  (c:NU K gV x=true) (k:ME K (.ref f)=true)
  (hb:∀(kV doc pm:K_) (an:Option Addr) (gV ct:K_) (us:List K_),us.length=ps.length->bindArgs (MY x x (cN st) (bK st) (ai st) .none kV doc pm an gV ct) ⟨us,[]⟩=pure (ps.zip us)) :
  bw K mg x st ps:=by
 have F:=mE (K:=K) (x:=x) (qual:=x) (st:=st) l c k;exact⟨f,_,F,MD X G a,F.binds hb⟩
theorem FnC.mono{k:Nat}(F:FnC P w K mg base CX j x ps sp)(h:j<=k):FnC P w K mg base CX k x ps sp :=
 let ⟨f,fd,G,r⟩:=F.ex
 ⟨f,fd,G.mono h,r⟩
theorem bw.ok{st:Stmt}{sp:Sp}(F:bw K mg x st ps)(S:aJ N ps (ai st))(len:∀vs H Q E,sp vs H Q E->vs.length=ps.length)
  (hbody:∀(f:Addr) (gV:K_) (A:L4) (outer:List Env) (s:Lf) (H:Hp) (vs:List V) (Q:VK) (E:XK),Room k (A.deeper (envOfC x (ai st) s.heap.objs.size f gV))->sp vs H Q E ->
   ∃t,PSs (cV b9 P w K mg base N x (ai st) f gV A outer s H E).nox (bK st) t/\t {nx:=fun _ H'=>Q .non H',rt:=Q} (start N vs) H):FnC P w K mg base b9 (k+1) x ps sp:=by
 obtain⟨f,fd,G,hm,hb⟩:=F.ex;exact⟨f,fd,G.ok S len (hbody f),hm,G.kp,hb⟩
end
section
variable{X:Cx}{CX:jB}{k:Nat}{ps:List Str}{sp:Sp}{E:XK}{x:Str}{p pos:Pos}{e:Expr}{es:List Expr}{t:TA}
theorem gX(F:FnC X.prog X.w X.K X.mg X.base CX k x ps sp)(hr:Room k X.A)(hg:Gl X x)(hx:dj CX X E)(ha:PA X (e :: es) t)
  (hdb:(x == ("__debug__":Str))=false:=by decide) (he:starEach (e :: es) X.env=(false,eval e X.env) :: starEach es X.env:=by rfl) (W5:(backTo pos (starEach es X.env)).any (·.1)=false:=by rfl) :
  PE X (.Call (.Name x p) (e :: es) [] pos) (a4 sp [] E t):=by
 obtain⟨f,fd,G,hm,kp,hb⟩:=F.ex;exact FC G hr hg hm kp hb .nil hx ha hdb he W5
theorem aw(F:FnC X.prog X.w X.K X.mg X.base b9 k x ps sp)(hr:Room k X.A)(hg:Gl X x)(ha:PA X (e :: es) t)
  (hdb:(x == ("__debug__":Str))=false:=by decide) (he:starEach (e :: es) X.env=(false,eval e X.env) :: starEach es X.env:=by rfl) (W5:(backTo pos (starEach es X.env)).any (·.1)=false:=by rfl) :
  PE X (.Call (.Name x p) (e :: es) [] pos) (a4 sp [] E0 t):=gX F hr hg lJ ha hdb he W5
end
theorem ar{H:Hp}(h:H p=none)(o:HO):Same H (upd H p o):=fun b u q=>by rw[aC (au q h)];exact q
theorem Same.seqT{K:Fg}(e:Same H H')(h:SqT K H a xs):SqT K H' a xs:=by
 rcases h with(h|⟨o,h⟩)|h
 ·exact .inl (.inl (e _ _ h))
 ·exact .inl (.inr ⟨o,e _ _ h⟩)
 ·exact .inr h
structure cR (mg:Str->Option K_):Prop where
 len:mg "len"=none
 abs:mg "abs"=none
 range:mg "range"=none
 isinstance:mg "isinstance"=none
 int:mg "int"=none
 bool:mg "bool"=none
 tuple:mg "tuple"=none
 list:mg "list"=none
 str:mg "str"=none
 zip:mg "zip"=none
 set:mg "set"=none
 all:mg "all"=none
 any:mg "any"=none
 min:mg "min"=none
 max:mg "max"=none
 sum:mg "sum"=none
 sorted:mg "sorted"=none
 enumerate:mg "enumerate"=none
 reversed:mg "reversed"=none
 dict:mg "dict"=none
 ord:mg "ord"=none
 divmod:mg "divmod"=none
theorem bP:bootBuiltins "len"=some (.builtin "len"):=by decide +kernel
theorem El:bootBuiltins "abs"=some (.builtin "abs"):=by decide +kernel
theorem aG:bootBuiltins "isinstance"=some (.builtin "isinstance"):=by decide +kernel
theorem mL:bootBuiltins "int"=some (.type "int"):=by decide +kernel
theorem gJ:bootBuiltins "bool"=some (.type "bool"):=by decide +kernel
theorem bB:bootBuiltins "tuple"=some (.type "tuple"):=by decide +kernel
theorem eW:bootBuiltins "list"=some (.type "list"):=by decide +kernel
theorem kW:bootBuiltins "str"=some (.type "str"):=by decide +kernel
theorem Kx{y z:Int}{A B:Prop}(h1:y≠z->A)(h2:y=z->B):if (!decide (V.int y=V.int z))=true then A else B:=by
 by_cases h:y=z
 ·subst h;rw[decide_eq_true rfl];exact Ac (h2 rfl)
 ·rw[decide_eq_false (fun q=>h (V.int.inj q))];exact wY (h1 h)
theorem IA[Decidable c]{A B:Prop}(h1:c->A)(h2 : ¬ c->B):if decide c=true then A else B:=by
 by_cases h:c
 ·rw[decide_eq_true h];exact wY (h1 h)
 ·rw[decide_eq_false h];exact Ac (h2 h)
abbrev cT:R2:=t_ fun i j=>.int (i+j)
abbrev Cc:R2:=t_ fun i j=>.int (i-j)
abbrev Hk:R2:=rI xl fun i j=>.int (i*j)
abbrev qN:R2:=rI GQ fun i j=>.int (i / j)
abbrev wF:R2:=rI Jm fun i j=>.int (i.fdiv j)
abbrev bZ:R2:=rI (fun _ j=>0<j) fun i j=>.int (i % j)
abbrev JF:R2:=rI (fun _ j=>j≠0) fun i j=>.int (i.fmod j)
abbrev JE:R2:=rI Jl fun i j=>.int (i ^ j.toNat)
abbrev B_:R2:=t_ fun i j=>.bl (decide (i<j))
abbrev Ca:R2:=t_ fun i j=>.bl (decide (i<=j))
abbrev GR:R2:=t_ fun i j=>.bl (decide (j<i))
abbrev KP:R2:=t_ fun i j=>.bl (decide (j<=i))
abbrev yT:R2:=fun x y H Q=>y=.non/\Q (.bl (decide (x=.non))) H
abbrev f8:R2:=fun x y H Q=>∃i j,x=.str i/\y=.str j/\i.length+j.length<=sizeLine/\Q (.str (i++j)) H
abbrev JH:List V->Hp->VK->Prop:=fun xs H Q=>∃i,xs=[.int i]/\Q (.int (if i<0 then -i else i)) H
abbrev cE(K:Fg):List V->Hp->VK->Prop:=fun xs H Q=>∃p ys,xs=[.ref p]/\(SqL K H p ys\/SqT K H p ys)/\Q (.int ys.length) H
abbrev Hl:List V->Hp->VK->Prop:=fun xs H Q=>∃z,xs=[.str z]/\z.length<=sizeLine/\Q (.int z.length) H
abbrev eO(K:Fg):List V->Hp->VK->Prop:=fun xs H Q=>∃x n t b,xs=[x,.ty n]/\TyOf K H x t/\LJ K t (.type n)=some b/\Q (.bl b) H
abbrev dv(K:Fg):List V->Hp->VK->Prop:=fun xs H Q=>∃p ys,xs=[.ref p]/\((SqL K H p ys/\∀l,H l=none->Q (.ref l) (upd H l (.tup ys)))\/(SqT K H p ys/\Q (.ref p) H))
abbrev oN(K:Fg):List V->Hp->VK->Prop:=fun xs H Q=>∃p ys,xs=[.ref p]/\(SqL K H p ys\/SqT K H p ys)/\∀l,H l=none->Q (.ref l) (upd H l (.lst ys))
theorem HS{K:Fg}:LJ K (.type "int") (.type "int")=some true:=by rfl
theorem HU{K:Fg}:LJ K (.type "int") (.type "bool")=some false:=by
 show Lw K (.type "int") (.type "bool")=some false;unfold Lw
 kernel_rfl
def Dz(φ:Obj->Prop)(e:Addr)(h:Heap):Prop:=∃o,h.get? e=some o/\φ o
def GL(φ:Obj->Prop):Prop:=∀o f,φ o->φ (M4 f o)
section
variable{M:Model}{A:L4}{E:K_->Lf->Prop}{s:Lf}{φ:Obj->Prop}{base:Heap}{env:Env}{outer:List Env}{L e:Addr}{cls a0:K_}{Q:Unit->Lf->Prop}
theorem mG{oe:Obj}(WV:A.frames=some (env :: outer))(hl:s.heap.FunFrames base (env :: outer))(hf:env.frame=some L)(he:s.heap.get? e=some oe)(hd:oe.data=.fields vs)(hsz:1<vs.size)
  (k:∀(h1:Heap) (ot:Obj) (ts:Array K_),VT ((env :: outer).filterMap (·.frame)) s.heap h1->h1.get? e=some oe->ot.data=.fields ts->ts[3]?=some (rawInt L)->Q () {s with heap:=(h1.push ot).update e (M4 (·.setIfInBounds 1 (.ref h1.objs.size)))}) :
  wpAny M A (do setField (.ref e) 1 (<- TR head (<- frameOf env) .none (rawInt L) .none (<- entryPlaceOf L more))) Q E s:=by
 have ne:e∉(env :: outer).filterMap (·.frame):=fun hm=>by
  obtain⟨_,o,ho,z⟩:=hl.mem hm;cases he.symm.trans ho;exact z vs hd
 refine K8 (wpAny_frameOf_fun WV hl hf fun h1 S=>K8 (wpAny_entryPlaceOf fun pl P=>?_));have e1:h1.get? e=some oe:=(S.2.1 e ne).trans he;unfold TR newFields;refine K8 (MF (OG (K9 _ e1) hd hsz (k h1 _ _ S e1 rfl ?_)) (P.sizeOk5 _ _ _ _ _));rcases P with rfl|⟨_,_,_,_,_,_,_,rfl⟩ <;> simp
theorem kO{oe:Obj}{h:Heap}{ot:Obj}(nf:GL φ)(p:φ oe)(hl:h.FunFrames base (env :: outer))(he:h.get? e=some oe)(Yo:base.StaysIn h)(YC:base.get? e=none)(hd:oe.data=.fields vs)(hsz:1<vs.size)(h0:vs[0]?=some a0)
  (S:VT ((env :: outer).filterMap (·.frame)) h h1) (e1:h1.get? e=some oe) (dt:ot.data=.fields ts) (t3:ts[3]?=some (rawInt L)) :
  VE base (env :: outer) e oe.cls a0 (rawInt L) h ((h1.push ot).update e (M4 (·.setIfInBounds 1 (.ref h1.objs.size))))/\Dz φ e ((h1.push ot).update e (M4 (·.setIfInBounds 1 (.ref h1.objs.size)))):=by
 have Te:h1.objs.size≠e:=Mo (Lm e1);have d3:=NO hd (·.setIfInBounds 1 (LH h1.objs.size));have e3:=Mi (M4 (·.setIfInBounds 1 (LH h1.objs.size))) (K9 ot e1) (Oe d3);have keep:∀b o,b≠e->h1.get? b=some o->((h1.push ot).update e (M4 (·.setIfInBounds 1 (.ref h1.objs.size)))).get? b=some o:=fun b o n q=>(L8 _ _ (MO n)).trans (K9 _ q)
 have nr:∀b o,h.get? b=some o->(∀us,o.data≠.fields us)->b≠e:=fun b o q z w=>by
  subst w;cases he.symm.trans q;exact z vs hd
 have kb1:base.StaysIn h1:=fun b o q=>(S.2.1 b fun hm=>by rw[(hl.mem hm).1] at q;cases q).trans (Yo b o q)
 refine⟨⟨fun b o q=>keep b o (fun z=>by rw[z,YC] at q;cases q) (kb1 b o q),hl.of_keeps fun b o q z=>?_,?_,fun b o q z=>?_⟩,⟨_,e3,nf _ _ p⟩⟩
 ·obtain⟨sl,w⟩:=S.2.2 b o q;exact⟨_,keep b _ (nr b o q z) w,rfl⟩
 ·refine⟨_,_,h1.objs.size,ot,ts,e3,⟨Rq _ _,?_⟩,d3,by simp[hsz],kb1.fresh,Te,(L8 _ _ (MO Te)).trans (Lu h1 (Oe dt)),dt,t3⟩;rw[Array.getElem?_setIfInBounds_ne (by decide)];exact h0
 ·obtain⟨sl,w⟩:=S.2.2 b o q;exact⟨sl,keep b _ (nr b o q z) w⟩
theorem wN{oe:Obj}(nf:GL φ)(p:φ oe)(WV:A.frames=some (env :: outer))(hl:s.heap.FunFrames base (env :: outer))(hf:env.frame=some L)(he:s.heap.get? e=some oe)(Yo:base.StaysIn s.heap)(YC:base.get? e=none)(hd:oe.data=.fields vs)(h1:vs[1]?=some .none)(h0:vs[0]?=some a0)
  (k:∀h',VE base (env :: outer) e oe.cls a0 (rawInt L) s.heap h'->Dz φ e h'->Q () {s with heap:=h'}):wpAny M A (noteFrame (.ref e) env) Q E s:=by
 have hsz:=(MB.mp h1).1;unfold noteFrame;simp only[hf];refine K8 (L3 he hd h1 ?_);rw[if_neg (by decide)];exact mG WV hl hf he hd hsz fun g1 ot ts S e1 dt t3=>(kO nf p hl he Yo YC hd hsz h0 S e1 dt t3).elim (k _)
theorem rD(nf:GL φ)(p:Dz φ e s.heap)(WV:A.frames=some (env :: outer))(hl:s.heap.FunFrames base (env :: outer))(hf:env.frame=some L)(ht:s.heap.TracedW base e cls a0)(Yo:base.StaysIn s.heap)(YC:base.get? e=none)
  (k:∀h',VE base (env :: outer) e cls a0 (rawInt L) s.heap h'->Dz φ e h'->Q () {s with heap:=h'}):wpAny M A (noteFrame (.ref e) env) Q E s:=by
 obtain⟨oe,vs,T,oT,ts,he,⟨rfl,h0⟩,hd,h1,nT,Te,hT,dT,h3⟩:=ht;obtain⟨o',q',p⟩:=p;cases he.symm.trans q';have hsz:=(MB.mp h1).1;unfold noteFrame;simp only[hf];refine K8 (L3 he hd h1 ?_);rw[if_pos (by simp)];refine K8 (L3 hT dT h3 ?_);rw[if_neg (by simp[rawInt])];refine K8 (OG hT dT (MB.mp h3).1 ?_);have other:∀b,b≠T->(s.heap.update T (M4 (·.setIfInBounds 3 Ms))).get? b=s.heap.get? b:=fun b n=>L8 _ _ (MO n)
 have nr:∀b o,s.heap.get? b=some o->(∀us,o.data≠.fields us)->b≠T:=fun b o q z w=>by
  subst w;cases hT.symm.trans q;exact z ts dT
 have X8:Heap.FunFrames (s.heap.update T (M4 (·.setIfInBounds 3 Ms))) base (env :: outer):=hl.of_keeps fun b o q z=>⟨o,(other b (nr b o q z)).trans q,rfl⟩
 have he2:=(other e (MO Te)).trans he;have kb2:base.StaysIn (s.heap.update T (M4 (·.setIfInBounds 3 Ms))):=fun b o q=>(other b fun z=>by rw[z,nT] at q;cases q).trans (Yo b o q)
 refine mG (s:={s with heap:=s.heap.update T (M4 (·.setIfInBounds 3 Ms))}) WV X8 hf he2 hd hsz fun g1 ot us S e1 dt t3=>?_
 obtain⟨⟨x1,x2,x3,x4⟩,x5⟩:=kO nf p X8 he2 kb2 YC hd hsz h0 S e1 dt t3;exact k _ ⟨x1,x2,x3,fun b o q z=>x4 b o ((other b (nr b o q z)).trans q) z⟩ x5
theorem eV(p:Dz φ e s.heap)(Yo:base.StaysIn s.heap)(hl:s.heap.FunFrames base l)(ht:s.heap.TracedAtW base e cls a0 fl)
  (k:∀h',base.StaysIn h'->h'.FunFrames base l->h'.TracedW base e cls a0->s.heap.UpToSlots h'->Dz φ e h'->Q () {s with heap:=h'}):wpAny M A (setFlight (.ref e) none) Q E s:=by
 obtain⟨oe,vs,T,oT,ts,he,hc,hd,h1,nT,Te,hT,dT,h3⟩:=ht;obtain⟨o',q',p⟩:=p;cases he.symm.trans q';have hsz:=(MB.mp h3).1;have other:∀b,b≠T->(s.heap.update T (M4 (·.setIfInBounds 3 ((none:Option Addr).elim Ms fun f=>rawInt f)))).get? b=s.heap.get? b:=fun b n=>L8 _ _ (MO n)
 have nr:∀b o,s.heap.get? b=some o->(∀us,o.data≠.fields us)->b≠T:=fun b o q z w=>by
  subst w;cases hT.symm.trans q;exact z ts dT
 unfold setFlight;refine K8 (L3 he hd h1 ?_);rw[if_pos (by simp)];refine OG hT dT hsz (k _ (fun b o q=>(other b fun z=>by rw[z,nT] at q;cases q).trans (Yo b o q)) (hl.of_keeps fun b o q z=>⟨o,(other b (nr b o q z)).trans q,rfl⟩) ?_ (fun b o q z=>⟨o.slots,(other b (nr b o q z)).trans q⟩) ⟨_,(other e (MO Te)).trans he,p⟩);exact⟨oe,vs,T,_,_,(other e (MO Te)).trans he,hc,hd,h1,nT,Te,Mi _ hT (Oe (NO dT _)),NO dT _,by simp[hsz]⟩
def sy(φ:Obj->Prop)(B:Heap)(l:List Env)(e:Addr)(cls a0:K_)(h:Heap):Prop:=Heap.FlyingW B l e cls a0 h/\Dz φ e h
theorem i_{h:Heap}{oe:Obj}(nf:GL φ)(p:φ oe)(WV:A.frames=some (env :: outer))(hl:s.heap.FunFrames base (env :: outer))(hf:env.frame=some L)(he:s.heap.get? e=some oe)(Yo:base.StaysIn s.heap)(YC:base.get? e=none)(hd:oe.data=.fields vs)(h1:vs[1]?=some .none)(h0:vs[0]?=some a0)
  (k:∀h',sy φ base outer e oe.cls a0 h'->s.heap.UpToSlots h'->Q () {s with heap:=h'}):wpAny M A (leaving env (.ref e)) Q E s:=by
 unfold leaving;refine K8 (wN nf p WV hl hf he Yo YC hd h1 h0 fun g1 ⟨x1,x2,x3,x4⟩ x5=>?_);refine eV (s:={s with heap:=g1}) x5 x1 x2 x3 fun g2 y1 y2 y3 y4 y5=>k g2 ⟨⟨y1,YC,y2.2.2,y3⟩,y5⟩ (SY (h₂:=g1) x4 y4)
theorem wS(nf:GL φ)(WV:A.frames=some (env :: outer))(hf:env.frame=some L)(fl:sy φ base (env :: outer) e cls a0 s.heap)(k:∀h',sy φ base outer e cls a0 h'->s.heap.UpToSlots h'->Q () {s with heap:=h'}):wpAny M A (leaving env (.ref e)) Q E s:=by
 obtain⟨⟨f1,f2,f3,f4⟩,p⟩:=fl;unfold leaving;refine K8 (rD nf p WV f3 hf f4 f1 f2 fun g1 ⟨x1,x2,x3,x4⟩ x5=>?_);refine eV (s:={s with heap:=g1}) x5 x1 x2 x3 fun g2 y1 y2 y3 y4 y5=>k g2 ⟨⟨y1,f2,y2.2.2,y3⟩,y5⟩ (SY (h₂:=g1) x4 y4)
theorem zE(nf:GL φ)(WV:A.frames=some (env :: outer))(hf:env.frame=some L)(fl:sy φ base (env :: outer) e cls a0 s.heap)(k:∀h',Heap.HeldW base (env :: outer) e cls a0 L h'->Dz φ e h'->s.heap.UpToSlots h'->Q () {s with heap:=h'}):wpAny M A (noteFrame (.ref e) env) Q E s:=by
 obtain⟨⟨f1,f2,f3,f4⟩,p⟩:=fl;exact rD nf p WV f3 hf f4 f1 f2 fun g1 ⟨x1,x2,x3,x4⟩ x5=>k g1 ⟨x1,f2,x2,x3⟩ x5 x4
theorem HR(hh:Heap.HeldW base l e cls a0 L s.heap)(p:Dz φ e s.heap)(k:∀h',sy φ base l e cls a0 h'->s.heap.UpToSlots h'->Q () {s with heap:=h'}):wpAny M A (setFlight (.ref e) none) Q E s:=by
 obtain⟨f1,f2,f3,f4⟩:=hh;exact eV p f1 f3 f4 fun g2 y1 y2 y3 y4 y5=>k g2 ⟨⟨y1,f2,y2,y3⟩,y5⟩ y4
theorem rL(fl:sy φ base l e cls a0 s.heap)(k:∀h',sy φ base l e cls a0 h'->s.heap.UpToSlots h'->Q () {s with heap:=h'}):wpAny M A (setFlight (.ref e) none) Q E s:=by
 obtain⟨⟨f1,f2,f3,f4⟩,p⟩:=fl;exact eV p f1 f3 f4.at fun g2 y1 y2 y3 y4 y5=>k g2 ⟨⟨y1,f2,y2,y3⟩,y5⟩ y4
end
structure Jg (P:LA) (w:LL) (outer:List Env) (H H':Hp) (h B h':Heap):Prop where
 hok:HOk P w H' B
 keep:∀b o,h.get? b=some o->H b=none->b∉frs outer->B.get? b=some o
 slot:∀b o,h.get? b=some o->H b=none->b∈frs outer->∃sl,h'.get? b=some {o with slots:=sl}
 free:∀b o,h.get? b=some o->H b=none->H' b=none
 there:∀b o,h.get? b=some o->b∉frs outer->∃o',B.get? b=some o'
 tups:∀b xs,H b=some (.tup xs)->H' b=some (.tup xs)
 frzs:∀b o u,H b=some (.frz o u)->H' b=some (.frz o u)
 tbls:∀b ps,H b=some (.tbl ps)->∃more,H' b=some (.tbl (ps++more))
def fU(P:LA)(w:LL):jB:=fun outer H s E e s' =>
 ∃(ea C:Addr) (a0:K_) (B:Heap) (H':Hp) (d:Option Addr),e=.ref ea/\sy (fun o=>o.dict=d) B outer ea (.ref C) a0 s'.heap/\Jg P w outer H H' s.heap B s'.heap/\s'.os=s.os/\Qu s'.gens/\E (.ref C) d H'
theorem jv{d:Option Addr}:GL fun o=>o.dict=d:=fun o f h=>by
 obtain⟨c,dd,da,sl⟩:=o;cases da <;> exact h
structure iY (X:Cx):Prop where
 stk:X.stack=X.env :: X.outer
 frm:X.env.frame=some X.env.locals
 exs:X.ex=[]
section
variable{X:Cx}{pins:List (Addr×Obj)}{σ:St}{H:Hp}{s:Lf}
theorem iY.frs(o:iY X):frs X.stack=X.env.locals :: X.fs:=by
 rw[o.stk];unfold L2.frs;rw[M6,o.frm];rfl
theorem Inv.old_ne(I:Inv X pins σ H s){b:Addr}{o:Obj}(e:X.s₀.heap.get? b=some o):b≠X.env.locals:=Lh (LR (Lm e) I.ok.above)
theorem Inv.iK(I:Inv X pins σ H s)(o:iY X){b:Addr}{ob:Obj}(e:X.s₀.heap.get? b=some ob)(h:b∉X.fs):b∉L2.frs X.stack:=by
 rw[o.frs];intro z;rcases Lj.mp z with z|z
 ·exact I.old_ne e z
 ·exact h z
theorem Inv.kN(I:Inv X pins σ H s){b:Addr}{o:Obj}(hb:b∈X.fs)(e:s.heap.get? b=some o):∀vs,o.data≠.fields vs:=by
 obtain⟨_,o',e',d⟩:=I.funs.mem hb;rw[e] at e';cases e';exact d
theorem wT{E:XK}(I:Inv X pins σ H s)(o:iY X)(hx:Heap.MadeExcOf s.heap h2 e (.ref C) args)(hE:E (.ref C) none H) :
  wpAny M X.A (leaving X.env (.ref e)) (fun _ XG=>fU X.prog X.w X.outer X.H₀ X.s₀ E (.ref e) XG) E' {s with heap:=h2}:=by
 have FF:s.heap.FunFrames X.base (X.env :: X.outer):=o.stk ▸ I.stack;have WV:X.A.frames=some (X.env :: X.outer):=o.stk ▸ I.ok.frames;have Y2:∀env∈(X.env :: X.outer),∀b,env.frame=some b->b∈(X.env :: X.outer).filterMap (·.frame):=fun env he b hb=>M9.mpr ⟨env,he,hb⟩
 have eqf:(X.env :: X.outer).filterMap (·.frame)=L2.frs X.stack:=by rw[o.stk];rfl
 have nox:∀b:Addr,b∉X.ex:=fun b z=>by rw[o.exs] at z;cases z
 have Xr:∀{b:Addr} {ob:Obj},s.heap.get? b=some ob->b∉L2.frs X.stack->(OU s.heap ((X.env :: X.outer).filterMap (·.frame))).get? b=some ob:=fun {b ob} q n=>TM _ q (by rw[eqf];exact n)
 obtain⟨t,he,_,_⟩:=hx.there;have Zj:Heap.StaysIn (OU s.heap ((X.env :: X.outer).filterMap (·.frame))) h2:=fun b ob q=>hx.keeps b ob (Q1 _ q)
 have ne2:(OU s.heap ((X.env :: X.outer).filterMap (·.frame))).get? e=none:=by
  cases z:(OU s.heap ((X.env :: X.outer).filterMap (·.frame))).get? e with
  |none=>rfl
  |some ob=>have:=Q1 _ z;rw[hx.new] at this;cases this
 refine i_ (s:={s with heap:=h2}) (φ:=fun o=>o.dict=none) (base:=OU s.heap ((X.env :: X.outer).filterMap (·.frame))) (h:=s.heap) jv rfl WV ((PySem.W.funFrames_hide FF Y2).of_keeps fun b ob q _=>⟨ob,hx.keeps b ob q,rfl⟩) o.frm he Zj ne2 rfl rfl rfl fun h' fl up=>?_
 refine⟨e,C,_,_,H,none,rfl,fl,⟨fun a ob q=>?_,fun b ob q n hb=>?_,fun b ob q n hb=>?_,fun b ob q n=>?_,fun b ob q hb=>?_,I.base.tups,I.base.frzs,I.base.tbls⟩,I.os,I.bare,hE⟩
 ·refine(I.hok a ob q).stay (fun b u hb g=>Xr g fun z=>?_) (fun _ z=>z) fun _ _ z=>z
  have fz:=I.jO b z;rcases hb with hb|hb
  ·rw[hb,q] at fz;cases fz
  ·rw[hb] at fz;cases fz
 ·exact Xr (I.base.keep b ob q n hb (nox b)) (I.iK o q hb)
 ·obtain⟨sl,e1⟩:=I.base.slot b ob q n hb (nox b);obtain⟨XO,e2⟩:=up b _ (hx.keeps b _ e1) (fun vs=>I.kN hb e1 vs);exact⟨XO,e2⟩
 ·exact I.base.free b ob q n (nox b)
 ·obtain⟨o',e1⟩:=I.base.there b ob q (nox b);exact⟨o',Xr e1 (I.iK o q hb)⟩
theorem CG(I:Inv X pins σ H s)(o:iY X)(h:fU X.prog X.w X.stack H s E e s') :
  wpAny M X.A (leaving X.env e) (fun _ XG=>fU X.prog X.w X.outer X.H₀ X.s₀ E e XG) E' s':=by
 obtain⟨ea,C,a0,B,H',d,rfl,fl,g,os,bare,hE⟩:=h;have WV:X.A.frames=some (X.env :: X.outer):=o.stk ▸ I.ok.frames;have nox:∀b:Addr,b∉X.ex:=fun b z=>by rw[o.exs] at z;cases z
 have inS:∀{b:Addr},b∈X.fs->b∈L2.frs X.stack:=fun hb=>by rw[o.frs];exact Ly _ hb
 rw[o.stk] at fl;refine wS jv WV o.frm fl fun h' fl' up=>?_
 refine⟨ea,C,a0,B,H',d,rfl,fl',⟨g.hok,fun b ob q n hb=>?_,fun b ob q n hb=>?_,fun b ob q n=>?_,fun b ob q hb=>?_,fun b xs q=>g.tups b xs (I.base.tups b xs q),fun b ob u q=>g.frzs b ob u (I.base.frzs b ob u q),fun b ps q=>?_⟩,os.trans I.os,bare,hE⟩
 ·exact g.keep b ob (I.base.keep b ob q n hb (nox b)) (I.base.free b ob q n (nox b)) (I.iK o q hb)
 ·obtain⟨sl,e1⟩:=I.base.slot b ob q n hb (nox b);obtain⟨XO,e2⟩:=g.slot b _ e1 (I.base.free b ob q n (nox b)) (inS hb);obtain⟨sl'',e3⟩:=up b _ e2 (fun vs=>I.kN hb e1 vs);exact⟨sl'',e3⟩
 ·obtain⟨o',e1⟩:=I.base.there b ob q (nox b);exact g.free b o' e1 (I.base.free b ob q n (nox b))
 ·obtain⟨o',e1⟩:=I.base.there b ob q (nox b);exact g.there b o' e1 (I.iK o q hb)
 ·obtain⟨m1,e1⟩:=I.base.tbls b ps q;obtain⟨m2,e2⟩:=g.tbls b _ e1;exact⟨m1++m2,by rw[e2,Uq]⟩
end
theorem Cs{CX:jB}{K:Fg} :
  iY (cV CX P w K mg base N qual sc f cd A outer s H E):=⟨rfl,rfl,rfl⟩
def Lv(X:Cx)(E:XK):Prop:=iY X/\(∀e s',wpAny (model X.prog X.w) X.A (leaving X.env e) (fun _ XG=>fU X.prog X.w X.outer X.H₀ X.s₀ E e XG) (fun e' XG=>fU X.prog X.w X.outer X.H₀ X.s₀ E e' XG) s'->X.xe e s')
theorem HI{K:Fg} :
  Lv (cV (fU P w) P w K mg base N qual sc f cd A outer s H E) E:=⟨Cs,fun _ _ h=>h⟩
theorem Ee{CX:jB}{K:Fg} :
  Qj (model P w) (cV CX P w K mg base N qual sc f cd A outer s H E).A (cV CX P w K mg base N qual sc f cd A outer s H E).env (cV CX P w K mg base N qual sc f cd A outer s H E).xe:=Qj.leaving
theorem Lv.pass(l:Lv X E):dj (fU X.prog X.w) X E:=fun _ _ _ _ _ _ I h=>l.2 _ _ (CG I l.1 h)
theorem bw.okE{K:Fg}{st:Stmt}{sp:Sp}(F:bw K mg x st ps)(S:aJ N ps (ai st))(len:∀vs H Q E,sp vs H Q E->vs.length=ps.length)
  (hbody:∀(f:Addr) (gV:K_) (A:L4) (outer:List Env) (s:Lf) (H:Hp) (vs:List V) (Q:VK) (E:XK),Room k (A.deeper (envOfC x (ai st) s.heap.objs.size f gV))->sp vs H Q E ->
   ∃t,PSs (cV (fU P w) P w K mg base N x (ai st) f gV A outer s H E) (bK st) t/\t {nx:=fun _ H'=>Q .non H',rt:=Q} (start N vs) H):FnC P w K mg base (fU P w) (k+1) x ps sp:=by
 obtain⟨f,fd,G,hm,hb⟩:=F.ex;obtain⟨oc,od,kV,doc,pm,an,gV,ct,XN,rfl,lk,hcd⟩:=G.ex;exact⟨f,_,Go lk hcd S len fun A outer s H vs Q E hr hsp=>hbody f gV A outer s H vs Q E hr hsp,hm,G.kp,hb⟩
structure AY (K:Fg) (mg:Str->Option K_) (x:Str) (C:Addr) (Xl:List K_) (newId:String):Prop where
 at_:mg x=some (.ref C)
 ok:Py K C Xl newId=true
theorem pP{K:Fg}(X:K.In h)(ok:Py K C Xl newId=true) :
  ∃tl N nm q bs hdct sn sub ab col dd k0 k1 k2 k3 k5 mN,h.get? C=some (excClassObj nm q C N bs tl hdct sn sub ab col dd k0 k1 k2 k3 k5 newId)/\h.Ns N mN/\mN "__init__"=none/\TJ h Xl tl:=by
 unfold Py at ok;split at ok
 ·rename_i dd cd sl lk;split at ok
  ·rename_i C1 tl s0 s1 s2 s3 nw s5 em es;simp only[NA,beq_iff_eq,Bool.not_eq_true'] at ok;obtain⟨⟨⟨⟨⟨e1,e2⟩,nodel⟩,own⟩,isns⟩,noi⟩:=ok;subst e1 e2;obtain⟨nm,bs,mro,ns,qn,hd,sn,sub,ab,col,A_⟩:=cd;have em':mro=LH C1 :: tl:=em;have Za:A_=false:=nodel;subst em' Za;obtain⟨sll⟩:=sl;have W0:sll=[s0,s1,s2,s3,some (K_.builtin nw),s5]:=es;subst W0;exact⟨tl,ns,nm,qn,bs,hd,sn,sub,ab,col,dd,s0,s1,s2,s3,s5,_,X _ _ lk,Heap.Ns.of_isNs (PySem.W.isNs_of_in X isns),PySem.W.nsMap_none_of_in X isns noi,PySem.W.tail_of_in X own⟩
  ·exact absurd ok LP
 ·exact absurd ok LP
def eZ(E:XK)(C:Addr)(te:TE):TS:=fun _ σ H=>te σ H fun x H1=>[x].length=1/\E (.ref C) none H1
theorem dB{V9 pos:Pos}{te:TE}(l:Lv X E)(hc:X.calm=true)(hg:Gl X x)(c:AY X.K X.mg x C Xl newId)(FB:Sc B newId WW Xl)(he:PE X e₀ te)
  (hst:starEach [e₀] X.env=[(false,eval e₀ X.env)]:=by rfl) (hdb:(x == ("__debug__":Str))=false:=by decide) :
  PS X (.Raise (some (.Call (.Name x np) [e₀] [] V9)) none pos) (eZ E C te):=by
 intro pins s σ H D I h;obtain⟨tl,N,nm,q,bs,hdct,sn,sub,ab,col,dd,k0,k1,k2,k3,k5,mN,hC,hN,hni,T⟩:=pP I.mod.kin c.ok
 refine wpAny_Raise_call_subT (C:=C) (nm:=nm) (q:=q) (N:=N) (bs:=bs) (bm:=tl) (hdct:=hdct) (sn:=sn) (sub:=sub) (ab:=ab) (col:=col) (dd:=dd) (k0:=k0) (k1:=k1) (k2:=k2) (k3:=k3) (k5:=k5)
  FB (mN:=mN) (T.hasType FB.hasBase) (I.ok.hd hc) (by rw[hst];rfl) hni (fB I hg c.at_ ⟨rfl,?_⟩ hdb)
 have ha:PA X [e₀] (ag te aq):=ac he ah (by rw[hst];rfl);have r:=ha V9 pins s σ H (fun vs H1=>vs.length=1/\E (.ref C) none H1) I h;rw[hst] at r ⊢;refine Oq (L6 r (fun us s2 ⟨vs,H1,I2,rv,hl,hE⟩=>⟨rfl,by rw[<- rv.length,hl];decide,I2.bk _ _ hC,hN.keeps I2.bk,T.keeps I2.bk,fun h' e hx=>l.2 _ _ (wT I2 l.1 hx hE)⟩) fun _ _ y=>y)
section
variable{M:Model}{A:L4}{E:K_->Lf->Prop}{h:Heap}{g:Array GenState}{d:Drawn}{t:Nat}{os:TD}
theorem uE{C D:Addr}
  {e:Addr} {oe:Obj} {Q:Bool->Lf->Prop}
  (hC:h.get? C=some (excClassObj nm q C N bs tl hd sn su ab co dd k0 k1 k2 k3 k5 nw)) (hD:h.get? D=some (excClassObj nm' q' D N' bs' tl' X6 sn' su' ab' co' YV j0 j1 j2 j3 j5 nw'))
  (he:h.get? e=some oe) (hc:oe.cls=.ref C) (hb:tl'.contains (.type "BaseException")=true) (hs:(LH C :: tl).contains (.ref D)=true)
  (hq:Q true ⟨h,g,d,t,os⟩):wpAny M A (excMatches (.ref e) (.ref D)) Q E ⟨h,g,d,t,os⟩:=by
 have hB:(LH D :: tl').contains (.type "BaseException")=true:=by rw[List.contains_cons,hb,Bool.or_true]
 have nt:=tc_notTuple;unfold excMatches
 repeat (first
  |(with_reducible refine ND he ?_;rw[hc])
  |with_reducible refine ND hD ?_
  |with_reducible refine ND hC ?_
  |(with_reducible refine Pr hD ?_;rw[hB])
  |(with_reducible refine Pr hC ?_;rw[hs])
  |wp_step)
 exact hq
end
section
variable{X:Cx}{pins:List (Addr×Obj)}{σ:St}{H H':Hp}{s s':Lf}
theorem Inv.back(I:Inv X pins σ H s)(o:iY X)(g:Jg X.prog X.w X.stack H H' s.heap B s'.heap)(Yb:s'.os=s.os)(bare:Qu s'.gens)(st:B.StaysIn h5)(up:s'.heap.UpToSlots h5) :
  Inv X pins σ H' {s' with heap:=h5}:=by
 obtain⟨hh,g',d',t',os'⟩:=s';have e:os'=s.os:=Yb;subst e;have inS:∀{b:Addr},b∈X.fs->b∈L2.frs X.stack:=fun hb=>by rw[o.frs];exact Ly _ hb
 have inL:X.env.locals∈L2.frs X.stack:=by rw[o.frs];exact Lz
 have out:∀{b:Addr},b≠X.env.locals->b∉X.fs->b∉L2.frs X.stack:=fun h1 h2 z=>by
  rw[o.frs] at z;rcases Lj.mp z with z|z
  ·exact h1 z
  ·exact h2 z
 have nsL:∀m,s.heap.Ns X.env.locals m->h5.Ns X.env.locals m:=fun m hm=>by
  obtain⟨ob,es,ep,ho,hd,r⟩:=hm;obtain⟨sl,e1⟩:=g.slot _ ob ho I.free inL;obtain⟨XO,e2⟩:=up _ _ e1 (fun vs z=>by have z':ob.data=.fields vs:=z;rw[hd] at z';cases z');exact⟨_,es,ep,e2,hd,r⟩
 suffices r:Inv X pins σ H' {s with heap:=h5,gens:=g',drawn:=d',toks:=t'} from r
 refine I.step (ch:=[]) (fun _ z=>nomatch z) (fun b ob nl nf _ e n=>st b ob (g.keep b ob e n (out nl nf))) (fun b ob nl hb _ e n=>?_) (fun b ob _ e n=>g.free b ob e n) (fun b ob _ e=>?_) g.tups g.frzs g.tbls nsL (g.hok.kept st) bare
 ·obtain⟨sl,e1⟩:=g.slot b ob e n (inS hb);obtain⟨XO,e2⟩:=up b _ e1 (fun vs=>I.kN hb e vs);exact⟨XO,e2⟩
 ·by_cases hb:b∈L2.frs X.stack
  ·have hb':=hb;rw[o.frs] at hb';rcases Lj.mp hb' with z|z
   ·obtain⟨m,hn,_⟩:=I.loc;obtain⟨o',_,_,XE,_⟩:=nsL m hn;exact⟨o',by rw[z];exact XE⟩
   ·obtain⟨sl,e1⟩:=g.slot b ob e (I.jO b hb) hb;obtain⟨XO,e2⟩:=up b _ e1 (fun vs=>I.kN z e vs);exact⟨_,e2⟩
  ·obtain⟨o',e1⟩:=g.there b ob e hb;exact⟨o',st b o' e1⟩
theorem Inv.track(I:Inv X pins σ H s)(hn:H e=none)(h0:X.s₀.heap.get? e=none)(hL:e≠X.env.locals)(hc:∀x c,X.env.cells.lookup x=some c->c≠e)(hp:∀p∈X.pn++pins,p.1≠e)
  (ok:ci X.prog X.w (upd H e o) s.heap e o):Inv X pins σ (upd H e o) s:=by
 have ne:∀b u,H b=some u->b≠e:=fun b u q z=>by rw[z,hn] at q;cases q
 refine⟨I.ok,I.os,I.bare,⟨I.base.keep,I.base.slot,fun b ob q n hx=>?_,I.base.there,fun b xs q=>?_,fun b ob u q=>?_,fun b ps q=>?_⟩,I.loc,I.cell,?_,fun x c q=>?_,fun p hq=>?_,fun a u q=>?_,I.len⟩
 ·rw[aC (fun z=>by rw[z,h0] at q;cases q)];exact I.base.free b ob q n hx
 ·have z:=I.base.tups b xs q;rw[aC (ne _ _ z)];exact z
 ·have z:=I.base.frzs b ob u q;rw[aC (ne _ _ z)];exact z
 ·obtain⟨m,z⟩:=I.base.tbls b ps q;exact⟨m,by rw[aC (ne _ _ z)];exact z⟩
 ·rw[aC (MO hL)];exact I.free
 ·rw[aC (hc x c q)];exact I.freeC x c q
 ·obtain⟨q1,q2,q3⟩:=I.pin p hq;exact⟨q1,by rw[aC (hp p hq)];exact q2,q3⟩
 ·by_cases z:a=e
  ·subst z;rw[am] at q;cases q;exact ok
  ·rw[aC z] at q;exact(I.hok a u q).stay (fun _ _ _ r=>r) (fun b r=>by rw[aC (ne _ _ r)];exact r) fun b xs r=>by rw[aC (ne _ _ r)];exact r
abbrev Cx.marked(X:Cx)(e:Addr):Cx:={X with A:=X.A.mark (some (.ref e)),calm:=false,xe:=fun _ _=>False}
theorem Inv.marked(I:Inv X pins σ H s)(e:Addr):Inv (X.marked e) pins σ H s :=
 ⟨⟨I.ok.mod,I.ok.kind,I.ok.glob,I.ok.blt,I.ok.above,I.ok.inj,I.ok.has,I.ok.cab,fun z=>Vj z,I.ok.frames,I.ok.stk,I.ok.exf,I.ok.bs,I.ok.bsz,I.ok.noex,I.ok.exfs,I.ok.funs,I.ok.frf⟩,
  I.os,I.bare,I.base,I.loc,I.cell,I.free,I.freeC,I.pin,I.hok,I.len⟩
theorem Inv.unmarked(I0:X.Ok)(I:Inv (X.marked e) pins σ H s):Inv X pins σ H s:=⟨I0,I.os,I.bare,I.base,I.loc,I.cell,I.free,I.freeC,I.pin,I.hok,I.len⟩
end
structure GP (K:Fg) (mg:Str->Option K_) (x:Str) (D:Addr):Prop where
 at_:mg x=some (.ref D)
 ok:∃Xl newId,Py K D Xl newId=true/\Xl.contains (.type "BaseException")=true
def Dy(K:Fg)(C:Addr):Prop:=∀h:Heap,K.In h->∃tl N nm q bs hdct sn sub ab col dd k0 k1 k2 k3 k5 newId,h.get? C=some (excClassObj nm q C N bs tl hdct sn sub ab col dd k0 k1 k2 k3 k5 newId)
theorem jA{K:Fg}(ok:Py K C Xl newId=true):Dy K C:=fun h X=>by
 obtain⟨tl,N,nm,q,bs,hdct,sn,sub,ab,col,dd,k0,k1,k2,k3,k5,mN,hC,_⟩:=pP X ok;exact⟨tl,N,nm,q,bs,hdct,sn,sub,ab,col,dd,k0,k1,k2,k3,k5,newId,hC⟩
def lR(K:Fg)(C D:Addr):Prop:=Dy K C/\T0 K C (.ref D)=some true
theorem FU{K:Fg}{C:Addr}(X:K.In h)
  (hC:h.get? C=some (excClassObj nm q C N bs tl hd sn su ab co dd k0 k1 k2 k3 k5 nw)) (e:T0 K C (.ref D)=some true):(LH C :: tl).contains (.ref D)=true:=by
 obtain⟨cd,a,b⟩:=PR.mp e;unfold V0 at a;split at a
 ·rename_i c1 d1 cd1 s1 lk;cases a;have z:=(X _ _ lk).symm.trans hC;unfold excClassObj at z;cases z;split at b
  ·cases b
  ·exact LF b
 ·cases a
theorem FD{X:Cx}:dj (fU X.prog X.w) X E0:=fun _ _ _ _ _ _ _ h=>by
 obtain⟨_,_,_,_,_,_,_,_,_,_,_,z⟩:=h;exact z.elim
section
variable{P:LA}{w:LL}{K:Fg}{mg:Str->Option K_}{base:Heap}{x:Str}{st:Stmt}{N ps:List Str}{k:Nat}{sp:Sp}
theorem jS:1<=sizeLine:=by decide
theorem bq:2<=sizeLine:=by decide
theorem gu:3<=sizeLine:=by decide
theorem EW:4<=sizeLine:=by decide
theorem EV:6<=sizeLine:=by decide
theorem bx{N:List Str}{n:Nat}(hN:N.length=n)(vs:List V):L2.start N vs=vs.map some++LI (n-vs.length) none:=by
 subst hN;rfl
theorem bw.okN(F:bw K mg x st ps)(S:aJ N ps (ai st))(len:∀vs H Q E,sp vs H Q E->vs.length=ps.length)
  (hbody:∀(f:Addr) (gV:K_) (A:L4) (outer:List Env) (s:Lf) (H:Hp) (vs:List V) (Q:VK) (E:XK),N.Nodup->Room k (A.deeper (envOfC x (ai st) s.heap.objs.size f gV))->(A.deeper (envOfC x (ai st) s.heap.objs.size f gV)).units+64<cLine->(A.deeper (envOfC x (ai st) s.heap.objs.size f gV)).units+1<cLine->(∀{M:Model} {A:L4} {env:Env},Qj M A env fun _ _=>False)->iY (cV b9 P w K mg base N x (ai st) f gV A outer s H E).nox->sp vs H Q E ->
   ∃t,PSs (cV b9 P w K mg base N x (ai st) f gV A outer s H E).nox (bK st) t/\t {nx:=fun _ H'=>Q .non H',rt:=Q} (start N vs) H):FnC P w K mg base b9 (k+1) x ps sp :=
 F.ok S len fun f gV A outer s H vs Q E hr h=>hbody f gV A outer s H vs Q E S.nd hr hr.units (LW (OE (by decide:1<=64) _) hr.units) OW ⟨rfl,rfl,rfl⟩ h
theorem bw.okM(F:bw K mg x st ps)(S:aJ N ps (ai st))(len:∀vs H Q E,sp vs H Q E->vs.length=ps.length)
  (hbody:∀(f:Addr) (gV:K_) (A:L4) (outer:List Env) (s:Lf) (H:Hp) (vs:List V) (Q:VK) (E:XK),N.Nodup->Room k (A.deeper (envOfC x (ai st) s.heap.objs.size f gV))->(A.deeper (envOfC x (ai st) s.heap.objs.size f gV)).units+64<cLine->(A.deeper (envOfC x (ai st) s.heap.objs.size f gV)).units+1<cLine->Qj (model P w) (cV (fU P w) P w K mg base N x (ai st) f gV A outer s H E).A (cV (fU P w) P w K mg base N x (ai st) f gV A outer s H E).env (cV (fU P w) P w K mg base N x (ai st) f gV A outer s H E).xe->Lv (cV (fU P w) P w K mg base N x (ai st) f gV A outer s H E) E->sp vs H Q E ->
   ∃t,PSs (cV (fU P w) P w K mg base N x (ai st) f gV A outer s H E) (bK st) t/\t {nx:=fun _ H'=>Q .non H',rt:=Q} (start N vs) H):FnC P w K mg base (fU P w) (k+1) x ps sp :=
 F.okE S len fun f gV A outer s H vs Q E hr h=>hbody f gV A outer s H vs Q E S.nd hr hr.units (LW (OE (by decide:1<=64) _) hr.units) Ee HI h
end
open PySem PySem.Spec PyProof.Rows PySem.W Builtin Builtin.ObjectAttr Builtin.Getset_descriptor
section
variable{prog:LA}{w:LL}{A:L4}{E:K_->Lf->Prop}{h:Heap}{g:Array GenState}{d:Drawn}{t:Nat}{os:TD}
variable{nm q:Str}{C N:Addr}{bs bm Xl:List K_}{hdct:Bool}{sn:List Str}{sub:List K_}{ab:Bool}{col:Option Bool}{dd:Option Addr}{k0 k1 k2 k3 k5:Option K_}{B newId WW:String}
abbrev db(C t:Addr)(dx:Option Addr):Obj:={cls:=.ref C,dict:=dx,data:=.fields #[.ref t,.none,.none,.none,.bool false,.none]}
theorem xD{K:Fg}(F:Sc B newId WW Xl)(T:TJ h Xl bm){rest:List K_}{oI:Obj}{Q:Fin->Lf->Prop}(X:K.In h)
  (hC:h.get? C=some (excClassObj nm q C N bs bm hdct sn sub ab col dd k0 k1 k2 k3 k5 newId)) (hi:L_ K (.ref C) "__init__"=some (some (.ref fI))) (hfI:h.get? fI=some oI) (Zt:oI.cls=.type "function")
  (hq:wpAny (model prog w) A (call (.ref fI) (.ref (h.objs.size+1) :: rest)) (fun r s'=>r=.none/\Q (.done (.ret (.ref (h.objs.size+1)))) s') E ⟨(h.push {cls:=.type "tuple",data:=.seq rest.toArray}).push (db C h.objs.size none),g,d,t,os⟩) (XC:rest.length<=sizeLine) :
  wpAny (model prog w) A (NX.«type.__call__» ⟨.ref C :: rest,[]⟩) Q E ⟨h,g,d,t,os⟩:=by
 repeat (first|with_reducible refine ND hC ?_|with_reducible refine wpAny_madeBy_exc hC ?_|wp_step)
 refine codeAny_call_builtin_code (Q7 _ F.quiet) (wpAny_check_new_subT F T hC (codeAny_exc_new_subT F T hC (?_:wpAny _ _ _ _ _ _) XC));have up:∀b o,h.get? b=some o->((h.push {cls:=.type "tuple",data:=.seq rest.toArray}).push {cls:=.ref C,data:=.fields #[.ref h.objs.size,.none,.none,.none,.bool false,.none]}).get? b=some o:=fun b o e=>K9 _ (K9 _ e)
 have hC1:=up _ _ hC;have hfI1:=up _ _ hfI;have X1:=X.keeps up;have XV:((h.push {cls:=.type "tuple",data:=.seq rest.toArray}).push {cls:=.ref C,data:=.fields #[.ref h.objs.size,.none,.none,.none,.bool false,.none]}).get? (h.objs.size+1)=some {cls:=.ref C,data:=.fields #[.ref h.objs.size,.none,.none,.none,.bool false,.none]}:=by heap_get
 have hcC:(LH C :: bm).contains (.ref C)=true:=by simp
 unfold isInstance
 repeat (first|with_reducible refine ND XV ?_|(with_reducible refine Pr hC1 ?_;rw[hcC])|wp_step)
 refine(?_:wpAny _ _ (typeLookup (.ref C) _) _ _ _);refine Ur (SX X1 hi) ?_;refine MJ (K8 ?_);unfold bindSpecial;refine K8 (R8 (T:="function") ⟨_,hfI1,Zt⟩ ?_);rw[if_pos (by decide)];refine Le (K8 (L6 hq (fun r s' hr=>?_) fun _ _ x=>x));obtain⟨rfl,hQ⟩:=hr;wp_walk;exact hQ
theorem Dj{K:Fg}(F:Sc B newId WW Xl)(T:TJ h Xl bm){rest:List K_}{oI:Obj}{Q:K_->Lf->Prop}(X:K.In h)
  (hC:h.get? C=some (excClassObj nm q C N bs bm hdct sn sub ab col dd k0 k1 k2 k3 k5 newId)) (hi:L_ K (.ref C) "__init__"=some (some (.ref fI))) (hfI:h.get? fI=some oI) (Zt:oI.cls=.type "function")
  (hq:wpAny (model prog w) (A.under (.builtin "type.__call__" ⟨.ref C :: rest,[]⟩)) (call (.ref fI) (.ref (h.objs.size+1) :: rest)) (fun r s'=>r=.none/\Q (.ref (h.objs.size+1)) s') E ⟨(h.push {cls:=.type "tuple",data:=.seq rest.toArray}).push (db C h.objs.size none),g,d,t,os⟩) (XC:rest.length<=sizeLine) :
  wpAny (model prog w) A (call (.ref C) rest) Q E ⟨h,g,d,t,os⟩:=by
 have f1:=tc_lookup;have f2:=tc_bind (.ref C);have hT:(⟨h,g,d,t,os⟩:Lf).TypeIs (.ref C) "type":=⟨_,hC,rfl⟩
 refine Qk (codeAny_of_tree (?_:wpAny _ _ (callAny (.ref C) _) _ _ _))
 repeat (any_goals (first|assumption|with_reducible refine ND hC ?_|wp_step))
 exact⟨rfl,codeAny_call_builtin_at (Q7 _ (by decide +kernel)) entry_typeCall (wpAny_check_type_call_sub hC (xD F T X hC hi hfI Zt hq XC))⟩
end
open PySem PySem.Spec PyProof.Rows PySem.W
section
variable{prog:LA}{w:LL}{A:L4}{E:K_->Lf->Prop}{h:Heap}{g:Array GenState}{d:Drawn}{t:Nat}{os:TD}
variable{nm q:Str}{C N:Addr}{bs bm Xl:List K_}{hdct:Bool}{sn:List Str}{sub:List K_}{ab:Bool}{col:Option Bool}{dd:Option Addr}{k0 k1 k2 k3 k5:Option K_}{B newId WW:String}
theorem AV(F:Sc B newId WW Xl)(T:TJ h Xl bm){rest:List K_}{e:Addr}{Q:K_->Lf->Prop}
  (hC:h.get? C=some (excClassObj nm q C N bs bm hdct sn sub ab col dd k0 k1 k2 k3 k5 newId)) (he:h.get? e=some (db C t0 dx))
  (hq:∀h' t1,(∀b o,b≠e->h.get? b=some o->h'.get? b=some o)->h'.get? e=some (db C t1 dx)->Q .none ⟨h',g,d,t,os⟩) (XC:rest.length<=sizeLine) :
  wpAny (model prog w) A (call (.builtin WW) (.ref e :: rest)) Q E ⟨h,g,d,t,os⟩:=by
 refine Qk (Qy F.init.plain F.initEntry (wpAny_check_init_subT F T hC he rfl ?_));wp_walk;have ne:h.objs.size≠e:=Mo (Lm he);refine hq _ h.objs.size (fun b o nb hb=>?_) ?_
 ·rw[L8 _ _ (MO nb)];exact K9 _ hb
 ·rw[Mi _ (K9 _ he) rfl];rfl
end
section
variable{prog:LA}{w:LL}{A:L4}{E:K_->Lf->Prop}{s:Lf}{K:Frag}{x C:Addr}{R:R6->Lf->Prop}{name:Str}{v:K_}
structure sB (K:Frag) (C:Addr) (f:Str):Prop where
 sa:findIn K (.ref C) "__setattr__"=some (some (.builtin "object.__setattr__"))
 no:findIn K (.ref C) f=some none
 hd:hasDictIn K C=true
 mro:∃cd tl,clsIn K C=some cd/\cd.mro=tl++[.type "ValueError",.type "Exception",.type "BaseException",.type "object"]/\tl.all (fun|.ref _=>true|_=>false)=true
 ob:mroIn K C (.type "object")=some true
theorem j4(self:K_):∀{l r:List K_},l.all (fun|.ref _=>true|_=>false)=true->refuseLoop self "__setattr__" r=pure ()->refuseLoop self "__setattr__" (l++r)=pure ()
 |[],_,_,e=>e
 |.ref c :: l,r,a,e=>by rw[RI,refuseLoop_ref];exact j4 self (by simpa using a) e
theorem Az{Q:Unit->Lf->Prop}(X:K.In s.heap)(hx:s.heap.get? x=some (db C t0 none))(a:sB K C name)
  (h:∀h' tk,h'.Ns1 s.heap.objs.size (fun y=>if y=name then some v else none)->h'.get? x=some (db C t0 (some s.heap.objs.size))->(∀b o,b≠x->s.heap.get? b=some o->h'.get? b=some o)->Q () {s with heap:=h',toks:=tk}) :
  wpAny (model prog w) A (setAttr (.ref x) name v) Q E s:=by
 have SF:=PySem.F.store_ValueError;obtain⟨cd,tl,hc,hm,htl⟩:=a.mro;have I:InstAt s.heap x (db C t0 none) C none:=⟨hx,rfl,rfl,trivial⟩
 refine set_plain X I a.sa ?_;have sub:Looks (model prog w) s.heap (isInstance (.ref x) (.type "object")) true:=I.type.andThen (looks_mroIn X a.ob);refine Qy SF.slot.plain SF.entry (@check_slot (model prog w) _ _ {s with toks:=s.toks+1} "object.__setattr__" "object" "__setattr__" (.ref x) [.str name s.toks,v] [] _ SF.kind SF.split sub (SF.args (.ref x) (.str name s.toks) v) ?_);have Z4:Looks (model prog w) s.heap (mroOf (.ref C)) cd.mro:=(looks_clsIn X hc).andThen .now;rw[osa_eq,refuse_eq];refine K8 (K8 (Se (s:={s with toks:=s.toks+1}) I.type (K8 (Se (s:={s with toks:=s.toks+1}) Z4 ?_))));rw[hm,j4 _ htl (SF.passes _)];refine Le (K8 (Se (s:={s with toks:=s.toks+1}) I.type (K8 (Se (s:={s with toks:=s.toks+1}) (looks_findIn X a.no) (K8 (Le ?_))))));obtain⟨cd',Wh,X6⟩:=any_some a.hd;cases hc.symm.trans Wh;have xs:x≠s.heap.objs.size:=Lh (Lm hx);have hx1:(s.heap.push {cls:=.type "dict",data:=.dict #[]}).get? x=some (db C t0 none):=K9 _ hx;refine K8 (Le (K8 (K8 (wpAny_loadPart hx (K8 (Se (s:={s with toks:=s.toks+1}) (looks_clsIn X hc) ?_))))));rw[X6];have Y7:((s.heap.push {cls:=.type "dict",data:=.dict #[]}).update x fun o=>{cls:=o.cls,dict:=some s.heap.objs.size,data:=o.data,slots:=o.slots}).get? x=some (db C t0 (some s.heap.objs.size)):=Mi _ hx1 rfl;have hgd:((s.heap.push {cls:=.type "dict",data:=.dict #[]}).update x fun o=>{cls:=o.cls,dict:=some s.heap.objs.size,data:=o.data,slots:=o.slots}).get? s.heap.objs.size=some {cls:=.type "dict",data:=.dict #[]}:=(TU _ _ _ _ xs.symm).trans (Heap.get?_push_at rfl rfl);have hnd:((s.heap.push {cls:=.type "dict",data:=.dict #[]}).update x fun o=>{cls:=o.cls,dict:=some s.heap.objs.size,data:=o.data,slots:=o.slots}).Ns s.heap.objs.size (fun _=>none):=⟨_,#[],_,hgd,rfl,fun e he=>absurd he (by simp),fun _=>rfl⟩
 refine K8 (wpAny_alloc' (K8 (wpAny_update' hx1 (Le (a:=some s.heap.objs.size) ?_))));refine K8 (Le (K8 (wpAny_nsSet1 (UH hnd) fun h' hn' hs=>?_)));obtain⟨oD,esD,epD,hoD,hdD,hcD⟩:=hn'.count (UG name v R5.nil);refine K8 (wpAny_lookBehind hoD (by rw[hdD];exact pastItsLine_dict (Mh hcD (by rw[L0,QG,Nl];lia))) ?_);exact Le (h _ _ hn' ((hs.2 x xs).trans Y7) fun b o nb hb=>(hs.2 b (Lh (Lm hb))).trans ((TU _ _ _ _ nb).trans (K9 _ hb)))
end
abbrev Ew:List K_:=[.type "ValueError",.type "Exception",.type "BaseException",.type "object"]
structure ExcI (K:Frag) (mg:Str->Option K_) (x:Str) (C f:Addr):Prop where
 at_:mg x=some (.ref C)
 sh:∃tl N nm q bs hdct sn sub ab col dd k0 k1 k2 k3 k5,K.lookup C=some (excClassObj nm q C N bs tl hdct sn sub ab col dd k0 k1 k2 k3 k5 "ValueError.__new__")/\∀h:Heap,K.In h->TJ h Ew tl
 fi:findIn K (.ref C) "__init__"=some (some (.ref f))
 fn:isFn K (.ref f)=true
 kp:keepIn K (.ref C)=true
theorem ExcI.ob{K:Frag}(i:ExcI K mg x C f):Dy K C:=fun h X=>by
 obtain⟨tl,N,nm,q,bs,hdct,sn,sub,ab,col,dd,k0,k1,k2,k3,k5,l,_⟩:=i.sh;exact⟨tl,N,nm,q,bs,hdct,sn,sub,ab,col,dd,k0,k1,k2,k3,k5,_,X _ _ l⟩
def fL(e C:Addr)(d:Option Addr):HO:=.ext fun h=>∃t,h.get? e=some (db C t d)
theorem uF{h:Heap}{e:Addr}(he:h.get? e=some (db C t d)):ci P w H h e (fL e C d) :=
 ⟨⟨t,he⟩,⟨_,he⟩,fun _ _ ⟨t,h1⟩ k=>⟨t,k _ h1⟩⟩
def A_(H:Hp)(e:Addr):Hp:=fun b=>if b=e then none else H b
theorem De:A_ H e e=none:=by unfold A_;rw[if_pos rfl]
theorem ia{e b:Addr}(h:b≠e):A_ H e b=H b:=by unfold A_;rw[if_neg h]
section
variable{X:Cx}{pins:List (Addr×Obj)}{σ:St}{H:Hp}{s:Lf}
theorem pi{E:XK}(I:Inv X pins σ H s)(o:iY X)(hx:H e=some (fL e C d))(h0:X.s₀.heap.get? e=none)(hE:E (.ref C) d (A_ H e)) :
  wpAny M X.A (leaving X.env (.ref e)) (fun _ XG=>fU X.prog X.w X.outer X.H₀ X.s₀ E (.ref e) XG) E' s:=by
 obtain⟨t,he⟩:=(I.hok e _ hx).1;have FF:s.heap.FunFrames X.base (X.env :: X.outer):=o.stk ▸ I.stack;have WV:X.A.frames=some (X.env :: X.outer):=o.stk ▸ I.ok.frames;have eqf:(X.env :: X.outer).filterMap (·.frame)=L2.frs X.stack:=by rw[o.stk];rfl
 have Y2:∀env∈(X.env :: X.outer),∀b,env.frame=some b->b∈e :: (X.env :: X.outer).filterMap (·.frame):=fun env he b hb=>Ly _ (M9.mpr ⟨env,he,hb⟩)
 have nox:∀b:Addr,b∉X.ex:=fun b z=>by rw[o.exs] at z;cases z
 have Xr:∀{b:Addr} {ob:Obj},s.heap.get? b=some ob->b≠e->b∉L2.frs X.stack->(hideAll s.heap (e :: (X.env :: X.outer).filterMap (·.frame))).get? b=some ob:=fun {b ob} q n1 n2=>hideAll_get _ q (fun z=>by rcases Lj.mp z with z|z;exact n1 z;rw[eqf] at z;exact n2 z)
 have ne0:∀{b:Addr} {ob:Obj},X.s₀.heap.get? b=some ob->b≠e:=fun q z=>by rw[z,h0] at q;cases q
 refine i_ (φ:=fun o=>o.dict=d) (base:=hideAll s.heap (e :: (X.env :: X.outer).filterMap (·.frame))) (h:=s.heap) jv rfl WV (funFrames_hide FF Y2) o.frm he (fun b ob q=>of_hideAll _ q) (hideAll_none _ Lz) rfl rfl rfl fun h' fl up=>?_
 refine⟨e,C,_,_,A_ H e,d,rfl,fl,⟨fun a ob q=>?_,fun b ob q n hb=>?_,fun b ob q n hb=>?_,fun b ob q n=>?_,fun b ob q hb=>?_,fun b xs q=>?_,fun b ob u q=>?_,fun b ps q=>?_⟩,I.os,I.bare,hE⟩
 ·have na:a≠e:=fun z=>by rw[z,De] at q;cases q
  rw[ia na] at q;refine(I.hok a ob q).stay (fun b u hb g=>Xr g (fun z=>?_) fun z=>?_) (fun b z=>?_) fun b xs z=>?_
  ·subst z;rcases hb with hb|hb
   ·exact na hb.symm
   ·rw[hx] at hb;cases hb
  ·have fz:=I.jO b z;rcases hb with hb|hb
   ·rw[hb,q] at fz;cases fz
   ·rw[hb] at fz;cases fz
  ·rw[ia (fun w=>by rw[w,hx] at z;cases z)];exact z
  ·rw[ia (fun w=>by rw[w,hx] at z;cases z)];exact z
 ·exact Xr (I.base.keep b ob q n hb (nox b)) (ne0 q) (I.iK o q hb)
 ·obtain⟨sl,e1⟩:=I.base.slot b ob q n hb (nox b);obtain⟨XO,e2⟩:=up b _ e1 (fun vs=>I.kN hb e1 vs);exact⟨XO,e2⟩
 ·rw[ia (ne0 q)];exact I.base.free b ob q n (nox b)
 ·obtain⟨o',e1⟩:=I.base.there b ob q (nox b);exact⟨o',Xr e1 (ne0 q) (I.iK o q hb)⟩
 ·have z:=I.base.tups b xs q;rw[ia (fun w=>by rw[w,hx] at z;cases z)];exact z
 ·have z:=I.base.frzs b ob u q;rw[ia (fun w=>by rw[w,hx] at z;cases z)];exact z
 ·obtain⟨m,z⟩:=I.base.tbls b ps q;exact⟨m,by rw[ia (fun w=>by rw[w,hx] at z;cases z)];exact z⟩
end
section
variable{M:Model}{A:L4}{E:K_->Lf->Prop}{env:Env}{s:Lf}{Q:Flow->Lf->Prop}
theorem B1{K:Frag}   (hb:Dy K C) (XU:mroIn K C (.type "BaseException")=some true) (hh:A.handled=none)
  (h:wpAny M A x (fun v s1=>∃e t d,v=.ref e/\K.In s1.heap/\s1.heap.get? e=some (db C t d)/\E (.ref e) s1) E s):wpAny M A (raiseStmt env (some x) none) Q E s:=by
 unfold raiseStmt;refine K8 (L6 h (fun v s1 h1=>?_) fun _ _ x=>x);obtain⟨e,t,d,rfl,X,he,hE⟩:=h1;obtain⟨tl,N,nm,q,bs,hdct,sn,sub,ab,col,dd,k0,k1,k2,k3,k5,nw,hC⟩:=hb _ X;obtain⟨cd,ce,cm⟩:=PR.mp XU
 have hcB:(LH C :: tl).contains (.type "BaseException")=true:=by
  unfold clsIn at ce;split at ce
  ·rename_i c1 d1 cd1 s2 lk;cases ce;have z:=(X _ _ lk).symm.trans hC;unfold excClassObj at z;cases z;split at cm
   ·cases cm
   ·exact LF cm
  ·cases ce
 obtain⟨hp,g,dr,tk,os⟩:=s1;have he':hp.get? e=some {cls:=.ref C,dict:=d,data:=.fields #[.ref t,.none,.none,.none,.bool false,.none]}:=he
 repeat (first|with_reducible refine ND he' ?_|with_reducible refine ND hC ?_|(with_reducible refine Pr hC ?_;rw[hcB])|wp_step)
 exact wpAny_raiseNew_none hh hE
end
def jJ(E:XK)(C:Addr)(sp:Sp)(te:TE):TS:=fun _ σ H=>te σ H fun x H1=>∀e,H1 e=none->sp [.ref e,x] (upd H1 e (fL e C none)) (fun r H2=>r=.non/\∃d,H2 e=some (fL e C d)/\E (.ref C) d (A_ H2 e)) E0
theorem yX{V9 pos:Pos}  {te:TE} (l:Lv X E) (hc:X.calm=true) (hg:Gl X x) (c:ExcI X.K X.mg x C f) (XU:mroIn X.K C (.type "BaseException")=some true)
  (Fk:FnOk X.prog X.w X.K X.mg X.base b9 k f fd ps sp) (hr:Room (k+1) X.A) (hb:Binds X.K fd ps []) (hps:ps.length=2) (he:PE X e₀ te)
  (hst:starEach [e₀] X.env=[(false,eval e₀ X.env)]:=by rfl) (hdb:(x == ("__debug__":Str))=false:=by decide) :
  PS X (.Raise (some (.Call (.Name x np) [e₀] [] V9)) none pos) (jJ E C sp te):=by
 intro pins s σ H D I h;rw[arm_exec_Raise];simp only[evalOpt,VU];refine K8 (Pw (B1 (K:=X.K) c.ob XU (I.ok.hd hc) (K8 (L6 (Q:=fun v s1=>∃e t d,v=.ref e/\X.K.In s1.heap/\s1.heap.get? e=some (db C t d)/\X.xe (.ref e) s1) ?_ (fun v s3 h3=>K8 (Pw (Le h3))) fun _ _ z=>z))));refine MX (fB I hg c.at_ ?_ hdb);refine callWith_K (h₀:=X.base) I.ok.mod.kin c.kp (bp ((ac he ah (by rw[hst];rfl)) V9 pins s σ H (fun vs H1=>∀e,H1 e=none->sp (.ref e :: vs) (upd H1 e (fL e C none)) (fun r H2=>r=.non/\∃d,H2 e=some (fL e C d)/\E (.ref C) d (A_ H2 e)) E0) I h) fun us s1 ⟨vs,H1,I1,r,q⟩=>⟨I1.kIn,?_⟩) (by rw[hst];rfl) rfl;have hq:=q (s1.heap.objs.size+1) (I1.hok.fresh (Op _));have X1:=I1.kIn;obtain⟨tl,N,nm,qn,bs,hdct,sn,sub,ab,col,dd,k0,k1,k2,k3,k5,lk,ht⟩:=c.sh;obtain⟨oI,lI,cI⟩:=Ln.mp (beq_iff_eq.mp c.fn);have lenv:=Fk.len _ _ _ _ hq;rw[hps] at lenv;have lenu:us.length=1:=by rw[<- r.length];exact MP lenv
 obtain⟨hh,g,dr,tk,os⟩:=s1;have up:∀b o,hh.get? b=some o->((hh.push {cls:=.type "tuple",data:=.seq us.toArray}).push (db C hh.objs.size none)).get? b=some o:=fun b o z=>K9 _ (K9 _ z)
 have got:((hh.push {cls:=.type "tuple",data:=.seq us.toArray}).push (db C hh.objs.size none)).get? (hh.objs.size+1)=some (db C hh.objs.size none):=by heap_get
 have I2:Inv X pins σ (upd H1 (hh.objs.size+1) (fL (hh.objs.size+1) C none)) ⟨(hh.push {cls:=.type "tuple",data:=.seq us.toArray}).push (db C hh.objs.size none),g,dr,tk,os⟩ :=
  I1.laid (a:=hh.objs.size+1) (t':=tk) up (Op _) (uF got)
 have r2:Vals (V.ref (hh.objs.size+1) :: vs) (LH (hh.objs.size+1) :: us):=.cons rfl r;have hl:(LH (hh.objs.size+1) :: us++[]).length=ps.length:=by rw[Nb,hps,L0,lenu]
 refine Dj SZ (ht _ X1) X1 (X1 _ _ lk) c.fi (X1 _ _ lI) cI ?_ (by rw[PC,lenu];decide);have bd:=hb _ (LH (hh.objs.size+1) :: us) I2.kIn hl;rw[Nb] at bd;refine Qk (OO (Fk.run _ X.stack _ _ ⟨LH (hh.objs.size+1) :: us,[]⟩ (LH (hh.objs.size+1) :: us) _ _ E0 (hr.make C us []) (I2.env0.make C us []) bd r2 hq) fun rr s' XY=>?_);have s0:X.s₀.heap.get? (hh.objs.size+1)=none:=Qx (Mh I1.sz (Op _));cases rr with
 |error e=>exact XY.elim
 |ok fl =>
  cases fl with
  |ret u =>
   obtain⟨v,H',I3,rv,ev,dx,e3,q3⟩:=I2.after XY;subst ev;obtain⟨t3,g3⟩:=(I3.hok _ _ e3).1;exact⟨rv,_,t3,dx,rfl,I3.kIn,g3,l.2 _ _ (pi I3 l.1 e3 s0 q3)⟩
  |next=>exact M7 XY
  |brk=>exact M7 XY
  |cont=>exact M7 XY
def sA (K:Frag) (C:Addr):Prop:=∃tl N nm q bs hdct sn sub ab col dd k0 k1 k2 k3 k5,K.lookup C=some (excClassObj nm q C N bs tl hdct sn sub ab col dd k0 k1 k2 k3 k5 "ValueError.__new__")/\∀h:Heap,K.In h->TJ h Ew tl
theorem ExcI.shape{K:Frag}(i:ExcI K mg x C f):sA K C:=by
 obtain⟨tl,N,nm,q,bs,hdct,sn,sub,ab,col,dd,k0,k1,k2,k3,k5,l,t⟩:=i.sh;exact⟨tl,N,nm,q,bs,hdct,sn,sub,ab,col,dd,k0,k1,k2,k3,k5,l,t⟩
theorem Bp{K:Frag}{V:Addr}{cd cv:Ql}{sub:List K_}(xV:excIn K V Ew nw=true)(dV:clsIn K V=some cv)(mV:cv.mro=[.ref V]++Ew)
  (L:K.lookup C=some (excClassObj nm q C N bs tl hdct sn sub ab col dd k0 k1 k2 k3 k5 n2)) (dC:clsIn K C=some cd) (mC:cd.mro=[.ref C,.ref V]++Ew) (h:Heap) (X:K.In h):TJ h Ew tl:=by
 have e1:tl=.ref V :: Ew:=by
  unfold clsIn at dC;rw[L] at dC;unfold excClassObj at dC;cases dC;exact(Nc mC).2
 obtain⟨tV,NV,_,_,_,_,_,_,_,_,_,_,_,_,_,_,mN,hV,hn,hi,T⟩:=pP X xV
 have e2:tV=Ew:=by
  unfold clsIn at dV;split at dV
  ·rename_i c1 d1 cd1 s1 lk;cases dV;have z:=(X _ _ lk).symm.trans hV;unfold excClassObj at z;cases z;exact(Nc mV).2
  ·cases dV
 rw[e1];rw[e2] at hV T;exact .own hV hn hi T
structure Jh (K:Frag) (mg:Str->Option K_) (v:Str) (V:Addr):Prop where
 at_:mg v=some (.ref V)
 sg:specialIn K (.ref V) "__getattribute__"=some (some (.builtin "type.__getattribute__"))
 rd:readsIn K V (.type "type")=true
 fc:findCls K (.ref V) (.type "type") "__init__"=some (.val (.builtin "ValueError.__init__"))
def x6(K:Frag)(t:TA):TE:=fun σ H Q=>t σ H fun vs H2=>∃e C d y,vs=[.ref e,y]/\H2 e=some (fL e C d)/\sA K C/\Q .non H2
section
variable{X:Cx}{o a value:Expr}{es:List Expr}{ta tv:TE}{t:TA}{f v:Str}{V:Addr}{vp apos pos pos':Pos}
theorem Cp{pl:Sem Bool} (hg:Gl X v) (B:Jh X.K X.mg v V) (ha:PA X (a :: es) t) (hdb:(v == ("__debug__":Str))=false:=by decide)
  (hst:starEach (a :: es) X.env=(false,eval a X.env) :: starEach es X.env:=by rfl) (W5:(backTo pos (starEach es X.env)).any (·.1)=false:=by rfl)
  (ht:eval (.Call (.Attribute (.Name v vp) "__init__" apos) (a :: es) [] pos) X.env=(do
   let ov <- eval (.Name v vp) X.env
   standAt apos.atName
   let (f,first) <- holding [ov] (getMethod ov "__init__" pl)
   callWith pos f first (backTo pos (starEach (a :: es) X.env)) (backToKw pos (keywordEach [] X.env))):=by rfl) :
  PE X (.Call (.Attribute (.Name v vp) "__init__" apos) (a :: es) [] pos) (x6 X.K t):=by
 intro pins s σ H Q I h;refine methodCall_KW (pl:=pl) (fB I hg B.at_ (method_cls I.kIn B.sg (cls_value I.kIn B.rd B.fc (by decide +kernel) ?_)) hdb) ht;refine NL (bp (ha pos pins {s with toks:=s.toks+1} σ H _ (I.tok _) h) fun us s2 ⟨vs,H2,I2,r,e,C,d,y,hv,he,hS,q⟩=>?_) hst W5;subst hv;obtain⟨u,u2,rfl,rx,_⟩:=vals2 r;obtain rfl:u=LH e:=rx;obtain⟨tl,N,nm,qn,bs,hdct,sn,sub,ab,col,dd,k0,k1,k2,k3,k5,lk,ht'⟩:=hS;obtain⟨t0,g⟩:=(I2.hok e _ he).1;obtain⟨hh,gs,dr,tk,os⟩:=s2;refine AV (rest:=[u2]) SZ (ht' _ I2.kIn) (I2.kIn _ _ lk) g (fun h' t1 kp gx=>?_) (show 1<=sizeLine by decide);have I3:Inv X pins σ (upd H2 e (fL e C d)) ⟨h',gs,dr,tk,os⟩:=I2.write (x:=e) (e:=e) (t':=tk) (by rw[he];exact NK) (.inl rfl) kp ⟨_,gx⟩ (uF gx)
 have eH:upd H2 e (fL e C d)=H2:=funext fun b=>by
  by_cases z:b=e
  ·rw[z,am,he]
  ·rw[aC z]
 rw[eH] at I3;exact⟨.non,H2,I3,rfl,q⟩
def Hc(K:Frag)(ta tv:TE)(f:Str):TS:=fun D σ H=>tv σ H fun y H1=>ta σ H1 fun x H2=>∃e C,x=.ref e/\H2 e=some (fL e C none)/\sB K C f/\∀dx,H2 dx=none->D.nx σ (upd (upd H2 dx (.xd [(f,y)])) e (fL e C (some dx)))
theorem Fu(ha:PE X o ta)(hv:PE X value tv)(hs:swapsWith value (some (.Attribute o f pos')) pos.line X.env=pure false):PS X (.Assign [.Attribute o f pos'] value pos) (Hc X.K ta tv f):=by
 intro pins s σ H D I h;refine Qd (bp (hv pins s σ H _ I h) fun u s1 ⟨y,H1,I1,ry,q⟩=>bp (ha pins s1 σ H1 _ I1 q) fun ov s2 ⟨x,H2,I2,rx,e,C,ex,he,F,q2⟩=>?_) hs;subst ex;obtain rfl:ov=LH e:=rx;obtain⟨t,g⟩:=(I2.hok e _ he).1;refine Az I2.kIn g F fun h' tk n gx kp=>?_
 have fr:H2 s2.heap.objs.size=none:=I2.hok.fresh (Lg _);have ne:e≠s2.heap.objs.size:=Lh (Lm g)
 have hxd:∀H',ci X.prog X.w H' h' s2.heap.objs.size (.xd [(f,y)]):=fun H'=>by
  refine⟨_,n,fun k=>?_⟩;by_cases z:k=f
  ·subst z;simp only[OK,BEq.rfl,if_pos];exact ry
  ·have zb:(k == f)=false:=beq_eq_false_iff_ne.mpr z;simp only[OK,zb,if_neg z];exact NK
 have I3:Inv X pins σ (upd H2 e (fL e C (some s2.heap.objs.size))) {s2 with heap:=h',toks:=tk}:=I2.write (x:=e) (e:=e) (t':=tk) (by rw[he];exact NK) (.inl rfl) kp ⟨_,gx⟩ (uF gx)
 have I4:=I3.track (e:=s2.heap.objs.size) (o:=.xd [(f,y)]) (by rw[aC (MO ne)];exact fr) (Qx I2.sz) (Mo I2.lt)
  (fun x c z=>by obtain⟨v',ob,ho,_⟩:=I2.cell x c z;exact Lh (Lm ho)) (fun p hp=>Lh (Lm (I2.pin p hp).1)) (hxd _)
 refine⟨σ,_,I4,?_⟩
 have sw:upd (upd H2 e (fL e C (some s2.heap.objs.size))) s2.heap.objs.size (.xd [(f,y)])=upd (upd H2 s2.heap.objs.size (.xd [(f,y)])) e (fL e C (some s2.heap.objs.size)):=funext fun b=>by
  unfold upd;by_cases z:b=e
  ·rw[if_pos z,if_neg (fun w=>ne (z.symm.trans w)),if_pos z]
  ·rw[if_neg z,if_neg z]
 rw[sw];exact q2 _ fr
end
structure GN (P:LA) (w:LL) (K:Frag) (mg:Str->Option K_) (base:Heap) (k:Nat) (x:Str) (C:Addr) (sp:Sp):Prop where
 ex:∃(f:Addr) (fd:N2) (ps:List Str),ExcI K mg x C f/\mroIn K C (.type "BaseException")=some true/\FnOk P w K mg base b9 k f fd ps sp/\Binds K fd ps []/\ps.length=2
theorem yY{V9 pos:Pos}{te:TE}(l:Lv X E)(hc:X.calm=true)(hg:Gl X x)(i:GN X.prog X.w X.K X.mg X.base k x C sp)(hr:Room (k+1) X.A)(he:PE X e₀ te)
  (hst:starEach [e₀] X.env=[(false,eval e₀ X.env)]:=by rfl) (hdb:(x == ("__debug__":Str))=false:=by decide) :
  PS X (.Raise (some (.Call (.Name x np) [e₀] [] V9)) none pos) (jJ E C sp te):=by
 obtain⟨f,fd,ps,c,be,Fk,hb,hp⟩:=i.ex;exact yX l hc hg c be Fk hr hb hp he hst hdb
def qm(K:Frag)(C:Addr)(f:Str):Sp:=fun vs H Q _=>∃(e:Addr) (n:Nat),vs=[.ref e,.int (n:Int)]/\n<1000/\H e=some (fL e C none)/\sA K C/\sB K C f/\∀dx,H dx=none->Q .non (upd (upd H dx (.xd [(f,.int (n:Int))])) e (fL e C (some dx)))
theorem FW{K:Frag}{a b:Str}(h:qm K C f vs H Q E):vs.length=[a,b].length:=by
 obtain⟨e,y,rfl,_⟩:=h;rfl
theorem CL{K:Frag}{E:XK}{i:Nat}{D:cq}{σ:St}{n:Nat}(s:sA K C)(a:sB K C f)(hv:σ[i]?=some (some (.int (n:Int))))(hn:n<1000)
  (k:∀dx H',Same H H'->H' dx=some (.xd [(f,.int (n:Int))])->E (.ref C) (some dx) H'):jJ E C (qm K C f) (ae i) D σ H:=by
 refine⟨_,hv,fun e he=>⟨e,n,rfl,hn,am,s,a,fun dx X7=>⟨rfl,some dx,am,k dx _ ?_ ?_⟩⟩⟩
 ·have ne:dx≠e:=fun z=>by rw[z,am] at X7;cases X7
  have hd1:H dx=none:=by rw[aC ne] at X7;exact X7
  intro b o q;have nb:b≠e:=fun z=>by rw[z,he] at q;cases q
  have nd:b≠dx:=fun z=>by rw[z,hd1] at q;cases q
  rw[ia nb,aC nb,aC nd,aC nb];exact q
 ·have ne:dx≠e:=fun z=>by rw[z,am] at X7;cases X7
  rw[ia ne,aC ne,am]
theorem Fun.iniC{K:Frag}         (c:ExcI K mg x C f) (be:mroIn K C (.type "BaseException")=some true) (F:FnOk P w K mg base b9 k f fd ps sp) (b:Binds K fd ps []) (l:ps.length=2):GN P w K mg base k x C sp:=⟨⟨f,fd,ps,c,be,F,b,l⟩⟩
open PySem.W (Dat kqdP kqdPs kqdOk)
mutual
inductive Rep (K:Fg) (H:Hp):V->Dat->Prop
 |non:Rep K H .non .none
 |bl (b:Bool):Rep K H (.bl b) (.bool b)
 |int (i:Int):Rep K H (.int i) (.int i)
 |str (x:Str):Rep K H (.str x) (.str x)
 |tup {a:Addr} {xs:List V} {ds:List Dat}:SqT K H a xs->RepL K H xs ds->Rep K H (.ref a) (.tuple ds)
 |lst {a:Addr} {xs:List V} {ds:List Dat}:SqL K H a xs->RepL K H xs ds->Rep K H (.ref a) (.list ds)
inductive RepL (K:Fg) (H:Hp):List V->List Dat->Prop
 |nil:RepL K H [] []
 |cons {v:V} {d:Dat} {vs:List V} {ds:List Dat}:Rep K H v d->RepL K H vs ds->RepL K H (v :: vs) (d :: ds)
end
section
variable{K:Fg}{H H':Hp}
theorem RepL.length:∀{vs:List V} {ds:List Dat},RepL K H vs ds->vs.length=ds.length
 |_,_,.nil=>rfl
 |_,_,.cons _ r=>congrArg (· + 1) (RepL.length r)
theorem RepL.get:∀{vs:List V} {ds:List Dat} {i:Nat} {v:V},RepL K H vs ds->vs[i]?=some v->∃d,ds[i]?=some d/\Rep K H v d
 |_,_,_,_,.nil,e=>by simp at e
 |_,_,0,_,.cons h _,e=>by simp at e;subst e;exact⟨_,rfl,h⟩
 |_,_,i+1,v,.cons _ r,e=>by
  obtain⟨d,h1,h2⟩:=RepL.get (i:=i) (v:=v) r (by simpa using e);exact⟨d,by simpa using h1,h2⟩
end
section
variable{X:Cx}{pins:List (Addr×Obj)}{σ:St}{H:Hp}{s:Lf}
mutual
theorem Rep.reads(I:Inv X pins σ H s):∀{v:V} {d:Dat} {u:K_},Rep X.K H v d->RelV v u->∃as,Os s.heap u (kqdP d) as
 |_,_,u,.non,r=>by
  cases (show u=Ms from r);exact⟨_,Os.none⟩
 |_,_,u,.bl b,r=>by
  cases (show u=Q0 b from r);exact⟨_,Os.bool b⟩
 |_,_,u,.int i,r=>by
  obtain⟨t,e⟩:=(show ∃t,u=RK i t from r)
  cases e;exact⟨_,Os.int i t⟩
 |_,_,u,.str x,r=>by
  obtain⟨t,e⟩:=(show ∃t,u=QY x t from r)
  cases e;exact⟨_,Os.str x t⟩
 |_,_,u,@Rep.tup _ _ a xs ds h q,r=>by
  cases (show u=LH a from r);obtain⟨fm,rv,⟨o,e,c,n,dd⟩,_⟩:=I.tuple h;obtain⟨as,p⟩:=RepL.reads I q rv;rw[kqdP];exact⟨_,Os.tuple e c dd (by simpa using p)⟩
 |_,_,u,@Rep.lst _ _ a xs ds h q,r=>by
  cases (show u=LH a from r);obtain⟨fm,rv,⟨o,n,e,c,_,dd⟩,_⟩:=I.list h;obtain⟨as,p⟩:=RepL.reads I q rv;rw[kqdP];exact⟨_,Os.list e c dd (by simpa using p)⟩
theorem RepL.reads(I:Inv X pins σ H s):∀{vs:List V} {ds:List Dat} {us:List K_},RepL X.K H vs ds->Vals vs us->∃as,S_ s.heap us (kqdPs ds) as
 |_,_,_,.nil,.nil=>by
  rw[kqdPs];exact⟨_,S_.nil⟩
 |_,_,_,.cons h q,.cons r rr=>by
  obtain⟨as,p⟩:=Rep.reads I h r;obtain⟨bs,p'⟩:=RepL.reads I q rr;rw[kqdPs];exact⟨_,S_.cons p p'⟩
end
open Classical in
theorem uG(hd:kqdOk 8 d=true)(he:kqdOk 8 e=true):Qm (kqdP d) (kqdP e)=decide (d=e):=by
 have q:=Sx 8 d e 8 hd he;by_cases z:d=e
 ·rw[decide_eq_true z];exact q.mpr z
 ·rw[decide_eq_false z];exact Rr.mpr fun y=>z (q.mp y)
theorem gR(h:kqdOk 8 d=true):SeqAt.shaped (kqdP d)=true:=by
 have l:=Nd 8 d h;unfold SeqAt.shaped;rw[l.1,N7];exact decide_eq_true (Mh l.2 (by decide))
open Classical in
def ua(K:Fg):R2:=fun x y H Q=>∃d e,Rep K H x d/\Rep K H y e/\kqdOk 8 d=true/\kqdOk 8 e=true/\Q (.bl (decide (d=e))) H
open Classical in
def yS(K:Fg):R2:=fun x y H Q=>∃d e,Rep K H x d/\Rep K H y e/\kqdOk 8 d=true/\kqdOk 8 e=true/\Q (.bl (!decide (d=e))) H
theorem qY(hu:X.A.units+64<cLine):fq X (compareOp .Eq) (ua X.K):=by
 intro pins s σ H x y v u Q I rx ry h;obtain⟨d,e,hd,he,kd,ke,q⟩:=h;obtain⟨as,ra⟩:=Rep.reads I hd rx;obtain⟨bs,rb⟩:=Rep.reads I he ry;exact eq_dataH ra rb (gR kd) (gR ke) hu ⟨_,H,I,(by rw[uG kd ke];rfl),q⟩
theorem zl(hu:X.A.units+64<cLine):fq X (compareOp .NotEq) (yS X.K):=by
 intro pins s σ H x y v u Q I rx ry h;obtain⟨d,e,hd,he,kd,ke,q⟩:=h;obtain⟨as,ra⟩:=Rep.reads I hd rx;obtain⟨bs,rb⟩:=Rep.reads I he ry;exact ne_dataH ra rb (gR kd) (gR ke) hu ⟨_,H,I,(by rw[uG kd ke];rfl),q⟩
open Classical in
theorem pU{ds:List Dat}(ha:∀e∈ds,kqdOk 8 e=true)(hd:kqdOk 8 d=true):((kqdPs ds).any fun y=>Qm y (kqdP d))=decide (d∈ds):=by
 by_cases z:d∈ds
 ·rw[decide_eq_true z];exact(VJ ds d ha hd).mpr z
 ·rw[decide_eq_false z];exact Rr.mpr fun y=>z ((VJ ds d ha hd).mp y)
open Classical in
def qM(K:Fg)(neg:Bool):R2:=fun x y H Q=>∃d ds,Rep K H x d/\Rep K H y (.list ds)/\(∀e∈ds,kqdOk 8 e=true)/\kqdOk 8 d=true/\Q (.bl (if neg then !decide (d∈ds) else decide (d∈ds))) H
theorem uD{A:L4}(hd:kqdOk 8 d=true)(hu:A.units+64<cLine):A.units+1+min (QH (kqdPs ds)) (kqdP d).depth<cLine:=by
 have l:=(Nd 8 d hd).2
 have:=Pi (QH (kqdPs ds)) (kqdP d).depth
 lia
theorem Hz(hu:X.A.units+64<cLine):fq X (compareOp .In) (qM X.K false):=by
 intro pins s σ H x y v u Q I rx ry h;obtain⟨d,ds,hd,he,ka,kd,q⟩:=h;obtain⟨as,ra⟩:=Rep.reads I hd rx;obtain⟨bs,rb⟩:=Rep.reads I he ry;rw[kqdP] at rb;exact SeqAt.in_list_reads rb ra (Pj ka).1 (Nd 8 d kd).1 (uD kd hu) ⟨_,H,I,(by rw[pU ka kd];rfl),q⟩
theorem qX(hu:X.A.units+64<cLine):fq X (compareOp .NotIn) (qM X.K true):=by
 intro pins s σ H x y v u Q I rx ry h;obtain⟨d,ds,hd,he,ka,kd,q⟩:=h;obtain⟨as,ra⟩:=Rep.reads I hd rx;obtain⟨bs,rb⟩:=Rep.reads I he ry;rw[kqdP] at rb;exact SeqAt.notIn_list_reads rb ra (Pj ka).1 (Nd 8 d kd).1 (uD kd hu) ⟨_,H,I,(by rw[pU ka kd];rfl),q⟩
end
def bD(X:Cx)(ys M:List Str)(scope:Scope)(cl:List (Str×Addr))(C:Addr)(s:Lf)(H:Hp)(fp:List Addr)(pins:List (Addr×Obj)):Cx where
 prog:=X.prog
 w:=X.w
 K:=X.K
 mg:=X.mg
 base:=X.base
 A:=X.A
 N:=ys++M
 s₀:=s
 H₀:=H
 env:=compEnvC scope cl C X.env
 outer:=X.stack
 stack:=X.stack
 ex:=fp
 fn:=fun _=>false
 calm:=X.calm
 pn:=X.pn++pins
 xe:=fun _ _=>False
structure mR (X:Cx) (ys M:List Str) (scope:Scope) (cl:List (Str×Addr)):Prop where
 kind:scope.kind=.function
 nocell:∀y∈scope.names,y.2≠.cell
 names:∀y∈scope.names,y.2=.local->scope.names.lookup y.1=some .local
 own:∀y∈ys,scope.names.lookup y=some .local
 clos:closureFor scope X.env=pure cl
 nd:(ys++M).Nodup
 len:M.length=X.N.length
 same:∀p∈M.zip X.N,p.1=p.2\/(relabel scope X.env).names.lookup p.1=none
 apart:∀y∈M,(relabel scope X.env).names.lookup y≠some .local
 cells:∀y c,cl.lookup y=some c->X.env.cells.lookup y=some c/\(X.env.scope.names.lookup y=some .cell\/X.env.scope.names.lookup y=some .free)
 has:∀y,((relabel scope X.env).names.lookup y=some .cell\/(relabel scope X.env).names.lookup y=some .free)->∃c,cl.lookup y=some c
section
variable{X:Cx}{ys M:List Str}{scope:Scope}{cl:List (Str×Addr)}{C:Addr}{s:Lf}{H:Hp}{fp:List Addr}{pins:List (Addr×Obj)}{σ:St}
theorem vK{h1:Heap}{tk:Nat}(I:Inv X pins σ H s)(c:mR X ys M scope cl)(eC:C=s.heap.objs.size)(X_:h1.Ns C (fun _=>none))(Yp:Oo C (s.heap.push o) h1)
  (fk:∀b∈fp,ft X pins H b/\∃o,s.heap.get? b=some o):Inv (bD X ys M scope cl C s H fp pins) [] (LI ys.length none ++ σ) H {s with heap:=h1,toks:=tk}:=by
 have keep:∀b u,s.heap.get? b=some u->h1.get? b=some u:=fun b u e=>Yp.extBut b u (by rw[eC];exact Lh (Lm e)) (K9 _ e)
 have Y_:∀b u,s.heap.get? b=some u->b≠C:=fun b u e=>by rw[eC];exact Lh (Lm e)
 have out:∀{b:Addr},b≠X.env.locals->b∉X.fs->b∉frs X.stack:=fun h1 h2 z=>(Lj.mp (I.x_ _ z)).elim h1 h2
 refine⟨⟨I.ok.mod,c.kind,I.ok.glob,I.ok.blt,by rw[eC];exact Lg _,fun y z a h1 h2=>I.ok.inj y z a (c.cells y a h1).1 (c.cells z a h2).1,c.has,fun y a z _=>Vj z,I.ok.hd,I.ok.frames,.inl rfl,fun b hb=>?_,I.bs,Mh I.ok.bsz I.sz,fun b u e hb=>?_,fun b hb=>?_,I.stack,I.jO⟩,
  rfl,I.bare,Un.kept keep,⟨_,X_,fun i y v e1 e2 e3=>?_⟩,fun y a e=>?_,I.hok.fresh (by rw[eC];exact Lg _),fun y a e=>I.freeC y a (c.cells y a e).1,fun p hp=>?_,I.hok.kept keep,?_⟩
 ·obtain⟨⟨_,_,_,_,f5,_⟩,u,e⟩:=fk b hb;exact⟨Y_ b u e,fun y a q=>f5 y a (c.cells y a q).1⟩
 ·obtain⟨⟨_,_,_,f4,_,_⟩,_⟩:=fk b hb;rcases f4 with z|z
  ·exact I.ok.noex b u e z
  ·exact absurd (LR (Lm (I.ok.bs b u e).1) z) (Oy _)
 ·obtain⟨⟨_,f2,f3,_,_,_⟩,_⟩:=fk b hb;exact out f2 f3
 ·by_cases lt:i<ys.length
  ·have Zo:(LI ys.length (none:Option V) ++ σ)[i]?=some (some v):=e2;rw[Mf (by simpa using lt),List.getElem?_replicate_of_lt lt] at Zo;cases Zo
  ·have e0:M[i-ys.length]?=some y:=by
    have e1':(ys++M)[i]?=some y:=e1
    rwa [Ma (by lia)] at e1'
   have Zo:σ[i-ys.length]?=some (some v):=by
    have Zo:(LI ys.length (none:Option V) ++ σ)[i]?=some (some v):=e2
    rwa [Ma (by simpa using lt),MM] at Zo
   have hy:y∈M:=Ll e0
   have vis0:(relabel scope X.env).names.lookup y≠none:=by
    rcases e3 with z|z|z <;> (intro q;have q':=(show(relabel scope X.env).names.lookup y=some _ from z).symm.trans q;cases q')
   have e1':X.N[i-ys.length]?=some y:=by
    have Wm:i-ys.length<X.N.length:=by rw[<- c.len];exact(Ld.mp e0).1
    have hz:(y,X.N[i-ys.length])∈M.zip X.N:=by
     refine Ll (i:=i-ys.length) ?_;rw[MU];exact⟨e0,Lb Wm⟩
    rcases c.same _ hz with q|q
    ·rw[Lb Wm];exact congrArg some q.symm
    ·exact absurd q vis0
   have e3':(relabel scope X.env).names.lookup y=some .cell\/(relabel scope X.env).names.lookup y=some .free:=by
    rcases e3 with z|z|z
    ·exact absurd z (c.apart y hy)
    ·exact .inl z
    ·exact .inr z
   obtain⟨a,ea⟩:=c.has y e3';obtain⟨q1,q2⟩:=c.cells y a ea;obtain⟨m,_,hl⟩:=I.loc;have vis:Jt X.env.scope y:=.inr q2;obtain⟨u,ru,lu⟩:=hl (i-ys.length) y v e1' Zo vis;refine⟨u,ru,.inr ⟨e3',a,ea,?_⟩⟩;rcases lu with⟨z,_⟩|⟨_,a',ea',⟨oc,Zv,hd⟩⟩
   ·have z':X.env.scope.names.lookup y=some .local:=z;rcases q2 with q2|q2 <;> (rw[z'] at q2;cases q2)
   ·rw[q1] at ea';cases ea';exact⟨oc,keep _ _ Zv,hd⟩
 ·obtain⟨v,oc,Zv,hd⟩:=I.cell y a (c.cells y a e).1;exact⟨v,oc,keep _ _ Zv,hd⟩
 ·have hp':p∈X.pn++pins:=by simpa[bD] using hp
  obtain⟨q1,q2,q3,q4,q5⟩:=I.pin p hp';exact⟨keep _ _ q1,q2,Y_ _ _ q1,out q3 q4,q5⟩
 ·show(LI ys.length none ++ σ).length=(ys++M).length;rw[LQ,LQ,MM,I.len,c.len]
theorem mo(I:Inv X pins σ H s)(fk:∀b∈fp,ft X pins H b/\∃o,s.heap.get? b=some o)(I':Inv (bD X ys M scope cl C s H fp pins) X3 σ' H' s1):Inv X pins σ H' s1 :=
 I.call' (ch:=fp) I'.os I'.base I'.hok I'.bare fun b hb=>let ⟨⟨_,f2,_,f4,f5,f6⟩,_⟩:=fk b hb;⟨f4,f2,f5,f6⟩
def AZ(J:It)(n:Nat)(g:TG)(te:TE)(σ:St)(Q:VK)(H1:Hp):Prop:=∀D,H1 D=none->∃W:Nat->Nat->Hp->Prop,(∃m,W 0 m (upd H1 D (.lst [])))/\∀i m H,W i m H ->
 (J.stop i H/\Q (.ref D) H)\/(J.go i H/\∀v H',J.yld i H v H'->∀us:St,us.length=n->g v (us ++ σ) H' fun σ2 H2=>(∃Xk:St,Xk.length=n/\σ2=Xk ++ σ)/\te σ2 H2 fun y H3=>∃xs,H3 D=some (.lst xs)/\xs.length<sizeLine/\∃m',m'<m/\W (i+1) m' (upd H3 D (.lst (xs++[y]))))
def jK(wi:TI)(n:Nat)(g:TG)(te:TE):TE:=fun σ H Q=>wi σ H fun J H1=>AZ J n g te σ Q H1
def dS(J:It)(te:TE)(σ:St)(Q:VK)(H1:Hp):Prop:=∀D,H1 D=none->∃W:Nat->Nat->Hp->Prop,(∃m,W 0 m (upd H1 D (.lst [])))/\∀i m H,W i m H ->
 (J.stop i H/\Q (.ref D) H)\/(J.go i H/\∀v H',J.yld i H v H'->te (some v :: σ) H' fun y H2=>∃xs,H2 D=some (.lst xs)/\xs.length<sizeLine/\∃m',m'<m/\W (i+1) m' (upd H2 D (.lst (xs++[y]))))
def gr(wi:TI)(te:TE):TE:=fun σ H Q=>wi σ H fun J H1=>dS J te σ Q H1
theorem Dh{σ:St}{Q:VK}(h:dS J te σ Q H1):AZ J 1 (aH 0) te σ Q H1:=by
 intro D nD;obtain⟨W,h0,hs⟩:=h D nD;refine⟨W,h0,fun i m H w=>?_⟩;rcases hs i m H w with q|⟨go,st⟩
 ·exact .inl q
 ·refine .inr ⟨go,fun v H' y us hu=>?_⟩;obtain⟨u,rfl⟩:∃u,us=[u]:=Qa.mp hu;exact⟨⟨[some v],rfl,rfl⟩,st v H' y⟩
theorem AI{R:R6->Lf->Prop}{s:Lf}{iter:Expr}{scope:Scope}{pos:Pos}{acc:K_}(I:Nat->Lf->Prop)
  (turn:∀n s,I n s->wpAny (model prog w) A (pyNext it) (fun r s1=>match r with
   |none=>R (.ok .next) s1
   |some v=>wpAny (model prog w) A (letOwnedTupleGo target it v) (fun _ s2=>wpAny (model prog w) A (assign target env v) (fun _ s3=>wpAny (model prog w) A (eval elt env) (fun x s4 =>
     wpAny (model prog w) A (call (.builtin "list.append") [acc,x]) (fun _ s5=>∃m,m<n/\I m s5) (fun _ _=>False) s4) (fun _ _=>False) s3) (fun _ _=>False) s2) (fun _ _=>False) s1) (fun _ _=>False) s) (n:Nat) (h:I n s) :
  codeAny (model prog w) A (.compLoop (.ListComp elt [⟨target,iter,[],0⟩] scope pos) 0 it acc env) R s:=by
 refine codeAny_loop rfl I (fun k s1 hI=>?_) n h;have no:∀{α:Type} {t:Sem α} {P:α->Lf->Prop} {E:K_->Lf->Prop} {z:Lf},wpAny (model prog w) A t P (fun _ _=>False) z->wpAny (model prog w) A t P E z:=fun q=>L6 q (fun _ _ z=>z) fun _ _ z=>z.elim
 show wpAny _ _ ((compTurn (.ListComp elt [⟨target,iter,[],0⟩] scope pos) 0 it acc env).onRaise _) _ _ s1;refine wpAny_noted ?_;rw[compTurn_list1];refine K8 (Pw (K8 (no (L6 (turn k s1 hI) (fun r s2 h2=>?_) fun _ _ z=>z))));cases r with
 |none=>exact Le h2
 |some v =>
  refine K8 (no (L6 h2 (fun _ s3 h3=>?_) fun _ _ z=>z));refine K8 (no (L6 h3 (fun _ s4 h4=>?_) fun _ _ z=>z));refine K8 (K8 (no (L6 h4 (fun x s5 h5=>?_) fun _ _ z=>z)));exact K8 (no (L6 h5 (fun _ s6 h6=>Le (Le ⟨rfl,h6⟩)) fun _ _ z=>z))
theorem AJ{iter:Expr}{pos:Pos}{E:K_->Lf->Prop}{QQ:Addr->Hp->Prop}{RR:K_->Addr->R6->Lf->Prop}(I:Inv X pins σ H s)(c:mR X ys M scope cl)(hc:X.calm=true)
  (hg:∀C s₀ H₀ fp pins,PG (bD X ys M scope cl C s₀ H₀ fp pins) tg g) (he:∀C s₀ H₀ fp pins,PE (bD X ys M scope cl C s₀ H₀ fp pins) elt te) (T:pV X.prog X.w X.K tg J fp it tn) (st:tn 0 s.heap) (fk:∀b∈fp,ft X pins H b)
  (h:∀D,H D=none->∃W:Nat->Nat->Hp->Prop,(∃m,W 0 m (upd H D (.lst [])))/\∀i m H,W i m H ->
   (J.stop i H/\QQ D H)\/(J.go i H/\∀v H',J.yld i H v H'->∀us:St,us.length=ys.length->g v (us ++ σ) H' fun σ2 H2=>(∃Xk:St,Xk.length=ys.length/\σ2=Xk ++ σ)/\te σ2 H2 fun y H3=>∃xs,H3 D=some (.lst xs)/\xs.length<sizeLine/\∃m',m'<m/\W (i+1) m' (upd H3 D (.lst (xs++[y])))))
  (fin:∀D C H' s',s.heap.objs.size<=C->s'.heap.get? C≠none->(∃m,s'.heap.Ns C m)->H' C=none->Inv X pins σ H' s'->QQ D H'->RR (.ref D) C (.ok .next) s') :
  wpAny (model X.prog X.w) X.A (newList []) (fun acc s₃=>wpAny (model X.prog X.w) X.A (newFunctionEnv scope X.env.globals cl [] X.env.qual none .none (some X.env)) (fun XS s₄ =>
   codeAny (model X.prog X.w) X.A (.compStart (.ListComp elt [⟨tg,iter,[],0⟩] scope pos) 0 (.ref it) acc {XS with scope:=relabel scope X.env}) (RR acc XS.locals) s₄) E s₃) E s:=by
 refine MF (Ta c.nocell (by intro y hy;simp at hy) (fun h1 X_ Yp=>?_) c.kind);dsimp only at X_ Yp ⊢;have hf:H s.heap.objs.size=none:=I.hok.fresh (Lg _)
 have I3:Inv X pins σ (upd H s.heap.objs.size (.lst [])) {s with heap:=s.heap.push {cls:=.type "list",dict:=none,data:=.seq ([]:List K_).toArray}} :=
  I.laid (t':=s.toks) (fun b u e=>K9 _ e) (Lg _) ⟨by decide,[],_,.nil,Lu _ rfl⟩
 have eD:∀b u,s.heap.get? b=some u->b≠s.heap.objs.size:=fun b u e=>Lh (Lm e)
 have Yk:∀b∈fp,ft X pins (upd H s.heap.objs.size (.lst [])) b/\∃o,(s.heap.push {cls:=.type "list",dict:=none,data:=.seq ([]:List K_).toArray}).get? b=some o:=fun b hb=>by
  obtain⟨o,eo,_⟩:=T.obj 0 _ st b hb;obtain⟨f1,f2⟩:=fk b hb;exact⟨⟨by rw[aC (eD b o eo)];exact f1,f2⟩,o,K9 _ eo⟩
 have I4:=vK (tk:=s.toks+([]:List (Str×K_)).length) I3 c rfl X_ Yp Yk;obtain⟨W,⟨m0,w0⟩,turn⟩:=h _ hf
 have st4:tn 0 h1:=T.keep 0 _ _ st fun b hb o e=>by
  have e2:=K9 {cls:=.type "list",dict:=none,data:=.seq ([]:List K_).toArray} e;exact Yp.extBut b o (Lh (Lm e2)) (K9 _ e2)
 have Xd:∀{H':Hp},(∀b∈fp,H' b=none)->∀b∈fp,ft (bD X ys M scope cl (s.heap.push {cls:=.type "list",dict:=none,data:=.seq ([]:List K_).toArray}).objs.size {s with heap:=s.heap.push {cls:=.type "list",dict:=none,data:=.seq ([]:List K_).toArray}} (upd H s.heap.objs.size (.lst [])) fp pins) [] H' b :=
  fun hn b hb=>⟨hn b hb,(I4.ok.exf b hb).1,I4.ok.exfs b hb,.inl hb,(I4.ok.exf b hb).2,fun p hp=>(Yk b hb).1.2.2.2.2.2 p (by simpa[bD] using hp)⟩
 have loop:∀s4:Lf,s4 = {s with heap:=h1,toks:=s.toks+([]:List (Str×K_)).length} ->
   codeAny (model X.prog X.w) X.A (.compLoop (.ListComp elt [⟨tg,iter,[],0⟩] scope pos) 0 (.ref it) (.ref s.heap.objs.size) (compEnvC scope cl (s.heap.push {cls:=.type "list",dict:=none,data:=.seq ([]:List K_).toArray}).objs.size X.env))
    (RR (.ref s.heap.objs.size) (s.heap.push {cls:=.type "list",dict:=none,data:=.seq ([]:List K_).toArray}).objs.size) s4:=by
  rintro s4 rfl
  refine AI (fun n s'=>∃(i:Nat) (us:St) (H':Hp),us.length=ys.length/\Inv (bD X ys M scope cl (s.heap.push {cls:=.type "list",dict:=none,data:=.seq ([]:List K_).toArray}).objs.size {s with heap:=s.heap.push {cls:=.type "list",dict:=none,data:=.seq ([]:List K_).toArray}} (upd H s.heap.objs.size (.lst [])) fp pins) [] (us ++ σ) H' s'/\tn i s'.heap/\(∀b∈fp,H' b=none)/\W i n H')
   ?_ m0 ⟨0,_,_,MM,I4,st4,fun b hb=>(Yk b hb).1.1,w0⟩
  rintro n s5 ⟨i,us,H5,lu,I5,Yw,YY,w5⟩;rcases turn i n H5 w5 with⟨stop,q⟩|⟨go,step⟩
  ·refine bp (T.done (bD X ys M scope cl _ _ _ _ _) rfl rfl rfl hc i [] s5 _ H5 _ I5 (Xd YY) Yw stop) fun r s6 ⟨er,I6⟩=>?_
   subst er;obtain⟨m,Z5,_⟩:=id I6.loc;obtain⟨o6,_,_,ho6,_⟩:=id Z5;exact fin _ _ H5 s6 (by rw[NC];exact Op _) (fun z=>by have z':=ho6.symm.trans z;cases z') ⟨m,Z5⟩ I6.free (mo I3 Yk I6) q
  ·refine bp (T.item (bD X ys M scope cl _ _ _ _ _) rfl rfl rfl hc i [] s5 _ H5 _ I5 (Xd YY) Yw go) fun r s6 ⟨u,er,h6⟩=>?_
   subst er;refine bp h6 fun _ s7 ⟨v',H7,I7,r7,y7,Yx,fr7⟩=>?_
   have I7':=I7.pinned (Xd fr7) (T.obj _ _ Yx);refine L6 (hg _ _ _ _ _ _ s7 _ H7 v' u _ I7' r7 (step v' H7 y7 us lu)) (fun _ s8 ⟨σ8,H8,I8,⟨Xk,lu',e8⟩,q8⟩=>?_) fun _ _ z=>z.elim
   refine L6 (he _ _ _ _ _ _ s8 _ H8 _ I8 q8) (fun y s9 ⟨yv,H9,I9,ry,xs,Yq,hlen,m',hm,w9⟩=>?_) fun _ _ z=>z.elim
   refine L6 (ca (X:=bD X ys M scope cl _ _ _ _ _) _ s9 _ H9 (.ref s.heap.objs.size) [yv] (.ref s.heap.objs.size) [y] (fun _ XQ=>XQ=upd H9 s.heap.objs.size (.lst (xs++[yv]))) I9 rfl (.cons ry .nil) ⟨_,xs,yv,rfl,rfl,Yq,hlen,rfl⟩) (fun _ s10 ⟨z,XQ,I10,rz,q10⟩=>?_) fun _ _ z=>z.elim
   subst q10;subst e8;refine⟨m',hm,i+1,Xk,_,lu',I10.fV (pins:=[]),T.keep _ _ _ Yx fun b hb o e=>(I10.pin (b,o) (LO _ (LO _ (cD hb e)))).1,fun b hb=>?_,w9⟩;obtain⟨o,e,_⟩:=T.obj _ _ Yx b hb;exact(I10.pin (b,o) (LO _ (LO _ (cD hb e)))).2.1
 exact Sh (loop _ rfl) (T.self _ 0 _ _ _ st4 (loop _ rfl))
end
section
variable{X:Cx}{ys M:List Str}{x:Str}{scope:Scope}{cl:List (Str×Addr)}
theorem vB{iter:Expr}{pos:Pos}(c:mR X ys M scope cl)(hc:X.calm=true)(hi:PI X tg iter wi)(hg:∀C s₀ H₀ fp pins,PG (bD X ys M scope cl C s₀ H₀ fp pins) tg g)(he:∀C s₀ H₀ fp pins,PE (bD X ys M scope cl C s₀ H₀ fp pins) elt te)
  (hs:∀v,foldedSetIterable iter X.env v=pure v:=by intro _;rfl):PE X (.ListComp elt [⟨tg,iter,[],0⟩] scope pos) (jK wi ys.length g te):=by
 intro pins s σ H Q I h;rw[eval_ListComp];refine RC (use:=none) rfl hs c.clos c.kind c.names (bp (hi pins s σ H _ I h) fun v s1 h1=>bp h1 fun Zx s2 h2=>?_);obtain⟨it,fp,tn,J,H2,rfl,I2,T,Zj,fk2,h3⟩:=h2;refine AJ (E:=X.xe) (QQ:=fun D H'=>Q (.ref D) H') I2 c hc hg he T Zj fk2 h3 fun D C H' s' hC hl ns fr I' q=>?_
 obtain⟨m,hn⟩:=ns;refine⟨m,hn,fun h' hs'=>?_⟩;have sz:=I2.sz;exact⟨.ref D,H',I'.turned (t':=s'.toks) (fun b o hb e=>(hs'.2 b hb).trans e) fr (I2.fpOk hC fr).2.1 (I2.fpOk hC fr).2.2.2.1 (I2.fpOk hC fr).2.2.2.2.1 (I2.fpOk hC fr).2.2.2.2.2,rfl,q⟩
theorem Hx(c:mR X [x] M scope cl)(C:Addr)(s₀:Lf)(H₀:Hp)(fp:List Addr)(pins:List (Addr×Obj)):PG (bD X [x] M scope cl C s₀ H₀ fp pins) (.Name x px) (aH 0):=by
 have hx:(relabel scope X.env).names.lookup x=some .local:=lookup_relabel_local (c.own x (by simp));exact a5 (X:=bD X [x] M scope cl C s₀ H₀ fp pins) (i:=0) c.nd rfl (.inl hx) (.inr hx)
end
def Hd(scope sc:Scope):List (Str×RM):=scope.names.map fun(n,k)=>if (k == .free && sc.kind == .function && sc.names.lookup n == some .cell) then (n,.cell) else (n,k)
def kS(scope:Scope)(cells:List (Str×Addr)):List (Str×Addr):=((scope.names.filter fun n=>n.2 == .free).map fun n=>(n.1,(cells.lookup n.1).getD 0)).reverse
structure dm (sc:Scope) (N M ys:List Str) (scope:Scope):Prop where
 kind:scope.kind=.function
 nocell:∀y∈scope.names,y.2≠.cell
 names:∀y∈scope.names,y.2=.local->scope.names.lookup y.1=some .local
 own:∀y∈ys,scope.names.lookup y=some .local
 nd:(ys++M).Nodup
 len:M.length=N.length
 same:∀p∈M.zip N,p.1=p.2\/(Hd scope sc).lookup p.1=none
 apart:∀y∈M,(Hd scope sc).lookup y≠some .local
 free:∀n∈scope.names,n.2=.free->sc.names.lookup n.1=some .cell
theorem i9{g:Str->Addr}:∀{l:List (Str×Addr)} {y:Str},(∀n∈l,n.2=g n.1)->∀{c:Addr},l.lookup y=some c->c=g y/\∃n∈l,n.1=y
 |[],_,_,_,h=>by simp at h
 |(n,a) :: r,y,hg,c,h=>by
  by_cases e:y=n
  ·subst e;rw[N9,beq_self_eq_true] at h;have h':a=c:=LF h;exact⟨by rw[<- h'];exact hg (y,a) Lz,_,Lz,rfl⟩
  ·have e':(y == n)=false:=beq_eq_false_iff_ne.mpr e;rw[N9,e'] at h;obtain⟨h1,m,hm,h2⟩:=i9 (fun n hn=>hg n (Ly _ hn)) h;exact⟨h1,m,Ly _ hm,h2⟩
theorem uy{l:List (Str×Addr)}{y:Str}:(∃n∈l,n.1=y)->∃c,l.lookup y=some c:=by
 induction l with
 |nil=>rintro⟨n,hn,_⟩;cases hn
 |cons a r ih =>
  rintro⟨n,hn,e⟩;obtain⟨m,b⟩:=a;by_cases e':y=m
  ·subst e';exact⟨b,by rw[N9,beq_self_eq_true]⟩
  ·have e2:(y == m)=false:=beq_eq_false_iff_ne.mpr e';rw[N9,e2];refine ih ?_;rcases Lj.mp hn with z|z
   ·rw[z] at e;exact absurd e.symm e'
   ·exact⟨n,z,e⟩
theorem pR{n:Str×Addr}:n∈kS scope cells↔∃m∈scope.names,m.2=.free/\n=(m.1,(cells.lookup m.1).getD 0):=by
 unfold kS;rw[Vk,Ls];constructor
 ·rintro⟨m,hm,rfl⟩;rw[M0] at hm;exact⟨m,hm.1,beq_iff_eq.mp hm.2,rfl⟩
 ·rintro⟨m,hm,hk,rfl⟩;exact⟨m,M0.mpr ⟨hm,beq_iff_eq.mpr hk⟩,rfl⟩
theorem mK{env:Env}:∀(names:List (Str×RM)) (acc:List (Str×Addr)),(∀n∈names,n.2=.free->∃c,env.cells.lookup n.1=some c) ->
  (forIn names acc fun x r=>do
   let (name,kind):=x
   if kind == .free then do
    let c <- cellOf env name
    pure (Sy ((name,c) :: r))
   else pure (Sy r):Sem (List (Str×Addr)))=pure (((names.filter fun n=>n.2 == .free).map fun n=>(n.1,(env.cells.lookup n.1).getD 0)).reverse++acc)
 |[],acc,_=>rfl
 |(n,k) :: r,acc,h=>by
  have ih:=fun acc=>mK r acc fun m hm=>h m (Ly _ hm)
  rw[Nw];by_cases hk:k=.free
  ·subst hk;obtain⟨c,hc⟩:=h (n,.free) Lz rfl;have e1:cellOf env n=pure c:=by unfold cellOf;rw[hc]
   simp only[beq_self_eq_true,if_true,e1,pure_bind,Pk,LX,O6,MG,List.singleton_append];rw[hc];exact ih _
  ·have hb:(k == V1)=false:=beq_eq_false_iff_ne.mpr hk;simp only[hb,LS,if_false,pure_bind,Pk];exact ih _
theorem dm.sc{X:Cx}(c:dm X.env.scope X.N M ys scope)(ok:X.Ok):mR X ys M scope (kS scope X.env.cells):=by
 have Zt:∀n∈scope.names,n.2=.free->∃a,X.env.cells.lookup n.1=some a:=fun n hn hk=>ok.has n.1 (.inl (c.free n hn hk))
 refine⟨c.kind,c.nocell,c.names,c.own,?_,c.nd,c.len,c.same,c.apart,fun y a h=>?_,fun y h=>?_⟩
 ·have z:=mK (env:=X.env) scope.names [] Zt;rw[Nb] at z;exact(congrArg (fun m:Sem (List (Str×Addr))=>m >>= fun cs=>pure cs) z).trans rfl
 ·obtain⟨h1,n,hn,e⟩:=i9 (g:=fun z=>(X.env.cells.lookup z).getD 0) (fun n hn=>by obtain⟨m,_,_,rfl⟩:=pR.mp hn;rfl) h;obtain⟨m,hm,hk,e2⟩:=pR.mp hn;have ey:m.1=y:=by rw[<- e,e2]
  obtain⟨a',ha'⟩:=Zt m hm hk;rw[ey] at ha';refine⟨?_,.inl (by rw[<- ey];exact c.free m hm hk)⟩;rw[h1,ha'];rfl
 ·have hm:∃m∈scope.names,m.1=y/\m.2=.free:=by
   have go:∀names:List (Str×RM),(∀z∈names,z.2≠.cell)->((names.map fun(n,k)=>if (k == .free && X.env.scope.kind == .function && X.env.kindOf n == some .cell) then (n,RD) else (n,k)).lookup y=some .cell\/(names.map fun(n,k)=>if (k == .free && X.env.scope.kind == .function && X.env.kindOf n == some .cell) then (n,RD) else (n,k)).lookup y=some .free)->∃m∈names,m.1=y/\m.2=.free:=by
    intro names
    induction names with
    |nil=>intro _ h;simp at h
    |cons a r ih =>
     intro nc h;obtain⟨n,k⟩:=a;by_cases e:y=n
     ·subst e;refine⟨_,Lz,rfl,?_⟩;have nk:k≠.cell:=nc (y,k) Lz;by_cases hk:k=.free
      ·exact hk
      ·have hb:(k == V1)=false:=beq_eq_false_iff_ne.mpr hk;simp only[LX,hb,Q3,LS,if_false,N9,beq_self_eq_true] at h;rcases h with z|z
       ·exact absurd (LF z) nk
       ·exact absurd (LF z) hk
     ·have e':(y == n)=false:=beq_eq_false_iff_ne.mpr e
      have h':(r.map fun(n,k)=>if (k == .free && X.env.scope.kind == .function && X.env.kindOf n == some .cell) then (n,RD) else (n,k)).lookup y=some .cell\/(r.map fun(n,k)=>if (k == .free && X.env.scope.kind == .function && X.env.kindOf n == some .cell) then (n,RD) else (n,k)).lookup y=some .free:=by
       by_cases hb:(k == .free && X.env.scope.kind == .function && X.env.kindOf n == some .cell)=true
       ·simpa only[LX,hb,if_true,N9,e'] using h
       ·simpa only[LX,hb,LS,if_false,N9,e'] using h
      obtain⟨m,hm,r1⟩:=ih (fun z hz=>nc z (Ly _ hz)) h';exact⟨m,Ly _ hm,r1⟩
   exact go scope.names c.nocell h
  obtain⟨m,hm,e,hk⟩:=hm;exact uy ⟨_,pR.mpr ⟨m,hm,hk,rfl⟩,e⟩
section
variable{X:Cx}{x:Str}{ys M:List Str}{scope:Scope}
theorem Ht{iter:Expr}{pos:Pos}(c:dm X.env.scope X.N M ys scope)(hc:X.calm=true)(hi:PI X tg iter wi)(hg:∀C s₀ H₀ fp pins,PG (bD X ys M scope (kS scope X.env.cells) C s₀ H₀ fp pins) tg g)(he:∀C s₀ H₀ fp pins,PE (bD X ys M scope (kS scope X.env.cells) C s₀ H₀ fp pins) elt te)
  (hs:∀v,foldedSetIterable iter X.env v=pure v:=by intro _;rfl):PE X (.ListComp elt [⟨tg,iter,[],0⟩] scope pos) (jK wi ys.length g te):=fun pins s σ H Q I h=>vB (c.sc I.ok) hc hi hg he hs pins s σ H Q I h
theorem iG{iter:Expr}{pos:Pos}(c:dm X.env.scope X.N M [x] scope)(hN:X.N.Nodup)(hc:X.calm=true)(hi:PI X (.Name x px) iter wi)(he:∀C s₀ H₀ fp pins,PE (bD X [x] M scope (kS scope X.env.cells) C s₀ H₀ fp pins) elt te)
  (hs:∀v,foldedSetIterable iter X.env v=pure v:=by intro _;rfl):PE X (.ListComp elt [⟨.Name x px,iter,[],0⟩] scope pos) (gr wi te):=by
 intro pins s σ H Q I h
 have hi':PI X (.Name x px) iter (fun σ H R=>∃R',(∀J H1,R' J H1->R J H1)/\wi σ H R'):=by
  intro pins s σ H R I ⟨R',hR,hw⟩;refine bp (hi pins s σ H R' I hw) fun v s1 h1=>bp h1 fun Zx s2 ⟨it,fp,tn,J,H',e,I',T,t0,fk,r⟩=>⟨it,fp,tn,J,H',e,I',T,t0,fk,hR J H' r⟩
 exact vB (c.sc I.ok) hc hi' (fun C s₀ H₀ fp pins=>Hx (c.sc I.ok) C s₀ H₀ fp pins) he hs pins s σ H Q I ⟨_,fun J H1 q=>Dh q,h⟩
end
def Ja(D:Addr)(Pv:Hp->Prop):VK:=fun y H2=>∃xs,H2 D=some (.lst xs)/\xs.length<sizeLine/\Pv (upd H2 D (.lst (xs++[y])))
section
variable{K:Fg}{te:TE}{σ:St}{Q:VK}{H:Hp}
def uO(D:Addr)(n i:Nat)(Pv:Nat->Hp->Prop):VK:=fun y H2=>∃xs,H2 D=some (.lst xs)/\xs.length<sizeLine/\∃m',m'<n-i/\m'=n-(i+1)/\i+1<=n/\Pv (i+1) (upd H2 D (.lst (xs++[y])))
def GU(te:TE)(σ:St)(v:V)(H:Hp)(D:Addr)(n i:Nat)(Pv:Nat->Hp->Prop):Prop:=te (some v :: σ) H (uO D n i Pv)
theorem cA{n i:Nat}{Pv:Nat->Hp->Prop}(hi:i<n)(h:Ja D (Pv (i+1)) y H2):uO D n i Pv y H2:=by
 obtain⟨xs,h1,h2,h3⟩:=h;exact⟨xs,h1,h2,n-(i+1),by lia,rfl,hi,h3⟩
theorem w6{lo:Int}{n:Nat}(h:∀D,H D=none->∃Pv:Nat->Hp->Prop,Pv 0 (upd H D (.lst []))/\(∀i H2,i<n->Pv i H2->GU te σ (.int (lo+i)) H2 D n i Pv)/\∀H2,Pv n H2->Q (.ref D) H2):dS (xj lo n) te σ Q H:=by
 intro D nD;obtain⟨Pv,h0,hs,hd⟩:=h D nD;refine⟨fun i m H=>m=n-i/\i<=n/\Pv i H,⟨n,by simp,Ml _,h0⟩,?_⟩;rintro i m H ⟨rfl,hi,p⟩;by_cases Wm:i<n
 ·refine .inr ⟨Wm,fun v H' y=>?_⟩;obtain⟨e,y⟩:=y;subst e y;exact hs i _ Wm p
 ·have e:i=n:=by lia
  subst e;exact .inl ⟨Lg _,hd H p⟩
theorem kQ{xs:List V}(h:∀D,H D=none->∃Pv:Nat->Hp->Prop,Pv 0 (upd H D (.lst []))/\(∀i H2,i<=xs.length->Pv i H2->SqL K H2 a xs)/\(∀i x H2,xs[i]?=some x->Pv i H2->GU te σ x H2 D xs.length i Pv)/\∀H2,Pv xs.length H2->Q (.ref D) H2):dS (uN K a) te σ Q H:=by
 intro D nD;obtain⟨Pv,h0,hl,hs,hd⟩:=h D nD;refine⟨fun i m H=>m=xs.length-i/\i<=xs.length/\Pv i H,⟨xs.length,by simp,Ml _,h0⟩,?_⟩;rintro i m H ⟨rfl,hi,p⟩;have q:=hl i H hi p;by_cases Wm:i<xs.length
 ·refine .inr ⟨⟨xs,xs[i],q,by simp[Wm]⟩,fun v H' y=>?_⟩;obtain⟨e,y⟩:=y;subst e;exact hs i v _ (y xs q) p
 ·have e:i=xs.length:=by lia
  subst e;exact .inl ⟨⟨xs,q,Lg _⟩,hd H p⟩
theorem fY{xs:List V}(h:∀D,H D=none->∃Pv:Nat->Hp->Prop,Pv 0 (upd H D (.lst []))/\(∀i H2,i<=xs.length->Pv i H2->SqT K H2 a xs)/\(∀i x H2,xs[i]?=some x->Pv i H2->GU te σ x H2 D xs.length i Pv)/\∀H2,Pv xs.length H2->Q (.ref D) H2):dS (sH K a) te σ Q H:=by
 intro D nD;obtain⟨Pv,h0,hl,hs,hd⟩:=h D nD;refine⟨fun i m H=>m=xs.length-i/\i<=xs.length/\Pv i H,⟨xs.length,by simp,Ml _,h0⟩,?_⟩;rintro i m H ⟨rfl,hi,p⟩;have q:=hl i H hi p;by_cases Wm:i<xs.length
 ·refine .inr ⟨⟨xs,xs[i],q,by simp[Wm]⟩,fun v H' y=>?_⟩;obtain⟨e,y⟩:=y;subst e;exact hs i v _ (y xs q) p
 ·have e:i=xs.length:=by lia
  subst e;exact .inl ⟨⟨xs,q,Lg _⟩,hd H p⟩
end
open PySem.W (Dat kqdOk)
section
variable{K:Fg}{σ:St}{H:Hp}{Q:VK}{D:cq}{ta tb tc te:TE}{t u:TS}{c:TT}{QB:Bool->Hp->Prop}{QA:List V->Hp->Prop}{QS:St->Hp->Prop}
theorem JY(h:t {D with nx:=u D} σ H):av t u D σ H:=h
theorem Ii(h:D.nx σ H):a9 D σ H:=h
theorem Ga(h:te σ H fun _ H1=>D.nx σ H1):dL te D σ H:=h
theorem JZ(h:te σ H D.rt):aY te D σ H:=h
theorem Kh(h:c σ H fun b H1=>if b=true then t D σ H1 else u D σ H1):a6 c t u D σ H:=h
theorem Iy{g:TG}(h:te σ H fun x H1=>g x σ H1 D.nx):aR te g D σ H:=h
theorem zZ{v:V}(h:QS (σ.set i (some v)) H):aH i v σ H QS:=h
theorem wV{i:Nat}{v:V}(e:σ[i]?=some (some v))(h:Q v H):ae i σ H Q:=⟨v,e,h⟩
theorem K4(h:Q v H):tC v σ H Q:=h
theorem J7{r:R2}(h:ta σ H fun x H1=>tb σ H1 fun y H2=>r x y H2 Q):aB r ta tb σ H Q:=h
theorem JU{r:V->Hp->VK->Prop}(h:ta σ H fun x H1=>r x H1 Q):G0 r ta σ H Q:=h
theorem Ic{g:Int->V}(h:Q (g i) H):rU g (.int i) H Q:=⟨i,rfl,h⟩
theorem J0{g:Int->Int->V}(h:Q (g i j) H):t_ g (.int i) (.int j) H Q:=⟨i,j,rfl,rfl,h⟩
theorem kF{C:Int->Int->Prop}{g:Int->Int->V}(hc:C i j)(h:Q (g i j) H):rI C g (.int i) (.int j) H Q:=⟨i,j,rfl,rfl,hc,h⟩
theorem Km{i j:Int}(h:Q (.bl (decide (i=j))) H):fw (.int i) (.int j) H Q:=⟨rfl,by
 have e:decide (V.int i=V.int j)=decide (i=j):=by
  by_cases z:i=j
  ·subst z;simp
  ·simp[z]
 rw[e];exact h⟩
theorem J9{i j:Int}(h:Q (.bl (!decide (i=j))) H):A0 (.int i) (.int j) H Q:=⟨rfl,by
 have e:decide (V.int i=V.int j)=decide (i=j):=by
  by_cases z:i=j
  ·subst z;simp
  ·simp[z]
 rw[e];exact h⟩
theorem Kk{i j:Str}(h:Q (.bl (decide (i=j))) H):fw (.str i) (.str j) H Q:=⟨rfl,by
 have e:decide (V.str i=V.str j)=decide (i=j):=by
  by_cases z:i=j
  ·subst z;simp
  ·simp[z]
 rw[e];exact h⟩
theorem Ko{i j:Bool}(h:Q (.bl (decide (i=j))) H):fw (.bl i) (.bl j) H Q:=⟨rfl,by
 have e:decide (V.bl i=V.bl j)=decide (i=j):=by
  by_cases z:i=j
  ·subst z;simp
  ·simp[z]
 rw[e];exact h⟩
theorem J_{i j:Bool}(h:Q (.bl (!decide (i=j))) H):A0 (.bl i) (.bl j) H Q:=⟨rfl,by
 have e:decide (V.bl i=V.bl j)=decide (i=j):=by
  by_cases z:i=j
  ·subst z;simp
  ·simp[z]
 rw[e];exact h⟩
theorem Ke{x:V}(h:Q (.bl (decide (x=.non))) H):yT x .non H Q:=⟨rfl,h⟩
theorem Ia(h:te σ H fun x H'=>∃k,x=.bl k/\QB k H'):bg te σ H QB:=h
theorem JW(h:te σ H fun x H'=>∃k,x=.bl k/\QB k H'):tB te σ H QB:=h
theorem Kt{P:Bool->Prop}(h:P b):∃k,V.bl b=.bl k/\P k:=⟨b,rfl,h⟩
theorem Ih(h:c σ H fun b H1=>QB (!b) H1):dJ c σ H QB:=h
theorem Kw{c':TT}(h:c σ H fun b H1=>if b=true then c' σ H1 QB else QB false H1):nU c c' σ H QB:=h
theorem J6{c':TT}(h:c σ H fun b H1=>if b=true then QB true H1 else c' σ H1 QB):xm c c' σ H QB:=h
theorem Iz(h:ta σ H fun x H1=>∃k,x=.bl k/\if k=true then tb σ H1 Q else Q (.bl false) H1):jL ta tb σ H Q:=h
theorem J5(h:ta σ H fun x H1=>∃k,x=.bl k/\if k=true then Q (.bl true) H1 else tb σ H1 Q):Bs ta tb σ H Q:=h
theorem Ig(h:ta σ H fun x H1=>∃k,x=.bl k/\Q (.bl (!k)) H1):Bt ta σ H Q:=h
theorem Ki(h:c σ H fun b H1=>if b=true then ta σ H1 Q else tb σ H1 Q):Jz c ta tb σ H Q:=h
theorem Ge{r r':R2}(h:ta σ H fun x H1=>tb σ H1 fun y H2=>r x y H2 fun z H3=>∃k,z=.bl k/\(if k=true then tc σ H3 fun w' H4=>r' y w' H4 Q else Q (.bl false) H3)):gP r r' ta tb tc σ H Q:=h
theorem J8(h:QA [] H):aq σ H QA:=h
theorem Iv{tr:TA}(h:ta σ H fun x H1=>tr σ H1 fun xs H2=>QA (x :: xs) H2):ag ta tr σ H QA:=h
theorem Ix{sp:Sp}{WR:List V}{ts:TA}(h:ts σ H fun vs H1=>sp (vs++WR) H1 Q E):a4 sp WR E ts σ H Q:=h
theorem Kq{r:List V->Hp->VK->Prop}{ts:TA}(h:ts σ H fun vs H1=>r vs H1 Q):bY r ts σ H Q:=h
theorem JV{ts:TA}(h:ts σ H fun xs H1=>xs.length<=sizeLine/\∀p,H1 p=none->Q (.ref p) (upd H1 p (.tup xs))):dX ts σ H Q:=h
theorem Ka{ts:TA}(h:ts σ H fun xs H1=>xs.length<=sizeLine/\∀p,H1 p=none->Q (.ref p) (upd H1 p (.lst xs))):cX ts σ H Q:=h
theorem JX{r:V->Option Int->Option Int->Hp->VK->Prop}{tl th:TO}(h:te σ H fun x H1=>tl σ H1 fun l H2=>th σ H2 fun u H3=>r x l u H3 Q):tw r te tl th σ H Q:=h
theorem CN{QO:Option Int->Hp->Prop}(h:QO none H):dh σ H QO:=h
theorem Ie{QO:Option Int->Hp->Prop}(h:te σ H fun x H1=>∃i,x=.int i/\QO (some i) H1):fh te σ H QO:=h
theorem Kf{P:Int->Prop}(h:P i):∃j,V.int i=.int j/\P j:=⟨i,rfl,h⟩
theorem bt[Decidable p]{A B:Prop}(h1:p->A)(h2 : ¬ p->B):if decide p=true then A else B:=IA h1 h2
theorem bT[Decidable p]{A B:Prop}(h1 : ¬ p->A)(h2:p->B):if (!decide p)=true then A else B:=by
 by_cases h:p
 ·rw[decide_eq_true h];exact Ac (h2 h)
 ·rw[decide_eq_false h];exact wY (h1 h)
theorem F6{A B:Prop}(h:A):if (!false)=true then A else B:=wY h
theorem F5{A B:Prop}(h:B):if (!true)=true then A else B:=Ac h
def Bb(J:It)(g:TG)(tb:TS)(D:cq)(σ:St)(H1:Hp):Prop:=∃W:Nat->Nat->St->Hp->Prop,(∃m,W 0 m σ H1)/\∀i m σ H,W i m σ H ->
 (J.stop i H/\D.nx σ H)\/(J.go i H/\∃N:St->Hp->Prop,(∀σ' H',N σ' H'->∃m',m'<m/\W (i+1) m' σ' H')/\∀x H',J.yld i H x H'->g x σ H' fun σ2 H2=>tb {D with nx:=N,ct:=N,bk:=D.nx} σ2 H2)
theorem Kj{wi:TI}{tb:TS}(h:wi σ H fun J H1=>Bb J g tb D σ H1):eF wi g tb D σ H:=h
theorem Iw{wi:TI}(h:wi σ H fun J H1=>dS J te σ Q H1):gr wi te σ H Q:=h
theorem Ib{ts:TA}{R:It->Hp->Prop}(h:ts σ H fun vs H1=>∃j:Int,vs=[.int j]/\-(2 ^ 62)<=j/\j<2 ^ 62/\R (xj 0 j.toNat) H1):iS ts σ H R:=h
theorem J3{tb:TS}{j:Int}(h0 : -(2 ^ 62)<=j/\j<2 ^ 62)(h:Bb (xj 0 j.toNat) g tb D σ H):∃i:Int,[V.int j]=[.int i]/\-(2 ^ 62)<=i/\i<2 ^ 62/\Bb (xj 0 i.toNat) g tb D σ H:=⟨j,rfl,h0.1,h0.2,h⟩
theorem J4{j:Int}(h0 : -(2 ^ 62)<=j/\j<2 ^ 62)(h:dS (xj 0 j.toNat) te σ Q H):∃i:Int,[V.int j]=[.int i]/\-(2 ^ 62)<=i/\i<2 ^ 62/\dS (xj 0 i.toNat) te σ Q H:=⟨j,rfl,h0.1,h0.2,h⟩
theorem F9{R:It->Hp->Prop}(h:te σ H fun x H1=>∃a,x=.ref a/\(∃xs,SqL K H1 a xs)/\R (uN K a) H1):kM K te σ H R:=h
theorem Il{R:It->Hp->Prop}(h:te σ H fun x H1=>∃a,x=.ref a/\(∃xs,SqT K H1 a xs)/\R (sH K a) H1):kK K te σ H R:=h
theorem CK{tb:TS}(e:SqL K H a xs)(h:Bb (uN K a) g tb D σ H):∃b,V.ref a=.ref b/\(∃xs,SqL K H b xs)/\Bb (uN K b) g tb D σ H:=⟨a,rfl,⟨xs,e⟩,h⟩
theorem CJ{tb:TS}(e:SqT K H a xs)(h:Bb (sH K a) g tb D σ H):∃b,V.ref a=.ref b/\(∃xs,SqT K H b xs)/\Bb (sH K b) g tb D σ H:=⟨a,rfl,⟨xs,e⟩,h⟩
theorem FZ(e:SqT K H a xs)(h:dS (sH K a) te σ Q H):∃b,V.ref a=.ref b/\(∃xs,SqT K H b xs)/\dS (sH K b) te σ Q H:=⟨a,rfl,⟨xs,e⟩,h⟩
theorem cw{lo:Int}{n:Nat}{g:TG}{tb:TS}(Pv:Nat->St->Hp->Prop)(h0:Pv 0 σ H)
  (hs:∀i σ H,i<n->Pv i σ H->g (.int (lo+i)) σ H fun σ2 H2=>tb {D with nx:=Pv (i+1),ct:=Pv (i+1),bk:=D.nx} σ2 H2) (hd:∀σ H,Pv n σ H->D.nx σ H):Bb (xj lo n) g tb D σ H:=Ay Pv h0 hs hd
theorem jy{xs:List V}{g:TG}{tb:TS}(Pv:Nat->St->Hp->Prop)(h0:Pv 0 σ H)(hl:∀i σ H,i<=xs.length->Pv i σ H->SqL K H a xs)
  (hs:∀i x σ H,xs[i]?=some x->Pv i σ H->g x σ H fun σ2 H2=>tb {D with nx:=Pv (i+1),ct:=Pv (i+1),bk:=D.nx} σ2 H2) (hd:∀σ H,Pv xs.length σ H->D.nx σ H):Bb (uN K a) g tb D σ H:=C9 Pv h0 hl hs hd
theorem pO{xs:List V}{g:TG}{tb:TS}(Pv:Nat->St->Hp->Prop)(h0:Pv 0 σ H)(hl:∀i σ H,i<=xs.length->Pv i σ H->SqT K H a xs)
  (hs:∀i x σ H,xs[i]?=some x->Pv i σ H->g x σ H fun σ2 H2=>tb {D with nx:=Pv (i+1),ct:=Pv (i+1),bk:=D.nx} σ2 H2) (hd:∀σ H,Pv xs.length σ H->D.nx σ H):Bb (sH K a) g tb D σ H:=Gn Pv h0 hl hs hd
theorem Kp{v:V}{D:Addr}(h:te (some v :: σ) H (uO D n i Pv)):GU te σ v H D n i Pv:=h
theorem kH{n:Nat}{ts:Du}(e:SqT K H a xs)(l:xs.length=n)(h:ts xs σ H QS):pL K n ts (.ref a) σ H QS:=⟨a,xs,rfl,e,l,h⟩
theorem F_{tg:TG}{ts:Du}(h:tg v σ H fun σ' H'=>ts r σ' H' QS):fK tg ts (v :: r) σ H QS:=⟨v,r,rfl,h⟩
theorem Ip(h:QS σ H):pM [] σ H QS:=⟨rfl,h⟩
theorem dO(e:SqL K H p xs)(h:Q (.int xs.length) H):cE K [.ref p] H Q:=⟨p,xs,rfl,.inl e,h⟩
theorem kG(e:SqT K H p xs)(h:Q (.int xs.length) H):cE K [.ref p] H Q:=⟨p,xs,rfl,.inr e,h⟩
theorem Ij{z:Str}(e:z.length<=sizeLine)(h:Q (.int z.length) H):Hl [.str z] H Q:=⟨z,rfl,e,h⟩
theorem bG{v:V}(e:SqL K H p xs)(a:mO xs i=some v)(h:Q v H):bz K (.ref p) (.int i) H Q:=⟨p,xs,i,v,rfl,rfl,e,a,h⟩
theorem bn{v:V}(e:SqT K H p xs)(a:mO xs i=some v)(h:Q v H):bh K (.ref p) (.int i) H Q:=⟨p,xs,i,v,rfl,rfl,e,a,h⟩
theorem F4{z:Str}{c:Nat}(e:z.length<=sizeLine)(a:mO z.cps.toList i=some c)(h:Q (.str ⟨#[c]⟩) H):wD (.str z) (.int i) H Q:=⟨z,i,c,rfl,rfl,e,a,h⟩
theorem gg(e:SqL K H p xs)(h:∀l,H l=none->Q (.ref l) (upd H l (.tup xs))):dv K [.ref p] H Q:=⟨p,xs,rfl,.inl ⟨e,h⟩⟩
theorem vH(e:SqT K H p xs)(h:Q (.ref p) H):dv K [.ref p] H Q:=⟨p,xs,rfl,.inr ⟨e,h⟩⟩
theorem F3(e:SqL K H p xs)(h:∀l,H l=none->Q (.ref l) (upd H l (.lst xs))):oN K [.ref p] H Q:=⟨p,xs,rfl,.inl e,h⟩
theorem F2(e:SqT K H p xs)(h:∀l,H l=none->Q (.ref l) (upd H l (.lst xs))):oN K [.ref p] H Q:=⟨p,xs,rfl,.inr e,h⟩
theorem Ks{r:V->List V->Hp->VK->Prop}{to:TE}{ts:TA}(h:to σ H fun x H1=>ED K T x H1/\ts σ H1 fun xs H2=>r x xs H2 Q):lg K T r to ts σ H Q:=h
theorem Kr{r:V->List V->Hp->VK->Prop}{to:TE}(h:to σ H fun x H1=>ED K T x H1/\r x [] H1 Q):wq K T r to σ H Q:=h
theorem CI(e:H p=some (.lst xs)):ED K "list" (.ref p) H:=.inl ⟨rfl,xs,SqL.of e⟩
theorem uB(e:H l=some (.lst xs))(h:Q .non (upd H l (.lst []))):qO (.ref l) [] H Q:=⟨l,xs,rfl,rfl,e,h⟩
theorem aW{b:Bool}(e:TyOf K H x ty)(k:LJ K ty (.type n)=some b)(h:Q (.bl b) H):eO K [x,.ty n] H Q:=⟨x,n,ty,b,rfl,e,k,h⟩
theorem fJ{i j:Str}(n:i.length+j.length<=sizeLine)(h:Q (.str (i++j)) H):f8 (.str i) (.str j) H Q:=⟨i,j,rfl,rfl,n,h⟩
end
mutual
inductive Rp (K:Fg) (S:Addr->Prop) (H:Hp):V->Dat->Prop
 |non:Rp K S H .non .none
 |bl (b:Bool):Rp K S H (.bl b) (.bool b)
 |int (i:Int):Rp K S H (.int i) (.int i)
 |str (x:Str):Rp K S H (.str x) (.str x)
 |tup {a:Addr} {xs:List V} {ds:List Dat}:H a=some (.tup xs)->RpL K S H xs ds->Rp K S H (.ref a) (.tuple ds)
 |lst {a:Addr} {xs:List V} {ds:List Dat}:S a->H a=some (.lst xs)->RpL K S H xs ds->Rp K S H (.ref a) (.list ds)
inductive RpL (K:Fg) (S:Addr->Prop) (H:Hp):List V->List Dat->Prop
 |nil:RpL K S H [] []
 |cons {v:V} {d:Dat} {vs:List V} {ds:List Dat}:Rp K S H v d->RpL K S H vs ds->RpL K S H (v :: vs) (d :: ds)
end
structure Agr (S:Addr->Prop) (H H':Hp):Prop where
 tup:∀a xs,H a=some (.tup xs)->H' a=some (.tup xs)
 lst:∀a xs,S a->H a=some (.lst xs)->H' a=some (.lst xs)
section
variable{K:Fg}{S S':Addr->Prop}{H H':Hp}
theorem Agr.of_same(e:Same H H'):Agr S H H':=⟨fun a xs h=>e _ _ h,fun a xs _ h=>e _ _ h⟩
theorem Agr.DU(hl:H l=some (.lst ys))(ns : ¬ S l):Agr S H (upd H l o):=by
 refine⟨fun a xs h=>?_,fun a xs s h=>?_⟩
 ·have ne:a≠l:=by
   rintro rfl;rw[hl] at h;cases h
  rw[aC ne];exact h
 ·have ne:a≠l:=by
   rintro rfl;exact ns s
  rw[aC ne];exact h
theorem Agr.FN{u:HO}(hl:H l=some u)(nt:∀xs,u≠.tup xs)(ns : ¬ S l):Agr S H (upd H l o):=by
 refine⟨fun a xs h=>?_,fun a xs s h=>?_⟩
 ·have ne:a≠l:=by
   rintro rfl;rw[hl] at h;exact nt xs (LF h)
  rw[aC ne];exact h
 ·have ne:a≠l:=by
   rintro rfl;exact ns s
  rw[aC ne];exact h
mutual
theorem Rp.agr(e:Agr S H H'):∀{v:V} {d:Dat},Rp K S H v d->Rp K S H' v d
 |_,_,.non=>.non
 |_,_,.bl b=>.bl b
 |_,_,.int i=>.int i
 |_,_,.str x=>.str x
 |_,_,.tup h r=>.tup (e.tup _ _ h) (RpL.agr e r)
 |_,_,.lst s h r=>.lst s (e.lst _ _ s h) (RpL.agr e r)
theorem RpL.agr(e:Agr S H H'):∀{vs:List V} {ds:List Dat},RpL K S H vs ds->RpL K S H' vs ds
 |_,_,.nil=>.nil
 |_,_,.cons h r=>.cons (Rp.agr e h) (RpL.agr e r)
end
mutual
theorem Rp.mono(e:∀a,S a->S' a):∀{v:V} {d:Dat},Rp K S H v d->Rp K S' H v d
 |_,_,.non=>.non
 |_,_,.bl b=>.bl b
 |_,_,.int i=>.int i
 |_,_,.str x=>.str x
 |_,_,.tup h r=>.tup h (RpL.mono e r)
 |_,_,.lst s h r=>.lst (e _ s) h (RpL.mono e r)
theorem RpL.mono(e:∀a,S a->S' a):∀{vs:List V} {ds:List Dat},RpL K S H vs ds->RpL K S' H vs ds
 |_,_,.nil=>.nil
 |_,_,.cons h r=>.cons (Rp.mono e h) (RpL.mono e r)
end
mutual
theorem Rp.rep:∀{v:V} {d:Dat},Rp K S H v d->Rep K H v d
 |_,_,.non=>.non
 |_,_,.bl b=>.bl b
 |_,_,.int i=>.int i
 |_,_,.str x=>.str x
 |_,_,.tup h r=>.tup (SqT.of h) (RpL.rep r)
 |_,_,.lst _ h r=>.lst (SqL.of h) (RpL.rep r)
theorem RpL.rep:∀{vs:List V} {ds:List Dat},RpL K S H vs ds->RepL K H vs ds
 |_,_,.nil=>.nil
 |_,_,.cons h r=>.cons (Rp.rep h) (RpL.rep r)
end
theorem Rp.same(e:Same H H')(h:Rp K S H v d):Rp K S H' v d:=h.agr (Agr.of_same e)
theorem RpL.same(e:Same H H')(h:RpL K S H vs ds):RpL K S H' vs ds:=h.agr (Agr.of_same e)
theorem RpL.length:∀{vs:List V} {ds:List Dat},RpL K S H vs ds->vs.length=ds.length
 |_,_,.nil=>rfl
 |_,_,.cons _ r=>congrArg (· + 1) (RpL.length r)
theorem RpL.get:∀{vs:List V} {ds:List Dat} {i:Nat} {v:V},RpL K S H vs ds->vs[i]?=some v->∃d,ds[i]?=some d/\Rp K S H v d
 |_,_,_,_,.nil,e=>by simp at e
 |_,_,0,_,.cons h _,e=>by simp at e;subst e;exact⟨_,rfl,h⟩
 |_,_,i+1,v,.cons _ r,e=>by
  obtain⟨d,h1,h2⟩:=RpL.get (i:=i) (v:=v) r (by simpa using e);exact⟨d,by simpa using h1,h2⟩
theorem RpL.append:∀{vs ws:List V} {ds es:List Dat},RpL K S H vs ds->RpL K S H ws es->RpL K S H (vs++ws) (ds++es)
 |_,_,_,_,.nil,s=>s
 |_,_,_,_,.cons h r,s=>.cons h (RpL.append r s)
theorem RpL.take:∀{vs:List V} {ds:List Dat} (n:Nat),RpL K S H vs ds->RpL K S H (vs.take n) (ds.take n)
 |_,_,0,_=>.nil
 |_,_,_+1,.nil=>.nil
 |_,_,n+1,.cons h r=>.cons h (RpL.take n r)
theorem RpL.drop:∀{vs:List V} {ds:List Dat} (n:Nat),RpL K S H vs ds->RpL K S H (vs.drop n) (ds.drop n)
 |_,_,0,r=>r
 |_,_,_+1,.nil=>.nil
 |_,_,n+1,.cons _ r=>RpL.drop n r
theorem RpL.ints:∀ns:List Int,RpL K S H (ns.map V.int) (ns.map NG)
 |[]=>.nil
 |n :: ns=>.cons (.int n) (RpL.ints ns)
theorem RpL.strs:∀ns:List Str,RpL K S H (ns.map V.str) (ns.map Mp)
 |[]=>.nil
 |n :: ns=>.cons (.str n) (RpL.strs ns)
theorem RpL.ints_of:∀{vs:List V} {ns:List Int},RpL K S H vs (ns.map NG)->vs=ns.map V.int
 |_,[],.nil=>rfl
 |_,n :: ns,.cons h r=>by cases h;rw[RpL.ints_of r];rfl
theorem RpL.gt:∀{vs:List V} {ns:List Str},RpL K S H vs (ns.map Mp)->vs=ns.map V.str
 |_,[],.nil=>rfl
 |_,n :: ns,.cons h r=>by cases h;rw[RpL.gt r];rfl
theorem Rp.cC(h:Rp K S H v (.tuple ds)):∃a xs,v=.ref a/\H a=some (.tup xs)/\RpL K S H xs ds:=by
 cases h with
 |tup h r=>exact⟨_,_,rfl,h,r⟩
end
def F0:Addr->Prop:=fun _=>False
abbrev Rz(K:Fg)(H:Hp):V->Dat->Prop:=Rp K F0 H
abbrev RzL(K:Fg)(H:Hp):List V->List Dat->Prop:=RpL K F0 H
section
variable{K:Fg}{S:Addr->Prop}{H H':Hp}
theorem RpL.z(h:RzL K H vs ds):RpL K S H vs ds:=h.mono fun _ z=>z.elim
theorem Rz.upd(h:Rz K H v d)(hl:H l=some (.lst ys)):Rz K (L2.upd H l o) v d:=h.agr (Agr.DU hl fun z=>z)
theorem RzL.upd(h:RzL K H v d)(hl:H l=some (.lst ys)):RzL K (L2.upd H l o) v d:=h.agr (Agr.DU hl fun z=>z)
end
structure AccZ (K:Fg) (H0:Hp) (l:Addr) (H:Hp) (ds:List Dat):Prop where
 same:Same H0 H
 new:H0 l=none
 at_:∃xs,H l=some (.lst xs)/\RzL K H xs ds
section
variable{K:Fg}{H0 H H':Hp}{l m:Addr}{ds:List Dat}
theorem AccZ.start(e:Same H0 H)(n:H l=none):AccZ K H0 l (upd H l (.lst [])) []:=⟨e.trans (ar n _),e.free n,[],am,.nil⟩
theorem AccZ.on(A:AccZ K H0 l H ds)(e:Same H H'):AccZ K H0 l H' ds:=by
 obtain⟨xs,h1,h2⟩:=A.at_;exact⟨A.same.trans e,A.new,xs,e _ _ h1,h2.same e⟩
theorem AccZ.ref(A:AccZ K H0 l H ds):Rp K (fun a=>H0 a=none) H (.ref l) (.list ds):=by
 obtain⟨xs,h1,h2⟩:=A.at_;exact .lst A.new h1 h2.z
theorem AccZ.rep(A:AccZ K H0 l H ds):Rep K H (.ref l) (.list ds):=A.ref.rep
theorem AccZ.ty(A:AccZ K H0 l H ds):ED K "list" (.ref l) H:=by
 obtain⟨xs,h1,_⟩:=A.at_;exact CI h1
theorem AccZ.sq(A:AccZ K H0 l H ds):∃xs,SqL K H l xs/\xs.length=ds.length/\RzL K H xs ds:=by
 obtain⟨xs,h1,h2⟩:=A.at_;exact⟨xs,SqL.of h1,h2.length,h2⟩
theorem AccZ.am(A:AccZ K H0 l H ds):Same H0 (L2.upd H l o):=fun b u q=>by
 rw[L2.aC (au q A.new)];exact A.same b u q
theorem AccZ.other(A:AccZ K H0 l H ds)(ne:l≠m)(n:H0 m=none)(h:H m=some (.lst ys)):AccZ K H0 l (upd H m o) ds:=by
 obtain⟨xs,h1,h2⟩:=A.at_;refine⟨fun b u q=>?_,A.new,xs,by rw[aC ne];exact h1,h2.upd h⟩;rw[aC (au q n)];exact A.same b u q
end
theorem g_{K:Fg}{Q:VK}(A:AccZ K H0 l H ds)(r:Rz K H y d)(n:ds.length<sizeLine)
  (h:∀H2,AccZ K H0 l H2 (ds++[d])->(∀{v:V} {e:Dat},Rz K H v e->Rz K H2 v e)->(∀b,b≠l->H2 b=H b)->(∀{m:Addr} {es:List Dat},m≠l->AccZ K H0 m H es->AccZ K H0 m H2 es)->Q .non H2):di (.ref l) [y] H Q:=by
 obtain⟨xs,h1,h2⟩:=A.at_;refine⟨l,xs,y,rfl,rfl,h1,by rw[h2.length];exact n,h _ ⟨A.am,A.new,xs++[y],am,?_⟩ (fun q=>Rz.upd q h1) (fun b nb=>aC nb) fun ne B=>B.other ne A.new h1⟩;exact RzL.upd (h2.append (.cons r .nil)) h1
section
variable{K:Fg}{H:Hp}{Q:VK}{x y:V}{d e:Dat}{ds:List Dat}
open Classical in
theorem vI(hd:Rep K H x d)(he:Rep K H y (.list ds))(ka:∀e∈ds,kqdOk 8 e=true)(kd:kqdOk 8 d=true)(h1:d∉ds->Q (.bl true) H)(h2:d∈ds->Q (.bl false) H):qM K true x y H Q:=by
 refine⟨d,ds,hd,he,ka,kd,?_⟩;by_cases z:d∈ds
 ·have q:=h2 z;simpa[z] using q
 ·have q:=h1 z;simpa[z] using q
open Classical in
theorem Kg(hd:Rep K H x d)(he:Rep K H y (.list ds))(ka:∀e∈ds,kqdOk 8 e=true)(kd:kqdOk 8 d=true)(h1:d∈ds->Q (.bl true) H)(h2:d∉ds->Q (.bl false) H):qM K false x y H Q:=by
 refine⟨d,ds,hd,he,ka,kd,?_⟩;by_cases z:d∈ds
 ·have q:=h1 z;simpa[z] using q
 ·have q:=h2 z;simpa[z] using q
open Classical in
theorem z_(hd:Rep K H x d)(he:Rep K H y e)(kd:kqdOk 8 d=true)(ke:kqdOk 8 e=true)(h1:d=e->Q (.bl true) H)(h2:d≠e->Q (.bl false) H):ua K x y H Q:=by
 refine⟨d,e,hd,he,kd,ke,?_⟩;by_cases z:d=e
 ·have q:=h1 z;rw[decide_eq_true z];exact q
 ·have q:=h2 z;rw[decide_eq_false z];exact q
open Classical in
theorem F1(hd:Rep K H x d)(he:Rep K H y e)(kd:kqdOk 8 d=true)(ke:kqdOk 8 e=true)(h1:d≠e->Q (.bl true) H)(h2:d=e->Q (.bl false) H):yS K x y H Q:=by
 refine⟨d,e,hd,he,kd,ke,?_⟩;by_cases z:d=e
 ·have q:=h2 z;rw[decide_eq_true z];exact q
 ·have q:=h1 z;rw[decide_eq_false z];exact q
end
def CZ(n:Nat):Option Int->Nat
 |none=>n
 |some j=>min j.toNat n
def Eg(l:List Nat):Option Int->List Nat
 |none=>l
 |some j=>l.take j.toNat
theorem Ef(n:Nat)(hi:Option Int):CZ n hi<=n:=by
 cases hi with
 |none=>exact Lg _
 |some j=>exact Pi _ _
def jU(z:Str)(lo hi:Option Int):Str:=⟨((Eg z.cps.toList hi).drop (lo.getD 0).toNat).toArray⟩
def NN:Option Int->Prop
 |none=>True
 |some i=>0<=i
theorem JB{lo:Option Int}(n:Nat)(hl:NN lo)(hh:NN hi):Mq lo hi 1 n=(Nh (CZ n hi-min (lo.getD 0).toNat n)).map (fun k=>min (lo.getD 0).toNat n+k):=by
 have core:∀(a b:Nat),a<=n->b<=n->sliceRange (a:Int) (b:Int) 1=(Nh (b-a)).map (fun k=>a+k):=by
  intro a b ha hb;simp only[sliceRange,show((1:Int) > 0)=True from by simp,if_true];by_cases Wm:(a:Int)<b
  ·have e3:(((b:Int)-a+1-1) / 1).toNat=b-a:=by rw[Int.ediv_one];lia
   simp only[Wm,if_true,e3];refine QN fun k _=>?_
   lia
  ·have:b-a=0:=by lia
   simp[Wm,this]
 have clip:∀i:Int,0<=i->max (0:Int) (min (if i<0 then i+n else i) n)=((min i.toNat n:Nat):Int):=by
  intro i hi;rw[if_neg (by lia)];lia
 cases lo with
 |none =>
  cases hi with
  |none =>
   have:=core 0 n (by lia) (by lia)
   simpa[Mq,CZ] using this
  |some j =>
   have:=core 0 (min j.toNat n) (by lia) (by lia)
   simp only[Mq,show((1:Int) > 0)=True from by simp,if_true];rw[clip j hh];simpa[CZ] using this
 |some i =>
  cases hi with
  |none =>
   have:=core (min i.toNat n) n (by lia) (by lia)
   simp only[Mq,show((1:Int) > 0)=True from by simp,if_true];rw[clip i hl];simpa[CZ] using this
  |some j =>
   have:=core (min i.toNat n) (min j.toNat n) (by lia) (by lia)
   simp only[Mq,show((1:Int) > 0)=True from by simp,if_true];rw[clip i hl,clip j hh];simpa[CZ] using this
theorem BB(z:Str){lo:Option Int}(hl:NN lo)(hh:NN hi):V6 z lo hi=jU z lo hi:=by
 have len:z.cps.toList.length=z.length:=by simp[VS]
 have e:=JB z.length hl hh;have p:=StrLaws.picks z.cps.toList (CZ z.length hi-min (lo.getD 0).toNat z.length) (min (lo.getD 0).toNat z.length) (by have:=Ef z.length hi;rw[len];lia)
 have q:(z.cps.toList.drop (min (lo.getD 0).toNat z.length)).take (CZ z.length hi-min (lo.getD 0).toNat z.length)=(Eg z.cps.toList hi).drop (lo.getD 0).toNat:=by
  generalize (lo.getD 0).toNat=a;cases hi with
  |none =>
   show List.take (z.length-min a z.length) (TK (min a z.length) z.cps.toList)=TK a z.cps.toList;by_cases ha:a<=z.length
   ·rw[Ol ha,Lq (by rw[MR,len];exact Lg _)]
   ·rw[N_ (by lia),Ng (by rw[len];exact Lg _),Ng (by rw[len];lia)];simp
  |some j =>
   show List.take (min j.toNat z.length-min a z.length) (TK (min a z.length) z.cps.toList)=TK a (z.cps.toList.take j.toNat);rw[List.drop_take];generalize j.toNat=b;by_cases ha:a<=z.length
   ·rw[Ol ha];by_cases hb:b<=z.length
    ·rw[Ol hb]
    ·rw[N_ (by lia),Lq (by rw[MR,len];exact Lg _),Lq (by rw[MR,len];lia)]
   ·rw[N_ (by lia:z.length<=a),Ng (by rw[len];exact Lg _),Ng (by rw[len];lia)];simp
 have r:(Mq lo hi 1 z.length).filterMap (z.cps[·]?)=(Eg z.cps.toList hi).drop (lo.getD 0).toNat:=by
  rw[<- q,<- p,e];simp
 unfold V6 jU;split
 ·rename_i c;have c':(Mq lo hi 1 z.length).length=z.length:=by simpa using c
  rw[e,La,Rs] at c'
  have w:(z.cps.toList.drop (min (lo.getD 0).toNat z.length)).take (CZ z.length hi-min (lo.getD 0).toNat z.length)=z.cps.toList:=by
   have b:=Ef z.length hi;by_cases h0:z.length=0
   ·have:z.cps.toList=[]:=OH.mp (by rw[len];exact h0)
    rw[this];simp
   ·have a0:min (lo.getD 0).toNat z.length=0:=by lia
    rw[a0,Tb,Lq (by rw[len];lia)]
  rw[<- q,w]
 ·rw[r]
def B6:V->Option Int->Option Int->Hp->VK->Prop:=fun x lo hi H Q=>∃z,x=.str z/\z.length<=sizeLine/\NN lo/\NN hi/\Q (.str (jU z lo hi)) H
def Hn:V->List V->Hp->VK->Prop:=fun x xs H Q=>∃z y,x=.str z/\xs=[.str y]/\Q (.int (Txt.find z y)) H
def t9:R2:=fun x y H Q=>∃i j,x=.str i/\y=.str j/\Q (.bl (!decide (j.cps.toList<i.cps.toList))) H
section
variable{X:Cx}
theorem ym:Ju X B6:=by
 intro pins s σ H x v vl vu lo hi sl Q I rx hs pl pu h;obtain⟨z,rfl,hz,hl,hh,q⟩:=h;obtain⟨t,rfl⟩:=rx;refine⟨"str",_,F.slot_str_getitem.lookup,PL _ _ _,?_⟩
 have fin:∀(l u:Option (Int×Tok)),l.map (·.1)=lo->u.map (·.1)=hi->(sliceMade z t l u none).post (EP X pins σ Q) s:=by
  intro l u el eu
  have e:sliceMade z t l u none=if ((1:Int) == 1 && (Mq lo hi 1 z.length).length == z.length)=true then Made.val (.str z t) else .str ⟨((Mq lo hi 1 z.length).filterMap (z.cps[·]?)).toArray⟩:=by
   unfold sliceMade slicePicked;rw[el,eu];rfl
  rw[e];have lt:=Txt.slice_le z lo hi;have eq:=BB z hl hh;unfold V6 at lt eq;refine post_val_or_str ⟨Mh lt hz,fun t' k=>⟨.str (jU z lo hi),H,I.tok k,⟨t',?_⟩,q⟩⟩;rw[eq]
 cases pl with
 |none =>
  cases pu with
  |none=>exact OI (l:=none) (u:=none) (st:=none) hs rfl (fin none none rfl rfl)
  |int j tj=>exact OI (l:=none) (u:=some (j,tj)) (st:=none) hs rfl (fin none (some (j,tj)) rfl rfl)
 |int i ti =>
  cases pu with
  |none=>exact OI (l:=some (i,ti)) (u:=none) (st:=none) hs rfl (fin (some (i,ti)) none rfl rfl)
  |int j tj=>exact OI (l:=some (i,ti)) (u:=some (j,tj)) (st:=none) hs rfl (fin (some (i,ti)) (some (j,tj)) rfl rfl)
theorem FT:Ba X "str.find" Hn:=by
 intro pins s σ H x xs v us Q I rx rv h;obtain⟨z,y,rfl,rfl,q⟩:=h;obtain⟨t,rfl⟩:=rx;obtain⟨u,rfl,t',rfl⟩:=vals1 rv;exact SC.find ⟨.int _,H,I.tok _,⟨_,rfl⟩,q⟩
theorem g8:fq X (compareOp .LtE) t9:=by
 intro pins s σ H x y v u Q I rx ry h;obtain⟨i,j,rfl,rfl,q⟩:=h;obtain⟨t,rfl⟩:=rx;obtain⟨t',rfl⟩:=ry;exact PySem.P.le_str (bC I q rfl)
end
def RawD(h:Heap)(d:Addr)(es:Array RL)(ep:Nat):Prop:=∃o,h.get? d=some o/\o.ExactDict/\o.data=.dict es ep
section
variable{prog:LA}{w:LL}{A:L4}{E:K_->Lf->Prop}{s:Lf}{d it:Addr}{es:Array RL}{ep i:Nat}
theorem RawD.ty(m:RawD s.heap d es ep):s.TypeIs (.ref d) "dict":=by
 obtain⟨o,a,b,_⟩:=m;exact⟨o,a,b.1⟩
theorem RawD.at{h':Heap}(m:RawD h d es ep)(k:∀o,h.get? d=some o->h'.get? d=some o):RawD h' d es ep:=by
 obtain⟨o,a,b⟩:=m;exact⟨o,k o a,b⟩
theorem BZ{Q:K_->Lf->Prop} (lo:(d == sysModules)=false) (m:RawD s.heap d es ep) (q:Q (.ref s.heap.objs.size) {s with heap:=s.heap.push {cls:=.type "dict_keyiterator",data:=.fields #[.ref d,.int 0 0,.int es.size 0,.int ep 0]}}) :
  wpAny (model prog w) A (pyIter (.ref d)) Q E s:=by
 have ty:=m.ty;obtain⟨o,ho,_,dt⟩:=m;refine wpAny_pyIter_slot ty Vl (MS Vl ty F.entry_dict_iter ?_ (F.args_dict_iter_1 _));unfold NX.«dict.__iter__» NX.Dict.dictSlotNone;refine K8 (K8 (wpAny_notOrdered_dict ty ?_));show wpAny _ _ (pure (LH d)) _ _ s;refine Le ?_;show wpAny _ _ (SI d >>= _) _ _ s;unfold SI;rw[if_neg (fun z=>by rw[lo] at z;cases z)];refine K8 (Le (K8 (Rt ho dt (K8 (SA ho dt ?_)))));refine K8 (MF (Le ⟨_,rfl,"dict_keyiterator",_,⟨_,Lu _ rfl,rfl⟩,Nx.lookup,?_⟩));simpa[rawInt] using q
theorem vn{Q:Option K_->Lf->Prop}(ki:s.heap.IsKeyIter it d i es.size ep)(m:RawD s.heap d es ep) :
  (∀e,es[i]?=some e->(∀h',h'.IsKeyIter it d (i+1) es.size ep->Oo it s.heap h'->Q (some e.key) {s with heap:=h'})->wpAny (model prog w) A (pyNext (.ref it)) Q E s) /\
  (A.handled=none->es[i]?=none->(∀h',O_ it s.heap h'->Q none {s with heap:=h'})->wpAny (model prog w) A (pyNext (.ref it)) Q E s):=by
 obtain⟨o,ho,oc,od⟩:=id ki;obtain⟨dd,hd,_,dt⟩:=id m;have own:NX.Dict_items.ownsTuple "dict_keyiterator"=false:=by decide
 have nn : ¬ ((LH d == Ms)=true):=LP;constructor
 ·intro e he hq;unfold pyNext;refine K8 (OA (Mn (name:=M8 "__next__") ki.typeIs Nx (MS Nx ki.typeIs Qz ?_ (Qn _))));refine K8 (Le (K8 (K8 (K8 (NW ki.typeIs (Le (K8 (wpAny_fieldsOf ho od ?_))))))));simp only[own,LS,if_false];show wpAny _ _ (if (LH d == Ms)=true then _ else _) _ _ s;rw[if_neg nn];refine K8 (Le (K8 (Rt hd dt ?_)));rw[if_neg (by simp)];refine K8 (Le (K8 (SA hd dt ?_)));rw[if_neg (by simp)];refine Le ?_;simp only[show ¬ ((i:Int)<0) from by lia,if_false,MT,he];refine K8 (K8 (NW ki.typeIs (Le (K8 (SJ ki.typeIs ?_)))));show wpAny _ _ (setField (.ref it) 1 (rawInt ((i:Int)+1)) >>= _) _ _ s;refine K8 (OG ho od (by simp) ?_);have k2:(s.heap.update it (M4 (·.setIfInBounds 1 (rawInt ((i:Int)+1))))).IsKeyIter it d (i+1) es.size ep:=⟨_,Mi _ ho (Oe (NO od _)),(Rq ..).trans oc,by rw[NO od];simp[rawInt]⟩
  refine K8 (MJ (K8 (SJ (s:={s with heap:=s.heap.update it (M4 (·.setIfInBounds 1 (rawInt ((i:Int)+1))))}) k2.typeIs ?_)));show wpAny _ _ (pure e.key) _ _ _;exact Le (Le ⟨_,rfl,Le (hq _ k2 (N3 ..))⟩)
 ·intro hh he hq;unfold pyNext;refine K8 (OA (Mn (name:=M8 "__next__") ki.typeIs Nx (MS Nx ki.typeIs Qz ?_ (Qn _))));refine K8 (Le (K8 (K8 (K8 (NW ki.typeIs (Le (K8 (wpAny_fieldsOf ho od ?_))))))));simp only[own,LS,if_false];show wpAny _ _ (if (LH d == Ms)=true then _ else _) _ _ s;rw[if_neg nn];refine K8 (Le (K8 (Rt hd dt ?_)));rw[if_neg (by simp)];refine K8 (Le (K8 (SA hd dt ?_)));rw[if_neg (by simp)];refine Le ?_;simp only[show ¬ ((i:Int)<0) from by lia,if_false,MT,he];refine K8 (K8 (NW ki.typeIs (Le ?_)));show wpAny _ _ (setField (.ref it) 0 .none >>= _) _ _ s;refine K8 (OG ho od (by simp) ?_);show wpAny _ _ (newExc (.type "StopIteration") [] >>= _) _ _ _;refine K8 ?_;simp only[newExc,newTuple];refine K8 (MF ?_ (by size_fits));refine K8 (m:=firstArgMember _ _) (wpAny_of_eq (a:=Ms) (by simp only[firstArgMember];rfl) (MF ?_ (by size_fits)));simp only[raiseNew];refine K8 (wpAny_handled ?_);rw[show A.in1.handled=none from hh];refine K8 (Le (wpAny_throw ?_));refine K8 (Pl (T:="StopIteration") (b:=true) ⟨_,Lu _ rfl,rfl⟩ Q8 ?_);exact Le (hq _ (((N3 ..).extBut.push _).push _))
theorem yP(hh:A.handled=none)(I d:Addr)(ne:d≠I)(es:Array RL)(ep:Nat):Walks prog w A I [I,d] [I] es.size (fun i v=>∃e,es[i]?=some e/\v=e.key) (fun i h=>h.IsKeyIter I d i es.size ep/\RawD h d es ep) where
 sub:=fun b hb=>by rw[Lx.mp hb];simp
 frame:=fun _ _ _ st hk=>⟨st.1.at fun o e=>hk I (by simp) o e,st.2.at fun o e=>hk d (by simp) o e⟩
 item:=fun i s Q E hi st hq=>by
  refine(vn st.1 st.2).1 es[i] (by simp[hi]) fun h' k1 k2=>?_
  exact hq _ h' s.toks ⟨es[i],by simp[hi],rfl⟩ ⟨k1,st.2.at fun o e=>k2.extBut d o ne e⟩ fun b o hb e=>k2.extBut b o (fun z=>hb (by simp[z])) e
 done:=fun s Q E st hq=>(vn st.1 st.2).2 hh (by simp) fun h' k=>hq h' s.toks fun b o hb e=>k b o (fun z=>hb (by simp[z])) e
 self:=fun _ _ _ _ st hq=>wpAny_pyIter_keyiter st.1 hq
theorem Fm(lo:(d == sysModules)=false):PySem.W.KdlSrc prog w "dict" d d es.size (fun i v=>∃e,es[i]?=some e/\v=e.key) (fun h=>RawD h d es ep) where
 type:=fun _ m=>m.ty
 there:=fun _ ⟨_,e,_⟩=>⟨Lm e,Lm e⟩
 keep:=fun _ _ m hk=>m.at fun o e=>hk d (.inl rfl) o e
 notList:=by decide
 notTuple:=by decide
 hint:=fun _ _ _ _ m q=>PySem.W.kdl_hint_dict m.ty q
 iter:=fun _ _ hh m=>⟨_,_,(fun _ _ q=>BZ lo m q),yP hh _ d (by obtain⟨_,e,_⟩:=m;exact Lh (Lm e)) es ep,⟨⟨_,Lu _ rfl,rfl,rfl⟩,m.at fun _ e=>K9 _ e⟩⟩
end
theorem qI:∀ys:List (List Key×Addr×K_),Vals (ys.map (V.ref∘fun y=>y.2.1)) (ys.map fun y=>LH y.2.1)
 |[]=>.nil
 |_ :: ys=>.cons rfl (qI ys)
theorem FX(r:KT H fx ys):Paired (fun(p:List Key×V) b=>H b=some (.tup (p.1.map kV))) fx (ys.map fun y=>y.2.1):=by
 induction r with
 |nil=>exact .nil
 |cons h t ih=>exact .cons h.2.1 ih
def DN:List V->Hp->VK->Prop:=fun xs H Q=>∃a fx,xs=[.ref a]/\H a=some (.dT fx)/\∀(l:Addr) (bs:List Addr),H l=none->Paired (fun(p:List Key×V) b=>H b=some (.tup (p.1.map kV))) fx bs->Q (.ref l) (upd H l (.lst (bs.map V.ref)))
theorem xc{X:Cx} (hc:X.calm=true):iZ X (.type "list") DN:=by
 intro pins s σ H xs us Q I r h;obtain⟨a,fx,rfl,ha,q⟩:=h;obtain⟨u,rfl,ru⟩:=vals1 r;cases ru;obtain⟨z,lo,ys,kt,o,es,ep,ho,ex,dt,he,_,_⟩:=IK I.hok ha;have sz:es.size=fx.length:=by rw[<- Mw,he,La];exact(N6 kt).symm
 refine PySem.W.kdl_call (Fm (es:=es) (ep:=ep) lo) (I.ok.hd hc) ⟨o,ho,ex,dt⟩ (by rw[sz];exact z) fun h' tk acc c kp hl hit=>?_
 have YS:acc.toList=ys.map fun y=>LH y.2.1:=by
  refine UU fun j=>?_
  by_cases lt:j<es.size
  ·have hj:j<acc.toList.length:=by rw[Mw];rw[hit.1];exact lt
   have e1:acc.toList[j]?=some acc.toList[j]:=Lb hj;obtain⟨e,ee,ev⟩:=hit.2 j acc.toList[j] (by rw[<- MN];exact e1);rw[e1,ev];rw[<- MN,he,Li] at ee;obtain⟨y,hy1,hy2⟩:=Ln.mp ee;rw[Li,hy1,<- hy2];rfl
  ·rw[NI (by rw[Mw,hit.1];lia),NI];rw[La]
   have:=N6 kt
   lia
 have vals:Vals ((ys.map fun y=>y.2.1).map V.ref) acc.toList:=by
  rw[YS,Ot];exact qI ys
 have prd:Paired (fun(p:List Key×V) b=>H b=some (.tup (p.1.map kV))) fx (ys.map fun y=>y.2.1):=by
  exact FX kt
 refine⟨.ref s.heap.objs.size,_,I.laid (t':=tk) kp (Lg _) (show ci X.prog X.w _ h' _ (.lst ((ys.map fun y=>y.2.1).map V.ref)) from⟨?_,acc.toList,c,vals,by rw[Array.toArray_toList];exact hl⟩),rfl,q _ _ (I.hok.fresh (Lg _)) prd⟩;rw[La,La,<- N6 kt];exact z
section
variable{X:Cx}{pins:List (Addr×Obj)}{σ:St}{H:Hp}{s:Lf}{h':Heap}
theorem Inv.io{t':Nat}{fp:List Addr}(I:Inv X pins σ H s)(k:∀b o,b∉fp->s.heap.get? b=some o->h'.get? b=some o)(hf:∀b∈fp,ft X pins H b):Inv X pins σ H {s with heap:=h',toks:=t'}:=by
 have nit:∀b u,H b=some u->b∉fp:=fun b u e z=>by
  have q:=(hf b z).1;rw[q] at e;cases e
 refine I.step (g':=s.gens) (d':=s.drawn) (ch:=fp) (fun b hb=>⟨(hf b hb).2.2.2.1,(hf b hb).2.1,(hf b hb).2.2.2.2.1,(hf b hb).2.2.2.2.2⟩) (fun b o _ _ hc e _=>k b o hc e) (fun b o _ _ hc e _=>⟨o.slots,k b o hc e⟩) (fun _ _ _ _ n=>n)
  (fun b o hc e=>⟨o,k b o hc e⟩) (fun _ _ e=>e) (fun _ _ _ e=>e) (fun b ps e=>⟨#[],by rw[e,Ui]⟩) (fun m hm=>?_) (fun b u e=>?_) I.bare
 ·obtain⟨o,es,ep,ho,r⟩:=hm;exact⟨o,es,ep,k _ o (fun z=>(hf _ z).2.1 rfl) ho,r⟩
 ·refine(I.hok b u e).stay (fun c v hc q=>k c v ?_ q) (fun _ q=>q) fun _ _ q=>q
  rcases hc with z|z
  ·rw[z];exact nit b u e
  ·exact nit c _ z
end
structure Bc (prog:LA) (w:LL) (it l:Addr) (xs:Array K_) (St:Nat->Heap->Prop):Prop where
 keep:∀k h h',St k h->(∀b,b=it\/b=l->∀o,h.get? b=some o->h'.get? b=some o)->St k h'
 there:∀k h,St k h->it<h.objs.size/\∃o,h.get? it=some o/\∀v,o.data≠.cell v
 item:∀(A:L4) (E:K_->Lf->Prop) (s:Lf) (k:Nat) (x:K_) (Q:K_->Lf->Prop),St k s.heap->xs[k]?=some x->(∀h',St (k+1) h'->Oo it s.heap h'->Q x {s with heap:=h'})->wpAny (model prog w) A (LN (.ref it)) Q E s
 fin:∀(A:L4) (E:K_->Lf->Prop) (s:Lf) (k:Nat) (Q:K_->Lf->Prop),A.handled=none->St k s.heap->xs[k]?=none ->
  (∀h' e,O_ it s.heap h'->(∃o,h'.get? e=some o/\o.cls=.type "StopIteration")->E (.ref e) {s with heap:=h'})->wpAny (model prog w) A (LN (.ref it)) Q E s
section
variable{prog:LA}{w:LL}{A:L4}{E:K_->Lf->Prop}{s:Lf}
theorem Db(it l:Addr)(ne:l≠it)(xs:Array K_):Bc prog w it l xs (fun k h=>h.IsListIter it l k/\h.IsList l xs) where
 keep:=fun k h h' st hk=>⟨st.1.at fun o e=>hk it (.inl rfl) o e,st.2.at fun o e=>hk l (.inr rfl) o e⟩
 there:=fun k h ⟨⟨o,e,_,d⟩,_⟩=>⟨Lm e,o,e,fun v z=>by rw[d] at z;cases z⟩
 item:=fun A E s k x Q st hx q=>wpAny_nextOf_list_item st.1 st.2 hx fun h' a b=>q h' ⟨a,st.2.at fun o e=>b.extBut l o ne e⟩ b
 fin:=fun A E s k Q hh st hx q=>wpAny_nextOf_list_end hh st.1 st.2 hx q
theorem Gr(it l:Addr)(ne:l≠it)(xs:Array K_):Bc prog w it l xs (fun k h=>h.IsTupleIter it l k/\h.IsTuple l xs) where
 keep:=fun k h h' st hk=>⟨st.1.at fun o e=>hk it (.inl rfl) o e,by obtain⟨o,e,r⟩:=st.2;exact⟨o,hk l (.inr rfl) o e,r⟩⟩
 there:=fun k h ⟨⟨o,e,_,d⟩,_⟩=>⟨Lm e,o,e,fun v z=>by rw[d] at z;cases z⟩
 item:=fun A E s k x Q st hx q=>by
  obtain⟨o,ho,oc,od⟩:=id st.1;obtain⟨ol,hl,_,nl,dl⟩:=id st.2;unfold LN;refine K8 (Mn (name:=M8 "__next__") st.1.typeIs Oa (MS Oa st.1.typeIs QV ?_ (QI _)));show wpAny _ _ (field (.ref it) 0 >>= _) _ _ s;refine K8 (L3 ho od (x:=.ref l) rfl ?_);show wpAny _ _ (if (LH l == Ms)=true then _ else _) _ _ s;rw[if_neg (show ¬ ((LH l == Ms)=true) from LP)];show wpAny _ _ (field (.ref it) 1 >>= _) _ _ s;refine K8 (L3 ho od (x:=.int k 0) rfl ?_);show wpAny _ _ (seqItems? (.ref l) >>= _) _ _ s;refine K8 (Mc hl dl ?_);simp only[MT,hx];have k2:(s.heap.update it (M4 (·.setIfInBounds 1 (rawInt ((k:Int)+1))))).IsTupleIter it l (k+1):=⟨_,Mi _ ho (Oe (NO od _)),(Rq ..).trans oc,by rw[NO od];simp[rawInt]⟩
  exact K8 (OG ho od (by simp) (Le ⟨x,rfl,Le (q _ ⟨k2,⟨ol,(N3 ..).extBut l ol ne hl,by assumption,nl,dl⟩⟩ (N3 ..))⟩))
 fin:=fun A E s k Q hh st hx q=>by
  obtain⟨o,ho,oc,od⟩:=id st.1;obtain⟨ol,hl,_,nl,dl⟩:=id st.2;unfold LN;refine K8 (Mn (name:=M8 "__next__") st.1.typeIs Oa (MS Oa st.1.typeIs QV ?_ (QI _)));show wpAny _ _ (field (.ref it) 0 >>= _) _ _ s;refine K8 (L3 ho od (x:=.ref l) rfl ?_);show wpAny _ _ (if (LH l == Ms)=true then _ else _) _ _ s;rw[if_neg (show ¬ ((LH l == Ms)=true) from LP)];show wpAny _ _ (field (.ref it) 1 >>= _) _ _ s;refine K8 (L3 ho od (x:=.int k 0) rfl ?_);show wpAny _ _ (seqItems? (.ref l) >>= _) _ _ s;refine K8 (Mc hl dl ?_);simp only[MT,hx];refine K8 (Q9 (K8 (OG ho od (by simp) ?_)));show wpAny _ _ (newExc (.type "StopIteration") [] >>= _) _ _ _;refine K8 ?_;simp only[newExc,newTuple];refine K8 (MF ?_ (by size_fits));refine K8 (m:=firstArgMember _ _) (wpAny_of_eq (a:=Ms) (by simp only[firstArgMember];rfl) ?_);refine MF ?_ (by size_fits);simp only[raiseNew];refine K8 (wpAny_handled ?_);rw[show A.in1.handled=none from hh];exact K8 (Le (wpAny_throw (q _ _ (((N3 ..).extBut.push _).push _) ⟨_,Lu _ rfl,rfl⟩)))
end
structure GT (z TI TO i1 i2 l1 l2:Addr):Prop where
 a:i1<i2
 b:i2<TI
 c:TI<TO
 d:TO<z
 e:l1<i1
 f:l2<i1
theorem m_{z TI TO i1 i2 l1 l2:Nat}(a:i1<i2)(b:i2<TI)(c:TI<TO)(d:TO<z)(e:l1<i1)(f:l2<i1) :
  i1≠z/\i2≠z/\TO≠i1/\TO≠i2/\TO≠z/\TI≠z/\TI≠TO/\TI≠i1/\TI≠i2/\i1≠i2/\l1≠z/\l1≠TO/\l1≠i2/\l2≠z/\l2≠TO/\l2≠i1:=by
 have iT:=Lr b c;have iz:=Lr iT d;have jI:=Lr a b;have jT:=Lr a iT;have jz:=Lr a iz;have tz:=Lr c d;exact⟨Lh jz,Lh iz,Mo jT,Mo iT,Lh d,Lh tz,Lh c,Mo jI,Mo b,Lh a,Lh (Lr e jz),Lh (Lr e jT),Lh (Lr e a),Lh (Lr f jz),Lh (Lr f jT),Lh f⟩
section
variable{prog:LA}{w:LL}{A:L4}{E:K_->Lf->Prop}{s:Lf}{z TI TO i1 i2 l1 l2:Addr}{xs ys:Array K_}{S1 S2:Nat->Heap->Prop}{k:Nat}
structure KW (z TI TO i1 i2:Addr) (S1 S2:Nat->Heap->Prop) (k:Nat) (h:Heap):Prop where
 z:OX h z TI TO .none
 i:N5 h TI (.ref i1) (.ref i2)
 o:∃a b,N5 h TO a b
 s1:S1 k h
 s2:S2 k h
theorem sJ{Q:Unit->Lf->Prop} (hT:N5 s.heap T a b) (q:∀h',h'.get? T=some {cls:=.type "tuple",data:=.seq ((#[a,b]:Array K_).setIfInBounds j x)}->Oo T s.heap h'->Q () {s with heap:=h'}) :
  wpAny (model prog w) A (updateSeq T (·.setIfInBounds j x)) Q E s:=wpAny_updateSeq_pair hT q
theorem uT(D:GT z TI TO i1 i2 l1 l2)(W1:Bc prog w i1 l1 xs S1)(W2:Bc prog w i2 l2 ys S2)(st:KW z TI TO i1 i2 S1 S2 k s.heap){Q:Option K_->Lf->Prop} :
  (∀x y,xs[k]?=some x->ys[k]?=some y->(∀h',OX h' z TI TO (rawInt s.heap.objs.size)->N5 h' TI (.ref i1) (.ref i2)->(∃a b,N5 h' TO a b)->S1 (k+1) h'->S2 (k+1) h'->N5 h' s.heap.objs.size x y ->
   (∀c o,c∉[z,TI,TO,i1,i2]->s.heap.get? c=some o->h'.get? c=some o)->Q (some (.ref s.heap.objs.size)) {s with heap:=h'})->wpAny (model prog w) A (pyNext (.ref z)) Q E s) /\
  (A.handled=none->(xs[k]?=none\/ys[k]?=none)->(∀h',(∀c o,c∉[z,TI,TO,i1,i2]->s.heap.get? c=some o->h'.get? c=some o)->Q none {s with heap:=h'})->wpAny (model prog w) A (pyNext (.ref z)) Q E s):=by
 obtain⟨d1,d2,d3,d4,d5,d6⟩:=D;obtain⟨hz,hI,⟨a,b,hO⟩,t1,t2⟩:=st;have ty:s.TypeIs (.ref z) "zip":=⟨_,hz,rfl⟩
 obtain⟨n1,n2,Yg,Yv,Xb,XM,Ye,YI,YJ,n12,q1,q2,q3,q4,q5,q6⟩:=m_ d1 d2 d3 d4 d5 d6
 have m1:∀{c h h':_},c∈[z,TO,i2]->O_ c h h'->∀k,S1 k h->S1 k h':=fun {c h h'} hc x k t=>W1.keep k h h' t fun b hb o e=>x b o (by
  rcases hb with rfl|rfl <;> (simp only[Lj,Lp,or_false] at hc;rcases hc with rfl|rfl|rfl <;> first|assumption|(apply MO;assumption))) e
 have m2:∀{c h h':_},c∈[z,TO,i1]->O_ c h h'->∀k,S2 k h->S2 k h':=fun {c h h'} hc x k t=>W2.keep k h h' t fun b hb o e=>x b o (by
  rcases hb with rfl|rfl <;> (simp only[Lj,Lp,or_false] at hc;rcases hc with rfl|rfl|rfl <;> first|assumption|(apply MO;assumption))) e
 constructor
 ·intro x y hx hy q;unfold pyNext;refine K8 (OA (Mn (name:=M8 "__next__") ty M3 (MS M3 ty OJ ?_ (Ou _))));show wpAny _ _ (field (.ref z) 2 >>= _) _ _ _;refine K8 (L3 hz rfl (x:=.bool false) rfl ?_);show wpAny _ _ (field (.ref z) 3 >>= _) _ _ _;refine K8 (L3 hz rfl (x:=.ref TI) rfl (K8 (Mc hI rfl ?_)));show wpAny _ _ (LM (.ref z) >>= _) _ _ _;refine K8 ?_;unfold LM;refine K8 (L3 hz rfl (x:=.none) rfl (Le ?_));simp only[if_true];refine K8 (Q9 (K8 (L3 hz rfl (x:=.ref TO) rfl (K8 (Mr hz (by simp) fun h1 WZ Wn=>?_)))));replace WZ:OX h1 z TI TO .ellipsis:=WZ;refine K8 ?_;simp only[Qo,QJ,Nw,Pa];refine K8 (K8 (NQ ?_));show wpAny _ _ (LN (.ref i1) >>= _) _ _ _;refine K8 (W1.item _ _ _ k x _ (m1 (by simp) Wn.extBut k t1) hx fun h2 YL hs2=>Le ?_);have XT:N5 h2 TO a b:=hs2.extBut _ _ Yg (Wn.extBut _ _ Xb hO);refine K8 (Mc XT rfl (K8 (sJ XT fun h3 XJ hs3=>?_)));replace XJ:N5 h3 TO x b:=XJ;refine K8 (OL (Le (K8 (K8 (NQ ?_)))));show wpAny _ _ (LN (.ref i2) >>= _) _ _ _;refine K8 (W2.item _ _ _ k y _ (m2 (by simp) hs3.extBut k (m2 (by simp) hs2.extBut k (m2 (by simp) Wn.extBut k t2))) hy fun h4 t24 WS=>Le ?_);have Yz:N5 h4 TO x b:=WS.extBut _ _ Yv XJ;refine K8 (Mc Yz rfl (K8 (sJ Yz fun h5 Yl W6=>?_)));replace Yl:N5 h5 TO x y:=Yl;refine K8 (OL (Le (Le (K8 (Mc Yl rfl (K8 (Tc ?_)))))));have sz:h5.objs.size=s.heap.objs.size:=by rw[W6.1,WS.1,hs3.1,hs2.1,Wn.1]
  have hz5:OX h5 z TI TO .ellipsis:=W6.extBut _ _ Xb.symm (WS.extBut _ _ n2.symm (hs3.extBut _ _ Xb.symm (hs2.extBut _ _ n1.symm WZ)))
  have all5:∀c o,c∉[z,TI,TO,i1,i2]->s.heap.get? c=some o->h5.get? c=some o:=fun c o hc e=>by
   simp only[Lj,Lp,or_false,not_or] at hc;exact W6.extBut _ _ hc.2.2.1 (WS.extBut _ _ hc.2.2.2.2 (hs3.extBut _ _ hc.2.2.1 (hs2.extBut _ _ hc.2.2.2.1 (Wn.extBut _ _ hc.1 e))))
  have hI5:N5 h5 TI (.ref i1) (.ref i2):=W6.extBut _ _ Ye (WS.extBut _ _ YJ (hs3.extBut _ _ Ye (hs2.extBut _ _ YI (Wn.extBut _ _ XM hI))));have YN:z<h5.objs.size:=Lm hz5;show wpAny _ _ (Ni (.ref z) (.ref h5.objs.size) >>= _) _ _ _;refine K8 ?_;unfold Ni;have hz6:OX (h5.push {cls:=.type "tuple",data:=.seq #[x,y]}) z TI TO .ellipsis:=K9 _ hz5;refine K8 (Mr hz6 (by simp) fun h7 Zw XF=>?_);replace Zw:OX h7 z TI TO (rawInt h5.objs.size):=Zw;refine Mr Zw (by simp) fun h8 YG hs8=>?_;replace YG:OX h8 z TI TO (rawInt h5.objs.size):=YG
  have up:∀c o,c≠z->h5.get? c=some o->h8.get? c=some o:=fun c o c1 e=>hs8.extBut _ _ c1 (XF.extBut _ _ c1 (K9 _ e))
  have hT:N5 h8 h5.objs.size x y:=hs8.extBut _ _ (Mo YN) (XF.extBut _ _ (Mo YN) (Lu _ rfl));have t1':S1 (k+1) h8:=W1.keep _ _ _ (m1 (by simp) W6.extBut _ (m1 (by simp) WS.extBut _ (m1 (by simp) hs3.extBut _ YL))) fun c hc o e=>up c o (by rcases hc with rfl|rfl <;> first|assumption|(apply MO;assumption)) e
  have t2':S2 (k+1) h8:=W2.keep _ _ _ (m2 (by simp) W6.extBut _ t24) fun c hc o e=>up c o (by rcases hc with rfl|rfl <;> first|assumption|(apply MO;assumption)) e
  rw[sz] at YG hT;refine Le ⟨_,rfl,?_⟩;show wpAny _ _ (pure (some (LH h5.objs.size))) _ _ _;rw[sz];exact Le (q h8 YG (up _ _ XM hI5) ⟨_,_,up _ _ Xb Yl⟩ t1' t2' hT fun c o hc e=>up c o (fun x=>hc (by simp[x])) (all5 c o hc e))
 ·intro hh Y1 q
  have stop:∀(h9:Heap) (e:Addr),(∀c o,c∉[z,TI,TO,i1,i2]->s.heap.get? c=some o->h9.get? c=some o)->(∃o,h9.get? e=some o/\o.cls=.type "StopIteration") ->
    wpAny (model prog w) A (isInstance (.ref e) (.type "StopIteration") >>= fun b=>if b=true then pure none else throw (.ref e)) Q E {s with heap:=h9}:=fun h9 e kp ⟨o,ho,oc⟩ =>
   K8 (Pl (T:="StopIteration") (b:=true) ⟨o,ho,oc⟩ Q8 (Le (q _ kp)))
  unfold pyNext;refine K8 (OA (Mn (name:=M8 "__next__") ty M3 (MS M3 ty OJ ?_ (Ou _))));show wpAny _ _ (field (.ref z) 2 >>= _) _ _ _;refine K8 (L3 hz rfl (x:=.bool false) rfl ?_);show wpAny _ _ (field (.ref z) 3 >>= _) _ _ _;refine K8 (L3 hz rfl (x:=.ref TI) rfl (K8 (Mc hI rfl ?_)));show wpAny _ _ (LM (.ref z) >>= _) _ _ _;refine K8 ?_;unfold LM;refine K8 (L3 hz rfl (x:=.none) rfl (Le ?_));simp only[if_true];refine K8 (Q9 (K8 (L3 hz rfl (x:=.ref TO) rfl (K8 (Mr hz (by simp) fun h1 WZ Wn=>?_)))));replace WZ:OX h1 z TI TO .ellipsis:=WZ;refine K8 ?_;simp only[Qo,QJ,Nw,Pa];refine K8 (K8 (NQ ?_));show wpAny _ _ (LN (.ref i1) >>= _) _ _ _;cases hx:xs[k]? with
  |none =>
   refine K8 (W1.fin _ _ _ k _ hh (m1 (by simp) Wn.extBut k t1) hx fun h2 e hs2 ⟨oe,Xf,Xn⟩=>?_);have Ys:OX h2 z TI TO .ellipsis:=hs2 _ _ n1.symm WZ;have ez:e≠z:=fun x=>by subst x;rw[Ys] at Xf;cases Xf;simp at Xn
   refine Mr Ys (by simp) fun h3 _ hs3=>stop h3 e (fun c o hc u=>?_) ⟨oe,hs3.extBut _ _ ez Xf,Xn⟩
   simp only[Lj,Lp,or_false,not_or] at hc;exact hs3.extBut _ _ hc.1 (hs2 _ _ hc.2.2.2.1 (Wn.extBut _ _ hc.1 u))
  |some x =>
   have hy:ys[k]?=none:=by rcases Y1 with u|u;rw[hx] at u;cases u;exact u
   refine K8 (W1.item _ _ _ k x _ (m1 (by simp) Wn.extBut k t1) hx fun h2 YL hs2=>Le ?_);have XT:N5 h2 TO a b:=hs2.extBut _ _ Yg (Wn.extBut _ _ Xb hO);refine K8 (Mc XT rfl (K8 (sJ XT fun h3 XJ hs3=>?_)));refine K8 (OL (Le (K8 (K8 (NQ ?_)))));show wpAny _ _ (LN (.ref i2) >>= _) _ _ _;refine K8 (W2.fin _ _ _ k _ hh (m2 (by simp) hs3.extBut k (m2 (by simp) hs2.extBut k (m2 (by simp) Wn.extBut k t2))) hy fun h4 e WS ⟨oe,Xf,Xn⟩=>?_);have Z_:OX h4 z TI TO .ellipsis:=WS _ _ n2.symm (hs3.extBut _ _ Xb.symm (hs2.extBut _ _ n1.symm WZ));have ez:e≠z:=fun x=>by subst x;rw[Z_] at Xf;cases Xf;simp at Xn
   refine Mr Z_ (by simp) fun h5 _ W6=>stop h5 e (fun c o hc u=>?_) ⟨oe,W6.extBut _ _ ez Xf,Xn⟩
   simp only[Lj,Lp,or_false,not_or] at hc;exact W6.extBut _ _ hc.1 (WS _ _ hc.2.2.2.2 (hs3.extBut _ _ hc.2.2.1 (hs2.extBut _ _ hc.2.2.2.1 (Wn.extBut _ _ hc.1 u))))
end
inductive Kn|L|T
def Kn.sq(k:Kn)(K:Fg)(H:Hp)(a:Addr)(xs:List V):Prop:=match k with
 |.L=>SqL K H a xs
 |.T=>SqT K H a xs
def Kn.it(k:Kn)(h:Heap)(i l:Addr)(j:Nat):Prop:=match k with
 |.L=>h.IsListIter i l j
 |.T=>h.IsTupleIter i l j
def Kn.seq(k:Kn)(h:Heap)(l:Addr)(xs:Array K_):Prop:=match k with
 |.L=>h.IsList l xs
 |.T=>h.IsTuple l xs
def Kn.obj(k:Kn)(l:Addr):Obj:=match k with
 |.L=>{cls:=.type "list_iterator",data:=.fields #[.ref l,.int 0 0]}
 |.T=>{cls:=.type "tuple_iterator",data:=.fields #[.ref l,.int 0 0]}
section
variable{prog:LA}{w:LL}{A:L4}{E:K_->Lf->Prop}{s:Lf}
theorem Kn.drw(k:Kn)(it l:Addr)(ne:l≠it)(xs:Array K_):Bc prog w it l xs (fun j h=>k.it h it l j/\k.seq h l xs):=by
 cases k
 ·exact Db it l ne xs
 ·exact Gr it l ne xs
theorem Kn.itAt(k:Kn){h':Heap}{it:Addr}(t:k.it h it l j)(e:∀o,h.get? it=some o->h'.get? it=some o):k.it h' it l j:=by
 cases k
 ·exact Heap.IsListIter.at t e
 ·exact Heap.IsTupleIter.at t e
theorem Kn.hG(k:Kn){it:Addr}(t:k.it h it l j):∃o,h.get? it=some o/\∀v,o.data≠.cell v:=by
 cases k <;> (obtain⟨o,e,_,d⟩:=t;exact⟨o,e,fun v z=>by rw[d] at z;cases z⟩)
theorem Kn.tN(k:Kn){h':Heap}(t:k.seq h l xs)(e:∀o,h.get? l=some o->h'.get? l=some o):k.seq h' l xs:=by
 cases k
 ·exact Td.at t e
 ·obtain⟨o,a,b⟩:=t;exact⟨o,e o a,b⟩
theorem Kn.lt(k:Kn)(t:k.seq h l xs):l<h.objs.size:=by
 cases k <;> (obtain⟨o,a,_⟩:=t;exact Lm a)
theorem Kn.inv{H:Hp}{s:Lf}(k:Kn)(I:Inv X pins σ H s)(q:k.sq X.K H a xs):∃fm:List K_,Vals xs fm/\k.seq s.heap a fm.toArray:=by
 cases k
 ·obtain⟨fm,r,p,_⟩:=I.list q;exact⟨fm,r,p.isList⟩
 ·obtain⟨fm,r,p,_⟩:=I.tuple q;exact⟨fm,r,p⟩
theorem Kn.inj{H:Hp}{s:Lf}(k:Kn)(I:Inv X pins σ H s)(q:k.sq X.K H a xs)(r:k.sq X.K H a ys):xs=ys:=by
 cases k
 ·exact I.vF q r
 ·exact I.qf q r
theorem Kn.iter(k:Kn){Q:K_->Lf->Prop}(t:k.seq s.heap l xs)(q:Q (.ref s.heap.objs.size) {s with heap:=s.heap.push (k.obj l)}):wpAny (model prog w) A (pyIter (.ref l)) Q E s:=by
 cases k
 ·exact NB t q
 ·exact MV t q
theorem Kn.it0(k:Kn)(h:Heap)(l:Addr):k.it (h.push (k.obj l)) h.objs.size l 0:=by
 cases k <;> exact⟨_,Lu _ rfl,rfl,rfl⟩
def zh (h:Heap) (k1 k2:Kn) (l1 l2:Addr):Heap:=(((((h.push (k1.obj l1)).push (k2.obj l2)).push {cls:=.type "tuple",data:=.seq #[.ref h.objs.size,.ref (h.push (k1.obj l1)).objs.size]}).push {cls:=.type "tuple",data:=.seq #[.none,.none]}).push
 {cls:=.type "zip",data:=.fields #[.none,.bool false,.bool false,.ref ((h.push (k1.obj l1)).push (k2.obj l2)).objs.size,.ref (((h.push (k1.obj l1)).push (k2.obj l2)).push {cls:=.type "tuple",data:=.seq #[.ref h.objs.size,.ref (h.push (k1.obj l1)).objs.size]}).objs.size]})
theorem Ez(k1 k2:Kn) (l1 l2:Addr) (xs ys:Array K_):Meets (NX.«zip.__new__» ⟨[.type "zip",.ref l1,.ref l2],[]⟩) (fun _ R s=>k1.seq s.heap l1 xs/\k2.seq s.heap l2 ys /\
  R (.ok (.ret (.ref ((((s.heap.push (k1.obj l1)).push (k2.obj l2)).push {cls:=.type "tuple",data:=.seq #[.ref s.heap.objs.size,.ref (s.heap.push (k1.obj l1)).objs.size]}).push {cls:=.type "tuple",data:=.seq #[.none,.none]}).objs.size))) {s with heap:=zh s.heap k1 k2 l1 l2}) :=
 .of_wp fun prog w A R s h=>by
  obtain⟨hp,g,d,tk,os⟩:=s;obtain⟨a1,a2,h⟩:=h;have Z8:=sub_zip;have c1:k1.seq (OM ⟨hp,g,d,tk,os⟩) l1 xs:=a1;have c2:k2.seq (OM ⟨hp.push (k1.obj l1),g,d,tk,os⟩) l2 ys:=k2.tN a2 fun o e=>K9 _ e;wp_walk using Kn.iter k1 c1,Kn.iter k2 c2;exact⟨_,rfl,h⟩
theorem DA{k1 k2:Kn}{Q:K_->Lf->Prop}(a1:k1.seq s.heap l1 xs)(a2:k2.seq s.heap l2 ys)
  (q:∀h' (z TI TO i1 i2:Addr),GT z TI TO i1 i2 l1 l2->s.heap.objs.size<=i1->OX h' z TI TO .none->N5 h' TI (.ref i1) (.ref i2)->(∃a b,N5 h' TO a b)->k1.it h' i1 l1 0->k2.it h' i2 l2 0->(∀c o,s.heap.get? c=some o->h'.get? c=some o)->Q (.ref z) {s with heap:=h'}) :
  wpAny (model prog w) A (call (.type "zip") [.ref l1,.ref l2]) Q E s:=by
 refine callType_new F.called_zip (by decide) (F.typeCall_zip_2 _ _) (F.newCall_zip_2 _ _) (fun obj=>F.args_object_init_3 obj _ _) F.entry_zip_new (Ez k1 k2 l1 l2 xs ys) ⟨a1,a2,?_⟩;have D3:=k1.lt a1;have lt2:=k2.lt a2;have g5:(zh s.heap k1 k2 l1 l2).get? _=some _:=Lu ((((s.heap.push (k1.obj l1)).push (k2.obj l2)).push {cls:=.type "tuple",data:=.seq #[.ref s.heap.objs.size,.ref (s.heap.push (k1.obj l1)).objs.size]}).push {cls:=.type "tuple",data:=.seq #[.none,.none]}) (o:={cls:=.type "zip",data:=.fields #[.none,.bool false,.bool false,.ref ((s.heap.push (k1.obj l1)).push (k2.obj l2)).objs.size,.ref (((s.heap.push (k1.obj l1)).push (k2.obj l2)).push {cls:=.type "tuple",data:=.seq #[.ref s.heap.objs.size,.ref (s.heap.push (k1.obj l1)).objs.size]}).objs.size]}) rfl;have g4:(zh s.heap k1 k2 l1 l2).get? _=some _:=K9 _ (Lu (((s.heap.push (k1.obj l1)).push (k2.obj l2)).push {cls:=.type "tuple",data:=.seq #[.ref s.heap.objs.size,.ref (s.heap.push (k1.obj l1)).objs.size]}) (o:={cls:=.type "tuple",data:=.seq #[.none,.none]}) rfl);have g3:(zh s.heap k1 k2 l1 l2).get? _=some _:=K9 _ (K9 _ (Lu ((s.heap.push (k1.obj l1)).push (k2.obj l2)) (o:={cls:=.type "tuple",data:=.seq #[.ref s.heap.objs.size,.ref (s.heap.push (k1.obj l1)).objs.size]}) rfl));have g2:k2.it (zh s.heap k1 k2 l1 l2) (s.heap.push (k1.obj l1)).objs.size l2 0:=k2.itAt (k2.it0 _ l2) fun o e=>K9 _ (K9 _ (K9 _ e))
 have g1:k1.it (zh s.heap k1 k2 l1 l2) s.heap.objs.size l1 0:=k1.itAt (k1.it0 _ l1) fun o e=>K9 _ (K9 _ (K9 _ (K9 _ e)))
 show _/\_;refine⟨⟨_,g5,rfl⟩,q _ _ _ _ _ _ ⟨?_,?_,?_,?_,D3,lt2⟩ (Lg _) g5 g3 ⟨_,_,g4⟩ g1 g2 fun c o x=>K9 _ (K9 _ (K9 _ (K9 _ (K9 _ x))))⟩ <;>
 ·simp only[NC];exact N8 _
end
def Jf(K:Fg)(k1 k2:Kn)(a b:Addr):It :=
 ⟨fun i H=>∃xs ys,k1.sq K H a xs/\k2.sq K H b ys/\i<xs.length/\i<ys.length,fun i H v H'=>∃T x y,H T=none/\v=.ref T/\H'=upd H T (.tup [x,y])/\(∀xs,k1.sq K H a xs->xs[i]?=some x)/\(∀ys,k2.sq K H b ys->ys[i]?=some y),
  fun i H=>∃xs ys,k1.sq K H a xs/\k2.sq K H b ys/\(xs.length<=i\/ys.length<=i)⟩
theorem Bi{K:Fg}{x1}{pos:Pos}{TI TO:Addr}(D:GT z TI TO i1 i2 a b) :
  pV P w K (.Tuple elts x1 pos) (Jf K k1 k2 a b) [z,TI,TO,i1,i2] z (fun i h=>OX h z TI TO .none/\N5 h TI (.ref i1) (.ref i2)/\(∃x y,N5 h TO x y)/\k1.it h i1 a i/\k2.it h i2 b i) where
 mem:=by simp
 obj:=fun i h ⟨hz,hI,⟨x,y,hO⟩,t1,t2⟩ c hc=>by
  simp only[Lj,Lp,or_false] at hc;rcases hc with rfl|rfl|rfl|rfl|rfl
  ·exact⟨_,hz,fun v q=>by cases (show VB _=QZ v from q)⟩
  ·exact⟨_,hI,fun v q=>by cases (show US _ _=QZ v from q)⟩
  ·exact⟨_,hO,fun v q=>by cases (show US _ _=QZ v from q)⟩
  ·exact k1.hG t1
  ·exact k2.hG t2
 keep:=fun i h h' ⟨hz,hI,⟨x,y,hO⟩,t1,t2⟩ kp=>⟨kp z (by simp) _ hz,kp TI (by simp) _ hI,⟨x,y,kp TO (by simp) _ hO⟩,k1.itAt t1 fun o e=>kp i1 (by simp) o e,k2.itAt t2 fun o e=>kp i2 (by simp) o e⟩
 item:=by
  intro X hP hw hK hc i pins s σ H E I hf ⟨hz,hI,hO,t1,t2⟩ hg;subst hP hw hK;obtain⟨xs,ys,q1,q2,l1,l2⟩:=hg;obtain⟨v1,r1,p1⟩:=k1.inv I q1;obtain⟨v2,r2,p2⟩:=k2.inv I q2;obtain⟨u1,e1,Ze⟩:=r1.get (Lb l1);obtain⟨u2,e2,Zf⟩:=r2.get (Lb l2);obtain⟨n1,n2,Yg,Yv,Xb,XM,Ye,YI,YJ,n12,c1,c2,c3,c4,c5,c6⟩:=m_ D.a D.b D.c D.d D.e D.f;refine(uT D (k1.drw i1 a (Lh D.e) v1.toArray) (k2.drw i2 b (Lh (Lr D.f D.a)) v2.toArray) ⟨hz,hI,hO,⟨t1,p1⟩,⟨t2,p2⟩⟩).1 u1 u2 (by simpa using e1) (by simpa using e2) fun h' Y8 YZ ZL Zh Zi hT all=>⟨_,rfl,?_⟩
  refine Rf Y8 fun h2 Ys sb=>?_
  have nT:∀c∈[z,TI,TO,i1,i2],c≠s.heap.objs.size:=fun c Wh=>by
   simp only[Lj,Lp,or_false] at Wh;rcases Wh with rfl|rfl|rfl|rfl|rfl
   ·exact Lh (Lm hz)
   ·exact Lh (Lm hI)
   ·obtain⟨_,_,q⟩:=hO;exact Lh (Lm q)
   ·obtain⟨_,q,_⟩:=k1.hG t1;exact Lh (Lm q)
   ·obtain⟨_,q,_⟩:=k2.hG t2;exact Lh (Lm q)
  have WV:H s.heap.objs.size=none:=I.hok.fresh (Lg _)
  have I1:Inv X pins σ (upd H s.heap.objs.size (.tup [xs[i],ys[i]])) {s with heap:=s.heap.push {cls:=.type "tuple",data:=.seq #[u1,u2]}} :=
   I.laid (t':=s.toks) (fun b u e=>K9 _ e) (Lg _) ⟨bq,[u1,u2],.cons Ze (.cons Zf .nil),TupD.new _ _⟩
  have zT:s.heap.objs.size≠z:=(nT z (by simp)).symm
  have I2:Inv X pins σ (upd H s.heap.objs.size (.tup [xs[i],ys[i]])) {s with heap:=h2}:=Inv.io (s:={s with heap:=s.heap.push {cls:=.type "tuple",data:=.seq #[u1,u2]}}) (t':=s.toks) (fp:=[z,TI,TO,i1,i2]) I1 (fun c o Wh e=>by
   have hcz:c≠z:=fun x=>Wh (by simp[x])
   rcases QC e with⟨ec,eo⟩|e
   ·rw[ec,eo];exact sb.extBut _ _ zT hT
   ·exact sb.extBut _ _ hcz (all c o Wh e)) fun c Wh=>⟨by rw[aC (nT c Wh)];exact(hf c Wh).1,(hf c Wh).2⟩
  refine⟨.ref s.heap.objs.size,_,I2,rfl,⟨s.heap.objs.size,xs[i],ys[i],WV,rfl,rfl,fun zs hz=>?_,fun zs hz=>?_⟩,⟨Ys,sb.extBut _ _ XM YZ,?_,k1.itAt Zh.1 fun o e=>sb.extBut _ _ n1 e,k2.itAt Zi.1 fun o e=>sb.extBut _ _ n2 e⟩,fun c Wh=>by rw[aC (nT c Wh)];exact(hf c Wh).1⟩
  ·rw[k1.inj I hz q1,Lb l1]
  ·rw[k2.inj I hz q2,Lb l2]
  ·obtain⟨x,y,q⟩:=ZL;exact⟨x,y,sb.extBut _ _ Xb q⟩
 done:=by
  intro X hP hw hK hc i pins s σ H E I hf ⟨hz,hI,hO,t1,t2⟩ hg;subst hP hw hK;obtain⟨xs,ys,q1,q2,le⟩:=hg;obtain⟨v1,r1,p1⟩:=k1.inv I q1;obtain⟨v2,r2,p2⟩:=k2.inv I q2;have e1:=r1.length;have e2:=r2.length
  refine(uT D (k1.drw i1 a (Lh D.e) v1.toArray) (k2.drw i2 b (Lh (Lr D.f D.a)) v2.toArray) ⟨hz,hI,hO,⟨t1,p1⟩,⟨t2,p2⟩⟩).2 (I.ok.hd hc) (by
   rcases le with q|q
   ·exact .inl (by simp;lia)
   ·exact .inr (by simp;lia)) fun h' all=>⟨rfl,I.io (t':=s.toks) (fun c o Wh e=>all c o Wh e) hf⟩
 self:=fun _ _ _ _ _ st q=>Pm st.1 q
section
variable{X:Cx}
def Ak(K:Fg)(k1 k2:Kn)(ta:TA):TI:=fun σ H R=>ta σ H fun vs H1=>∃a b xs ys,vs=[.ref a,.ref b]/\k1.sq K H1 a xs/\k2.sq K H1 b ys/\R (Jf K k1 k2 a b) H1
theorem AU:bootBuiltins "zip"=some (.type "zip"):=by decide +kernel
theorem zd{x y:Expr} {ta:TA}  {x1} {p pos:Pos} (hg:Gl X "zip") (hm:X.mg "zip"=none) (ha:PA X [x,y] ta) (hs:starEach [x,y] X.env=[(false,eval x X.env),(false,eval y X.env)]:=by rfl) (hs2:starEach [y] X.env=[(false,eval y X.env)]:=by rfl) :
  PI X (.Tuple elts x1 tp) (.Call (.Name "zip" p) [x,y] [] pos) (Ak X.K k1 k2 ta):=by
 intro pins s σ H R I h;refine Call_ (fC I hg hm AU (ML (bp (ha pos pins s σ H _ I h) fun us s1 ⟨vs,H1,I1,r1,q1⟩=>?_) (by rw[hs,hs2]) (by rw[hs2];rfl)));obtain⟨a,b,xs,ys,e,s1q,s2q,q⟩:=q1;subst e;obtain⟨u1,u2,rfl,ra,rb⟩:=vals2 r1;cases ra;cases rb;obtain⟨v1,w1,p1⟩:=k1.inv I1 s1q;obtain⟨v2,w2,p2⟩:=k2.inv I1 s2q;refine DA p1 p2 fun h' z TI TO i1 i2 D le hz hI hO t1 t2 kp=>?_
 refine Pm (s:={s1 with heap:=h'}) hz ?_;refine⟨z,[z,TI,TO,i1,i2],_,_,H1,rfl,I1.kept (t':=s1.toks) kp,Bi D,⟨hz,hI,hO,t1,t2⟩,fun c hc=>?_,q⟩
 have YH:s1.heap.objs.size<=c:=by
  have d1:=D.a;have d2:=D.b;have d3:=D.c;have d4:=D.d;simp only[Lj,Lp,or_false] at hc;rcases hc with rfl|rfl|rfl|rfl|rfl
  ·exact MC (LW le (Lr d1 (Lr d2 (Lr d3 d4))))
  ·exact MC (LW le (Lr d1 d2))
  ·exact MC (LW le (Lr d1 (Lr d2 d3)))
  ·exact le
  ·exact MC (LW le d1)
 exact I1.fpOk YH (I1.hok.fresh YH)
end
section
variable{K:Fg}{te:TE}{σ:St}{Q:VK}{H:Hp}
def Ji(g:TG)(n:Nat)(te:TE)(σ:St)(v:V)(H:Hp)(D:Addr)(m i:Nat)(Pv:Nat->Hp->Prop):Prop:=∀us:St,us.length=n->g v (us ++ σ) H fun σ2 H2=>(∃Xk:St,Xk.length=n/\σ2=Xk ++ σ)/\te σ2 H2 (uO D m i Pv)
theorem v4{k1 k2:Kn}{xs ys:List V}(h:∀D,H D=none->∃Pv:Nat->Hp->Prop,Pv 0 (upd H D (.lst []))/\(∀i H2,i<=min xs.length ys.length->Pv i H2->k1.sq K H2 a xs/\k2.sq K H2 b ys) /\
  (∀i x y H2 T,xs[i]?=some x->ys[i]?=some y->Pv i H2->H2 T=none->Ji g n te σ (.ref T) (upd H2 T (.tup [x,y])) D (min xs.length ys.length) i Pv)/\∀H2,Pv (min xs.length ys.length) H2->Q (.ref D) H2):AZ (Jf K k1 k2 a b) n g te σ Q H:=by
 intro D nD;obtain⟨Pv,h0,hl,hs,hd⟩:=h D nD;refine⟨fun i m H=>m=min xs.length ys.length-i/\i<=min xs.length ys.length/\Pv i H,⟨_,rfl,Ml _,h0⟩,?_⟩;rintro i m H ⟨rfl,hi,p⟩;obtain⟨q1,q2⟩:=hl i H hi p;by_cases Wm:i<min xs.length ys.length
 ·refine .inr ⟨⟨xs,ys,q1,q2,by lia,by lia⟩,fun v H' y us hu=>?_⟩;obtain⟨T,x,y,nT,rfl,rfl,z1,z2⟩:=y;exact hs i x y H T (z1 xs q1) (z2 ys q2) p nT us hu
 ·have e:i=min xs.length ys.length:=by lia
  subst e;refine .inl ⟨⟨xs,ys,q1,q2,?_⟩,hd H p⟩;rcases Nat.le_total xs.length ys.length with q|q
  ·exact .inl (by rw[Ol q];exact Lg _)
  ·exact .inr (by rw[N_ q];exact Lg _)
end
open PySem.W (Dat kqdOk)
theorem AccZ.gz{K:Fg}(A:AccZ K H0 l H ds)(r:Rz K H y d)(n:ds.length<sizeLine){Pv:Hp->Prop}(h:∀H2,AccZ K H0 l H2 (ds++[d])->Pv H2):Ja l Pv y H:=by
 obtain⟨xs,h1,h2⟩:=A.at_;refine⟨xs,h1,by rw[h2.length];exact n,h _ ⟨A.am,A.new,xs++[y],L2.am,?_⟩⟩;exact RzL.upd (h2.append (.cons r .nil)) h1
open PySem
section
variable{K:Fg}{σ:St}{H:Hp}{Q:VK}{te:TE}
theorem Gb{wi:TI}(h:wi σ H fun J H1=>AZ J n g te σ Q H1):jK wi n g te σ H Q:=h
theorem JT{k1 k2:Kn}{ta:TA}{R:It->Hp->Prop}(h:ta σ H fun vs H1=>∃a b xs ys,vs=[.ref a,.ref b]/\k1.sq K H1 a xs/\k2.sq K H1 b ys/\R (Jf K k1 k2 a b) H1):Ak K k1 k2 ta σ H R:=h
end
open PySem
section
variable{K:Fg}{σ:St}{H:Hp}{Q:VK}{D:cq}{td ty tv te tk:TE}
theorem Iu(h:tv σ H fun v H1=>td σ H1 fun x H2=>ty σ H2 fun y H3=>∃a H4,x=.ref a/\DPut H3 a y v H4/\D.nx σ H4):yA td ty tv D σ H:=h
end
section
variable{X:Cx}{scope:Scope}
theorem zg{iter:Expr}{pos:Pos}{n:Nat}(ys M:List Str)(c:dm X.env.scope X.N M ys scope)(hc:X.calm=true)(hi:PI X tg iter wi)(hg:∀C s₀ H₀ fp pins,PG (bD X ys M scope (kS scope X.env.cells) C s₀ H₀ fp pins) tg g)(he:∀C s₀ H₀ fp pins,PE (bD X ys M scope (kS scope X.env.cells) C s₀ H₀ fp pins) elt te)
  (hn:ys.length=n:=by rfl) (hs:∀v,foldedSetIterable iter X.env v=pure v:=by intro _;rfl):PE X (.ListComp elt [⟨tg,iter,[],0⟩] scope pos) (jK wi n g te):=by
 subst hn;exact Ht c hc hi hg he hs
end
section
variable{X:Cx}
def qP(K:Fg):List V->Hp->VK->Prop:=fun xs H Q=>∃(a:Addr) (bs:List Bool),xs=[.ref a]/\SqL K H a (bs.map V.bl)/\Q (.bl (bs.all id)) H
def Fq(K:Fg):List V->Hp->VK->Prop:=fun xs H Q=>∃(a:Addr) (bs:List Bool),xs=[.ref a]/\SqL K H a (bs.map V.bl)/\Q (.bl (bs.any id)) H
theorem si:∀{bs:List Bool} {us:List K_},Vals (bs.map V.bl) us->LSm.BoolsAre us bs
 |[],_,.nil=>.nil
 |b :: bs,_,.cons r rr=>by
  cases (show _=Q0 b from r);exact .cons b (si rr)
theorem lU{M:Model}{A:L4}{E:K_->Lf->Prop}{H:Hp}{bs:List Bool}(d:Bool)(I:Inv X pins σ H s)(q1:SqL X.K H a (bs.map V.bl))(hh:A.handled=none)(hM:M=model X.prog X.w)
  {Qr:Bool->K_->Lf->Prop} {f:(Nat->Bool)->Nat->Bool} {r:Bool} (hf:f (fun i=>(bs[i]?).getD d) bs.length=r) (q:∀h' tk,Inv X pins σ H {s with heap:=h',toks:=tk}->Qr r (.bool r) {s with heap:=h',toks:=tk}) :
  wpAny M A (pyIter (.ref a)) (fun it s₂=>∃I fp wr n P St tr,it=.ref I/\Walks X.prog X.w A I fp wr n P St/\St 0 s₂.heap/\TruthOf X.prog X.w A P tr/\∀h' tk,(∀b o,b∉wr->s₂.heap.get? b=some o->h'.get? b=some o)->Qr r (.bool (f tr n)) {s₂ with heap:=h',toks:=tk}) E s:=by
 subst hM;obtain⟨fm,rv,p,_⟩:=I.list q1;have hl:s.heap.IsList a fm.toArray:=p.isList;have hb:=si rv;have Wm:a<s.heap.objs.size:=by obtain⟨_,e,_⟩:=hl;exact Lm e
 refine NB hl ⟨s.heap.objs.size,[s.heap.objs.size,a],[s.heap.objs.size],fm.toArray.size,_,_,fun i=>(bs[i]?).getD d,rfl,Walks.list hh _ a (Lh Wm) fm.toArray,⟨⟨_,Lu _ rfl,rfl,rfl⟩,hl.push _⟩,fun i v s' Q' E' hP hQ=>?_,fun h' tk hk=>?_⟩
 ·obtain⟨b,e,rfl⟩:=hb.get i v (by simpa using hP);dsimp only at hQ;rw[e] at hQ;exact Nk hQ
 ·rw[LC,hb.length,hf];exact q h' tk (I.kept (t':=tk) fun b o e=>hk b o (fun z=>absurd (Lm e) (by rw[Lx.mp z];exact Oy _)) (K9 _ e))
theorem fZ(hc:X.calm=true):iZ X (.builtin "all") (qP X.K):=by
 intro pins s σ H xs us Q I r h;obtain⟨a,bs,rfl,q1,q⟩:=h;obtain⟨u,rfl,ru⟩:=vals1 r;cases ru;refine call_all_walk (lU (f:=fun tr n=>(Nh n).all tr) (r:=bs.all id) true I q1 (by have:=I.ok.hd hc;simpa using this) rfl (LSm.range_all bs) (Qr:=fun _ v s'=>EP X pins σ Q v s') fun h' tk I2=>⟨.bl _,H,I2,rfl,q⟩)
theorem Dl(hc:X.calm=true):iZ X (.builtin "any") (Fq X.K):=by
 intro pins s σ H xs us Q I r h;obtain⟨a,bs,rfl,q1,q⟩:=h;obtain⟨u,rfl,ru⟩:=vals1 r;cases ru;refine call_any_walk (lU (f:=fun tr n=>(Nh n).any tr) (r:=bs.any id) false I q1 (by have:=I.ok.hd hc;simpa using this) rfl (LSm.range_any bs) (Qr:=fun _ v s'=>EP X pins σ Q v s') fun h' tk I2=>⟨.bl _,H,I2,rfl,q⟩)
theorem mM:bootBuiltins "all"=some (.builtin "all"):=by decide +kernel
theorem IR:bootBuiltins "any"=some (.builtin "any"):=by decide +kernel
end
def xk(J:It)(n:Nat)(g:TG)(tc:TT)(te:TE)(σ:St)(Q:VK)(H1:Hp):Prop:=∀D,H1 D=none->∃W:Nat->Nat->Hp->Prop,(∃m,W 0 m (upd H1 D (.lst [])))/\∀i m H,W i m H ->
 (J.stop i H/\Q (.ref D) H)\/(J.go i H/\∀v H',J.yld i H v H'->∀us:St,us.length=n->g v (us ++ σ) H' fun σ2 H2=>(∃Xk:St,Xk.length=n/\σ2=Xk ++ σ)/\tc σ2 H2 fun b H3 =>
  if b=true then te σ2 H3 fun y H4=>∃xs,H4 D=some (.lst xs)/\xs.length<sizeLine/\∃m',m'<m/\W (i+1) m' (upd H4 D (.lst (xs++[y]))) else ∃m',m'<m/\W (i+1) m' H3)
def qh(wi:TI)(n:Nat)(g:TG)(tc:TT)(te:TE):TE:=fun σ H Q=>wi σ H fun J H1=>xk J n g tc te σ Q H1
section
variable{X:Cx}{ys M:List Str}{scope:Scope}{cl:List (Str×Addr)}{C:Addr}{s:Lf}{H:Hp}{fp:List Addr}{pins:List (Addr×Obj)}{σ:St}
theorem w_{R:R6->Lf->Prop}{s:Lf}{iter:Expr}{scope:Scope}{pos:Pos}{acc:K_}(I:Nat->Lf->Prop)
  (turn:∀n s,I n s->wpAny (model prog w) A (pyNext it) (fun r s1=>match r with
   |none=>R (.ok .next) s1
   |some v=>wpAny (model prog w) A (letOwnedTupleGo target it v) (fun _ s2=>wpAny (model prog w) A (assign target env v) (fun _ s3=>wpAny (model prog w) A (isTrue c env (eval c env)) (fun ok s4 =>
     if ok=true then wpAny (model prog w) A (eval elt env) (fun x s5=>wpAny (model prog w) A (call (.builtin "list.append") [acc,x]) (fun _ s6=>∃m,m<n/\I m s6) (fun _ _=>False) s5) (fun _ _=>False) s4
     else ∃m,m<n/\I m s4) (fun _ _=>False) s3) (fun _ _=>False) s2) (fun _ _=>False) s1) (fun _ _=>False) s) (n:Nat) (h:I n s) :
  codeAny (model prog w) A (.compLoop (.ListComp elt [⟨target,iter,[c],0⟩] scope pos) 0 it acc env) R s:=by
 refine codeAny_loop rfl I (fun k s1 hI=>?_) n h;have no:∀{α:Type} {t:Sem α} {P:α->Lf->Prop} {E:K_->Lf->Prop} {z:Lf},wpAny (model prog w) A t P (fun _ _=>False) z->wpAny (model prog w) A t P E z:=fun q=>L6 q (fun _ _ z=>z) fun _ _ z=>z.elim
 show wpAny _ _ ((compTurn (.ListComp elt [⟨target,iter,[c],0⟩] scope pos) 0 it acc env).onRaise _) _ _ s1;refine wpAny_noted ?_;rw[compTurn_list];refine K8 (Pw (K8 (no (L6 (turn k s1 hI) (fun r s2 h2=>?_) fun _ _ z=>z))));cases r with
 |none=>exact Le h2
 |some v =>
  refine K8 (no (L6 h2 (fun _ s3 h3=>?_) fun _ _ z=>z));refine K8 (no (L6 h3 (fun _ s4 h4=>?_) fun _ _ z=>z));refine K8 (wpAny_tests_one (no (L6 h4 (fun ok s5 h5=>?_) fun _ _ z=>z)));cases ok with
  |true =>
   rw[if_pos rfl] at h5;refine K8 (K8 (no (L6 h5 (fun x s6 h6=>?_) fun _ _ z=>z)));exact K8 (no (L6 h6 (fun _ s7 h7=>Le (Le ⟨rfl,h7⟩)) fun _ _ z=>z))
  |false =>
   rw[if_neg LP] at h5;exact Le ⟨rfl,h5⟩
theorem xb{iter:Expr}{pos:Pos}{E:K_->Lf->Prop}{QQ:Addr->Hp->Prop}{RR:K_->Addr->R6->Lf->Prop}(I:Inv X pins σ H s)(c:mR X ys M scope cl)(hc:X.calm=true)
  (hg:∀C s₀ H₀ fp pins,PG (bD X ys M scope cl C s₀ H₀ fp pins) tg g) (ht:∀C s₀ H₀ fp pins,PT (bD X ys M scope cl C s₀ H₀ fp pins) cn tc) (he:∀C s₀ H₀ fp pins,PE (bD X ys M scope cl C s₀ H₀ fp pins) elt te) (T:pV X.prog X.w X.K tg J fp it tn) (st:tn 0 s.heap) (fk:∀b∈fp,ft X pins H b)
  (h:xk J ys.length g tc te σ (fun v H'=>∃D,v=.ref D/\QQ D H') H)
  (fin:∀D C H' s',s.heap.objs.size<=C->s'.heap.get? C≠none->(∃m,s'.heap.Ns C m)->H' C=none->Inv X pins σ H' s'->QQ D H'->RR (.ref D) C (.ok .next) s') :
  wpAny (model X.prog X.w) X.A (newList []) (fun acc s₃=>wpAny (model X.prog X.w) X.A (newFunctionEnv scope X.env.globals cl [] X.env.qual none .none (some X.env)) (fun XS s₄ =>
   codeAny (model X.prog X.w) X.A (.compStart (.ListComp elt [⟨tg,iter,[cn],0⟩] scope pos) 0 (.ref it) acc {XS with scope:=relabel scope X.env}) (RR acc XS.locals) s₄) E s₃) E s:=by
 refine MF (Ta c.nocell (by intro y hy;simp at hy) (fun h1 X_ Yp=>?_) c.kind);dsimp only at X_ Yp ⊢;have hf:H s.heap.objs.size=none:=I.hok.fresh (Lg _)
 have I3:Inv X pins σ (upd H s.heap.objs.size (.lst [])) {s with heap:=s.heap.push {cls:=.type "list",dict:=none,data:=.seq ([]:List K_).toArray}} :=
  I.laid (t':=s.toks) (fun b u e=>K9 _ e) (Lg _) ⟨by decide,[],_,.nil,Lu _ rfl⟩
 have eD:∀b u,s.heap.get? b=some u->b≠s.heap.objs.size:=fun b u e=>Lh (Lm e)
 have Yk:∀b∈fp,ft X pins (upd H s.heap.objs.size (.lst [])) b/\∃o,(s.heap.push {cls:=.type "list",dict:=none,data:=.seq ([]:List K_).toArray}).get? b=some o:=fun b hb=>by
  obtain⟨o,eo,_⟩:=T.obj 0 _ st b hb;obtain⟨f1,f2⟩:=fk b hb;exact⟨⟨by rw[aC (eD b o eo)];exact f1,f2⟩,o,K9 _ eo⟩
 have I4:=vK (tk:=s.toks+([]:List (Str×K_)).length) I3 c rfl X_ Yp Yk;obtain⟨W,⟨m0,w0⟩,turn⟩:=h _ hf
 have st4:tn 0 h1:=T.keep 0 _ _ st fun b hb o e=>by
  have e2:=K9 {cls:=.type "list",dict:=none,data:=.seq ([]:List K_).toArray} e;exact Yp.extBut b o (Lh (Lm e2)) (K9 _ e2)
 have Xd:∀{H':Hp},(∀b∈fp,H' b=none)->∀b∈fp,ft (bD X ys M scope cl (s.heap.push {cls:=.type "list",dict:=none,data:=.seq ([]:List K_).toArray}).objs.size {s with heap:=s.heap.push {cls:=.type "list",dict:=none,data:=.seq ([]:List K_).toArray}} (upd H s.heap.objs.size (.lst [])) fp pins) [] H' b :=
  fun hn b hb=>⟨hn b hb,(I4.ok.exf b hb).1,I4.ok.exfs b hb,.inl hb,(I4.ok.exf b hb).2,fun p hp=>(Yk b hb).1.2.2.2.2.2 p (by simpa[bD] using hp)⟩
 have loop:∀s4:Lf,s4 = {s with heap:=h1,toks:=s.toks+([]:List (Str×K_)).length} ->
   codeAny (model X.prog X.w) X.A (.compLoop (.ListComp elt [⟨tg,iter,[cn],0⟩] scope pos) 0 (.ref it) (.ref s.heap.objs.size) (compEnvC scope cl (s.heap.push {cls:=.type "list",dict:=none,data:=.seq ([]:List K_).toArray}).objs.size X.env))
    (RR (.ref s.heap.objs.size) (s.heap.push {cls:=.type "list",dict:=none,data:=.seq ([]:List K_).toArray}).objs.size) s4:=by
  rintro s4 rfl
  refine w_ (fun n s'=>∃(i:Nat) (us:St) (H':Hp),us.length=ys.length/\Inv (bD X ys M scope cl (s.heap.push {cls:=.type "list",dict:=none,data:=.seq ([]:List K_).toArray}).objs.size {s with heap:=s.heap.push {cls:=.type "list",dict:=none,data:=.seq ([]:List K_).toArray}} (upd H s.heap.objs.size (.lst [])) fp pins) [] (us ++ σ) H' s'/\tn i s'.heap/\(∀b∈fp,H' b=none)/\W i n H')
   ?_ m0 ⟨0,_,_,MM,I4,st4,fun b hb=>(Yk b hb).1.1,w0⟩
  rintro n s5 ⟨i,us,H5,lu,I5,Yw,YY,w5⟩;rcases turn i n H5 w5 with⟨stop,Dq,eDq,q⟩|⟨go,step⟩
  ·cases eDq;refine bp (T.done (bD X ys M scope cl _ _ _ _ _) rfl rfl rfl hc i [] s5 _ H5 _ I5 (Xd YY) Yw stop) fun r s6 ⟨er,I6⟩=>?_
   subst er;obtain⟨m,Z5,_⟩:=id I6.loc;obtain⟨o6,_,_,ho6,_⟩:=id Z5;exact fin _ _ H5 s6 (by rw[NC];exact Op _) (fun z=>by have z':=ho6.symm.trans z;cases z') ⟨m,Z5⟩ I6.free (mo I3 Yk I6) q
  ·refine bp (T.item (bD X ys M scope cl _ _ _ _ _) rfl rfl rfl hc i [] s5 _ H5 _ I5 (Xd YY) Yw go) fun r s6 ⟨u,er,h6⟩=>?_
   subst er;refine bp h6 fun _ s7 ⟨v',H7,I7,r7,y7,Yx,fr7⟩=>?_
   have I7':=I7.pinned (Xd fr7) (T.obj _ _ Yx);refine L6 (hg _ _ _ _ _ _ s7 _ H7 v' u _ I7' r7 (step v' H7 y7 us lu)) (fun _ s8 ⟨σ8,H8,I8,⟨Xk,lu',e8⟩,q8⟩=>?_) fun _ _ z=>z.elim
   refine L6 (ht _ _ _ _ _ _ s8 _ H8 _ I8 q8) (fun ok s9 ⟨H9,I9,q9⟩=>?_) fun _ _ z=>z.elim
   subst e8;cases ok with
   |true =>
    rw[if_pos rfl] at q9 ⊢;refine L6 (he _ _ _ _ _ _ s9 _ H9 _ I9 q9) (fun y s10 ⟨yv,XQ,I10,ry,xs,Yq,hlen,m',hm,w10⟩=>?_) fun _ _ z=>z.elim
    refine L6 (ca (X:=bD X ys M scope cl _ _ _ _ _) _ s10 _ XQ (.ref s.heap.objs.size) [yv] (.ref s.heap.objs.size) [y] (fun _ H11=>H11=upd XQ s.heap.objs.size (.lst (xs++[yv]))) I10 rfl (.cons ry .nil) ⟨_,xs,yv,rfl,rfl,Yq,hlen,rfl⟩) (fun _ s11 ⟨z,H11,I11,rz,q11⟩=>?_) fun _ _ z=>z.elim
    subst q11;refine⟨m',hm,i+1,Xk,_,lu',I11.fV (pins:=[]),T.keep _ _ _ Yx fun b hb o e=>(I11.pin (b,o) (LO _ (LO _ (cD hb e)))).1,fun b hb=>?_,w10⟩;obtain⟨o,e,_⟩:=T.obj _ _ Yx b hb;exact(I11.pin (b,o) (LO _ (LO _ (cD hb e)))).2.1
   |false =>
    rw[if_neg LP] at q9 ⊢;obtain⟨m',hm,w9⟩:=q9;refine⟨m',hm,i+1,Xk,_,lu',I9.fV (pins:=[]),T.keep _ _ _ Yx fun b hb o e=>(I9.pin (b,o) (LO _ (LO _ (cD hb e)))).1,fun b hb=>?_,w9⟩;obtain⟨o,e,_⟩:=T.obj _ _ Yx b hb;exact(I9.pin (b,o) (LO _ (LO _ (cD hb e)))).2.1
 exact Sh (loop _ rfl) (T.self _ 0 _ _ _ st4 (loop _ rfl))
theorem yZ{iter:Expr}{pos sp:Pos}{i n:Nat}{y:Str}(ys M:List Str)(hN:X.N.Nodup)(hy:X.N[i]?=some y)(ly:X.env.scope.names.lookup y=some .local)(c0:dm X.env.scope X.N M ys scope)(hc:X.calm=true)(hi:PI X tg iter wi)
  (hg:∀C s₀ H₀ fp pins,PG (bD X ys M scope (kS scope X.env.cells) C s₀ H₀ fp pins) tg g) (ht:∀C s₀ H₀ fp pins,PT (bD X ys M scope (kS scope X.env.cells) C s₀ H₀ fp pins) cn tc) (he:∀C s₀ H₀ fp pins,PE (bD X ys M scope (kS scope X.env.cells) C s₀ H₀ fp pins) elt te) (hn:ys.length=n:=by rfl)
  (hsw:swapsWith (.ListComp elt [⟨tg,iter,[cn],0⟩] scope pos) (some (.Name y py)) sp.line X.env=pure true:=by rfl) (hs:∀v,foldedSetIterable iter X.env v=pure v:=by intro _;rfl) :
  PS X (.Assign [.Name y py] (.ListComp elt [⟨tg,iter,[cn],0⟩] scope pos) sp) (aR (qh wi n g tc te) (aH i)):=by
 subst hn;intro pins s σ H D I h;have c:=c0.sc I.ok
 have hi':PI X tg iter (fun σ H R=>∃R',(∀J H1,R' J H1->R J H1)/\wi σ H R'):=by
  intro pins s σ H R I ⟨R',hR,hw⟩;refine bp (hi pins s σ H R' I hw) fun v s1 h1=>bp h1 fun Zx s2 ⟨it,fp,tn,J,H',e,I',T,t0,fk,r⟩=>⟨it,fp,tn,J,H',e,I',T,t0,fk,hR J H' r⟩
 rw[exec_Assign_Name_used _ _ _ _ hsw];refine K8 (Pw (K8 ?_));show wpAny _ X.A (do let _ <- comprehension (.ListComp elt [⟨tg,iter,[cn],0⟩] scope pos) scope X.env _ (newList []) false (eval iter X.env) (some (assign (.Name y py) X.env))) _ _ s;refine K8 (L6 (RC (use:=some (assign (.Name y py) X.env)) (Q:=fun _ s'=>SP X pins D .next s') rfl hs c.clos c.kind c.names (bp (hi' pins s σ H (fun J H1=>xk J ys.length g tc te σ (fun v H'=>∃Da,v=.ref Da/\D.nx (σ.set i (some (.ref Da))) H') H1) I ⟨_,fun J H1 q Da nD=>?_,h⟩) fun v s1 h1=>bp h1 fun Zx s2 h2=>?_)) (fun _ s' hq=>Le (Le hq)) fun _ _ z=>z)
 ·obtain⟨W,w0,t⟩:=q Da nD;exact⟨W,w0,fun i m H w=>(t i m H w).imp (fun z=>⟨z.1,Da,rfl,z.2⟩) id⟩
 obtain⟨it,fp,tn,J,H2,rfl,I2,T,Zj,fk2,h3⟩:=h2;refine xb (E:=X.xe) (QQ:=fun Da H'=>D.nx (σ.set i (some (.ref Da))) H') I2 c hc hg ht he T Zj fk2 h3 fun Da C H' s' hC hl ns fr I' q=>?_
 obtain⟨m,hn⟩:=ns;refine wpAny_assign_Name (ql I' hN hy (.inl ly) (v:=.ref Da) rfl (fun s3 I3 ⟨a,hsa,ha⟩=>?_) (.inr ly))
 have nC:C≠a:=by
  rcases ha with z|z
  ·rw[z];exact(I2.fpOk hC fr).2.1
  ·exact fun w'=>(I2.fpOk hC fr).2.2.2.2.1 y a z w'.symm
 refine⟨m,hn.sameBut hsa nC,fun h' hs'=>⟨_,H',I3.turned (t':=s3.toks) (fun b o hb e=>(hs'.2 b hb).trans e) fr (I2.fpOk hC fr).2.1 (I2.fpOk hC fr).2.2.2.1 (I2.fpOk hC fr).2.2.2.2.1 (I2.fpOk hC fr).2.2.2.2.2,q⟩⟩
end
section
variable{K:Fg}{tc:TT}{te:TE}{σ:St}{Q:VK}{H:Hp}
theorem Gc{wi:TI}(h:wi σ H fun J H1=>xk J n g tc te σ Q H1):qh wi n g tc te σ H Q:=h
def KZ(n i:Nat)(Pv:Nat->Hp->Prop):Hp->Prop:=fun H2=>∃m',m'<n-i/\m'=n-(i+1)/\i+1<=n/\Pv (i+1) H2
def Jj(g:TG)(n:Nat)(tc:TT)(te:TE)(σ:St)(v:V)(H:Hp)(D:Addr)(m i:Nat)(Pv:Nat->Hp->Prop):Prop:=∀us:St,us.length=n->g v (us ++ σ) H fun σ2 H2=>(∃Xk:St,Xk.length=n/\σ2=Xk ++ σ)/\tc σ2 H2 fun b H3=>if b=true then te σ2 H3 (uO D m i Pv) else KZ m i Pv H3
theorem oC{n i:Nat}{Pv:Nat->Hp->Prop}(hi:i<n)(h:Pv (i+1) H2):KZ n i Pv H2:=⟨n-(i+1),by lia,rfl,hi,h⟩
theorem AK{k1 k2:Kn}{xs ys:List V}(h:∀D,H D=none->∃Pv:Nat->Hp->Prop,Pv 0 (upd H D (.lst []))/\(∀i H2,i<=min xs.length ys.length->Pv i H2->k1.sq K H2 a xs/\k2.sq K H2 b ys) /\
  (∀i x y H2 T,xs[i]?=some x->ys[i]?=some y->Pv i H2->H2 T=none->Jj g n tc te σ (.ref T) (upd H2 T (.tup [x,y])) D (min xs.length ys.length) i Pv)/\∀H2,Pv (min xs.length ys.length) H2->Q (.ref D) H2):xk (Jf K k1 k2 a b) n g tc te σ Q H:=by
 intro D nD;obtain⟨Pv,h0,hl,hs,hd⟩:=h D nD;refine⟨fun i m H=>m=min xs.length ys.length-i/\i<=min xs.length ys.length/\Pv i H,⟨_,rfl,Ml _,h0⟩,?_⟩;rintro i m H ⟨rfl,hi,p⟩;obtain⟨q1,q2⟩:=hl i H hi p;by_cases Wm:i<min xs.length ys.length
 ·refine .inr ⟨⟨xs,ys,q1,q2,by lia,by lia⟩,fun v H' y us hu=>?_⟩;obtain⟨T,x,y,nT,rfl,rfl,z1,z2⟩:=y;exact hs i x y H T (z1 xs q1) (z2 ys q2) p nT us hu
 ·have e:i=min xs.length ys.length:=by lia
  subst e;refine .inl ⟨⟨xs,ys,q1,q2,?_⟩,hd H p⟩;rcases Nat.le_total xs.length ys.length with q|q
  ·exact .inl (by rw[Ol q];exact Lg _)
  ·exact .inr (by rw[N_ q];exact Lg _)
end
def a8(i:Int):Str:=toString i
def wn(te:TE):TE:=fun σ H Q=>te σ H fun x H1=>∃z,x=.str z/\z.length<=sizeLine/\Q (.str z) H1
def tD(te:TE):TE:=fun σ H Q=>te σ H fun x H1=>∃i,x=.int i/\i.natAbs.log2<1920/\Q (.str (a8 i)) H1
def xo:List TE->Str->TE
 |[],acc=>fun _ H Q=>Q (.str acc) H
 |t :: r,acc=>fun σ H Q=>t σ H fun x H1=>∃y,x=.str y/\(acc++y).length<=sizeLine/\xo r (acc++y) σ H1 Q
def B2:List V->Hp->VK->Prop:=fun xs H Q=>∃i,xs=[.int i]/\i.natAbs.log2<1920/\Q (.str (a8 i)) H
def vq(K:Fg):V->List V->Hp->VK->Prop:=fun x xs H Q=>∃(z:Str) (a:Addr) (ws:List Str),x=.str z/\xs=[.ref a]/\SqL K H a (ws.map V.str)/\(ws.map (·.length)).sum+ws.length*z.length<=16777216/\Q (.str (UV z ws)) H
section
variable{X:Cx}{pos:Pos}
theorem oR(h:PE X e te):PE X (.FormattedValue e (-1) none pos) (wn te):=by
 intro pins s σ H Q I q;refine Tf (bp (h pins s σ H _ I q) fun v s1 ⟨x,H1,I1,r1,z,e1,lz,q1⟩=>?_);subst e1;obtain⟨t,rfl⟩:=r1;exact formatField_str (fun t' tk=>⟨.str z,H1,I1.tok tk,⟨t',rfl⟩,q1⟩) lz
theorem j8(h:PE X e te):PE X (.FormattedValue e (-1) none pos) (tD te):=by
 intro pins s σ H Q I q;refine Tf (bp (h pins s σ H _ I q) fun v s1 ⟨x,H1,I1,r1,i,e1,li,q1⟩=>?_);subst e1;obtain⟨t,rfl⟩:=r1;exact formatField_int_small li ⟨.str (a8 i),H1,I1.tok _,⟨_,rfl⟩,q1⟩
inductive PJ (X:Cx):List Expr->List TE->Prop
 |nil:PJ X [] []
 |cons {e:Expr} {es:List Expr} {t:TE} {ts:List TE}:PE X e t->PJ X es ts->PJ X (e :: es) (t :: ts)
theorem PJ.run:∀{es:List Expr} {ts:List TE},PJ X es ts->∀(acc:Str) (pins:List (Addr×Obj)) (s:Lf) (σ:St) (H:Hp) (Q:VK),acc.length<=sizeLine->Inv X pins σ H s->xo ts acc σ H Q ->
  wpAny (model X.prog X.w) X.A (joinParts acc (evalEach es X.env)) (EP X pins σ Q) X.xe s
 |_,_,.nil,acc,pins,s,σ,H,Q,la,I,q=>joinParts_nil ⟨.str acc,H,I.tok _,⟨_,rfl⟩,q⟩ la
 |_,_,.cons he r,acc,pins,s,σ,H,Q,la,I,q=>by
  refine joinParts_cons (bp (he pins s σ H _ I q) fun v s1 ⟨x,H1,I1,r1,y,e1,ly,q1⟩=>?_);subst e1;obtain⟨t,rfl⟩:=r1;exact⟨ly,r.run (acc++y) pins s1 σ H1 Q ly I1 q1⟩
theorem Hu(h:PE X e te):PE X (.JoinedStr [e] pos) te:=fun pins s σ H Q I q=>JoinedStr_one (h pins s σ H Q I q)
theorem Ch{e e2:Expr}{es:List Expr}(h:PJ X (e :: e2 :: es) ts):PE X (.JoinedStr (e :: e2 :: es) pos) (xo ts Mj):=fun pins s σ H Q I q=>JoinedStr_many (h.run Mj pins s σ H Q (by decide) I q)
theorem r_:iZ X (.type "str") B2:=by
 intro pins s σ H xs us Q I r h;obtain⟨i,rfl,li,q⟩:=h;obtain⟨u,rfl,ru⟩:=vals1 r;obtain⟨t,rfl⟩:=ru;exact P.str_of_int li ⟨.str (a8 i),H,I.tok _,⟨_,rfl⟩,q⟩
theorem vf:∀{ws:List Str} {us:List K_},Vals (ws.map V.str) us->StrsAre us ws
 |[],_,.nil=>.nil
 |w :: ws,_,.cons r rr=>by
  obtain⟨t,rfl⟩:=r;exact .cons w t (vf rr)
theorem zw:Ba X "str.join" (vq X.K):=by
 intro pins s σ H x xs v us Q I rx rv h;obtain⟨z,a,ws,rfl,rfl,sq,le,q⟩:=h;obtain⟨t,rfl⟩:=rx;obtain⟨u,rfl,ru⟩:=vals1 rv;cases ru;obtain⟨fm,rvs,p,_⟩:=I.list sq;exact join_list (items:=fm.toArray) p.isList (vf rvs) le fun t' k=>⟨.str _,H,I.tok k,⟨t',rfl⟩,q⟩
end
section
variable{K:Fg}{σ:St}{H:Hp}{Q:VK}{te:TE}
theorem Iq(h:te σ H fun x H1=>∃z,x=.str z/\z.length<=sizeLine/\Q (.str z) H1):wn te σ H Q:=h
theorem Ir(h:te σ H fun x H1=>∃i,x=.int i/\i.natAbs.log2<1920/\Q (.str (a8 i)) H1):tD te σ H Q:=h
theorem Kb(h:Q (.str acc) H):xo [] acc σ H Q:=h
theorem Kc{t:TE}{acc:Str}(h:t σ H fun x H1=>∃y,x=.str y/\(acc++y).length<=sizeLine/\xo r (acc++y) σ H1 Q):xo (t :: r) acc σ H Q:=h
theorem g9{acc y:Str}(n:(acc++y).length<=sizeLine)(h:xo r (acc++y) σ H Q):∃z,V.str y=.str z/\(acc++z).length<=sizeLine/\xo r (acc++z) σ H Q:=⟨y,rfl,n,h⟩
theorem CP{y:Str}{P:Str->Prop}(n:y.length<=sizeLine)(h:P y):∃z,V.str y=.str z/\z.length<=sizeLine/\P z:=⟨y,rfl,n,h⟩
theorem D7{i:Int}(n:i.natAbs.log2<1920)(h:Q (.str (a8 i)) H):B2 [.int i] H Q:=⟨i,rfl,n,h⟩
theorem D_{z:Str}{ws:List Str}(sq:SqL K H a (ws.map V.str))(le:(ws.map (·.length)).sum+ws.length*z.length<=16777216)(h:Q (.str (UV z ws)) H):vq K (.str z) [.ref a] H Q:=⟨z,a,ws,rfl,rfl,sq,le,h⟩
end
def Jw(z:Str):It:=⟨fun i _=>i<z.cps.size,fun i H x H'=>H'=H/\∃c,z.cps[i]?=some c/\x=.str ⟨#[c]⟩,fun i _=>z.cps.size<=i⟩
theorem Bj{K:Fg}  (z:Str) (t:Tok) (it:Addr):pV P w K tg (Jw z) [it] it (fun i h=>h.IsStrIter it "str_ascii_iterator" z t i) where
 mem:=Lx.mpr rfl
 obj:=fun i h ⟨o,e,c,d⟩ b hb=>by cases Lx.mp hb;exact⟨o,e,fun v q=>by rw[d] at q;cases q⟩
 keep:=fun i h h' ⟨o,e,r⟩ k=>⟨o,k it (Lx.mpr rfl) o e,r⟩
 item:=fun X hP hw hK hc i pins s σ H E I hf st hg=>by
  subst hP hw hK;have hg':i<z.cps.size:=hg;obtain⟨f0,f1,f2,f3,f4,f5⟩:=hf it (Lx.mpr rfl);refine wpAny_pyNext_ascii_item st (c:=z.cps[i]) (Mv hg') fun h' Xy sb=>?_
  have I1:Inv X pins σ H {s with heap:=h',toks:=s.toks+1}:=I.turned (t':=s.toks+1) (fun b o hb e=>(sb.2 b hb).trans e) f0 f1 f3 f4 f5;obtain⟨o,e,c,d⟩:=id Xy;exact⟨_,rfl,C3 (s:={s with heap:=h',toks:=s.toks+1}) e c d (by decide) ⟨.str ⟨#[z.cps[i]]⟩,H,I1,⟨_,rfl⟩,⟨rfl,_,Mv hg',rfl⟩,Xy,fun b hb=>(hf b hb).1⟩⟩
 done:=fun X hP hw hK hc i pins s σ H E I hf st hg=>by
  subst hP hw hK;obtain⟨f0,f1,f2,f3,f4,f5⟩:=hf it (Lx.mpr rfl);exact wpAny_pyNext_ascii_end (I.ok.hd hc) st (Si hg) fun h' eb=>⟨rfl,I.turned (t':=s.toks) (fun b o hb e=>eb b o hb e) f0 f1 f3 f4 f5⟩
 self:=fun _ _ _ _ _ st h=>wpAny_pyIter_striter_ascii st h
def CU(tl:TE):TI:=fun σ H R=>tl σ H fun x H1=>∃z:Str,x=.str z/\z.cps.all (· < 128)=true/\R (Jw z) H1
section
variable{X:Cx}{tg:Expr}
theorem DP(hl:PE X l tl):PI X tg l (CU tl):=by
 intro pins s σ H R I h;refine bp (hl pins s σ H _ I h) fun v s1 ⟨x,H1,I1,r1,z,e,ha,q⟩=>?_
 subst e;obtain⟨t,rfl⟩:=r1;refine wpAny_pyIter_ascii ha ⟨s1.heap.objs.size,[s1.heap.objs.size],_,_,H1,rfl,I1.kept (t':=s1.toks) fun b o e=>K9 _ e,Bj z t _,⟨_,Lu _ rfl,rfl,rfl⟩,fun b hb=>?_,q⟩;cases Lx.mp hb;exact I1.fpOk (Lg _) (I1.hok.fresh (Lg _))
theorem Im{H:Hp}{te:TE}{R:It->Hp->Prop}(h:te σ H fun x H1=>∃z:Str,x=.str z/\z.cps.all (· < 128)=true/\R (Jw z) H1):CU te σ H R:=h
theorem v5{z:Str}{Q:VK}{H:Hp}(h:∀D,H D=none->∃Pv:Nat->Hp->Prop,Pv 0 (upd H D (.lst []))/\(∀i c H2,z.cps[i]?=some c->Pv i H2->GU te σ (.str ⟨#[c]⟩) H2 D z.cps.size i Pv)/\∀H2,Pv z.cps.size H2->Q (.ref D) H2):dS (Jw z) te σ Q H:=by
 intro D nD;obtain⟨Pv,h0,hs,hd⟩:=h D nD;refine⟨fun i m H=>m=z.cps.size-i/\i<=z.cps.size/\Pv i H,⟨z.cps.size,by simp,Ml _,h0⟩,?_⟩;rintro i m H ⟨rfl,hi,p⟩;by_cases Wm:i<z.cps.size
 ·refine .inr ⟨Wm,fun v H' y=>?_⟩;obtain⟨e,c,hc,e2⟩:=y;subst e e2;exact hs i c _ hc p
 ·have e:i=z.cps.size:=by lia
  subst e;exact .inl ⟨Lg _,hd H p⟩
def EO(K:Fg)(te:TE):TE:=fun σ H Q=>te σ H fun x H1=>∃a,x=.ref a/\((∃xs,SqL K H1 a xs)\/∃xs,SqT K H1 a xs)/\Q (.bl true) H1
theorem Do:AnswersAll (fun s=>s.TypeIs (.ref a) "list") (.ref a) [.type "list",.type "tuple"] [true,false] :=
 .cons (.of_true (by rfl) F.sub_list_list) (.cons (.of_false_list (by decide) (by rfl) F.sub_list_tuple) .nil)
theorem GC:AnswersAll (fun s=>s.TypeIs (.ref a) "tuple") (.ref a) [.type "list",.type "tuple"] [false,true] :=
 .cons (.of_false_tuple (by decide) (by rfl) F.sub_tuple_list) (.cons (.of_true (by rfl) F.sub_tuple_tuple) .nil)
theorem FA{p p1 p2 pos:Pos} {x1} (hgi:Gl X "isinstance") (hmi:X.mg "isinstance"=none) (ZU:Gl X "list") (Z2:X.mg "list"=none) (hgt:Gl X "tuple") (hmt:X.mg "tuple"=none) (he:PE X e te)
  (hs:starEach [e,.Tuple [.Name "list" p1,.Name "tuple" p2] x1 tp] X.env=[(false,eval e X.env),(false,eval (.Tuple [.Name "list" p1,.Name "tuple" p2] x1 tp) X.env)]:=by rfl)
  (hs2:starEach [.Tuple [.Name "list" p1,.Name "tuple" p2] x1 tp] X.env=[(false,eval (.Tuple [.Name "list" p1,.Name "tuple" p2] x1 tp) X.env)]:=by rfl) :
  PE X (.Call (.Name "isinstance" p) [e,.Tuple [.Name "list" p1,.Name "tuple" p2] x1 tp] [] pos) (EO X.K te):=by
 intro pins s σ H Q I h;refine MX (fC I hgi hmi aG ?_);refine NL ?_ (by rw[hs,hs2]) (by rw[hs2];rfl);rw[hs];refine(show wpAny _ _ (spliced (backTo pos [(false,eval e X.env),(false,eval (.Tuple [.Name "list" p1,.Name "tuple" p2] x1 tp) X.env)])) _ _ s from MW (bp (he pins s σ H _ I h) fun u s1 ⟨x,H1,I1,r1,a,ex,hq,q⟩=>MW ?_));subst ex;cases r1;have ha:PA X [.Name "list" p1,.Name "tuple" p2] (ag (tC (.ty "list")) (ag (tC (.ty "tuple")) aq)):=ac (br ZU Z2 eW rfl) (ac (br hgt hmt bB rfl) ah);refine TN (x1:=x1) (bp (ha tp pins s1 σ H1 (fun vs H2=>vs=[.ty "list",.ty "tuple"]/\H2=H1) I1 ⟨rfl,rfl⟩) fun us s2 ⟨xs,H2,I2,r2,e2,e3⟩=>?_);subst e2 e3;obtain⟨u1,u2,rfl,Ze,Zf⟩:=vals2 r2;obtain rfl:u1=N0 "list":=Ze;obtain rfl:u2=N0 "tuple":=Zf;refine⟨bq,NY ?_⟩;have I3:Inv X pins σ H2 {s2 with heap:=s2.heap.push {cls:=.type "tuple",dict:=none,data:=.seq ([.type "list",.type "tuple"]:List K_).toArray}}:=I2.kept (t':=s2.toks) fun b o e=>K9 _ e
 rcases hq with⟨xs,q1⟩|⟨xs,q1⟩
 ·obtain⟨fm,_,p,_⟩:=I3.list q1;obtain⟨o,ho,hc,_⟩:=p.isList;exact Vm (b:=true) Do ⟨o,ho,hc⟩ (Lu _ rfl) rfl fun tk=>⟨.bl true,H2,I3.tok tk,rfl,q⟩
 ·obtain⟨fm,_,p,_⟩:=I3.tuple q1;obtain⟨o,ho,hc,_⟩:=id p;exact Vm (b:=true) GC ⟨o,ho,hc⟩ (Lu _ rfl) rfl fun tk=>⟨.bl true,H2,I3.tok tk,rfl,q⟩
theorem Ik{K:Fg}{H:Hp}{Q:VK}{te:TE}(h:te σ H fun x H1=>∃a,x=.ref a/\((∃xs,SqL K H1 a xs)\/∃xs,SqT K H1 a xs)/\Q (.bl true) H1):EO K te σ H Q:=h
end
def CV(K:Fg)(tl:TE):TI:=fun σ H R=>tl σ H fun x H1=>∃a,x=.ref a/\(((∃xs,SqL K H1 a xs)/\R (uN K a) H1)\/((∃xs,SqT K H1 a xs)/\R (sH K a) H1))
section
variable{X:Cx}{tg:Expr}
theorem gW{pos:Pos} (hg:Gl X x) (hm:∃t,X.mg x=some (.int i t)) (hd:(x == ("__debug__":Str))=false:=by decide):PE X (.Name x pos) (tC (.int i)):=by
 obtain⟨t,e⟩:=hm;exact zi hg e ⟨t,rfl⟩ hd
theorem DQ(hl:PE X l tl):PI X tg l (CV X.K tl):=by
 intro pins s σ H R I h;refine bp (hl pins s σ H _ I h) fun v s1 ⟨x,H1,I1,r1,a,e,q1⟩=>?_
 subst e;cases r1;have own:∀b∈[s1.heap.objs.size],ft X pins H1 b:=fun b hb=>by cases Lx.mp hb;exact I1.fpOk (Lg _) (I1.hok.fresh (Lg _))
 rcases q1 with⟨⟨xs,hq⟩,q⟩|⟨⟨xs,hq⟩,q⟩
 ·obtain⟨fm,_,p,_⟩:=I1.list hq;exact NB p.isList ⟨_,[_],_,_,H1,rfl,I1.kept (t':=s1.toks) fun b o e=>K9 _ e,qd a _,⟨_,Lu _ rfl,rfl,rfl⟩,own,q⟩
 ·obtain⟨fm,_,p,_⟩:=I1.tuple hq;exact MV (show s1.heap.IsTuple a fm.toArray from p) ⟨_,[_],_,_,H1,rfl,I1.kept (t':=s1.toks) fun b o e=>K9 _ e,lV a _,⟨_,Lu _ rfl,rfl,rfl⟩,own,q⟩
end
section
variable{K:Fg}{te:TE}{σ:St}{Q:VK}{H:Hp}
theorem Io{R:It->Hp->Prop}(h:te σ H fun x H1=>∃a,x=.ref a/\(((∃xs,SqL K H1 a xs)/\R (uN K a) H1)\/((∃xs,SqT K H1 a xs)/\R (sH K a) H1))):CV K te σ H R:=h
theorem v9(e:SqL K H a xs\/SqT K H a xs)(h:∀D,H D=none->∃Pv:Nat->Hp->Prop,Pv 0 (upd H D (.lst []))/\(∀i H2,Pv i H2->Same H H2)/\(∀i x H2,xs[i]?=some x->Pv i H2->GU te σ x H2 D xs.length i Pv)/\∀H2,Pv xs.length H2->Q (.ref D) H2) :
  ∃b,V.ref a=.ref b/\(((∃xs,SqL K H b xs)/\dS (uN K b) te σ Q H)\/((∃xs,SqT K H b xs)/\dS (sH K b) te σ Q H)):=by
 refine⟨a,rfl,?_⟩;rcases e with e|e
 ·refine .inl ⟨⟨xs,e⟩,kQ (xs:=xs) fun D nD=>?_⟩;obtain⟨Pv,h0,h1,h2,h3⟩:=h D nD;exact⟨Pv,h0,fun i H2 _ p=>(h1 i H2 p).seq e,h2,h3⟩
 ·refine .inr ⟨⟨xs,e⟩,fY (xs:=xs) fun D nD=>?_⟩;obtain⟨Pv,h0,h1,h2,h3⟩:=h D nD;exact⟨Pv,h0,fun i H2 _ p=>(h1 i H2 p).seqT e,h2,h3⟩
theorem zW{lo:Option Int}(e:SqT K H a xs)(n : ¬ (HT.sIx xs.length 0 lo=0/\HT.sIx xs.length xs.length hi=xs.length))(h:∀p,H p=none->Q (.ref p) (upd H p (.tup (f_ xs lo hi)))):j6 K (.ref a) lo hi H Q:=⟨a,xs,rfl,e,n,h⟩
theorem mn{bs:List Bool}(e:SqL K H a (bs.map V.bl))(h:Q (.bl (bs.all id)) H):qP K [.ref a] H Q:=⟨a,bs,rfl,e,h⟩
theorem Kv{bs:List Bool}(e:SqL K H a (bs.map V.bl))(h:Q (.bl (bs.any id)) H):Fq K [.ref a] H Q:=⟨a,bs,rfl,e,h⟩
theorem Dg{n i:Nat}{Pv:Nat->Hp->Prop}(hn:n<=1000)(hi:i<n)(hP:∀j H3,Pv j H3↔AccZ K H0 D H3 ((LI j b).map RQ))(A:Pv i H2)(S:Same H2 H3):uO D n i Pv (.bl b) H3:=by
 have A2:=((hP i H2).mp A).on S;refine cA hi (A2.gz (.bl b) (by rw[La,MM,show sizeLine=16777216 by decide];lia) fun H4 A4=>?_);rw[hP,Th,LD];exact A4
theorem AccZ.bls{bs:List Bool}(A:AccZ K H0 l H (bs.map RQ)):SqL K H l (bs.map V.bl):=by
 obtain⟨xs,h1,h2⟩:=A.at_
 have:∀{vs:List V} {bs:List Bool},RzL K H vs (bs.map RQ)->vs=bs.map V.bl:=by
  intro vs bs
  induction bs generalizing vs with
  |nil=>intro h;cases h;rfl
  |cons b bs ih =>
   intro h;cases h with
   |cons h1 h2 =>
    cases h1;rw[ih h2];rfl
 rw[this h2] at h1;exact SqL.of h1
end
end L2
namespace Gd
def gd(a b:Int):Int:=(Int.gcd a b:Nat)
theorem Gi(a b:Int):gd b (UW a b)=gd a b:=by
 unfold gd
 have e:UW a b=a+b*(-(Tj a b)):=by
  rw[UX,Int.mul_neg];lia
 rw[e,Int.gcd_add_mul_left_right,Int.gcd_comm]
theorem Gj{b:Int}(h:b≠0):(UW a b).natAbs<b.natAbs:=by
 rcases (by lia:0<b\/b<0) with p|p
 ·have h1:=Sj a p;have h2:=Uv a p;lia
 ·have e:UW a b = -(UW (-a) (-b)):=by
   rw[UX,UX,Int.neg_fdiv_neg];rw[Int.neg_mul];lia
  have h1:=Sj (-a) (b:=-b) (by lia);have h2:=Uv (-a) (b:=-b) (by lia);lia
theorem Gh(a:Int):gd a 0=(a.natAbs:Int):=by
 unfold gd;rw[Int.gcd_zero_right]
theorem IF(a:Int):(if a<0 then -a else a)=gd a 0:=by
 rw[Gh];split <;> lia
theorem vS{b:Int}(h:b≠0):0<gd a b:=by
 unfold gd
 have:Int.gcd a b≠0:=fun e=>h (Int.gcd_eq_zero_iff.mp e).2
 lia
theorem IG{b:Int}(h:b≠0):gd a b<=(b.natAbs:Int):=by
 unfold gd
 have:=Int.gcd_le_natAbs_right a h
 lia
structure Low (top YT q p:Int):Prop where
 pos:0<p
 low:gd q p=1
 worth:q*YT=top*p
theorem D6{b d:Int}(hb:b≠0)(hd:d=gd t b/\0<b\/d = - gd t b/\b<0):Low t b (Tj t d) (Tj b d):=by
 have gp:=vS (a:=t) hb;have d1:gd t b∣t:=Vn t b;have d2:gd t b∣b:=UY t b;have e1:d∣t:=by rcases hd with⟨e,_⟩|⟨e,_⟩ <;> rw[e];exact d1;exact Tk.mpr d1
 have e2:d∣b:=by rcases hd with⟨e,_⟩|⟨e,_⟩ <;> rw[e];exact d2;exact Tk.mpr d2
 have d0:d≠0:=by rcases hd with⟨e,_⟩|⟨e,_⟩ <;> lia
 obtain⟨q,rfl⟩:=e1;obtain⟨p,rfl⟩:=e2;rw[Pz _ d0,Pz _ d0];refine⟨?_,?_,?_⟩
 ·rcases hd with⟨e,z⟩|⟨e,z⟩
  ·exact RE z (by lia) |> fun h=>h
  ·have z':0<(-d)*p:=by rw[Int.neg_mul];lia
   exact RE z' (by lia)
 ·have m:gd (d*q) (d*p)=(d.natAbs:Int)*gd q p:=by
   unfold gd;rw[Int.gcd_mul_left];simp
  have n:gd (d*q) (d*p)=(d.natAbs:Int):=by
   rcases hd with⟨e,z⟩|⟨e,z⟩ <;> lia
  rw[n] at m;have k:(d.natAbs:Int)*gd q p=(d.natAbs:Int)*1:=by lia
  exact Int.eq_of_mul_eq_mul_left (by lia) k
 ·rw[<- Int.mul_assoc,Int.mul_comm q d]
theorem vU{t d:Int}(h:d≠0)(hd:d∣t):(Tj t d).natAbs<=t.natAbs:=by
 obtain⟨q,rfl⟩:=hd;rw[Pz _ h,Int.natAbs_mul];exact Nat.le_mul_of_pos_left _ (by lia)
theorem FV{b d:Int}(hb:b≠0)(hd:d=gd t b/\0<b\/d = - gd t b/\b<0):(Tj t d).natAbs<=t.natAbs/\(Tj b d).natAbs<=b.natAbs:=by
 have gp:=vS (a:=t) hb;have d1:gd t b∣t:=Vn t b;have d2:gd t b∣b:=UY t b;have d0:d≠0:=by rcases hd with⟨e,_⟩|⟨e,_⟩ <;> lia
 refine⟨vU d0 ?_,vU d0 ?_⟩
 ·rcases hd with⟨e,_⟩|⟨e,_⟩ <;> rw[e];exact d1;exact Tk.mpr d1
 ·rcases hd with⟨e,_⟩|⟨e,_⟩ <;> rw[e];exact d2;exact Tk.mpr d2
theorem wide{i:Int}(h:i.natAbs<10000000000000000000000000000000000000001):i.natAbs<2 ^ 9000 :=
 LR h (by
  have:10000000000000000000000000000000000000001<=2 ^ 133:=by decide
  exact Mh this (Pb (by decide) (by decide)))
theorem Bf{i:Int}(h:i.natAbs<2 ^ 9000):i.natAbs<2 ^ 20000:=LR h (Pb (by decide) (by decide))
end Gd
namespace Fr
open PySem L2
def Bv:Sp:=fun vs H Q _=>∃a b:Int,vs=[.int a,.int b]/\Q (.int (Gd.gd a b)) H
def EQ:TS:=(av (xY (bg (aB A0 (ae 1) (tC (.int 0))))
 (av (aR (aB JF (ae 0) (ae 1)) (aH 2))
 (av (aR (ae 1) (aH 0))
 (aR (ae 2) (aH 1)))))
 (aY (bY JH (ag (ae 0) aq))))
theorem DL(a b:Int)(H:Hp)(D:cq)(k:D.rt (.int (Gd.gd a b)) H):EQ D [some (.int a),some (.int b),none] H:=by
 refine Bh (fun σ H'=>H'=H/\∃(i j:Int) (v:Option V),σ=[some (.int i),some (.int j),v]/\Gd.gd i j=Gd.gd a b)
  (fun σ _=>match σ with | [_,some (.int j),_]=>j.natAbs|_=>0) ⟨rfl,a,b,none,rfl,rfl⟩ ?_ ?_
 ·rintro σ H' ⟨rfl,i,j,v,rfl,e⟩;refine⟨_,rfl,rfl,_,rfl,Kx (fun hj=>?_) (fun hj=>?_)⟩
  ·refine⟨_,rfl,_,rfl,_,_,rfl,rfl,hj,_,rfl,_,rfl,⟨rfl,j,i.fmod j,_,rfl,(Gd.Gi i j).trans e⟩,?_⟩;exact Gd.Gj hj
  ·subst hj;refine⟨_,rfl,_,rfl,?_⟩;rw[Gd.IF,e];exact k
 ·rintro σ H' R R' h ⟨v,e,sc,c,ec,q⟩;exact⟨v,e,sc,c,ec,h _ _ q⟩
def G6:TS:=(av (aR (a4 Bv [] E0 (ag (ae 0) (ag (ae 1) aq))) (aH 2))
 (aY (dX (ag (aB wF (ae 0) (ae 2)) (ag (aB wF (ae 1) (ae 2)) aq)))))
def EM:TS:=(av (a6 (bg (aB B_ (ae 1) (tC (.int 0)))) gO a9)
 (av (a6 (bg (aB fw (ae 1) (tC (.int 0)))) (aR (tC (.int 1)) (aH 1)) a9) G6))
open PySem.W (Dat kqdOk)
def cellOf(ns:List Int)(k:Int):Int:=(ns[k.toNat]?).getD 0
def qp(K:Fg):Sp:=fun vs H Q _=>∃(a:Addr) (ns:List Int) (k:Int),vs=[.ref a,.int k]/\SqL K H a (ns.map V.int)/\0<=k/\Q (.int (cellOf ns k)) H
def G7(K:Fg):TS:=(av (a6 (bg (aB B_ (ae 1) (bY (cE K) (ag (ae 0) aq))))
 (aY (aB (bz K) (ae 0) (ae 1)))
 a9)
 (aY (tC (.int 0))))
theorem Fi{K:Fg}{ns:List Int}{k:Int}{D:cq}(hS:SqL K H a (ns.map V.int))(h0:0<=k)(q:D.rt (.int (cellOf ns k)) H):G7 K D [some (.ref a),some (.int k)] H:=by
 have el:(ns.map V.int).length=ns.length:=La _;refine⟨_,rfl,_,rfl,a,_,rfl,.inl hS,_,_,rfl,rfl,_,rfl,IA (fun c=>?_) (fun c=>?_)⟩
 ·rw[el] at c;have hk:k.toNat<ns.length:=by lia
  have e:k=((k.toNat:Nat):Int):=by lia
  have z:cellOf ns k=ns[k.toNat]:=by
   unfold cellOf;rw[Lb hk];rfl
  have w:mO (ns.map V.int) ((k.toNat:Nat):Int)=some (.int ns[k.toNat]):=bQ (by rw[Li];simp[hk]);rw[<- e] at w;rw[z] at q;exact⟨_,rfl,_,rfl,a,_,_,_,rfl,rfl,hS,w,q⟩
 ·rw[el] at c
  have z:cellOf ns k=0:=by
   unfold cellOf;rw[NI (by lia)];rfl
  rw[z] at q;exact q
def nW:Sp:=fun vs H Q _=>∃i:Int,vs=[.int i]/\Q (.bl true) H
def DD (K:Fg):TS:=(aY (jL (bY (eO K) (ag (ae 0) (ag (tC (.ty "int")) aq))) (Bt (bY (eO K) (ag (ae 0) (ag (tC (.ty "bool")) aq))))))
theorem BG{K:Fg}{D:cq}(q:D.rt (.bl true) H):DD K D [some (.int i)] H :=
 ⟨_,rfl,_,_,_,_,rfl,TyOf.int i,HS,_,rfl,wY ⟨_,rfl,_,_,_,_,rfl,TyOf.int i,HU,_,rfl,q⟩⟩
end Fr
namespace Kd
end Kd
namespace Ex0
open PySem L2 Fr Kd
structure Ad where
 V:Addr
 c0:Addr
 c1:Addr
 c2:Addr
 c3:Addr
 c4:Addr
 c5:Addr
 c6:Addr
 c7:Addr
 c8:Addr
 c9:Addr
 c10:Addr
 c11:Addr
 c12:Addr
 c13:Addr
open PySem.W (mroIn clsIn typeIn findIn specialIn takesIn)
abbrev BX:List K_:=[.type "ValueError",.type "Exception",.type "BaseException",.type "object"]
theorem DY{K:Fg}{V:Addr}{d:Ql}(c:clsIn K q=some d)(m:d.mro=[.ref q,.ref V]++BX)(t:K_):mroIn K q t=some (([LH q,.ref V]++BX).contains t):=by
 unfold mroIn;rw[c];show(if d.mro.isEmpty then none else some (d.mro.contains t))=_;rw[m];rfl
theorem zy{K:Fg}{V:Addr}{d:Ql}(c:clsIn K q=some d)(m:d.mro=[.ref q,.ref V]++BX):mroIn K q (.ref V)=some true:=by
 rw[DY c m];exact congrArg some (Qf.mpr (by simp))
theorem DX{K:Fg}{V:Addr}{d:Ql}(c:clsIn K q=some d)(m:d.mro=[.ref q,.ref V]++BX)(h:BX.contains t=true):mroIn K q t=some true:=by
 rw[DY c m];exact congrArg some (Qf.mpr (LO _ (Qf.mp h)))
end Ex0
namespace L2
open PySem PySem.SetTable
def KO(m:Nat):MH:={mask:=m,place:=#[],dummies:=#[],finger:=0,led:=true,moves:=0,plain:=true}
def pW(m:Nat)(p:Probe):Probe:=(KO m).advance p
def st(m:Nat)(h:Int):Probe:=(KO m).probeStart h
def cQ(m:Nat):Nat->Probe->Probe
 |0,p=>p
 |n+1,p=>cQ m n (pW m p)
theorem eA(m:Nat):∀(a b:Nat) (p:Probe),cQ m (a+b) p=cQ m b (cQ m a p)
 |0,b,p=>by rw[QR];rfl
 |a+1,b,p=>by rw[show a+1+b=(a+b)+1 by lia];exact eA m a b (pW m p)
theorem Be(m n:Nat)(p:Probe):cQ m (n+1) p=pW m (cQ m n p):=by rw[eA m n 1 p];rfl
theorem sx(m:Nat)(p:Probe):(pW m p).dummy=p.dummy:=by unfold pW Pn;split <;> rfl
theorem pY(m:Nat):∀(n:Nat) (p:Probe),(cQ m n p).dummy=p.dummy
 |0,_=>rfl
 |n+1,p=>by rw[cQ,pY m n,sx]
theorem qH(m i:Nat):runEnd m i-i<=9:=by unfold runEnd;split <;> lia
theorem Dr{p:Probe}(h:p.more<=9):(pW m p).more<=9:=by
 unfold pW Pn;split
 ·show p.more-1<=9;lia
 ·exact qH _ _
theorem ng(m:Nat):∀(n:Nat) {p:Probe},p.more<=9->(cQ m n p).more<=9
 |0,_,h=>h
 |n+1,_,h=>ng m n (Dr h)
theorem yb(m:Nat)(h:Int):(st m h).more<=9:=qH _ _
def lp(m:Nat)(x:Nat×Nat):Nat×Nat:=leap m x.1 x.2
def iR(m:Nat):Nat->Nat×Nat->Nat×Nat
 |0,x=>x
 |n+1,x=>iR m n (lp m x)
theorem fN{p:Probe}(h:0<p.more):pW m p = {p with j:=p.j+1,more:=p.more-1}:=by unfold pW Pn;rw[if_pos h]
theorem cO{p:Probe}(h:p.more=0):pW m p = {p with j:=(lp m (p.i,p.perturb)).1,more:=runEnd m (lp m (p.i,p.perturb)).1-(lp m (p.i,p.perturb)).1,i:=(lp m (p.i,p.perturb)).1,perturb:=(lp m (p.i,p.perturb)).2}:=by
 unfold pW Pn;rw[if_neg (by lia)];rfl
theorem sK(m:Nat):∀(r:Nat) (p:Probe),p.more=r->∃q,cQ m (r+1) p=q/\q.j=(lp m (p.i,p.perturb)).1/\q.i=(lp m (p.i,p.perturb)).1/\q.perturb=(lp m (p.i,p.perturb)).2
 |0,p,h=>⟨_,rfl,by rw[cQ,cQ,cO h],by rw[cQ,cQ,cO h],by rw[cQ,cQ,cO h]⟩
 |r+1,p,h=>by
  have e:cQ m (r+1+1) p=cQ m (r+1) {p with j:=p.j+1,more:=p.more-1}:=by rw[cQ,fN (by lia)]
  obtain⟨q,h1,h2,h3,h4⟩:=sK m r {p with j:=p.j+1,more:=p.more-1} (by show p.more-1=r;lia);exact⟨q,e.trans h1,h2,h3,h4⟩
theorem va(m:Nat):∀(k:Nat) (p:Probe),p.more<=9->∃n,n<=10*(k+1)/\(cQ m n p).j=(iR m (k+1) (p.i,p.perturb)).1/\(cQ m n p).i=(iR m (k+1) (p.i,p.perturb)).1/\(cQ m n p).perturb=(iR m (k+1) (p.i,p.perturb)).2
 |0,p,h=>by
  obtain⟨q,h1,h2,h3,h4⟩:=sK m p.more p rfl;exact⟨p.more+1,by lia,by rw[h1];exact h2,by rw[h1];exact h3,by rw[h1];exact h4⟩
 |k+1,p,h=>by
  obtain⟨q,h1,h2,h3,h4⟩:=sK m p.more p rfl;have hq:q.more<=9:=h1 ▸ ng m _ h;obtain⟨n,g1,g2,g3,g4⟩:=va m k q hq;have e:iR m (k+1) (q.i,q.perturb)=iR m (k+1+1) (p.i,p.perturb):=by rw[h3,h4];rfl
  rw[e] at g2 g3 g4;exact⟨p.more+1+n,by lia,by rw[eA,h1];exact g2,by rw[eA,h1];exact g3,by rw[eA,h1];exact g4⟩
theorem uv(m:Nat):∀(a b:Nat) (x:Nat×Nat),iR m (a+b) x=iR m b (iR m a x)
 |0,b,x=>by rw[QR];rfl
 |a+1,b,x=>by rw[show a+1+b=(a+b)+1 by lia];exact uv m a b (lp m x)
theorem gE(m:Nat):∀(a:Nat) (x:Nat×Nat),(iR m a x).2=x.2 / 32 ^ a
 |0,x=>by simp[iR]
 |a+1,x=>by
  rw[iR,gE m a];show x.2 / 32 / 32 ^ a=x.2 / 32 ^ (a+1);rw[Nat.div_div_eq_div_mul,Nat.pow_succ,Nat.mul_comm]
theorem zB(m:Nat):∀(a:Nat) (x:Nat×Nat),(iR m (a+1) x).1<m+1
 |0,x=>Uw _ (Sk _)
 |a+1,x=>zB m a (lp m x)
def lc(m:Nat):Nat->Nat->Nat
 |0,i=>i
 |n+1,i=>lc m n ((i*5+1) % (m+1))
theorem pd(m:Nat):∀(a i:Nat),(iR m a (i,0)).1=lc m a i
 |0,_=>rfl
 |a+1,i=>by
  have e:lp m (i,0)=((i*5+1) % (m+1),0):=by unfold lp leap;simp
  rw[iR,e,pd m a];rfl
def jp(m:Nat):Prop:=∀i,i<m+1->∀j,j<m+1->∃k,k<m+1/\lc m k i=j
def KA(m:Nat):Bool:=(Nh (m+1)).all fun i=>(Nh (m+1)).all fun j=>(Nh (m+1)).any fun k=>lc m k i == j
theorem Av(h:KA m=true):jp m:=by
 intro i hi j hj;have h1:=MA.mp h i (NS.mpr hi);have h2:=MA.mp h1 j (NS.mpr hj);obtain⟨k,h3,h4⟩:=RS.mp h2;exact⟨k,NS.mp h3,by simpa using h4⟩
theorem KB:jp 7:=Av (by decide +kernel)
theorem IH:jp 31:=Av (by decide +kernel)
theorem ID(F:jp m){p:Probe}(h1:p.more<=9)(h2:p.perturb<2 ^ 64){j:Nat}(hj:j<m+1):∃n,n<10*turns m/\(cQ m n p).j=j:=by
 obtain⟨k,hk,ek⟩:=F (iR m 13 (p.i,p.perturb)).1 (zB m 12 _) j hj
 have z:(iR m 13 (p.i,p.perturb)).2=0:=by
  rw[gE];exact Vo (LR h2 (by decide))
 have e:(iR m (12+k+1) (p.i,p.perturb)).1=j:=by
  rw[show 12+k+1=13+k by lia,uv];have e2:iR m 13 (p.i,p.perturb)=((iR m 13 (p.i,p.perturb)).1,0):=OT rfl z;rw[e2,pd];exact ek
 obtain⟨n,g1,g2,_⟩:=va m (12+k) p h1;exact⟨n,by unfold turns;lia,g2.trans e⟩
theorem Gx(h:Int):bits h<2 ^ 64:=by unfold bits;lia
theorem iu(m:Nat)(h:Int):(st m h).perturb<2 ^ 64:=Gx h
theorem uL{p:Probe}(h:p.perturb<2 ^ 64):(pW m p).perturb<2 ^ 64:=by
 unfold pW Pn;split
 ·exact h
 ·show p.perturb / 32<2 ^ 64;lia
theorem jC(m:Nat):∀(n:Nat) {p:Probe},p.perturb<2 ^ 64->(cQ m n p).perturb<2 ^ 64
 |0,_,h=>h
 |n+1,_,h=>jC m n (uL h)
theorem vy{t:MH} (hd : ∀ j, t.slot j ≠ .dummy) (hashAt:Nat->Int) (h:Int) : ∀ (fuel:Nat) (p:Probe), (∃ n, n<fuel/\t.slot (cQ t.mask n p).j=.empty) ->
    ∃ n, n<fuel/\(∀ k, k<n -> ∃ i, t.slot (cQ t.mask k p).j=.live i/\hashAt i≠h) /\
      ((t.slot (cQ t.mask n p).j=.empty/\NZ t hashAt h fuel p=some (.empty (cQ t.mask n p).j p.dummy)) \/
       (∃ i, t.slot (cQ t.mask n p).j=.live i/\hashAt i=h/\NZ t hashAt h fuel p=some (.candidate (cQ t.mask n p).j i (cQ t.mask (n + 1) p))))
  |0, _, ⟨_, h0, _⟩ => absurd h0 (by lia)
  |fuel + 1, p, ⟨n, h0, h1⟩ => by
    cases hs:t.slot p.j with
    |empty => exact⟨0, by lia, fun k hk => absurd hk (by lia), .inl ⟨hs, by rw[NZ, hs]; rfl⟩⟩
    |dummy => exact absurd hs (hd _)
    |live i =>
      by_cases e:hashAt i=h
      · refine⟨0, by lia, fun k hk => absurd hk (by lia), .inr ⟨i, hs, e, ?_⟩⟩
        rw[NZ, hs];show(if hashAt i == h then _ else _)=_;rw[if_pos (by simpa using e)]; rfl
      · have hn : ∃ n, n<fuel/\t.slot (cQ t.mask n (pW t.mask p)).j=.empty := by
          cases n with
          |zero => rw[cQ, hs] at h1; exact absurd h1 (by simp)
          |succ n => exact⟨n, by lia, h1⟩
        obtain⟨n', g0, g1, g2⟩ := vy hd hashAt h fuel (pW t.mask p) hn
        have ego:NZ t hashAt h (fuel + 1) p=NZ t hashAt h fuel (pW t.mask p) := by
          rw[NZ, hs];show(if hashAt i == h then _ else _)=_;rw[if_neg (by simpa using e)]; rfl
        refine⟨n' + 1, by lia, ?_, ?_⟩
        · intro k hk
          cases k with
          |zero => exact⟨i, hs, e⟩
          |succ k => exact g1 k (by lia)
        · rw[ego]
          rcases g2 with⟨a, b⟩|⟨i', a, b, c⟩
          · exact .inl ⟨a, by rw[b, sx]; rfl⟩
          · exact .inr ⟨i', a, b, c⟩
theorem vG(m:Nat):∀(a b i:Nat),lc m (a+b) i=lc m b (lc m a i)
 |0,b,i=>by rw[QR];rfl
 |a+1,b,i=>by rw[show a+1+b=(a+b)+1 by lia];exact vG m a b _
theorem pT(xs:Array Nat)(j:Nat)(hs:∀a b,a<b->b<xs.size->xs.getD a j<xs.getD b j):∀(fuel lo hi:Nat),lo<=hi->hi<=xs.size->hi-lo<=fuel->(∀k,k<lo->xs.getD k j<j)->(∀k,hi<=k->k<xs.size->¬ xs.getD k j<j) ->
  lo<=below.go xs j fuel lo hi/\below.go xs j fuel lo hi<=xs.size/\(∀k,k<below.go xs j fuel lo hi->xs.getD k j<j)/\(∀k,below.go xs j fuel lo hi<=k->k<xs.size->¬ xs.getD k j<j)
 |0,lo,hi,h1,h2,h3,h4,h5=>by
  have:lo=hi:=by lia
  subst this;exact⟨Lg _,h2,h4,h5⟩
 |fuel+1,lo,hi,h1,h2,h3,h4,h5=>by
  unfold below.go;by_cases hl:lo<hi
  ·rw[if_pos hl];show lo<=(if xs.getD ((lo+hi) / 2) j<j then _ else _)/\_;by_cases hm:xs.getD ((lo+hi) / 2) j<j
   ·rw[if_pos hm]
    have:=pT xs j hs fuel ((lo+hi) / 2+1) hi (by lia) h2 (by lia) (fun k hk=>by
     rcases Ny k ((lo+hi) / 2) with g|g
     ·exact Lr (hs k _ g (by lia)) hm
     ·have:k=(lo+hi) / 2:=by lia
      rw[this];exact hm) h5
    exact⟨by lia,this.2⟩
   ·rw[if_neg hm]
    exact pT xs j hs fuel lo ((lo+hi) / 2) (by lia) (by lia) (by lia) h4 (fun k h6 h7 h8=>by
     rcases Ny ((lo+hi) / 2) k with g|g
     ·exact hm (Lr (hs _ k g h7) h8)
     ·have:k=(lo+hi) / 2:=by lia
      rw[this] at h8;exact hm h8)
  ·rw[if_neg hl]
   have:lo=hi:=by lia
   subst this;exact⟨Lg _,h2,h4,h5⟩
def xi(l:List Nat):Prop:=l.Pairwise (· < ·)
theorem Bu(h:xi l)(d:Nat):∀a b,a<b->b<l.toArray.size->l.toArray.getD a d<l.toArray.getD b d:=by
 intro a b h1 h2;have h3:b<l.length:=by simpa using h2
 have:=NH.mp h a b (by lia) h3 h1
 simpa[Q_,h3,show a<l.length by lia] using this
theorem iX(h:xi l)(j:Nat):below l.toArray j<=l.length/\(∀k x,k<below l.toArray j->l[k]?=some x->x<j)/\(∀k x,below l.toArray j<=k->l[k]?=some x->j<=x):=by
 have:=pT l.toArray j (Bu h j) l.toArray.size 0 l.toArray.size (by lia) (Lg _) (by lia) (fun k hk=>absurd hk (by lia)) (fun k h1 h2=>absurd h2 (by lia))
 obtain⟨_,h2,h3,h4⟩:=this
 have gd:∀k x,l[k]?=some x->k<l.length/\l.toArray.getD k j=x:=by
  intro k x hx;obtain⟨hk,e⟩:=Ld.mp hx;exact⟨hk,by simp[Q_,hk,e]⟩
 refine⟨by unfold below;simpa using h2,?_,?_⟩
 ·intro k x hk hx
  have:=h3 k hk
  rw[(gd k x hx).2] at this;exact this
 ·intro k x hk hx
  have:=h4 k hk (by simpa using(gd k x hx).1)
  rw[(gd k x hx).2] at this;lia
theorem fM(h:xi l){j i:Nat}(hi:l[i]?=some j):below l.toArray j=i:=by
 obtain⟨h1,h2,h3⟩:=iX h j;rcases Ov i (below l.toArray j) with g|g|g
 ·exact absurd (h2 i j g hi) (by lia)
 ·exact g.symm
 ·obtain⟨hk,e⟩:=Ld.mp hi;have hb:below l.toArray j<l.length:=by lia
  have h4:=h3 (below l.toArray j) _ (Lg _) (Lb hb);have h5:=NH.mp h (below l.toArray j) i hb hk g;lia
theorem ES(h:xi l){j:Nat}(hj:j∉l):xi (l.take (below l.toArray j)++j :: l.drop (below l.toArray j)):=by
 obtain⟨h1,h2,h3⟩:=iX h j
 have ht:∀x∈l.take (below l.toArray j),x<j:=by
  intro x hx;obtain⟨k,hk,e⟩:=List.mem_take_iff_getElem.mp hx;exact h2 k x (by lia) (by rw[<- e];exact Lb _)
 have hd:∀x∈l.drop (below l.toArray j),j<x:=by
  intro x hx;obtain⟨k,hk,e⟩:=List.mem_drop_iff_getElem.mp hx
  have:=h3 (below l.toArray j+k) x (by lia) (by rw[<- e];exact Lb _)
  have X9:x≠j:=fun e2=>hj (e2 ▸ QD hx)
  lia
 unfold xi;rw[List.pairwise_append];refine⟨SK (UO _ _) h,?_,?_⟩
 ·rw[PM];exact⟨hd,SK (List.drop_sublist _ _) h⟩
 ·intro a ha b hb;rcases Lj.mp hb with rfl|hb
  ·exact ht a ha
  ·exact Lr (ht a ha) (hd b hb)
theorem hJ{α:Type}(l:List α)(p:Nat)(x:α)(_hp:p<=l.length):insertAt l.toArray p x=(l.take p++x :: l.drop p).toArray:=by
 unfold insertAt;apply Array.ext';simp[List.extract_eq_take_drop];rw[Lq (by simp)]
theorem fu{t:MH}{l:List Nat}(hp:t.place=l.toArray)(hs:xi l){i j:Nat}(h:l[i]?=some j):t.slot j=.live i:=by
 unfold V2;rw[hp];show(if l.toArray[below l.toArray j]? == some j then _ else _)=_;rw[fM hs h,if_pos (by simpa using h)]
theorem iB{t:MH}{l:List Nat}(hp:t.place=l.toArray)(hd:t.dummies = #[]){j:Nat}(h:j∉l):t.slot j=.empty:=by
 unfold V2;rw[hp,hd];show(if l.toArray[below l.toArray j]? == some j then _ else _)=_;rw[if_neg,if_neg]
 ·simp[has,below,below.go]
 ·intro e;exact h (Ll (by simpa using e))
theorem i5{t:MH}{l:List Nat}(hp:t.place=l.toArray)(hd:t.dummies = #[])(hs:xi l)(h:t.slot j=.live i):l[i]?=some j:=by
 by_cases hj:j∈l
 ·obtain⟨i',hi⟩:=NJ.mp hj;rw[fu hp hs hi] at h;cases h;exact hi
 ·rw[iB hp hd hj] at h;cases h
theorem lA{t:MH}{l:List Nat}(hp:t.place=l.toArray)(hd:t.dummies = #[])(hs:xi l)(j:Nat):t.slot j≠.dummy:=by
 by_cases hj:j∈l
 ·obtain⟨i',hi⟩:=NJ.mp hj;rw[fu hp hs hi];simp
 ·rw[iB hp hd hj];simp
theorem oA{t:MH}{l:List Nat}(hp:t.place=l.toArray)(hs:xi l)(h:t.slot j=.empty):j∉l:=by
 intro hj;obtain⟨i',hi⟩:=NJ.mp hj;rw[fu hp hs hi] at h;cases h
theorem IW{m:Nat}{p:Probe}(h:p.j+p.more<=m):(pW m p).j+(pW m p).more<=m:=by
 by_cases g:0<p.more
 ·rw[fN g];show p.j+1+(p.more-1)<=m;lia
 ·rw[cO (by lia)];have hl:(lp m (p.i,p.perturb)).1<m+1:=Uw _ (Sk _);show(lp m (p.i,p.perturb)).1+(runEnd m (lp m (p.i,p.perturb)).1-(lp m (p.i,p.perturb)).1)<=m;unfold runEnd;split <;> lia
theorem DB(m:Nat):∀(n:Nat) {p:Probe},p.j+p.more<=m->(cQ m n p).j+(cQ m n p).more<=m
 |0,_,h=>h
 |n+1,_,h=>DB m n (IW h)
theorem G8(m:Nat)(h:Int):(st m h).j+(st m h).more<=m:=by
 have hl:bits h % (m+1)<m+1:=Uw _ (Sk _);show bits h % (m+1)+(runEnd m (bits h % (m+1))-bits h % (m+1))<=m;unfold runEnd;split <;> lia
def at_(m:Nat)(h:Int)(n:Nat):Nat:=(cQ m n (st m h)).j
theorem IU(m:Nat)(h:Int)(n:Nat):at_ m h n<=m:=by have:=DB m n (G8 m h);unfold at_;lia
structure Lain (t:MH) (l:List Nat) (hs:List Int):Prop where
 full:jp t.mask
 place:t.place=l.toArray
 nodum:t.dummies = #[]
 size:l.length=hs.length
 srt:xi l
 le:∀j∈l,j<=t.mask
 fill:l.length<=t.mask
 met:∀(i j:Nat) (h:Int),l[i]?=some j->hs[i]?=some h->∃n,at_ t.mask h n=j/\∀k,k<n->at_ t.mask h k∈l
theorem qL:∀(n:Nat) (l:List Nat),(∀j,j<n->j∈l)->n<=l.length
 |0,_,_=>Ml _
 |n+1,l,h=>by
  have h1:=qL n (l.erase n) (fun j hj=>(Tl (by lia)).mpr (h j (by lia)));have h2:=h n (by lia);rw[RF h2] at h1;have h3:=Sn h2;lia
theorem qq{l:List Nat}{m:Nat}(h:l.length<=m):∃j,j<m+1/\j∉l:=by
 by_cases hx:∃j,j<m+1/\j∉l
 ·exact hx
 ·exfalso;have WX:∀j,j<m+1->j∈l:=fun j hj=>Pp fun hn=>hx ⟨j,hj,hn⟩
  have:=qL (m+1) l WX
  lia
theorem Lain.search{t:MH}   (L:Lain t l hs) (hashAt:Nat->Int) (ha : ∀ (i:Nat) (h:Int), hs[i]?=some h->hashAt i=h) (h:Int) (n0:Nat) :
    ∃ n, n0<=n/\(∀ k, n0<=k->k<n -> ∃ i:Nat, l[i]?=some (at_ t.mask h k)/\hs[i]? ≠ some h) /\
      ((at_ t.mask h n ∉ l/\t.probe hashAt h (cQ t.mask n0 (st t.mask h))=some (.empty (at_ t.mask h n) none)) \/
       (∃ i:Nat, l[i]?=some (at_ t.mask h n)/\hs[i]?=some h/\t.probe hashAt h (cQ t.mask n0 (st t.mask h))=some (.candidate (at_ t.mask h n) i (cQ t.mask (n + 1) (st t.mask h))))) := by
  obtain⟨j, hj, hjl⟩ := qq L.fill;obtain⟨nf, hf, ef⟩ := ID L.full (p := cQ t.mask n0 (st t.mask h)) (ng _ _ (yb _ _)) (jC _ _ (iu _ _)) hj;obtain⟨n, _, h1, h2⟩ := vy (t := t) (lA L.place L.nodum L.srt) hashAt h (10 * turns t.mask) (cQ t.mask n0 (st t.mask h)) ⟨nf, hf, by rw[ef]; exact iB L.place L.nodum hjl⟩;have ew : ∀ k, (cQ t.mask k (cQ t.mask n0 (st t.mask h))).j=at_ t.mask h (n0 + k) := fun k => by unfold at_; rw[eA]
  refine⟨n0 + n, by lia, ?_, ?_⟩
  · intro k hk1 hk2
    obtain⟨i, g1, g2⟩ := h1 (k-n0) (by lia);rw[ew, show n0 + (k-n0)=k by lia] at g1;exact⟨i, i5 L.place L.nodum L.srt g1, fun e => g2 (ha i h e)⟩
  · rcases h2 with⟨a, b⟩|⟨i, a, b, c⟩
    · rw[ew] at a b
      exact .inl ⟨oA L.place L.srt a, by rw[VV, b, pY]; rfl⟩
    · rw[ew] at a c
      have hi := i5 L.place L.nodum L.srt a;refine .inr ⟨i, hi, ?_, ?_⟩
      · have Wm:i<hs.length := by rw[<- L.size]; exact(Ld.mp hi).1
        have e := ha i _ (Lb Wm);rw[Lb Wm, <- e, b]
      · rw[VV, c, <- eA, show n0 + (n + 1)=n0 + n + 1 by lia]
theorem Lain.ahead{t:MH}(L:Lain t l hs)(hn:at_ t.mask h n∉l){i:Nat}(hi:hs[i]?=some h):∃k,k<n/\l[i]?=some (at_ t.mask h k):=by
 have Wm:i<l.length:=by rw[L.size];exact(Ld.mp hi).1
 obtain⟨k,h1,h2⟩:=L.met i _ h (Lb Wm) hi;refine⟨k,?_,by rw[h1];exact Lb Wm⟩;rcases Ov k n with g|g|g
 ·exact g
 ·subst g;exact absurd (h1 ▸ Qp Wm) hn
 ·exact absurd (h2 n g) hn
theorem ko{α:Type}{l:List α}{x y:α}:y∈l.take p++x :: l.drop p↔y=x\/y∈l:=by
 rw[LZ,Lj];constructor
 ·rintro(h|h|h)
  ·exact .inr (To h)
  ·exact .inl h
  ·exact .inr (QD h)
 ·rintro(h|h)
  ·exact .inr (.inl h)
  ·rw[<- List.take_append_drop p l,LZ] at h;rcases h with h|h
   ·exact .inl h
   ·exact .inr (.inr h)
theorem vR{α:Type}{l:List α}{p:Nat}(hp:p<=l.length)(x:α)(i:Nat):(l.take p++x :: l.drop p)[i]? = if i<p then l[i]? else if i=p then some x else l[i-1]?:=by
 have ht:(l.take p).length=p:=by rw[LG];lia
 by_cases h1:i<p
 ·rw[if_pos h1,Mf (by lia),List.getElem?_take,if_pos h1]
 ·rw[if_neg h1,Ma (by lia),ht];by_cases h2:i=p
  ·rw[if_pos h2,h2,UZ];rfl
  ·rw[if_neg h2,show i-p=(i-p-1)+1 by lia,PX,Ux];congr 1;lia
theorem Lain.put{t:MH}(L:Lain t l hs)(hn:at_ t.mask h n∉l)(hk:∀k,k<n->at_ t.mask h k∈l)(hm:l.length+1<=t.mask) :
  ∃p,p<=l.length/\(t.put (at_ t.mask h n)).2=p/\Lain (t.put (at_ t.mask h n)).1 (l.take p++at_ t.mask h n :: l.drop p) (hs.take p++h :: hs.drop p)/\(t.put (at_ t.mask h n)).1.mask=t.mask/\(t.put (at_ t.mask h n)).1.led=t.led/\(t.put (at_ t.mask h n)).1.plain=t.plain/\(t.put (at_ t.mask h n)).1.moves=t.moves:=by
 have hb:=(iX L.srt (at_ t.mask h n)).1;have Yc:(t.put (at_ t.mask h n)).2=below l.toArray (at_ t.mask h n):=by unfold MH.put;rw[L.place]
 have Z6:(t.put (at_ t.mask h n)).1 = {t with place:=(l.take (below l.toArray (at_ t.mask h n))++at_ t.mask h n :: l.drop (below l.toArray (at_ t.mask h n))).toArray}:=by
  unfold MH.put;show({t with place:=_,dummies:=_}:MH)=_;rw[L.place,L.nodum,hJ _ _ _ hb,if_neg (by simp[has,below,below.go])]
 refine⟨below l.toArray (at_ t.mask h n),hb,Yc,?_,by rw[Z6],by rw[Z6],by rw[Z6],by rw[Z6]⟩;rw[Z6];have hbh:below l.toArray (at_ t.mask h n)<=hs.length:=by rw[<- L.size];exact hb
 refine⟨L.full,rfl,L.nodum,?_,ES L.srt hn,?_,?_,?_⟩
 ·simp only[LQ,L0,LG,MR,L.size]
 ·intro j hj;rcases ko.mp hj with rfl|hj
  ·exact IU _ _ _
  ·exact L.le j hj
 ·simp only[LQ,L0,LG,MR];show _<=t.mask;lia
 ·intro i j h' hi hj;rw[vR hb] at hi;rw[vR hbh] at hj;by_cases g1:i<below l.toArray (at_ t.mask h n)
  ·rw[if_pos g1] at hi hj;obtain⟨m,h1,h2⟩:=L.met i j h' hi hj;exact⟨m,h1,fun k hk=>ko.mpr (.inr (h2 k hk))⟩
  ·rw[if_neg g1] at hi hj;by_cases g2:i=below l.toArray (at_ t.mask h n)
   ·rw[if_pos g2] at hi hj;cases hi;cases hj;exact⟨n,rfl,fun k Yn=>ko.mpr (.inr (hk k Yn))⟩
   ·rw[if_neg g2] at hi hj;obtain⟨m,h1,h2⟩:=L.met (i-1) j h' hi hj;exact⟨m,h1,fun k hk=>ko.mpr (.inr (h2 k hk))⟩
theorem Lain.plain{t:MH}(L:Lain t l hs)(b:Bool):Lain {t with plain:=b} l hs:=⟨L.full,L.place,L.nodum,L.size,L.srt,L.le,L.fill,L.met⟩
theorem Lain.fresh(f m:Nat)(b:Bool):Lain (.fresh f m b) [] []:=⟨KB,rfl,rfl,rfl,UR,fun j h=>absurd h (by simp),Ml _,fun i j h hi=>absurd hi (by simp)⟩
theorem vm(m:Nat):∀(k:Nat) (p:Probe),k<=p.more->(cQ m k p).j=p.j+k/\(cQ m k p).more=p.more-k/\(cQ m k p).i=p.i/\(cQ m k p).perturb=p.perturb
 |0,p,_=>⟨rfl,rfl,rfl,rfl⟩
 |k+1,p,h=>by
  rw[cQ,fN (by lia)];obtain⟨h1,h2,h3,h4⟩:=vm m k {p with j:=p.j+1,more:=p.more-1} (by show k<=p.more-1;lia);refine⟨h1.trans ?_,h2.trans ?_,h3,h4⟩
  ·show p.j+1+k=p.j+(k+1);lia
  ·show p.more-1-k=p.more-(k+1);lia
theorem Aw(m:Nat)(owner:Array (Option Nat))(ho:owner.size=m+1):∀(fuel:Nat) (p:Probe),p.j=p.i->p.more=runEnd m p.i-p.i->p.j+p.more<=m ->
  (∃a,a<fuel/\owner[(iR m a (p.i,p.perturb)).1]?=some none) ->
  ∃n,layClean.free m owner fuel p.i p.perturb=some (cQ m n p).j/\owner[(cQ m n p).j]?=some none/\∀k,k<n->∃w,owner[(cQ m k p).j]?=some (some w)
 |0,_,_,_,_,⟨_,h,_⟩=>absurd h (by lia)
 |fuel+1,p,hj,Z3,hle,⟨a,ha,hf⟩=>by
  have hlen:runEnd m p.i+1-p.i=p.more+1:=by rw[Z3];unfold runEnd;split <;> lia
  unfold layClean.free;rw[hlen]
  have XV:∀k,k<=p.more->∃w,owner[(cQ m k p).j]?=some w/\owner.getD (p.i+k) (some 0)=w:=by
   intro k hk;obtain⟨e1,_⟩:=vm m k p hk;have Wm:p.i+k<owner.size:=by rw[ho];lia
   refine⟨owner[p.i+k],?_,?_⟩
   ·rw[e1,hj];exact Mv Wm
   ·simp[Q_,Wm]
  cases hfd:(Nh (p.more+1)).find? (fun k=>(owner.getD (p.i+k) (some 0)).isNone) with
  |some k =>
   rw[List.find?_range_eq_some] at hfd;obtain⟨h1,h2,h3⟩:=hfd;have hk:k<=p.more:=by have:=NS.mp h2;lia
   refine⟨k,?_,?_,?_⟩
   ·obtain⟨e1,_⟩:=vm m k p hk;show some (p.i+k)=_;rw[e1,hj]
   ·obtain⟨w,g1,g2⟩:=XV k hk;rw[g1];rw[g2] at h1;cases w with
    |none=>rfl
    |some w=>cases h1
   ·intro k' Yn;obtain⟨w,g1,g2⟩:=XV k' (by lia)
    have:=h3 k' Yn
    rw[g2] at this;cases w with
    |none=>simp at this
    |some w=>exact⟨w,g1⟩
  |none =>
   rw[List.find?_eq_none] at hfd
   have WX:∀k,k<=p.more->∃w,owner[(cQ m k p).j]?=some (some w):=by
    intro k hk;obtain⟨w,g1,g2⟩:=XV k hk
    have:=hfd k (NS.mpr (by lia))
    rw[g2] at this;cases w with
    |none=>simp at this
    |some w=>exact⟨w,g1⟩
   have hq:∃q,cQ m (p.more+1) p=q/\q.i=(lp m (p.i,p.perturb)).1/\q.perturb=(lp m (p.i,p.perturb)).2/\q.j=q.i/\q.more=runEnd m q.i-q.i/\q.j+q.more<=m:=by
    obtain⟨e1,e2,e3,e4⟩:=vm m p.more p (Lg _);refine⟨_,rfl,?_⟩;rw[Be,cO (by lia),e3,e4];refine⟨rfl,rfl,rfl,rfl,?_⟩;have hl:(lp m (p.i,p.perturb)).1<m+1:=Uw _ (Sk _);show(lp m (p.i,p.perturb)).1+(runEnd m (lp m (p.i,p.perturb)).1-(lp m (p.i,p.perturb)).1)<=m;unfold runEnd;split <;> lia
   obtain⟨q,hq0,hq1,hq2,hq3,hq4,hq5⟩:=hq
   have X9:a≠0:=by
    intro e;subst e;obtain⟨w,hw⟩:=WX 0 (Ml _);have e2:(cQ m 0 p).j=(iR m 0 (p.i,p.perturb)).1:=hj;rw[e2,hf] at hw;cases hw
   obtain⟨a',rfl⟩:∃a',a=a'+1:=⟨a-1,by lia⟩
   obtain⟨n,g1,g2,g3⟩:=Aw m owner ho fuel q hq3 hq4 hq5 ⟨a',by lia,by rw[hq1,hq2];exact hf⟩;refine⟨p.more+1+n,?_,?_,?_⟩
   ·rw[eA,hq0,<- g1,hq1,hq2];rfl
   ·rw[eA,hq0];exact g2
   ·intro k hk;by_cases g:k<=p.more
    ·exact WX k g
    ·obtain⟨w,hw⟩:=g3 (k-(p.more+1)) (by lia);refine⟨w,?_⟩;rw[<- hw,<- hq0,<- eA,show p.more+1+(k-(p.more+1))=k by lia]
structure Own (m:Nat) (H:List Int) (owner:Array (Option Nat)) (k:Nat):Prop where
 size:owner.size=m+1
 met:∀(j w:Nat),owner[j]?=some (some w)->w<k/\∃h,H[w]?=some h/\∃n,at_ m h n=j/\∀k',k'<n->∃w',owner[at_ m h k']?=some (some w')
 all:∀w,w<k->∃j:Nat,owner[j]?=some (some w)
 cnt:owner.toList.countP Uc=k
theorem Own.zero(m:Nat)(H:List Int):Own m H (Array.replicate (m+1) none) 0:=by
 refine⟨by simp,?_,fun w hw=>absurd hw (by lia),?_⟩
 ·intro j w h;rw[Array.getElem?_replicate] at h;split at h <;> simp at h
 ·simp[List.countP_replicate]
theorem Own.free(O:Own m H owner k)(hk:k<m+1):∃j,j<m+1/\owner[j]?=some none:=by
 by_cases hx:∃j,j<m+1/\owner[j]?=some none
 ·exact hx
 ·exfalso
  have WX:∀x∈owner.toList,Uc x=true:=by
   intro x hx';obtain⟨j,hj,e⟩:=Tq.mp hx';cases x with
   |some w=>rfl
   |none =>
    have hj':j<owner.size:=by simpa using hj
    exact absurd ⟨j,by rw[<- O.size];exact hj',by rw[Mv hj'];simpa using e⟩ hx
  have h1:=List.countP_eq_length.mpr WX;rw[O.cnt,Mw,O.size] at h1;lia
theorem Own.step(F:jp m)(O:Own m H owner k)(hk:k<m+1){h:Int}(hh:H[k]?=some h) :
  ∃j,layClean.free m owner (turns m) (bits h % (m+1)) (bits h)=some j/\Own m H (owner.setIfInBounds j (some k)) (k+1):=by
 obtain⟨j,hj,hf⟩:=O.free hk;obtain⟨c,hc,ec⟩:=F (iR m 13 ((st m h).i,(st m h).perturb)).1 (zB m 12 _) j hj
 have z:(iR m 13 ((st m h).i,(st m h).perturb)).2=0:=by
  rw[gE];exact Vo (LR (iu m h) (by decide))
 have e:(iR m (13+c) ((st m h).i,(st m h).perturb)).1=j:=by
  rw[uv];have e2:iR m 13 ((st m h).i,(st m h).perturb)=((iR m 13 ((st m h).i,(st m h).perturb)).1,0):=OT rfl z;rw[e2,pd];exact ec
 obtain⟨n,g1,g2,g3⟩:=Aw m owner O.size (turns m) (st m h) rfl rfl (G8 m h) ⟨13+c,by unfold turns;lia,by rw[e];exact hf⟩;have hb:at_ m h n<owner.size:=by rw[O.size];have:=IU m h n;lia
 have keep:∀(i w:Nat),owner[i]?=some (some w)->(owner.setIfInBounds (at_ m h n) (some k))[i]?=some (some w):=by
  intro i w hi;rw[OY];split
  ·rename_i e2;subst e2;exact absurd (hi.symm.trans g2) (by simp)
  ·exact hi
 have new:(owner.setIfInBounds (at_ m h n) (some k))[at_ m h n]?=some (some k):=by rw[OY];simp[hb]
 refine⟨at_ m h n,g1,by simp[O.size],?_,?_,?_⟩
 ·intro i w hi;rw[OY] at hi;split at hi
  ·rename_i e2;subst e2;cases hi;exact⟨by lia,h,hh,n,rfl,fun k' Yn=>(g3 k' Yn).elim fun w' YF=>⟨w',keep _ _ YF⟩⟩
  ·obtain⟨h1,h',h2,n',h3,h4⟩:=O.met i w hi;exact⟨by lia,h',h2,n',h3,fun k' Yn=>(h4 k' Yn).elim fun w' YF=>⟨w',keep _ _ YF⟩⟩
 ·intro w hw;by_cases g:w=k
  ·exact⟨at_ m h n,by rw[g];exact new⟩
  ·obtain⟨i,hi⟩:=O.all w (by lia);exact⟨i,keep i w hi⟩
 ·rw[Array.toList_setIfInBounds,List.countP_set (by simpa using hb),O.cnt]
  have e3:owner.toList[at_ m h n]'(by simpa using hb)=none:=by
   have:=(Mv hb).symm.trans g2
   simpa using this
  rw[e3];simp
theorem Own.fold{m:Nat}(F:jp m){H:List Int}:∀(rest:List Int) (owner:Array (Option Nat)) (k:Nat),Own m H owner k->H.drop k=rest->H.length<=m+1->k<=H.length ->
  ∃Xj,rest.foldl (fun(acc:Option (Array (Option Nat)×Nat)) h=>do
   let (owner,k) <- acc
   let j <- layClean.free m owner (turns m) (bits h % (m+1)) (bits h)
   pure (owner.setIfInBounds j (some k),k+1)) (some (owner,k))=some (Xj,H.length)/\Own m H Xj H.length
 |[],owner,k,O,hd,_,hk=>by
  have:H.length<=k:=by simpa using hd
  have e:k=H.length:=by lia
  subst e;exact⟨owner,rfl,O⟩
 |h :: rest,owner,k,O,hd,hl,hk=>by
  have hh:H[k]?=some h:=by
   have:=congrArg (·[0]?) hd
   simpa using this
  have Wm:k<H.length:=(Ld.mp hh).1;obtain⟨j,e1,O2⟩:=O.step F (by lia) hh;obtain⟨Xj,e2,O3⟩:=Own.fold F rest _ (k+1) O2 (by rw[<- VW,hd];rfl) hl (by lia);refine⟨Xj,?_,O3⟩;rw[List.foldl_cons,<- e2];congr 1;show(layClean.free m owner (turns m) (bits h % (m+1)) (bits h)).bind _=_;rw[e1];rfl
theorem zM(F:jp m)(H:List Int)(hl:H.length<=m)(f mv:Nat)(led plain:Bool) :
  ∃(t:MH) (l ws:List Nat),V3 m f mv led plain H.toArray=some (t,ws.toArray)/\Lain t l (ws.map (H.getD · 0))/\(∀w∈ws,w<H.length)/\(∀w,w<H.length->w∈ws)/\ws.length=H.length/\t.mask=m/\t.led=led/\t.plain=plain:=by
 obtain⟨owner,e,O⟩:=Own.fold F H _ 0 (Own.zero m H) rfl (by lia) (Ml _)
 have ec:layClean m H.toArray=some owner:=by
  unfold layClean;rw[<- Array.foldl_toList];show VU _ (List.foldl _ _ H)=_;exact(congrArg (VU (·.1)) e).trans rfl
 let live:=(Nh (m+1)).filterMap fun j=>(owner.getD j none).map (j,·)
 have gd:∀(j w:Nat),owner.getD j none=some w↔owner[j]?=some (some w):=by
  intro j w;by_cases hj:j<owner.size
  ·rw[Mv hj];simp[Q_,hj]
  ·rw[Si (by lia)];simp[Q_,hj]
 have XX:∀(j w:Nat),(j,w)∈live↔owner[j]?=some (some w):=by
  intro j w;show(j,w)∈(Nh (m+1)).filterMap _↔_;rw[M9];constructor
  ·rintro⟨j',_,h2⟩;obtain⟨w',h3,h4⟩:=Ln.mp h2;cases h4;exact(gd _ _).mp h3
  ·intro h;refine⟨j,NS.mpr ?_,by rw[(gd j w).mpr h];rfl⟩
   have:=(MB.mp h).1
   rw[O.size] at this;exact this
 have hsrt:xi (live.map (·.1)):=by
  unfold xi;rw[U0];refine RA.filterMap _ ?_ Qc;intro a a' haa b hb b' hb';obtain⟨_,_,h3⟩:=Ln.mp hb;obtain⟨_,_,h4⟩:=Ln.mp hb';rw[<- h3,<- h4];exact haa
 have hlen:live.length=H.length:=by
  have gen:∀(xs:List Nat),(xs.filterMap fun j=>(owner.getD j none).map (j,·)).length=(xs.map fun j=>owner.getD j none).countP Uc:=by
   intro xs
   induction xs with
   |nil=>rfl
   |cons x xs ih =>
    rw[M6,LX,List.countP_cons];cases owner.getD x none with
    |none=>simpa using ih
    |some w=>simpa using ih
  have el:(Nh (m+1)).map (fun j=>owner.getD j none)=owner.toList:=by
   apply UU;intro i;by_cases hi:i<m+1
   ·have hi':i<owner.size:=by rw[O.size];exact hi
    rw[Li,TW hi];simp[Q_,hi']
   ·rw[NI (by simp;lia),NI (by simp[O.size];lia)]
  show((Nh (m+1)).filterMap _).length=_;rw[gen,el,O.cnt]
 refine⟨{mask:=m,place:=(live.map (·.1)).toArray,dummies:=#[],finger:=f,led:=led,moves:=mv,plain:=plain},live.map (·.1),live.map (·.2),?_,?_,?_,?_,?_,rfl,rfl,rfl⟩
 ·unfold V3;rw[ec];rfl
 ·refine⟨F,rfl,rfl,by simp,hsrt,?_,?_,?_⟩
  ·intro j hj;obtain⟨⟨j',w⟩,h1,h2⟩:=Ls.mp hj;cases h2
   have:=(MB.mp ((XX _ _).mp h1)).1
   rw[O.size] at this;show j'<=m;lia
  ·show(live.map (·.1)).length<=m;rw[La,hlen];exact hl
  ·intro i j h hi hj;rw[Li] at hi;rw[Ot,Li] at hj;cases hx:live[i]? with
   |none=>rw[hx] at hi;cases hi
   |some x =>
    rw[hx] at hi hj;obtain⟨j',w⟩:=x;cases hi;obtain⟨h1,h',h2,n,h3,h4⟩:=O.met j' w ((XX _ _).mp (Ll hx))
    have eh:h=h':=by
     have e5:H.getD w 0=h:=by simpa using hj
     rw[Mm,h2] at e5;exact e5.symm
    subst eh;refine⟨n,h3,fun k hk=>?_⟩;obtain⟨w',YF⟩:=h4 k hk;exact Ls.mpr ⟨(_,w'),(XX _ _).mpr YF,rfl⟩
 ·intro w hw;obtain⟨⟨j',w'⟩,h1,h2⟩:=Ls.mp hw;cases h2;exact(O.met j' w' ((XX _ _).mp h1)).1
 ·intro w hw;obtain⟨j,hj⟩:=O.all w hw;exact Ls.mpr ⟨(j,w),(XX _ _).mpr hj,rfl⟩
 ·rw[La,hlen]
open PySem PySem.Spec PyProof.Rows
mutual
def hU:Nat->Sg->Bool
 |_,.int _=>true
 |_,.str _=>true
 |0,.tuple _=>false
 |n+1,.tuple xs=>iU n xs
 |_,_=>false
def iU:Nat->List Sg->Bool
 |_,[]=>true
 |n,x :: xs=>hU n x && iU n xs
end
mutual
def bR(w:LL):Sg->Int
 |.int i=>hashInt i
 |.str x=>hashStr w x
 |.tuple xs=>reduceHash (Rg (rX w xs))
 |_=>0
def rX(w:LL):List Sg->List Int
 |[]=>[]
 |x :: xs=>bR w x :: rX w xs
end
section
variable{prog:LA}{w:LL}{E:K_->Lf->Prop}
set_option maxRecDepth 100000 in
mutual
theorem As:∀(n:Nat) (d:Sg) (v:K_) (A:L4) (s:Lf) (Q:Int->Lf->Prop) (as:List Addr),hU n d=true->Os s.heap v d as->A.units+n<cLine->(∀tk,Q (bR w d) {s with toks:=tk})->wpAny (model prog w) A (pyHash v) Q E s
 |n,.int i,v,A,s,Q,as,_,r,hu,h=>by
  cases r;exact wpAny_pyHash_int (by rw[bR] at h;exact h _)
 |n,.str y,v,A,s,Q,as,_,r,hu,h=>by
  cases r;exact wpAny_pyHash_str (by rw[bR] at h;exact h _)
 |n+1,.tuple xs,v,A,s,Q,as,hk,r,hu,h=>by
  cases r with
  |@tuple a o vs m _ _ ho hc hd ra =>
   refine PySem.W.pyHash_slot (T:="tuple") ⟨_,ho,hc⟩ U1 F.entry_tuple_hash (F.args_tuple_hash_1 _) (beq_builtin_none _) (.inr (by lia)) ?_;refine K8 (m:=Q6 (.ref a)) (wpAny_tupleItemsOf ho hd (K8 ?_));rw[<- PN];refine vP n xs vs.toList A.in1 s #[] _ _ (by rw[hU] at hk;exact hk) ra (by rw[L4.in1_units];lia) fun tk b hb=>?_
   refine(show wpAny _ _ (retInt (Rg b.toList)) _ _ _ from ?_);rw[hb];rw[bR] at h;exact K8 (wpAny_mkInt (Le ⟨_,_,rfl,h _⟩))
 |0,.tuple xs,v,A,s,Q,as,hk,r,hu,h=>by rw[hU] at hk;cases hk
 |n,.none,v,A,s,Q,as,hk,r,hu,h=>by cases n <;> (rw[hU] at hk;cases hk;all_goals simp)
 |n,.bool _,v,A,s,Q,as,hk,r,hu,h=>by cases n <;> (rw[hU] at hk;cases hk;all_goals simp)
 |n,.list _,v,A,s,Q,as,hk,r,hu,h=>by cases n <;> (rw[hU] at hk;cases hk;all_goals simp)
 |n,.dict _,v,A,s,Q,as,hk,r,hu,h=>by cases n <;> (rw[hU] at hk;cases hk;all_goals simp)
theorem vP:∀(n:Nat) (ds:List Sg) (vs:List K_) (A:L4) (s:Lf) (b:Array Int) (Q:Array Int->Lf->Prop) (as:List Addr),iU n ds=true->S_ s.heap vs ds as->A.units+n<cLine ->
  (∀tk b',b'.toList=b.toList++rX w ds->Q b' {s with toks:=tk})->wpAny (model prog w) A (forIn vs b fun x r=>do let h <- pyHash x;pure PUnit.unit;pure (Sy (r.push h))) Q E s
 |n,[],_,A,s,b,Q,_,_,.nil,_,h=>Le (h s.toks b (by rw[rX,Nb]))
 |n,d :: ds,_,A,s,b,Q,_,hk,.cons r rr,hu,h=>by
  rw[iU,NA] at hk;rw[Nw];refine K8 (K8 (As n d _ A s _ _ hk.1 r hu fun tk=>?_));refine K8 (Le (Le ?_));exact vP n ds _ A _ _ Q _ hk.2 rr hu fun tk' b' hb=>h tk' b' (by rw[hb,rX];simp)
end
end
section
variable{prog:LA}{w:LL}{A:L4}{E:K_->Lf->Prop}
theorem mr(hk:hU n d=true) (r:Os h v d as):carriedByValue v=true\/∃a o vs m xs k,v=.ref a/\n=k+1/\d=.tuple xs/\h.get? a=some o/\o.cls=.type "tuple"/\o.data=.seq vs m/\S_ h vs.toList xs as/\iU k xs=true:=by
 cases r with
 |int i t=>exact .inl rfl
 |str x t=>exact .inl rfl
 |none=>exact .inl rfl
 |bool b=>exact .inl rfl
 |tuple ho hc hd ra =>
  cases n with
  |zero=>rw[hU] at hk;cases hk
  |succ k=>exact .inr ⟨_,_,_,_,_,k,rfl,rfl,rfl,ho,hc,hd,ra,by rw[hU] at hk;exact hk⟩
 |list ho hc hd ra=>exfalso;cases n <;> simp[hU] at hk
 |dict ho hc hd ra rb=>exfalso;cases n <;> simp[hU] at hk
inductive uQ (p:K_->Prop):List K_->Prop
 |nil:uQ p []
 |cons {v:K_} {vs:List K_}:p v->uQ p vs->uQ p (v :: vs)
theorem oM{h:Heap}{n:Nat}:∀{vs:List K_} {ds:List Sg} {as:List Addr},S_ h vs ds as->iU n ds=true->uQ (fun v=>∃d bs,hU n d=true/\Os h v d bs) vs
 |_,_,_,.nil,_=>.nil
 |_,_,_,.cons r rr,hk=>by
  rw[iU,NA] at hk;exact .cons ⟨_,_,hk.1,r⟩ (oM rr hk.2)
theorem vv:∀(n:Nat) {d:Sg} {v:K_} {s:Lf} {Q:Bool->Lf->Prop} {as:List Addr},hU n d=true->Os s.heap v d as->Q true s->wpAny (model prog w) A (eqIsQuiet n v) Q E s:=by
 intro n
 induction n with
 |zero =>
  intro d v s Q as hk r q;rcases mr hk r with hv|⟨_,_,_,_,_,k,_,e,_⟩
  ·rw[eqIsQuiet_byValue _ hv];exact Le q
  ·cases e
 |succ n ih =>
  intro d v s Q as hk r q;rcases mr hk r with hv|⟨a,o,vs,m,xs,k,rfl,e,rfl,ho,hc,hd,ra,ZY⟩
  ·rw[eqIsQuiet_byValue _ hv];exact Le q
  ·cases e;have ty:s.TypeIs (.ref a) "tuple":=⟨o,ho,hc⟩
   unfold eqIsQuiet;refine K8 (QK ty F.slot_tuple_eq.lookup ?_);refine(show wpAny _ _ (isInstance (.ref a) (.type "tuple") >>= _) _ _ s from K8 (Pl ty isSubtype_tuple_tuple ?_));simp only[O0,LS,if_false];refine K8 (Mc ho hd (K8 ?_));rw[Vp,<- PN];refine Qq _ (fun rest z s'=>z.1=none/\s'=s/\uQ (fun v=>∃d bs,hU n d=true/\Os s.heap v d bs) rest) _ ?_ ?_ _ _ ⟨rfl,rfl,oM ra ZY⟩
   ·rintro v rest z s' ⟨_,rfl,al⟩;cases al with
    |cons p al =>
     obtain⟨d',bs,p1,p2⟩:=p;refine K8 (ih p1 p2 ?_);simp only[O0,LS,if_false];exact Le ⟨rfl,rfl,al⟩
   ·rintro⟨z1,z2⟩ s' ⟨hz,rfl,_⟩;cases (show z1=none from hz);exact Le q
theorem kU(n:Nat)(h:carriedByValue v=true):∃b,hashByValue n v=pure b:=by
 cases v with
 |ref a=>cases h
 |_=>exact⟨_,by cases n <;> (unfold hashByValue;rfl)⟩
theorem IE:∀(n m:Nat) {d:Sg} {v:K_} {s:Lf} {Q:Bool->Lf->Prop} {as:List Addr},hU n d=true->n<=m->Os s.heap v d as->(∀b,Q b s)->wpAny (model prog w) A (hashByValue m v) Q E s:=by
 intro n
 induction n with
 |zero =>
  intro m d v s Q as hk _ r q;rcases mr hk r with hv|⟨_,_,_,_,_,k,_,e,_⟩
  ·obtain⟨b,e⟩:=kU m hv;rw[e];exact Le (q b)
  ·cases e
 |succ n ih =>
  intro m d v s Q as hk hm r q;rcases mr hk r with hv|⟨a,o,vs,m',xs,k,rfl,e,rfl,ho,hc,hd,ra,ZY⟩
  ·obtain⟨b,e⟩:=kU m hv;rw[e];exact Le (q b)
  ·cases e;obtain⟨m,rfl⟩:∃k,m=k+1:=⟨m-1,by lia⟩
   have ty:s.TypeIs (.ref a) "tuple":=⟨o,ho,hc⟩
   unfold hashByValue;refine K8 (QK ty U1.lookup ?_);refine(show wpAny _ _ (seqItems? (.ref a) >>= _) _ _ s from K8 (Mc ho hd (K8 ?_)));rw[Vp,<- PN];refine Qq _ (fun rest z s'=>z.1=none/\s'=s/\uQ (fun v=>∃d bs,hU n d=true/\Os s.heap v d bs) rest) _ ?_ ?_ _ _ ⟨rfl,rfl,oM ra ZY⟩
   ·rintro v rest z s' ⟨_,rfl,al⟩;cases al with
    |cons p al =>
     obtain⟨d',bs,p1,p2⟩:=p;refine K8 (ih m p1 (by lia) p2 fun b=>?_);cases b with
     |true =>
      simp only[O0,LS,if_false];exact Le ⟨rfl,rfl,al⟩
     |false =>
      simp only[Ts,if_true];exact Le (Le (q _))
   ·rintro⟨z1,z2⟩ s' ⟨hz,rfl,_⟩;cases (show z1=none from hz);exact Le (q _)
theorem kn(n:Nat)(h:carriedByValue v=true):ofAClassStatement n v=pure false:=by
 cases v with
 |ref a=>cases h
 |_=>unfold ofAClassStatement;rfl
theorem DV:∀(n:Nat) {d:Sg} {v:K_} {s:Lf} {Q:Bool->Lf->Prop} {as:List Addr},hU n d=true->Os s.heap v d as->Q false s->wpAny (model prog w) A (ofAClassStatement n v) Q E s:=by
 intro n
 induction n with
 |zero =>
  intro d v s Q as hk r q;rcases mr hk r with hv|⟨_,_,_,_,_,k,_,e,_⟩
  ·rw[kn _ hv];exact Le q
  ·cases e
 |succ n ih =>
  intro d v s Q as hk r q;rcases mr hk r with hv|⟨a,o,vs,m,xs,k,rfl,e,rfl,ho,hc,hd,ra,ZY⟩
  ·rw[kn _ hv];exact Le q
  ·cases e;have ty:s.TypeIs (.ref a) "tuple":=⟨o,ho,hc⟩
   unfold ofAClassStatement;refine K8 (R8 ty ?_);dsimp only;rw[if_pos (by decide)];refine K8 (Le ?_);simp only[O0,LS,if_false];refine K8 (Mc ho hd (K8 ?_));rw[<- PN];refine Qq _ (fun rest z s'=>z.1=none/\s'=s/\uQ (fun v=>∃d bs,hU n d=true/\Os s.heap v d bs) rest) _ ?_ ?_ _ _ ⟨rfl,rfl,oM ra ZY⟩
   ·rintro v rest z s' ⟨_,rfl,al⟩;cases al with
    |cons p al =>
     obtain⟨d',bs,p1,p2⟩:=p;refine K8 (ih p1 p2 ?_);simp only[LS,if_false];exact Le ⟨rfl,rfl,al⟩
   ·rintro⟨z1,z2⟩ s' ⟨hz,rfl,_⟩;cases (show z1=none from hz);exact Le q
theorem seen_rd{s:Lf}  {Q:Bool->Lf->Prop} (hx:hU 8 dx=true) (rx:Os s.heap x dx as) {ys:List K_} (hy : ∀ y∈ys, ∃ d bs, hU 8 d=true/\Os s.heap y d bs) (q:Q false s):wpAny (model prog w) A (searchCouldBeSeen x ys) Q E s := by
  unfold searchCouldBeSeen;refine K8 (Qq _ (fun rest z s' => z.1=none/\s'=s /\ ∀ y∈rest, ∃ d bs, hU 8 d=true/\Os s.heap y d bs) _ ?_ ?_ _ _ ⟨rfl, rfl, hy⟩)
  · rintro y rest z s' ⟨_, rfl, al⟩
    obtain⟨d', bs, p1, p2⟩ := al y Lz;have al' : ∀ y∈rest, ∃ d bs, hU 8 d=true/\Os s'.heap y d bs := fun u hu => al u (Ly _ hu)
    dsimp only;split
    all_goals split
    all_goals first
      |exact Le ⟨rfl, rfl, al'⟩
      | (refine K8 (vv 8 hx rx ?_); simp only[O0, LS, if_false]
         refine K8 (vv 8 p1 p2 ?_); simp only[O0, LS, if_false]
         refine K8 (DV 8 hx rx ?_); simp only[LS, if_false]
         refine K8 (DV 8 p1 p2 ?_); simp only[LS, if_false]
         exact Le ⟨rfl, rfl, al'⟩)
  · rintro⟨z1, z2⟩ s' ⟨hz, rfl, _⟩
    cases (show z1=none from hz);exact Le q
end
open PySem.W (Dat kqdP kqdOk)
theorem Lain.EY{t:MH}   (L:Lain t l hs) {hashAt:Nat->Int}    {r:Option MH.Met} (hr:t.probe hashAt h p=r) (hp:p=cQ t.mask n0 (st t.mask h)) (ha : ∀ (i:Nat) (h:Int), hs[i]?=some h->hashAt i=h) :
    ∃ n, n0<=n/\(∀ k, n0<=k->k<n -> ∃ i:Nat, l[i]?=some (at_ t.mask h k)/\hs[i]? ≠ some h) /\
      ((at_ t.mask h n ∉ l/\r=some (.empty (at_ t.mask h n) none)) \/
       (∃ i:Nat, l[i]?=some (at_ t.mask h n)/\hs[i]?=some h/\r=some (.candidate (at_ t.mask h n) i (cQ t.mask (n + 1) (st t.mask h))))) := by
  subst hp; subst hr;exact L.search hashAt ha h n0
theorem Lain.fits{t:MH}(L:Lain t l hs){n:Nat}(e:hs.length=n):t.fits n=true:=by
 have h1:t.place.size=n:=by rw[L.place,<- e,<- L.size];simp
 have h2:t.fill<=t.mask:=by
  unfold Ud;rw[L.place,L.nodum]
  have:=L.fill
  simpa using this
 simp[MH.fits,h1,h2]
def Good(d:Dat):Prop:=kqdOk 8 d=true/\hU 8 (kqdP d)=true/\∃xs,kqdP d=.tuple xs
section
variable{prog:LA}{w:LL}{A:L4}{E:K_->Lf->Prop}{s:Lf}
open Classical in
theorem IJ{Q:Bool->Lf->Prop}(gd:Good d)(ge:Good e)(rx:Os s.heap x (kqdP d) as)(ry:Os s.heap y (kqdP e) bs)(hu:A.units+16<cLine)(q:Q (decide (d=e)) s):wpAny (model prog w) A (eqBool x y) Q E s:=by
 have l1:=Nd 8 d gd.1;have l2:=Nd 8 e ge.1;refine SeqAt.eqBoolOverData prog w A E s x y _ _ as bs Q rx ry l1.1 l2.1 ?_ (by rw[uG gd.1 ge.1];exact q)
 have:=Nat.min_le_left (kqdP d).depth (kqdP e).depth
 lia
theorem tZ(gd:Good d)(ge:Good e)(rx:Os h x (kqdP d) as)(ry:Os h x (kqdP e) bs):d=e:=by
 have q:=(Os.unique rx _ _ ry).1;exact(Sx 8 d e 8 gd.1 ge.1).mp (by rw[<- q];exact(Sx 8 d d 8 gd.1 gd.1).mpr rfl)
def Mb(w:LL)(h:Heap)(e:Int×K_)(d:Dat):Prop:=Good d/\(∃as,Os h e.2 (kqdP d) as)/\e.1=bR w (kqdP d)
open Classical in
theorem yw{S:Addr}{o:Obj}{d:Dat}{Q:SetFound->Lf->Prop}(ho:s.heap.get? S=some o)(hd:o.data=.set es ep t)
  (L:Lain t l (es.toList.map (·.1))) (hm:∀e∈es.toList,∃d,Mb w s.heap e d) (hg:t.gaveWay=false) (gx:Good d)  (rx:Os s.heap x (kqdP d) as) (hu:A.units+16<cLine)
  (hE:at_ t.mask (bR w (kqdP d)) nE∉l) (q1:(∃e∈es.toList,Mb w s.heap e d)->Q (.there none) s)
  (q2:∀n,at_ t.mask (bR w (kqdP d)) n∉l->(∀k,k<n->at_ t.mask (bR w (kqdP d)) k∈l)->(∀e∈es.toList,¬ Mb w s.heap e d)->Q (.free (at_ t.mask (bR w (kqdP d)) n) false) s) :
  ∀(k n0 fuel:Nat) (Xm:Option MH.Probe),nE-n0=k->n0<=nE->k<fuel->Xm.getD (t.probeStart (bR w (kqdP d)))=cQ t.mask n0 (st t.mask (bR w (kqdP d)))->(∀j,j<n0->at_ t.mask (bR w (kqdP d)) j∈l) ->
   (∀(j i:Nat) (e:Int×K_),j<n0->l[i]?=some (at_ t.mask (bR w (kqdP d)) j)->es.toList[i]?=some e->¬ Mb w s.heap e d) ->
   wpAny (model prog w) A (setSearchFrom S x (bR w (kqdP d)) true fuel Xm) Q E s:=by
 have hf:t.fits es.size=true:=L.fits (by simp);intro k
 induction k using Nat.strongRecOn with
 |_ k ih =>
 intro n0 fuel Xm hk hn hfu hst Y2 X9;obtain⟨fuel,rfl⟩:∃f,fuel=f+1:=⟨fuel-1,by lia⟩
 unfold setSearchFrom;refine K8 (Ow ho hd hf ?_);dsimp only;rw[hg];simp only[LS,if_false];have go:=fun(f:Nat->Int) (r:Option MH.Met) (hr:t.probe f (bR w (kqdP d)) (Xm.getD (t.probeStart (bR w (kqdP d))))=r)=>L.EY (n0:=n0) hr hst
 split
 ·rename_i met hpr
  obtain⟨n,g1,g2,g3⟩:=go _ _ hpr (fun i h' e=>by
   show(es[i]?.map (·.1)).getD 0=h'
   rw[Li,MN] at e
   rw[e];rfl)
  have hnE:n<=nE:=by
   rcases Ny nE n with z|z
   ·obtain⟨i,z1,_⟩:=g2 nE hn z;exact absurd (Ll z1) hE
   ·exact z
  have Y3:∀j,j<n->at_ t.mask (bR w (kqdP d)) j∈l:=by
   intro j hj;rcases Ny j n0 with z|z
   ·exact Y2 j z
   ·obtain⟨i,z1,_⟩:=g2 j z hj;exact Ll z1
  have Y4:∀(j i:Nat) (e:Int×K_),j<n->l[i]?=some (at_ t.mask (bR w (kqdP d)) j)->es.toList[i]?=some e->¬ Mb w s.heap e d:=by
   intro j i e hj hi he;rcases Ny j n0 with z|z
   ·exact X9 j i e z hi he
   ·obtain⟨i',z1,z2⟩:=g2 j z hj;intro mb
    have ZV:i'=i:=by
     rcases Ov i' i with y|y|y
     ·have:=NH.mp L.srt i' i (Ld.mp z1).1 (Ld.mp hi).1 y
      rw[(Ld.mp z1).2,(Ld.mp hi).2] at this;lia
     ·exact y
     ·have:=NH.mp L.srt i i' (Ld.mp hi).1 (Ld.mp z1).1 y
      rw[(Ld.mp z1).2,(Ld.mp hi).2] at this;lia
    subst ZV;exact z2 (by rw[Li,he,<- mb.2.2];rfl)
  rcases g3 with⟨y1,y2⟩|⟨i,y1,y2,y3⟩
  ·cases y2;dsimp only;refine Le (q2 n y1 Y3 fun e he mb=>?_);obtain⟨i,hi⟩:=NJ.mp he;obtain⟨j,z1,z2⟩:=L.ahead y1 (i:=i) (by rw[Li,hi,<- mb.2.2];rfl);exact Y4 j i e z1 z2 hi mb
  ·cases y3;dsimp only
   obtain⟨e,he⟩:∃e,es.toList[i]?=some e:=by
    rw[Li] at y2;cases hq:es.toList[i]? with
    |none=>rw[hq] at y2;cases y2
    |some e=>exact⟨e,rfl⟩
   have hea:es[i]?=some e:=by rw[<- MN];exact he
   obtain⟨de,mb⟩:=hm e (Ll he);obtain⟨ge,⟨bs,re⟩,hh⟩:=id mb
   have seen:∀{Q':Bool->Lf->Prop},Q' false s->wpAny (model prog w) A (searchCouldBeSeen x ((es.filter (·.1 == bR w (kqdP d))).toList.map (·.2))) Q' E s:=fun {Q'} q'=>by
    refine seen_rd gx.2.1 rx (fun y hy=>?_) q';obtain⟨e',h1,h2⟩:=Ls.mp hy
    obtain⟨d',m1,⟨cs,m2⟩,_⟩:=hm e' (by
     have:=O9.mp h1
     exact O9.mpr (Array.mem_filter.mp this).1)
    exact⟨_,cs,m1.2.1,by rw[<- h2];exact m2⟩
   obtain⟨e1,e2⟩:=e
   obtain⟨a,ea⟩:∃a,e2=.ref a:=by
    obtain⟨xs,ex⟩:=ge.2.2;have re':Os s.heap e2 (kqdP de) bs:=re;rw[ex] at re';cases re' with
    |tuple _ _ _ _=>exact⟨_,rfl⟩
   cases ea;by_cases hl:t.led=true
   all_goals simp only[hl,O0,Ts,LS,if_false,if_true]
   ·skip
    rw[hea];dsimp only;refine K8 (MJ (IJ ge gx re rx hu (K8 (Ow ho hd hf ?_))));dsimp only;by_cases hde:de=d
    ·rw[decide_eq_true hde];exact Le (q1 ⟨_,Ll he,hde ▸ mb⟩)
    ·rw[decide_eq_false hde];simp only[Tt,LS,if_false];rw[show t.sameMemory t.moves t.mask=some true by simp[TX]];dsimp only;rw[if_pos rfl,fu L.place L.srt y1];dsimp only;rw[hea];dsimp only;refine K8 (SL (K8 (Le ?_)));rw[if_pos rfl];dsimp only
     have hnn:n<nE:=by
      rcases Ny n nE with z|z
      ·exact z
      ·have:n=nE:=by lia
       subst this;exact absurd (Ll y1) hE
     refine ih (nE-(n+1)) (by lia) (n+1) fuel _ rfl hnn (by lia) rfl ?_ ?_
     ·intro j hj;rcases Ny j n with z|z
      ·exact Y3 j z
      ·have:j=n:=by lia
       subst this;exact Ll y1
     ·intro j i' e' hj hi he' mb';rcases Ny j n with z|z
      ·exact Y4 j i' e' z hi he' mb'
      ·have:j=n:=by lia
       subst this;have ZV:i'=i:=by have a1:=fM L.srt hi;have a2:=fM L.srt y1;lia
       subst ZV;rw[he] at he';cases he';obtain⟨_,⟨cs,c2⟩,_⟩:=mb';exact hde (tZ ge gx re c2)
   ·refine K8 (seen ?_);simp only[LS,if_false];rw[hea];dsimp only;refine K8 (MJ (IJ ge gx re rx hu (K8 (Ow ho hd hf ?_))));dsimp only;by_cases hde:de=d
    ·rw[decide_eq_true hde];exact Le (q1 ⟨_,Ll he,hde ▸ mb⟩)
    ·rw[decide_eq_false hde];simp only[Tt,LS,if_false];rw[show t.sameMemory t.moves t.mask=some true by simp[TX]];dsimp only;rw[if_pos rfl,fu L.place L.srt y1];dsimp only;rw[hea];dsimp only;refine K8 (SL (K8 (Le ?_)));rw[if_pos rfl];dsimp only
     have hnn:n<nE:=by
      rcases Ny n nE with z|z
      ·exact z
      ·have:n=nE:=by lia
       subst this;exact absurd (Ll y1) hE
     refine ih (nE-(n+1)) (by lia) (n+1) fuel _ rfl hnn (by lia) rfl ?_ ?_
     ·intro j hj;rcases Ny j n with z|z
      ·exact Y3 j z
      ·have:j=n:=by lia
       subst this;exact Ll y1
     ·intro j i' e' hj hi he' mb';rcases Ny j n with z|z
      ·exact Y4 j i' e' z hi he' mb'
      ·have:j=n:=by lia
       subst this;have ZV:i'=i:=by have a1:=fM L.srt hi;have a2:=fM L.srt y1;lia
       subst ZV;rw[he] at he';cases he';obtain⟨_,⟨cs,c2⟩,_⟩:=mb';exact hde (tZ ge gx re c2)
 ·rename_i hpr;exfalso;cases hq:t.probe (fun i=>(es[i]?.map (·.1)).getD 0) (bR w (kqdP d)) (Xm.getD (t.probeStart (bR w (kqdP d)))) with
  |some met=>exact hpr met hq
  |none =>
   obtain⟨n,_,_,g3⟩:=go _ _ hq (fun i h' e=>by
    rw[Li,MN] at e
    show(es[i]?.map (·.1)).getD 0=h';rw[e];rfl)
   rcases g3 with⟨_,y⟩|⟨_,_,_,y⟩ <;> cases y
end
open PySem.W (Dat kqdP kqdOk)
open Classical in
noncomputable def kR:List Dat->Nat
 |[]=>0
 |d :: ds=>kR ds+if d∈ds then 0 else 1
noncomputable def cnt (ds:List Dat):Nat:=kR ds.reverse
open Classical in
theorem pQ(ds:List Dat)(d:Dat):cnt (ds++[d])=cnt ds+if d∈ds then 0 else 1:=by
 unfold cnt;rw[List.reverse_append];show kR (d :: ds.reverse)=_;rw[kR];simp
theorem uH:∀ds:List Dat,kR ds<=ds.length
 |[]=>Lg _
 |d :: ds=>by
  have:=uH ds
  rw[kR,L0];split <;> lia
theorem rY(ds:List Dat):cnt ds<=ds.length:=by have:=uH ds.reverse;simpa[cnt] using this
theorem mJ:∀ds:List Dat,kR ds=ds.length↔ds.Nodup
 |[]=>by simp[kR]
 |d :: ds=>by
  have h1:=uH ds;have h2:=mJ ds;rw[kR,L0,Me];split
  ·rename_i h;constructor
   ·intro e;lia
   ·intro e;exact absurd h e.1
  ·rename_i h;rw[<- h2];constructor
   ·intro e;exact⟨h,by lia⟩
   ·intro e;lia
theorem AL(ds:List Dat):cnt ds=ds.length↔ds.Nodup:=by
 have:=mJ ds.reverse
 rw[Pq,(List.reverse_perm ds).nodup_iff] at this;exact this
theorem Mb.at{h':Heap}(m:Mb w h e d)(k:∀b o,h.get? b=some o->h'.get? b=some o):Mb w h' e d:=by
 obtain⟨g,⟨as,r⟩,x⟩:=m;exact⟨g,⟨as,Tu k r⟩,x⟩
theorem Mb.uniq(m:Mb w h e d)(m':Mb w h e d'):d=d':=by
 obtain⟨g,⟨as,r⟩,_⟩:=m;obtain⟨g',⟨as',r'⟩,_⟩:=m';exact tZ g g' r r'
section
variable{prog:LA}{w:LL}{A:L4}{E:K_->Lf->Prop}{s:Lf}
theorem DO{h:Heap}{S:Addr}{o:Obj}(W0:Array (Int×K_))(t':MH)(e:h.get? S=some o)(hd:o.data=.set es ep t)(x:o.ExactSet) :
  ∃o',(h.update S (Rb W0 t')).get? S=some o'/\o'.ExactSet/\o'.data=.set W0 (ep+1) t':=by
 have z:Rb W0 t' o = {o with data:=.set W0 (ep+1) t'}:=putSet_of W0 t' hd;refine⟨_,Mi (Rb W0 t') e (by rw[z];rfl),?_,by rw[z]⟩;rw[z];exact x
end
open PySem.W (Dat kqdP kqdOk)
section
variable{prog:LA}{w:LL}{A:L4}{R:R6->Lf->Prop}{I:Addr}{fp wr:List Addr}{n:Nat}{P:Nat->K_->Prop}{St:Nat->Heap->Prop}
theorem Bw(W:Walks prog w A.in1 I fp wr n P St)(S:Addr)(nS:S∉fp)(Z:Nat->Heap->Prop)(zk:∀i h h',Z i h->(∀b o,b∉wr->h.get? b=some o->h'.get? b=some o)->Z i h')
  (za:∀i v (s:Lf) (Q:Bool->Lf->Prop) (E:K_->Lf->Prop),i<n->P i v->Z i s.heap->(∀r h' tk,Z (i+1) h'->(∀b,b≠S->h'.get? b=s.heap.get? b)->Q r {s with heap:=h',toks:=tk})->wpAny (model prog w) A.in1 (setAdd S v) Q E s) :
  ∀(k i:Nat) (s:Lf),n-i=k->i<=n->St i s.heap->Z i s.heap->(∀h' tk,Z n h'->(∀b o,b∉S :: wr->s.heap.get? b=some o->h'.get? b=some o)->R (.ok (.ret .none)) {s with heap:=h',toks:=tk}) ->
   codeAny (model prog w) A (.builtin "set.update.loop" ⟨[.ref S,.ref I],[]⟩) R s:=by
 have nw:S∉wr:=fun h=>nS (W.sub _ h)
 intro k
 induction k with
 |zero =>
  intro i s hk hi hst hz hR;obtain rfl:i=n:=by lia
  refine PF RT ?_;rw[Pc PY _];refine(show wpAny _ A.in1 (pyNext (.ref I) >>= _) _ _ s from K8 (W.done s _ _ hst fun h' tk hm=>?_));refine(show wpAny _ A.in1 (ret Ms) _ _ _ from Le (hR h' tk (zk _ _ _ hz hm) fun b o hb e=>hm b o (fun z=>hb (Ly _ z)) e))
 |succ k ih =>
  intro i s hk hi hst hz hR;have Wm:i<n:=by lia
  refine PF RT ?_;rw[Pc PY _];refine(show wpAny _ A.in1 (pyNext (.ref I) >>= _) _ _ s from K8 (W.item i s _ _ Wm hst fun v h' tk hP hst' hm=>?_));refine(show wpAny _ A.in1 (holding [v] (setAdd S v) >>= _) _ _ _ from K8 (MJ (za i v _ _ _ Wm hP (zk _ _ _ hz hm) fun r h2 tk2 z2 k2=>?_)));refine Le ⟨Ue PY _,ih (i+1) _ (by lia) Wm (W.frame _ _ _ hst' fun b hb o e=>?_) z2 fun h3 tk3 z3 k3=>hR h3 tk3 z3 fun b o hb e=>?_⟩
  ·exact(k2 b fun z=>nS (z ▸ hb)).trans e
  ·refine k3 b o hb ((k2 b fun z=>hb (z ▸ Lz)).trans (hm b o (fun z=>hb (Ly _ z)) e))
end
namespace F
theorem sub_tuple_set:isSubtype (.type "tuple") (.type "set")=pure false:=by rw[isSubtype_type];kernel_rfl
theorem sub_tuple_frozenset:isSubtype (.type "tuple") (.type "frozenset")=pure false:=by rw[isSubtype_type];kernel_rfl
end F
section
variable{prog:LA}{w:LL}{A:L4}{E:K_->Lf->Prop}{s:Lf}
theorem Kn.walks(k:Kn)(hh:A.handled=none)(I ax:Addr)(X9:ax≠I)(items:Array K_):Walks prog w A I [I,ax] [I] items.size (fun i v=>items[i]?=some v) (fun i h=>k.it h I ax i/\k.seq h ax items):=by
 cases k
 ·exact Walks.list hh I ax X9 items
 ·exact Walks.tuple hh I ax X9 items
def xq (led:Bool):Obj:={cls:=.type "set",dict:=none,data:=.set #[] 0 (.fresh 0 0 led)}
set_option maxRecDepth 100000 in
set_option maxHeartbeats 3200000 in
theorem vj(k:Kn){Q:K_->Lf->Prop}(hh:A.handled=none)(hl:k.seq s.heap l items)(Z:Nat->Heap->Prop)
  (z0:∀led h,h.get? s.heap.objs.size=some (xq led)->(∀b o,s.heap.get? b=some o->h.get? b=some o)->Z 0 h) (zk:∀i h h',Z i h->(∀b o,b≠s.heap.objs.size+1->h.get? b=some o->h'.get? b=some o)->Z i h')
  (za:∀(A':L4) i v (s':Lf) (Q:Bool->Lf->Prop) (E:K_->Lf->Prop),A'.units<=A.units+8->i<items.size->items[i]?=some v->Z i s'.heap->(∀r h' tk,Z (i+1) h'->(∀b,b≠s.heap.objs.size->h'.get? b=s'.heap.get? b)->Q r {s' with heap:=h',toks:=tk})->wpAny (model prog w) A' (setAdd s.heap.objs.size v) Q E s')
  (q:∀h' tk,Z items.size h'->(∀b o,b<s.heap.objs.size->s.heap.get? b=some o->h'.get? b=some o)->Q (.ref s.heap.objs.size) {s with heap:=h',toks:=tk}):wpAny (model prog w) A (call (.type "set") [.ref l]) Q E s:=by
 obtain⟨c,tl,Z4⟩:=OP.mro;have hmade:=OP.made;have Z8:=OP.sub;refine Qk (codeAny_of_tree ?_);show wpAny _ _ (callAny (.type "set") _) _ _ _;refine Le ⟨Q7 _ (by decide +kernel),PF F.entry_type_call ?_⟩;rw[L4.under_plain (weight_type_call_type "set" [.ref l] []) rfl];have h1:=OP.notType;have h2:=OP.canCreate;have hct:=F.typeCall_set_1 (.ref l)
 repeat (any_goals (first|assumption|wp_step))
 refine OO (code_set_new_1 (.ref l) (E:=E) (Q₁:=fun obj s₁=>∃led:Bool,obj=.ref s.heap.objs.size/\s₁ = {s with heap:=s.heap.push (xq led)}) fun led=>⟨led,rfl,rfl⟩) fun r s₁ hr=>?_
 cases r with
 |error e=>exact hr
 |ok fl =>
  cases fl with
  |ret obj =>
   obtain⟨led,rfl,rfl⟩:=hr;have hS:(s.heap.push (xq led)).get? s.heap.objs.size=some (xq led):=Lu _ rfl;have hT:V4 {s with heap:=s.heap.push (xq led)} (.ref s.heap.objs.size) "set":=⟨_,hS,rfl⟩
   have hli:=OP.init.lookup;have hbi:=OP.init.bind (.ref s.heap.objs.size)
   repeat (any_goals (first|assumption|wp_step))
   refine OO (Qy (R:=wants (fun r s₂=>r=.none/\∃h' tk,s₂ = {s with heap:=h',toks:=tk}/\Z items.size h'/\(∀b o,b<s.heap.objs.size->s.heap.get? b=some o->h'.get? b=some o)) E) OP.init.plain F.entry_set_init (check_set_init_1 hT ?_)) fun r₂ s₂ XZ=>?_
   ·have Wm:l<s.heap.objs.size:=k.lt hl;have ZZ:k.seq (s.heap.push (xq led)) l items:=k.tN hl fun o e=>K9 _ e
    have nI:l≠(s.heap.push (xq led)).objs.size:=by rw[NC];exact Lh (U3 Wm)
    have nS:s.heap.objs.size∉[(s.heap.push (xq led)).objs.size,l]:=by
     rw[NC];simp only[Lj,Lp,or_false,not_or];exact⟨Lh (N8 _),Mo Wm⟩
    have fin:∀(A':L4) (R':R6->Lf->Prop),A'.in1.handled=none->A'.in1.units<=A.units+8->(∀h' tk,Z items.size h'->(∀b o,b<s.heap.objs.size->s.heap.get? b=some o->h'.get? b=some o)->R' (.ok (.ret .none)) {s with heap:=h',toks:=tk}) ->
      codeAny (model prog w) A' (.builtin "set.update.loop" ⟨[.ref s.heap.objs.size,.ref (s.heap.push (xq led)).objs.size],[]⟩) R' {s with heap:=(s.heap.push (xq led)).push (k.obj l)}:=by
     intro A' R' ha hu hR;refine Bw (k.walks ha _ l nI items) s.heap.objs.size nS Z (fun i h h' z kp=>zk i h h' z fun b o hb e=>kp b o (by rw[NC];simpa using hb) e) (fun i v s' Q' E' hi hv hz hq=>za _ i v s' Q' E' hu hi hv hz hq) (items.size-0) 0 _ rfl (Ml _) ⟨k.it0 _ l,k.tN ZZ fun o e=>K9 _ e⟩ (z0 led _ (K9 _ hS) fun b o e=>K9 _ (K9 _ e)) fun h' tk z kp=>hR h' tk z fun b o hb e=>kp b o ?_ (K9 _ (K9 _ e))
     rw[NC];simp only[Lj,Lp,or_false,not_or];exact⟨Lh hb,Lh (U3 hb)⟩
    cases k
    ·have X8:(s.heap.push (xq led)).IsList l items:=ZZ;obtain⟨ol,hol,Y0,nl,ZS⟩:=ZZ;obtain⟨ocls,odict,odata,Zb⟩:=ol;simp only at Y0 ZS;subst Y0;subst ZS;have hsls:=F.sub_list_set;have hslf:=F.sub_list_frozenset;have X9:(N0 "list" == N0 "dict")=false:=by decide
     unfold NX.«set.__init__» noKeywords QL;generalize hPI:pyIter=PI;wp_walk;subst hPI;refine Kn.iter .L X8 (K8 (wpAny_runValue (fin _ _ (by simp[hh]) (by simp) fun h' tk z kp=>?_)));refine(show wpAny _ _ _ _ _ _ from Le (show wpAny _ _ (ret Ms) _ _ _ from Le ⟨rfl,h',tk,rfl,z,kp⟩))
    ·have X8:(s.heap.push (xq led)).IsTuple l items:=ZZ;obtain⟨ol,hol,Y0,nl,ZS⟩:=ZZ;obtain⟨ocls,odict,odata,Zb⟩:=ol;simp only at Y0 ZS;subst Y0;subst ZS;have hsls:=F.sub_tuple_set;have hslf:=F.sub_tuple_frozenset;have X9:(N0 "tuple" == N0 "dict")=false:=by decide
     unfold NX.«set.__init__» noKeywords QL;generalize hPI:pyIter=PI;wp_walk;subst hPI;refine Kn.iter .T X8 (K8 (wpAny_runValue (fin _ _ (by simp[hh]) (by simp) fun h' tk z kp=>?_)));refine(show wpAny _ _ _ _ _ _ from Le (show wpAny _ _ (ret Ms) _ _ _ from Le ⟨rfl,h',tk,rfl,z,kp⟩))
   ·cases r₂ with
    |error e=>exact XZ
    |ok ZK =>
     cases ZK with
     |ret r =>
      obtain⟨rfl,h',tk,rfl,hz,Yn⟩:=XZ
      repeat (any_goals (first|assumption|wp_step))
      exact q _ _ hz Yn
     |_=>exact XZ.elim
  |_=>exact hr.elim
end
open PySem.W (Dat kqdP kqdOk)
def IZ(h:Heap)(S:Addr)(n:Nat):Prop:=∃o es ep t,h.get? S=some o/\o.ExactSet/\o.data=.set es ep t/\t.fits es.size=true/\es.size=n
def GI(X:Cx)(r:V->Hp->(Nat->Hp->Prop)->Prop):Prop :=
 ∀(pins:List (Addr×Obj)) (s:Lf) (σ:St) (H:Hp) (x:V) (u:K_) (Q:Nat->Hp->Prop),Inv X pins σ H s->RelV x u->r x H Q ->
  wpAny (model X.prog X.w) X.A (call (.type "set") [u]) (fun v s'=>∃S n,v=.ref S/\IZ s'.heap S n/\Inv X pins σ H s'/\Q n H) X.xe s
theorem FP(h:Heap):h.get? h.objs.size=none:=by
 cases e:h.get? h.objs.size with
 |none=>rfl
 |some o=>exact absurd (Lm e) (Oy _)
def Hh(K:Fg):V->Hp->(Nat->Hp->Prop)->Prop:=fun x H Q=>∃(k:Kn) (a:Addr) (ns:List Str),x=.ref a/\Kn.sq k K H a (ns.map V.str)/\ns.length<4000/\Q (cnt (ns.map Mp)) H
theorem yp{X:Cx}(hc:X.calm=true):GI X (Hh X.K):=by
 intro pins s σ H x u Q I r h;obtain⟨k,a,ns,rfl,q1,hl,q⟩:=h;cases r;obtain⟨fm,rv,sq⟩:=k.inv I q1;have Y9:fm.length=ns.length:=by have:=N6 rv;simpa using this.symm
 have rd:∀(i:Nat) (v:K_),fm.toArray[i]?=some v->∃y t,ns[i]?=some y/\v=.str y t:=by
  intro i v hv;rw[SM] at hv;obtain⟨hi,e⟩:=Ld.mp hv;have hx:i<ns.length:=by lia
  obtain⟨v',e1,rl⟩:=rv.get (i:=i) (x:=.str ns[i]) (by rw[Li,Lb hx];rfl);rw[hv] at e1;cases e1;obtain⟨t,et⟩:=(show ∃t,v=QY ns[i] t from rl)
  exact⟨_,t,Lb hx,et⟩
 refine vj k (I.ok.hd hc) sq (fun i h=>(∀b o,s.heap.get? b=some o->h.get? b=some o)/\h.SetOf (strKind X.prog X.w) s.heap.objs.size (fun y=>decide (y∈ns.take i)) (cnt ((ns.take i).map Mp))) ?_ ?_ ?_ ?_
 ·intro led h g kp;refine⟨kp,_,#[],0,.fresh 0 0 led,g,⟨rfl,rfl,rfl⟩,rfl,fun e he=>absurd he (by simp),fun y=>?_,by decide,by rfl,?_⟩
  ·simp
  ·simp[cnt,kR]
 ·rintro i h h' ⟨k0,o,es,ep,t,ho,rest⟩ kp;refine⟨fun b ob hb=>kp b ob (fun z=>?_) (k0 b ob hb),o,es,ep,t,kp _ _ (Lh (N8 _)) ho,rest⟩
  have:=Lm hb
  rw[z] at this;exact absurd this (Nat.not_lt.mpr (Op _))
 ·intro A' i v s' Q' E' hA hi hv hz hq;obtain⟨y,t,d1,rfl⟩:=rd i v hv;have ht:ns.take (i+1)=ns.take i++[y]:=by rw[LU,d1];rfl
  have his:(strKind X.prog X.w).is y (.str y t)=true:=strKind_is X.prog X.w y t;unfold setAdd;refine MJ (K8 ((strKind X.prog X.w).pyHash (k:=y) his ?_));have Y0:=rY ((ns.take i).map Mp);rw[La,LG] at Y0;refine wpAny_setAddHashed_of (knd:=strKind X.prog X.w) (s:={s' with toks:=s'.toks+1}) his rfl hz.2 (by unfold scanBound;lia) fun h' sb z=>hq _ h' _ ⟨fun b o e=>?_,?_⟩ fun b hb=>sb.2 b hb
  ·have hb:b≠s.heap.objs.size:=Lh (Lm e);rw[sb.2 b hb];exact hz.1 b o e
  ·refine SetOf_congr z (fun y'=>?_) ?_
   ·rw[ht];simp[LZ]
   ·rw[ht,LD,LX,QU,pQ];have hm:(Mp y∈(ns.take i).map Mp)↔y∈ns.take i:=⟨fun z=>by obtain⟨y',h1,h2⟩:=Ls.mp z;cases h2;exact h1,fun z=>Ls.mpr ⟨y,z,rfl⟩⟩
    by_cases g:y∈ns.take i
    ·rw[if_pos (hm.mpr g),decide_eq_true g];rfl
    ·rw[if_neg (fun z=>g (hm.mp z)),decide_eq_false g];rfl
 ·intro h' tk z kp;have ez:ns.take fm.toArray.size=ns:=by rw[LC,Y9,Vq]
  rw[ez] at z;obtain⟨k0,o,es,ep,t,ho,hx,hd,_,_,_,hf,c⟩:=z;exact⟨_,_,rfl,⟨o,es,ep,t,ho,hx,hd,hf,c⟩,I.kept (t':=tk) k0,q⟩
def nR(r:V->Hp->(Nat->Hp->Prop)->Prop)(te:TE):TE:=fun σ H Q=>te σ H fun x H1=>r x H1 fun n H2=>(n:Int)<2 ^ 63/\Q (.int n) H2
theorem IQ:bootBuiltins "set"=some (.type "set"):=by decide +kernel
theorem qU{p p2 pos Xc:Pos} (hr:GI X r) (ZU:Gl X "len") (Z2:X.mg "len"=none) (hgs:Gl X "set") (hms:X.mg "set"=none) (he:PE X e te)
  (hs:starEach [e] X.env=[(false,eval e X.env)]:=by rfl) (hs2:starEach [Expr.Call (.Name "set" p2) [e] [] Xc] X.env=[(false,eval (.Call (.Name "set" p2) [e] [] Xc) X.env)]:=by rfl) :
  PE X (.Call (.Name "len" p) [.Call (.Name "set" p2) [e] [] Xc] [] pos) (nR r te):=by
 intro pins s σ H Q I h;refine MX (fC I ZU Z2 bP ?_);refine NL ?_ hs2 rfl;rw[hs2];refine(show wpAny _ _ (spliced ((false,eval (.Call (.Name "set" p2) [e] [] Xc) X.env) :: backTo pos [])) _ _ s from MW ?_);refine MX (fC I hgs hms IQ ?_);refine ML ?_ hs rfl;rw[hs];refine(show wpAny _ _ (spliced ((false,eval e X.env) :: backTo Xc [])) _ _ s from MW (bp (he pins s σ H _ I h) fun u s1 ⟨x,H1,I1,r1,q1⟩=>NY ?_));refine bp (hr pins s1 σ H1 x u _ I1 r1 q1) fun v s2 ⟨S,n,ev,sz,I2,z,q2⟩=>NY ?_
 obtain⟨o,es,ep,t,ho,hx,hd,hf,c⟩:=sz;cases ev;refine PySem.call_len_set ho hx hd hf (by rw[c];exact z) ⟨.int n,H1,I2.kept (t':=s2.toks+1+1) (fun _ _ z=>z),⟨_,by rw[c]⟩,q2⟩
open PySem PySem.Spec PyProof.Rows PySem.SetTable
open PySem.W (Dat kqdP kqdOk)
def Jq(m:Nat):Nat->Nat->List Nat
 |0,_=>[]
 |n+1,i=>i :: Jq m n ((i*5+1) % (m+1))
theorem D4(m:Nat):∀(n i k:Nat),k<n->(Jq m n i)[k]?=some (lc m k i)
 |0,_,_,h=>absurd h (SB _)
 |n+1,i,0,_=>rfl
 |n+1,i,k+1,h=>D4 m n _ k (by lia)
theorem zA(m:Nat):∀(n i:Nat),(Jq m n i).length=n
 |0,_=>rfl
 |n+1,i=>congrArg Nat.succ (zA m n _)
theorem C8{m:Nat}(h:((Nh (m+1)).all fun j=>(Jq m (m+1) 0).contains j)=true)(h0:lc m (m+1) 0=0):jp m:=by
 have hit:∀j,j<m+1->∃a,a<m+1/\lc m a 0=j:=fun j hj=>by
  have q:=MA.mp h j (NS.mpr hj);obtain⟨a,ha⟩:=NJ.mp (List.elem_iff.mp q);have la:a<m+1:=by have:=(Ld.mp ha).1;rw[zA] at this;exact this
  rw[D4 m _ _ _ la] at ha;exact⟨a,la,LF ha⟩
 intro i hi j hj;obtain⟨a,la,ea⟩:=hit i hi;obtain⟨b,lb,eb⟩:=hit j hj;by_cases z:a<=b
 ·exact⟨b-a,by lia,by rw[<- ea,<- vG,show a+(b-a)=b by lia];exact eb⟩
 ·exact⟨m+1+b-a,by lia,by rw[<- ea,<- vG,show a+(m+1+b-a)=m+1+b by lia,vG,h0];exact eb⟩
theorem Gk:jp 127:=C8 (by decide +kernel) (by decide +kernel)
def Eu(t:MH)(n:Nat):Prop:=(t.mask=7/\n<=4)\/(t.mask=31/\n<=18)\/(t.mask=127/\n<=76)
def GH(w:LL)(h0:Heap)(S:Addr)(ds:List Dat)(h:Heap):Prop:=(∀b o,h0.get? b=some o->h.get? b=some o)/\h0.get? S=none/\∃o es ep t l,h.get? S=some o/\o.ExactSet/\o.data=.set es ep t/\Lain t l (es.toList.map (·.1))/\Eu t l.length /\
 (∀e∈es.toList,∃d∈ds,Mb w h0 e d)/\(∀d∈ds,∃e∈es.toList,Mb w h0 e d)/\es.size=cnt ds
section
variable{prog:LA}{w:LL}{A:L4}{E:K_->Lf->Prop}{s:Lf}
theorem yD{S:Addr}{o:Obj}{Q:Unit->Lf->Prop}(ho:s.heap.get? S=some o)(hd:o.data=.set es ep t)(L:Lain t l (es.toList.map (·.1))){mk:Nat}(hn:PP n-1=mk)(hsz:PP n<=128)(hF:jp mk)(he:es.size<mk)
  (q:∀W0 t' l',Lain t' l' (W0.toList.map (·.1))->t'.mask=mk->W0.size=es.size->(∀e,e∈W0.toList↔e∈es.toList)->Q () {s with heap:=s.heap.update S (Rb W0 t')}) :
  wpAny (model prog w) A (setRelay S n) Q E s:=by
 have hf:t.fits es.size=true:=L.fits (by simp);unfold setRelay;refine K8 (Ow ho hd hf ?_);dsimp only;rw[if_neg (by rw[Nl];lia)];obtain⟨t',l',ws,e1,L',w1,w2,w3,e2,_,_⟩:=zM hF (es.toList.map (·.1)) (by simp;lia) t.finger (t.movedTo mk) t.led t.plain
 have e3:t.relaid (es.map (·.1)) n=some (t',ws.toArray):=by
  unfold MH.relaid;rw[hn,<- e1];congr 1;apply Array.ext';simp
 rw[e3];have ef:(ws.toArray.filterMap (es[·]?)).toList=ws.filterMap (es.toList[·]?):=by simp
 have len:(ws.filterMap (es.toList[·]?)).length=ws.length:=by
  clear e1 L' w2 w3 e3 ef
  induction ws with
  |nil=>rfl
  |cons v ws ih =>
   have hv:=w1 v Lz;rw[La] at hv;rw[M6,Lb hv];simp only[L0];rw[ih fun u hu=>w1 u (Ly _ hu)]
 have maps:(ws.filterMap (es.toList[·]?)).map (·.1)=ws.map ((es.toList.map (·.1)).getD · 0):=by
  clear e1 L' w2 w3 e3 ef len
  induction ws with
  |nil=>rfl
  |cons v ws ih =>
   have hv:=w1 v Lz;rw[La] at hv;rw[M6,Lb hv];simp only[LX];rw[ih fun u hu=>w1 u (Ly _ hu)];congr 1;rw[Mm,Li,Lb hv];rfl
 have sz:(ws.toArray.filterMap (es[·]?)).size=es.size:=by
  rw[<- Mw,ef,len,w3];simp
 refine K8 ?_;show wpAny _ _ (if ((ws.toArray.filterMap (es[·]?)).size != es.size)=true then _ else pure (ws.toArray.filterMap (es[·]?),t')) _ _ _;rw[if_neg (by rw[sz];simp)];refine Le ?_;refine wpAny_storeSet_of ho hd ?_ (by rw[sz,Nl];lia);refine q _ t' l' (by rw[ef,maps];exact L') e2 sz fun e=>?_
 rw[ef,M9];constructor
 ·rintro⟨v,_,h2⟩;exact Ll h2
 ·intro h;obtain⟨v,hv⟩:=NJ.mp h;refine⟨v,w2 v ?_,hv⟩;rw[La];exact(Ld.mp hv).1
open Classical in
theorem GE{Q:Bool->Lf->Prop}(Z:GH w h0 S ds s.heap)(gx:Good d)(rx:Os h0 x (kqdP d) as)(hu:A.units+16<cLine)(hn:ds.length<76)
  (q:∀b h' tk,GH w h0 S (ds++[d]) h'->(∀b,b≠S->h'.get? b=s.heap.get? b)->Q b {s with heap:=h',toks:=tk}) :
  wpAny (model prog w) A (setAdd S x) Q E s:=by
 obtain⟨k0,ZM,o,es,ep,t,l,ho,hx,hd,L,R,m1,m2,c⟩:=Z;have hl:l.length=es.size:=by rw[L.size];simp
 have hle:es.size<=ds.length:=by rw[c];exact rY ds
 unfold setAdd;refine MJ (K8 (As 8 _ x A s _ as gx.2.1 (Tu k0 rx) (by lia) fun tk=>?_));unfold setAddHashed;refine MJ ?_;unfold setAddHashedIn;have hf:t.fits es.size=true:=L.fits (by simp);refine K8 (Ow (s:={s with toks:=tk}) ho hd hf ?_);dsimp only
 have nos:byScan x es=false:=by
  obtain⟨xs,ex⟩:=gx.2.2;rw[ex] at rx;cases rx with
  |tuple _ _ _ _=>rfl
 rw[nos];simp only[LS,if_false]
 have hg:t.gaveWay=false:=by
  unfold MH.gaveWay;rcases R with⟨e,_⟩|⟨e,_⟩|⟨e,_⟩ <;> rw[e] <;> decide
 obtain⟨j,hj,hjl⟩:=qq L.fill;obtain⟨nE,hE1,hE2⟩:=ID L.full (p:=st t.mask (bR w (kqdP d))) (yb _ _) (iu _ _) hj;have hE:at_ t.mask (bR w (kqdP d)) nE∉l:=by unfold at_;rw[hE2];exact hjl
 have hmask:t.mask<=127:=by rcases R with⟨e,_⟩|⟨e,_⟩|⟨e,_⟩ <;> lia
 have mbs:∀e∈es.toList,∃d,Mb w ({s with toks:=tk}:Lf).heap e d:=fun e he=>by
  obtain⟨d',_,m⟩:=m1 e he;exact⟨d',m.at k0⟩
 have new:∀{e:Int×K_},e∈es.toList->(Mb w s.heap e d↔Mb w h0 e d):=fun {e} he=>by
  obtain⟨d',_,m⟩:=m1 e he;constructor
  ·intro z
   have:=z.uniq (m.at k0)
   rw[this];exact m
  ·intro z;exact z.at k0
 unfold setSearch;refine K8 (yw (s:={s with toks:=tk}) ho hd L mbs hg gx (Tu k0 rx) hu hE ?_ ?_ (nE-0) 0 100000 none rfl (Ml _) (by unfold MH.turns at hE1;lia) rfl (fun j hj=>absurd hj (by lia)) (fun j i e hj=>absurd hj (by lia)))
 ·rintro⟨e,he,mb⟩;dsimp only;refine Le (q _ s.heap tk ⟨k0,ZM,o,es,ep,t,l,ho,hx,hd,L,R,?_,?_,?_⟩ fun _ _=>rfl)
  ·intro e' he';obtain⟨d',h1,h2⟩:=m1 e' he';exact⟨d',NT _ h1,h2⟩
  ·intro d' X6;rcases LZ.mp X6 with h1|h1
   ·exact m2 d' h1
   ·cases Lx.mp h1;exact⟨e,he,(new he).mp mb⟩
  ·obtain⟨d',h1,h2⟩:=m1 e he
   have:d'=d:=h2.uniq ((new he).mp mb)
   subst this;rw[pQ,if_pos h1,c];rfl
 ·intro n n1 n2 n3;dsimp only;refine K8 (Ow (s:={s with toks:=tk}) ho hd hf ?_);dsimp only;obtain⟨p,p1,p2,L2',p3,p4,p5,p6⟩:=L.put n1 n2 (by rcases R with⟨e,_⟩|⟨e,_⟩|⟨e,_⟩ <;> lia)
  have dn:d∉ds:=fun z=>by
   obtain⟨e,he,mb⟩:=m2 d z;exact n3 e he ((new he).mpr mb)
  have hsr:∀(h':Heap) (W0:Array (Int×K_)) (t':MH) (l':List Nat) (o':Obj) (YW tk':Nat),(∀b,b≠S->h'.get? b=s.heap.get? b)->h'.get? S=some o'->o'.ExactSet->o'.data=.set W0 YW t'->Lain t' l' (W0.toList.map (·.1))->Eu t' l'.length->W0.size=es.size+1 ->
    (∀e,e∈W0.toList↔e=(bR w (kqdP d),x)\/e∈es.toList)->Q true {s with heap:=h',toks:=tk'}:=by
   intro h' W0 t' l' o' YW tk' r1 r2 r3 r4 r5 r6 r7 r8;refine q _ h' tk' ⟨fun b ob hb=>?_,ZM,o',W0,YW,t',l',r2,r3,r4,r5,r6,?_,?_,?_⟩ r1
   ·rw[r1 b (fun z=>by rw[z,ZM] at hb;cases hb)];exact k0 b ob hb
   ·intro e he;rcases (r8 e).mp he with rfl|he
    ·exact⟨d,LO _ Lz,gx,⟨as,rx⟩,rfl⟩
    ·obtain⟨d',h1,h2⟩:=m1 e he;exact⟨d',NT _ h1,h2⟩
   ·intro d' X6;rcases LZ.mp X6 with h1|h1
    ·obtain⟨e,he,mb⟩:=m2 d' h1;exact⟨e,(r8 e).mpr (.inr he),mb⟩
    ·cases Lx.mp h1;exact⟨_,(r8 _).mpr (.inl rfl),gx,⟨as,rx⟩,rfl⟩
   ·rw[pQ,if_neg dn,r7,c]
  have esl:NE es p (bR w (kqdP d),x)=(es.toList.take p++(bR w (kqdP d),x) :: es.toList.drop p).toArray:=by
   have:=hJ es.toList p (bR w (kqdP d),x) (by simp;lia)
   simpa using this
  have tail:∀(t1:MH),Lain t1 (l.take p++at_ t.mask (bR w (kqdP d)) n :: l.drop p) ((es.toList.map (·.1)).take p++bR w (kqdP d) :: (es.toList.map (·.1)).drop p)->t1.mask=t.mask ->
    wpAny (model prog w) A (do
     storeSet S (NE es p (bR w (kqdP d),x)) t1
     if (!false && t1.tooFull)=true then do
      setRelay S (Rc (es.size+1))
      pure true
     else pure true) Q E {s with toks:=tk}:=by
   intro t1 L1 Z1;have L1':Lain t1 (l.take p++at_ t.mask (bR w (kqdP d)) n :: l.drop p) ((NE es p (bR w (kqdP d),x)).toList.map (·.1)):=by rw[esl];simpa using L1
   have szi:(NE es p (bR w (kqdP d),x)).size=es.size+1:=by rw[esl];simp;lia
   have mem:∀e,e∈(NE es p (bR w (kqdP d),x)).toList↔e=(bR w (kqdP d),x)\/e∈es.toList:=fun e=>by rw[esl];exact ko
   have ll:(l.take p++at_ t.mask (bR w (kqdP d)) n :: l.drop p).length=es.size+1:=by simp;lia
   obtain⟨o1,u1,u2,u3⟩:=DO (NE es p (bR w (kqdP d),x)) t1 ho hd hx;refine K8 (wpAny_storeSet_of (s:={s with toks:=tk}) ho hd ?_ (by rw[szi,Nl];lia));by_cases tf:t1.tooFull=true
   ·rw[tf];simp only[Ts,Bool.and_self,if_true]
    have h5:es.size=4\/es.size=18:=by
     unfold Vr Ud at tf;rw[L1'.place,L1'.nodum,Z1] at tf;have Zk:=of_decide_eq_true tf;rw[LC,ll] at Zk;rcases R with⟨e,e'⟩|⟨e,e'⟩|⟨e,e'⟩
     ·rw[e] at Zk;simp at Zk;exact .inl (by lia)
     ·rw[e] at Zk;simp at Zk;exact .inr (by lia)
     ·rw[e] at Zk;simp at Zk;lia
    have go:∀mk,PP (Rc (es.size+1))-1=mk->PP (Rc (es.size+1))<=128->jp mk->es.size+1<mk->((mk=31/\es.size+1<=18)\/(mk=127/\es.size+1<=76))->wpAny (model prog w) A (do
      setRelay S (Rc (es.size+1))
      pure true) Q E {s with toks:=tk,heap:=s.heap.update S (Rb (NE es p (bR w (kqdP d),x)) t1)}:=by
     intro mk e1 e2 e3 e4 e5;refine K8 (yD (s:={s with toks:=tk,heap:=s.heap.update S (Rb (NE es p (bR w (kqdP d),x)) t1)}) u1 u3 L1' e1 e2 e3 (by rw[szi];exact e4) fun Zp t2 l2 L2 v1 v2 v3=>?_);obtain⟨o2,w1,w2,w3⟩:=DO Zp t2 u1 u3 u2;refine Le (hsr _ Zp t2 l2 o2 _ tk (fun b hb=>?_) w1 w2 w3 L2 (.inr ?_) (by rw[v2,szi]) fun e=>(v3 e).trans (mem e))
     ·rw[L8 _ _ (MO hb),L8 _ _ (MO hb)]
     ·have:l2.length=es.size+1:=by rw[L2.size];simp;lia
      rw[this,v1];exact e5
    rcases h5 with h5|h5
    ·exact go 31 (by rw[h5];decide) (by rw[h5];decide) IH (by lia) (.inl ⟨rfl,by lia⟩)
    ·exact go 127 (by rw[h5];decide) (by rw[h5];decide) Gk (by lia) (.inr ⟨rfl,by lia⟩)
   ·rw[Rr.mpr tf];simp only[Tt,LS,if_false];refine Le (hsr _ _ t1 _ o1 _ tk (fun b hb=>L8 _ _ (MO hb)) u1 u2 u3 L1' ?_ szi mem);rw[ll];unfold Vr Ud at tf;rw[L1'.place,L1'.nodum,Z1,LC,ll] at tf;rcases R with⟨e,e'⟩|⟨e,e'⟩|⟨e,e'⟩
    ·refine .inl ⟨Z1.trans e,?_⟩;rw[e] at tf;simp at tf;lia
    ·refine .inr (.inl ⟨Z1.trans e,?_⟩);rw[e] at tf;simp at tf;lia
    ·exact .inr (.inr ⟨Z1.trans e,by lia⟩)
  rw[p2];split
  ·refine K8 (IE 8 8 (s:={s with toks:=tk}) gx.2.1 (Lg _) (Tu k0 rx) fun b=>?_);cases b
   ·exact tail _ (L2'.plain false) p3
   ·exact tail _ L2' p3
  ·exact K8 (Le (tail _ L2' p3))
end
def Hi(K:Fg):V->Hp->(Nat->Hp->Prop)->Prop:=fun x H Q=>∃k a xs ds,x=.ref a/\Kn.sq k K H a xs/\RepL K H xs ds/\(∀d∈ds,Good d)/\ds.length<76/\Q (cnt ds) H
theorem tM{X:Cx}(hc:X.calm=true)(hu:X.A.units+64<cLine):GI X (Hi X.K):=by
 intro pins s σ H x u Q I r h;obtain⟨k,a,xs,ds,rfl,q1,q2,gd,hl,q⟩:=h;cases r;obtain⟨fm,rv,sq⟩:=k.inv I q1;have Y9:fm.length=ds.length:=by rw[<- N6 rv];exact q2.length
 have rd:∀(i:Nat) (v:K_),fm.toArray[i]?=some v->∃d as,ds[i]?=some d/\Os s.heap v (kqdP d) as:=by
  intro i v hv;rw[SM] at hv;obtain⟨hi,e⟩:=Ld.mp hv;have hx:i<xs.length:=by rw[N6 rv];exact hi
  obtain⟨v',e1,rl⟩:=rv.get (Lb hx);obtain⟨d,d1,d2⟩:=RepL.get q2 (Lb hx);obtain⟨as,p⟩:=Rep.reads I d2 rl;rw[hv] at e1;cases e1;exact⟨d,as,d1,p⟩
 have ZM:=FP s.heap;refine vj k (I.ok.hd hc) sq (fun i h=>GH X.w s.heap s.heap.objs.size (ds.take i) h) ?_ ?_ ?_ ?_
 ·intro led h g kp;refine⟨kp,ZM,_,#[],0,.fresh 0 0 led,[],g,⟨rfl,rfl,rfl⟩,rfl,Lain.fresh 0 0 led,.inl ⟨rfl,Ml _⟩,fun e he=>absurd he (by simp),fun d hd=>absurd hd (by simp),?_⟩;simp[cnt,kR]
 ·rintro i h h' ⟨k0,k1,o,es,ep,t,l,ho,rest⟩ kp;refine⟨fun b ob hb=>kp b ob (fun z=>?_) (k0 b ob hb),k1,o,es,ep,t,l,kp _ _ (Lh (N8 _)) ho,rest⟩
  have:=Lm hb
  rw[z] at this;exact absurd this (Nat.not_lt.mpr (Op _))
 ·intro A' i v s' Q' E' hA hi hv hz hq;obtain⟨d,as,d1,d2⟩:=rd i v hv;have ht:ds.take (i+1)=ds.take i++[d]:=by rw[LU,d1];rfl
  refine GE (prog:=X.prog) hz (gd d (Ll d1)) d2 (by lia) (by rw[LG];lia) fun b h' tk z kp=>hq b h' tk (by rw[ht];exact z) kp
 ·intro h' tk z kp;have ez:ds.take fm.toArray.size=ds:=by rw[LC,Y9,Vq]
  rw[ez] at z;obtain⟨k0,_,o,es,ep,t,l,ho,hx,hd,L,_,_,_,c⟩:=z;exact⟨_,cnt ds,rfl,⟨o,es,ep,t,ho,hx,hd,L.fits (by simp),c⟩,I.kept (t':=tk) k0,q⟩
open PySem.W (Dat kqdOk kqdP kqdPs)
def yV(K:Fg):V->List V->Hp->VK->Prop:=fun x xs H Q=>∃(a:Addr) (y:V) (ds:List Dat) (d:Dat) (j:Nat),x=.ref a/\xs=[y]/\Rep K H y d/\Rep K H (.ref a) (.list ds)/\(∀e∈ds,kqdOk 8 e=true)/\kqdOk 8 d=true/\ds[j]?=some d/\(∀m,m<j->ds[m]?≠some d)/\ds.length<=1000/\Q (.int j) H
open Classical in
theorem vV(he:kqdOk 8 e=true)(hd:kqdOk 8 d=true):Qm (kqdP e) (kqdP d)=decide (d=e):=by
 have h:=pU (ds:=[e]) (d:=d) (fun x hx=>by rw[Lx.mp hx];exact he) hd;rw[kqdPs,kqdPs,RB,List.any_nil,Ua] at h;rw[h];by_cases z:d=e
 ·simp[z]
 ·simp[z]
theorem kA:∀{ds:List Dat} {i:Nat},(kqdPs ds)[i]? = (ds[i]?).map kqdP
 |[],i=>by rw[kqdPs];simp
 |d :: ds,0=>by rw[kqdPs];rfl
 |d :: ds,i+1=>by rw[kqdPs,PX,PX,kA]
theorem ky:∀ds:List Dat,(kqdPs ds).length=ds.length
 |[]=>by rw[kqdPs];rfl
 |d :: ds=>by rw[kqdPs,L0,L0,ky]
open Classical in
theorem CD{X:Cx} (hu:X.A.units+64<cLine):Ba X "list.index" (yV X.K):=by
 intro pins s σ H x xs v us Q I rx rv h;obtain⟨a,y,ds,d,j,rfl,rfl,hd,he,ka,kd,e1,e2,ln,q⟩:=h;obtain⟨u,rfl,ru⟩:=vals1 rv;obtain⟨as,ra⟩:=Rep.reads I hd ru;obtain⟨bs,rb⟩:=Rep.reads I he rx;rw[kqdP] at rb;cases rx;generalize hp:kqdPs ds=ps at rb;cases rb with
 |@list _ o fm n _ _ h1 h2 h3 h4 =>
  obtain⟨c,dct,dt,sl⟩:=o;replace h2:c=.type "list":=h2;replace h3:dt=.seq fm n:=h3;subst h2 h3;have Yq:U6 ps=true:=by rw[<- hp];exact(Pj ka).1
  have XW:=Uy ps _ _ Yq h4;have lj:j<ds.length:=(Ld.mp e1).1
  have at_:∀m (hm:m<fm.size),Qm (OQ s.heap fm[m]) (kqdP d)=decide (ds[m]?=some d):=by
   intro m hm;have g:(fm.toList.map (OQ s.heap))[m]?=some (OQ s.heap fm[m]):=by rw[Li,MN,Mv hm];rfl
   rw[XW,<- hp,kA] at g;obtain⟨e,ge,gp⟩:=Ln.mp g;rw[<- gp,vV (ka e (Ll ge)) kd,ge];by_cases z:d=e
   ·simp[z]
   ·have:e≠d:=fun w=>z w.symm
    simp[z,this]
  have szl:fm.size=ds.length:=by
   have:=congrArg PQ XW
   rw[La,Mw,<- hp] at this;rw[this,ky]
  have hm:wpAny (model X.prog X.w) X.A (call (.builtin "list.index") [.ref a,u]) (EP X pins σ Q) X.xe s:=by
   refine NM F.slot_list_index ⟨_,h1,rfl⟩ F.entry_list_index (F.args_list_index_2 _ _) (SeqAt.list_indexAt a fm n dct sl u (fun y=>Qm (OQ s.heap y) (kqdP d)) j (by lia) (by lia) ?_ ?_) ⟨h1,Vt h4 ra Yq (Nd 8 d kd).1 ?_,⟨.int j,H,I.tok _,⟨_,rfl⟩,q⟩⟩
   ·rw[at_ j (by lia),e1];simp
   ·intro m hm hmj;rw[at_ m hm];exact decide_eq_false (e2 m hmj)
   ·have l:=(Nd 8 d kd).2
    have:=Pi (QH ps) (kqdP d).depth
    lia
  exact hm
theorem F8{K:Fg}{Q:VK}{j:Nat}(hd:Rep K H y d)(he:Rep K H (.ref a) (.list ds))(ka:∀e∈ds,kqdOk 8 e=true)(kd:kqdOk 8 d=true)(e1:ds[j]?=some d)(e2:∀m,m<j->ds[m]?≠some d)(l:ds.length<=1000)(q:Q (.int j) H):yV K (.ref a) [y] H Q :=
 ⟨a,y,ds,d,j,rfl,rfl,hd,he,ka,kd,e1,e2,l,q⟩
open PySem.W (Dat kqdOk kqdP kqdPs)
section
variable{K:Fg}{te:TE}{tc:TT}{σ:St}{Q:VK}{H:Hp}
theorem mI{xs:List V}(h:∀D,H D=none->∃Pv:Nat->Hp->Prop,Pv 0 (upd H D (.lst []))/\(∀i H2,i<=xs.length->Pv i H2->SqL K H2 a xs)/\(∀i x H2,xs[i]?=some x->Pv i H2->Jj g n tc te σ x H2 D xs.length i Pv)/\∀H2,Pv xs.length H2->Q (.ref D) H2):xk (uN K a) n g tc te σ Q H:=by
 intro D nD;obtain⟨Pv,h0,hl,hs,hd⟩:=h D nD;refine⟨fun i m H=>m=xs.length-i/\i<=xs.length/\Pv i H,⟨_,rfl,Ml _,h0⟩,?_⟩;rintro i m H ⟨rfl,hi,p⟩;have q:=hl i H hi p;by_cases Wm:i<xs.length
 ·refine .inr ⟨⟨xs,xs[i],q,Lb Wm⟩,fun v H' y us hu=>?_⟩;obtain⟨rfl,z⟩:=y;exact hs i v _ (z xs q) p us hu
 ·have e:i=xs.length:=by lia
  subst e;exact .inl ⟨⟨xs,q,Lg _⟩,hd H p⟩
end
end L2
namespace Rk
def pt(r:List Int)(p:Nat):Int:=r.getD p 0
end Rk
namespace Dn
open Rk
abbrev Tp:=List Int×List Int
def AQ(t:Tp)(c:List Int):Bool:=(Ob t.1 c).all fun z=>decide (z.1<=z.2)
def xf(t:Tp)(c:List Int):List Int:=(Nh c.length).map fun k=>pt c k-pt t.1 k+pt t.2 k
end Dn
namespace L2
open PySem PySem.Spec PyProof.Rows
open PySem.W (Dat)
abbrev cz (h:Heap) (T:Addr) (a b c:K_):Prop:=h.get? T=some {cls:=.type "tuple",data:=.seq #[a,b,c]}
structure GF (z TI TO i1 i2 i3 l1 l2 l3:Addr):Prop where
 a:i1<i2
 a':i2<i3
 b:i3<TI
 c:TI<TO
 d:TO<z
 e:l1<i1
 f:l2<i1
 g:l3<i1
theorem uS{z TI TO i1 i2 i3 l1 l2 l3:Nat}(a:i1<i2)(a':i2<i3)(b:i3<TI)(c:TI<TO)(d:TO<z)(e:l1<i1)(f:l2<i1)(g:l3<i1) :
  (i1≠z/\i2≠z/\i3≠z/\TO≠i1/\TO≠i2/\TO≠i3/\TO≠z/\TI≠z/\TI≠TO/\TI≠i1/\TI≠i2/\TI≠i3/\i1≠i2/\i1≠i3/\i2≠i3)/\l1≠z/\l1≠TO/\l1≠i2/\l1≠i3/\l2≠z/\l2≠TO/\l2≠i1/\l2≠i3/\l3≠z/\l3≠TO/\l3≠i1/\l3≠i2:=by
 have kT:=Lr b c;have kz:=Lr kT d;have jI:=Lr a' b;have jT:=Lr a' kT;have jz:=Lr a' kz;have ik:=Lr a a';have iI:=Lr a jI;have iT:=Lr a jT;have iz:=Lr a jz;have tz:=Lr c d;exact⟨⟨Lh iz,Lh jz,Lh kz,Mo iT,Mo jT,Mo kT,Lh d,Lh tz,Lh c,Mo iI,Mo jI,Mo b,Lh a,Lh ik,Lh a'⟩,Lh (Lr e iz),Lh (Lr e iT),Lh (Lr e a),Lh (Lr e ik),Lh (Lr f iz),Lh (Lr f iT),Lh f,Lh (Lr f ik),Lh (Lr g iz),Lh (Lr g iT),Lh g,Lh (Lr g a)⟩
section
variable{prog:LA}{w:LL}{A:L4}{E:K_->Lf->Prop}{s:Lf}{z TI TO i1 i2 i3 l1 l2 l3:Addr}{xs ys zs:Array K_}{S1 S2 S3:Nat->Heap->Prop}{k:Nat}
structure KH (z TI TO i1 i2 i3:Addr) (S1 S2 S3:Nat->Heap->Prop) (k:Nat) (h:Heap):Prop where
 z:OX h z TI TO .none
 i:cz h TI (.ref i1) (.ref i2) (.ref i3)
 o:∃a b c,cz h TO a b c
 s1:S1 k h
 s2:S2 k h
 s3:S3 k h
theorem jD{Q:Unit->Lf->Prop} (hT:cz s.heap T a b c) (q:∀h',h'.get? T=some {cls:=.type "tuple",data:=.seq ((#[a,b,c]:Array K_).setIfInBounds j x)}->Oo T s.heap h'->Q () {s with heap:=h'}) :
  wpAny (model prog w) A (updateSeq T (·.setIfInBounds j x)) Q E s:=by
 refine PH hT rfl (q _ ?_ (N3 ..));rw[Mi _ hT rfl];simp[M_]
theorem xu(D:GF z TI TO i1 i2 i3 l1 l2 l3)(W1:Bc prog w i1 l1 xs S1)(W2:Bc prog w i2 l2 ys S2)(W3:Bc prog w i3 l3 zs S3)(st:KH z TI TO i1 i2 i3 S1 S2 S3 k s.heap){Q:Option K_->Lf->Prop} :
  (∀x y y3,xs[k]?=some x->ys[k]?=some y->zs[k]?=some y3->(∀h',OX h' z TI TO (rawInt s.heap.objs.size)->cz h' TI (.ref i1) (.ref i2) (.ref i3)->(∃a b c,cz h' TO a b c)->S1 (k+1) h'->S2 (k+1) h'->S3 (k+1) h'->cz h' s.heap.objs.size x y y3 ->
   (∀c o,c∉[z,TI,TO,i1,i2,i3]->s.heap.get? c=some o->h'.get? c=some o)->Q (some (.ref s.heap.objs.size)) {s with heap:=h'})->wpAny (model prog w) A (pyNext (.ref z)) Q E s) /\
  (A.handled=none->(xs[k]?=none\/ys[k]?=none\/zs[k]?=none)->(∀h',(∀c o,c∉[z,TI,TO,i1,i2,i3]->s.heap.get? c=some o->h'.get? c=some o)->Q none {s with heap:=h'})->wpAny (model prog w) A (pyNext (.ref z)) Q E s):=by
 obtain⟨d1,Zn,d2,d3,d4,d5,d6,d7⟩:=D;obtain⟨hz,hI,⟨a,b,c,hO⟩,t1,t2,t3⟩:=st;have ty:s.TypeIs (.ref z) "zip":=⟨_,hz,rfl⟩
 obtain⟨⟨n1,n2,n3,Yg,Yv,nO3,Xb,XM,Ye,YI,YJ,nI3,n12,n13,n23⟩,q1,q2,q3,q4,q5,q6,q7,q8,q9,qa,qb,qc⟩:=uS d1 Zn d2 d3 d4 d5 d6 d7
 have m1:∀{c h h':_},c∈[z,TO,i2,i3]->O_ c h h'->∀k,S1 k h->S1 k h':=fun {c h h'} hc x k t=>W1.keep k h h' t fun b hb o e=>x b o (by
  rcases hb with rfl|rfl <;> (simp only[Lj,Lp,or_false] at hc;rcases hc with rfl|rfl|rfl|rfl <;> first|assumption|(apply MO;assumption))) e
 have m2:∀{c h h':_},c∈[z,TO,i1,i3]->O_ c h h'->∀k,S2 k h->S2 k h':=fun {c h h'} hc x k t=>W2.keep k h h' t fun b hb o e=>x b o (by
  rcases hb with rfl|rfl <;> (simp only[Lj,Lp,or_false] at hc;rcases hc with rfl|rfl|rfl|rfl <;> first|assumption|(apply MO;assumption))) e
 have m3:∀{c h h':_},c∈[z,TO,i1,i2]->O_ c h h'->∀k,S3 k h->S3 k h':=fun {c h h'} hc x k t=>W3.keep k h h' t fun b hb o e=>x b o (by
  rcases hb with rfl|rfl <;> (simp only[Lj,Lp,or_false] at hc;rcases hc with rfl|rfl|rfl|rfl <;> first|assumption|(apply MO;assumption))) e
 constructor
 ·intro x y y3 hx hy hy3 q;unfold pyNext;refine K8 (OA (Mn (name:=M8 "__next__") ty M3 (MS M3 ty OJ ?_ (Ou _))));show wpAny _ _ (field (.ref z) 2 >>= _) _ _ _;refine K8 (L3 hz rfl (x:=.bool false) rfl ?_);show wpAny _ _ (field (.ref z) 3 >>= _) _ _ _;refine K8 (L3 hz rfl (x:=.ref TI) rfl (K8 (Mc hI rfl ?_)));show wpAny _ _ (LM (.ref z) >>= _) _ _ _;refine K8 ?_;unfold LM;refine K8 (L3 hz rfl (x:=.none) rfl (Le ?_));simp only[if_true];refine K8 (Q9 (K8 (L3 hz rfl (x:=.ref TO) rfl (K8 (Mr hz (by simp) fun h1 WZ Wn=>?_)))));replace WZ:OX h1 z TI TO .ellipsis:=WZ;refine K8 ?_;simp only[Qo,QJ,Nw,Pa];refine K8 (K8 (NQ ?_));show wpAny _ _ (LN (.ref i1) >>= _) _ _ _;refine K8 (W1.item _ _ _ k x _ (m1 (by simp) Wn.extBut k t1) hx fun h2 YL hs2=>Le ?_);have XT:cz h2 TO a b c:=hs2.extBut _ _ Yg (Wn.extBut _ _ Xb hO);refine K8 (Mc XT rfl (K8 (jD XT fun h3 XJ hs3=>?_)));replace XJ:cz h3 TO x b c:=XJ;refine K8 (OL (Le (K8 (K8 (NQ ?_)))));show wpAny _ _ (LN (.ref i2) >>= _) _ _ _;refine K8 (W2.item _ _ _ k y _ (m2 (by simp) hs3.extBut k (m2 (by simp) hs2.extBut k (m2 (by simp) Wn.extBut k t2))) hy fun h4 t24 WS=>Le ?_);have Yz:cz h4 TO x b c:=WS.extBut _ _ Yv XJ;refine K8 (Mc Yz rfl (K8 (jD Yz fun h5 Yl W6=>?_)));replace Yl:cz h5 TO x y c:=Yl;refine K8 (OL (Le (K8 (K8 (NQ ?_)))));show wpAny _ _ (LN (.ref i3) >>= _) _ _ _;refine K8 (W3.item _ _ _ k y3 _ (m3 (by simp) W6.extBut k (m3 (by simp) WS.extBut k (m3 (by simp) hs3.extBut k (m3 (by simp) hs2.extBut k (m3 (by simp) Wn.extBut k t3))))) hy3 fun h6 t36 Yd=>Le ?_);have hO6:cz h6 TO x y c:=Yd.extBut _ _ nO3 Yl;refine K8 (Mc hO6 rfl (K8 (jD hO6 fun h7 hO7 XF=>?_)));replace hO7:cz h7 TO x y y3:=hO7;refine K8 (OL (Le (Le (K8 (Mc hO7 rfl (K8 (Tc ?_)))))));have sz:h7.objs.size=s.heap.objs.size:=by rw[XF.1,Yd.1,W6.1,WS.1,hs3.1,hs2.1,Wn.1]
  have Zw:OX h7 z TI TO .ellipsis:=XF.extBut _ _ Xb.symm (Yd.extBut _ _ n3.symm (W6.extBut _ _ Xb.symm (WS.extBut _ _ n2.symm (hs3.extBut _ _ Xb.symm (hs2.extBut _ _ n1.symm WZ)))))
  have all7:∀c o,c∉[z,TI,TO,i1,i2,i3]->s.heap.get? c=some o->h7.get? c=some o:=fun c o hc e=>by
   simp only[Lj,Lp,or_false,not_or] at hc;exact XF.extBut _ _ hc.2.2.1 (Yd.extBut _ _ hc.2.2.2.2.2 (W6.extBut _ _ hc.2.2.1 (WS.extBut _ _ hc.2.2.2.2.1 (hs3.extBut _ _ hc.2.2.1 (hs2.extBut _ _ hc.2.2.2.1 (Wn.extBut _ _ hc.1 e))))))
  have hI7:cz h7 TI (.ref i1) (.ref i2) (.ref i3):=XF.extBut _ _ Ye (Yd.extBut _ _ nI3 (W6.extBut _ _ Ye (WS.extBut _ _ YJ (hs3.extBut _ _ Ye (hs2.extBut _ _ YI (Wn.extBut _ _ XM hI))))));have YN:z<h7.objs.size:=Lm Zw;show wpAny _ _ (Ni (.ref z) (.ref h7.objs.size) >>= _) _ _ _;refine K8 ?_;unfold Ni;have YG:OX (h7.push {cls:=.type "tuple",data:=.seq #[x,y,y3]}) z TI TO .ellipsis:=K9 _ Zw;refine K8 (Mr YG (by simp) fun h9 hz9 hs9=>?_);replace hz9:OX h9 z TI TO (rawInt h7.objs.size):=hz9;refine Mr hz9 (by simp) fun h10 Yr Z7=>?_;replace Yr:OX h10 z TI TO (rawInt h7.objs.size):=Yr
  have up:∀c o,c≠z->h7.get? c=some o->h10.get? c=some o:=fun c o c1 e=>Z7.extBut _ _ c1 (hs9.extBut _ _ c1 (K9 _ e))
  have hT:cz h10 h7.objs.size x y y3:=Z7.extBut _ _ (Mo YN) (hs9.extBut _ _ (Mo YN) (Lu _ rfl));have t1':S1 (k+1) h10:=W1.keep _ _ _ (m1 (by simp) XF.extBut _ (m1 (by simp) Yd.extBut _ (m1 (by simp) W6.extBut _ (m1 (by simp) WS.extBut _ (m1 (by simp) hs3.extBut _ YL))))) fun c hc o e=>up c o (by rcases hc with rfl|rfl <;> first|assumption|(apply MO;assumption)) e
  have t2':S2 (k+1) h10:=W2.keep _ _ _ (m2 (by simp) XF.extBut _ (m2 (by simp) Yd.extBut _ (m2 (by simp) W6.extBut _ t24))) fun c hc o e=>up c o (by rcases hc with rfl|rfl <;> first|assumption|(apply MO;assumption)) e
  have t3':S3 (k+1) h10:=W3.keep _ _ _ (m3 (by simp) XF.extBut _ t36) fun c hc o e=>up c o (by rcases hc with rfl|rfl <;> first|assumption|(apply MO;assumption)) e
  rw[sz] at Yr hT;refine Le ⟨_,rfl,?_⟩;show wpAny _ _ (pure (some (LH h7.objs.size))) _ _ _;rw[sz];exact Le (q h10 Yr (up _ _ XM hI7) ⟨_,_,_,up _ _ Xb hO7⟩ t1' t2' t3' hT fun c o hc e=>up c o (fun x=>hc (by simp[x])) (all7 c o hc e))
 ·intro hh Y1 q
  have stop:∀(h9:Heap) (e:Addr),(∀c o,c∉[z,TI,TO,i1,i2,i3]->s.heap.get? c=some o->h9.get? c=some o)->(∃o,h9.get? e=some o/\o.cls=.type "StopIteration") ->
    wpAny (model prog w) A (isInstance (.ref e) (.type "StopIteration") >>= fun b=>if b=true then pure none else throw (.ref e)) Q E {s with heap:=h9}:=fun h9 e kp ⟨o,ho,oc⟩ =>
   K8 (Pl (T:="StopIteration") (b:=true) ⟨o,ho,oc⟩ Q8 (Le (q _ kp)))
  unfold pyNext;refine K8 (OA (Mn (name:=M8 "__next__") ty M3 (MS M3 ty OJ ?_ (Ou _))));show wpAny _ _ (field (.ref z) 2 >>= _) _ _ _;refine K8 (L3 hz rfl (x:=.bool false) rfl ?_);show wpAny _ _ (field (.ref z) 3 >>= _) _ _ _;refine K8 (L3 hz rfl (x:=.ref TI) rfl (K8 (Mc hI rfl ?_)));show wpAny _ _ (LM (.ref z) >>= _) _ _ _;refine K8 ?_;unfold LM;refine K8 (L3 hz rfl (x:=.none) rfl (Le ?_));simp only[if_true];refine K8 (Q9 (K8 (L3 hz rfl (x:=.ref TO) rfl (K8 (Mr hz (by simp) fun h1 WZ Wn=>?_)))));replace WZ:OX h1 z TI TO .ellipsis:=WZ;refine K8 ?_;simp only[Qo,QJ,Nw,Pa];refine K8 (K8 (NQ ?_));show wpAny _ _ (LN (.ref i1) >>= _) _ _ _;cases hx:xs[k]? with
  |none =>
   refine K8 (W1.fin _ _ _ k _ hh (m1 (by simp) Wn.extBut k t1) hx fun h2 e hs2 ⟨oe,Xf,Xn⟩=>?_);have Ys:OX h2 z TI TO .ellipsis:=hs2 _ _ n1.symm WZ;have ez:e≠z:=fun x=>by subst x;rw[Ys] at Xf;cases Xf;simp at Xn
   refine Mr Ys (by simp) fun h3 _ hs3=>stop h3 e (fun c o hc u=>?_) ⟨oe,hs3.extBut _ _ ez Xf,Xn⟩
   simp only[Lj,Lp,or_false,not_or] at hc;exact hs3.extBut _ _ hc.1 (hs2 _ _ hc.2.2.2.1 (Wn.extBut _ _ hc.1 u))
  |some x =>
   refine K8 (W1.item _ _ _ k x _ (m1 (by simp) Wn.extBut k t1) hx fun h2 YL hs2=>Le ?_);have XT:cz h2 TO a b c:=hs2.extBut _ _ Yg (Wn.extBut _ _ Xb hO);refine K8 (Mc XT rfl (K8 (jD XT fun h3 XJ hs3=>?_)));replace XJ:cz h3 TO x b c:=XJ;refine K8 (OL (Le (K8 (K8 (NQ ?_)))));show wpAny _ _ (LN (.ref i2) >>= _) _ _ _;cases hy:ys[k]? with
   |none =>
    refine K8 (W2.fin _ _ _ k _ hh (m2 (by simp) hs3.extBut k (m2 (by simp) hs2.extBut k (m2 (by simp) Wn.extBut k t2))) hy fun h4 e WS ⟨oe,Xf,Xn⟩=>?_);have Z_:OX h4 z TI TO .ellipsis:=WS _ _ n2.symm (hs3.extBut _ _ Xb.symm (hs2.extBut _ _ n1.symm WZ));have ez:e≠z:=fun x=>by subst x;rw[Z_] at Xf;cases Xf;simp at Xn
    refine Mr Z_ (by simp) fun h5 _ W6=>stop h5 e (fun c o hc u=>?_) ⟨oe,W6.extBut _ _ ez Xf,Xn⟩
    simp only[Lj,Lp,or_false,not_or] at hc;exact W6.extBut _ _ hc.1 (WS _ _ hc.2.2.2.2.1 (hs3.extBut _ _ hc.2.2.1 (hs2.extBut _ _ hc.2.2.2.1 (Wn.extBut _ _ hc.1 u))))
   |some y =>
    have hy3:zs[k]?=none:=by rcases Y1 with u|u|u;rw[hx] at u;cases u;rw[hy] at u;cases u;exact u
    refine K8 (W2.item _ _ _ k y _ (m2 (by simp) hs3.extBut k (m2 (by simp) hs2.extBut k (m2 (by simp) Wn.extBut k t2))) hy fun h4 t24 WS=>Le ?_);have Yz:cz h4 TO x b c:=WS.extBut _ _ Yv XJ;refine K8 (Mc Yz rfl (K8 (jD Yz fun h5 Yl W6=>?_)));refine K8 (OL (Le (K8 (K8 (NQ ?_)))));show wpAny _ _ (LN (.ref i3) >>= _) _ _ _;refine K8 (W3.fin _ _ _ k _ hh (m3 (by simp) W6.extBut k (m3 (by simp) WS.extBut k (m3 (by simp) hs3.extBut k (m3 (by simp) hs2.extBut k (m3 (by simp) Wn.extBut k t3))))) hy3 fun h6 e Yd ⟨oe,Xf,Xn⟩=>?_);have hz6:OX h6 z TI TO .ellipsis:=Yd _ _ n3.symm (W6.extBut _ _ Xb.symm (WS.extBut _ _ n2.symm (hs3.extBut _ _ Xb.symm (hs2.extBut _ _ n1.symm WZ))));have ez:e≠z:=fun x=>by subst x;rw[hz6] at Xf;cases Xf;simp at Xn
    refine Mr hz6 (by simp) fun h7 _ XF=>stop h7 e (fun c o hc u=>?_) ⟨oe,XF.extBut _ _ ez Xf,Xn⟩
    simp only[Lj,Lp,or_false,not_or] at hc;exact XF.extBut _ _ hc.1 (Yd _ _ hc.2.2.2.2.2 (W6.extBut _ _ hc.2.2.1 (WS.extBut _ _ hc.2.2.2.2.1 (hs3.extBut _ _ hc.2.2.1 (hs2.extBut _ _ hc.2.2.2.1 (Wn.extBut _ _ hc.1 u))))))
def Bm (l:Addr):Obj:={cls:=.type "tuple_iterator",data:=.fields #[.ref l,.int 0 0]}
def zI(h:Heap)(l1 l2 l3:Addr):Heap:=((h.push (Bm l1)).push (Bm l2)).push (Bm l3)
def zJ (h:Heap) (l1 l2 l3:Addr):Heap:=(zI h l1 l2 l3).push {cls:=.type "tuple",data:=.seq #[.ref h.objs.size,.ref (h.push (Bm l1)).objs.size,.ref ((h.push (Bm l1)).push (Bm l2)).objs.size]}
def zK (h:Heap) (l1 l2 l3:Addr):Heap:=(zJ h l1 l2 l3).push {cls:=.type "tuple",data:=.seq #[.none,.none,.none]}
def Ey (h:Heap) (l1 l2 l3:Addr):Heap:=(zK h l1 l2 l3).push {cls:=.type "zip",data:=.fields #[.none,.bool false,.bool false,.ref (zI h l1 l2 l3).objs.size,.ref (zJ h l1 l2 l3).objs.size]}
theorem Bd(l1 l2 l3:Addr) (xs ys zs:Array K_):Meets (NX.«zip.__new__» ⟨[.type "zip",.ref l1,.ref l2,.ref l3],[]⟩) (fun _ R s=>s.heap.IsTuple l1 xs/\s.heap.IsTuple l2 ys/\s.heap.IsTuple l3 zs /\
  R (.ok (.ret (.ref (zK s.heap l1 l2 l3).objs.size))) {s with heap:=Ey s.heap l1 l2 l3}) :=
 .of_wp fun prog w A R s h=>by
  obtain⟨hp,g,d,tk,os⟩:=s;obtain⟨a1,a2,a3,h⟩:=h;have Z8:=sub_zip;have c1:Qb (OM ⟨hp,g,d,tk,os⟩) l1 xs:=a1;have c2:Qb (OM ⟨hp.push {cls:=.type "tuple_iterator",data:=.fields #[.ref l1,.int 0 0]},g,d,tk,os⟩) l2 ys:=Kn.tN .T a2 fun o e=>K9 _ e
  have c3:Qb (OM ⟨(hp.push {cls:=.type "tuple_iterator",data:=.fields #[.ref l1,.int 0 0]}).push {cls:=.type "tuple_iterator",data:=.fields #[.ref l2,.int 0 0]},g,d,tk,os⟩) l3 zs:=Kn.tN .T a3 fun o e=>K9 _ (K9 _ e)
  wp_walk using MV c1,MV c2,MV c3;exact⟨_,rfl,h⟩
theorem nj(a b c:K_):checkTypeCall "zip" ⟨[a,b,c],[]⟩=pure ():=by kernel_rfl
theorem rH(a b c:K_):checkBuiltinCall "zip.__new__" ⟨[.type "zip",a,b,c],[]⟩=pure ():=by kernel_rfl
theorem uK(a b c d:K_):argsOk "object.__init__" ⟨[a,b,c,d],[]⟩:=by
 unfold argsOk;rw[signature?_of (id:="object.__init__") (n:=['_','_','t','i','n','i','_','_']) (o:=['t','c','e','j','b','o']) (by kernel_rfl) PySem.F.owner_object];kernel_rfl
theorem EA{l1 l2 l3:Addr}{xs ys zs:Array K_}{Q:K_->Lf->Prop}(a1:s.heap.IsTuple l1 xs)(a2:s.heap.IsTuple l2 ys)(a3:s.heap.IsTuple l3 zs)
  (q:∀h' (z TI TO i1 i2 i3:Addr),GF z TI TO i1 i2 i3 l1 l2 l3->s.heap.objs.size<=i1->OX h' z TI TO .none->cz h' TI (.ref i1) (.ref i2) (.ref i3)->(∃a b c,cz h' TO a b c)->h'.IsTupleIter i1 l1 0->h'.IsTupleIter i2 l2 0->h'.IsTupleIter i3 l3 0->(∀c o,s.heap.get? c=some o->h'.get? c=some o)->Q (.ref z) {s with heap:=h'}) :
  wpAny (model prog w) A (call (.type "zip") [.ref l1,.ref l2,.ref l3]) Q E s:=by
 refine callType_new F.called_zip (by decide) (nj _ _ _) (rH _ _ _) (fun obj=>uK obj _ _ _) F.entry_zip_new (Bd l1 l2 l3 xs ys zs) ⟨a1,a2,a3,?_⟩;have D3:=Kn.lt .T a1;have lt2:=Kn.lt .T a2;have lt3:=Kn.lt .T a3;have g6:(Ey s.heap l1 l2 l3).get? (zK s.heap l1 l2 l3).objs.size=some _:=Lu (zK s.heap l1 l2 l3) rfl;have g5:(Ey s.heap l1 l2 l3).get? (zJ s.heap l1 l2 l3).objs.size=some _:=K9 _ (Lu (zJ s.heap l1 l2 l3) rfl);have g4:(Ey s.heap l1 l2 l3).get? (zI s.heap l1 l2 l3).objs.size=some _:=K9 _ (K9 _ (Lu (zI s.heap l1 l2 l3) rfl));have k3:(Ey s.heap l1 l2 l3).IsTupleIter ((s.heap.push (Bm l1)).push (Bm l2)).objs.size l3 0:=Kn.itAt .T (Kn.it0 .T _ l3) fun o e=>K9 _ (K9 _ (K9 _ e))
 have k2:(Ey s.heap l1 l2 l3).IsTupleIter (s.heap.push (Bm l1)).objs.size l2 0:=Kn.itAt .T (Kn.it0 .T _ l2) fun o e=>K9 _ (K9 _ (K9 _ (K9 _ e)))
 have k1:(Ey s.heap l1 l2 l3).IsTupleIter s.heap.objs.size l1 0:=Kn.itAt .T (Kn.it0 .T _ l1) fun o e=>K9 _ (K9 _ (K9 _ (K9 _ (K9 _ e))))
 show _/\_;refine⟨⟨_,g6,rfl⟩,q _ _ _ _ _ _ _ ⟨?_,?_,?_,?_,?_,D3,lt2,lt3⟩ (Lg _) g6 g4 ⟨_,_,_,g5⟩ k1 k2 k3 fun c o x=>K9 _ (K9 _ (K9 _ (K9 _ (K9 _ (K9 _ x)))))⟩ <;>
 ·(try unfold zK);(try unfold zJ);(try unfold zI);simp only[NC];exact N8 _
end
def Dw(K:Fg)(a b c:Addr):It :=
 ⟨fun i H=>∃xs ys zs,SqT K H a xs/\SqT K H b ys/\SqT K H c zs/\i<xs.length/\i<ys.length/\i<zs.length,fun i H v H'=>∃T x y u,H T=none/\v=.ref T/\H'=upd H T (.tup [x,y,u])/\(∀xs,SqT K H a xs->xs[i]?=some x)/\(∀ys,SqT K H b ys->ys[i]?=some y)/\(∀zs,SqT K H c zs->zs[i]?=some u),
  fun i H=>∃xs ys zs,SqT K H a xs/\SqT K H b ys/\SqT K H c zs/\(xs.length<=i\/ys.length<=i\/zs.length<=i)⟩
theorem xz{K:Fg}{x1}{pos:Pos}{TI TO:Addr}(D:GF z TI TO i1 i2 i3 a b c) :
  pV P w K (.Tuple elts x1 pos) (Dw K a b c) [z,TI,TO,i1,i2,i3] z (fun i h=>OX h z TI TO .none/\cz h TI (.ref i1) (.ref i2) (.ref i3)/\(∃x y u,cz h TO x y u)/\Kn.it .T h i1 a i/\Kn.it .T h i2 b i/\Kn.it .T h i3 c i) where
 mem:=by simp
 obj:=fun i h ⟨hz,hI,⟨x,y,u,hO⟩,t1,t2,t3⟩ c hc=>by
  simp only[Lj,Lp,or_false] at hc;rcases hc with rfl|rfl|rfl|rfl|rfl|rfl
  ·exact⟨_,hz,fun v q=>by cases (show VB _=QZ v from q)⟩
  ·exact⟨_,hI,fun v q=>by cases (show US _ _=QZ v from q)⟩
  ·exact⟨_,hO,fun v q=>by cases (show US _ _=QZ v from q)⟩
  ·exact Kn.hG .T t1
  ·exact Kn.hG .T t2
  ·exact Kn.hG .T t3
 keep:=fun i h h' ⟨hz,hI,⟨x,y,u,hO⟩,t1,t2,t3⟩ kp=>⟨kp z (by simp) _ hz,kp TI (by simp) _ hI,⟨x,y,u,kp TO (by simp) _ hO⟩,Kn.itAt .T t1 fun o e=>kp i1 (by simp) o e,Kn.itAt .T t2 fun o e=>kp i2 (by simp) o e,Kn.itAt .T t3 fun o e=>kp i3 (by simp) o e⟩
 item:=by
  intro X hP hw hK hc i pins s σ H E I hf ⟨hz,hI,hO,t1,t2,t3⟩ hg;subst hP hw hK;obtain⟨xs,ys,zs,q1,q2,q3,l1,l2,l3⟩:=hg;obtain⟨v1,r1,p1⟩:=Kn.inv .T I q1;obtain⟨v2,r2,p2⟩:=Kn.inv .T I q2;obtain⟨v3,r3,p3⟩:=Kn.inv .T I q3;obtain⟨u1,e1,Ze⟩:=r1.get (Lb l1);obtain⟨u2,e2,Zf⟩:=r2.get (Lb l2);obtain⟨u3,e3,ru3⟩:=r3.get (Lb l3);obtain⟨⟨n1,n2,n3,Yg,Yv,nO3,Xb,XM,Ye,YI,YJ,nI3,n12,n13,n23⟩,_⟩:=uS D.a D.a' D.b D.c D.d D.e D.f D.g;refine(xu D (Kn.drw .T i1 a (Lh D.e) v1.toArray) (Kn.drw .T i2 b (Lh (Lr D.f D.a)) v2.toArray) (Kn.drw .T i3 c (Lh (Lr D.g (Lr D.a D.a'))) v3.toArray) ⟨hz,hI,hO,⟨t1,p1⟩,⟨t2,p2⟩,⟨t3,p3⟩⟩).1 u1 u2 u3 (by simpa using e1) (by simpa using e2) (by simpa using e3) fun h' Y8 YZ ZL Zh Zi s3' hT all=>⟨_,rfl,?_⟩
  refine Rf Y8 fun h2 Ys sb=>?_
  have nT:∀c∈[z,TI,TO,i1,i2,i3],c≠s.heap.objs.size:=fun c Wh=>by
   simp only[Lj,Lp,or_false] at Wh;rcases Wh with rfl|rfl|rfl|rfl|rfl|rfl
   ·exact Lh (Lm hz)
   ·exact Lh (Lm hI)
   ·obtain⟨_,_,_,q⟩:=hO;exact Lh (Lm q)
   ·obtain⟨_,q,_⟩:=Kn.hG .T t1;exact Lh (Lm q)
   ·obtain⟨_,q,_⟩:=Kn.hG .T t2;exact Lh (Lm q)
   ·obtain⟨_,q,_⟩:=Kn.hG .T t3;exact Lh (Lm q)
  have WV:H s.heap.objs.size=none:=I.hok.fresh (Lg _)
  have I1:Inv X pins σ (upd H s.heap.objs.size (.tup [xs[i],ys[i],zs[i]])) {s with heap:=s.heap.push {cls:=.type "tuple",data:=.seq #[u1,u2,u3]}} :=
   I.laid (t':=s.toks) (fun b u e=>K9 _ e) (Lg _) ⟨gu,[u1,u2,u3],.cons Ze (.cons Zf (.cons ru3 .nil)),TupD.new _ _⟩
  have zT:s.heap.objs.size≠z:=(nT z (by simp)).symm
  have I2:Inv X pins σ (upd H s.heap.objs.size (.tup [xs[i],ys[i],zs[i]])) {s with heap:=h2}:=Inv.io (s:={s with heap:=s.heap.push {cls:=.type "tuple",data:=.seq #[u1,u2,u3]}}) (t':=s.toks) (fp:=[z,TI,TO,i1,i2,i3]) I1 (fun c o Wh e=>by
   have hcz:c≠z:=fun x=>Wh (by simp[x])
   rcases QC e with⟨ec,eo⟩|e
   ·rw[ec,eo];exact sb.extBut _ _ zT hT
   ·exact sb.extBut _ _ hcz (all c o Wh e)) fun c Wh=>⟨by rw[aC (nT c Wh)];exact(hf c Wh).1,(hf c Wh).2⟩
  refine⟨.ref s.heap.objs.size,_,I2,rfl,⟨s.heap.objs.size,xs[i],ys[i],zs[i],WV,rfl,rfl,fun ws hz=>?_,fun ws hz=>?_,fun ws hz=>?_⟩,⟨Ys,sb.extBut _ _ XM YZ,?_,Kn.itAt .T Zh.1 fun o e=>sb.extBut _ _ n1 e,Kn.itAt .T Zi.1 fun o e=>sb.extBut _ _ n2 e,Kn.itAt .T s3'.1 fun o e=>sb.extBut _ _ n3 e⟩,fun c Wh=>by rw[aC (nT c Wh)];exact(hf c Wh).1⟩
  ·rw[Kn.inj .T I hz q1,Lb l1]
  ·rw[Kn.inj .T I hz q2,Lb l2]
  ·rw[Kn.inj .T I hz q3,Lb l3]
  ·obtain⟨x,y,u,q⟩:=ZL;exact⟨x,y,u,sb.extBut _ _ Xb q⟩
 done:=by
  intro X hP hw hK hc i pins s σ H E I hf ⟨hz,hI,hO,t1,t2,t3⟩ hg;subst hP hw hK;obtain⟨xs,ys,zs,q1,q2,q3,le⟩:=hg;obtain⟨v1,r1,p1⟩:=Kn.inv .T I q1;obtain⟨v2,r2,p2⟩:=Kn.inv .T I q2;obtain⟨v3,r3,p3⟩:=Kn.inv .T I q3;have e1:=r1.length;have e2:=r2.length;have e3:=r3.length
  refine(xu D (Kn.drw .T i1 a (Lh D.e) v1.toArray) (Kn.drw .T i2 b (Lh (Lr D.f D.a)) v2.toArray) (Kn.drw .T i3 c (Lh (Lr D.g (Lr D.a D.a'))) v3.toArray) ⟨hz,hI,hO,⟨t1,p1⟩,⟨t2,p2⟩,⟨t3,p3⟩⟩).2 (I.ok.hd hc) (by
   rcases le with q|q|q
   ·exact .inl (by simp;lia)
   ·exact .inr (.inl (by simp;lia))
   ·exact .inr (.inr (by simp;lia))) fun h' all=>⟨rfl,I.io (t':=s.toks) (fun c o Wh e=>all c o Wh e) hf⟩
 self:=fun _ _ _ _ _ st q=>Pm st.1 q
section
variable{X:Cx}
def Gg(K:Fg)(ta:TA):TI:=fun σ H R=>ta σ H fun vs H1=>∃a b c xs ys zs,vs=[.ref a,.ref b,.ref c]/\SqT K H1 a xs/\SqT K H1 b ys/\SqT K H1 c zs/\R (Dw K a b c) H1
theorem Fv{x y u:Expr} {ta:TA}  {x1} {p pos:Pos} (hg:Gl X "zip") (hm:X.mg "zip"=none) (ha:PA X [x,y,u] ta) (hs:starEach [x,y,u] X.env=[(false,eval x X.env),(false,eval y X.env),(false,eval u X.env)]:=by rfl) (hs2:starEach [y,u] X.env=[(false,eval y X.env),(false,eval u X.env)]:=by rfl) :
  PI X (.Tuple elts x1 tp) (.Call (.Name "zip" p) [x,y,u] [] pos) (Gg X.K ta):=by
 intro pins s σ H R I h;refine Call_ (fC I hg hm AU (ML (bp (ha pos pins s σ H _ I h) fun us s1 ⟨vs,H1,I1,r1,q1⟩=>?_) (by rw[hs,hs2]) (by rw[hs2];rfl)));obtain⟨a,b,c,xs,ys,zs,e,s1q,s2q,s3q,q⟩:=q1;subst e;cases r1 with
 |cons ra r1=>cases r1 with
  |cons rb r1=>cases r1 with
   |cons rc r1 =>
    cases r1;cases ra;cases rb;cases rc;obtain⟨v1,w1,p1⟩:=Kn.inv .T I1 s1q;obtain⟨v2,w2,p2⟩:=Kn.inv .T I1 s2q;obtain⟨v3,w3,p3⟩:=Kn.inv .T I1 s3q;refine EA p1 p2 p3 fun h' z TI TO i1 i2 i3 D le hz hI hO t1 t2 t3 kp=>?_
    refine Pm (s:={s1 with heap:=h'}) hz ?_;refine⟨z,[z,TI,TO,i1,i2,i3],_,_,H1,rfl,I1.kept (t':=s1.toks) kp,xz D,⟨hz,hI,hO,t1,t2,t3⟩,fun c hc=>?_,q⟩
    have YH:s1.heap.objs.size<=c:=by
     have d1:=D.a;have Zn:=D.a';have d2:=D.b;have d3:=D.c;have d4:=D.d;simp only[Lj,Lp,or_false] at hc;rcases hc with rfl|rfl|rfl|rfl|rfl|rfl
     ·exact MC (LW le (Lr d1 (Lr Zn (Lr d2 (Lr d3 d4)))))
     ·exact MC (LW le (Lr d1 (Lr Zn d2)))
     ·exact MC (LW le (Lr d1 (Lr Zn (Lr d2 d3))))
     ·exact le
     ·exact MC (LW le d1)
     ·exact MC (LW le (Lr d1 Zn))
    exact I1.fpOk YH (I1.hok.fresh YH)
end
section
variable{K:Fg}{te:TE}{σ:St}{Q:VK}{H:Hp}
theorem HZ{ta:TA}{R:It->Hp->Prop}(h:ta σ H fun vs H1=>∃a b c xs ys zs,vs=[.ref a,.ref b,.ref c]/\SqT K H1 a xs/\SqT K H1 b ys/\SqT K H1 c zs/\R (Dw K a b c) H1):Gg K ta σ H R:=h
theorem AH{xs ys zs:List V}{m:Nat}(e1:xs.length=m)(e2:ys.length=m)(e3:zs.length=m)(h:∀D,H D=none->∃Pv:Nat->Hp->Prop,Pv 0 (upd H D (.lst []))/\(∀i H2,i<=m->Pv i H2->SqT K H2 a xs/\SqT K H2 b ys/\SqT K H2 c zs) /\
  (∀i x y u H2 T,xs[i]?=some x->ys[i]?=some y->zs[i]?=some u->Pv i H2->H2 T=none->Ji g n te σ (.ref T) (upd H2 T (.tup [x,y,u])) D m i Pv)/\∀H2,Pv m H2->Q (.ref D) H2):AZ (Dw K a b c) n g te σ Q H:=by
 intro D nD;obtain⟨Pv,h0,hl,hs,hd⟩:=h D nD;refine⟨fun i k H=>k=m-i/\i<=m/\Pv i H,⟨_,rfl,Ml _,h0⟩,?_⟩;rintro i k H ⟨rfl,hi,p⟩;obtain⟨q1,q2,q3⟩:=hl i H hi p;by_cases Wm:i<m
 ·refine .inr ⟨⟨xs,ys,zs,q1,q2,q3,by lia,by lia,by lia⟩,fun v H' y us hu=>?_⟩;obtain⟨T,x,y,u,nT,rfl,rfl,z1,z2,z3⟩:=y;exact hs i x y u H T (z1 xs q1) (z2 ys q2) (z3 zs q3) p nT us hu
 ·have e:i=m:=by lia
  subst e;exact .inl ⟨⟨xs,ys,zs,q1,q2,q3,.inl (by lia)⟩,hd H p⟩
end
end L2
namespace L2
open PySem PySem.Spec PyProof.Rows
namespace F7
end F7
open PySem.W (Dat)
open PySem.Builtin.Str (occurrences lastOccurrence strSub subAt partsBetween)
def gN(z y:Str)(i:Nat):Prop:=i+y.length<=z.length/\subAt z y i=true
def B9:V->List V->Hp->VK->Prop := fun x xs H Q => ∃ z y, x=.str z/\xs=[.str y] /\ y.length≠0/\z.length<=sizeLine /\
  ((∃ i, gN z y i/\(∀ k, k<i->¬ gN z y k) /\ ∀ p, H p=none->Q (.ref p) (upd H p (.tup [.str (strSub z 0 i), .str y, .str (strSub z (i + y.length) z.length)]))) \/
   ((∀ i, ¬ gN z y i) /\ ∀ p, H p=none->Q (.ref p) (upd H p (.tup [.str z, .str Mj, .str Mj]))))
section
variable{X:Cx}
theorem fA:Ba X "str.partition" B9:=by
 intro pins s σ H x xs v us Q I rx rv h;obtain⟨z,y,rfl,rfl,hy,hz,h⟩:=h;obtain⟨t,rfl⟩:=rx;obtain⟨u,rfl,t',rfl⟩:=vals1 rv;refine NM Oc (PL _ _ _) PySem.F.entry_str_partition (PySem.F.args_str_partition_2 _ _) (meets_str_partition z y t t' (by simpa using hy) hz) ?_
 have new:∀(a b c:Str) (ta tb tc:Tok) (k:Nat),(∀p,H p=none->Q (.ref p) (upd H p (.tup [.str a,.str b,.str c])))->EP X pins σ Q (.ref s.heap.objs.size) {s with toks:=k,heap:=s.heap.push {cls:=.type "tuple",data:=.seq [.str a ta,.str b tb,.str c tc].toArray}}:=by
  intro a b c ta tb tc k q;refine⟨.ref s.heap.objs.size,_,I.laid (t':=k) (o:=.tup [.str a,.str b,.str c]) (fun b ob q=>K9 _ q) (Lg _) ?_,rfl,q _ (I.hok.fresh (Lg _))⟩;exact⟨gu,_,.cons ⟨ta,rfl⟩ (.cons ⟨tb,rfl⟩ (.cons ⟨tc,rfl⟩ .nil)),TupD.new _ _⟩
 rcases h with⟨i,hi,mi,q⟩|⟨no,q⟩
 ·rcases Vu z y 1 (Lg _) with⟨_,n⟩|⟨j,r,e,hj,mj⟩
  ·exact absurd hi (n i)
  ·have:j=i:=by
    rcases Ov j i with l|l|l
    ·exact absurd hj (mi j l)
    ·exact l
    ·exact absurd hi (mj i l)
   subst this;show wants _ _ _ (match occurrences z y 0 z.length 1 with|i :: _=>_ | []=>_);rw[e];exact new _ _ _ _ _ _ _ q
 ·rcases Vu z y 1 (Lg _) with⟨e,_⟩|⟨j,r,e,hj,mj⟩
  ·show wants _ _ _ (match occurrences z y 0 z.length 1 with|i :: _=>_ | []=>_);rw[e];exact new _ _ _ _ _ _ _ q
  ·exact absurd hj (no j)
end
def yQ:V->List V->Hp->VK->Prop := fun x xs H Q => ∃ z y, x=.str z/\xs=[.str y] /\ y.length≠0/\z.length<=sizeLine /\
  ((∃ i, gN z y i/\(∀ k, i<k->¬ gN z y k) /\ ∀ p, H p=none->Q (.ref p) (upd H p (.tup [.str (strSub z 0 i), .str y, .str (strSub z (i + y.length) z.length)]))) \/
   ((∀ i, ¬ gN z y i) /\ ∀ p, H p=none->Q (.ref p) (upd H p (.tup [.str Mj, .str Mj, .str z]))))
def iO(z y:Str):List Nat:=(Nh (z.length+1)).filter fun i=>decide (i+y.length<=z.length) && subAt z y i
theorem jw{i:Nat}:i∈iO z y↔gN z y i:=by
 unfold iO gN;rw[M0,NS,NA,decide_eq_true_iff];exact⟨fun h=>h.2,fun h=>⟨by have:=h.1;lia,h⟩⟩
def Apart(z y:Str):Prop:=∀i j,gN z y i->gN z y j->i<j->i+y.length<=j
theorem uq{z y:Str}{lim:Nat}(ap:Apart z y)(hy:y.length≠0):∀(n a:Nat) (arr:Array Nat) (fr:Nat),(∀i,gN z y i->a<=i->fr<=i)->arr.size+n<=lim ->
  (forIn (VF a n) (arr,fr) (VL z y z.length lim)).run.fst.toList=arr.toList++(VF a n).filter fun i=>decide (i+y.length<=z.length) && subAt z y i
 |0,a,arr,fr,_,_=>by simp
 |n+1,a,arr,fr,hf,hl=>by
  rw[Vv,Nw,Pk];unfold VL;by_cases h:gN z y a
  ·have c:((arr.size<lim/\fr<=a)/\a+y.length<=z.length)/\subAt z y a=true:=⟨⟨⟨by lia,hf a h (Lg _)⟩,h.1⟩,h.2⟩
   rw[if_pos c,if_pos (by rw[NA,decide_eq_true_iff];exact h)];have ih:=uq (lim:=lim) ap hy n (a+1) (arr.push a) (a+y.length) (fun i hi l=>ap a i h hi (by lia)) (by rw[VM];lia);rw[Array.toList_push,MG] at ih;exact ih
  ·have c : ¬ (((arr.size<lim/\fr<=a)/\a+y.length<=z.length)/\subAt z y a=true):=fun q=>h ⟨q.1.2,q.2⟩
   rw[if_neg c,if_neg (by rw[NA,decide_eq_true_iff];exact h)];exact uq (lim:=lim) ap hy n (a+1) arr fr (fun i hi l=>hf i hi (by lia)) (by lia)
theorem o7(ap:Apart z y)(hy:y.length≠0):occurrences z y 0 z.length (z.length+1)=iO z y:=by
 rw[StrLaws.occ_eq]
 have:=uq (lim:=z.length+1) ap hy (z.length+1) 0 #[] 0 (fun _ _ _=>Ml _) (by simp)
 rw[show z.length+1-0=z.length+1 from rfl,this];unfold iO;rw[List.range_eq_range'];rfl
def DM:V->List V->Hp->VK->Prop:=fun x xs H Q=>∃z y,x=.str z/\xs=[.str y]/\y.length≠0/\z.length<=1000/\Apart z y/\z.cps.all (· < 128)=true/\y.cps.all (· < 128)=true/\∀p,H p=none->Q (.ref p) (upd H p (.lst ((Mu z y.length 0 (iO z y)).map V.str)))
theorem qV(z:Str)(w:Nat):∀(a:Nat) (cs:List Nat),(Mu z w a cs).length=cs.length+1
 |_,[]=>rfl
 |_,c :: cs=>by
  show(Mu z w (c+w) cs).length+1=_;rw[qV z w _ cs];rfl
theorem qj:∀(tk:Nat) (xs:List Str),Vals (xs.map V.str) (strsFrom tk xs)
 |_,[]=>.nil
 |tk,x :: xs=>.cons ⟨tk,rfl⟩ (qj (tk+1) xs)
section
variable{X:Cx}
theorem o_:Ba X "str.rpartition" yQ:=by
 intro pins s σ H x xs v us Q I rx rv h;obtain⟨z,y,rfl,rfl,hy,hz,h⟩:=h;obtain⟨t,rfl⟩:=rx;obtain⟨u,rfl,t',rfl⟩:=vals1 rv;refine NM QW (PL _ _ _) PySem.F.entry_str_rpartition (PySem.F.args_str_rpartition_2 _ _) (meets_str_rpartition z y t t' (by simpa using hy) hz) ?_
 have new:∀(a b c:Str) (ta tb tc:Tok) (k:Nat),(∀p,H p=none->Q (.ref p) (upd H p (.tup [.str a,.str b,.str c])))->EP X pins σ Q (.ref s.heap.objs.size) {s with toks:=k,heap:=s.heap.push {cls:=.type "tuple",data:=.seq [.str a ta,.str b tb,.str c tc].toArray}}:=by
  intro a b c ta tb tc k q;refine⟨.ref s.heap.objs.size,_,I.laid (t':=k) (o:=.tup [.str a,.str b,.str c]) (fun b ob q=>K9 _ q) (Lg _) ?_,rfl,q _ (I.hok.fresh (Lg _))⟩;exact⟨gu,_,.cons ⟨ta,rfl⟩ (.cons ⟨tb,rfl⟩ (.cons ⟨tc,rfl⟩ .nil)),TupD.new _ _⟩
 rcases h with⟨i,hi,mi,q⟩|⟨no,q⟩
 ·rcases U_ z y with⟨_,n⟩|⟨j,e,hj,mj⟩
  ·exact absurd hi (n i)
  ·have:j=i:=by
    rcases Ov j i with l|l|l
    ·exact absurd hi (mj i l)
    ·exact l
    ·exact absurd hj (mi j l)
   subst this;show wants _ _ _ (match lastOccurrence z y 0 z.length with|some i=>_|none=>_);rw[e];exact new _ _ _ _ _ _ _ q
 ·rcases U_ z y with⟨e,_⟩|⟨j,e,hj,mj⟩
  ·show wants _ _ _ (match lastOccurrence z y 0 z.length with|some i=>_|none=>_);rw[e];exact new _ _ _ _ _ _ _ q
  ·exact absurd hj (no j)
theorem CC:Ba X "str.split" DM:=by
 intro pins s σ H x xs v us Q I rx rv h;obtain⟨z,y,rfl,rfl,hy,hz,ap,az,ay,q⟩:=h;obtain⟨t,rfl⟩:=rx;obtain⟨u,rfl,t',rfl⟩:=vals1 rv;have hyb:(y.length == 0)=false:=by simpa using hy
 have kz:∀{w:Str},w.cps.all (· < 128)=true->Og w=1:=fun {w} h=>by
  unfold Og;rw[if_pos];rw[MI] at h ⊢;intro c hc
  have:=of_decide_eq_true (h c hc)
  exact decide_eq_true (by lia)
 have new:∀(ps:List Str) (vs:List K_) (k:Nat),Vals (ps.map V.str) vs->ps.length<=2000->(∀p,H p=none->Q (.ref p) (upd H p (.lst (ps.map V.str))))->EP X pins σ Q (.ref s.heap.objs.size) {s with toks:=k,heap:=s.heap.push {cls:=.type "list",data:=.seq vs.toArray}}:=by
  intro ps vs k rv lp q;refine⟨.ref s.heap.objs.size,_,I.laid (t':=k) (o:=.lst (ps.map V.str)) (fun b ob q=>K9 _ q) (Lg _) ?_,rfl,q _ (I.hok.fresh (Lg _))⟩;exact⟨by rw[La];exact Mh lp (by decide),vs,0,rv,Lu _ rfl⟩
 have ea:=o7 ap hy
 have lo:(iO z y).length<=z.length+1:=by
  unfold iO;exact Mh (O1 _ _) (by rw[Rs];exact Lg _)
 by_cases h1:z.length<y.length
 ·have e0:iO z y=[]:=Qs.mpr fun i hi=>by
   have:=(jw.mp hi).1
   lia
  rw[e0] at q
  have q':∀p,H p=none->Q (.ref p) (upd H p (.lst ([z].map V.str))):=fun p np=>by
   have:=q p np
   rw[show Mu z y.length 0 []=[strSub z 0 z.length] from rfl,Ru] at this;exact this
  exact NM OR (PL _ _ _) PZ (PB _ _) (meets_str_split_cannot_occur z y t t' (by rw[decide_eq_true h1];rfl)) (new [z] _ _ (.cons ⟨t,rfl⟩ .nil) (show 1<=2000 by decide) q')
 ·have hk:(decide (z.length<y.length) || decide (Og z<Og y))=false:=by
   rw[decide_eq_false h1,kz az,kz ay];rfl
  cases ec:iO z y with
  |nil =>
   rw[ec] at q
   have q':∀p,H p=none->Q (.ref p) (upd H p (.lst ([z].map V.str))):=fun p np=>by
    have:=q p np
    rw[show Mu z y.length 0 []=[strSub z 0 z.length] from rfl,Ru] at this;exact this
   exact NM OR (PL _ _ _) PZ (PB _ _) (meets_str_split_not_found z y t t' hk hyb (by rw[ea,ec];rfl)) (new [z] _ _ (.cons ⟨t,rfl⟩ .nil) (show 1<=2000 by decide) q')
  |cons c cs =>
   have lp:(Mu z y.length 0 (iO z y)).length<=2000:=by rw[qV];lia
   refine NM OR (PL _ _ _) PZ (PB _ _) (meets_str_split_sep z y t t' hk hyb (by rw[ea,ec];rfl) (Mh hz (by decide)) (by rw[ea,RU];exact Mh lp (by decide))) ?_;show wants _ _ _ _;rw[ea,RU];exact new _ _ _ (qj _ _) lp q
end
open PySem PySem.Spec PyProof.Rows PySem.W
abbrev Hm:List V->Hp->VK->Prop:=fun xs H Q=>∃z i,xs=[.str z]/\VX z=some i/\z.length<=640/\Q (.int i) H
theorem AR:iZ X (.type "int") Hm:=by
 intro pins s σ H xs us Q I r h;obtain⟨z,i,rfl,hi,hz,q⟩:=h;obtain⟨u,rfl,t,rfl⟩:=vals1 r;exact KIN.call_text hi hz ⟨.int i,H,I.tok _,⟨_,rfl⟩,q⟩
theorem Ah{n:Int}(h0:0<=n)(h1:n<=10000000000):VX (a8 n)=some n/\(a8 n).length<=640:=by
 have hl:(a8 n).length<=11:=OC h0 (by decide) (by lia);obtain⟨m,rfl⟩:=P1 h0
 have hd:NumText.AllDigits (a8 ((m:Nat):Int)).cps.toList:=by
  intro c hc;rw[show(a8 ((m:Nat):Int)).cps.toList=_ from Uf m] at hc;obtain⟨ch,hch,e⟩:=Ls.mp hc;rw[<- e];exact digit_range (QX (by decide) (by decide) hch)
 have X9:(a8 ((m:Nat):Int)).cps.toList≠[]:=by
  rw[show(a8 ((m:Nat):Int)).cps.toList=_ from Uf m];intro e;have h:=SN 10 m;rw[Nj.mp e] at h;exact absurd h (by decide)
 have e:=PySem.intText_digits hd X9 (Mh hl (by decide));rw[show(a8 ((m:Nat):Int)).cps.toList=_ from Uf m,KIN.val_back] at e;exact⟨e,Mh hl (by decide)⟩
structure KD (P:LA) (w:LL) (K:Frag) (mg:Str->Option K_) (x:Str) (D:Addr) (fx:List (Key×V)):Prop where
 at_:mg x=some (.ref D)
 ns:(D == sysModules)=false
 dd:∀h:Heap,K.In h->∃vs,KV fx vs/\h.DictOf (cb P w) D vs
def EN(fx:List (Key×V))(ty tx:TE):TE:=fun σ H Q=>ty σ H fun y H2=>tx σ H2 fun z H3=>∃k,y=kV k/\Q ((cr fx k).getD z) H3
theorem Fz{apos:Pos}  (hg:Gl X x) (d:KD X.prog X.w X.K X.mg x D fx) (he:PE X e ty) (hf:PE X f tx) (m:M2 X (.Name x np) "get" apos e f V9) (hdb:(x == ("__debug__":Str))=false:=by decide) :
  PE X (.Call (.Attribute (.Name x np) "get" apos) [e,f] [] V9) (EN fx ty tx):=by
 intro pins s σ H Q I h;refine wpAny_Call_method m.base m.few m.line RO Od SG (fB I hg d.at_ ?_ hdb);obtain⟨vs,rel,dd⟩:=d.dd _ I.kIn;refine⟨dd.typeIs,fun b q=>?_,?_⟩
 ·cases q;obtain⟨ob,_,_,h1,h2,_⟩:=dd;exact⟨ob,h1,h2.2.1⟩
 rw[m.trees]
 refine N4 rfl (Oq (MW (bp (he pins s σ H _ I h) fun iv s2 ⟨y,H2,I2,ry,q2⟩ =>
  MW (bp (hf pins s2 σ H2 _ I2 q2) fun fv s3 ⟨z,H3,I3,rz,k,ey,q3⟩=>NY ?_))))
 subst ey;obtain⟨vs3,rel3,dd3⟩:=d.dd _ I3.kIn;refine UT Od dd3.typeIs P_ (PV _ _ _) (Sb (cb X.prog X.w) D (CQ ry) d.ns fv) ⟨_,dd3.mapOf,?_⟩;exact⟨_,H3,I3.tok _,(rel3.val k).getD rz,q3⟩
section
variable{X:Cx}{e k:Expr}{te tk:TE}{p2 pos:Pos}
def Bq(K:Frag)(te tk:TE):TE:=fun σ H Q=>te σ H fun x H1=>tk σ H1 fun i H2=>∃a xs,x=.ref a/\i=.int (-1)/\SqL K H2 a xs/\∀p,H2 p=none->Q (.ref p) (upd H2 p (.lst xs.reverse))
theorem ze(he:PE X e te)(hk:PE X k tk):PE X (.Subscript e (.Slice none none (some k) p2) pos) (Bq X.K te tk):=by
 intro pins s σ H Q I h;refine Subscript_ (bp (he pins s σ H _ I h) fun v s1 ⟨x,H1,I1,r1,q1⟩=>wpAny_Slice ?_);rw[T_];refine Le (Le (bp (hk pins s1 σ H1 _ I1 q1) fun u s2 ⟨y,H2,I2,r2,a,xs,ex,ey,sq,q⟩=>?_));subst ex ey;cases r1;obtain⟨t,rfl⟩:=r2;have I3:Inv X pins σ H2 {s2 with heap:=s2.heap.push {cls:=.type "slice",data:=.fields #[.none,.none,.int (-1) t]}}:=I2.kept (t':=s2.toks) fun b ob q=>K9 _ q
 obtain⟨fm,rv,ht3,hz⟩:=I3.list sq;have hlen:=rv.length;show wpAny (model X.prog X.w) X.A (subscriptTail e (.Slice none none (some k) p2) (.ref a) (.ref s2.heap.objs.size)) (EP X pins σ Q) X.xe {s2 with heap:=s2.heap.push {cls:=.type "slice",data:=.fields #[.none,.none,.int (-1) t]}};refine tail_any (ops:=[.ref a,.ref s2.heap.objs.size]) ht3.isList.typeIs Ro.lookup (Ry ht3.isList (Ut ..) .none .none (.int (-1) t) (by simp) ?_ (by rw[LC];lia)) (by with_unfolding_all rfl);rw[krv_pick]
 have vr:Vals xs.reverse fm.reverse:=by
  clear q hz ht3 sq I3 hlen
  induction rv with
  |nil=>exact .nil
  |cons a b ih=>rw[O6,O6];exact ih.append (.cons a .nil)
 refine⟨.ref _,_,I3.laid (t':=s2.toks) (o:=.lst xs.reverse) (fun b ob q=>K9 _ q) (Lg _) ?_,rfl,q _ (I3.hok.fresh (Lg _))⟩;exact⟨by rw[Pq];exact hz,fm.reverse,0,vr,Lu _ rfl⟩
theorem D8{K:Frag}{H:Hp}{Q:VK}(h:te σ H fun x H1=>tk σ H1 fun i H2=>∃a xs,x=.ref a/\i=.int (-1)/\SqL K H2 a xs/\∀p,H2 p=none->Q (.ref p) (upd H2 p (.lst xs.reverse))):Bq K te tk σ H Q:=h
end
end L2
namespace L2
open PySem PySem.Spec PyProof.Rows
abbrev TB:=cq->(St->XK)->St->Hp->Prop
def IY(X:Cx)(sts:List Stmt)(t:TB):Prop:=∀(pins:List (Addr×Obj)) (s:Lf) (σ:St) (H:Hp) (D:cq) (E:St->XK),Inv X pins σ H s->t D E σ H ->
 wpAny (model X.prog X.w) X.A (execs sts X.env) (SP X pins D) (fun e s'=>∃σ' H1 s1,Inv X pins σ' H1 s1/\fU X.prog X.w X.stack H1 s1 (E σ') e s') s
def AO(K:Fg)(Dv:Addr)(ts:TS)(D:cq)(σ:St):XK:=fun c _ H2=>∃C,c=.ref C/\lR K C Dv/\ts {nx:=D.nx,rt:=fun _ _=>False} σ H2
section
variable{X:Cx}{pins:List (Addr×Obj)}{σ:St}{H:Hp}{s s':Lf}
theorem Gv{D:cq}{pos:Pos}{b0:Stmt}{bs:List Stmt}(I:Inv X pins σ H s)(o:iY X)(hg:Gl X v)(V:GP X.K X.mg v Dv)(hS:∀ea,PSs (X.marked ea) (b0 :: bs) ts)
  (h:fU X.prog X.w X.stack H s (AO X.K Dv ts D σ) e s') (hdb:(v == ("__debug__":Str))=false:=by decide) :
  wpAny (model X.prog X.w) X.A (noteFrame e X.env) (fun _ s₂=>wpAny (model X.prog X.w) X.A (setFlight e none) (fun _ s₃ =>
   wpAny (model X.prog X.w) X.A (handleBy e X.env [.ExceptHandler (some (.Name v vp)) none (b0 :: bs) pos]) (SP X pins D) X.xe s₃) X.xe s₂) X.xe s':=by
 obtain⟨ea,C,a0,B,H',d,rfl,fl,g,Yb,bare,C',eC,⟨okC,mro⟩,k⟩:=h;cases eC;have WV:X.A.frames=some (X.env :: X.outer):=o.stk ▸ I.ok.frames;rw[o.stk] at fl;refine zE jv WV o.frm fl fun h4 ZT at4 up4=>?_
 refine HR (s:={s' with heap:=h4}) ZT at4 fun h5 fl5 up5=>?_
 have up45:=up4.trans up5;have I5:Inv X pins σ H' {s' with heap:=h5}:=I.back o g Yb bare fl5.1.1 up45;obtain⟨oe5,he5,hc5⟩:=fl5.1.there;have I5m:=I5.marked ea;refine wpAny_handleBy_cons (codeAny_handlers_test (fB (X:=X.marked ea) I5m hg V.at_ ?_ hdb)) (by intro q;cases q);obtain⟨tl,N,nm,q,bs',hdct,sn,sub,ab,col,dd,k0,k1,k2,k3,k5,nwC,hC⟩:=okC _ I5.kIn;obtain⟨bmV,nwV,okV,hbV⟩:=V.ok;obtain⟨tl',N',nm',q',bs'',hdct',sn',sub',ab',col',YV,j0,j1,j2,j3,j5,mN',hV,_,_,TV⟩:=pP I5.kIn okV;refine uE hC hV he5 hc5 (TV.hasType hbV) (FU I5.kIn hC mro) ?_;refine codeAny_handlers_suite ?_;refine rL (s:={s' with heap:=h5}) fl5 fun h6 fl6 up6=>?_
 have I6:Inv X pins σ H' {s' with heap:=h6}:=I.back o g Yb bare fl6.1.1 (up45.trans up6);refine L6 (hS ea pins _ σ H' {nx:=D.nx,rt:=fun _ _=>False} (I6.marked ea) k) (fun f s9 q9=>?_) fun _ _ z=>z.elim
 cases f with
 |next =>
  obtain⟨σ9,H9,I9,q⟩:=q9;exact⟨σ9,H9,I9.unmarked I.ok,q⟩
 |ret u=>obtain⟨_,_,_,_,_,z⟩:=q9;exact z.elim
 |brk=>obtain⟨_,_,_,z⟩:=q9;exact z.elim
 |cont=>obtain⟨_,_,_,z⟩:=q9;exact z.elim
end
structure MtC (P:LA) (w:LL) (K:Fg) (mg:Str->Option K_) (base:Heap) (CX:jB) (k:Nat) (C:Addr) (m:Str) (ps:List Str) (sp:Sp):Prop where
 ex:∃f fd,FnOk P w K mg base CX k f fd ps sp/\AW K C m f/\Binds K fd ps []
theorem MtC.mono{K:Fg}{CX:jB}{k:Nat}(F:MtC P w K mg base CX j C m ps sp)(h:j<=k):MtC P w K mg base CX k C m ps sp:=by
 obtain⟨f,fd,G,r⟩:=F.ex;exact⟨f,fd,G.mono h,r⟩
section
variable{X:Cx}{CX:jB}{k:Nat}{C:Addr}{m:Str}{ps:List Str}{sp:Sp}{E:XK}{o e:Expr}{es:List Expr}{ta:TE}{t:TA}{apos pos ap:Pos}
theorem l_(he:PE X o ta)(c:Cls X.K C)(F:MtC X.prog X.w X.K X.mg X.base CX k C m ps sp)(hr:Room k X.A)(hx:dj CX X E)(ha:PA X (e :: es) t)
  (hst:starEach (e :: es) X.env=(false,eval e X.env) :: starEach es X.env:=by rfl) (W5:(backTo pos (starEach es X.env)).any (·.1)=false:=by rfl)
  (ht:eval (.Call (.Attribute o m apos) (e :: es) [] pos) X.env=(do
   let ov <- eval o X.env
   standAt apos.atName
   let (f,first) <- holding [ov] (getMethod ov m pl)
   callWith pos f first (backTo pos (starEach (e :: es) X.env)) (backToKw pos (keywordEach [] X.env))):=by rfl):PE X (.Call (.Attribute o m apos) (e :: es) [] pos) (gq C m sp [] E ta t):=by
 obtain⟨f,fd,G,hm,hb⟩:=F.ex;exact Fx he c hm G hr hb .nil hx ha hst W5 ht
theorem oQ(he:PE X o ta)(c:Cls X.K C)(F:MtC X.prog X.w X.K X.mg X.base CX k C m ps sp)(hr:Room k X.A)(hx:dj CX X E)
  (ht:eval (.Call (.Attribute o m apos) [] [] pos) X.env=(do
   let ov <- eval o X.env
   standAt apos.atName
   let (f,first) <- holding [ov] (getMethod ov m pl)
   callWith pos f first (backTo pos (starEach [] X.env)) (backToKw pos (keywordEach [] X.env))):=by rfl):PE X (.Call (.Attribute o m apos) [] [] pos) (gq C m sp [] E ta aq):=by
 obtain⟨f,fd,G,hm,hb⟩:=F.ex;exact Cf he c hm G hr hb .nil hx ht
def xg(C:Addr)(m:Str)(sp:Sp)(ta:TE)(t:TA):TB:=fun D E σ H=>ta σ H fun x H1=>∃a dx fs,x=.ref a/\H1 a=some (.ins C dx fs)/\fs.lookup m=none/\t σ H1 fun vs H2=>sp (x :: (vs++[])) H2 (fun _ H3=>D.nx σ H3) (E σ)
theorem Bl{H:Hp}(he:PE X.nox o ta)(c:Cls X.K C)(F:MtC X.prog X.w X.K X.mg X.base (fU X.prog X.w) k C m ps sp)(hr:Room k X.A)(ha:PA X.nox (e :: es) t)
  (hst:starEach (e :: es) X.env=(false,eval e X.env) :: starEach es X.env) (W5:(backTo pos (starEach es X.env)).any (·.1)=false)
  (ht:eval (.Call (.Attribute o m apos) (e :: es) [] pos) X.env=(do
   let ov <- eval o X.env
   standAt apos.atName
   let (f,first) <- holding [ov] (getMethod ov m pl)
   callWith pos f first (backTo pos (starEach (e :: es) X.env)) (backToKw pos (keywordEach [] X.env))))
  (I:Inv X pins σ H s) (h:ta σ H fun x H1=>∃a dx fs,x=.ref a/\H1 a=some (.ins C dx fs)/\fs.lookup m=none/\t σ H1 fun vs H2=>sp (x :: (vs++[])) H2 Q E') :
  wpAny (model X.prog X.w) X.A (eval (.Call (.Attribute o m apos) (e :: es) [] pos) X.env) (EP X pins σ Q) (fun e' s'=>∃H1 s1,Inv X pins σ H1 s1/\fU X.prog X.w X.stack H1 s1 E' e' s') s:=by
 obtain⟨f,fd,G,hm,hb⟩:=F.ex;refine Qe (pl:=pl) (L6 (he pins s σ H _ (I.wish fun _ _=>False) h) (fun u s1 ⟨x,H1,I1,rx,a,dx,fs,ex,ea,l,q⟩=>?_) fun _ _ z=>z.elim) ht;subst ex;obtain rfl:u=LH a:=rx;have J1:Inv X pins σ H1 s1:=I1.eY;refine iV J1 ea c hm l ?_;refine PK (first:=[.ref a]) (h₀:=X.base) I.ok.mod.kin hm.kp (L6 (ha pos pins s1 σ H1 _ I1 q) (fun us s2 ⟨vs,H2,I2,r,q2⟩=>⟨I2.kIn,?_⟩) fun _ _ z=>z.elim) hst W5;have J2:Inv X pins σ H2 s2:=I2.eY;have r2:Vals (V.ref a :: (vs++[])) (LH a :: us++[]):=.cons rfl (r.append .nil)
 have hl:(LH a :: us++[]).length=ps.length:=by
  have e:=r2.length;rw[G.len _ _ _ _ q2] at e;exact e.symm
 refine Qk (OO (G.run X.A X.stack s2 H2 ⟨LH a :: us,[]⟩ (LH a :: us++[]) (V.ref a :: (vs++[])) Q _ hr J2.env0 (hb s2 (LH a :: us) J2.kIn hl) r2 q2) fun res s' hq=>?_);cases res with
 |error e'=>exact⟨H2,s2,J2,hq⟩
 |ok fl =>
  cases fl with
  |ret u=>exact J2.after hq
  |next=>exact M7 hq
  |brk=>exact M7 hq
  |cont=>exact M7 hq
theorem nv(he:PE X.nox o ta)(c:Cls X.K C)(F:MtC X.prog X.w X.K X.mg X.base (fU X.prog X.w) k C m ps sp)(hr:Room k X.A)(ha:PA X.nox (e :: es) t)
  (hst:starEach (e :: es) X.env=(false,eval e X.env) :: starEach es X.env:=by rfl) (W5:(backTo pos (starEach es X.env)).any (·.1)=false:=by rfl)
  (ht:eval (.Call (.Attribute o m apos) (e :: es) [] pos) X.env=(do
   let ov <- eval o X.env
   standAt apos.atName
   let (f,first) <- holding [ov] (getMethod ov m pl)
   callWith pos f first (backTo pos (starEach (e :: es) X.env)) (backToKw pos (keywordEach [] X.env))):=by rfl)
  (hse:swapsWith (.Call (.Attribute o m apos) (e :: es) [] pos) none ap.line X.env=pure false:=by rfl):IY X [.Expr (.Call (.Attribute o m apos) (e :: es) [] pos) ap] (xg C m sp ta t):=by
 intro pins s σ H D E I h;refine Qi (wpAny_Expr_any (L6 (Bl he c F hr ha hst W5 ht I h) (fun u s1 ⟨x,H2,I2,r,q⟩=>?_) fun e' s' ⟨H1,s1,J,z⟩=>⟨σ,H1,s1,J,z⟩) I.quiet hse);exact Oi ⟨_,H2,I2,q⟩
def IS(tc:TT)(t u:TB):TB:=fun D E σ H=>tc σ H fun d H1=>if d=true then t D E σ H1 else u D E σ H1
theorem G9{st:Stmt}{D:cq}(h:wpAny (model X.prog X.w) X.A (exec st X.env) (SP X pins D) W s):wpAny (model X.prog X.w) X.A (execs [st] X.env) (SP X pins D) W s:=by
 refine Qi (L6 h (fun f s1 q=>?_) fun _ _ z=>z);cases f with
 |next=>exact Oi q
 |ret u=>exact q
 |brk=>exact q
 |cont=>exact q
theorem EE{t:TB}(hc:PT X.nox c tc)(ha:IY X a t)(hb:IY X b u):IY X [.If c a b pos] (IS tc t u):=by
 intro pins s σ H D E I h;refine G9 (wpAny_If (L6 (hc pins s σ H _ (I.wish fun _ _=>False) h) (fun d s1 ⟨H1,I1,q1⟩=>?_) fun _ _ z=>z.elim));cases d with
 |true=>exact ha pins s1 σ H1 D E I1.eY q1
 |false=>exact hb pins s1 σ H1 D E I1.eY q1
def EL(K:Fg)(Dv:Addr)(t:TB)(ts:TS):TS:=fun D σ H=>t D (fun σ'=>AO K Dv ts D σ') σ H
theorem Ft{b0:Stmt} {bs:List Stmt} {t:TB}   (o:iY X) (hg:Gl X v) (V:GP X.K X.mg v Dv) (hB:IY X body t) (hS:∀ea,PSs (X.marked ea) (b0 :: bs) ts) (hdb:(v == ("__debug__":Str))=false:=by decide) :
  PS X (.Try body [.ExceptHandler (some (.Name v vp)) none (b0 :: bs) hp] [] [] pos) (EL X.K Dv t ts):=by
 intro pins s σ H D I h;refine wpAny_Try_except (L6 (hB pins s σ H D _ I h) (fun f s1 q=>?_) fun e' s' ⟨σ',H1,s1,I1,cx⟩=>Gv I1 o hg V hS cx hdb);cases f with
 |next=>exact Oi q
 |ret u=>exact q
 |brk=>exact q
 |cont=>exact q
end
end L2
namespace L2
open PySem PySem.Spec PyProof.Rows
open PySem.W (Dat kqdP kqdPs kqdOk)
open AutoSeq1 (wpAny_loadPart')
abbrev EG(items:Array K_)(x:K_)(i:Nat)(_:Option Fin×Unit):Sem (ForInStep (Option Fin×Unit)):=match items[i]? with
 |some y=>do
  let b <- eqBool y x
  if b=true then do
   let r <- retInt (i:Int)
   pure (.done (some r,()))
  else pure (.yield (none,()))
 |_=>pure (.yield (none,()))
theorem vd{prog:LA}{w:LL}{A:L4}{s:Lf}{E:K_->Lf->Prop}{items:Array K_}{x:K_}{e:K_->Bool}{j:Nat}{Q:Option Fin×Unit->Lf->Prop}(hj:j<items.size)(hit:e items[j]=true)(Zu:∀m (hm:m<items.size),m<j->e items[m]=false)(he:∀y,y∈items->Uo A s y x (e y))
  (h:Q (some (.done (.ret (.int j s.toks))),()) {s with toks:=s.toks+1}):∀(k i:Nat),i+k=items.size->i<=j->wpAny (model prog w) A (forIn (VF i k) ((none,()):Option Fin×Unit) (EG items x)) Q E s
 |0,i,hk,hi=>by lia
 |k+1,i,hk,hi=>by
  have li:i<items.size:=by lia
  have ei:items[i]?=some items[i]:=Mv li;rw[Vv,Nw];refine K8 ?_;unfold EG;rw[ei];refine K8 (he _ (Array.getElem_mem li) prog w _ _ ?_);by_cases q:i=j
  ·subst q;rw[hit,if_pos rfl];exact K8 (K8 (wpAny_mkInt (Le (Le (Le h)))))
  ·rw[Zu i li (by lia),if_neg (by decide)];exact Le (vd hj hit Zu he h k (i+1) (by lia) (by lia))
theorem nu(l:Addr)(items:Array K_)(n:Nat)(dd:Option Addr)(sl:Array (Option K_))(x:K_)(e:K_->Bool)(j:Nat)(hj:j<items.size)(hit:e items[j]=true)(Zu:∀m (hm:m<items.size),m<j->e items[m]=false) :
  Meets (NX.«tuple.index» ⟨[.ref l,x],[]⟩)
   (fun A R s=>s.heap.get? l=some {cls:=.type "tuple",dict:=dd,data:=.seq items n,slots:=sl}/\(∀y,y∈items->Uo A.in1 s y x (e y))/\R (.ok (.ret (.int j s.toks))) {s with toks:=s.toks+1}):=by
 intro prog w A R s h;obtain⟨hp,g,d,tk,os⟩:=s;obtain⟨hl,he,h⟩:=h;wp_walk using SD hl;show wpAny _ _ (forIn [:min items.size items.size] ((none,()):Option Fin×Unit) (EG items x)) _ _ _;rw[RV.forIn_eq_forIn_range'];have e1:([:min items.size items.size]:RV).size=items.size:=by simp[RV.size]
 rw[e1];refine vd (e:=e) (j:=j) hj hit Zu he ?_ items.size 0 (by lia) (Ml _);exact Le h
def yU(K:Fg):V->List V->Hp->VK->Prop:=fun x xs H Q=>∃(a:Addr) (y:V) (ds:List Dat) (d:Dat) (j:Nat),x=.ref a/\xs=[y]/\Rep K H y d/\Rep K H (.ref a) (.tuple ds)/\(∀e∈ds,kqdOk 8 e=true)/\kqdOk 8 d=true/\ds[j]?=some d/\(∀m,m<j->ds[m]?≠some d)/\ds.length<=1000/\Q (.int j) H
open Classical in
theorem zx{X:Cx} (hu:X.A.units+64<cLine):Ba X "tuple.index" (yU X.K):=by
 intro pins s σ H x xs v us Q I rx rv h;obtain⟨a,y,ds,d,j,rfl,rfl,hd,he,ka,kd,e1,e2,ln,q⟩:=h;obtain⟨u,rfl,ru⟩:=vals1 rv;obtain⟨as,ra⟩:=Rep.reads I hd ru;obtain⟨bs,rb⟩:=Rep.reads I he rx;rw[kqdP] at rb;cases rx;generalize hp:kqdPs ds=ps at rb;cases rb with
 |@tuple _ o fm n _ _ h1 h2 h3 h4 =>
  obtain⟨c,dct,dt,sl⟩:=o;replace h2:c=.type "tuple":=h2;replace h3:dt=.seq fm n:=h3;subst h2 h3;have Yq:U6 ps=true:=by rw[<- hp];exact(Pj ka).1
  have XW:=Uy ps _ _ Yq h4;have lj:j<ds.length:=(Ld.mp e1).1
  have at_:∀m (hm:m<fm.size),Qm (OQ s.heap fm[m]) (kqdP d)=decide (ds[m]?=some d):=by
   intro m hm;have g:(fm.toList.map (OQ s.heap))[m]?=some (OQ s.heap fm[m]):=by rw[Li,MN,Mv hm];rfl
   rw[XW,<- hp,kA] at g;obtain⟨e,ge,gp⟩:=Ln.mp g;rw[<- gp,vV (ka e (Ll ge)) kd,ge];by_cases z:d=e
   ·simp[z]
   ·have:e≠d:=fun w=>z w.symm
    simp[z,this]
  have szl:fm.size=ds.length:=by
   have:=congrArg PQ XW
   rw[La,Mw,<- hp] at this;rw[this,ky]
  have hm:wpAny (model X.prog X.w) X.A (call (.builtin "tuple.index") [.ref a,u]) (EP X pins σ Q) X.xe s:=by
   refine NM F.slot_tuple_index ⟨_,h1,rfl⟩ F.entry_tuple_index (F.args_tuple_index_2 _ _) (nu a fm n dct sl u (fun y=>Qm (OQ s.heap y) (kqdP d)) j (by lia) ?_ ?_) ⟨h1,Vt h4 ra Yq (Nd 8 d kd).1 ?_,⟨.int j,H,I.tok _,⟨_,rfl⟩,q⟩⟩
   ·rw[at_ j (by lia),e1];simp
   ·intro m hm hmj;rw[at_ m hm];exact decide_eq_false (e2 m hmj)
   ·have l:=(Nd 8 d kd).2
    have:=Pi (QH ps) (kqdP d).depth
    have u1:X.A.in1.in1.units<=X.A.units+8:=by simp
    lia
  exact hm
end L2
namespace L2
open PySem PySem.Spec PyProof.Rows
open PySem.Builtin.Str (strSub subAt occurrences)
abbrev w4(z y:Str):List Nat:=occurrences z y 0 z.length (z.length+1)
structure gK (K:Fg) (C:Addr) (m qual:Str) (st:Stmt) (ps:List Str):Prop where
 ex:∃(f:Addr) (fd:N2),Fun K m qual st f fd/\AW K C m f/\Binds K fd ps []
structure MkC (P:LA) (w:LL) (K:Fg) (mg:Str->Option K_) (base:Heap) (CX:jB) (k:Nat) (C:Addr) (ps:List Str) (sp:Sp):Prop where
 ex:∃f fd,FnOk P w K mg base CX k f fd ps sp/\Mk K C f/\Binds K fd ps []
theorem MkC.mono{K:Fg}{CX:jB}{k:Nat}(F:MkC P w K mg base CX j C ps sp)(h:j<=k):MkC P w K mg base CX k C ps sp:=by
 obtain⟨f,fd,G,r⟩:=F.ex;exact⟨f,fd,G.mono h,r⟩
section
variable{P:LA}{w:LL}{K:Fg}{mg:Str->Option K_}{base:Heap}{C:Addr}{m qual:Str}{st:Stmt}{N ps:List Str}{k:Nat}{sp:Sp}
theorem gK.okN(F:gK K C m qual st ps)(S:aJ N ps (ai st))(len:∀vs H Q E,sp vs H Q E->vs.length=ps.length)
  (hbody:∀(f:Addr) (gV:K_) (A:L4) (outer:List Env) (s:Lf) (H:Hp) (vs:List V) (Q:VK) (E:XK),N.Nodup->Room k (A.deeper (envOfC qual (ai st) s.heap.objs.size f gV))->(A.deeper (envOfC qual (ai st) s.heap.objs.size f gV)).units+64<cLine->(A.deeper (envOfC qual (ai st) s.heap.objs.size f gV)).units+1<cLine->(∀{M:Model} {A:L4} {env:Env},Qj M A env fun _ _=>False)->iY (cV b9 P w K mg base N qual (ai st) f gV A outer s H E).nox->sp vs H Q E ->
   ∃t,PSs (cV b9 P w K mg base N qual (ai st) f gV A outer s H E).nox (bK st) t/\t {nx:=fun _ H'=>Q .non H',rt:=Q} (start N vs) H):MtC P w K mg base b9 (k+1) C m ps sp:=by
 obtain⟨f,fd,G,hm,hb⟩:=F.ex;exact⟨f,fd,G.ok S len fun gV A outer s H vs Q E hr h=>hbody f gV A outer s H vs Q E S.nd hr hr.units (LW (OE (by decide:1<=64) _) hr.units) OW ⟨rfl,rfl,rfl⟩ h,hm,hb⟩
theorem gK.okM(F:gK K C m qual st ps)(S:aJ N ps (ai st))(len:∀vs H Q E,sp vs H Q E->vs.length=ps.length)
  (hbody:∀(f:Addr) (gV:K_) (A:L4) (outer:List Env) (s:Lf) (H:Hp) (vs:List V) (Q:VK) (E:XK),N.Nodup->Room k (A.deeper (envOfC qual (ai st) s.heap.objs.size f gV))->(A.deeper (envOfC qual (ai st) s.heap.objs.size f gV)).units+64<cLine->(A.deeper (envOfC qual (ai st) s.heap.objs.size f gV)).units+1<cLine->Qj (model P w) (cV (fU P w) P w K mg base N qual (ai st) f gV A outer s H E).A (cV (fU P w) P w K mg base N qual (ai st) f gV A outer s H E).env (cV (fU P w) P w K mg base N qual (ai st) f gV A outer s H E).xe->Lv (cV (fU P w) P w K mg base N qual (ai st) f gV A outer s H E) E->sp vs H Q E ->
   ∃t,PSs (cV (fU P w) P w K mg base N qual (ai st) f gV A outer s H E) (bK st) t/\t {nx:=fun _ H'=>Q .non H',rt:=Q} (start N vs) H):MtC P w K mg base (fU P w) (k+1) C m ps sp:=by
 obtain⟨f,fd,G,hm,hb⟩:=F.ex;obtain⟨oc,od,kV,doc,pm,an,gV,ct,XN,rfl,lk,hcd⟩:=G.ex;exact⟨f,_,Go lk hcd S len fun A outer s H vs Q E hr hsp=>hbody f gV A outer s H vs Q E S.nd hr hr.units (LW (OE (by decide:1<=64) _) hr.units) Ee HI hsp,hm,hb⟩
theorem MtC.mkC{CX:jB} (F:MtC P w K mg base CX k C "__init__" ps sp) (M:QE K C=true) (kp:ME K (.ref C)=true):MkC P w K mg base CX k C ps sp:=by
 obtain⟨f,fd,G,hm,hb⟩:=F.ex;exact⟨f,fd,G,⟨M,hm.at_,hm.fn,kp⟩,hb⟩
end
section
variable{X:Cx}{k:Nat}{C:Addr}{ps:List Str}{sp:Sp}{x:Str}{p pos apos V9:Pos}{e o:Expr}{es:List Expr}{t:TA}{to:TE}{name:Str}
theorem DS(F:MkC X.prog X.w X.K X.mg X.base b9 k C ps sp) (hr:Room (k+1) X.A) (hg:Gl X x) (hm:X.mg x=some (.ref C)) (ha:PA X (e :: es) t) (hdb:(x == ("__debug__":Str))=false:=by decide) (he:starEach (e :: es) X.env=(false,eval e X.env) :: starEach es X.env:=by rfl) (W5:(backTo pos (starEach es X.env)).any (·.1)=false:=by rfl) :
  PE X (.Call (.Name x p) (e :: es) [] pos) (xZ C sp [] E0 t):=by
 obtain⟨f,fd,G,M,hb⟩:=F.ex;exact Fy M G hr hg hm hb .nil lJ ha hdb he W5
def KN(x:V)(H:Hp):Prop:=∃a xs,x=.ref a/\H a=some (.tup xs)
theorem GY{H:Hp}{x:V}(I:Inv X pins σ H s)(r:RelV x v)(ty:KN x H) :
  s.TypeIs v "tuple"/\∀a,v=.ref a->∃ob,s.heap.get? a=some ob/\ob.dict=none:=by
 obtain⟨a,xs,rfl,ha⟩:=ty;cases r;obtain⟨_,_,_,ob,e,⟨c,_⟩,d⟩:=(show ci X.prog X.w H s.heap a (.tup xs) from I.hok a _ ha)
 exact⟨⟨ob,e,c⟩,fun b z=>by cases z;exact⟨ob,e,d⟩⟩
def ER(r:V->List V->Hp->VK->Prop)(to:TE)(t:TA):TE:=fun σ H Q=>to σ H fun x H1=>KN x H1/\t σ H1 fun xs H2=>r x xs H2 Q
theorem Hv{id:String} {r:V->List V->Hp->VK->Prop} (slot:Slot "tuple" name id) (Z9:typeOf (.builtin id)=pure (.type "method_descriptor")) (hm:Ba X id r) (ho:PE X o to) (ha:PA X (e :: es) t)
  (hbase:attributeBase o name X.env (eval o X.env)=eval o X.env:=by rfl)
  (hfew:((backTo V9 (starEach (e :: es) X.env)).all (fun x=>!x.1) && (backToKw V9 (keywordEach [] X.env)).all (fun x=>x.1.isSome)
   && decide ((e :: es).length+([]:List TH).length+(if ([]:List TH).isEmpty then 0 else 1)<30))=true:=by rfl)
  (hline:(apos.endLine == V9.line)=true:=by rfl) (hs:starEach (e :: es) X.env=(false,eval e X.env) :: starEach es X.env:=by rfl) (Xu:(backTo V9 (starEach es X.env)).any (·.1)=false:=by rfl) :
  PE X (.Call (.Attribute o name apos) (e :: es) [] V9) (ER r to t):=by
 intro pins s σ H Q I h;refine Sa hbase hfew hline rfl (bp (ho pins s σ H _ I h) fun v s1 ⟨x,H1,I1,r1,ty,q1⟩=>?_);obtain⟨h1,h2⟩:=GY I1 r1 ty;refine⟨"tuple",id,PySem.F.plainAttrs_tuple,slot,Z9,h1,h2,?_⟩;have hA:=ha V9 pins s1 σ H1 _ I1 q1;rw[hs] at hA ⊢;refine N4 (by show(false || (backTo V9 (starEach es X.env)).any (·.1))=false;rw[Xu] <;> rfl) (Oq ?_);exact bp hA fun us s2 ⟨vs,H2,I2,r2,q2⟩=>hm pins s2 σ H2 x vs v us Q I2 r1 r2 q2
theorem e_:fillsNumberSlot (.type "tuple") "mul"=pure false :=
 PySem.fillsNumberSlot_seq (id:="tuple.__mul__") (r:=some (.builtin "tuple.__rmul__")) OS.lookup (by decide +kernel) RW.lookup (by decide +kernel)
theorem i8:seqRepeat? (.type "tuple")=pure (some (.builtin "tuple.__mul__")):=by
 unfold seqRepeat?;rw[Vw (T:="tuple") (name:="__mul__") (id:="tuple.__mul__") OS.lookup (by decide +kernel),Vw (T:="tuple") (name:="__rmul__") (id:="tuple.__rmul__") RW.lookup (by decide +kernel)];rfl
theorem gb(a:Int)(t:Tok)(l:Addr)(items:Array K_)(n:Nat)(dd:Option Addr)(sl:Array (Option K_)) :
  Meets (NX.«int.__rmul__» ⟨[.int a t,.ref l],[]⟩) (fun _ R s=>s.heap.get? l=some {cls:=.type "tuple",dict:=dd,data:=.seq items n,slots:=sl}/\R (.ok (.ret K_.notImplemented)) s) :=
 .of_wp fun prog w A R s h=>by obtain⟨hp,g,d,tk,os⟩:=s;obtain⟨hl,h⟩:=h;wp_walk;exact⟨_,rfl,h⟩
open AutoSeq1 (wpAny_loadPart') in
theorem wm(l:Addr)(items:Array K_)(n:Nat)(dd:Option Addr)(sl:Array (Option K_))(u:Tok) :
  Meets (NX.«tuple.__mul__» ⟨[.ref l,.int 1 u],[]⟩) (fun _ R s=>s.heap.get? l=some {cls:=.type "tuple",dict:=dd,data:=.seq items n,slots:=sl}/\R (.ok (.ret (.ref l))) s) :=
 .of_wp fun prog w A R s h=>by obtain⟨hp,g,d,tk,os⟩:=s;obtain⟨hl,h⟩:=h;wp_walk using SD hl;exact⟨_,rfl,h⟩
open AutoSeq1 (wpAny_loadPart') in
theorem wj(l:Addr)(v:K_)(n:Nat)(dd:Option Addr)(sl:Array (Option K_))(u:Tok)(m:Nat)(m2:2<=m)(m1:m<=5) :
  Meets (NX.«tuple.__mul__» ⟨[.ref l,.int m u],[]⟩) (fun _ R s=>s.heap.get? l=some {cls:=.type "tuple",dict:=dd,data:=.seq #[v] n,slots:=sl}/\R (.ok (.ret (.ref s.heap.objs.size))) {s with heap:=s.heap.push {cls:=.type "tuple",data:=.seq (LI m v).toArray}}) :=
 .of_wp fun prog w A R s h=>by
  obtain⟨hp,g,d,tk,os⟩:=s;obtain⟨hl,h⟩:=h;rcases (by lia:m=2\/m=3\/m=4\/m=5) with rfl|rfl|rfl|rfl <;> (wp_walk using SD hl;exact⟨_,rfl,h⟩)
theorem uV{v:V}{u:K_}(r:RelV v u):∀n:Nat,Vals (LI n v) (LI n u)
 |0=>.nil
 |n+1=>.cons r (uV r n)
def Hj(_:Fg):R2:=fun x y H Q=>∃(a:Addr) (v:V) (n:Nat),x=.ref a/\y=.int (n:Int)/\H a=some (.tup [v])/\1<=n/\n<=5/\∀(l:Addr) (H':Hp),Same H H'->H' l=some (.tup (LI n v))->Q (.ref l) H'
theorem FG:fq X (binaryOp .Mult) (Hj X.K):=by
 intro pins s σ H x y v u Q I rx ry h;obtain⟨a,z,n,rfl,rfl,ha,n1,n5,q⟩:=h;cases rx;obtain⟨t,rfl⟩:=ry;obtain⟨_,fm,r,⟨cc,dd,dt,sl⟩,e,⟨c,k,d⟩,_⟩:=(show ci X.prog X.w H s.heap a (.tup [z]) from I.hok a _ ha)
 obtain⟨w1,rfl,rw⟩:=vals1 r;simp only at c d;subst c d;by_cases h1:n=1
 ·subst h1
  refine Rh (T:="tuple") (U:="int") (by decide) ⟨_,e,rfl⟩ (fun s'=>R_ s' _ t) e_ SO O4 i8 So.lookup
   (NM O4 (R_ s _ t) Sr (RX _ _) (gb _ t a _ k dd sl)
    ⟨e,rfl,⟨_,e,rfl⟩,NM OS ⟨_,e,rfl⟩ RY (RG _ _) (wm a _ k dd sl t) ⟨e,?_⟩⟩)
  exact⟨.ref a,H,I,rfl,q a H (Same.refl _) ha⟩
 ·refine Rh (T:="tuple") (U:="int") (by decide) ⟨_,e,rfl⟩ (fun s'=>R_ s' _ t) e_ SO O4 i8 So.lookup
   (NM O4 (R_ s _ t) Sr (RX _ _) (gb _ t a _ k dd sl)
    ⟨e,rfl,⟨_,e,rfl⟩,NM OS ⟨_,e,rfl⟩ RY (RG _ _) (wj a w1 k dd sl t n (by lia) n5) ⟨e,?_⟩⟩)
  exact⟨.ref s.heap.objs.size,_,I.laid (t':=s.toks) (o:=.tup (LI n z)) (fun b o e=>K9 _ e) (Lg _) ⟨by rw[MM,Nl];lia,LI n w1,uV rw n,TupD.new _ _⟩,rfl,q _ _ (ar (I.hok.fresh (Lg _)) _) am⟩
open PySem.W (Dat kqdP kqdPs kqdOk) in
open Classical in
def yR(K:Fg):R2:=fun x y H Q=>∃d ds,Rep K H x d/\Rep K H y (.tuple ds)/\(∀e∈ds,kqdOk 8 e=true)/\kqdOk 8 d=true/\Q (.bl (!decide (d∈ds))) H
theorem zj(hu:X.A.units+64<cLine):fq X (compareOp .NotIn) (yR X.K):=by
 intro pins s σ H x y v u Q I rx ry h;obtain⟨d,ds,hd,he,ka,kd,q⟩:=h;obtain⟨as,ra⟩:=Rep.reads I hd rx;obtain⟨bs,rb⟩:=Rep.reads I he ry;rw[PySem.W.kqdP] at rb;exact SeqAt.notIn_tuple_reads rb ra (Pj ka).1 (Nd 8 d kd).1 (uD kd hu) ⟨_,H,I,(by rw[pU ka kd];rfl),q⟩
end
abbrev mQ (h:Heap) (z TI TO T:Addr) (b:Bool):Prop:=h.get? z=some {cls:=.type "zip",dict:=none,data:=.fields #[rawInt T,.bool b,.bool false,.ref TI,.ref TO],slots:=#[]}
section
variable{prog:LA}{w:LL}{A:L4}{E:K_->Lf->Prop}{s:Lf}{z TI TO i1 i2 l1 l2 T:Addr}{xs ys:Array K_}{S1 S2:Nat->Heap->Prop}{k:Nat}{b:Bool}
theorem zG{a:Addr}{Q:Option Obj->Lf->Prop}(h:Q (s.heap.get? a) s):wpAny (model prog w) A (loadIfAlive a) Q E s:=by
 intro Γ p hΓ;exact h
theorem xw{Q:Bool->Lf->Prop}(hz:mQ s.heap z TI TO T b)(al:∃o,s.heap.get? T=some o)(q:∀h',mQ h' z TI TO T true->O_ z s.heap h'->h'.objs.size=s.heap.objs.size->Q false {s with heap:=h'}) :
  wpAny (model prog w) A (LM (.ref z)) Q E s:=by
 obtain⟨o,ho⟩:=al;unfold LM;refine K8 (L3 hz rfl (x:=rawInt T) rfl ?_);refine K8 (zG ?_);rw[if_neg (by rw[MT,ho];simp)];refine K8 (L3 hz rfl (x:=.bool b) rfl ?_);cases b with
 |true=>exact Le (q s.heap hz (fun _ _ _ e=>e) rfl)
 |false =>
  refine K8 (Mr hz (by simp) fun h1 WZ Wn=>?_);exact Le (q h1 WZ Wn.extBut Wn.1)
theorem xt(D:GT z TI TO i1 i2 l1 l2)(W1:Bc prog w i1 l1 xs S1)(W2:Bc prog w i2 l2 ys S2)(hz:mQ s.heap z TI TO T b)(al:∃o,s.heap.get? T=some o)(hI:N5 s.heap TI (.ref i1) (.ref i2))(t1:S1 k s.heap)(t2:S2 k s.heap){Q:Option K_->Lf->Prop} :
  (∀x y,xs[k]?=some x->ys[k]?=some y->(∀h',mQ h' z TI TO T true->N5 h' TI (.ref i1) (.ref i2)->S1 (k+1) h'->S2 (k+1) h'->N5 h' s.heap.objs.size x y ->
   (∀c o,c∉[z,i1,i2]->s.heap.get? c=some o->h'.get? c=some o)->Q (some (.ref s.heap.objs.size)) {s with heap:=h'})->wpAny (model prog w) A (pyNext (.ref z)) Q E s) /\
  (A.handled=none->xs[k]?=none->(∀h',(∀c o,c∉[z,i1,i2]->s.heap.get? c=some o->h'.get? c=some o)->Q none {s with heap:=h'})->wpAny (model prog w) A (pyNext (.ref z)) Q E s):=by
 have ty:s.TypeIs (.ref z) "zip":=⟨_,hz,rfl⟩
 obtain⟨n1,n2,Yg,Yv,Xb,XM,Ye,YI,YJ,n12,q1,q2,q3,q4,q5,q6⟩:=m_ D.a D.b D.c D.d D.e D.f;constructor
 ·intro x y hx hy q;unfold pyNext;refine K8 (OA (Mn (name:=M8 "__next__") ty M3 (MS M3 ty OJ ?_ (Ou _))));show wpAny _ _ (field (.ref z) 2 >>= _) _ _ _;refine K8 (L3 hz rfl (x:=.bool false) rfl ?_);show wpAny _ _ (field (.ref z) 3 >>= _) _ _ _;refine K8 (L3 hz rfl (x:=.ref TI) rfl (K8 (Mc hI rfl ?_)));show wpAny _ _ (LM (.ref z) >>= _) _ _ _;refine K8 (xw hz al fun h1 WZ Wn sz1=>?_);rw[if_neg (by decide)];refine K8 ?_;rw[Uz];simp only[Nw,Pa];refine K8 (K8 (MJ ?_));show wpAny _ _ (LN (.ref i1) >>= _) _ _ _;have k1:∀c,(c=i1\/c=l1)->c≠z:=fun c hc=>by rcases hc with rfl|rfl <;> assumption
  have k2:∀c,(c=i2\/c=l2)->c≠z:=fun c hc=>by rcases hc with rfl|rfl <;> assumption
  have u1:S1 k h1:=W1.keep k _ _ t1 fun c hc o e=>Wn c o (k1 c hc) e
  have u2:S2 k h1:=W2.keep k _ _ t2 fun c hc o e=>Wn c o (k2 c hc) e
  refine K8 (W1.item _ _ _ k x _ u1 hx fun h2 YL hs2=>Le (Le ?_));refine K8 (K8 (MJ ?_));show wpAny _ _ (LN (.ref i2) >>= _) _ _ _;have u22:S2 k h2:=W2.keep k _ _ u2 fun c hc o e=>hs2.extBut _ _ (by rcases hc with rfl|rfl;exact n12.symm;assumption) e
  refine K8 (W2.item _ _ _ k y _ u22 hy fun h3 t23 hs3=>Le (Le ?_));refine Le (K8 (Tc (hsz:=bq) ?_));have sz:h3.objs.size=s.heap.objs.size:=by rw[hs3.1,hs2.1,sz1]
  have all:∀c o,c∉[z,i1,i2]->s.heap.get? c=some o->h3.get? c=some o:=fun c o hc e=>by
   simp only[Lj,Lp,or_false,not_or] at hc;exact hs3.extBut _ _ hc.2.2 (hs2.extBut _ _ hc.2.1 (Wn _ _ hc.1 e))
  refine Le ⟨_,rfl,Le ?_⟩;have r1:S1 (k+1) h3:=W1.keep _ _ _ YL fun c hc o e=>hs3.extBut _ _ (by rcases hc with rfl|rfl <;> assumption) e
  have hz3:mQ h3 z TI TO T true:=hs3.extBut _ _ n2.symm (hs2.extBut _ _ n1.symm WZ);show Q (some (.ref h3.objs.size)) _;have fin:=q (h3.push {cls:=.type "tuple",data:=.seq #[x,y]}) (K9 _ hz3) (K9 _ (all _ _ (by simp[XM,YI,YJ]) hI)) (W1.keep _ _ _ r1 fun c hc o e=>K9 _ e) (W2.keep _ _ _ t23 fun c hc o e=>K9 _ e) (by rw[<- sz];exact Lu _ rfl) fun c o hc e=>K9 _ (all c o hc e)
  rw[<- sz] at fin;exact fin
 ·intro hh hx q;unfold pyNext;refine K8 (OA (Mn (name:=M8 "__next__") ty M3 (MS M3 ty OJ ?_ (Ou _))));show wpAny _ _ (field (.ref z) 2 >>= _) _ _ _;refine K8 (L3 hz rfl (x:=.bool false) rfl ?_);show wpAny _ _ (field (.ref z) 3 >>= _) _ _ _;refine K8 (L3 hz rfl (x:=.ref TI) rfl (K8 (Mc hI rfl ?_)));show wpAny _ _ (LM (.ref z) >>= _) _ _ _;refine K8 (xw hz al fun h1 WZ Wn sz1=>?_);rw[if_neg (by decide)];refine K8 ?_;rw[Uz];simp only[Nw,Pa];refine K8 (K8 (MJ ?_));show wpAny _ _ (LN (.ref i1) >>= _) _ _ _;have u1:S1 k h1:=W1.keep k _ _ t1 fun c hc o e=>Wn c o (by rcases hc with rfl|rfl <;> assumption) e
  refine K8 (W1.fin _ _ _ k _ hh u1 hx fun h2 e hs2 ⟨oe,Xf,Xn⟩=>?_);refine K8 (Pl (T:="StopIteration") (b:=true) ⟨oe,Xf,Xn⟩ Q8 (Le (q _ fun c o hc e=>?_)));simp only[Lj,Lp,or_false,not_or] at hc;exact hs2 _ _ hc.2.1 (Wn _ _ hc.1 e)
end
def ZSt(z TI TO i1 i2:Addr)(S1 S2:Nat->Heap->Prop)(k:Nat)(h:Heap):Prop :=
 (k=0/\KW z TI TO i1 i2 S1 S2 0 h)\/∃T b,(mQ h z TI TO T b/\T∉[z,i1,i2])/\(∃o,h.get? T=some o)/\N5 h TI (.ref i1) (.ref i2)/\(∃a b,N5 h TO a b)/\S1 k h/\S2 k h
abbrev Jo(it l:Addr)(xs:Array K_)(j:Nat)(h:Heap):Prop:=Kn.T.it h it l j/\Kn.T.seq h l xs
def Jb(H:Hp)(xv yv:List V)(i:Nat)(vs:List V):Prop:=∀j x y,j<i->xv[j]?=some x->yv[j]?=some y->∃T,vs[j]?=some (.ref T)/\H T=some (.tup [x,y])
theorem ZSt.z{z TI TO:Addr}(t:ZSt z TI TO i1 i2 S1 S2 k h):∀c∈[z,TI,TO],c<h.objs.size:=by
 intro c hc;simp only[Lj,Lp,or_false] at hc;rcases t with⟨_,t⟩|⟨T,b,⟨t1,_⟩,_,t3,⟨_,_,t4⟩,_⟩
 ·obtain⟨_,_,t4⟩:=t.o;rcases hc with rfl|rfl|rfl
  ·exact Lm t.z
  ·exact Lm t.i
  ·exact Lm t4
 ·rcases hc with rfl|rfl|rfl
  ·exact Lm t1
  ·exact Lm t3
  ·exact Lm t4
theorem ZSt.st{z TI TO:Addr}(t:ZSt z TI TO i1 i2 S1 S2 k h):S1 k h/\S2 k h:=by
 rcases t with⟨rfl,t⟩|⟨T,b,_,_,_,_,t⟩
 ·exact⟨t.s1,t.s2⟩
 ·exact t
section
variable{X:Cx}{pins:List (Addr×Obj)}{σ:St}{z TI TO i1 i2 a b S:Addr}{xv yv:List V}{us ws:List K_}{H0:Hp}
theorem GV{A:L4}{R:R6->Lf->Prop}(hh:A.in1.handled=none)(D:GT z TI TO i1 i2 a b)(r1:Vals xv us)(r2:Vals yv ws)(el:xv.length=yv.length)(l9:xv.length<=1000)
  (hR:∀s' H' Xe,Inv X pins σ H' s'->H' S=some (.lst Xe)->Xe.length=xv.length->Jb H' xv yv xv.length Xe->(∀c o,c≠S->H0 c=some o->H' c=some o)->R (.ok (.ret res)) s') :
  ∀(m i:Nat) (s:Lf) (H:Hp) (vs:List V),xv.length-i=m->i<=xv.length->Inv X pins σ H s->(∀c∈[z,TI,TO,i1,i2],ft X pins H c)->ZSt z TI TO i1 i2 (Jo i1 a us.toArray) (Jo i2 b ws.toArray) i s.heap ->
   H S=some (.lst vs)->vs.length=i->a≠S->b≠S->Jb H xv yv i vs->(∀c o,c≠S->H0 c=some o->H c=some o) ->
   codeAny (model X.prog X.w) A (.builtin "list.extend.loop" ⟨[.ref S,.ref z,res],[]⟩) R s:=by
 have W1:=Kn.T.drw (prog:=X.prog) (w:=X.w) i1 a (Lh D.e) us.toArray;have W2:=Kn.T.drw (prog:=X.prog) (w:=X.w) i2 b (Lh (Lr D.f D.a)) ws.toArray;obtain⟨n1,n2,Yg,Yv,Xb,XM,Ye,YI,YJ,n12,q1,q2,q3,q4,q5,q6⟩:=m_ D.a D.b D.c D.d D.e D.f;have eu:=r1.length;have ew:=r2.length;intro m
 induction m with
 |zero =>
  intro i s H vs hm hi I hf st hS hv aS bS pr sm;have Y2:i=xv.length:=by lia
  refine PF Rl ?_;rw[Pc Oh _];show wpAny _ A.in1 (pyNext (.ref z) >>= _) _ _ s;have ZJ:us.toArray[i]?=none:=by simp;lia
  refine K8 ?_
  have fin:∀h':Heap,(∀c o,c∉[z,TI,TO,i1,i2]->s.heap.get? c=some o->h'.get? c=some o)->wpAny (model X.prog X.w) A.in1 (ret res) (fun fin s'=>match fin with|.done f=>R (.ok f) s'|.again c'=>c'.quiet=true/\codeAny (model X.prog X.w) A c' R s') (fun e s'=>R (.error e) s') {s with heap:=h'}:=fun h' kp =>
   Le (hR _ H vs (I.io (t':=s.toks) (fun c o hc e=>kp c o hc e) hf) hS (by lia) (by rw[<- Y2];exact pr) sm)
  rcases st with⟨rfl,t⟩|⟨T,bb,⟨t1,tn⟩,t2,t3,t4,t5,t6⟩
  ·exact(uT D W1 W2 t).2 hh (.inl ZJ) fun h' kp=>fin h' kp
  ·exact(xt D W1 W2 t1 t2 t3 t5 t6).2 hh ZJ fun h' kp=>fin h' fun c o hc e=>kp c o (fun y=>hc (by simp only[Lj,Lp,or_false] at y;rcases y with rfl|rfl|rfl <;> simp)) e
 |succ m ih =>
  intro i s H vs hm hi I hf st hS hv aS bS pr sm;have li:i<xv.length:=by lia
  obtain⟨u1,e1,Ze⟩:=r1.get (Lb li);obtain⟨u2,e2,Zf⟩:=r2.get (Lb (show i<yv.length by lia));refine PF Rl ?_;rw[Pc Oh _];show wpAny _ A.in1 (pyNext (.ref z) >>= _) _ _ s;refine K8 ?_
  have nT:∀c∈[z,TI,TO,i1,i2],c≠s.heap.objs.size:=fun c Wh=>by
   simp only[Lj,Lp,or_false] at Wh;rcases Wh with rfl|rfl|rfl|rfl|rfl
   ·exact Lh (st.z _ (by simp))
   ·exact Lh (st.z _ (by simp))
   ·exact Lh (st.z _ (by simp))
   ·obtain⟨_,q,_⟩:=Kn.T.hG st.st.1.1;exact Lh (Lm q)
   ·obtain⟨_,q,_⟩:=Kn.T.hG st.st.2.1;exact Lh (Lm q)
  have nS:∀c∈[z,TI,TO,i1,i2],c≠S:=fun c Wh e=>by
   have:=(hf c Wh).1
   rw[e,hS] at this;cases this
  have WV:H s.heap.objs.size=none:=I.hok.fresh (Lg _);have Sne:S≠s.heap.objs.size:=au hS WV
  have go:∀h':Heap,ZSt z TI TO i1 i2 (Jo i1 a us.toArray) (Jo i2 b ws.toArray) (i+1) h'->N5 h' s.heap.objs.size u1 u2->(∀c o,c∉[z,TI,TO,i1,i2]->s.heap.get? c=some o->h'.get? c=some o) ->
    wpAny (model X.prog X.w) A.in1 (updateSeq S (·.push (.ref s.heap.objs.size)) >>= fun _=>again (.builtin "list.extend.loop" ⟨[.ref S,.ref z,res],[]⟩)) (fun fin s'=>match fin with|.done f=>R (.ok f) s'|.again c'=>c'.quiet=true/\codeAny (model X.prog X.w) A c' R s') (fun e s'=>R (.error e) s') {s with heap:=h'}:=by
   intro h' Xy hT all
   have I1:Inv X pins σ (upd H s.heap.objs.size (.tup [xv[i],yv[i]])) {s with heap:=s.heap.push {cls:=.type "tuple",data:=.seq #[u1,u2]}} :=
    I.laid (t':=s.toks) (fun b u e=>K9 _ e) (Lg _) ⟨bq,[u1,u2],.cons Ze (.cons Zf .nil),TupD.new _ _⟩
   have I2:Inv X pins σ (upd H s.heap.objs.size (.tup [xv[i],yv[i]])) {s with heap:=h'}:=Inv.io (s:={s with heap:=s.heap.push {cls:=.type "tuple",data:=.seq #[u1,u2]}}) (t':=s.toks) (fp:=[z,TI,TO,i1,i2]) I1 (fun c o Wh e=>by
    rcases QC e with⟨ec,eo⟩|e
    ·rw[ec,eo];exact hT
    ·exact all c o Wh e) fun c Wh=>⟨by rw[aC (nT c Wh)];exact(hf c Wh).1,(hf c Wh).2⟩
   have Zr:upd H s.heap.objs.size (.tup [xv[i],yv[i]]) S=some (.lst vs):=by rw[aC Sne];exact hS
   obtain⟨zz,fm,n,rr,hl,ee⟩:=I2.lstM Zr;have YG:sizeLine=16777216:=by decide
   refine K8 (PH ee rfl (Le ⟨Ue Oh _,?_⟩) (by rw[LC,<- hl];lia) (by rw[VM,LC,<- hl];lia));have I3:=I2.lset (t':=s.toks) (its':=fm++[.ref s.heap.objs.size]) (ys:=vs++[.ref s.heap.objs.size]) (f:=(·.push (.ref s.heap.objs.size))) Zr ee (by simp) (rr.append (.cons (show RelV (V.ref s.heap.objs.size) (LH s.heap.objs.size) from rfl) .nil)) (by rw[LQ,L9,YG];lia);refine ih (i+1) _ _ (vs++[.ref s.heap.objs.size]) (by lia) (by lia) I3 (fun c Wh=>⟨by rw[aC (nS c Wh),aC (nT c Wh)];exact(hf c Wh).1,(hf c Wh).2⟩) ?_ am (by rw[LQ,L9];lia) aS bS ?_ ?_
   ·have up:∀c o,c≠S->h'.get? c=some o->(h'.update S (M_ (·.push (.ref s.heap.objs.size)))).get? c=some o:=fun c o hc e=>(L8 _ _ (MO hc)).trans e
    have k1:=W1.keep _ _ (h'.update S (M_ (·.push (.ref s.heap.objs.size)))) Xy.st.1 fun c hc o e=>up c o (by rcases hc with rfl|rfl;exact nS _ (by simp);exact aS) e
    have k2:=W2.keep _ _ (h'.update S (M_ (·.push (.ref s.heap.objs.size)))) Xy.st.2 fun c hc o e=>up c o (by rcases hc with rfl|rfl;exact nS _ (by simp);exact bS) e
    rcases Xy with⟨z0,_⟩|⟨T,bb,⟨t1,tn⟩,⟨o2,t2⟩,t3,⟨x4,y4,t4⟩,t5⟩
    ·lia
    ·refine .inr ⟨T,bb,⟨up _ _ (nS _ (by simp)) t1,tn⟩,?_,up _ _ (nS _ (by simp)) t3,⟨x4,y4,up _ _ (nS _ (by simp)) t4⟩,k1,k2⟩;by_cases e9:T=S
     ·exact⟨_,by rw[e9];exact Mi _ ee rfl⟩
     ·exact⟨o2,up _ _ e9 t2⟩
   ·intro j x y hj hx hy;by_cases hji:j=i
    ·subst hji;rw[Lb li] at hx;rw[Lb (show j<yv.length by lia)] at hy;cases hx;cases hy;exact⟨s.heap.objs.size,by rw[<- hv];simp,by rw[aC Sne.symm,am]⟩
    ·obtain⟨T,p1,p2⟩:=pr j x y (by lia) hx hy;have nTS:T≠S:=fun e=>by rw[e,hS] at p2;cases p2
     exact⟨T,by rw[Mf (by lia)];exact p1,by rw[aC nTS,aC (au p2 WV)];exact p2⟩
   ·intro c o hc e;have e3:=sm c o hc e;rw[aC hc,aC (au e3 WV)];exact e3
  have g1:us.toArray[i]?=some u1:=by simpa using e1
  have g2:ws.toArray[i]?=some u2:=by simpa using e2
  have nn:=nT;rcases st with⟨rfl,t⟩|⟨T,bb,⟨t1,tn⟩,t2,t3,t4,t5,t6⟩
  ·refine(uT D W1 W2 t).1 u1 u2 g1 g2 fun h' Y8 YZ ZL Zh Zi hT all=>?_
   exact go h' (.inr ⟨_,false,⟨Y8,fun y=>by simp only[Lj,Lp,or_false] at y;rcases y with y|y|y <;> exact nT _ (by simp) y.symm⟩,⟨_,hT⟩,YZ,ZL,Zh,Zi⟩) hT all
  ·refine(xt D W1 W2 t1 t2 t3 t5 t6).1 u1 u2 g1 g2 fun h' Y8 YZ Zh Zi hT all=>?_
   obtain⟨o2,t2⟩:=t2;obtain⟨x4,y4,t4⟩:=t4;exact go h' (.inr ⟨T,true,⟨Y8,tn⟩,⟨_,all _ _ tn t2⟩,YZ,⟨x4,y4,all _ _ (by simp[Xb,Yg,Yv]) t4⟩,Zh,Zi⟩) hT fun c o hc e=>all c o (fun y=>hc (by simp only[Lj,Lp,or_false] at y;rcases y with rfl|rfl|rfl <;> simp)) e
end
theorem we:typeLookup (.type "zip") "__len__"=pure none:=by rw[typeLookup_type,SQ];kernel_rfl
theorem sI:typeLookup (.type "zip") "__length_hint__"=pure none:=by rw[typeLookup_type,SQ];kernel_rfl
section
variable{X:Cx}{pins:List (Addr×Obj)}{σ:St}{H:Hp}{s:Lf}{z TI TO i1 i2 a b:Addr}{xv yv:List V}
theorem pS{Q:K_->Lf->Prop}(I:Inv X pins σ H s)(hh:X.A.handled=none)(D:GT z TI TO i1 i2 a b)(hz:OX s.heap z TI TO .none)(hI:N5 s.heap TI (.ref i1) (.ref i2))(hO:∃x y,N5 s.heap TO x y)(t1:Kn.T.it s.heap i1 a 0)(t2:Kn.T.it s.heap i2 b 0)
  (fp:∀c∈[z,TI,TO,i1,i2],ft X pins H c) (ha:H a=some (.tup xv)) (hb:H b=some (.tup yv)) (el:xv.length=yv.length) (l9:xv.length<=1000)
  (q:∀S Xe H' s',H S=none->Inv X pins σ H' s'->Same H H'->H' S=some (.lst Xe)->Xe.length=xv.length->Jb H' xv yv xv.length Xe->Q (.ref S) s'):wpAny (model X.prog X.w) X.A (call (.type "list") [.ref z]) Q X.xe s:=by
 obtain⟨us,r1,p1⟩:=Kn.T.inv I (SqT.of ha);obtain⟨ws,r2,p2⟩:=Kn.T.inv I (SqT.of hb)
 refine callType_codes (Q₁:=fun obj s₁=>obj=.ref s.heap.objs.size/\s₁ = {s with heap:=s.heap.push {cls:=.type "list",data:=.seq #[]}}) PySem.F.called_list (PySem.F.typeCall_list_1 _) PySem.F.entry_list_init
  (code_list_new _ ⟨rfl,rfl⟩) fun obj s₁ h₁=>?_
 obtain⟨rfl,rfl⟩:=h₁;have fr:H s.heap.objs.size=none:=I.hok.fresh (Lg _);have hS:(s.heap.push {cls:=.type "list",data:=.seq #[]}).get? s.heap.objs.size=some {cls:=.type "list",data:=.seq #[]}:=Lu _ rfl;refine⟨⟨_,hS,rfl⟩,PySem.F.args_list_init_2 _ _,?_⟩;have YN:z<s.heap.objs.size:=Lm hz;have zS:s.heap.objs.size≠z:=Mo YN;show wpAny _ X.A.in1.in1 (do let old <- Ss (.ref s.heap.objs.size);NX.List.listUpdate (.ref s.heap.objs.size) (fun _=>#[]);letGo old.toList.reverse;O7 (.ref s.heap.objs.size) (.ref z) .none) _ _ _;refine K8 ?_;unfold Ss;refine K8 (Mc hS rfl (Le ?_));show wpAny _ _ (updateSeq s.heap.objs.size (fun _=>#[]) >>= fun _=>letGo (#[]:Array K_).toList.reverse >>= fun _=>O7 (.ref s.heap.objs.size) (.ref z) .none) _ _ _;refine K8 (PH hS rfl ?_);have Zr:=Mi (M_ (fun _=>(#[]:Array K_))) hS rfl;refine K8 (OL ?_);have kp:∀c o,s.heap.get? c=some o->((s.heap.push {cls:=.type "list",data:=.seq #[]}).update s.heap.objs.size (M_ (fun _=>(#[]:Array K_)))).get? c=some o:=fun c o e=>(L8 _ _ (Mo (Lm e))).trans (K9 _ e)
 generalize (s.heap.push {cls:=.type "list",data:=.seq #[]}).update s.heap.objs.size (M_ (fun _=>(#[]:Array K_)))=h2 at Zr kp ⊢;have ty:V4 {s with heap:=h2} (.ref z) "zip":=⟨_,kp _ _ hz,rfl⟩
 unfold O7;refine K8 (R8 ty ?_);have e1:RH (.ref s.heap.objs.size) (.ref z)=false:=by simp[RH,zS]
 have e2:(N0 "zip" == N0 "list")=false:=by decide
 have e3:(N0 "zip" == N0 "tuple")=false:=by decide
 simp only[e1,e2,e3,Ua,LS,if_false];refine K8 (Pm (s:={s with heap:=h2}) (kp _ _ hz) ?_);refine K8 (MJ ?_);unfold NX.List.listLengthHint;refine K8 (QK ty we ?_);show wpAny _ _ (specialOf (LH z) (M8 "__length_hint__") >>= _) _ _ _;refine K8 (QK ty sI ?_);refine Le ?_;show wpAny _ _ (rule "list.extend.makes-room" >>= fun _=>NX.List.listTouch (.ref s.heap.objs.size) >>= fun _=>again (.builtin "list.extend.loop" ⟨[.ref s.heap.objs.size,.ref z,.none],[]⟩)) _ _ _;refine K8 (Q9 ?_);refine K8 ?_;show wpAny _ _ (updateSeq s.heap.objs.size (·.push .none) >>= fun _=>updateSeq s.heap.objs.size (·.pop)) _ _ _;refine K8 (PH Zr rfl ?_);have hS3:=Mi (M_ (·.push Ms)) Zr rfl;refine PH (hz:=by seq_fits) hS3 rfl ?_;have hS4:=Mi (M_ (·.pop)) hS3 rfl;have Yt:∀c o,s.heap.get? c=some o->((h2.update s.heap.objs.size (M_ (·.push Ms))).update s.heap.objs.size (M_ (·.pop))).get? c=some o:=fun c o e=>(L8 _ _ (Mo (Lm e))).trans ((L8 _ _ (Mo (Lm e))).trans (kp c o e))
 generalize (h2.update s.heap.objs.size (M_ (·.push Ms))).update s.heap.objs.size (M_ (·.pop))=h4 at hS4 Yt ⊢;refine Le ⟨Ue Oh _,?_⟩;have I4:Inv X pins σ (upd H s.heap.objs.size (.lst [])) {s with heap:=h4}:=I.laid (t':=s.toks) Yt (Lg _) ⟨Ml _,[],_,.nil,hS4⟩;obtain⟨x9,y9,hO⟩:=hO
 have nS:∀c∈[z,TI,TO,i1,i2],c≠s.heap.objs.size:=fun c Wh=>by
  simp only[Lj,Lp,or_false] at Wh;rcases Wh with rfl|rfl|rfl|rfl|rfl
  ·exact Lh YN
  ·exact Lh (Lm hI)
  ·exact Lh (Lm hO)
  ·obtain⟨_,y,_⟩:=Kn.T.hG t1;exact Lh (Lm y)
  ·obtain⟨_,y,_⟩:=Kn.T.hG t2;exact Lh (Lm y)
 show codeAny _ X.A.in1 _ (wants (fun r s₂=>r=Ms/\Q (LH s.heap.objs.size) s₂) X.xe) {s with heap:=h4};refine GV (X:=X) (pins:=pins) (σ:=σ) (S:=s.heap.objs.size) (H0:=H) (A:=X.A.in1) (R:=wants (fun r s₂=>r=Ms/\Q (LH s.heap.objs.size) s₂) X.xe) (res:=.none) hh D r1 r2 el l9 (fun s' H' Xe I' h1 h2 h3 h4=>⟨rfl,q _ Xe H' s' fr I' (fun c o e=>h4 c o (au e fr) e) h1 h2 h3⟩) xv.length 0 _ _ [] (by lia) (Ml _) I4 (fun c Wh=>⟨by rw[aC (nS c Wh)];exact(fp c Wh).1,(fp c Wh).2⟩) (.inl ⟨rfl,Yt _ _ hz,Yt _ _ hI,⟨_,_,Yt _ _ hO⟩,⟨Kn.T.itAt t1 fun o e=>Yt _ _ e,Kn.T.tN p1 fun o e=>Yt _ _ e⟩,⟨Kn.T.itAt t2 fun o e=>Yt _ _ e,Kn.T.tN p2 fun o e=>Yt _ _ e⟩⟩) am rfl (au ha fr) (au hb fr) (fun j _ _ hj=>absurd hj (SB _)) fun c o hc e=>by rw[aC hc];exact e
def nQ(ta:TA):TE:=fun σ H Q=>ta σ H fun vs H1=>∃a b xv yv,vs=[.ref a,.ref b]/\H1 a=some (.tup xv)/\H1 b=some (.tup yv)/\xv.length=yv.length/\xv.length<=1000 /\
 ∀S Xe H',H1 S=none->Same H1 H'->H' S=some (.lst Xe)->Xe.length=xv.length->Jb H' xv yv xv.length Xe->Q (.ref S) H'
theorem wI{x y:Expr} {ta:TA} {p p2 pos Xc:Pos} (hc:X.calm=true) (ZU:Gl X "list") (Z2:X.mg "list"=none) (hg:Gl X "zip") (hm:X.mg "zip"=none) (hA:PA X [x,y] ta) (hs:starEach [x,y] X.env=[(false,eval x X.env),(false,eval y X.env)]:=by rfl) (hs2:starEach [y] X.env=[(false,eval y X.env)]:=by rfl)
  (hs3:starEach [Expr.Call (.Name "zip" p2) [x,y] [] Xc] X.env=[(false,eval (.Call (.Name "zip" p2) [x,y] [] Xc) X.env)]:=by rfl) :
  PE X (.Call (.Name "list" p) [.Call (.Name "zip" p2) [x,y] [] Xc] [] pos) (nQ ta):=by
 intro pins s σ H Q I h;refine MX (fC I ZU Z2 eW (ML ?_ hs3 rfl));rw[hs3];refine(show wpAny _ _ (spliced ((false,eval (.Call (.Name "zip" p2) [x,y] [] Xc) X.env) :: backTo pos [])) _ _ s from MW ?_);refine MX (fC I hg hm AU (ML (bp (hA Xc pins s σ H _ I h) fun us s1 ⟨vs,H1,I1,r1,q1⟩=>?_) (by rw[hs,hs2]) (by rw[hs2];rfl)));obtain⟨a,b,xv,yv,e,ha,hb,el,l9,q⟩:=q1;subst e;obtain⟨u1,u2,rfl,ra,rb⟩:=vals2 r1;cases ra;cases rb;obtain⟨v1,w1,p1⟩:=Kn.T.inv I1 (SqT.of ha);obtain⟨v2,w2,p2⟩:=Kn.T.inv I1 (SqT.of hb);refine DA p1 p2 fun h' z TI TO i1 i2 D le hz hI hO t1 t2 kp=>NY ?_
 have I2:Inv X pins σ H1 {s1 with heap:=h'}:=I1.kept (t':=s1.toks) kp;refine pS (s:={s1 with heap:=h'}) I2 (I1.ok.hd hc) D hz hI hO t1 t2 (fun c hc=>?_) ha hb el l9 fun S Xe H' s' f I' sm h1 h2 h3=>⟨.ref S,H',I',rfl,q S Xe H' f sm h1 h2 h3⟩
 have YH:s1.heap.objs.size<=c:=by
  have d1:=D.a;have d2:=D.b;have d3:=D.c;have d4:=D.d;simp only[Lj,Lp,or_false] at hc;rcases hc with rfl|rfl|rfl|rfl|rfl
  ·exact MC (LW le (Lr d1 (Lr d2 (Lr d3 d4))))
  ·exact MC (LW le (Lr d1 d2))
  ·exact MC (LW le (Lr d1 (Lr d2 d3)))
  ·exact le
  ·exact MC (LW le d1)
 exact I1.fpOk YH (I1.hok.fresh YH)
end
end L2
set_option Elab.async false
set_option linter.all false
set_option maxRecDepth 100000
set_option maxHeartbeats 4000000
open L2
local macro_rules | `(tactic| fail "s")=>`(tactic| first
 |(show(0:Int)<_;omega)
 |(unfold GQ;omega)
 |(unfold CMul;omega)
 |exact⟨by decide,by decide,by decide⟩)
local macro_rules | `(tactic| fail "1")=>`(tactic| first
 |with_reducible refine JY ?_
 |with_reducible refine Iy ?_
 |with_reducible refine zZ ?_
 |((with_reducible refine' wV ?k1 ?_);(case k1=>exact rfl))
 |with_reducible refine K4 ?_
 |with_reducible refine J7 ?_
 |with_reducible refine J0 ?_
 |with_reducible refine Km ?_
 |with_reducible refine J9 ?_
 |with_reducible refine Kk ?_
 |with_reducible refine Ko ?_
 |with_reducible refine J_ ?_
 |with_reducible refine Kh ?_
 |with_reducible refine Ia ?_
 |with_reducible refine JW ?_
 |with_reducible refine Kt ?_
 |with_reducible refine JZ ?_
 |with_reducible refine Ii ?_
 |with_reducible refine Ga ?_
 |with_reducible refine Ih ?_
 |with_reducible refine Kw ?_
 |with_reducible refine J6 ?_
 |with_reducible refine Iz ?_
 |with_reducible refine J5 ?_
 |with_reducible refine Ig ?_
 |with_reducible refine Ki ?_
 |with_reducible refine Ge ?_
 |with_reducible refine J8 ?_
 |with_reducible refine Iv ?_
 |with_reducible refine Ix ?_
 |with_reducible refine Kq ?_
 |with_reducible refine JV ?_
 |with_reducible refine Ka ?_
 |with_reducible refine JU ?_
 |with_reducible refine Ic ?_
 |with_reducible refine JX ?_
 |with_reducible refine CN ?_
 |with_reducible refine Ie ?_
 |with_reducible refine Kf ?_
 |with_reducible refine k_retN ?_
 |with_reducible refine Iu ?_
 |with_reducible refine k_revT ?_
 |with_reducible refine Gb ?_
 |with_reducible refine Gc ?_
 |with_reducible refine Im ?_
 |with_reducible refine Io ?_
 |with_reducible refine Ik ?_
 |with_reducible refine k_enum ?_
 |with_reducible refine k_rev ?_
 |with_reducible refine k_dget ?_
 |with_reducible refine k_dnotIn ?_
 |with_reducible refine k_dget1 ?_
 |with_reducible refine k_par ?_
 |with_reducible refine Iq ?_
 |with_reducible refine Ir ?_
 |with_reducible refine Kc ?_
 |with_reducible refine Kb ?_
 |with_reducible refine JT ?_
 |with_reducible refine Ke ?_
 |with_reducible refine k_notN ?_
 |with_reducible refine Kj ?_
 |with_reducible refine Iw ?_
 |with_reducible refine Ib ?_
 |with_reducible refine k_rng2 ?_
 |with_reducible refine F9 ?_
 |with_reducible refine Il ?_
 |with_reducible refine Ks ?_
 |with_reducible refine Kr ?_
 |with_reducible refine Kp ?_
 |with_reducible refine F_ ?_
 |with_reducible refine Ip ?_
 |with_reducible refine k_break ?_
 |with_reducible refine k_cont ?_
 |with_reducible refine k_int1 ?_
 |with_reducible refine k_intB ?_
 |with_reducible refine k_abs ?_
 |with_reducible refine wY ?_
 |with_reducible refine Ac ?_
 |with_reducible refine F5 ?_
 |with_reducible refine F6 ?_
 |with_reducible refine k_iteNNT ?_
 |with_reducible refine k_iteNNF ?_
 |((with_reducible refine' kF ?k1 ?_);(case k1=>fail "s"))
 |((with_reducible refine' J3 ?k1 ?_);(case k1=>(constructor <;> omega)))
 |((with_reducible refine' J4 ?k1 ?_);(case k1=>(constructor <;> omega))))
local macro_rules | `(tactic| walk_at "")=>`(tactic| repeat fail "1")
namespace G1
open PySem L2 Fr
open PySem.W (Dat kqdOk)
abbrev ends(Q:VK):cq:={nx:=fun _ H'=>Q .non H',rt:=Q}
def Mx(n:Int):Prop:=0<=n/\n<2147483647
def oi(K:Fg):Sp:=fun vs H Q _=>∃c m:Int,vs=[.int c,.int m]/\0<=m/\m<=100/\∀(p:Addr) (H':Hp) (ns:List Int),AccZ K H p H' (ns.map NG)->ns.length=m.toNat->(∀n∈ns,Mx n)->Q (.ref p) H'
def sT(K:Fg):TS:=(av (aR (cX aq) (aH 2))
 (av (aR (aB qN (ae 0) (tC (.int 2))) (aH 3))
 (av (a6 (bg (aB fw (aB bZ (ae 0) (tC (.int 2))) (tC (.int 1))))
 (av (eF (iS (ag (ae 1) aq)) (aH 4)
 (av (dL (lg K "list" di (ae 2) (ag (aB bZ (ae 3) (tC (.int 5040))) aq)))
 (aR (aB qN (ae 3) (tC (.int 5040))) (aH 3))))
 (aY (ae 2)))
 a9)
 (av (aR (aB bZ (aB cT (aB (rI CMul fun i j=>.int (i*j)) (aB bZ (ae 3) (tC (.int 2147483647))) (tC (.int 16807))) (tC (.int 11))) (tC (.int 2147483647))) (aH 3))
 (av (eF (iS (ag (ae 1) aq)) (aH 4)
 (av (aR (aB bZ (aB cT (aB cT (aB cT (aB (rI CMul fun i j=>.int (i*j)) (ae 3) (ae 3)) (aB (rI CMul fun i j=>.int (i*j)) (tC (.int 48271)) (ae 3))) (ae 4)) (tC (.int 1))) (tC (.int 2147483647))) (aH 3))
 (dL (lg K "list" di (ae 2) (ag (ae 3) aq)))))
 (aY (ae 2)))))))
theorem BO{K:Fg}{N:List Str}(hN:N.length=5)(h:oi K vs H Q E):sT K (ends Q) (L2.start N vs) H:=by
 obtain⟨c,m,rfl,h0,h1,k⟩:=h;rw[L2.bx hN];walk_at "t";unfold sT;walk_at "";refine⟨by decide,fun l nl=>?_⟩;walk_at "";refine bt (fun _=>?_) (fun _=>?_)
 ·walk_at "";refine cw (fun i σ H2=>∃(ns:List Int) (z:Int) (v:Option V),σ=[some (.int c),some (.int m),some (.ref l),some (.int z),v]/\AccZ K H l H2 (ns.map NG)/\ns.length=i/\∀n∈ns,Mx n) ⟨[],_,none,rfl,AccZ.start (Same.refl _) nl,rfl,by simp⟩ ?_ ?_
  ·rintro i σ H2 hi ⟨ns,z,v,rfl,A,hl,hb⟩;walk_at "";refine⟨A.ty,?_⟩;walk_at "";refine g_ A (.int _) (aU (by rw[La];lia)) fun H3 A3 _ _ _=>?_
   walk_at "";refine⟨ns++[z % 5040],_,_,rfl,by simpa using A3,by simp[hl],fun n hn=>?_⟩;rcases LZ.mp hn with q|q
   ·exact hb n q
   ·rw[Lx.mp q];exact⟨by lia,by lia⟩
  ·rintro σ H2 ⟨ns,z,v,rfl,A,hl,hb⟩;walk_at "";exact k l H2 ns A hl hb
 ·walk_at "";refine cw (fun i σ H2=>∃(ns:List Int) (z:Int) (v:Option V),σ=[some (.int c),some (.int m),some (.ref l),some (.int z),v]/\Mx z/\AccZ K H l H2 (ns.map NG)/\ns.length=i/\∀n∈ns,Mx n) ⟨[],_,none,rfl,⟨by lia,by lia⟩,AccZ.start (Same.refl _) nl,rfl,by simp⟩ ?_ ?_
  ·rintro i σ H2 hi ⟨ns,z,v,rfl,⟨hz0,WZ⟩,A,hl,hb⟩;walk_at "";refine⟨A.ty,?_⟩;walk_at "";refine g_ A (.int _) (aU (by rw[La];lia)) fun H3 A3 _ _ _=>?_
   have w:Mx ((z*z+48271*z+(0+(i:Int))+1) % 2147483647):=⟨by lia,by lia⟩
   walk_at "";refine⟨ns++[(z*z+48271*z+(0+(i:Int))+1) % 2147483647],_,_,rfl,w,by rw[LD];exact A3,by simp[hl],fun n hn=>?_⟩;rcases LZ.mp hn with q|q
   ·exact hb n q
   ·rw[Lx.mp q];exact w
  ·rintro σ H2 ⟨ns,z,v,rfl,_,A,hl,hb⟩;walk_at "";exact k l H2 ns A hl hb
def ba(n:Nat)(hs:List Int):Prop:=hs.length=n/\∀x∈hs,0<=x/\x<=3
abbrev dI(ns:List Int):Dat:=.tuple (ns.map NG)
def qo(K:Fg):Sp:=fun vs H Q _=>∃n m t:Int,vs=[.int n,.int m,.int t]/\0<=m/\m<=100/\0<=t/\t<=3/\∀(p:Addr) (H':Hp) (hs:List Int),Same H H'->ba m.toNat hs->Rz K H' (.ref p) (dI hs)->Q (.ref p) H'
theorem AccZ.ints{K:Fg}{ns:List Int}(A:AccZ K H0 l H (ns.map NG)):H l=some (.lst (ns.map V.int)):=by
 obtain⟨xs,h1,h2⟩:=A.at_;rw[RpL.ints_of h2] at h1;exact h1
theorem AccZ.strs{K:Fg}{ns:List Str}(A:AccZ K H0 l H (ns.map Mp)):H l=some (.lst (ns.map V.str)):=by
 obtain⟨xs,h1,h2⟩:=A.at_;rw[RpL.gt h2] at h1;exact h1
def xQ(K:Fg):TS:=(av (aR (cX aq) (aH 3))
 (av (eF (iS (ag (ae 1) aq)) (aH 4)
 (av (dL (lg K "list" di (ae 3) (ag (aB bZ (ae 0) (aB cT (ae 2) (tC (.int 1)))) aq)))
 (aR (aB qN (ae 0) (aB cT (ae 2) (tC (.int 1)))) (aH 0))))
 (aY (bY (dv K) (ag (ae 3) aq)))))
theorem Fd{K:Fg}{N:List Str}(hN:N.length=5)(h:qo K vs H Q E):xQ K (ends Q) (L2.start N vs) H:=by
 obtain⟨n0,m,t,rfl,h0,h1,t0,t1,k⟩:=h;rw[L2.bx hN];walk_at "t";unfold xQ;walk_at "";refine⟨by decide,fun l nl=>?_⟩;walk_at "";refine cw (fun i σ H2=>∃(ns:List Int) (z:Int) (v:Option V),σ=[some (.int z),some (.int m),some (.int t),some (.ref l),v]/\AccZ K H l H2 (ns.map NG)/\ba i ns) ⟨[],_,none,rfl,AccZ.start (Same.refl _) nl,rfl,by simp⟩ ?_ ?_
 ·rintro i σ H2 hi ⟨ns,z,v,rfl,A,hl,hb⟩;walk_at "";refine⟨A.ty,?_⟩;walk_at "";refine g_ A (.int _) (aU (by rw[La];lia)) fun H3 A3 _ _ _=>?_
  walk_at "";refine⟨ns++[_],_,_,rfl,by simpa using A3,by simp[hl],fun n hn=>?_⟩;rcases LZ.mp hn with q|q
  ·exact hb n q
  ·rw[Lx.mp q];have e1:=Nf z (b:=t+1) (by lia);have e2:=MK z (b:=t+1) (by lia);exact⟨by lia,by lia⟩
 ·rintro σ H2 ⟨ns,z,v,rfl,A,hh⟩;walk_at "";have e:=AccZ.ints A;refine gg (SqL.of e) fun p np=>?_
  exact k p _ ns (A.same.trans (ar np _)) hh (.tup am (RpL.ints ns))
abbrev az:Str:="abcdefghijklmnopqrstuvwxyz"
theorem KF:∀j:Nat,j<26->az.cps.toList[j]?=some (97+j):=by decide +kernel
theorem GA:∀j:Nat,j<26->Txt.find az ⟨#[97+j]⟩=(j:Int):=by decide +kernel
theorem Em:az.length<=sizeLine:=by decide +kernel
theorem IT{i:Int}(h0:0<=i)(h1:i<26):mO az.cps.toList i=some (97+i.toNat):=by
 have e:i=((i.toNat:Nat):Int):=by lia
 have q:=bQ (KF i.toNat (by lia));rw[<- e] at q;exact q
def Low(z:Str):Prop:=∀x∈z.cps.toList,97<=x/\x<=122
theorem bX(z:Str):z.cps.toList.length=z.length:=by simp[VS]
theorem zD{c:Nat}(h0:97<=c)(h1:c<=122):Low ⟨#[c]⟩:=fun x hx=>by
 have:x=c:=by simpa using hx
 lia
theorem ux(ha:Low a)(hb:Low b):Low (a++b):=fun x hx=>by
 rw[Tv,Pu] at hx;rcases LZ.mp hx with q|q
 ·exact ha x q
 ·exact hb x q
theorem uw{lo:Option Int}(h:Low z):Low (jU z lo hi):=fun x hx=>by
 have q:x∈(Eg z.cps.toList hi).drop (lo.getD 0).toNat:=by simpa[jU] using hx
 have q2:=QD q;cases hi with
 |none=>exact h x q2
 |some j=>exact h x (To q2)
theorem oE(z:Str)(lo hi:Option Int):(jU z lo hi).length=(Eg z.cps.toList hi).length-(lo.getD 0).toNat:=by
 show(TK (lo.getD 0).toNat (Eg z.cps.toList hi)).toArray.size=_;rw[LC,MR]
def yl:Sp:=fun vs H Q _=>∃c m:Int,vs=[.int c,.int m]/\0<=m/\m<=100/\∀z:Str,z.length=m.toNat->Low z->Q (.str z) H
def xX(K:Fg):TS:=(av (aR (aB bZ (aB cT (aB (rI CMul fun i j=>.int (i*j)) (aB bZ (ae 0) (tC (.int 2147483647))) (tC (.int 16807))) (tC (.int 11))) (tC (.int 2147483647))) (aH 2))
 (av (aR (tC (.str "")) (aH 3))
 (av (eF (iS (ag (ae 1) aq)) (aH 4)
 (av (aR (aB bZ (aB cT (aB cT (aB cT (aB (rI CMul fun i j=>.int (i*j)) (ae 2) (ae 2)) (aB (rI CMul fun i j=>.int (i*j)) (tC (.int 48271)) (ae 2))) (ae 4)) (tC (.int 1))) (tC (.int 2147483647))) (aH 2))
 (aR (aB f8 (ae 3) (aB wD (tC (.str "abcdefghijklmnopqrstuvwxyz")) (aB bZ (ae 2) (tC (.int 26))))) (aH 3))))
 (aY (ae 3)))))
theorem Fl{K:Fg}{N:List Str}(hN:N.length=5)(h:yl vs H Q E):xX K (ends Q) (L2.start N vs) H:=by
 obtain⟨c,m,rfl,h0,h1,k⟩:=h;rw[L2.bx hN];walk_at "t";unfold xX;walk_at "";refine cw (fun i σ H2=>∃(z:Int) (w:Str) (v:Option V),σ=[some (.int c),some (.int m),some (.int z),some (.str w),v]/\Mx z/\H2=H/\w.length=i/\Low w) ⟨_,"",none,rfl,⟨by lia,by lia⟩,rfl,rfl,by intro x hx;exact absurd hx (by decide +revert)⟩ ?_ ?_
 ·rintro i σ H2 hi ⟨z,w,v,rfl,⟨hz0,WZ⟩,rfl,hl,hw⟩;walk_at "";refine F4 Em (IT (by lia) (by lia)) ?_;refine fJ ?_ ?_
  ·rw[hl];exact MC (aU (by show i+1<=1000;lia))
  walk_at "";refine⟨_,_,_,rfl,⟨by lia,by lia⟩,rfl,?_,ux hw (zD (by lia) (by lia))⟩;rw[LY,hl];rfl
 ·rintro σ H2 ⟨z,w,v,rfl,_,rfl,hl,hw⟩;walk_at "";exact k w hl hw
def yd:Sp:=fun vs H Q _=>∃(b:Str) (p s k:Int),vs=[.str b,.int p,.int s,.int k]/\b.length=8/\Low b/\0<=p/\p<s/\s<=8/\0<=k/\k<=100 /\
 ∀(w:Str) (c:Nat),w.length=s.toNat->Low w->b.cps.toList[p.toNat]?=some c->w.cps.toList[p.toNat]?=some (97+(((c:Int)-97+3*k) % 26).toNat)->Q (.str w) H
def xE (K:Fg):TS:=(av (aR (tC (.str "abcdefghijklmnopqrstuvwxyz")) (aH 4))
 (av (aR (aB wD (ae 4) (aB bZ (aB cT (lg K "str" Hn (ae 4) (ag (aB wD (ae 0) (ae 1)) aq)) (aB (rI CMul fun i j=>.int (i*j)) (tC (.int 3)) (ae 3))) (tC (.int 26)))) (aH 5))
 (aY (aB f8 (aB f8 (tw B6 (ae 0) dh (fh (ae 1))) (ae 5)) (tw B6 (ae 0) (fh (aB cT (ae 1) (tC (.int 1)))) (fh (ae 2)))))))
theorem E2{K:Fg}{N:List Str}(hN:N.length=6)(h:yd vs H Q E):xE K (ends Q) (L2.start N vs) H:=by
 obtain⟨b,p,s,k,rfl,hb,lb,p0,p1,s8,k0,k1,q⟩:=h;rw[L2.bx hN];walk_at "t";unfold xE;have hp:p.toNat<b.cps.toList.length:=by rw[bX];lia
 have hc:=lb _ (Qp hp);have e1:b.cps.toList[p.toNat]?=some b.cps.toList[p.toNat]:=Lb hp;generalize b.cps.toList[p.toNat]=c at hc e1
 have e2:mO b.cps.toList p=some c:=by
  have e:p=((p.toNat:Nat):Int):=by lia
  have q:=bQ e1;rw[<- e] at q;exact q
 have bl:b.length<=sizeLine:=by rw[hb];decide
 walk_at "";refine⟨rfl,?_⟩;walk_at "";refine F4 bl e2 ?_;refine⟨_,_,rfl,rfl,?_⟩
 have ec:(⟨#[c]⟩:Str)=⟨#[97+(c-97)]⟩:=by
  have:c=97+(c-97):=by lia
  rw[<- this]
 rw[ec,GA (c-97) (by lia)];walk_at "";have ej:(((c-97:Nat):Int)+3*k) % 26=((c:Int)-97+3*k) % 26:=by congr 1;lia
 rw[ej];refine F4 Em (IT (by lia) (by lia)) ?_;walk_at "";refine⟨_,rfl,bl,trivial,p0,?_⟩;have n1:=oE b none (some p);have n2:=oE b (some (p+1)) (some s);simp only[Eg,LG,bX,hb,Option.getD] at n1 n2
 have n1':(jU b none (some p)).length=p.toNat:=by
  rw[n1]
  have:(0:Int).toNat=0:=rfl
  lia
 have n2':(jU b (some (p+1)) (some s)).length=s.toNat-(p.toNat+1):=by
  rw[n2];lia
 walk_at "";refine fJ ?_ ?_
 ·rw[n1'];exact MC (aU (by show p.toNat+1<=1000;lia))
 walk_at "";refine⟨_,rfl,bl,(by show 0<=p+1;lia),(by show 0<=s;lia),?_⟩;refine fJ ?_ ?_
 ·rw[LY,n1',n2'];exact MC (aU (by show p.toNat+1+_<=1000;lia))
 refine q _ c ?_ (ux (ux (uw lb) (zD (by lia) (by lia))) (uw lb)) e1 ?_
 ·rw[LY,LY,n1',n2'];show p.toNat+1+_=_;lia
 ·rw[Tv,Tv,Pu,Pu,MG,Ma (by rw[bX,n1'];exact Lg _),bX,n1',UZ];rfl
def wb(w:Str):Prop:=1<=w.length/\w.length<=8/\Low w
def eX(ws:List Str):Prop:=ws.Nodup/\∀w∈ws,wb w
def tH(K:Fg):Sp:=fun vs H Q _=>∃(a:Addr) (ns:List Int) (t m:Int),vs=[.ref a,.int t,.int m]/\SqL K H a (ns.map V.int)/\0<=t/\1<=m/\m<=5 /\
 ∀(p:Addr) (H':Hp) (ws:List Str),AccZ K H p H' (ws.map Mp)->eX ws->ws.length=m.toNat->Q (.ref p) H'
theorem md{α:Type}{xs:List α}{x:α}(h:xs.Nodup)(n:x∉xs):(xs++[x]).Nodup:=by
 rw[Va];refine⟨h,by simp,?_⟩;intro a ha b hb e;rw[Lx.mp hb] at e;exact n (e ▸ ha)
theorem Dp{α:Type}{P:α->Prop}{xs:List α}{x:α}(h:∀y∈xs,P y)(n:P x):∀y∈xs++[x],P y:=fun y hy=>by
 rcases LZ.mp hy with q|q
 ·exact h y q
 ·rw[Lx.mp q];exact n
def sL(K:Fg):TS:=(av (aR (a4 (qp K) [] E0 (ag (ae 0) (ag (ae 1) aq))) (aH 3))
 (av (aR (aB cT (tC (.int 1)) (aB bZ (ae 3) (tC (.int 8)))) (aH 4))
 (av (aR (a4 yl [] E0 (ag (a4 (qp K) [] E0 (ag (ae 0) (ag (aB cT (ae 1) (tC (.int 1))) aq))) (ag (tC (.int 8)) aq))) (aH 5))
 (av (aR (cX aq) (aH 6))
 (av (eF (iS (ag (ae 2) aq)) (aH 7)
 (av (aR (a4 yd [] E0 (ag (ae 5) (ag (aB bZ (aB qN (ae 3) (tC (.int 32))) (ae 4)) (ag (ae 4) (ag (ae 7) aq))))) (aH 8))
 (av (a6 (bg (aB fw (aB bZ (aB qN (ae 3) (tC (.int 8))) (tC (.int 4))) (tC (.int 1))))
 (aR (tw B6 (ae 5) dh (fh (aB cT (ae 7) (tC (.int 1))))) (aH 8))
 a9)
 (dL (lg K "list" di (ae 6) (ag (ae 8) aq))))))
 (aY (ae 6)))))))
theorem BF{K:Fg}{N:List Str}(hN:N.length=9)(h:tH K vs H Q E):sL K (ends Q) (L2.start N vs) H:=by
 obtain⟨a,ns,t,m,rfl,hS,t0,m1,m5,k⟩:=h;rw[L2.bx hN];walk_at "t";unfold sL;walk_at "";refine⟨a,ns,t,rfl,hS,t0,?_⟩;generalize cellOf ns t=c;walk_at "";refine⟨a,ns,t+1,rfl,hS,by lia,?_⟩;generalize cellOf ns (t+1)=c2;walk_at "";refine⟨c2,8,rfl,by decide,by decide,fun b hb lb=>?_⟩;walk_at "";refine⟨by decide,fun l nl=>?_⟩;walk_at "";have sp:0<1+c % 8:=by lia
 refine cw (fun i σ H2=>∃(ws:List Str) (v7 v8:Option V),σ=[some (.ref a),some (.int t),some (.int m),some (.int c),some (.int (1+c % 8)),some (.str b),some (.ref l),v7,v8]/\AccZ K H l H2 (ws.map Mp)/\ws.length=i/\eX ws /\
   ∀(j:Nat) (w:Str),ws[j]?=some w->(c / 8 % 4=1->w.length=j+1)/\(c / 8 % 4≠1->∃e:Nat,b.cps.toList[(c / 32 % (1+c % 8)).toNat]?=some e/\w.cps.toList[(c / 32 % (1+c % 8)).toNat]?=some (97+(((e:Int)-97+3*(j:Int)) % 26).toNat)))
  ⟨[],none,none,rfl,AccZ.start (Same.refl _) nl,rfl,⟨Nq,by simp⟩,by simp⟩ ?_ ?_
 ·rintro i σ H2 hi ⟨ws,v7,v8,rfl,A,hl,hw,hj⟩;have pm0:=Nf (c / 32) (b:=1+c % 8) (by lia);have pm1:=MK (c / 32) sp;walk_at "";refine⟨b,c / 32 % (1+c % 8),1+c % 8,0+(i:Int),rfl,hb,lb,pm0,pm1,by lia,by lia,by lia,fun w e n1 n2 e1 e2=>?_⟩
  have fin:∀x:Str,wb x->((c / 8 % 4=1->x.length=i+1)/\(c / 8 % 4≠1->∃e:Nat,b.cps.toList[(c / 32 % (1+c % 8)).toNat]?=some e/\x.cps.toList[(c / 32 % (1+c % 8)).toNat]?=some (97+(((e:Int)-97+3*(i:Int)) % 26).toNat))) ->
    eX (ws++[x])/\∀(j:Nat) (w:Str),(ws++[x])[j]?=some w->(c / 8 % 4=1->w.length=j+1)/\(c / 8 % 4≠1->∃e:Nat,b.cps.toList[(c / 32 % (1+c % 8)).toNat]?=some e/\w.cps.toList[(c / 32 % (1+c % 8)).toNat]?=some (97+(((e:Int)-97+3*(j:Int)) % 26).toNat)):=by
   intro x ox px;refine⟨⟨md hw.1 fun hx=>?_,Dp hw.2 ox⟩,fun j w e=>?_⟩
   ·obtain⟨j,hj1,hj2⟩:=Tq.mp hx;have g:ws[j]?=some x:=by rw[Lb hj1,hj2]
    obtain⟨q1,q2⟩:=hj j x g;by_cases f:c / 8 % 4=1
    ·have:=q1 f
     have:=px.1 f
     lia
    ·obtain⟨e',g1,g2⟩:=q2 f;obtain⟨e'',g3,g4⟩:=px.2 f;rw[g1] at g3;cases g3;rw[g2] at g4;have g5:=LF g4;lia
   ·by_cases lt:j<ws.length
    ·rw[Mf lt] at e;exact hj j w e
    ·rw[Ma (by lia)] at e
     have z:j-ws.length=0:=by
      rcases Nat.eq_zero_or_pos (j-ws.length) with z|z
      ·exact z
      ·rw[NI (by simp;lia)] at e;cases e
     rw[z] at e;have e':x=w:=by simpa using e
     have ej:j=i:=by lia
     rw[<- e',ej];exact px
  walk_at "";refine bt (fun f=>?_) (fun f=>?_)
  ·walk_at "";refine⟨_,rfl,by rw[hb];decide,trivial,(by show 0<=0+(i:Int)+1;lia),?_⟩;have sl:=oE b none (some (0+(i:Int)+1));simp only[Eg,LG,bX,hb,Option.getD] at sl
   have XO:(jU b none (some (0+(i:Int)+1))).length=i+1:=by
    rw[sl]
    have:(0:Int).toNat=0:=rfl
    have:(8:Int).toNat=8:=rfl
    lia
   walk_at "";refine⟨A.ty,?_⟩;walk_at "";refine g_ A (.str _) (aU (by rw[La];lia)) fun H3 A3 _ _ _=>?_
   walk_at "";obtain⟨r1,r2⟩:=fin (jU b none (some (0+(i:Int)+1))) ⟨by lia,by lia,uw lb⟩ ⟨fun _=>XO,fun z=>absurd f z⟩;exact⟨ws++[_],_,_,rfl,by rw[LD];exact A3,by simp[hl],r1,r2⟩
  ·walk_at "";refine⟨A.ty,?_⟩;walk_at "";refine g_ A (.str _) (aU (by rw[La];lia)) fun H3 A3 _ _ _=>?_
   walk_at "";have ei:(0:Int)+(i:Int)=(i:Int):=by lia
   rw[ei] at e2;obtain⟨r1,r2⟩:=fin w ⟨by lia,by lia,n2⟩ ⟨fun z=>absurd z f,fun _=>⟨e,e1,e2⟩⟩;exact⟨ws++[w],_,_,rfl,by rw[LD];exact A3,by simp[hl],r1,r2⟩
 ·rintro σ H2 ⟨ws,v7,v8,rfl,A,hl,hw,hj⟩;walk_at "";exact k l H2 ws A hw hl
def ie(q d:Int):Prop:=0<q/\0<d/\Gd.gd q d=1/\q<=10000000000/\d<=10000000000
def yf(K:Fg):Sp:=fun vs H Q _=>∃t b:Int,vs=[.int t,.int b]/\0<t/\0<b/\t<=10000000000/\b<=10000000000/\∀(p:Addr) (q d:Int) (H':Hp),Same H H'->ie q d->Rz K H' (.ref p) (dI [q,d])->Q (.ref p) H'
theorem E9{K:Fg}{N:List Str}(hN:N.length=3)(h:yf K vs H Q E):EM (ends Q) (L2.start N vs) H:=by
 obtain⟨t,b,rfl,t0,b0,t1,b1,k⟩:=h;rw[L2.bx hN];walk_at "t";unfold EM;walk_at "";refine bt (fun z=>absurd z (by lia)) (fun _=>?_);walk_at "";refine bt (fun z=>absurd z (by lia)) (fun _=>?_);unfold G6;walk_at "";refine⟨t,b,rfl,?_⟩;have nb:b≠0:=by lia
 have gp:=Gd.vS (a:=t) nb;have gl:=Gd.IG (a:=t) nb;have wd:(Gd.gd t b).natAbs<2 ^ 9000:=Gd.wide (by lia);have L:=Gd.D6 (t:=t) (b:=b) (d:=Gd.gd t b) nb (.inl ⟨rfl,b0⟩);have M:=Gd.FV (t:=t) (b:=b) (d:=Gd.gd t b) nb (.inl ⟨rfl,b0⟩);walk_at "";refine kF ⟨by lia,wd⟩ ?_;walk_at "";refine kF ⟨by lia,wd⟩ ?_;walk_at "";refine⟨bq,fun p np=>?_⟩
 have q0:0<t.fdiv (Gd.gd t b):=by
  have w:=L.worth
  have:=L.pos
  by_cases z:0<t.fdiv (Gd.gd t b)
  ·exact z
  ·have h1:t.fdiv (Gd.gd t b)*b<=0:=Int.mul_nonpos_of_nonpos_of_nonneg (by lia) (by lia);have h2:0<t*b.fdiv (Gd.gd t b):=Int.mul_pos t0 L.pos;lia
 have:=L.pos
 exact k p _ _ _ (ar np _) ⟨q0,L.pos,L.low,by lia,by lia⟩ (.tup am (RpL.ints [_,_]))
theorem f9(ns:List Int)(n:Nat):kqdOk (n+1) (dI ns)=true:=by
 show((ns.map NG).all (kqdOk n))=true;rw[MA];intro x hx;obtain⟨i,_,rfl⟩:=Ls.mp hx;cases n <;> rfl
theorem gh(h:dI a=dI b):a=b:=by
 have:=Qw h
 exact(UA (fun x y e=>NG.inj e)).mp this
end G1
namespace G1
open PySem L2 Fr
open PySem.W (Dat kqdOk)
structure Tn where
 fr:List Int
 to:List Int
 q:Int
 d:Int
def dT(t:Tn):Dat:=.tuple [dI t.fr,dI t.to,dI [t.q,t.d]]
def cy(t:Tn):List Int×List Int:=(t.fr,t.to)
def dV(ws:List Str)(ts:List Tn):Dat:=.tuple [.tuple (ws.map Mp),.tuple (ts.map dT)]
end G1
namespace L2
open PySem PySem.Spec PyProof.Rows
open PySem.W (Dat kqdOk)
theorem eK{K:Fg}:LJ K (.type "NoneType") (.type "bool")=some false:=by
 show Lw K (.type "NoneType") (.type "bool")=some false;unfold Lw;kernel_rfl
theorem fe{K:Fg}:LJ K (.type "NoneType") (.type "int")=some false:=by
 show Lw K (.type "NoneType") (.type "int")=some false;unfold Lw;kernel_rfl
theorem fb{K:Fg}:LJ K (.type "NoneType") (.type "str")=some false:=by
 show Lw K (.type "NoneType") (.type "str")=some false;unfold Lw;kernel_rfl
theorem b8{K:Fg}:LJ K (.type "NoneType") (.type "tuple")=some false:=by
 show Lw K (.type "NoneType") (.type "tuple")=some false;unfold Lw;kernel_rfl
theorem cU{K:Fg}:LJ K (.type "NoneType") (.type "list")=some false:=by
 show Lw K (.type "NoneType") (.type "list")=some false;unfold Lw;kernel_rfl
theorem eU{K:Fg}:LJ K (.type "bool") (.type "bool")=some true:=by rfl
theorem rR{K:Fg}:LJ K (.type "bool") (.type "int")=some true:=by
 show Lw K (.type "bool") (.type "int")=some true;unfold Lw;kernel_rfl
theorem rQ{K:Fg}:LJ K (.type "bool") (.type "str")=some false:=by
 show Lw K (.type "bool") (.type "str")=some false;unfold Lw;kernel_rfl
theorem cW{K:Fg}:LJ K (.type "bool") (.type "tuple")=some false:=by
 show Lw K (.type "bool") (.type "tuple")=some false;unfold Lw;kernel_rfl
theorem eS{K:Fg}:LJ K (.type "bool") (.type "list")=some false:=by
 show Lw K (.type "bool") (.type "list")=some false;unfold Lw;kernel_rfl
theorem fH{K:Fg}:LJ K (.type "int") (.type "bool")=some false:=by
 show Lw K (.type "int") (.type "bool")=some false;unfold Lw;kernel_rfl
theorem kC{K:Fg}:LJ K (.type "int") (.type "int")=some true:=by rfl
theorem uA{K:Fg}:LJ K (.type "int") (.type "str")=some false:=by
 show Lw K (.type "int") (.type "str")=some false;unfold Lw;kernel_rfl
theorem dG{K:Fg}:LJ K (.type "int") (.type "tuple")=some false:=by
 show Lw K (.type "int") (.type "tuple")=some false;unfold Lw;kernel_rfl
theorem fG{K:Fg}:LJ K (.type "int") (.type "list")=some false:=by
 show Lw K (.type "int") (.type "list")=some false;unfold Lw;kernel_rfl
theorem ja{K:Fg}:LJ K (.type "str") (.type "bool")=some false:=by
 show Lw K (.type "str") (.type "bool")=some false;unfold Lw;kernel_rfl
theorem kB{K:Fg}:LJ K (.type "str") (.type "int")=some false:=by
 show Lw K (.type "str") (.type "int")=some false;unfold Lw;kernel_rfl
theorem gH{K:Fg}:LJ K (.type "str") (.type "str")=some true:=by rfl
theorem dF{K:Fg}:LJ K (.type "str") (.type "tuple")=some false:=by
 show Lw K (.type "str") (.type "tuple")=some false;unfold Lw;kernel_rfl
theorem fF{K:Fg}:LJ K (.type "str") (.type "list")=some false:=by
 show Lw K (.type "str") (.type "list")=some false;unfold Lw;kernel_rfl
theorem lQ{K:Fg}:LJ K (.type "tuple") (.type "bool")=some false:=by
 show Lw K (.type "tuple") (.type "bool")=some false;unfold Lw;kernel_rfl
theorem pw{K:Fg}:LJ K (.type "tuple") (.type "int")=some false:=by
 show Lw K (.type "tuple") (.type "int")=some false;unfold Lw;kernel_rfl
theorem pp{K:Fg}:LJ K (.type "tuple") (.type "str")=some false:=by
 show Lw K (.type "tuple") (.type "str")=some false;unfold Lw;kernel_rfl
theorem bj{K:Fg}:LJ K (.type "tuple") (.type "tuple")=some true:=by rfl
theorem gf{K:Fg}:LJ K (.type "tuple") (.type "list")=some false:=by
 show Lw K (.type "tuple") (.type "list")=some false;unfold Lw;kernel_rfl
theorem pA{K:Fg}:LJ K (.type "list") (.type "bool")=some false:=by
 show Lw K (.type "list") (.type "bool")=some false;unfold Lw;kernel_rfl
theorem rP{K:Fg}:LJ K (.type "list") (.type "int")=some false:=by
 show Lw K (.type "list") (.type "int")=some false;unfold Lw;kernel_rfl
theorem rO{K:Fg}:LJ K (.type "list") (.type "str")=some false:=by
 show Lw K (.type "list") (.type "str")=some false;unfold Lw;kernel_rfl
theorem bv{K:Fg}:LJ K (.type "list") (.type "tuple")=some false:=by
 show Lw K (.type "list") (.type "tuple")=some false;unfold Lw;kernel_rfl
theorem bV{K:Fg}:LJ K (.type "list") (.type "list")=some true:=by rfl
abbrev Ra(K:Fg)(H:Hp):V->Dat->Prop:=Rp K (fun _=>True) H
abbrev K0(K:Fg)(H:Hp):List V->List Dat->Prop:=RpL K (fun _=>True) H
theorem Rp.a{K:Fg}(h:Rp K S H v d):Ra K H v d:=h.mono fun _ _=>trivial
def rC:Nat->Dat->Bool
 |_,.none=>true
 |_,.bool _=>true
 |_,.int _=>true
 |_,.str _=>true
 |n+1,.tuple ds=>decide (ds.length<=1000) && ds.all (rC n)
 |n+1,.list ds=>decide (ds.length<=1000) && ds.all (rC n)
 |_,_=>false
theorem zt{ds:List Dat}(l:ds.length<=1000)(h:∀d∈ds,rC n d=true):rC (n+1) (.tuple ds)=true:=by
 show(decide (ds.length<=1000) && ds.all (rC n))=true;rw[decide_eq_true l,N7,MA];exact h
theorem HE{ds:List Dat}(l:ds.length<=1000)(h:∀d∈ds,rC n d=true):rC (n+1) (.list ds)=true:=by
 show(decide (ds.length<=1000) && ds.all (rC n))=true;rw[decide_eq_true l,N7,MA];exact h
theorem DT{ds:List Dat}(h:(decide (ds.length<=1000) && ds.all (rC n))=true):ds.length<=1000/\∀d∈ds,rC n d=true:=by
 rw[NA,MA] at h;exact⟨of_decide_eq_true h.1,h.2⟩
theorem Ea{K:Fg}{Q:VK}{v:V}(e:SqT K H p xs)(a:mO xs i=some v)(h:Q v H):Fp K (.ref p) (.int i) H Q:=.inr (.inl (bn e a h))
theorem Eb{K:Fg}{Q:VK}{v:V}(e:SqL K H p xs)(a:mO xs i=some v)(h:Q v H):Fp K (.ref p) (.int i) H Q:=.inl (bG e a h)
end L2
namespace Sm
open PySem L2 G1
open PySem.W (Dat kqdOk)
def eG(K:Fg)(n:Nat):Sp:=fun vs H Q _=>∃(v1 v2:V) (d1 d2:Dat),vs=[v1,v2]/\Ra K H v1 d1/\Ra K H v2 d2/\rC n d2=true/\(d1=d2->Q (.bl true) H)/\(d1≠d2->Q (.bl false) H)
theorem rK{K:Fg}{x y:Str}(h:eG K n vs H Q E):vs.length=[x,y].length:=by
 obtain⟨a,b,c,d,rfl,_⟩:=h;rfl
def nH (K:Fg):TS:=(av (a6 (tB (bY (eO K) (ag (ae 1) (ag (tC (.ty "bool")) aq))))
 (aY (jL (bY (eO K) (ag (ae 0) (ag (tC (.ty "bool")) aq))) (aB fw (ae 0) (ae 1))))
 a9)
 (av (a6 (tB (bY (eO K) (ag (ae 1) (ag (tC (.ty "int")) aq))))
 (aY (jL (bY (eO K) (ag (ae 0) (ag (tC (.ty "int")) aq))) (jL (Bt (bY (eO K) (ag (ae 0) (ag (tC (.ty "bool")) aq)))) (aB fw (ae 0) (ae 1)))))
 a9)
 (av (a6 (tB (bY (eO K) (ag (ae 1) (ag (tC (.ty "str")) aq))))
 (aY (jL (bY (eO K) (ag (ae 0) (ag (tC (.ty "str")) aq))) (aB fw (ae 0) (ae 1))))
 a9)
 (aY (jL (aB yT (ae 1) (tC .non)) (aB yT (ae 0) (tC .non)))))))
def sO(K:Fg)(m:Nat):TS:=(av (a6 (bg (aB A0 (bY (cE K) (ag (ae 0) aq)) (bY (cE K) (ag (ae 1) aq))))
 (aY (tC (.bl false)))
 a9)
 (av (eF (iS (ag (bY (cE K) (ag (ae 1) aq)) aq)) (aH 2)
 (a6 (dJ (tB (a4 (eG K m) [] E0 (ag (aB (Fp K) (ae 0) (ae 2)) (ag (aB (Fp K) (ae 1) (ae 2)) aq)))))
 (aY (tC (.bl false)))
 a9))
 (aY (tC (.bl true)))))
def sP (K:Fg):TS:=(av (a6 (xm (tB (bY (eO K) (ag (ae 1) (ag (tC (.ty "tuple")) aq)))) (tB (bY (eO K) (ag (ae 1) (ag (tC (.ty "list")) aq)))))
 gO
 a9)
 (nH K))
def xH (K:Fg) (m:Nat):TS:=(av (a6 (xm (tB (bY (eO K) (ag (ae 1) (ag (tC (.ty "tuple")) aq)))) (tB (bY (eO K) (ag (ae 1) (ag (tC (.ty "list")) aq)))))
 (av (a6 (xm (bg (aB A0 (bY (eO K) (ag (ae 0) (ag (tC (.ty "tuple")) aq))) (bY (eO K) (ag (ae 1) (ag (tC (.ty "tuple")) aq))))) (bg (aB A0 (bY (eO K) (ag (ae 0) (ag (tC (.ty "list")) aq))) (bY (eO K) (ag (ae 1) (ag (tC (.ty "list")) aq))))))
 (aY (tC (.bl false)))
 a9)
 (sO K m))
 a9)
 (nH K))
theorem yJ{K:Fg}{Q:VK}{u:Option V}(r1:Ra K H v1 d1)(r2:Ra K H v2 d2)(n1:∀ds,d2≠.tuple ds)(n2:∀ds,d2≠.list ds)(h1:d1=d2->Q (.bl true) H)(h2:d1≠d2->Q (.bl false) H) :
  nH K (ends Q) [some v1,some v2,u] H:=by
 have no:∀{a b:Dat},(a=b->False)->d1=a->d2=b->Q (.bl false) H:=fun q e1 e2=>h2 fun z=>q (e1.symm.trans (z.trans e2))
 unfold nH;cases r2 with
 |non =>
  walk_at "";refine aW .non eK ?_;walk_at "";refine aW .non fe ?_;walk_at "";refine aW .non fb ?_;walk_at "";refine bt (fun _=>?_) (fun z=>absurd rfl z);walk_at "";cases r1 with
  |non=>exact h1 rfl
  |bl b=>exact h2 (fun z=>by cases z)
  |int b=>exact h2 (fun z=>by cases z)
  |str b=>exact h2 (fun z=>by cases z)
  |tup e r=>exact h2 (fun z=>by cases z)
  |lst s e r=>exact h2 (fun z=>by cases z)
 |bl b =>
  walk_at "";refine aW (.bl b) eU ?_;walk_at "";cases r1 with
  |non =>
   refine aW .non eK ?_;walk_at "";exact h2 (fun z=>by cases z)
  |bl c =>
   refine aW (.bl c) eU ?_;walk_at "";by_cases z:c=b
   ·rw[decide_eq_true z];exact h1 (by rw[z])
   ·rw[decide_eq_false z];exact h2 (fun q=>z (OZ.inj q))
  |int c =>
   refine aW (.int c) fH ?_;walk_at "";exact h2 (fun z=>by cases z)
  |str c =>
   refine aW (.str c) ja ?_;walk_at "";exact h2 (fun z=>by cases z)
  |tup e r =>
   refine aW (.tup e) lQ ?_;walk_at "";exact h2 (fun z=>by cases z)
  |lst s e r =>
   refine aW (.lst e) pA ?_;walk_at "";exact h2 (fun z=>by cases z)
 |int b =>
  walk_at "";refine aW (.int b) fH ?_;walk_at "";refine aW (.int b) kC ?_;walk_at "";cases r1 with
  |non =>
   refine aW .non fe ?_;walk_at "";exact h2 (fun z=>by cases z)
  |bl c =>
   refine aW (.bl c) rR ?_;walk_at "";refine aW (.bl c) eU ?_;walk_at "";exact h2 (fun z=>by cases z)
  |int c =>
   refine aW (.int c) kC ?_;walk_at "";refine aW (.int c) fH ?_;walk_at "";by_cases z:c=b
   ·rw[decide_eq_true z];exact h1 (by rw[z])
   ·rw[decide_eq_false z];exact h2 (fun q=>z (NG.inj q))
  |str c =>
   refine aW (.str c) kB ?_;walk_at "";exact h2 (fun z=>by cases z)
  |tup e r =>
   refine aW (.tup e) pw ?_;walk_at "";exact h2 (fun z=>by cases z)
  |lst s e r =>
   refine aW (.lst e) rP ?_;walk_at "";exact h2 (fun z=>by cases z)
 |str b =>
  walk_at "";refine aW (.str b) ja ?_;walk_at "";refine aW (.str b) kB ?_;walk_at "";refine aW (.str b) gH ?_;walk_at "";cases r1 with
  |non =>
   refine aW .non fb ?_;walk_at "";exact h2 (fun z=>by cases z)
  |bl c =>
   refine aW (.bl c) rQ ?_;walk_at "";exact h2 (fun z=>by cases z)
  |int c =>
   refine aW (.int c) uA ?_;walk_at "";exact h2 (fun z=>by cases z)
  |str c =>
   refine aW (.str c) gH ?_;walk_at "";by_cases z:c=b
   ·rw[decide_eq_true z];exact h1 (by rw[z])
   ·rw[decide_eq_false z];exact h2 (fun q=>z (Tx q))
  |tup e r =>
   refine aW (.tup e) pp ?_;walk_at "";exact h2 (fun z=>by cases z)
  |lst s e r =>
   refine aW (.lst e) rO ?_;walk_at "";exact h2 (fun z=>by cases z)
 |tup e r=>exact absurd rfl (n1 _)
 |lst s e r=>exact absurd rfl (n2 _)
theorem BK{K:Fg}{N:List Str}(hN:N.length=3)(h:eG K 0 vs H Q E):sP K (ends Q) (L2.start N vs) H:=by
 obtain⟨v1,v2,d1,d2,rfl,r1,r2,ok,h1,h2⟩:=h;rw[L2.bx hN];walk_at "t";have n1:∀ds,d2≠.tuple ds:=fun ds z=>by rw[z] at ok;cases ok
 have n2:∀ds,d2≠.list ds:=fun ds z=>by rw[z] at ok;cases ok
 have fin:=yJ (u:=none) r1 r2 n1 n2 h1 h2;unfold sP;cases r2 with
 |non =>
  walk_at "";refine aW .non b8 ?_;walk_at "";refine aW .non cU ?_;walk_at "";exact fin
 |bl b =>
  walk_at "";refine aW (.bl b) cW ?_;walk_at "";refine aW (.bl b) eS ?_;walk_at "";exact fin
 |int b =>
  walk_at "";refine aW (.int b) dG ?_;walk_at "";refine aW (.int b) fG ?_;walk_at "";exact fin
 |str b =>
  walk_at "";refine aW (.str b) dF ?_;walk_at "";refine aW (.str b) fF ?_;walk_at "";exact fin
 |tup e r=>exact absurd rfl (n1 _)
 |lst s e r=>exact absurd rfl (n2 _)
theorem DJ{K:Fg}{Q:VK}{xs ys:List V}{u:Option V}(lx:∀Q':VK,Q' (.int xs.length) H->cE K [.ref a] H Q')(ly:∀Q':VK,Q' (.int ys.length) H->cE K [.ref b] H Q')
  (ix:∀(i:Nat) (x:V) (Q':VK),xs[i]?=some x->Q' x H->Fp K (.ref a) (.int (0+(i:Int))) H Q') (iy:∀(i:Nat) (x:V) (Q':VK),ys[i]?=some x->Q' x H->Fp K (.ref b) (.int (0+(i:Int))) H Q')
  (r1:K0 K H xs d1) (r2:K0 K H ys d2) (ok:∀d∈d2,rC m d=true) (lm:d2.length<=1000) (h1:d1=d2->Q (.bl true) H) (h2:d1≠d2->Q (.bl false) H) {D:cq} (hD:D.rt=Q):sO K m D [some (.ref a),some (.ref b),u] H:=by
 have l1:=r1.length;have l2:=r2.length;unfold sO;walk_at "";refine lx _ ?_;walk_at "";refine ly _ ?_;walk_at "";refine bT (fun z=>?_) (fun z=>?_)
 ·walk_at "";rw[hD];exact h2 fun e=>z (by rw[l1,l2,e])
 have le:xs.length=ys.length:=by lia
 walk_at "";refine ly _ ?_;walk_at "";refine cw (fun i σ H2=>H2=H/\(∃v,σ=[some (.ref a),some (.ref b),v])/\d1.take i=d2.take i) ⟨rfl,⟨_,rfl⟩,by simp⟩ ?_ ?_
 ·rintro i σ H2 hi ⟨rfl,⟨v,rfl⟩,et⟩;have hiy:i<ys.length:=by lia
  have hix:i<xs.length:=by lia
  obtain⟨e1,g1,p1⟩:=r1.get (Lb hix);obtain⟨e2,g2,p2⟩:=r2.get (Lb hiy);walk_at "";refine ix i _ _ (Lb hix) ?_;walk_at "";refine iy i _ _ (Lb hiy) ?_;walk_at "";refine⟨_,_,e1,e2,rfl,p1,p2,ok e2 (Ll g2),fun q=>?_,fun q=>?_⟩
  ·walk_at "";refine⟨rfl,⟨_,rfl⟩,?_⟩;rw[LU,LU,et,g1,g2,q]
  ·walk_at "";show D.rt _ _;rw[hD];exact h2 fun z=>q (by rw[z,g2] at g1;exact(LF g1).symm)
 ·rintro σ H2 ⟨rfl,⟨v,rfl⟩,et⟩;walk_at "";show D.rt _ _;rw[hD];refine h1 ?_;have e:(ys.length:Int).toNat=ys.length:=by lia
  rw[e,Lq (by lia),Lq (by lia)] at et;exact et
theorem E5{K:Fg}{m:Nat}{N:List Str}(hN:N.length=3)(h:eG K (m+1) vs H Q E):xH K m (ends Q) (L2.start N vs) H:=by
 obtain⟨v1,v2,d1,d2,rfl,r1,r2,ok,h1,h2⟩:=h;rw[L2.bx hN];walk_at "t";unfold xH;have fin:=fun n1 n2=>yJ (u:=none) r1 r2 n1 n2 h1 h2
 cases r2 with
 |non =>
  walk_at "";refine aW .non b8 ?_;walk_at "";refine aW .non cU ?_;walk_at "";exact fin (fun ds z=>by cases z) (fun ds z=>by cases z)
 |bl b =>
  walk_at "";refine aW (.bl b) cW ?_;walk_at "";refine aW (.bl b) eS ?_;walk_at "";exact fin (fun ds z=>by cases z) (fun ds z=>by cases z)
 |int b =>
  walk_at "";refine aW (.int b) dG ?_;walk_at "";refine aW (.int b) fG ?_;walk_at "";exact fin (fun ds z=>by cases z) (fun ds z=>by cases z)
 |str b =>
  walk_at "";refine aW (.str b) dF ?_;walk_at "";refine aW (.str b) fF ?_;walk_at "";exact fin (fun ds z=>by cases z) (fun ds z=>by cases z)
 |@tup b ys ds e r =>
  obtain⟨lm,okd⟩:=DT ok;walk_at "";refine aW (.tup e) bj ?_;walk_at "";cases r1 with
  |non =>
   refine aW .non b8 ?_;walk_at "";refine aW (.tup e) bj ?_;walk_at "";refine bT (fun _=>?_) (fun z=>by cases z);walk_at "";exact h2 (fun z=>by cases z)
  |bl c =>
   refine aW (.bl c) cW ?_;walk_at "";refine aW (.tup e) bj ?_;walk_at "";refine bT (fun _=>?_) (fun z=>by cases z);walk_at "";exact h2 (fun z=>by cases z)
  |int c =>
   refine aW (.int c) dG ?_;walk_at "";refine aW (.tup e) bj ?_;walk_at "";refine bT (fun _=>?_) (fun z=>by cases z);walk_at "";exact h2 (fun z=>by cases z)
  |str c =>
   refine aW (.str c) dF ?_;walk_at "";refine aW (.tup e) bj ?_;walk_at "";refine bT (fun _=>?_) (fun z=>by cases z);walk_at "";exact h2 (fun z=>by cases z)
  |lst s e' r' =>
   refine aW (.lst e') bv ?_;walk_at "";refine aW (.tup e) bj ?_;walk_at "";refine bT (fun _=>?_) (fun z=>by cases z);walk_at "";exact h2 (fun z=>by cases z)
  |@tup a xs ds' e' r' =>
   refine aW (.tup e') bj ?_;walk_at "";refine aW (.tup e) bj ?_;walk_at "";refine bT (fun z=>absurd rfl z) (fun _=>?_);walk_at "";refine aW (.tup e') gf ?_;walk_at "";refine aW (.tup e) gf ?_;walk_at "";refine bT (fun z=>absurd rfl z) (fun _=>?_);walk_at "";refine DJ (m:=m) (xs:=xs) (ys:=ys) (fun Q' q=>kG (SqT.of e') q) (fun Q' q=>kG (SqT.of e) q) (fun i x Q' hx q=>Ea (SqT.of e') (by rw[Nz];exact bQ hx) q) (fun i x Q' hx q=>Ea (SqT.of e) (by rw[Nz];exact bQ hx) q) r' r okd lm (fun z=>h1 (by rw[z])) (fun z=>h2 fun q=>z (Qw q)) rfl
 |@lst b ys ds s e r =>
  obtain⟨lm,okd⟩:=DT ok;walk_at "";refine aW (.lst e) bv ?_;walk_at "";refine aW (.lst e) bV ?_;walk_at "";cases r1 with
  |non =>
   refine aW .non b8 ?_;walk_at "";refine aW (.lst e) bv ?_;walk_at "";refine bT (fun z=>absurd rfl z) (fun _=>?_);walk_at "";refine aW .non cU ?_;walk_at "";refine aW (.lst e) bV ?_;walk_at "";refine bT (fun _=>?_) (fun z=>by cases z);walk_at "";exact h2 (fun z=>by cases z)
  |bl c =>
   refine aW (.bl c) cW ?_;walk_at "";refine aW (.lst e) bv ?_;walk_at "";refine bT (fun z=>absurd rfl z) (fun _=>?_);walk_at "";refine aW (.bl c) eS ?_;walk_at "";refine aW (.lst e) bV ?_;walk_at "";refine bT (fun _=>?_) (fun z=>by cases z);walk_at "";exact h2 (fun z=>by cases z)
  |int c =>
   refine aW (.int c) dG ?_;walk_at "";refine aW (.lst e) bv ?_;walk_at "";refine bT (fun z=>absurd rfl z) (fun _=>?_);walk_at "";refine aW (.int c) fG ?_;walk_at "";refine aW (.lst e) bV ?_;walk_at "";refine bT (fun _=>?_) (fun z=>by cases z);walk_at "";exact h2 (fun z=>by cases z)
  |str c =>
   refine aW (.str c) dF ?_;walk_at "";refine aW (.lst e) bv ?_;walk_at "";refine bT (fun z=>absurd rfl z) (fun _=>?_);walk_at "";refine aW (.str c) fF ?_;walk_at "";refine aW (.lst e) bV ?_;walk_at "";refine bT (fun _=>?_) (fun z=>by cases z);walk_at "";exact h2 (fun z=>by cases z)
  |tup e' r' =>
   refine aW (.tup e') bj ?_;walk_at "";refine aW (.lst e) bv ?_;walk_at "";refine bT (fun _=>?_) (fun z=>by cases z);walk_at "";exact h2 (fun z=>by cases z)
  |@lst a xs ds' s' e' r' =>
   refine aW (.lst e') bv ?_;walk_at "";refine aW (.lst e) bv ?_;walk_at "";refine bT (fun z=>absurd rfl z) (fun _=>?_);walk_at "";refine aW (.lst e') bV ?_;walk_at "";refine aW (.lst e) bV ?_;walk_at "";refine bT (fun z=>absurd rfl z) (fun _=>?_);walk_at "";refine DJ (m:=m) (xs:=xs) (ys:=ys) (fun Q' q=>dO (SqL.of e') q) (fun Q' q=>dO (SqL.of e) q) (fun i x Q' hx q=>Eb (SqL.of e') (by rw[Nz];exact bQ hx) q) (fun i x Q' hx q=>Eb (SqL.of e) (by rw[Nz];exact bQ hx) q) r' r okd lm (fun z=>h1 (by rw[z])) (fun z=>h2 fun q=>z (Vb q)) rfl
end Sm
namespace Vs
open PySem L2 Fr G1 Sm
open PySem.W (Dat kqdOk)
def cF(hs:List (List Int))(h:List Int):List (List Int):=if h∈hs then hs else hs++[h]
def hZ(hs:List (List Int))(ts:List Tn):List (List Int):=ts.foldl (fun hs t=>cF (cF hs t.fr) t.to) hs
def C0(ts:List Tn):List (List Int):=hZ [] ts
theorem pH(hs:List (List Int))(h:List Int):(cF hs h).length<=hs.length+1:=by
 unfold cF;split
 ·lia
 ·simp
theorem pK:∀(ts:List Tn) (hs:List (List Int)),(hZ hs ts).length<=hs.length+2*ts.length
 |[],hs=>by simp[hZ]
 |t :: ts,hs=>by
  have h1:=pK ts (cF (cF hs t.fr) t.to);have h2:=pH (cF hs t.fr) t.to;have h3:=pH hs t.fr;show(hZ (cF (cF hs t.fr) t.to) ts).length<=_;rw[L0];lia
theorem rW(hs:List (List Int))(ts:List Tn)(t:Tn):hZ hs (ts++[t])=cF (cF (hZ hs ts) t.fr) t.to:=by
 unfold hZ;rw[Vc];rfl
def qg(h:List Int):List Key:=h.map QT
theorem xC(h:List Int):(qg h).map kV=h.map V.int:=by
 unfold qg;rw[Ot];rfl
theorem EF(h:qg a=qg b):a=b:=(UA (fun x y e=>QT.inj e)).mp h
theorem qQ{fx:List (List Key×V)}{hs:List (List Int)}(e:fx.map (·.1)=hs.map qg)(h:List Int)(v:V):(dA fx (qg h) v).map (·.1)=(cF hs h).map qg:=by
 have any:(fx.any fun kv=>decide (kv.1=qg h))=decide (h∈hs):=by
  rw[PD,RS,decide_eq_true_iff];constructor
  ·rintro⟨kv,hm,q⟩
   have:kv.1∈hs.map qg:=by rw[<- e];exact Ls.mpr ⟨kv,hm,rfl⟩
   obtain⟨g,hg,eg⟩:=Ls.mp this;rw[of_decide_eq_true q] at eg;rw[<- EF eg];exact hg
  ·intro hm
   have:qg h∈fx.map (·.1):=by rw[e];exact Ls.mpr ⟨h,hm,rfl⟩
   obtain⟨kv,hk,ek⟩:=Ls.mp this;exact⟨kv,hk,decide_eq_true ek⟩
 unfold dA cF;rw[any];by_cases z:h∈hs
 ·rw[if_pos z,decide_eq_true z,if_pos rfl,Ot,<- e];refine QN fun kv _=>?_
  show(if kv.1=qg h then (kv.1,v) else kv).1=kv.1;split <;> rfl
 ·rw[if_neg z,decide_eq_false z,if_neg LP,LD,LD,e];rfl
theorem zQ{K:Fg}{H:Hp}:∀{fx:List (List Key×V)} {hs:List (List Int)} {bs:List Addr},fx.map (·.1)=hs.map qg->Paired (fun(p:List Key×V) b=>H b=some (.tup (p.1.map kV))) fx bs->RzL K H (bs.map V.ref) (hs.map dI)
 |[],[],_,_,.nil=>.nil
 |[],h :: hs,_,e,_=>by simp at e
 |kv :: fx,[],_,e,_=>by simp at e
 |kv :: fx,h :: hs,_,e,.cons q t=>by
  have e1:kv.1=qg h:=(Nc e).1;have e2:=(Nc e).2;rw[e1,xC] at q;exact .cons (.tup q (RpL.ints h)) (zQ e2 t)
def jQ(K:Fg):Sp:=fun vs H Q _=>∃(v:V) (ts:List Tn),vs=[v]/\Rz K H v (.tuple (ts.map dT))/\ts.length<=100/\∀(p:Addr) (H':Hp),AccZ K H p H' ((C0 ts).map dI)->Q (.ref p) H'
def jH(K:Fg):TS:=(av (aR DE (aH 1))
 (av (eF (kK K (ae 0)) (aH 2)
 (av (yA (ae 1) (aB (bh K) (ae 2) (tC (.int 0))) (tC (.bl true)))
 (yA (ae 1) (aB (bh K) (ae 2) (tC (.int 1))) (tC (.bl true)))))
 (aY (bY DN (ag (ae 1) aq)))))
theorem ib{K:Fg}(h:Rz K H v (dT t)):∃(a:Addr) (v1 v2 v3:V),v=.ref a/\H a=some (.tup [v1,v2,v3])/\Rz K H v1 (dI t.fr)/\Rz K H v2 (dI t.to)/\Rz K H v3 (dI [t.q,t.d]):=by
 obtain⟨a,xs,e,ha,r⟩:=h.cC;cases r with
 |cons r1 r =>
  cases r with
  |cons r2 r =>
   cases r with
   |cons r3 r =>
    cases r;exact⟨a,_,_,_,e,ha,r1,r2,r3⟩
theorem eL{K:Fg}(h:Rz K H v (dI ns)):∃a:Addr,v=.ref a/\H a=some (.tup (ns.map V.int)):=by
 obtain⟨a,xs,e,ha,r⟩:=h.cC;rw[RpL.ints_of r] at ha;exact⟨a,e,ha⟩
theorem wC{K:Fg}{N:List Str}(hN:N.length=3)(h:jQ K vs H Q E):jH K (ends Q) (L2.start N vs) H:=by
 obtain⟨v,ts,rfl,rv,hl,k⟩:=h;obtain⟨a,xs,rfl,ha,rx⟩:=rv.cC;rw[L2.bx hN];walk_at "t";have lx:xs.length=ts.length:=by rw[rx.length,La]
 unfold jH;walk_at "";intro d nd;walk_at "";refine CJ (SqT.of ((ar nd _) _ _ ha)) ?_;refine pO (xs:=xs) (fun i σ H2=>∃(fx:List (List Key×V)) (u:Option V),σ=[some (.ref a),some (.ref d),u]/\Same H H2/\H2 d=some (.dT fx)/\fx.map (·.1)=(C0 (ts.take i)).map qg) ⟨[],none,rfl,ar nd _,am,rfl⟩ ?_ ?_ ?_
 ·rintro i σ H2 _ ⟨fx,u,rfl,S,ed,ek⟩;exact SqT.of (S _ _ ha)
 ·rintro i z σ H2 hz ⟨fx,u,rfl,S,ed,ek⟩;obtain⟨dd,g1,g2⟩:=rx.get hz;rw[Li] at g1;obtain⟨t,ht,rfl⟩:=Ln.mp g1;obtain⟨at_,v1,v2,v3,rfl,hat,r1,r2,_⟩:=ib (g2.same S);obtain⟨b1,rfl,hb1⟩:=eL r1;obtain⟨b2,rfl,ZN⟩:=eL r2;have ti:i<ts.length:=(Ld.mp ht).1;have kl:fx.length=(C0 (ts.take i)).length:=by have:=congrArg PQ ek;simpa using this
  have X8:=pK (ts.take i) [];rw[LG] at X8;have kl2:fx.length<=2*i:=by rw[kl];unfold C0;simp only[QG] at X8;lia
  have e1:=qQ ek t.fr (.bl true);have e2:=qQ e1 t.to (.bl true);have le1:=gF fx (qg t.fr) (.bl true);have n1:b1≠d:=CB hb1 ed (by intro z;cases z);have n2:b2≠d:=CB ZN ed (by intro z;cases z);have n3:at_≠d:=CB hat ed (by intro z;cases z);walk_at "";refine bn (SqT.of hat) (v:=.ref b1) rfl ?_;refine⟨d,_,rfl,DPut.t ed (k:=qg t.fr) (by rw[xC];exact hb1) (aU (by lia)),?_⟩;walk_at "";refine bn (SqT.of (by rw[aC n3];exact hat)) (v:=.ref b2) rfl ?_;refine⟨d,_,rfl,DPut.t am (k:=qg t.to) (by rw[xC,aC n2];exact ZN) (aU (by lia)),?_⟩;rw[EC];refine⟨_,_,rfl,fun b o q=>?_,am,?_⟩
  ·rw[aC (au q nd)];exact S _ _ q
  ·rw[e2];congr 1;have et:ts.take (i+1)=ts.take i++[t]:=by rw[LU,ht];rfl
   rw[et];exact(rW [] (ts.take i) t).symm
 ·rintro σ H2 ⟨fx,u,rfl,S,ed,ek⟩;rw[lx,Lq (Lg _)] at ek;walk_at "";refine⟨d,fx,rfl,ed,fun l bs nl pr=>?_⟩;have S2:=ar nl (.lst (bs.map V.ref));exact k l _ ⟨S.trans S2,S.free nl,_,am,(zQ ek pr).same S2⟩
end Vs
namespace G2
end G2
namespace Ti
end Ti
namespace Sz
end Sz
namespace Sf
end Sf
namespace Rw
end Rw
namespace Cl
end Cl
namespace Mk
end Mk
namespace Dn
open PySem L2 Fr G1 Sm Vs G2 Rk Sz
open PySem.W (Dat kqdOk)
def pr(t:Tn):Tp:=(t.fr,t.to)
end Dn
namespace L2
open PySem
theorem Ec{to ti:TE}{t:Dt}{H:Hp}{Q:St->Hp->Prop}(h:to σ H fun o H1=>ti σ H1 fun i H2=>t o i v H2 fun H3=>Q σ H3):C6 to ti t v σ H Q:=h
end L2
namespace Lo
end Lo
namespace Bo
end Bo
namespace Br
end Br
namespace Fr
theorem zC{b:Int}(hb:b≠0)(L:Gd.Low t b q d):q=(Qt t b).num/\d=((Qt t b).den:Int):=by
 obtain⟨pos,low,worth⟩:=L;have e:Qt t b=Qt q d:=(Rat.divInt_eq_divInt_iff hb (by lia)).mpr worth.symm
 have cp:Nat.Coprime q.natAbs d.natAbs:=by
  unfold Gd.gd at low;unfold Nat.Coprime
  have:Int.gcd q d=Nat.gcd q.natAbs d.natAbs:=rfl
  lia
 have m:Rat.mk' q d.natAbs (by lia) cp=Qt q d:=by
  rw[Rat.mk_eq_divInt];congr 1;lia
 rw[e,<- m];exact⟨rfl,by show d=(d.natAbs:Int);lia⟩
end Fr
namespace Tr
open PySem L2 Fr G1 Sm Vs G2 Rk Sz Sf Rw Ti
open PySem.W (Dat kqdOk)
def dQ(x:Rat):Dat:=dI [x.num,(x.den:Int)]
def ou(K:Fg):Sp:=fun vs H Q _=>∃t b:Int,vs=[.int t,.int b]/\b≠0/\t.natAbs<2 ^ 8000/\b.natAbs<2 ^ 8000/\∀(p:Addr) (H':Hp),Same H H'->Rz K H' (.ref p) (dQ (Qt t b))->Q (.ref p) H'
def sY(K:Fg):TS:=(av (a6 (xm (dJ (tB (a4 nW [] E0 (ag (ae 0) aq)))) (dJ (tB (a4 nW [] E0 (ag (ae 1) aq)))))
 gO
 a9)
 (av (a6 (bg (aB fw (ae 1) (tC (.int 0))))
 gO
 a9)
 (av (aR (a4 Bv [] E0 (ag (ae 0) (ag (ae 1) aq))) (aH 2))
 (av (a6 (bg (aB B_ (ae 1) (tC (.int 0))))
 (aR (G0 (rU fun i=>.int (-i)) (ae 2)) (aH 2))
 a9)
 (aY (dX (ag (aB wF (ae 0) (ae 2)) (ag (aB wF (ae 1) (ae 2)) aq))))))))
theorem BU{K:Fg}{N:List Str}(hN:N.length=3)(h:ou K vs H Q E):sY K (ends Q) (L2.start N vs) H:=by
 obtain⟨t,b,rfl,b0,ht,hb,k⟩:=h;rw[L2.bx hN];walk_at "t";unfold sY;have p2:(2:Nat) ^ 8000<2 ^ 9000:=Nat.pow_lt_pow_right (by decide) (by decide);generalize (2:Nat) ^ 8000=P at ht hb p2;have gp:=Gd.vS (a:=t) b0;have gl:=Gd.IG (a:=t) b0
 have fin:∀d:Int,(d=Gd.gd t b/\0<b\/d = - Gd.gd t b/\b<0)->aY (dX (ag (aB wF (ae 0) (ae 2)) (ag (aB wF (ae 1) (ae 2)) aq))) (ends Q) [some (.int t),some (.int b),some (.int d)] H:=by
  intro d hd;obtain⟨e1,e2⟩:=zC b0 (Gd.D6 b0 hd);have dn:d≠0:=by rcases hd with⟨z,_⟩|⟨z,_⟩ <;> lia
  have dw:d.natAbs<2 ^ 9000:=by
   refine LW ?_ (Lr hb p2);rcases hd with⟨z,_⟩|⟨z,_⟩ <;> lia
  walk_at "";refine⟨_,_,rfl,rfl,⟨dn,dw⟩,?_⟩;walk_at "";refine⟨_,_,rfl,rfl,⟨dn,dw⟩,?_⟩;walk_at "";refine⟨bq,fun p np=>?_⟩;show Q (.ref p) (upd H p (.tup [.int (t.fdiv d),.int (b.fdiv d)]));rw[e1,e2];exact k p _ (ar np _) (.tup am (RpL.ints [_,_]))
 walk_at "";refine⟨t,rfl,?_⟩;walk_at "";refine⟨b,rfl,?_⟩;walk_at "";refine bt (fun z=>absurd z b0) (fun _=>?_);walk_at "";refine⟨t,b,rfl,?_⟩;walk_at "";refine bt (fun c=>?_) (fun c=>?_)
 ·obtain h2:=fin _ (.inr ⟨rfl,c⟩);refine Iy ?_;fail "1";refine wV (i:=2) rfl ?_;refine Ic ?_;refine zZ ?_;exact h2
 ·exact fin _ (.inl ⟨rfl,by lia⟩)
open Fr
open PySem L2 Fr G1 Sm Vs G2 Rk Sz Sf Rw Ti Lo
end Tr
namespace Rd
end Rd
namespace Wq
end Wq
namespace Nv
open PySem L2 Fr G1 Sm Vs
open PySem.W (Dat kqdOk kqdP kqdPs)
structure Cn (K:Fg) (mg:Str->Option K_) (nq:Addr):Prop where
 MOST_STUFFS:∃t,mg "MOST_STUFFS"=some (.int 5 t)
 MOST_SIGNS:∃t,mg "MOST_SIGNS"=some (.int 8 t)
 MOST_PIECES:∃t,mg "MOST_PIECES"=some (.int 3 t)
 MOST_TURNINGS:∃t,mg "MOST_TURNINGS"=some (.int 8 t)
 MOST_HEAPS:∃t,mg "MOST_HEAPS"=some (.int 8 t)
 NOUGHT:mg "NOUGHT"=some (.ref nq)
 two:∀H:Hp,SqT K H nq [.int 0,.int 1]
theorem szL:sizeLine=16777216:=by decide
def oz(K:Fg):Sp:=fun vs H Q _=>∃(p q:Addr) (a b c d:Int),vs=[.ref p,.ref q]/\SqT K H p [.int a,.int b]/\SqT K H q [.int c,.int d]/\xl a d/\xl c b/\Q (.bl (decide (a*d<c*b))) H
def nP(K:Fg):TS:=(aY (aB B_ (aB Hk (aB (bh K) (ae 0) (tC (.int 0))) (aB (bh K) (ae 1) (tC (.int 1)))) (aB Hk (aB (bh K) (ae 1) (tC (.int 0))) (aB (bh K) (ae 0) (tC (.int 1))))))
theorem yO{K:Fg}{N:List Str}(hN:N.length=2)(h:oz K vs H Q E):nP K (ends Q) (L2.start N vs) H:=by
 obtain⟨p,q,a,b,c,d,rfl,hp,hq,m1,m2,k⟩:=h;rw[L2.bx hN];walk_at "t";unfold nP;walk_at "";refine bn hp (v:=.int a) rfl ?_;walk_at "";refine bn hq (v:=.int d) rfl ?_;refine kF m1 ?_;walk_at "";refine bn hq (v:=.int c) rfl ?_;walk_at "";refine bn hp (v:=.int b) rfl ?_;refine kF m2 ?_;walk_at "";exact k
theorem zY{Q:VK}{i j:Str}(h:Q (.bl (!decide (j.cps.toList<i.cps.toList))) H):t9 (.str i) (.str j) H Q:=⟨i,j,rfl,rfl,h⟩
theorem K6:(("a":Str)).cps.toList=[97]:=by decide +kernel
theorem K5:(("z":Str)).cps.toList=[122]:=by decide +kernel
theorem pB{r:V->Hp->(Nat->Hp->Prop)->Prop}{te:TE}{H:Hp}{Q:VK}(h:te σ H fun x H1=>r x H1 fun n H2=>(n:Int)<2 ^ 63/\Q (.int n) H2):nR r te σ H Q:=h
theorem DW{ws:List Str}(h:ws.Nodup):(ws.map Mp).Nodup:=by
 induction ws with
 |nil=>exact Nq
 |cons w ws ih =>
  rw[Me] at h;rw[LX,Me];refine⟨fun z=>?_,ih h.2⟩;obtain⟨v,hv,e⟩:=Ls.mp z;cases e;exact h.1 hv
theorem rF{α:Type}[DecidableEq α]:∀{l hs:List α},l.Nodup->(∀x∈l,x∈hs)->l.length<=hs.length
 |[],_,_,_=>Ml _
 |x :: l,hs,nd,sub=>by
  rw[Me] at nd;have hx:=sub x Lz
  have h:=rF (l:=l) (hs:=hs.erase x) nd.2 fun y hy=>by
   refine(Tl ?_).mpr (sub y (Ly _ hy));rintro rfl;exact nd.1 hy
  rw[RF hx] at h
  have:=Sn hx
  rw[L0];lia
theorem Ai{hs:List (List Int)}(nd:hs.Nodup):(cF hs h).Nodup:=by
 unfold cF;split
 ·exact nd
 ·rename_i z;exact md nd z
theorem vL{x:List Int}(m:x∈cF hs h):x∈hs\/x=h:=by
 unfold cF at m;split at m
 ·exact .inl m
 ·rcases LZ.mp m with z|z
  ·exact .inl z
  ·exact .inr (Lx.mp z)
theorem Ar{ps:List (List Int)}:∀(ts:List Tn) (hs:List (List Int)),hs.Nodup->(∀x∈hs,x∈ps)->(∀t∈ts,t.fr∈ps/\t.to∈ps)->(hZ hs ts).Nodup/\∀x∈hZ hs ts,x∈ps
 |[],hs,nd,sub,_=>⟨nd,sub⟩
 |t :: ts,hs,nd,sub,ht=>by
  have h0:=ht t Lz;refine Ar ts (cF (cF hs t.fr) t.to) (Ai (Ai nd)) (fun x hx=>?_) fun u hu=>ht u (Ly _ hu)
  rcases vL hx with z|z
  ·rcases vL z with y|y
   ·exact sub x y
   ·rw[y];exact h0.1
  ·rw[z];exact h0.2
def ga(ts:List Tn):Prop:=1<=ts.length/\ts.length<=8/\(ts.map cy).Nodup/\(∀t∈ts,t.fr≠t.to)/\(C0 ts).length<=8
def dE(t:Tn):Dat:=.tuple [dI t.fr,dI t.to]
theorem Aa(ns:List Int):kqdPs (ns.map NG)=ns.map UB:=by
 induction ns with
 |nil=>rw[QU,kqdPs];rfl
 |cons n ns ih=>rw[LX,kqdPs,ih,kqdP];rfl
theorem An(n:Nat)(ns:List Int):iU n (ns.map UB)=true:=by
 induction ns with
 |nil=>rw[QU,iU]
 |cons m ns ih=>rw[LX,iU,ih,hU];rfl
theorem Eh(t:Tn):L2.Good (dE t):=by
 have e:kqdP (dE t)=.tuple [.tuple (t.fr.map UB),.tuple (t.to.map UB)]:=by
  unfold dE;rw[kqdP,kqdPs,kqdPs,kqdPs,kqdP,kqdP,Aa,Aa]
 refine⟨?_,?_,_,e⟩
 ·show((dI t.fr :: [dI t.to]).all (kqdOk 7))=true;rw[Nr,Nr,Su,f9 t.fr 6,f9 t.to 6];rfl
 ·rw[e,hU,iU,iU,iU,hU,hU,An,An];rfl
theorem HH{ts:List Tn}(h:(ts.map cy).Nodup):(ts.map dE).Nodup:=by
 induction ts with
 |nil=>exact Nq
 |cons t ts ih =>
  rw[LX,Me] at h;rw[LX,Me];refine⟨fun z=>h.1 ?_,ih h.2⟩;obtain⟨u,hu,e⟩:=Ls.mp z;have e':=Qw e;have e1:=gh (Nc e').1;have e2:=gh (Nc (Nc e').2).1;refine Ls.mpr ⟨u,hu,?_⟩;unfold cy;rw[e1,e2]
theorem D3(c d:Nat):(([c]:List Nat) < [d])↔c<d:=by
 rw[SR];constructor
 ·rintro(z|⟨_,z⟩)
  ·exact z
  ·cases z
 ·exact .inl
theorem Dm{K:Fg}{bs:List Bool}{n i:Nat}{b:Bool}(hn:n<=900)(hi:i<n)(eb:bs[i]?=some b)(A:AccZ K H0 D H2 ((bs.take i).map OZ))(S:Same H2 H3):uO D n i (fun j H=>AccZ K H0 D H ((bs.take j).map OZ)) (.bl b) H3:=by
 refine cA hi ((A.on S).gz (.bl b) (aU (by rw[La,LG];lia)) fun H4 A4=>?_);show AccZ K H0 D H4 ((bs.take (i+1)).map OZ);rw[LU,eb,LD];exact A4
def pf(c:Nat):Bool:=decide (97<=c) && decide (c<=122)
def uC(w:Str):Bool:=decide (1<=w.cps.size/\w.cps.size<=8) && (w.cps.toList.map pf).all id
def Plain(w:Str):Prop:=w.cps.all (· < 128)=true/\w.cps.size<=800
def oj(K:Fg):Sp:=fun vs H Q _=>∃w:Str,vs=[.str w]/\Plain w/\∀H',Same H H'->Q (.bl (uC w)) H'
def nM (K:Fg):TS:=(av (a6 (xm (dJ (tB (bY (eO K) (ag (ae 0) (ag (tC (.ty "str")) aq))))) (dJ (bg (gP Ca Ca (tC (.int 1)) (bY Hl (ag (ae 0) aq)) (tC (.int 8))))))
 (aY (tC (.bl false)))
 a9)
 (aY (bY (qP K) (ag (gr (CU (ae 0)) (gP t9 t9 (tC (.str "a")) (ae 0) (tC (.str "z")))) aq))))
theorem yM{K:Fg}{N:List Str}(hN:N.length=1)(h:oj K vs H Q E):nM K (ends Q) (L2.start N vs) H:=by
 obtain⟨w,rfl,⟨asc,w800⟩,k⟩:=h;rw[L2.bx hN];walk_at "t";unfold uC at k
 have no : ¬ (1<=w.cps.size/\w.cps.size<=8)->Q (.bl false) H:=fun z=>by
  have:=k H (Same.refl _)
  rw[decide_eq_false z] at this;exact this
 unfold nM;walk_at "";refine aW (.str w) gH ?_;walk_at "";refine Ij (by rw[szL];show w.cps.size<=_;lia) ?_;have el:w.length=w.cps.size:=rfl;rw[el];walk_at "";refine bt (fun w1=>?_) (fun z=>?_)
 ·walk_at "";refine bT (fun z=>?_) (fun w8=>?_)
  ·walk_at "";exact no (by lia)
  ·rw[decide_eq_true (show 1<=w.cps.size/\w.cps.size<=8 by lia),N7] at k;walk_at "";refine⟨w,rfl,asc,?_⟩;generalize Xs:w.cps.toList.map pf=bs at k;have lb:bs.length=w.cps.size:=by rw[<- Xs,La,Mw]
   refine v5 fun D nD=>⟨fun j H3=>AccZ K H D H3 ((bs.take j).map OZ),AccZ.start (Same.refl _) nD,?_,?_⟩
   ·intro i c H2 hc A;have hi:i<w.cps.size:=(MB.mp hc).1;have eb:bs[i]?=some (pf c):=by rw[<- Xs,Li,MN,hc];rfl
    have fin:=Dm (n:=w.cps.size) (by lia) hi eb A (Same.refl _);unfold pf at fin;walk_at "";refine zY ?_;rw[K6];walk_at "";refine bT (fun z=>?_) (fun z=>?_)
    ·rw[D3] at z;rw[decide_eq_true (show 97<=c by lia),N7] at fin;walk_at "";refine zY ?_;rw[K5]
     have e:(!decide (([122]:List Nat) < [c]))=decide (c<=122):=by
      by_cases q:c<=122
      ·rw[decide_eq_true q,decide_eq_false (by rw[D3];lia)];rfl
      ·rw[decide_eq_false q,decide_eq_true (by rw[D3];lia)];rfl
     have e2:(⟨#[c]⟩:Str).cps.toList=[c]:=rfl;rw[e];exact fin
    ·rw[D3] at z;rw[decide_eq_false (show ¬ 97<=c by lia),Q3] at fin;walk_at "";exact fin
   ·intro H2 A;rw[<- lb,Lq (Lg _)] at A;refine mn (AccZ.bls A) ?_;exact k H2 A.same
 ·walk_at "";exact no (by lia)
def StOk(ws:List Str):Prop:=(1<=ws.length/\ws.length<=5)/\(∀w∈ws,uC w=true)/\ws.Nodup
def gQ(K:Fg)(C:Addr):Sp:=fun vs H Q E=>∃(a:Addr) (ws:List Str),vs=[.ref a]/\(SqL K H a (ws.map V.str)\/H a=some (.tup (ws.map V.str)))/\(∀w∈ws,Plain w)/\ws.length<=20/\(StOk ws->∀(p:Addr) (H':Hp),Same H H'->H' p=some (.tup (ws.map V.str))->Q (.ref p) H')/\(¬ StOk ws->∀H',Same H H'->E (.ref C) none H')
theorem AM:cnt ds<ds.length↔¬ ds.Nodup:=by
 have h1:=AL ds;have h2:=rY ds;constructor
 ·intro z q
  have:=h1.mpr q
  lia
 ·intro z
  have:cnt ds≠ds.length:=fun q=>z (h1.mp q)
  lia
theorem FS{ws:List Str}(h:(ws.map Mp).Nodup):ws.Nodup:=by
 induction ws with
 |nil=>exact Nq
 |cons w ws ih =>
  rw[LX,Me] at h;rw[Me];exact⟨fun z=>h.1 (Ls.mpr ⟨w,z,rfl⟩),ih h.2⟩
def nF(K:Fg)(E:XK)(x:Ex0.Ad):TS:=(av (a6 (dJ (bg (gP Ca Ca (tC (.int 1)) (bY (cE K) (ag (ae 0) aq)) (tC (.int 5)))))
 (eZ E x.c1 (tC (.str "a vessel has one to five stuffs")))
 a9)
 (av (a6 (dJ (tB (bY (qP K) (ag (gr (CV K (ae 0)) (a4 (oj K) [] E0 (ag (ae 0) aq))) aq))))
 (eZ E x.c1 (tC (.str "a stuff is a word of one to eight signs from a to z")))
 a9)
 (av (a6 (bg (aB B_ (nR (Hh K) (ae 0)) (bY (cE K) (ag (ae 0) aq))))
 (eZ E x.c1 (tC (.str "no two stuffs have the same word")))
 a9)
 (aY (bY (dv K) (ag (ae 0) aq))))))
theorem yH{K:Fg}{x:Ex0.Ad}{N:List Str}(hN:N.length=1)(h:gQ K x.c1 vs H Q E):nF K E x (ends Q) (L2.start N vs) H:=by
 obtain⟨a,ws,rfl,hz,pl,w20,k,ke⟩:=h;have ha:SqL K H a (ws.map V.str)\/SqT K H a (ws.map V.str):=hz.imp id SqT.of;rw[L2.bx hN];walk_at "t";have lm:(ws.map V.str).length=ws.length:=La ..;have bad:∀(H':Hp) (m:Str),Same H H'->¬ StOk ws->eZ E x.c1 (tC (.str m)) (ends Q) [some (.ref a)] H':=fun H' m S z=>⟨rfl,ke z H' S⟩
 unfold nF;walk_at "";refine⟨a,_,rfl,ha,?_⟩;rw[lm];walk_at "";refine bt (fun w1=>?_) (fun z=>?_)
 ·walk_at "";refine bT (fun z=>?_) (fun w5=>?_)
  ·exact bad H _ (Same.refl _) fun q=>by have:=q.1;lia
  ·walk_at "";generalize Xs:ws.map uC=bs;have lb:bs.length=(ws.map V.str).length:=by rw[<- Xs,La,La]
   refine v9 ha fun D nD=>⟨fun j H3=>AccZ K H D H3 ((bs.take j).map OZ),AccZ.start (Same.refl _) nD,fun i H2 A=>A.same,?_,?_⟩
   ·intro i y H2 hy A;have hi:i<(ws.map V.str).length:=(Ld.mp hy).1;rw[Li] at hy;obtain⟨w,hw,rfl⟩:=Ln.mp hy;have eb:bs[i]?=some (uC w):=by rw[<- Xs,Li,hw];rfl
    walk_at "";exact⟨w,rfl,pl w (Ll hw),fun H3 S3=>Dm (by lia) hi eb A S3⟩
   ·intro H2 A;rw[<- lb,Lq (Lg _)] at A;walk_at "";refine mn (AccZ.bls A) ?_;cases WX:bs.all id with
    |false =>
     walk_at "";refine bad H2 _ A.same fun q=>?_
     have:bs.all id=true:=by
      rw[<- Xs,MA];intro b hb;obtain⟨w,hw,rfl⟩:=Ls.mp hb;exact q.2.1 w hw
     rw[WX] at this;cases this
    |true =>
     walk_at "";have hc:=rY (ws.map Mp);have XA:=AM (ds:=ws.map Mp);rw[La] at hc XA
     have so : ¬ (cnt (ws.map Mp)<ws.length)->StOk ws:=fun z=>by
      refine⟨⟨by lia,by lia⟩,fun w hw=>?_,FS (Pp fun q=>z (XA.mpr q))⟩;rw[<- Xs,MA] at WX;exact WX _ (Ls.mpr ⟨w,hw,rfl⟩)
     refine pB ?_;walk_at "";rcases hz with hL|hT
     ·have h2:=A.same.seq hL;refine⟨.L,a,ws,rfl,h2,by lia,?_⟩;refine⟨by lia,?_⟩;walk_at "";refine⟨a,_,rfl,.inl h2,?_⟩;rw[lm];walk_at "";refine bt (fun z=>?_) (fun z=>?_)
      ·exact bad H2 _ A.same fun q=>XA.mp (by lia) (DW q.2.2)
      ·walk_at "";refine gg h2 fun p np=>?_
       exact k (so (by lia)) p _ (A.same.trans (ar np _)) am
     ·have h2:SqT K H2 a (ws.map V.str):=SqT.of (A.same _ _ hT);refine⟨.T,a,ws,rfl,h2,by lia,?_⟩;refine⟨by lia,?_⟩;walk_at "";refine⟨a,_,rfl,.inr h2,?_⟩;rw[lm];walk_at "";refine bt (fun z=>?_) (fun z=>?_)
      ·exact bad H2 _ A.same fun q=>XA.mp (by lia) (DW q.2.2)
      ·walk_at "";refine vH h2 ?_;exact k (so (by lia)) a _ A.same (A.same _ _ hT)
 ·walk_at "";exact bad H _ (Same.refl _) fun q=>by have:=q.1;lia
def okN(x:Int):Bool:=decide (0<=x) && decide (x<=3)
def Aq(n:Nat)(h:List Int):Bool:=decide (h.length=n) && (h.map okN).all id
def jt(K:Fg):Sp:=fun vs H Q _=>∃(a:Addr) (h:List Int) (n:Int),vs=[.ref a,.int n]/\(SqL K H a (h.map V.int)\/SqT K H a (h.map V.int))/\h.length<=100/\0<=n/\∀H',Same H H'->Q (.bl (Aq n.toNat h)) H'
def nN(K:Fg):TS:=(av (a6 (xm (dJ (tB (EO K (ae 0)))) (bg (aB A0 (bY (cE K) (ag (ae 0) aq)) (ae 1))))
 (aY (tC (.bl false)))
 a9)
 (aY (bY (qP K) (ag (gr (CV K (ae 0)) (jL (a4 nW [] E0 (ag (ae 0) aq)) (gP Ca Ca (tC (.int 0)) (ae 0) (tC (.int 3))))) aq))))
theorem yN{K:Fg}{N:List Str}(hN:N.length=2)(h:jt K vs H Q E):nN K (ends Q) (L2.start N vs) H:=by
 obtain⟨a,h,n,rfl,ha,h100,n0,k⟩:=h;rw[L2.bx hN];walk_at "t";have lm:(h.map V.int).length=h.length:=La ..;unfold Aq at k;unfold nN;walk_at "";refine⟨a,rfl,ha.imp (fun z=>⟨_,z⟩) (fun z=>⟨_,z⟩),?_⟩;walk_at "";refine⟨a,_,rfl,ha,?_⟩;rw[lm];walk_at "";refine bT (fun z=>?_) (fun z=>?_)
 ·walk_at ""
  have:=k H (Same.refl _)
  rw[decide_eq_false (show ¬ h.length=n.toNat by lia)] at this;exact this
 ·rw[decide_eq_true (show h.length=n.toNat by lia),N7] at k;walk_at "";generalize Xs:h.map okN=bs at k;have lb:bs.length=(h.map V.int).length:=by rw[<- Xs,La,La]
  refine v9 ha fun D nD=>⟨fun j H3=>AccZ K H D H3 ((bs.take j).map OZ),AccZ.start (Same.refl _) nD,fun i H2 A=>A.same,?_,?_⟩
  ·intro i y H2 hy A;have hi:i<(h.map V.int).length:=(Ld.mp hy).1;rw[Li] at hy;obtain⟨m,hm,rfl⟩:=Ln.mp hy;have eb:bs[i]?=some (okN m):=by rw[<- Xs,Li,hm];rfl
   have fin:=Dm (K:=K) (H0:=H) (by lia) hi eb A (Same.refl _);unfold okN at fin;walk_at "";refine⟨m,rfl,?_⟩;walk_at "";refine bt (fun z=>?_) (fun z=>?_)
   ·rw[decide_eq_true z,N7] at fin;walk_at "";exact fin
   ·rw[decide_eq_false z,Q3] at fin;walk_at "";exact fin
  ·intro H2 A;rw[<- lb,Lq (Lg _)] at A;refine mn (AccZ.bls A) ?_;exact k H2 A.same
theorem HG{ts:List Tn}(h:(ts.map dE).Nodup):(ts.map cy).Nodup:=by
 induction ts with
 |nil=>exact Nq
 |cons t ts ih =>
  rw[LX,Me] at h;rw[LX,Me];refine⟨fun z=>h.1 ?_,ih h.2⟩;obtain⟨u,hu,e⟩:=Ls.mp z;refine Ls.mpr ⟨u,hu,?_⟩;have e1:u.fr=t.fr:=congrArg Prod.fst e;have e2:u.to=t.to:=congrArg Prod.snd e;unfold dE;rw[e1,e2]
def oy(K:Fg)(C:Addr):Sp:=fun vs H Q E=>∃(v:V) (ts:List Tn),vs=[v]/\Rz K H v (.tuple (ts.map dT))/\ts.length<=12/\(ga ts->∀H',Same H H'->Q .non H')/\(¬ ga ts->∀H',Same H H'->E (.ref C) none H')
def tu(K:Fg)(E:XK)(x:Ex0.Ad):TS:=(av (a6 (dJ (bg (gP Ca Ca (tC (.int 1)) (bY (cE K) (ag (ae 0) aq)) (tC (.int 8)))))
 (eZ E x.c4 (tC (.str "a vessel has one to eight turnings")))
 a9)
 (av (a6 (tB (bY (Fq K) (ag (gr (kK K (ae 0)) (aB (ua K) (aB (bh K) (ae 0) (tC (.int 0))) (aB (bh K) (ae 0) (tC (.int 1))))) aq)))
 (eZ E x.c4 (tC (.str "a turning leads to another heap")))
 a9)
 (av (a6 (bg (aB B_ (nR (Hi K) (gr (kK K (ae 0)) (tw (j6 K) (ae 0) dh (fh (tC (.int 2)))))) (bY (cE K) (ag (ae 0) aq))))
 (eZ E x.c4 (tC (.str "no two turnings have the same from and the same to")))
 a9)
 (a6 (bg (aB GR (bY (cE K) (ag (a4 (jQ K) [] E0 (ag (ae 0) aq)) aq)) (tC (.int 8))))
 (eZ E x.c4 (tC (.str "a vessel has at most eight unlike heaps")))
 a9))))
theorem BY{K:Fg}{x:Ex0.Ad}{N:List Str}(hN:N.length=1)(h:oy K x.c4 vs H Q E):tu K E x (ends Q) (L2.start N vs) H:=by
 obtain⟨v,ts,rfl,rv,YL,k,ke⟩:=h;obtain⟨a,xs,rfl,ha,rx⟩:=rv.cC;have lx:xs.length=ts.length:=by rw[rx.length,La]
 rw[L2.bx hN];walk_at "t";have bad:∀(H':Hp) (m:Str),Same H H'->¬ ga ts->eZ E x.c4 (tC (.str m)) (ends Q) [some (.ref a)] H':=fun H' m S z=>⟨rfl,ke z H' S⟩
 unfold tu;walk_at "";refine kG (SqT.of ha) ?_;walk_at "";refine bt (fun t1=>?_) (fun z=>by walk_at "";exact bad H _ (Same.refl _) fun q=>by have:=q.1;lia);walk_at "";refine bT (fun z=>bad H _ (Same.refl _) fun q=>by have:=q.2.1;lia) (fun t8=>?_);walk_at "";refine FZ (SqT.of ha) ?_;generalize Xs:ts.map (fun t=>decide (t.fr=t.to))=bs;have lb:bs.length=xs.length:=by rw[<- Xs,La,lx]
 refine fY (xs:=xs) fun D nD=>⟨fun j H3=>AccZ K H D H3 ((bs.take j).map OZ),AccZ.start (Same.refl _) nD,fun i H2 _ A=>SqT.of (A.same _ _ ha),?_,?_⟩
 ·intro i z H2 hz A;obtain⟨dd,g1,g2⟩:=rx.get hz;rw[Li] at g1;obtain⟨t,ht,rfl⟩:=Ln.mp g1;have li:i<xs.length:=(Ld.mp hz).1;have eb:bs[i]?=some (decide (t.fr=t.to)):=by rw[<- Xs,Li,ht];rfl
  have fin:=Dm (K:=K) (H0:=H) (n:=xs.length) (by lia) li eb A (Same.refl _);obtain⟨b,v1,v2,v3,rfl,hb,r1,r2,_⟩:=ib (g2.same A.same);walk_at "";refine bn (SqT.of hb) (v:=v1) rfl ?_;walk_at "";refine bn (SqT.of hb) (v:=v2) rfl ?_;refine z_ r1.rep r2.rep (f9 _ 7) (f9 _ 7) (fun z=>?_) (fun z=>?_)
  ·rw[decide_eq_true (gh z)] at fin;exact fin
  ·rw[decide_eq_false (fun q=>z (by rw[q]))] at fin;exact fin
 intro H2 A;rw[<- lb,Lq (Lg _)] at A;walk_at "";refine Kv (AccZ.bls A) ?_;have YA:=A.same _ _ ha;have rx2:=rx.same A.same;cases Ym:bs.any id with
 |true =>
  walk_at "";refine bad H2 _ A.same fun q=>?_
  rw[<- Xs,RS] at Ym;obtain⟨b,hb,e⟩:=Ym;obtain⟨t,ht,rfl⟩:=Ls.mp hb;exact q.2.2.2.1 t ht (of_decide_eq_true e)
 |false =>
  have ne:∀t∈ts,t.fr≠t.to:=fun t ht e=>by
   rw[<- Xs,UF] at Ym;exact Ym _ (Ls.mpr ⟨t,ht,rfl⟩) (decide_eq_true e)
  walk_at "";refine pB ?_;walk_at "";refine FZ (SqT.of YA) ?_;refine fY (xs:=xs) fun D' nD'=>⟨fun j H3=>AccZ K H2 D' H3 ((ts.take j).map dE),AccZ.start (Same.refl _) nD',fun i H3 _ B=>SqT.of (B.same _ _ YA),?_,?_⟩
  ·intro i z H3 hz B;obtain⟨dd,g1,g2⟩:=rx2.get hz;rw[Li] at g1;obtain⟨t,ht,rfl⟩:=Ln.mp g1;have li:i<ts.length:=(Ld.mp ht).1;obtain⟨b,v1,v2,v3,rfl,hb,r1,r2,_⟩:=ib (g2.same B.same);walk_at "";refine zW (SqT.of hb) (by show ¬ (HT.sIx 3 0 none=0/\HT.sIx 3 3 (some 2)=3);decide) fun p np=>?_
   have S4:=ar np (.tup (f_ [v1,v2,v3] none (some 2)));have r4:Rz K (upd H3 p (.tup (f_ [v1,v2,v3] none (some 2)))) (.ref p) (dE t):=.tup (xs:=[v1,v2]) am (.cons (r1.same S4) (.cons (r2.same S4) .nil));refine cA (by lia) ((B.on S4).gz r4 (aU ?_) fun H5 B5=>?_)
   ·rw[La,LG];lia
   ·show AccZ K H2 D' H5 ((ts.take (i+1)).map dE);rw[LU,ht,LD];exact B5
  intro H3 B;rw[lx,Lq (Lg _)] at B;obtain⟨ys,hD,ry⟩:=B.at_;refine⟨.L,D',ys,ts.map dE,rfl,SqL.of hD,ry.rep,?_,by rw[La];lia,?_⟩
  ·intro d hd;obtain⟨t,_,rfl⟩:=Ls.mp hd;exact Eh t
  have hc:=rY (ts.map dE);have XA:=AM (ds:=ts.map dE);rw[La] at hc XA;refine⟨by lia,?_⟩;have S03:=A.same.trans B.same;walk_at "";refine kG (SqT.of (S03 _ _ ha)) ?_;rw[lx];walk_at "";refine bt (fun z=>bad H3 _ S03 fun q=>XA.mp (by lia) (HH q.2.2.1)) (fun z=>?_);have nd:(ts.map cy).Nodup:=HG (Pp fun q=>z (by have:=XA.mpr q;lia));walk_at "";refine⟨.ref a,ts,rfl,rv.same S03,by lia,fun p H4 C=>?_⟩;obtain⟨zs,hp,lz,_⟩:=C.sq;rw[La] at lz;walk_at "";refine dO hp ?_;walk_at "";refine bt (fun z=>bad H4 _ (S03.trans C.same) fun q=>by have:=q.2.2.2.2;lia) (fun z=>?_);walk_at "";exact k ⟨by lia,by lia,nd,ne,by lia⟩ H4 (S03.trans C.same)
end Nv
namespace L2
open PySem PySem.Spec PyProof.Rows
def yW(_:Fg):R2:=fun x y H Q=>∃a b xs ys,x=.ref a/\y=.ref b/\H a=some (.tup xs)/\H b=some (.tup ys)/\xs.length+ys.length<=sizeLine/\∀(l:Addr) (H':Hp),Same H H'->H' l=some (.tup (xs++ys))->Q (.ref l) H'
section
variable{X:Cx}
theorem oW:fq X (binaryOp .Add) (yW X.K):=by
 intro pins s σ H x y v u Q I rx ry h;obtain⟨a,b,xs,ys,rfl,rfl,ha,hb,hz,q⟩:=h;by_cases hx:xs=[]
 ·cases rx;cases ry;obtain⟨fm,r1,p1,_⟩:=I.tuple (SqT.of ha);obtain⟨X0,r2,p2,_⟩:=I.tuple (SqT.of hb);have e0:fm=[]:=r1.o9.mpr hx;obtain⟨⟨cls,dd,data,sl⟩,ho,hc,n,hd⟩:=id p1;obtain⟨⟨cls2,dd2,data2,sl2⟩,Y5,XA,n2,hd2⟩:=id p2;simp only at hc hd XA hd2;subst hc hd XA hd2;exact UP ⟨_,ho,rfl⟩ ⟨_,Y5,rfl⟩ RN T9 P9 PU (Px _ _) (tuple_addW0 a b fm.toArray X0.toArray n n2 dd dd2 sl sl2 (by simp[e0])) ⟨ho,Y5,⟨.ref b,H,I,rfl,q b H (Same.refl _) (by rw[hx,PC];exact hb)⟩⟩
 ·exact FH pins s σ H _ _ v u Q I rx ry ⟨a,b,xs,ys,rfl,rfl,SqT.of ha,SqT.of hb,hx,hz,fun e=>q a H (Same.refl _) (by rw[e,Nb];exact ha),fun _ p np=>q p _ (ar np _) am⟩
end
end L2
namespace Nv
open PySem L2 Fr G1 Sm Vs
open PySem.W (Dat kqdOk kqdP kqdPs)
theorem Cd{w:Str}(h:∀c∈w.cps.toList,c<128)(l:w.cps.size<=800):Plain w:=by
 refine⟨?_,l⟩;rw[MI];intro c hc;exact decide_eq_true (h c (by simpa using hc))
theorem wf(h:wb w):Plain w:=Cd (fun c hc=>by have:=h.2.2 c hc;lia) (by have:w.cps.size<=8:=h.2.1;lia)
theorem GW(h:wb w):uC w=true:=by
 unfold uC;have h1:1<=w.cps.size:=h.1;have h8:w.cps.size<=8:=h.2.1;rw[decide_eq_true ⟨h1,h8⟩,N7,MA];intro b hb;obtain⟨c,hc,rfl⟩:=Ls.mp hb
 have:=h.2.2 c hc
 show(decide (97<=c) && decide (c<=122))=true;rw[decide_eq_true this.1,decide_eq_true this.2];rfl
theorem JA(h:eX ws)(w1:1<=ws.length)(w5:ws.length<=5):StOk ws:=⟨⟨w1,w5⟩,fun w hw=>GW (h.2 w hw),h.1⟩
theorem vY{k:Int}(h0:0<=k):f_ xs none (some k)=xs.take k.toNat:=by
 have e:k=((k.toNat:Nat):Int):=by lia
 unfold f_;rw[HT.vk,Tb];generalize hk:k.toNat=m at e;rw[e,HT.iF,Nat.sub_zero];by_cases q:m<=xs.length
 ·rw[Ol q]
 ·rw[N_ (by lia),Lq (Lg _),Lq (by lia)]
theorem v0{k:Int}(h0:0<=k):f_ xs (some k) none=xs.drop k.toNat:=by
 have e:k=((k.toNat:Nat):Int):=by lia
 unfold f_;rw[HT.vk];generalize hk:k.toNat=m at e;rw[e,HT.iF];by_cases q:m<=xs.length
 ·rw[Ol q,Lq (by rw[MR];exact Lg _)]
 ·rw[N_ (by lia),Ng (Lg _),Ng (by lia),List.take_nil]
end Nv
namespace Lk
end Lk
namespace Mb
end Mb
namespace Lc
end Lc
namespace Wd
open PySem L2 Fr G1 Sm Vs Dn Rk
open PySem.W (Dat kqdOk)
def yk(K:Fg):Sp:=fun vs H Q _=>∃(v w:V) (t:Tn) (c:List Int),vs=[v,w]/\Rz K H v (dT t)/\Rz K H w (dI c)/\t.fr.length<=100/\∀H',Same H H'->Q (.bl (AQ (pr t) c)) H'
def xW(K:Fg):TS:=(aY (bY (qP K) (ag (jK (Ak K .T .T (ag (aB (bh K) (ae 0) (tC (.int 0))) (ag (ae 1) aq))) 2 (pL K 2 (fK (aH 0) (fK (aH 1) pM))) (aB Ca (ae 0) (ae 1))) aq)))
theorem Fj{K:Fg}{N:List Str}(hN:N.length=2)(h:yk K vs H Q E):xW K (ends Q) (L2.start N vs) H:=by
 obtain⟨v,w,t,c,rfl,rv,Zg,hl,k⟩:=h;obtain⟨a,w1,w2,w3,rfl,ha,q1,q2,_⟩:=ib rv;obtain⟨b,rfl,hb⟩:=eL Zg;obtain⟨f,rfl,hf⟩:=eL q1;rw[L2.bx hN];walk_at "t";unfold xW;have lz:(Ob t.fr c).length=min t.fr.length c.length:=Om;walk_at "";refine bn (SqT.of ha) (v:=.ref f) rfl ?_;walk_at "";refine⟨f,b,_,_,rfl,SqT.of hf,SqT.of hb,?_⟩;have ml:min (t.fr.map V.int).length (c.map V.int).length=(Ob t.fr c).length:=by rw[La,La,lz]
 refine v4 (xs:=t.fr.map V.int) (ys:=c.map V.int) fun D nD=>⟨fun i H2=>AccZ K H D H2 ((((Ob t.fr c).take i).map fun z=>decide (z.1<=z.2)).map OZ),by simpa using AccZ.start (Same.refl _) nD,fun i H2 _ A=>⟨SqT.of (A.same _ _ hf),SqT.of (A.same _ _ hb)⟩,?_,?_⟩
 ·intro i x y H2 T e1 e2 A nT us hu
  obtain⟨u1,u2',rfl⟩:∃u0 u1,us=[u0,u1]:=by
   match us,hu with
   |[u0,u1],_=>exact⟨u0,u1,rfl⟩
  rw[Li] at e1 e2;obtain⟨m1,f1,rfl⟩:=Ln.mp e1;obtain⟨m2,f2,rfl⟩:=Ln.mp e2;have ez:(Ob t.fr c)[i]?=some (m1,m2):=by rw[MU];exact⟨f1,f2⟩
  have li:i<(Ob t.fr c).length:=(Ld.mp ez).1;refine kH (SqT.of am) rfl ?_;walk_at "";refine⟨⟨[some (.int m1),some (.int m2)],rfl,rfl⟩,?_⟩;walk_at "";refine cA (by rw[ml];exact li) ?_;refine(A.on (ar nT _)).gz (.bl (decide (m1<=m2))) (aU (by rw[La,La,LG];lia)) fun H4 A4=>?_
  show AccZ K H D H4 ((((Ob t.fr c).take (i+1)).map fun z=>decide (z.1<=z.2)).map OZ);rw[LU,ez,LD,LD];exact A4
 ·intro H2 A;rw[ml,Lq (Lg _)] at A;walk_at "";refine mn A.bls ?_;have e:((Ob t.fr c).map fun z=>decide (z.1<=z.2)).all id=AQ (pr t) c:=by unfold AQ;rw[List.all_map];rfl
  rw[e];exact k H2 A.same
def yj(K:Fg):Sp:=fun vs H Q _=>∃(v w:V) (t:Tn) (c:List Int),vs=[v,w]/\Rz K H v (dT t)/\Rz K H w (dI c)/\t.fr.length=c.length/\t.to.length=c.length/\c.length<=100/\∀(p:Addr) (H':Hp),Same H H'->Rz K H' (.ref p) (dI (xf (pr t) c))->Q (.ref p) H'
theorem Ek{t:Tn}{c:List Int}{i:Nat}{m1 m2 m3:Int}(f1:t.fr[i]?=some m1)(f2:t.to[i]?=some m2)(f3:c[i]?=some m3):(xf (pr t) c)[i]?=some (m3-m1+m2):=by
 have li:i<c.length:=(Ld.mp f3).1;unfold xf;rw[Li,TW li];show some (pt c i-pt t.fr i+pt t.to i)=_;unfold pt;rw[Mm,f3,Mm,f1,Mm,f2];rfl
theorem Gz(t:Tp)(c:List Int):(xf t c).length=c.length:=by unfold xf;rw[La,Rs]
def xU(K:Fg):TS:=(aY (bY (dv K) (ag (jK (Gg K (ag (ae 1) (ag (aB (bh K) (ae 0) (tC (.int 0))) (ag (aB (bh K) (ae 0) (tC (.int 1))) aq)))) 3 (pL K 3 (fK (aH 0) (fK (aH 1) (fK (aH 2) pM)))) (aB cT (aB Cc (ae 0) (ae 1)) (ae 2))) aq)))
theorem Fh{K:Fg}{N:List Str}(hN:N.length=2)(h:yj K vs H Q E):xU K (ends Q) (L2.start N vs) H:=by
 obtain⟨v,w,t,c,rfl,rv,Zg,l1,l2,hl,k⟩:=h;obtain⟨a,w1,w2,w3,rfl,ha,q1,q2,_⟩:=ib rv;obtain⟨b,rfl,hb⟩:=eL Zg;obtain⟨f,rfl,hf⟩:=eL q1;obtain⟨g,rfl,hg⟩:=eL q2;rw[L2.bx hN];walk_at "t";unfold xU;have lb:=Gz (pr t) c;walk_at "";refine HZ ?_;walk_at "";refine bn (SqT.of ha) (v:=.ref f) rfl ?_;walk_at "";refine bn (SqT.of ha) (v:=.ref g) rfl ?_;walk_at "";refine⟨b,f,g,_,_,_,rfl,SqT.of hb,SqT.of hf,SqT.of hg,?_⟩;refine AH (xs:=c.map V.int) (ys:=t.fr.map V.int) (zs:=t.to.map V.int) (m:=c.length) (La _) (by rw[La];exact l1) (by rw[La];exact l2) fun D nD=>⟨fun i H2=>AccZ K H D H2 (((xf (pr t) c).take i).map NG),by simpa using AccZ.start (Same.refl _) nD,fun i H2 _ A=>⟨SqT.of (A.same _ _ hb),SqT.of (A.same _ _ hf),SqT.of (A.same _ _ hg)⟩,?_,?_⟩
 ·intro i x y u H2 T e1 e2 e3 A nT us hu
  obtain⟨u1,u2,u3,rfl⟩:∃u0 u1 u2,us=[u0,u1,u2]:=by
   match us,hu with
   |[u0,u1,u2],_=>exact⟨u0,u1,u2,rfl⟩
  rw[Li] at e1 e2 e3;obtain⟨m1,f1,rfl⟩:=Ln.mp e1;obtain⟨m2,f2,rfl⟩:=Ln.mp e2;obtain⟨m3,f3,rfl⟩:=Ln.mp e3;have li:i<c.length:=(Ld.mp f1).1;have ec:=Ek f2 f3 f1;refine kH (SqT.of am) rfl ?_;walk_at "";refine⟨⟨[some (.int m1),some (.int m2),some (.int m3)],rfl,rfl⟩,?_⟩;walk_at "";refine cA li ?_;refine(A.on (ar nT _)).gz (.int _) (aU (by rw[La,LG];lia)) fun H4 A4=>?_
  show AccZ K H D H4 (((xf (pr t) c).take (i+1)).map NG);rw[LU,ec,LD];exact A4
 ·intro H2 A;rw[Lq (by lia)] at A;walk_at "";refine gg (SqL.of (AccZ.ints A)) fun p np=>?_
  exact k p _ (A.same.trans (ar np _)) (.tup am (RpL.ints _))
def xP (K:Fg):TS:=(av (dL (x6 K (ag (ae 0) (ag (xo [(tC (.str "the turning at place ")),(tD (ae 1)),(tC (.str " of the row cannot be made"))] Mj) aq))))
 (Hc K (ae 0) (ae 1) "at"))
theorem IB{n:Nat}(h:n<1000):(a8 (n:Int)).length<=11:=OC (by lia) (by decide) (by lia)
theorem HK{n:Nat}(h:n<1000):((n:Int).natAbs).log2<1920:=by
 rw[Int.natAbs_natCast];by_cases z:n=0
 ·subst z;decide
 ·have:=(VD z (k:=10)).mpr (by lia)
  lia
theorem Fc{K:Fg}  {vs:List V}    {N:List Str} (hN:N.length=2) (h:qm K C "at" vs H Q E):xP K (ends Q) (L2.start N vs) H:=by
 obtain⟨e,n,rfl,hn,he,hS,hF,k⟩:=h;rw[L2.bx hN];walk_at "t";have hi:=IB hn;have hs:(1000:Nat)<=sizeLine:=by decide
 unfold xP;walk_at "";unfold x6;walk_at "";refine g9 (by decide) ?_;walk_at "";refine⟨HK hn,?_⟩
 have l1:(Mj++M8 "the turning at place " ++ a8 (n:Int)).length<=100:=by
  rw[LY,show(Mj++M8 "the turning at place ").length=21 by decide +kernel];lia
 refine g9 (by lia) ?_;walk_at "";refine g9 (by rw[LY,show(M8 " of the row cannot be made").length=26 by decide +kernel];lia) ?_;walk_at "";refine⟨e,C,none,_,rfl,he,hS,?_⟩;exact⟨_,rfl,_,rfl,e,C,rfl,he,hF,k⟩
end Wd
namespace Tw
open PySem L2 Fr G1 Sm Vs
open PySem.W (Dat kqdOk)
def bJ (w:Str) (n:Int):Str:=if n=1 then w else Mj++a8 n ++ " " ++ w
def bf(ws:List Str)(h:List Int):List Str:=(ws.zip h).filterMap fun p=>if 0<p.2 then some (bJ p.1 p.2) else none
def bH (ws:List Str) (h:List Int):Str:=if bf ws h=[] then "0" else UV " + " (bf ws h)
def bI (q d:Int):Str:=if d=1 then a8 q else Mj++a8 q ++ "/" ++ a8 d
def turnT (ws:List Str) (t:Tn):Str:=Mj++bH ws t.fr ++ " -> " ++ bH ws t.to ++ " @ " ++ bI t.q t.d
theorem eJ{i:Int}(h0:0<=i)(h1:i<=10000000000):i.natAbs.log2<1920:=by
 by_cases z:i.natAbs=0
 ·rw[z];decide
 ·exact(VD z).mpr (LR (show i.natAbs<2 ^ 34 by lia) (Pb (by decide) (by decide)))
theorem d8{i:Int}(h0:0<=i)(h1:i<=10000000000):(a8 i).length<=11:=OC h0 (by decide) (by lia)
theorem Kz:Mj++a8 2 ++ " "=("2 ":Str):=by decide +kernel
theorem Ky:Mj++a8 3 ++ " "=("3 ":Str):=by decide +kernel
theorem HN:(("2 ":Str)).length=2:=by decide +kernel
theorem HM:(("3 ":Str)).length=2:=by decide +kernel
theorem HL:((" + ":Str)).length=3:=by decide +kernel
theorem ph:((" -> ":Str)).length=4:=by decide +kernel
theorem zL:((" @ ":Str)).length=3:=by decide +kernel
theorem zH:(("/":Str)).length=1:=by decide +kernel
theorem HP:((" ":Str)).length=1:=by decide +kernel
theorem JQ:(("0":Str)).length=1:=by decide +kernel
theorem kx:Mj.length=0:=by decide +kernel
theorem szL:sizeLine=16777216:=by decide
theorem i0(w:Str):bJ w 1=w:=if_pos rfl
theorem jN(w:Str):bJ w 2=("2 ":Str)++w:=by unfold bJ;rw[if_neg (by decide),Kz]
theorem jM(w:Str):bJ w 3=("3 ":Str)++w:=by unfold bJ;rw[if_neg (by decide),Ky]
theorem three{n:Int}(h0:0<n)(h3:n<=3):n=1\/n=2\/n=3:=by lia
theorem lW{w:Str}{n:Int}(hw:w.length<=8)(h0:0<n)(h3:n<=3):(bJ w n).length<=10:=by
 rcases three h0 h3 with rfl|rfl|rfl
 ·rw[i0];lia
 ·rw[jN,LK,HN];lia
 ·rw[jM,LK,HM];lia
def WsOk(ws:List Str):Prop:=ws.length<=5/\∀w∈ws,w.length<=8/\NR w=true
theorem qk(h1:NR a=true)(h2:NR b=true):NR (a++b)=true:=by
 unfold NR at *;show(a.cps++b.cps).all _=true;rw[Array.all_append,h1,h2];rfl
theorem x8{n:Int}(hw:NR w=true)(h0:0<n)(h3:n<=3):NR (bJ w n)=true:=by
 rcases three h0 h3 with rfl|rfl|rfl
 ·rw[i0];exact hw
 ·rw[jN];exact qk (by decide +kernel) hw
 ·rw[jM];exact qk (by decide +kernel) hw
theorem iH{h:List Int}(ow:WsOk ws)(oh:∀x∈h,0<=x/\x<=3){p:Str}(m:p∈bf ws h):p.length<=10/\NR p=true:=by
 obtain⟨q,hq,e⟩:=M9.mp m;obtain⟨m1,m2⟩:=NF (a:=q.1) (b:=q.2) hq;by_cases z:0<q.2
 ·rw[if_pos z] at e;cases LF e;exact⟨lW (ow.2 _ m1).1 z (oh _ m2).2,x8 (ow.2 _ m1).2 z (oh _ m2).2⟩
 ·rw[if_neg z] at e;cases e
theorem fX:(bf ws h).length<=ws.length:=by
 refine Mh (List.length_filterMap_le _ _) ?_;rw[Om];lia
theorem DH{l:List Str}(h:∀p∈l,p.length<=10):(l.map (·.length)).sum<=10*l.length:=by
 induction l with
 |nil=>simp
 |cons a r ih =>
  have h1:=h a Lz;have h2:=ih fun p hp=>h p (Ly _ hp)
  simp only[LX,List.sum_cons,L0];lia
theorem dR{h:List Int}(ow:WsOk ws)(oh:∀x∈h,0<=x/\x<=3):(bH ws h).length<=65:=by
 unfold bH;split
 ·rw[JQ];lia
 ·show(PySem.Builtin.Str.glued _ _).length<=65;rw[SS];have h1:=StrLaws.join_length_le " + " (bf ws h);have h2:=DH fun p hp=>(iH ow oh hp).1
  have h3:=fX (ws:=ws) (h:=h);have h4:=ow.1;rw[HL] at h1;lia
theorem g7(p:ie q d):(bI q d).length<=23:=by
 have h1:=d8 (i:=q) (by have:=p.1;lia) p.2.2.2.1;have h2:=d8 (i:=d) (by have:=p.2.1;lia) p.2.2.2.2;unfold bI;split
 ·lia
 ·rw[NP,LK,LK,zH];lia
theorem j_{ws:List Str}{h:List Int}{i:Nat}{w:Str}{n:Int}(e1:ws[i]?=some w)(e2:h[i]?=some n):bf (ws.take (i+1)) (h.take (i+1))=bf (ws.take i) (h.take i)++(if 0<n then [bJ w n] else []):=by
 have l1:=(Ld.mp e1).1;have l2:=(Ld.mp e2).1;unfold bf;rw[LU,LU,e1,e2,V5,V5,List.zip_append (by rw[LG,LG];lia),List.filterMap_append];congr 1;by_cases z:0<n
 ·simp[z]
 ·simp[z]
def n_:Sp:=fun vs H Q _=>∃(w:Str) (n:Int),vs=[.str w,.int n]/\w.length<=8/\0<n/\n<=3/\Q (.str (bJ w n)) H
def nG(K:Fg):TS:=(av (a6 (bg (aB fw (ae 1) (tC (.int 1))))
 (aY (ae 0))
 a9)
 (aY (xo [(tD (ae 1)),(tC (.str " ")),(wn (ae 0))] Mj)))
theorem yI{K:Fg}{N:List Str}(hN:N.length=2)(h:n_ vs H Q E):nG K (ends Q) (L2.start N vs) H:=by
 obtain⟨w,n,rfl,hw,h0,h3,k⟩:=h;rw[L2.bx hN];walk_at "t";have ln:=d8 (i:=n) (by lia) (by lia);unfold nG;walk_at "";refine bt (fun z=>?_) (fun z=>?_)
 ·walk_at "";subst z;rw[i0] at k;exact k
 ·walk_at "";refine⟨(eJ (i:=n) (by lia) (by lia)),?_⟩;refine g9 (by rw[LK,kx,szL];lia) ?_;walk_at "";refine g9 (by rw[LK,LK,kx,HP,szL];lia) ?_;walk_at "";refine CP (by rw[szL];lia) ?_;refine g9 (by rw[LK,LK,LK,kx,HP,szL];lia) ?_;walk_at "";unfold bJ at k;rw[if_neg z] at k;exact k
def oo(K:Fg):Sp:=fun vs H Q _=>∃(v1 v2:V) (ws:List Str) (h:List Int),vs=[v1,v2]/\Rz K H v1 (.tuple (ws.map Mp))/\Rz K H v2 (dI h)/\WsOk ws/\ba ws.length h/\∀H',Same H H'->Q (.str (bH ws h)) H'
theorem IP{K:Fg}{ws:List Str}(h:Rz K H v (.tuple (ws.map Mp))):∃a:Addr,v=.ref a/\H a=some (.tup (ws.map V.str)):=by
 obtain⟨a,xs,e,ha,r⟩:=h.cC;cases RpL.gt r;exact⟨a,e,ha⟩
theorem me(p:(bf ws h)=[]):bH ws h = "0":=if_pos p
theorem kI(p:(bf ws h)≠[]):bH ws h=UV " + " (bf ws h):=if_neg p
theorem rS{h:List Int} (ow:WsOk ws) (oh:∀x∈h,0<=x/\x<=3):((bf ws h).map (·.length)).sum+(bf ws h).length*((" + ":Str)).length<=16777216:=by
 have h2:=DH fun p hp=>(iH ow oh hp).1
 have h3:=fX (ws:=ws) (h:=h);have h4:=ow.1;rw[HL];lia
def sW(K:Fg):TS:=(av (aR (qh (Ak K .T .T (ag (ae 0) (ag (ae 1) aq))) 2 (pL K 2 (fK (aH 0) (fK (aH 1) pM))) (bg (aB GR (ae 1) (tC (.int 0)))) (a4 n_ [] E0 (ag (ae 0) (ag (ae 1) aq)))) (aH 2))
 (av (a6 (bg (aB fw (bY (cE K) (ag (ae 2) aq)) (tC (.int 0))))
 (aY (tC (.str "0")))
 a9)
 (aY (lg K "str" (vq K) (tC (.str " + ")) (ag (ae 2) aq)))))
theorem BR{K:Fg}{N:List Str}(hN:N.length=3)(h:oo K vs H Q E):sW K (ends Q) (L2.start N vs) H:=by
 obtain⟨v1,v2,ws,h,rfl,r1,r2,ow,oh,k⟩:=h;obtain⟨a,rfl,ha⟩:=IP r1;obtain⟨b,rfl,hb⟩:=eL r2;rw[L2.bx hN];walk_at "t";unfold sW;walk_at "";refine⟨a,b,_,_,rfl,SqT.of ha,SqT.of hb,?_⟩;refine AK (xs:=ws.map V.str) (ys:=h.map V.int) fun D nD=>?_
 have ml:min (ws.map V.str).length (h.map V.int).length=ws.length:=by rw[La,La,oh.1,Nat.min_self]
 refine⟨fun i H2=>AccZ K H D H2 ((bf (ws.take i) (h.take i)).map Mp),AccZ.start (Same.refl _) nD,fun i H2 _ A=>⟨SqT.of (A.same _ _ ha),SqT.of (A.same _ _ hb)⟩,?_,?_⟩
 ·intro i y1 y2 H2 T e1 e2 A nT us hu
  obtain⟨u0,u1,rfl⟩:∃u0 u1,us=[u0,u1]:=by
   match us,hu with
   |[u0,u1],_=>exact⟨u0,u1,rfl⟩
  rw[Li] at e1 e2;obtain⟨w,f1,rfl⟩:=Ln.mp e1;obtain⟨n,f2,rfl⟩:=Ln.mp e2;have li:i<ws.length:=(Ld.mp f1).1;have sn:=j_ f1 f2;have on:=oh.2 n (Ll f2);have lw:=(ow.2 w (Ll f1)).1;refine kH (SqT.of am) rfl ?_;walk_at "";refine⟨⟨[some (.str w),some (.int n)],rfl,rfl⟩,?_⟩;walk_at "";refine bt (fun z=>?_) (fun z=>?_)
  ·walk_at "";refine⟨w,n,rfl,lw,z,on.2,?_⟩;refine cA (by rw[ml];exact li) ?_;refine(A.on (ar nT _)).gz (.str (bJ w n)) (aU ?_) fun H4 A4=>?_
   ·rw[La]
    have:=fX (ws:=ws.take i) (h:=h.take i)
    rw[LG] at this
    have:=ow.1
    lia
   ·show AccZ K H D H4 ((bf (ws.take (i+1)) (h.take (i+1))).map Mp);rw[sn,if_pos z,LD];exact A4
  ·refine oC (by rw[ml];exact li) ?_;show AccZ K H D _ ((bf (ws.take (i+1)) (h.take (i+1))).map Mp);rw[sn,if_neg z,Nb];exact A.on (ar nT _)
 ·intro H2 A;rw[ml,Lq (Lg _),Lq (by rw[oh.1];exact Lg _)] at A;have hD:=AccZ.strs A;walk_at "";refine dO (SqL.of hD) ?_;walk_at "";refine bt (fun z=>?_) (fun z=>?_)
  ·walk_at "";have p:bf ws h=[]:=OH.mp (by rw[La] at z;lia);rw[me p] at k;exact k H2 A.same
  ·walk_at "";have p:bf ws h≠[]:=fun q=>z (by rw[q];rfl)
   rw[kI p] at k;refine⟨rfl,?_⟩;walk_at "";exact D_ (SqL.of hD) (rS ow oh.2) (k H2 A.same)
def tI(K:Fg):Sp:=fun vs H Q _=>∃(v:V) (q d:Int),vs=[v]/\Rz K H v (dI [q,d])/\ie q d/\Q (.str (bI q d)) H
def sR(K:Fg):TS:=(av (aR (aB (bh K) (ae 0) (tC (.int 0))) (aH 1))
 (av (aR (aB (bh K) (ae 0) (tC (.int 1))) (aH 2))
 (av (a6 (bg (aB fw (ae 2) (tC (.int 1))))
 (aY (tD (ae 1)))
 a9)
 (aY (xo [(tD (ae 1)),(tC (.str "/")),(tD (ae 2))] Mj)))))
theorem BM{K:Fg}{N:List Str}(hN:N.length=3)(h:tI K vs H Q E):sR K (ends Q) (L2.start N vs) H:=by
 obtain⟨v,q,d,rfl,r,p,k⟩:=h;obtain⟨a,rfl,ha⟩:=eL r;rw[L2.bx hN];walk_at "t";have q0:=p.1;have d0:=p.2.1;have q1:=p.2.2.2.1;have d1:=p.2.2.2.2;have lq:=d8 (i:=q) (by lia) (by lia);have ld:=d8 (i:=d) (by lia) (by lia);unfold sR;walk_at "";refine bn (SqT.of ha) (v:=.int q) rfl ?_;walk_at "";refine bn (SqT.of ha) (v:=.int d) rfl ?_;walk_at "";unfold bI at k;refine bt (fun z=>?_) (fun z=>?_)
 ·rw[if_pos z] at k;walk_at "";exact⟨(eJ (i:=q) (by lia) (by lia)),k⟩
 ·rw[if_neg z] at k;walk_at "";refine⟨(eJ (i:=q) (by lia) (by lia)),?_⟩;refine g9 (by rw[LK,kx,szL];lia) ?_;walk_at "";refine g9 (by rw[LK,LK,kx,zH,szL];lia) ?_;walk_at "";refine⟨(eJ (i:=d) (by lia) (by lia)),?_⟩;refine g9 (by rw[LK,LK,LK,kx,zH,szL];lia) ?_;walk_at "";exact k
def TtOk(ws:List Str)(t:Tn):Prop:=ba ws.length t.fr/\ba ws.length t.to/\ie t.q t.d
def nY(K:Fg):Sp:=fun vs H Q _=>∃(v1 v2:V) (ws:List Str) (t:Tn),vs=[v1,v2]/\Rz K H v1 (.tuple (ws.map Mp))/\Rz K H v2 (dT t)/\WsOk ws/\TtOk ws t/\∀H',Same H H'->Q (.str (turnT ws t)) H'
def sM(K:Fg):TS:=(av (aR (a4 (oo K) [] E0 (ag (ae 0) (ag (aB (bh K) (ae 1) (tC (.int 0))) aq))) (aH 2))
 (av (aR (a4 (oo K) [] E0 (ag (ae 0) (ag (aB (bh K) (ae 1) (tC (.int 1))) aq))) (aH 3))
 (av (aR (a4 (tI K) [] E0 (ag (aB (bh K) (ae 1) (tC (.int 2))) aq)) (aH 4))
 (aY (xo [(wn (ae 2)),(tC (.str " -> ")),(wn (ae 3)),(tC (.str " @ ")),(wn (ae 4))] Mj)))))
theorem BH{K:Fg}{N:List Str}(hN:N.length=5)(h:nY K vs H Q E):sM K (ends Q) (L2.start N vs) H:=by
 obtain⟨v1,v2,ws,t,rfl,r1,r2,ow,⟨o1,o2,op⟩,k⟩:=h;obtain⟨a,w1,w2,w3,rfl,ha,q1,q2,q3⟩:=ib r2;rw[L2.bx hN];walk_at "t";have l1:=dR ow o1.2;have l2:=dR ow o2.2;have l3:=g7 op;unfold sM;walk_at "";refine bn (SqT.of ha) (v:=w1) rfl ?_;walk_at "";refine⟨v1,w1,ws,t.fr,rfl,r1,q1,ow,o1,fun H1 S1=>?_⟩;have ha1:=S1 _ _ ha;walk_at "";refine bn (SqT.of ha1) (v:=w2) rfl ?_;walk_at "";refine⟨v1,w2,ws,t.to,rfl,r1.same S1,q2.same S1,ow,o2,fun H2 S2=>?_⟩;have YA:=S2 _ _ ha1;walk_at "";refine bn (SqT.of YA) (v:=w3) rfl ?_;walk_at "";refine⟨w3,t.q,t.d,rfl,(q3.same S1).same S2,op,?_⟩;walk_at "";refine CP (by rw[szL];lia) ?_;refine g9 (by rw[LK,kx,szL];lia) ?_;walk_at "";refine g9 (by rw[LK,LK,kx,ph,szL];lia) ?_;walk_at "";refine CP (by rw[szL];lia) ?_;refine g9 (by rw[LK,LK,LK,kx,ph,szL];lia) ?_;walk_at "";refine g9 (by rw[LK,LK,LK,LK,kx,ph,zL,szL];lia) ?_;walk_at "";refine CP (by rw[szL];lia) ?_;refine g9 (by rw[LK,LK,LK,LK,LK,kx,ph,zL,szL];lia) ?_;walk_at "";exact k H2 (S1.trans S2)
def KJ(ws:List Str)(ts:List Tn):Prop:=WsOk ws/\ts.length<=8/\∀t∈ts,TtOk ws t
theorem Bn{K:Fg}{H:Hp}{σ:St}{Q:VK}{te:TE}(ok:KJ ws ts)(hb:H b=some (.tup xs))(rx:RzL K H xs (ts.map dT))
  (ht:∀(H2:Hp) (v:V) (t:Tn) (Q':VK),Same H H2->Rz K H2 v (dT t)->TtOk ws t->(∀H',Same H2 H'->Q' (.str (turnT ws t)) H')->te (some v :: σ) H2 Q')
  (hq:∀(D:Addr) (H':Hp),AccZ K H D H' ((ts.map (turnT ws)).map Mp)->Q (.ref D) H'):dS (sH K b) te σ Q H:=by
 have lx:xs.length=ts.length:=by rw[rx.length,La]
 refine fY (xs:=xs) fun D nD=>⟨fun i H2=>AccZ K H D H2 (((ts.take i).map (turnT ws)).map Mp),AccZ.start (Same.refl _) nD,fun i H2 _ A=>SqT.of (A.same _ _ hb),?_,?_⟩
 ·intro i z H2 hz A;obtain⟨dd,g1,g2⟩:=rx.get hz;rw[Li] at g1;obtain⟨t,et,rfl⟩:=Ln.mp g1;have li:i<ts.length:=(Ld.mp et).1;have ln:=ok.2.1;refine ht H2 z t _ A.same (g2.same A.same) (ok.2.2 t (Ll et)) fun H3 S3=>?_
  refine cA (by lia) ((A.on S3).gz (.str _) (aU ?_) fun H4 A4=>?_)
  ·rw[La,La,LG];lia
  ·show AccZ K H D H4 (((ts.take (i+1)).map (turnT ws)).map Mp);rw[LU,et,LD,LD];exact A4
 ·intro H2 A;rw[lx,Lq (Lg _)] at A;exact hq D H2 A
theorem Gm{n:Int} (h0:0<n) (h3:n<=3):mO [V.str "",.str w,.str (("2 ":Str)++w),.str (("3 ":Str)++w)] n=some (.str (bJ w n)):=by
 rcases three h0 h3 with rfl|rfl|rfl
 ·rw[i0];rfl
 ·rw[jN];rfl
 ·rw[jM];rfl
end Tw
namespace Tp2
open PySem L2 Str
open PySem.Builtin.Str (strSub subAt)
abbrev cl(s:Str):List Nat:=s.cps.toList
theorem bo(a b:Str):cl (a++b)=cl a++cl b:=by
 show(a.cps++b.cps).toList=_;rw[Pu]
theorem bX(a:Str):(cl a).length=a.length:=by show a.cps.toList.length=a.cps.size;rw[Mw]
theorem rZ(h:cl a=cl b):a=b:=Str.ext' (Array.toList_inj.mp h)
theorem o5:gN z y i↔i+y.length<=z.length/\((cl z).drop i).take y.length=cl y:=by
 unfold gN;rw[StrLaws.subAt_eq,beq_iff_eq]
theorem eR{j c:Nat}(h:gN z y i)(hc:(cl y)[j]?=some c):(cl z)[i+j]?=some c:=by
 obtain⟨_,e⟩:=o5.mp h;have lj:j<y.length:=by rw[<- bX];exact(Ld.mp hc).1
 rw[<- e,Rx lj,Ux] at hc;exact hc
theorem eQ(a y b:Str):gN (a++y++b) y a.length:=by
 refine o5.mpr ⟨by rw[LY,LY];lia,?_⟩;rw[bo,bo,MG,List.drop_append_of_le_length (by rw[bX];exact Lg _),Ng (by rw[bX];exact Lg _),PC,<- bX y,Tz]
theorem cZ(a y b:Str):strSub (a++y++b) 0 a.length=a:=rZ (by
 show(strSub (a++y++b) 0 a.length).cps.toList=_
 rw[Qg]
 show((cl (a++y++b)).drop 0).take (a.length-0)=cl a
 rw[Tb,Nat.sub_zero,bo,bo,MG,<- bX a,Tz])
theorem dz(a y b:Str):strSub (a++y++b) (a.length+y.length) (a++y++b).length=b:=rZ (by
 show(strSub (a++y++b) (a.length+y.length) (a++y++b).length).cps.toList=_
 rw[Qg]
 show((cl (a++y++b)).drop (a.length+y.length)).take _=cl b
 have l:(cl (a++y)).length=a.length+y.length:=by rw[bX,LY]
 rw[bo,<- l,TC,LY]
 rw[Lq]
 rw[bX,l,LY];lia)
theorem mF{b:Str}{y0 y1:Nat}(h0:(cl y)[0]?=some y0)(h1:(cl y)[1]?=some y1)(na:y1∉cl a)(ne:y1≠y0):∀k,k<a.length->¬ gN (a++y++b) y k:=by
 intro k hk o;have c:=eR o h1;rw[bo,bo,MG] at c;rcases Ny (k+1) a.length with l|l
 ·rw[Mf (by rw[bX];exact l)] at c;exact na (Ll c)
 ·have e:k+1=a.length:=by lia
  rw[Ma (by rw[bX];lia),bX,e,UZ,Mf (Ld.mp h0).1,h0] at c;exact ne (LF c).symm
theorem II{b:Str}{y0:Nat}(h0:(cl y)[0]?=some y0)(na:y0∉cl a):∀k,k<a.length->¬ gN (a++y++b) y k:=by
 intro k hk o;have c:=eR o h0;rw[bo,bo,MG,Sv,Mf (by rw[bX];exact hk)] at c;exact na (Ll c)
theorem FQ{y0:Nat}(h0:(cl y)[0]?=some y0)(nz:y0∉cl z):∀i,¬ gN z y i:=fun i o=>by
 have c:=eR o h0;exact nz (Ll c)
theorem HQ{a:Str}{y0:Nat}(h0:(cl y)[0]?=some y0)(l1:y.length=1)(nb:y0∉cl b):∀k,a.length<k->¬ gN (a++y++b) y k:=by
 intro k hk o;have c:=eR o h0;rw[bo,Sv,Ma (by rw[bX,LY];lia)] at c;exact nb (Ll c)
def pls:Str:=" + "
theorem y_:cl pls=[32,43,32]:=by decide +kernel
theorem oP:pls.length=3:=by decide +kernel
def pos:List Str->List Nat
 |[]=>[]
 |[_]=>[]
 |p :: q :: r=>p.length :: (pos (q :: r)).map (· + (p.length+3))
theorem CS(p q:Str)(r:List Str):Nt pls (p :: q :: r)=p++pls++Nt pls (q :: r):=rfl
theorem vz:∀(ps:List Str),(∀p∈ps,43∉cl p)->∀m,(cl (Nt pls ps))[m]?=some 43->∃i∈pos ps,m=i+1
 |[],_,m,h=>by
  have:cl (Nt pls [])=[]:=by decide +kernel
  rw[this] at h;cases h
 |[p],hp,m,h=>absurd (Ll h) (hp p Lz)
 |p :: q :: r,hp,m,h=>by
  rw[CS,bo,bo,MG,y_] at h;rcases Ny m p.length with l|l
  ·rw[Mf (by rw[bX];exact l)] at h;exact absurd (Ll h) (hp p Lz)
  ·rw[Ma (by rw[bX];exact l),bX] at h;obtain⟨d,rfl⟩:∃d,m=p.length+d:=⟨m-p.length,by lia⟩
   rw[Nat.add_sub_cancel_left] at h
   match d,h with
   |0,h=>cases h
   |1,_=>exact⟨p.length,Lz,rfl⟩
   |2,h=>cases h
   |d+3,h =>
    obtain⟨i,hi,e⟩:=vz (q :: r) (fun x hx=>hp x (Ly _ hx)) d h;exact⟨i+(p.length+3),Ly _ (Ls.mpr ⟨i,hi,rfl⟩),by lia⟩
theorem zv{a:Str}(h:gN z y i):gN (a++z) y (i+a.length):=by
 obtain⟨l,e⟩:=o5.mp h;refine o5.mpr ⟨by rw[LY];lia,?_⟩;rw[bo,Nat.add_comm,<- VW,<- bX a,TC];exact e
theorem y8:∀(ps:List Str),∀i∈pos ps,gN (Nt pls ps) pls i
 |[],_,h=>by cases h
 |[_],_,h=>by cases h
 |p :: q :: r,i,h=>by
  rcases Lj.mp h with rfl|h
  ·rw[CS];exact eQ _ _ _
  ·obtain⟨j,hj,rfl⟩:=Ls.mp h
   have:=zv (a:=p++pls) (y8 (q :: r) j hj)
   rw[LY,oP] at this;exact this
theorem uc:∀(ps:List Str),(pos ps).Pairwise fun i j=>i+3<=j
 |[]=>.nil
 |[_]=>.nil
 |p :: q :: r=>by
  refine RA.cons (fun x hx=>?_) ?_
  ·obtain⟨j,_,rfl⟩:=Ls.mp hx;lia
  ·rw[U0];exact(uc (q :: r)).imp fun h=>by lia
theorem ur{ps:List Str}(hp:∀p∈ps,43∉cl p)(h:gN (Nt pls ps) pls i):i∈pos ps:=by
 have c:=eR h (j:=1) (c:=43) (by rw[y_];rfl);obtain⟨k,hk,e⟩:=vz ps hp _ c
 have:i=k:=by lia
 rw[this];exact hk
theorem jR:∀{l1 l2:List Nat},l1.Pairwise (· < ·)->l2.Pairwise (· < ·)->(∀x,x∈l1↔x∈l2)->l1=l2
 |[],[],_,_,_=>rfl
 |[],b :: l2,_,_,h=>absurd ((h b).mpr Lz) (by simp)
 |a :: l1,[],_,_,h=>absurd ((h a).mp Lz) (by simp)
 |a :: l1,b :: l2,p1,p2,h=>by
  have q1:=PM.mp p1;have q2:=PM.mp p2
  have e:a=b:=by
   rcases Lj.mp ((h a).mp Lz) with e|m
   ·exact e
   ·rcases Lj.mp ((h b).mpr Lz) with e|m2
    ·exact e.symm
    ·have:=q1.1 b m2;have:=q2.1 a m;lia
  subst e;rw[jR q1.2 q2.2 fun x=>⟨fun hx=>?_,fun hx=>?_⟩]
  ·rcases Lj.mp ((h x).mp (Ly _ hx)) with e|m
   ·have:=q1.1 x hx;lia
   ·exact m
  ·rcases Lj.mp ((h x).mpr (Ly _ hx)) with e|m
   ·have:=q2.1 x hx;lia
   ·exact m
theorem CA{ps:List Str}(hp:∀p∈ps,43∉cl p):iO (Nt pls ps) pls=pos ps:=by
 refine jR ?_ ((uc ps).imp fun h=>by lia) fun x=>?_
 ·unfold iO;exact RA.filter _ Qc
 ·rw[jw];exact⟨ur hp,y8 ps x⟩
theorem qW{l:List Nat}(h:l.Pairwise fun i j=>i+3<=j){i:Nat}(hi:i∈l)(hj:j∈l)(lt:i<j):i+3<=j:=by
 induction l with
 |nil=>cases hi
 |cons a l ih =>
  have q:=PM.mp h;rcases Lj.mp hi with rfl|hi'
  ·rcases Lj.mp hj with rfl|hj'
   ·lia
   ·exact q.1 j hj'
  ·rcases Lj.mp hj with rfl|hj'
   ·have:=q.1 i hi';lia
   ·exact ih q.2 hi' hj'
theorem mP{ps:List Str}(hp:∀p∈ps,43∉cl p):Apart (Nt pls ps) pls:=fun i j hi hj lt=>by
 rw[oP];exact qW (uc ps) (ur hp hi) (ur hp hj) lt
theorem vD:∀(ps:List Str) (a:Str),ps≠[]->Mu (a++Nt pls ps) 3 a.length ((pos ps).map (· + a.length))=ps
 |[],_,h=>absurd rfl h
 |[p],a,_=>by
  show[strSub (a++p) a.length (a++p).length]=[p]
  have:=dz a Mj p
  rw[Str.append_empty] at this;rw[show a.length+Mj.length=a.length from Sv _] at this;rw[this]
 |p :: q :: r,a,_=>by
  show strSub (a++Nt pls (p :: q :: r)) a.length (p.length+a.length) :: Mu (a++Nt pls (p :: q :: r)) 3 (p.length+a.length+3) (((pos (q :: r)).map (· + (p.length+3))).map (· + a.length))=_
  have e1:a++Nt pls (p :: q :: r)=(a++p++pls)++Nt pls (q :: r):=by
   rw[CS];simp only[Vx]
  have ih:=vD (q :: r) (a++p++pls) (by simp);have l:(a++p++pls).length=p.length+a.length+3:=by rw[LY,LY,oP];lia
  rw[l] at ih
  have e2:((pos (q :: r)).map (· + (p.length+3))).map (· + a.length)=(pos (q :: r)).map (· + (p.length+a.length+3)):=by
   rw[Ot];exact QN fun x _=>by show x+(p.length+3)+a.length=x+(p.length+a.length+3);lia
  rw[e1,e2,ih];congr 1;refine rZ ?_;show(strSub ((a++p++pls)++Nt pls (q :: r)) a.length (p.length+a.length)).cps.toList=_;rw[Qg];show((cl ((a++p++pls)++Nt pls (q :: r))).drop a.length).take (p.length+a.length-a.length)=cl p;rw[bo,bo,bo,MG,MG,<- bX a,TC,Nat.add_sub_cancel,<- bX p,Tz]
theorem lX{ps:List Str}(hp:∀p∈ps,43∉cl p)(ne:ps≠[]):Mu (Nt pls ps) pls.length 0 (iO (Nt pls ps) pls)=ps:=by
 have h:=vD ps Mj ne;rw[NP] at h;rw[CA hp,oP]
 have e:(pos ps).map (· + Mj.length)=pos ps:=by
  rw[show(fun x=>x+Mj.length)=id from funext fun x=>Sv x,List.map_id]
 rw[e] at h;exact h
end Tp2
namespace Md
open PySem L2 Fr G1 Sm Vs
open PySem.W (Dat kqdOk kqdP kqdPs)
theorem GD(n:Nat):(LI n true).all id=true:=by
 rw[MA];intro x hx;rw[(List.mem_replicate.mp hx).2];rfl
theorem zY{Q:VK}{i j:Str}(h:Q (.bl (!decide (j.cps.toList<i.cps.toList))) H):t9 (.str i) (.str j) H Q:=⟨i,j,rfl,rfl,h⟩
theorem yo{c d:Nat}(h:d<=c) : ¬ (([c]:List Nat) < [d]):=by
 rw[SR];rintro(z|⟨_,z⟩)
 ·lia
 ·cases z
end Md
namespace Tr2
open PySem L2 Fr G1 Sm Vs Tw Tp2 Md Tr
open PySem.W (Dat kqdOk)
open PySem.Builtin.Str (strSub)
def Lt(s:Str):Prop:=∀c∈cl s,97<=c/\c<=122
def Hs(s:Str):Prop:=∀c∈cl s,(97<=c/\c<=122)\/c=48\/c=50\/c=51\/c=32\/c=43
def Ps(s:Str):Prop:=∀c∈cl s,(97<=c/\c<=122)\/c=48\/c=50\/c=51\/c=32
theorem Ps.app(h1:Ps a)(h2:Ps b):Ps (a++b):=fun c hc=>by
 rw[bo] at hc;rcases LZ.mp hc with h|h
 ·exact h1 c h
 ·exact h2 c h
theorem Hs.app(h1:Hs a)(h2:Hs b):Hs (a++b):=fun c hc=>by
 rw[bo] at hc;rcases LZ.mp hc with h|h
 ·exact h1 c h
 ·exact h2 c h
theorem Ps.hs(h:Ps s):Hs s:=fun c hc=>by have:=h c hc;lia
theorem Lt.ps(h:Lt s):Ps s:=fun c hc=>.inl (h c hc)
theorem Am:∀{ps:List Str},(∀p∈ps,Ps p)->Hs (Nt pls ps)
 |[],_=>fun c hc=>by rw[show cl (Nt pls [])=[] by decide +kernel] at hc;cases hc
 |[p],h=>(h p Lz).hs
 |p :: q :: r,h=>by
  rw[CS];refine((h p Lz).hs.app ?_).app (Am fun x hx=>h x (Ly _ hx));intro c hc;rw[y_] at hc;simp only[Lj,Lp,or_false] at hc;lia
theorem uZ(l:List Str):UV " + " l=Nt pls l:=by first|exact SS _ _|exact Str.glued_eq_join _ _
theorem vx{n:Int}(hw:Lt w)(h0:0<n)(h3:n<=3):Ps (bJ w n):=by
 have d2:Ps ("2 ":Str):=fun c hc=>by
  rw[show cl ("2 ":Str)=[50,32] by decide +kernel] at hc;simp only[Lj,Lp,or_false] at hc;lia
 have d3:Ps ("3 ":Str):=fun c hc=>by
  rw[show cl ("3 ":Str)=[51,32] by decide +kernel] at hc;simp only[Lj,Lp,or_false] at hc;lia
 rcases three h0 h3 with rfl|rfl|rfl
 ·rw[i0];exact hw.ps
 ·rw[jN];exact d2.app hw.ps
 ·rw[jM];exact d3.app hw.ps
theorem cM{ws:List Str}{h:List Int}(ow:∀w∈ws,Lt w)(oh:∀x∈h,0<=x/\x<=3):Hs (bH ws h):=by
 unfold bH;split
 ·intro c hc;rw[show cl ("0":Str)=[48] by decide +kernel] at hc;simp only[Lj,Lp,or_false] at hc;lia
 ·rw[uZ];refine Am fun p hp=>?_
  obtain⟨q,hq,e⟩:=M9.mp hp;obtain⟨m1,m2⟩:=NF (a:=q.1) (b:=q.2) hq;by_cases z:0<q.2
  ·rw[if_pos z] at e;cases LF e;exact vx (ow _ m1) z (oh _ m2).2
  ·rw[if_neg z] at e;cases e
abbrev Key:=Int ⊕ Str
abbrev Pt:=Str×Str×Int
def fE(L:List Pt):List (Key×V):=L.foldl (fun kv t=>dA kv (.inr t.2.1) (.int t.2.2)) []
theorem rN(L:List Pt)(t:Pt):fE (L++[t])=dA (fE L) (.inr t.2.1) (.int t.2.2):=by unfold fE;rw[Vc];rfl
theorem pj{L:List Pt}{i:Nat}{t:Pt}(e:L[i]?=some t):fE (L.take (i+1))=dA (fE (L.take i)) (.inr t.2.1) (.int t.2.2):=by
 rw[LU,e];exact rN _ _
theorem Fs{kv:List (Key×V)}{k:Key}{v:V}:(dA kv k v).length<=kv.length+1:=by
 unfold dA;split
 ·rw[La];lia
 ·rw[LQ];exact Lg _
theorem rM(L:List Pt):∀i,(fE (L.take i)).length<=i
 |0=>Lg _
 |i+1=>by
  cases e:L[i]? with
  |none=>rw[LU,e,show(none:Option Pt).toList=[] from rfl,Nb];have:=rM L i;lia
  |some t=>rw[pj e];have:=rM L i;have:=Fs (kv:=fE (L.take i)) (k:=.inr t.2.1) (v:=.int t.2.2);lia
theorem zO{w:Str}:∀{L:List Pt},(∀t∈L,t.2.1≠w)->∀kv:List (Key×V),cr kv (.inr w)=none->cr (L.foldl (fun kv t=>dA kv (.inr t.2.1) (.int t.2.2)) kv) (.inr w)=none
 |[],_,kv,h=>h
 |t :: L,ne,kv,h=>by
  refine zO (fun x hx=>ne x (Ly _ hx)) _ ?_;rw[nh,if_neg (fun z=>ne t Lz (Vz z).symm)];exact h
theorem zP{w:Str}{v:V}:∀{L:List Pt},(∀t∈L,t.2.1≠w)->∀kv:List (Key×V),cr kv (.inr w)=some v->cr (L.foldl (fun kv t=>dA kv (.inr t.2.1) (.int t.2.2)) kv) (.inr w)=some v
 |[],_,kv,h=>h
 |t :: L,ne,kv,h=>by
  refine zP (fun x hx=>ne x (Ly _ hx)) _ ?_;rw[nh,if_neg (fun z=>ne t Lz (Vz z).symm)];exact h
theorem zN{w:Str}{n:Int}{p:Str}:∀{L:List Pt},(L.map (·.2.1)).Nodup->(p,w,n)∈L->∀kv:List (Key×V),cr (L.foldl (fun kv t=>dA kv (.inr t.2.1) (.int t.2.2)) kv) (.inr w)=some (.int n)
 |t :: L,nd,m,kv=>by
  rw[LX,Me] at nd;rcases Lj.mp m with rfl|m
  ·refine zP (fun x hx z=>nd.1 (Ls.mpr ⟨x,hx,z⟩)) _ ?_;rw[nh,if_pos rfl]
  ·exact zN nd.2 m _
def pz(ws:List Str)(h:List Int):List (Str×Int):=(ws.zip h).filter fun p=>decide (0<p.2)
theorem gY(ws:List Str)(h:List Int):bf ws h=(pz ws h).map fun p=>bJ p.1 p.2:=by
 unfold bf pz
 induction ws.zip h with
 |nil=>rfl
 |cons q r ih =>
  rw[M6,Pk];by_cases z:0<q.2
  ·rw[if_pos z,if_pos (decide_eq_true z),LX,ih]
  ·rw[if_neg z,if_neg (by simpa using z),ih]
def b7 (ws:List Str) (h:List Int):List Pt:=if bf ws h=[] then [("0","0",1)] else (pz ws h).map fun p=>(bJ p.1 p.2,p.1,p.2)
theorem FR:∀{ws:List Str} {h:List Int},ws.Nodup->((pz ws h).map (·.1)).Nodup:=by
 intro ws
 induction ws with
 |nil=>intro h _;exact Nq
 |cons w ws ih =>
  intro h nd;rw[Me] at nd;cases h with
  |nil=>exact Nq
  |cons n h =>
   show(((w,n) :: ws.zip h).filter _ |>.map _).Nodup;rw[Pk];split
   ·rw[LX,Me];refine⟨fun z=>?_,ih nd.2⟩;obtain⟨q,hq,e⟩:=Ls.mp z;have m:=(M0.mp hq).1;obtain⟨m1,_⟩:=NF (a:=q.1) (b:=q.2) m;exact nd.1 (by rw[<- show q.1=w from e];exact m1)
   ·exact ih nd.2
theorem uz{ws:List Str}{h:List Int}(nd:ws.Nodup)(ow:∀w∈ws,Lt w)(oh:∀x∈h,0<=x){i:Nat}{w:Str}{n:Int}(ew:ws[i]?=some w)(en:h[i]?=some n):(cr (fE (b7 ws h)) (.inr w)).getD (.int 0)=.int n:=by
 have mz:(w,n)∈ws.zip h:=Ll (i:=i) (by rw[MU];exact⟨ew,en⟩)
 have keyAt:∀q∈ws.zip h,q.1=w->q.2=n:=by
  intro q hq e;obtain⟨j,hj⟩:=List.getElem?_of_mem hq;obtain⟨j1,j2⟩:=MU.mp hj
  have:i=j:=o8 nd ew (by rw[<- e];exact j1)
  subst this;rw[en] at j2;exact(LF j2).symm
 by_cases z:0<n
 ·have m:(w,n)∈pz ws h:=M0.mpr ⟨mz,decide_eq_true z⟩;have ne:bf ws h≠[]:=by rw[gY];intro e;rw[Nj.mp e] at m;cases m
  have:=zN (w:=w) (n:=n) (p:=bJ w n) (L:=b7 ws h) (by
   unfold b7;rw[if_neg ne,Ot];exact FR nd) (by
   unfold b7;rw[if_neg ne];exact Ls.mpr ⟨_,m,rfl⟩) []
  unfold fE;rw[this];rfl
 ·have n0:n=0:=by have:=oh n (Ll en);lia
  subst n0
  have:=zO (w:=w) (L:=b7 ws h) (by
   intro t ht e
   unfold b7 at ht
   split at ht
   ·rw[Lx.mp ht] at e
    have hz:=ow w (Ll ew) 48 (by rw[<- e];rw[show cl (("0",("0":Str),(1:Int)):Pt).2.1=[48] by decide +kernel];exact Lz)
    lia
   ·obtain⟨q,hq,rfl⟩:=Ls.mp ht
    obtain⟨mq,pq⟩:=M0.mp hq
    have:=keyAt q mq e
    have:=of_decide_eq_true pq
    lia) [] rfl
  unfold fE;rw[this];rfl
def kvPW:List (Key×V):=[(.inr "",.int 1),(.inr "2",.int 2),(.inr "3",.int 3)]
inductive sC:Str->Str->Int->Prop
 |one {w:Str}:32∉cl w->sC w w 1
 |two {w:Str}:32∉cl w->sC (("2":Str) ++ " " ++ w) w 2
 |three {w:Str}:32∉cl w->sC (("3":Str) ++ " " ++ w) w 3
theorem iQ(h:Lt w):32∉cl w:=fun z=>by have:=h 32 z;lia
theorem ic{ws:List Str}{h:List Int}(ow:∀w∈ws,Lt w/\w.length<=8)(oh:∀x∈h,0<=x/\x<=3):∀t∈b7 ws h,sC t.1 t.2.1 t.2.2/\t.1.length<=10/\43∉cl t.1:=by
 intro t ht;unfold b7 at ht;split at ht
 ·rw[Lx.mp ht];exact⟨.one (by decide +kernel),by decide +kernel,by decide +kernel⟩
 ·obtain⟨q,hq,rfl⟩:=Ls.mp ht;obtain⟨mq,pq⟩:=M0.mp hq;obtain⟨m1,m2⟩:=NF (a:=q.1) (b:=q.2) mq;obtain⟨lw,l8⟩:=ow _ m1;have q0:=of_decide_eq_true pq;have q3:=(oh _ m2).2;have YK:43∉cl (bJ q.1 q.2):=fun z=>by have:=vx lw q0 q3 43 z;lia
  refine⟨?_,lW l8 q0 q3,YK⟩;show sC (bJ q.1 q.2) q.1 q.2;rcases three q0 q3 with e|e|e
  ·rw[e,i0];exact .one (iQ lw)
  ·rw[e,jN,show("2 ":Str)=("2":Str) ++ " " by decide +kernel];exact .two (iQ lw)
  ·rw[e,jM,show("3 ":Str)=("3":Str) ++ " " by decide +kernel];exact .three (iQ lw)
theorem hX:bH ws h=Nt pls ((b7 ws h).map (·.1)):=by
 unfold bH b7;split
 ·rfl
 ·rw[uZ,gY,Ot];rfl
theorem gZ:b7 ws h≠[]:=by
 unfold b7;split
 ·simp
 ·rename_i z;intro e;rw[gY] at z;exact z (by rw[Nj.mp e];rfl)
theorem iJ{ws:List Str}(l5:ws.length<=5):(b7 ws h).length<=5:=by
 unfold b7;split
 ·show 1<=5;decide
 ·rw[La];refine Mh (O1 _ _) ?_;rw[Om];lia
theorem CW(h:Hs s):s.cps.all (· < 128)=true:=by
 rw[MI];intro c hc
 have:=h c (by simpa using hc)
 exact decide_eq_true (by lia)
def WdOk(ws:List Str):Prop:=ws.Nodup/\ws.length<=5/\∀w∈ws,Lt w/\w.length<=8
theorem WdOk.lt(h:WdOk ws):∀w∈ws,Lt w:=fun w hw=>(h.2.2 w hw).1
theorem WdOk.ok(h:WdOk ws):WsOk ws:=⟨h.2.1,fun w hw=>⟨(h.2.2 w hw).2,by
 unfold NR
 rw[MI]
 intro c hc
 have:=(h.2.2 w hw).1 c (by simpa using hc)
 exact decide_eq_true (by lia)⟩⟩
def oq(K:Fg):Sp:=fun vs H Q _=>∃(v:V) (ws:List Str) (h:List Int),vs=[v,.str (bH ws h)]/\Rz K H v (.tuple (ws.map Mp))/\WdOk ws/\ba ws.length h/\∀(p:Addr) (H':Hp),Same H H'->Rz K H' (.ref p) (dI h)->Q (.ref p) H'
def Jn(d:Addr)(H H':Hp):Prop:=∀b o,b≠d->H b=some o->H' b=some o
theorem CO{Q:VK}{i j:Str}(h:Q (.bl (!decide (i=j))) H):A0 (.str i) (.str j) H Q:=⟨rfl,by
 by_cases e:i=j
 ·subst e;simpa using h
 ·simpa[e] using h⟩
theorem JK:cr kvPW (.inr "")=some (.int 1):=by rfl
theorem JJ:cr kvPW (.inr "2")=some (.int 2):=by rfl
theorem JI:cr kvPW (.inr "3")=some (.int 3):=by rfl
theorem AS:(cl (" ":Str))[0]?=some 32:=by decide +kernel
theorem E1{K:Fg} {H:Hp} {Q:VK}   (c:sC s w n) (l:s.length<=10) (k:∀p u,H p=none->cr kvPW (.inr u)=some (.int n)->∀m,Q (.ref p) (upd H p (.tup [.str u,m,.str w]))):yQ (.str s) [.str " "] H Q:=by
 have hs:s.length<=sizeLine:=by have:(10:Nat)<=sizeLine:=(by decide);lia
 refine⟨s," ",rfl,rfl,by decide +kernel,hs,?_⟩;cases c with
 |one h=>exact .inr ⟨FQ AS h,fun p np=>k p "" np JK _⟩
 |two h =>
  refine .inl ⟨("2":Str).length,eQ _ _ _,HQ AS (by decide +kernel) h,fun p np=>?_⟩;rw[cZ,dz];exact k p "2" np JJ _
 |three h =>
  refine .inl ⟨("3":Str).length,eQ _ _ _,HQ AS (by decide +kernel) h,fun p np=>?_⟩;rw[cZ,dz];exact k p "3" np JI _
def sX(K:Fg):TS:=(av (aR DF (aH 2))
 (av (eF (kM K (lg K "str" DM (ae 1) (ag (tC (.str " + ")) aq))) (aH 3)
 (av (aR (lg K "str" yQ (ae 3) (ag (tC (.str " ")) aq)) (aH 4))
 (yA (ae 2) (aB (bh K) (ae 4) (tC (.int 2))) (EN kvPW (aB (bh K) (ae 4) (tC (.int 0))) (tC (.int 0))))))
 (aY (bY (dv K) (ag (gr (kK K (ae 0)) (DG (ae 3) (ae 0) (tC (.int 0)))) aq)))))
theorem BS{K:Fg}{N:List Str}(hN:N.length=5)(h:oq K vs H Q E):sX K (ends Q) (L2.start N vs) H:=by
 obtain⟨v,ws,h,rfl,rv,ow,oh,k⟩:=h;obtain⟨a,rfl,ha⟩:=IP rv;rw[L2.bx hN];walk_at "t";have o3:∀x∈h,0<=x/\x<=3:=oh.2;have cp:=ic ow.2.2 o3;have hj:=hX (ws:=ws) (h:=h)
 have YK:∀p∈(b7 ws h).map (·.1),43∉cl p:=fun p hp=>by
  obtain⟨t,ht,rfl⟩:=Ls.mp hp;exact(cp t ht).2.2
 have lH:=dR ow.ok o3;have asc:=CW (cM ow.lt o3);have l5:=iJ (h:=h) ow.2.1;have neL:=gZ (ws:=ws) (h:=h)
 have kvw:∀i w,ws[i]?=some w->∃n,h[i]?=some n/\(cr (fE (b7 ws h)) (.inr w)).getD (.int 0)=.int n:=fun i w ew=>by
  have li:i<h.length:=by rw[oh.1];exact(Ld.mp ew).1
  exact⟨_,Lb li,uz ow.1 ow.lt (fun x hx=>(o3 x hx).1) ew (Lb li)⟩
 generalize b7 ws h=L at cp hj YK l5 neL kvw;rw[hj] at lH asc ⊢;unfold sX;walk_at "";intro d nd;have Sd:=ar nd (.dK []);have hd0:upd H d (.dK []) d=some (.dK (fE (L.take 0))):=am;generalize upd H d (.dK [])=H1 at Sd hd0 ⊢;walk_at "";refine⟨rfl,?_⟩;walk_at "";refine⟨_,pls,rfl,rfl,by decide +kernel,by lia,mP YK,asc,by decide +kernel,fun l nl=>?_⟩;rw[lX YK (by intro e;exact neL (Nj.mp e))];have hl:upd H1 l (.lst ((L.map (·.1)).map V.str)) l=some (.lst ((L.map (·.1)).map V.str)):=am;have S2:=Sd.trans (ar nl (.lst ((L.map (·.1)).map V.str)));have hd2:upd H1 l (.lst ((L.map (·.1)).map V.str)) d=some (.dK (fE (L.take 0))):=(ar nl _) _ _ hd0;have nld:l≠d:=fun z=>by rw[z,hd0] at nl;cases nl
 generalize upd H1 l (.lst ((L.map (·.1)).map V.str))=H2 at hl S2 hd2 ⊢;refine CK (SqL.of hl) ?_;refine jy (xs:=(L.map (·.1)).map V.str) (fun i σ H3=>∃u3 u4:Option V,σ=[some (.ref a),some (.str (Nt pls (L.map (·.1)))),some (.ref d),u3,u4]/\Jn d H2 H3/\H3 d=some (.dK (fE (L.take i)))) ⟨none,none,rfl,fun _ _ _ z=>z,hd2⟩ (fun i σ H3 _ ⟨_,_,_,B,_⟩=>SqL.of (B _ _ nld hl)) ?_ ?_
 ·rintro i y σ H3 e1 ⟨u3,u4,rfl,B3,ZP⟩;rw[Li,Li] at e1;obtain⟨z,e2,rfl⟩:=Ln.mp e1;obtain⟨t,et,rfl⟩:=Ln.mp e2;obtain⟨c1,c2,_⟩:=cp t (Ll et);have li:=(Ld.mp et).1;walk_at "";refine⟨rfl,?_⟩;walk_at "";refine E1 (K:=K) c1 c2 fun p u np pu m=>?_
  have hp:upd H3 p (.tup [.str u,m,.str t.2.1]) p=some (.tup [.str u,m,.str t.2.1]):=am;have B4:Jn d H2 (upd H3 p (.tup [.str u,m,.str t.2.1])):=fun b o nb q=>(ar np _) _ _ (B3 b o nb q)
  have hd4:upd H3 p (.tup [.str u,m,.str t.2.1]) d=some (.dK (fE (L.take i))):=(ar np _) _ _ ZP;generalize upd H3 p (.tup [.str u,m,.str t.2.1])=H4 at hp B4 hd4 ⊢;walk_at "";unfold EN;walk_at "";refine bn (SqT.of hp) (v:=.str u) rfl ?_;walk_at "";refine⟨.inr u,rfl,?_⟩;rw[pu];walk_at "";refine bn (SqT.of hp) (v:=.str t.2.1) rfl ?_;refine⟨d,_,rfl,DPut.k (k:=.inr t.2.1) hd4 ?_,?_⟩
  ·exact aU (by have:=rM L i;lia)
  ·exact⟨_,_,rfl,fun b o nb q=>by rw[aC nb];exact B4 b o nb q,by rw[am,pj et];rfl⟩
 ·rintro σ H3 ⟨u3,u4,rfl,B3,ZP⟩;rw[La,La,Lq (Lg _)] at ZP;have ha3:H3 a=some (.tup (ws.map V.str)):=B3 _ _ (au ha nd) (S2 _ _ ha);have S3:Same H H3:=fun b o q=>B3 b o (au q nd) (S2 b o q)
  walk_at "";refine⟨a,rfl,⟨_,SqT.of ha3⟩,?_⟩;refine fY (xs:=ws.map V.str) fun D nD=>⟨fun i H4=>AccZ K H3 D H4 ((h.take i).map NG),by simpa using AccZ.start (Same.refl _) nD,fun i H4 _ A=>SqT.of (A.same _ _ ha3),?_,?_⟩
  ·intro i y H4 e1 A;have hi:i<(ws.map V.str).length:=(Ld.mp e1).1;rw[Li] at e1;obtain⟨w,ew,rfl⟩:=Ln.mp e1;obtain⟨n,en,ev⟩:=kvw i w ew;walk_at "";refine⟨_,rfl,d,rfl,.inl ⟨_,.inl (A.same _ _ ZP)⟩,?_⟩;walk_at "";refine⟨_,DGet.k (k:=.inr w) (A.same _ _ ZP),?_⟩;rw[ev];refine cA hi (A.gz (.int n) (aU (by rw[La,LG];have:=oh.1;have:=ow.2.1;lia)) fun H5 A5=>?_);show AccZ K H3 D H5 ((h.take (i+1)).map NG);rw[LU,en,LD];exact A5
  ·intro H4 A;rw[La,Lq (by rw[oh.1];exact Lg _)] at A;walk_at "";refine gg (SqL.of (AccZ.ints A)) fun p np=>?_
   exact k p _ (S3.trans (A.same.trans (ar np _))) (.tup am (RpL.ints _))
theorem h_(m:Nat):∀c∈cl (a8 (m:Int)),48<=c/\c<=57:=fun c hc=>by
 rw[show cl (a8 (m:Int))=_ from Qh m] at hc;obtain⟨ch,hch,e⟩:=Ls.mp hc;rw[<- e];exact PyProof.Rows.digit_range (QX (by decide) (by decide) hch)
theorem pC(m:Nat):a8 (m:Int)≠("":Str):=fun z=>by
 have e:cl (a8 (m:Int))=[]:=by rw[z];decide +kernel
 rw[show cl (a8 (m:Int))=_ from Qh m] at e;have h:=SN 10 m;rw[Nj.mp e] at h;exact absurd h (by decide)
theorem KS:(("0":Str)).cps.toList=[48]:=by decide +kernel
theorem KR:(("9":Str)).cps.toList=[57]:=by decide +kernel
def vi(K:Fg):Sp:=fun vs H Q _=>∃n:Int,vs=[.str (a8 n)]/\0<=n/\n<=10000000000/\∀H',Same H H'->Q (.int n) H'
def xL (K:Fg):TS:=(av (a6 (xm (bg (aB fw (ae 0) (tC (.str "")))) (dJ (tB (bY (qP K) (ag (gr (CU (ae 0)) (gP t9 t9 (tC (.str "0")) (ae 0) (tC (.str "9")))) aq)))))
 (aY (tC (.int 0)))
 a9)
 (aY (bY Hm (ag (ae 0) aq))))
theorem E8{K:Fg}{N:List Str}(hN:N.length=1)(h:vi K vs H Q E):xL K (ends Q) (L2.start N vs) H:=by
 obtain⟨n,rfl,n0,n1,k⟩:=h;rw[L2.bx hN];walk_at "t";obtain⟨ir,il⟩:=Ah n0 n1;have l11:=Tw.d8 n0 n1;obtain⟨m,rfl⟩:=P1 n0;have dg:=h_ m;have ne:=pC m;unfold xL;walk_at "";rw[decide_eq_false ne];walk_at ""
 have asc:(a8 (m:Int)).cps.all (· < 128)=true:=by
  rw[MI];intro c hc
  have:=dg c (by simpa using hc)
  exact decide_eq_true (by lia)
 refine⟨_,rfl,asc,?_⟩;have sz:(a8 (m:Int)).cps.size<=11:=l11;refine v5 fun D nD=>⟨fun j H3=>AccZ K H D H3 ((LI j true).map OZ),AccZ.start (Same.refl _) nD,?_,?_⟩
 ·intro i c H2 hc A;have lc:=dg c (Ll (by rw[MN];exact hc));have hi:i<(a8 (m:Int)).cps.size:=(MB.mp hc).1;walk_at "";refine zY ?_;rw[KS];walk_at "";refine bT (fun _=>?_) (fun z=>absurd z (yo lc.1));walk_at "";refine zY ?_;rw[KR,decide_eq_false (yo lc.2)];exact Dg (H0:=H) (by lia) hi (fun _ _=>Iff.rfl) A (Same.refl _)
 ·intro H2 A;walk_at "";refine mn (AccZ.bls A) ?_;rw[GD];walk_at "";exact⟨_,_,rfl,ir,il,k H2 A.same⟩
def tJ(K:Fg):Sp:=fun vs H Q _=>∃q d:Int,vs=[.str (bI q d)]/\ie q d/\∀(p:Addr) (H':Hp),Same H H'->Rz K H' (.ref p) (dI [q,d])->Q (.ref p) H'
theorem wu:(cl ("/":Str))[0]?=some 47:=by decide +kernel
theorem rG{n:Int}(n0:0<=n):47∉cl (a8 n):=fun z=>by
 obtain⟨m,rfl⟩:=P1 n0
 have:=h_ m 47 z;lia
theorem kq{n:Int}(h0:0<n)(h1:n<=10000000000):n.natAbs<2 ^ 8000:=LR (show n.natAbs<2 ^ 34 by lia) (Pb (by decide) (by decide))
theorem Cq(h:ie q d):dI [q,d]=Tr.dQ (Qt q d):=by
 obtain⟨_,d0,g,_,_⟩:=h;obtain⟨e1,e2⟩:=zC (t:=q) (b:=d) (q:=q) (d:=d) (by lia) ⟨d0,g,rfl⟩;unfold Tr.dQ;rw[<- e1,<- e2]
def xK(K:Fg):TS:=(a6 (xm (bg (aB fw (ae 2) (tC (.int 0)))) (bg (aB fw (ae 3) (tC (.int 0)))))
 (aY (tC .non))
 a9)
def sS (K:Fg):TS:=(av (aR (lg K "str" B9 (ae 0) (ag (tC (.str "/")) aq)) (aH 1))
 (av (aR (a4 (vi K) [] E0 (ag (aB (bh K) (ae 1) (tC (.int 0))) aq)) (aH 2))
 (av (aR (Jz (bg (aB fw (aB (bh K) (ae 1) (tC (.int 1))) (tC (.str "")))) (tC (.int 1)) (a4 (vi K) [] E0 (ag (aB (bh K) (ae 1) (tC (.int 2))) aq))) (aH 3))
 (av (xK K)
 (aY (a4 (ou K) [] E0 (ag (ae 2) (ag (ae 3) aq))))))))
theorem BN{K:Fg}{N:List Str}(hN:N.length=4)(h:tJ K vs H Q E):sS K (ends Q) (L2.start N vs) H:=by
 obtain⟨q,d,rfl,po,k⟩:=h;rw[L2.bx hN];walk_at "t";have lp:=g7 po;obtain⟨q0,d0,g1,q1,d1⟩:=id po;have hz:(bI q d).length<=sizeLine:=by rw[Tw.szL];lia
 have rest:∀(p:Addr) (H2:Hp) (σ:St),Same H H2->σ=[some (.str (bI q d)),some (.ref p),some (.int q),some (.int d)] ->
   (av (xK K)
    (aY (a4 (ou K) [] E0 (ag (ae 2) (ag (ae 3) aq))))) (ends Q) σ H2:=by
  rintro p H2 σ S2 rfl;walk_at "";unfold xK;walk_at "";refine bt (fun z=>absurd z (by lia)) (fun _=>?_);walk_at "";refine bt (fun z=>absurd z (by lia)) (fun _=>?_);walk_at "";refine⟨q,d,rfl,by lia,kq q0 q1,kq d0 d1,fun o H3 S3 r3=>k o H3 (S2.trans S3) ?_⟩;rw[Cq po];exact r3
 unfold sS;walk_at "";refine⟨rfl,?_⟩;walk_at "";refine⟨_,"/",rfl,rfl,by decide +kernel,hz,?_⟩;by_cases e1:d=1
 ·refine .inr ⟨?_,fun p np=>?_⟩
  ·rw[show bI q d=a8 q from if_pos e1];exact FQ wu (rG (by lia))
  ·have hp:upd H p (.tup [.str (bI q d),.str Mj,.str Mj]) p=some (.tup [.str (bI q d),.str Mj,.str Mj]):=am;have S1:=ar np (.tup [.str (bI q d),.str Mj,.str Mj]);generalize upd H p (.tup [.str (bI q d),.str Mj,.str Mj])=H1 at hp S1 ⊢;walk_at "";refine bn (SqT.of hp) (v:=.str (bI q d)) rfl ?_;walk_at "";refine⟨q,by rw[show bI q d=a8 q from if_pos e1];rfl,by lia,q1,fun H2 S2=>?_⟩;walk_at "";refine bn (SqT.of (S2 _ _ hp)) (v:=.str Mj) rfl ?_;walk_at "";rw[show decide (Mj=("":Str))=true by decide +kernel];walk_at "";refine rest p H2 _ (S1.trans S2) ?_;rw[e1];rfl
 ·have ep:bI q d=a8 q ++ "/" ++ a8 d:=by
   unfold bI;rw[if_neg e1,NP]
  refine .inl ⟨(a8 q).length,?_,?_,fun p np=>?_⟩
  ·rw[ep];exact eQ _ _ _
  ·rw[ep];exact II wu (rG (by lia))
  ·have es1:strSub (bI q d) 0 (a8 q).length=a8 q:=by rw[ep];exact cZ _ _ _
   have Zp:strSub (bI q d) ((a8 q).length+("/":Str).length) (bI q d).length=a8 d:=by rw[ep];exact dz _ _ _
   rw[es1,Zp];have hp:upd H p (.tup [.str (a8 q),.str "/",.str (a8 d)]) p=some (.tup [.str (a8 q),.str "/",.str (a8 d)]):=am;have S1:=ar np (.tup [.str (a8 q),.str "/",.str (a8 d)]);generalize upd H p (.tup [.str (a8 q),.str "/",.str (a8 d)])=H1 at hp S1 ⊢;walk_at "";refine bn (SqT.of hp) (v:=.str (a8 q)) rfl ?_;walk_at "";refine⟨q,rfl,by lia,q1,fun H2 S2=>?_⟩;walk_at "";refine bn (SqT.of (S2 _ _ hp)) (v:=.str "/") rfl ?_;walk_at "";rw[show decide (("/":Str) = "")=false by decide +kernel];walk_at "";refine bn (SqT.of (S2 _ _ hp)) (v:=.str (a8 d)) rfl ?_;walk_at "";refine⟨d,rfl,by lia,d1,fun H3 S3=>?_⟩;exact rest p H3 _ (S1.trans (S2.trans S3)) rfl
def nZ(K:Fg):Sp:=fun vs H Q _=>∃(v:V) (ws:List Str) (t:Tn),vs=[v,.str (turnT ws t)]/\Rz K H v (.tuple (ws.map Mp))/\WdOk ws/\TtOk ws t/\∀(p:Addr) (H':Hp),Same H H'->Rz K H' (.ref p) (dT t)->Q (.ref p) H'
theorem Es:(cl (" -> ":Str))[0]?=some 32:=by decide +kernel
theorem Er:(cl (" -> ":Str))[1]?=some 45:=by decide +kernel
theorem Ep:(cl (" @ ":Str))[0]?=some 32:=by decide +kernel
theorem Eo:(cl (" @ ":Str))[1]?=some 64:=by decide +kernel
theorem bL(ws:List Str) (t:Tn):turnT ws t=bH ws t.fr ++ " -> " ++ (bH ws t.to ++ " @ " ++ bI t.q t.d):=by
 unfold turnT;rw[NP];simp only[Vx]
theorem xB(ow:WsOk ws)(ok:TtOk ws t):(turnT ws t).length<=200:=by
 have h1:=dR ow ok.1.2;have h2:=dR ow ok.2.1.2;have h3:=g7 ok.2.2;rw[bL,LY,LY,LY,LY,ph,zL];lia
def nB (K:Fg):TS:=(av (aR (lg K "str" B9 (ae 1) (ag (tC (.str " -> ")) aq)) (aH 2))
 (av (aR (lg K "str" B9 (aB (bh K) (ae 2) (tC (.int 2))) (ag (tC (.str " @ ")) aq)) (aH 3))
 (av (aR (a4 (tJ K) [] E0 (ag (aB (bh K) (ae 3) (tC (.int 2))) aq)) (aH 4))
 (av (a6 (bg (aB yT (ae 4) (tC .non)))
 (aY (tC .non))
 a9)
 (av (aR (dX (ag (a4 (oq K) [] E0 (ag (ae 0) (ag (aB (bh K) (ae 2) (tC (.int 0))) aq))) (ag (a4 (oq K) [] E0 (ag (ae 0) (ag (aB (bh K) (ae 3) (tC (.int 0))) aq))) (ag (ae 4) aq)))) (aH 5))
 (av (a6 (bg (aB A0 (a4 (nY K) [] E0 (ag (ae 0) (ag (ae 5) aq))) (ae 1)))
 (aY (tC .non))
 a9)
 (aY (ae 5))))))))
theorem yG{K:Fg}{N:List Str}(hN:N.length=6)(h:nZ K vs H Q E):nB K (ends Q) (L2.start N vs) H:=by
 obtain⟨v,ws,t,rfl,rv,ow,ok,k⟩:=h;rw[L2.bx hN];walk_at "t";have lt:=xB ow.ok ok;have sz:=Tw.szL;have Wn:=cM ow.lt ok.1.2;have hs2:=cM ow.lt ok.2.1.2;unfold nB;walk_at "";refine⟨rfl,?_⟩;walk_at "";refine⟨_," -> ",rfl,rfl,by decide +kernel,by lia,.inl ⟨(bH ws t.fr).length,?_,?_,fun p np=>?_⟩⟩
 ·rw[bL];exact eQ _ _ _
 ·rw[bL];exact mF Es Er (fun z=>by have:=Wn 45 z;lia) (by decide)
 have es1:strSub (turnT ws t) 0 (bH ws t.fr).length=bH ws t.fr:=by rw[bL];exact cZ _ _ _
 have Zp:strSub (turnT ws t) ((bH ws t.fr).length+(" -> ":Str).length) (turnT ws t).length=bH ws t.to ++ " @ " ++ bI t.q t.d:=by rw[bL];exact dz _ _ _
 rw[es1,Zp];have hp:upd H p (.tup [.str (bH ws t.fr),.str " -> ",.str (bH ws t.to ++ " @ " ++ bI t.q t.d)]) p=some (.tup [.str (bH ws t.fr),.str " -> ",.str (bH ws t.to ++ " @ " ++ bI t.q t.d)]):=am;have S1:=ar np (.tup [.str (bH ws t.fr),.str " -> ",.str (bH ws t.to ++ " @ " ++ bI t.q t.d)]);generalize upd H p (.tup [.str (bH ws t.fr),.str " -> ",.str (bH ws t.to ++ " @ " ++ bI t.q t.d)])=H1 at hp S1 ⊢;walk_at "";refine bn (SqT.of hp) (v:=.str (bH ws t.to ++ " @ " ++ bI t.q t.d)) rfl ?_;refine⟨rfl,?_⟩;walk_at "";refine⟨_," @ ",rfl,rfl,by decide +kernel,?_,.inl ⟨(bH ws t.to).length,eQ _ _ _,mF Ep Eo (fun z=>by have:=hs2 64 z;lia) (by decide),fun p2 np2=>?_⟩⟩
 ·rw[bL,LY] at lt;lia
 rw[cZ,dz];have Yc:upd H1 p2 (.tup [.str (bH ws t.to),.str " @ ",.str (bI t.q t.d)]) p2=some (.tup [.str (bH ws t.to),.str " @ ",.str (bI t.q t.d)]):=am;have S2:=ar np2 (.tup [.str (bH ws t.to),.str " @ ",.str (bI t.q t.d)]);generalize upd H1 p2 (.tup [.str (bH ws t.to),.str " @ ",.str (bI t.q t.d)])=H2 at Yc S2 ⊢;have S12:=S1.trans S2;walk_at "";refine bn (SqT.of Yc) (v:=.str (bI t.q t.d)) rfl ?_;walk_at "";refine⟨t.q,t.d,rfl,ok.2.2,fun p3 H3 S3 r3=>?_⟩;have S13:=S12.trans S3;walk_at "";rw[decide_eq_false (fun z:V.ref p3=V.non=>by cases z)];walk_at "";refine bn (SqT.of ((S2.trans S3) _ _ hp)) (v:=.str (bH ws t.fr)) rfl ?_;walk_at "";refine⟨v,ws,t.fr,rfl,rv.same S13,ow,ok.1,fun p4 H4 S4 r4=>?_⟩;walk_at "";refine bn (SqT.of ((S3.trans S4) _ _ Yc)) (v:=.str (bH ws t.to)) rfl ?_;walk_at "";refine⟨v,ws,t.to,rfl,rv.same (S13.trans S4),ow,ok.2.1,fun p5 H5 S5 r5=>?_⟩;walk_at "";refine⟨gu,fun p6 np6=>?_⟩;have S6:=ar np6 (.tup [.ref p4,.ref p5,.ref p3]);have r6:Rz K (upd H5 p6 (.tup [.ref p4,.ref p5,.ref p3])) (.ref p6) (dT t):=.tup am (.cons ((r4.same S5).same S6) (.cons (r5.same S6) (.cons (((r3.same S4).same S5).same S6) .nil)));generalize upd H5 p6 (.tup [.ref p4,.ref p5,.ref p3])=H6 at S6 r6 ⊢;have S16:=S13.trans (S4.trans (S5.trans S6));walk_at "";refine⟨v,.ref p6,ws,t,rfl,rv.same S16,r6,ow.ok,ok,fun H7 S7=>?_⟩;walk_at "";refine CO ?_;rw[decide_eq_true rfl];walk_at "";exact k p6 H7 (S16.trans S7) (r6.same S7)
end Tr2
namespace Cm
end Cm
namespace Cg
end Cg
namespace Bg
end Bg
namespace Gu
end Gu
namespace Tg
open PySem L2 Tp2
open PySem.Builtin.Str (strSub)
abbrev wG(s y:Str):List Str:=Mu s y.length 0 (w4 s y)
theorem AG{a b a' b' y:Str}(h:a++y++b=a'++y++b')(h1:∀k,k<a.length->¬ gN (a++y++b) y k)(h2:∀k,k<a'.length->¬ gN (a'++y++b') y k):a=a'/\b=b':=by
 have o1:=eQ a y b;have o2:=eQ a' y b'
 have l:a.length=a'.length:=by
  rcases Ov a.length a'.length with l|l|l
  ·exact absurd (h ▸ o1) (h2 _ l)
  ·exact l
  ·exact absurd (h ▸ o2) (h1 _ l)
 have e1:=cZ a y b;have e2:=dz a y b;rw[h] at e1 e2;rw[l,cZ] at e1;rw[l,dz] at e2;exact⟨e1.symm,e2.symm⟩
theorem vX{y:Str}(hy:y.length≠0)(h:∀i,¬ gN z y i):wG z y=[z]:=by
 have e:w4 z y=[]:=by
  show P2 z y 0 z.length (z.length+1)=_;rw[o7 (fun i j hi=>absurd hi (h i)) hy];exact Qs.mpr fun i hi=>h i (jw.mp hi)
 show Mu z y.length 0 (w4 z y)=_;rw[e];show[strSub z 0 z.length]=_;rw[Ru]
theorem Df{a b y:Str}(hy:y.length≠0)(h:∀k,gN (a++y++b) y k->k=a.length):wG (a++y++b) y=[a,b]:=by
 have e:w4 (a++y++b) y=[a.length]:=by
  show P2 _ y 0 _ _=_;rw[o7 (fun i j hi hj lt=>absurd lt (by rw[h i hi,h j hj];lia)) hy];refine jR ((Qc).filter _) (List.pairwise_singleton _ _) fun k=>?_
  rw[jw,Lx];exact⟨h k,fun e=>by rw[e];exact eQ a y b⟩
 show Mu _ y.length 0 (w4 _ y)=_;rw[e];show[strSub (a++y++b) 0 a.length,strSub (a++y++b) (a.length+y.length) (a++y++b).length]=_;rw[cZ,dz]
theorem EU{c o:Nat}(hc:(cl y)[o]?=some c)(one:∀j,(cl y)[j]?=some c->j=o)(ha:c∉cl a)(hb:c∉cl b)(h:gN (a++y++b) y k):k=a.length:=by
 have g:=eR h hc;rw[bo,bo] at g;by_cases l1:k+o<(cl a).length
 ·rw[MG,Mf l1] at g;exact absurd (Ll g) ha
 ·by_cases l2:k+o<(cl a).length+(cl y).length
  ·rw[Mf (by rw[LQ];exact l2),Ma (by lia)] at g
   have:=one _ g
   have:=bX a
   lia
  ·rw[Ma (by rw[LQ];lia)] at g;exact absurd (Ll g) hb
theorem ET{c o:Nat}(hc:(cl y)[o]?=some c)(hz:c∉cl z)(k:Nat) : ¬ gN z y k:=fun h=>hz (Ll (eR h hc))
open PySem L2 Fr G1 Sm Vs Tw Tp2 Tr
open Tr2 (Lt Hs cM iQ h_ pC KS KR wu rG kvPW fE pj rM Pt Key b7 ic hX gZ iJ uz WdOk sC Jn CO AS bL Es Er Ep Eo JK JJ JI)
open PySem.W (Dat kqdOk)
def Big:Nat:=10 ^ 300
def val(s:Str):Nat:=NumText.digitsVal (cl s)
theorem uW(k:Nat):val (a8 k)=k:=by
 unfold val;rw[show cl (a8 (k:Int))=_ from Qh k,PySem.W.KIN.val_back]
def uM(q d:Int):Prop:=0<q/\0<d/\Gd.gd q d=1/\q<Big/\d<Big
theorem kb(h:uM q d):∃i j:Nat,q=i/\d=j/\0<i/\0<j/\i<Big/\j<Big:=⟨q.toNat,d.toNat,by have:=h.1;lia,by have:=h.2.1;lia,by have:=h.1;lia,by have:=h.2.1;lia,by have:=h.1;have:=h.2.2.2.1;lia,by have:=h.2.1;have:=h.2.2.2.2;lia⟩
def TtG(ws:List Str)(t:Tn):Prop:=ba ws.length t.fr/\ba ws.length t.to/\uM t.q t.d
end Tg
namespace Tg
open PySem L2 Fr G1 Sm Vs Tw Tp2 Tr
open Tr2 (Lt Hs cM iQ kvPW fE pj rM rN Pt b7 ic hX gZ iJ uz WdOk sC Jn CO AS bL Es Er Ep Eo JK JJ JI)
open PySem.W (Dat kqdOk)
open PySem.Builtin.Str (strSub)
theorem qT(ow:WdOk ws) (oh:ba ws.length h):wG (bH ws h) " + "=(b7 ws h).map (·.1):=by
 have cp:=ic ow.2.2 oh.2
 have YK:∀p∈(b7 ws h).map (·.1),43∉cl p:=fun p hp=>by
  obtain⟨t,ht,rfl⟩:=Ls.mp hp;exact(cp t ht).2.2
 show Mu (bH ws h) pls.length 0 (w4 (bH ws h) pls)=_;rw[hX];show Mu _ pls.length 0 (P2 _ pls 0 _ _)=_;rw[o7 (mP YK) (by decide +kernel)];exact lX YK fun e=>gZ (Nj.mp e)
end Tg
namespace Tg
open PySem L2 Fr G1 Sm Vs Tw Tp2 Tr
open Tr2 (Lt Hs cM WdOk CO bL Es Er Ep Eo)
open Nv (StOk ga Plain Aq okN gQ)
open PySem.W (Dat kqdOk)
theorem GZ{t u:Tn}(h1:t.fr=u.fr)(h2:t.to=u.to)(h3:t.q=u.q)(h4:t.d=u.d):t=u:=by
 cases t;cases u;simp only at h1 h2 h3 h4;subst h1 h2 h3 h4;rfl
end Tg
namespace Tg
open PySem L2 Fr G1 Sm Vs Tw Tp2 Tr
open Tr2 (Lt Hs cM iQ WdOk b7 gY pz Jn)
open PySem.W (Dat kqdOk)
theorem qi{n n':Int}(hw:Lt w)(YF:Lt w')(h0:0<n)(h3:n<=3)(h0':0<n')(h3':n'<=3)(e:bJ w n=bJ w' n'):w=w'/\n=n':=by
 have b2:∀u:Str,32∈cl (("2 ":Str)++u):=fun u=>by rw[bo];exact NT _ (by decide +kernel)
 have b3:∀u:Str,32∈cl (("3 ":Str)++u):=fun u=>by rw[bo];exact NT _ (by decide +kernel)
 have c2:cl ("2 ":Str)=[50,32]:=by decide +kernel
 have c3:cl ("3 ":Str)=[51,32]:=by decide +kernel
 rcases three h0 h3 with rfl|rfl|rfl <;> rcases three h0' h3' with rfl|rfl|rfl <;> simp only[i0,jN,jM] at e
 ·exact⟨e,rfl⟩
 ·exact absurd (e ▸ b2 w') (iQ hw)
 ·exact absurd (e ▸ b3 w') (iQ hw)
 ·exact absurd (e.symm ▸ b2 w) (iQ YF)
 ·have:=congrArg cl e
  rw[bo,bo] at this;exact⟨rZ (RZ this),rfl⟩
 ·have:=congrArg cl e
  rw[bo,bo,c2,c3] at this;cases this
 ·exact absurd (e.symm ▸ b3 w) (iQ YF)
 ·have:=congrArg cl e
  rw[bo,bo,c2,c3] at this;cases this
 ·have:=congrArg cl e
  rw[bo,bo] at this;exact⟨rZ (RZ this),rfl⟩
theorem my{s:Str} (ow:WdOk ws) (oh:ba ws.length h) (e:bH ws h=s) (z:s≠"0"):bf ws h=wG s " + ":=by
 have ne:bf ws h≠[]:=fun q=>z (by rw[<- e];exact if_pos q)
 rw[<- e,qT ow oh];unfold b7;rw[if_neg ne,gY,Ot];rfl
end Tg
namespace Tg
open PySem L2 Fr G1 Sm Vs Tw Tp2 Tr
open Tr2 (Lt Hs cM iQ h_ pC rG wu WdOk bL)
open PySem.W (Dat kqdOk)
theorem G_:∀j,(cl ("/":Str))[j]?=some 47->j=0:=fun j h=>by
 have:=(Ld.mp h).1
 rw[show(cl ("/":Str)).length=1 by decide +kernel] at this;lia
theorem qS(h:uM q d):(d=1/\wG (bI q d) "/"=[a8 q])\/(d≠1/\wG (bI q d) "/"=[a8 q,a8 d]):=by
 have q0:=h.1;have d0:=h.2.1;by_cases z:d=1
 ·refine .inl ⟨z,?_⟩;rw[show bI q d=a8 q from if_pos z];exact vX (by decide +kernel) (FQ wu (rG (by lia)))
 ·refine .inr ⟨z,?_⟩;rw[show bI q d=a8 q ++ "/" ++ a8 d by unfold bI;rw[if_neg z,NP]];exact Df (by decide +kernel) fun k o=>EU wu G_ (rG (by lia)) (rG (by lia)) o
end Tg
namespace Tg
open PySem L2 Fr G1 Sm Vs Tw Tp2 Tr
open Tr2 (Lt Hs cM iQ h_ WdOk bL Es Er Ep Eo)
open PySem.W (Dat kqdOk)
theorem j9:∀{ws:List Str} {h h':List Int},ws.Nodup->(∀w∈ws,Lt w)->ba ws.length h->ba ws.length h'->bf ws h=bf ws h'->h=h'
 |[],h,h',_,_,o,o',_=>by rw[OH.mp o.1,OH.mp o'.1]
 |w :: ws,[],_,_,_,o,_,_=>by cases o.1
 |w :: ws,_ :: _,[],_,_,_,o',_=>by cases o'.1
 |w :: ws,n :: h,n' :: h',nd,lt,o,o',e=>by
  rw[Me] at nd;have on:=o.2 n Lz;have on':=o'.2 n' Lz;have oh:ba ws.length h:=⟨by have:=o.1;rw[L0,L0] at this;lia,fun x hx=>o.2 x (Ly _ hx)⟩
  have oh':ba ws.length h':=⟨by have:=o'.1;rw[L0,L0] at this;lia,fun x hx=>o'.2 x (Ly _ hx)⟩
  have un:∀n (h:List Int),bf (w :: ws) (n :: h)=(if 0<n then some (bJ w n) else none).toList++bf ws h:=fun n h=>by
   unfold bf;rw[Re,M6];split
   ·rename_i z;rw[z];rfl
   ·rename_i z;rw[z];rfl
  have far:∀n (h:List Int) (r:List Str),0<n->n<=3->ba ws.length h->bJ w n :: r≠bf ws h:=fun n h r n0 n3 oh e=>by
   have m:bJ w n∈bf ws h:=by rw[<- e];exact Lz
   obtain⟨q,hq,eq⟩:=M9.mp m;obtain⟨m1,m2⟩:=NF (a:=q.1) (b:=q.2) hq;by_cases z:0<q.2
   ·rw[if_pos z] at eq
    have:=(qi (lt _ (Ly _ m1)) (lt w Lz) z (oh.2 _ m2).2 n0 n3 (LF eq)).1
    exact nd.1 (this ▸ m1)
   ·rw[if_neg z] at eq;cases eq
  rw[un,un] at e;by_cases z:0<n
  ·by_cases z':0<n'
   ·rw[if_pos z,if_pos z'] at e;have e':bJ w n :: bf ws h=bJ w n' :: bf ws h':=e;rw[SE] at e';rw[(qi (lt w Lz) (lt w Lz) z on.2 z' on'.2 e'.1).2,j9 nd.2 (fun x hx=>lt x (Ly _ hx)) oh oh' e'.2]
   ·rw[if_pos z,if_neg z'] at e;exact absurd e (far n h' _ z on.2 oh')
  ·by_cases z':0<n'
   ·rw[if_neg z,if_pos z'] at e;exact absurd e.symm (far n' h _ z' on'.2 oh)
   ·rw[if_neg z,if_neg z'] at e;rw[show n=n' by lia,j9 nd.2 (fun x hx=>lt x (Ly _ hx)) oh oh' e]
theorem lT(ow:WdOk ws) (oh:ba ws.length h) (e:bH ws h = "0"):bf ws h=[]:=by
 by_cases ne:bf ws h=[]
 ·exact ne
 ·have e2:=qT ow oh;rw[e,vX (by decide +kernel) (ET (c:=43) (o:=1) (by decide +kernel) (by decide +kernel))] at e2;unfold Tr2.b7 at e2;rw[if_neg ne,Ot] at e2;have m:("0":Str)∈(Tr2.pz ws h).map ((·.1)∘fun p=>(bJ p.1 p.2,p.1,p.2)):=by rw[<- e2];exact Lz
  obtain⟨q,hq,eq⟩:=Ls.mp m;have hz:=(M0.mp hq).1;have q0:=of_decide_eq_true (M0.mp hq).2;obtain⟨m1,m2⟩:=NF (a:=q.1) (b:=q.2) hz;have s0:bJ q.1 q.2 = "0":=eq;have lw:=(ow.2.2 _ m1).1;rcases three q0 (oh.2 _ m2).2 with z|z|z
  ·rw[z,i0] at s0
   have:=lw 48 (by rw[s0];decide +kernel)
   lia
  ·rw[z,jN] at s0
   have:=congrArg cl s0
   rw[bo,show cl ("2 ":Str)=[50,32] by decide +kernel,show cl ("0":Str)=[48] by decide +kernel] at this;cases this
  ·rw[z,jM] at s0
   have:=congrArg cl s0
   rw[bo,show cl ("3 ":Str)=[51,32] by decide +kernel,show cl ("0":Str)=[48] by decide +kernel] at this;cases this
theorem vM(ow:WdOk ws)(o:ba ws.length h)(o':ba ws.length h')(e:bH ws h=bH ws h'):h=h':=by
 refine j9 ow.1 ow.lt o o' ?_;by_cases z:bH ws h' = "0"
 ·rw[lT ow o' z,lT ow o (e.trans z)]
 ·rw[my ow o e z,my ow o' rfl z]
theorem pE{a b:Nat}(h:a8 (a:Int)=a8 (b:Int)):a=b:=by rw[<- uW a,h,uW]
theorem Cr(o:uM q d)(o':uM q' d')(e:bI q d=bI q' d'):q=q'/\d=d':=by
 have h:=qS o;have h':=qS o';rw[e] at h;obtain⟨a,b,rfl,rfl,_⟩:=kb o;obtain⟨a',b',rfl,rfl,_⟩:=kb o';rcases h with⟨z,h⟩|⟨z,h⟩ <;> rcases h' with⟨z',h'⟩|⟨z',h'⟩ <;> rw[h] at h'
 ·rw[pE (Nc h').1];exact⟨rfl,z.trans z'.symm⟩
 ·exact absurd (congrArg PQ h') (by simp)
 ·exact absurd (congrArg PQ h') (by simp)
 ·rw[SE,SE] at h';rw[pE h'.1,pE h'.2.1];exact⟨rfl,rfl⟩
theorem u_(ow:WdOk ws)(o:TtG ws t)(o':TtG ws t')(e:turnT ws t=turnT ws t'):t=t':=by
 rw[bL,bL] at e;have n45:∀{u:Tn},TtG ws u->45∉cl (bH ws u.fr):=fun o z=>by have:=cM ow.lt o.1.2 45 z;lia
 have n64:∀{u:Tn},TtG ws u->64∉cl (bH ws u.to):=fun o z=>by have:=cM ow.lt o.2.1.2 64 z;lia
 obtain⟨e1,e2⟩:=AG e (mF Es Er (n45 o) (by decide)) (mF Es Er (n45 o') (by decide));obtain⟨e3,e4⟩:=AG e2 (mF Ep Eo (n64 o) (by decide)) (mF Ep Eo (n64 o') (by decide));obtain⟨e5,e6⟩:=Cr o.2.2 o'.2.2 e4;exact GZ (vM ow o.1 o'.1 e1) (vM ow o.2.1 o'.2.1 e3) e5 e6
theorem FE(h:uM q d):∀c∈cl (bI q d),47<=c/\c<=57:=by
 obtain⟨a,b,rfl,rfl,_⟩:=kb h;intro c hc;unfold bI at hc;split at hc
 ·have:=h_ a c hc;lia
 ·rw[NP,bo,bo] at hc;rcases LZ.mp hc with z|z
  ·rcases LZ.mp z with z|z
   ·have:=h_ a c z;lia
   ·rw[show cl ("/":Str)=[47] by decide +kernel,Lx] at z;lia
  ·have:=h_ b c z;lia
end Tg
namespace Tg
open PySem L2 Fr G1 Sm Vs Tw Tp2 Tr
open Tr2 (Lt Hs cM WdOk bL)
open PySem.W (Dat kqdOk)
def fW(K:Fg):Sp:=fun vs H Q _=>∃(a:Addr) (v2:V) (ws:List Str) (h:List Int),vs=[.ref a,v2]/\H a=some (.lst (ws.map V.str))/\Rz K H v2 (dI h)/\WsOk ws/\ba ws.length h/\∀H',Same H H'->Q (.str (bH ws h)) H'
def js(K:Fg):Sp:=fun vs H Q _=>∃(a:Addr) (v2:V) (ws:List Str) (t:Tn),vs=[.ref a,v2]/\H a=some (.lst (ws.map V.str))/\Rz K H v2 (dT t)/\WsOk ws/\TtOk ws t/\∀H',Same H H'->Q (.str (turnT ws t)) H'
def jG(K:Fg):TS:=(av (aR (cX aq) (aH 2))
 (av (eF (iS (ag (bY (cE K) (ag (ae 0) aq)) aq)) (aH 3)
 (a6 (bg (aB GR (aB (bh K) (ae 1) (ae 3)) (tC (.int 0))))
 (dL (lg K "list" di (ae 2) (ag (aB (bz K) (cX (ag (tC (.str "")) (ag (aB (bz K) (ae 0) (ae 3)) (ag (aB f8 (tC (.str "2 ")) (aB (bz K) (ae 0) (ae 3))) (ag (aB f8 (tC (.str "3 ")) (aB (bz K) (ae 0) (ae 3))) aq))))) (aB (bh K) (ae 1) (ae 3))) aq)))
 a9))
 (av (a6 (bg (aB (ua K) (ae 2) (cX aq)))
 (aY (tC (.str "0")))
 a9)
 (aY (lg K "str" (vq K) (tC (.str " + ")) (ag (ae 2) aq))))))
theorem wB{K:Fg}{N:List Str}(hN:N.length=4)(h:fW K vs H Q E):jG K (ends Q) (L2.start N vs) H:=by
 obtain⟨a,v2,ws,h,rfl,ha,r2,ow,oh,k⟩:=h;obtain⟨b,rfl,hb⟩:=eL r2;rw[L2.bx hN];walk_at "t";have w5:=ow.1;unfold jG;walk_at "";refine⟨by decide,fun l nl=>?_⟩;walk_at "";have Sl:=ar nl (.lst []);refine dO (SqL.of (Sl _ _ ha)) ?_;have lm:(ws.map V.str).length=ws.length:=La ..;rw[lm];walk_at "";have lm':((ws.length:Nat):Int).toNat=ws.length:=by lia
 rw[lm'];refine cw (fun i σ H2=>∃u3:Option V,σ=[some (.ref a),some (.ref b),some (.ref l),u3]/\AccZ K H l H2 ((bf (ws.take i) (h.take i)).map Mp)) ⟨none,rfl,AccZ.start (Same.refl _) nl⟩ ?_ ?_
 ·rintro i σ H2 hi ⟨u3,rfl,A⟩;have YE:i<h.length:=by rw[oh.1];exact hi
  have f1:ws[i]?=some ws[i]:=Lb hi;have f2:h[i]?=some h[i]:=Lb YE;have sn:=j_ f1 f2;have on:=oh.2 _ (Qp YE);have lw:=(ow.2 _ (Qp hi)).1;generalize ws[i]=w at f1 sn lw;generalize h[i]=n at f2 sn on;have g1:(ws.map V.str)[i]?=some (.str w):=by rw[Li,f1];rfl
  have g2:(h.map V.int)[i]?=some (.int n):=by rw[Li,f2];rfl
  have YA:=A.same _ _ ha;have ZN:=A.same _ _ hb;walk_at "";refine bn (SqT.of ZN) (v:=.int n) (by rw[Nz];exact bQ g2) ?_;walk_at "";refine bt (fun z=>?_) (fun z=>?_)
  ·walk_at "";refine⟨A.ty,?_⟩;walk_at "";refine bG (SqL.of YA) (v:=.str w) (by rw[Nz];exact bQ g1) ?_;walk_at "";refine bG (SqL.of YA) (v:=.str w) (by rw[Nz];exact bQ g1) ?_;refine fJ (by rw[HN,Tw.szL];lia) ?_;walk_at "";refine bG (SqL.of YA) (v:=.str w) (by rw[Nz];exact bQ g1) ?_;refine fJ (by rw[HM,Tw.szL];lia) ?_;walk_at "";refine⟨EW,fun q nq=>?_⟩;have Sq:=ar nq (.lst [V.str "",.str w,.str (("2 ":Str)++w),.str (("3 ":Str)++w)]);walk_at "";refine bn (SqT.of (Sq _ _ ZN)) (v:=.int n) (by rw[Nz];exact bQ g2) ?_;refine bG (SqL.of am) (Gm z on.2) ?_;walk_at "";refine g_ (A.on Sq) (.str (bJ w n)) (aU ?_) fun H4 A4 _ _ _=>?_
   ·rw[La]
    have:=fX (ws:=ws.take i) (h:=h.take i)
    rw[LG] at this;lia
   walk_at "";refine⟨_,rfl,?_⟩;rw[sn,if_pos z,LD];exact A4
  ·walk_at "";refine⟨_,rfl,?_⟩;rw[sn,if_neg z,Nb];exact A
 ·rintro σ H2 ⟨u3,rfl,A⟩;rw[Lq (Lg _),Lq (by rw[oh.1];exact Lg _)] at A;walk_at "";refine⟨by decide,fun q nq=>?_⟩;have Sq:=ar nq (.lst []);have A2:=A.on Sq;have hD:=AccZ.strs A2
  have okp:kqdOk 8 (.list ((bf ws h).map Mp))=true:=by
   show(((bf ws h).map Mp).all (kqdOk 7))=true;rw[MA];intro x hx;obtain⟨i,hi,rfl⟩:=Ls.mp hx;exact(iH ow oh.2 hi).2
  refine z_ (d:=.list ((bf ws h).map Mp)) (e:=.list []) A2.rep (.lst (SqL.of am) .nil) okp (by decide +kernel) (fun z=>?_) (fun z=>?_)
  ·walk_at ""
   have p:bf ws h=[]:=by
    have:=Vb z
    exact Nj.mp this
   rw[me p] at k;exact k _ A2.same
  ·walk_at "";have p:bf ws h≠[]:=fun q=>z (by rw[q];rfl)
   rw[kI p] at k;refine⟨rfl,?_⟩;walk_at "";exact D_ (SqL.of hD) (rS ow oh.2) (k _ A2.same)
def jF(K:Fg):TS:=(av (aR (bY B2 (ag (aB (bh K) (aB (bh K) (ae 1) (tC (.int 2))) (tC (.int 0))) aq)) (aH 2))
 (av (a6 (bg (aB GR (aB (bh K) (aB (bh K) (ae 1) (tC (.int 2))) (tC (.int 1))) (tC (.int 1))))
 (aR (aB f8 (aB f8 (ae 2) (tC (.str "/"))) (bY B2 (ag (aB (bh K) (aB (bh K) (ae 1) (tC (.int 2))) (tC (.int 1))) aq))) (aH 2))
 a9)
 (av (aR (aB f8 (aB f8 (a4 (fW K) [] E0 (ag (ae 0) (ag (aB (bh K) (ae 1) (tC (.int 0))) aq))) (tC (.str " -> "))) (a4 (fW K) [] E0 (ag (ae 0) (ag (aB (bh K) (ae 1) (tC (.int 1))) aq)))) (aH 3))
 (aY (aB f8 (aB f8 (ae 3) (tC (.str " @ "))) (ae 2))))))
theorem wA{K:Fg}{N:List Str}(hN:N.length=4)(h:js K vs H Q E):jF K (ends Q) (L2.start N vs) H:=by
 obtain⟨g,v2,ws,t,rfl,hg,r2,ow,⟨o1,o2,op⟩,k⟩:=h;obtain⟨a,w1,w2,w3,rfl,ha,q1,q2,q3⟩:=ib r2;obtain⟨c,rfl,hc⟩:=eL q3;rw[L2.bx hN];walk_at "t";have l1:=dR ow o1.2;have l2:=dR ow o2.2;have l3:=g7 op;have lq:=d8 (i:=t.q) (by have:=op.1;lia) op.2.2.2.1;have ld:=d8 (i:=t.d) (by have:=op.2.1;lia) op.2.2.2.2;have sq:=eJ (i:=t.q) (by have:=op.1;lia) op.2.2.2.1;have sd:=eJ (i:=t.d) (by have:=op.2.1;lia) op.2.2.2.2
 have fin:∀D':cq,D'.rt=(ends Q).rt->(av (aR (aB f8 (aB f8 (a4 (fW K) [] E0 (ag (ae 0) (ag (aB (bh K) (ae 1) (tC (.int 0))) aq))) (tC (.str " -> "))) (a4 (fW K) [] E0 (ag (ae 0) (ag (aB (bh K) (ae 1) (tC (.int 1))) aq)))) (aH 3))
   (aY (aB f8 (aB f8 (ae 3) (tC (.str " @ "))) (ae 2)))) D' [some (.ref g),some (.ref a),some (.str (bI t.q t.d)),none] H:=by
  intro D' eD;walk_at "";refine bn (SqT.of ha) (v:=w1) rfl ?_;walk_at "";refine⟨g,w1,ws,t.fr,rfl,hg,q1,ow,o1,fun H1 S1=>?_⟩;walk_at "";refine fJ (by rw[ph,Tw.szL];lia) ?_;walk_at "";refine bn (SqT.of (S1 _ _ ha)) (v:=w2) rfl ?_;walk_at "";refine⟨g,w2,ws,t.to,rfl,S1 _ _ hg,q2.same S1,ow,o2,fun H2 S2=>?_⟩;refine fJ (by rw[LK,ph,Tw.szL];lia) ?_;walk_at "";refine fJ (by rw[LK,LK,ph,zL,Tw.szL];lia) ?_;walk_at "";refine fJ (by rw[LK,LK,LK,ph,zL,Tw.szL];lia) ?_;rw[eD]
  have:=k H2 (S1.trans S2)
  unfold turnT at this;rw[NP] at this;exact this
 unfold jF;walk_at "";refine bn (SqT.of ha) (v:=.ref c) rfl ?_;walk_at "";refine bn (SqT.of hc) (v:=.int t.q) rfl ?_;walk_at "";refine D7 sq ?_;walk_at "";refine bn (SqT.of ha) (v:=.ref c) rfl ?_;walk_at "";refine bn (SqT.of hc) (v:=.int t.d) rfl ?_;walk_at "";refine bt (fun z=>?_) (fun z=>?_)
 ·walk_at "";refine fJ (by rw[zH,Tw.szL];lia) ?_;walk_at "";refine bn (SqT.of ha) (v:=.ref c) rfl ?_;walk_at "";refine bn (SqT.of hc) (v:=.int t.d) rfl ?_;walk_at "";refine D7 sd ?_;refine fJ (by rw[LK,zH,Tw.szL];lia) ?_
  have e:a8 t.q++("/":Str)++a8 t.d=bI t.q t.d:=by
   unfold bI;rw[if_neg (by lia),NP]
  rw[e];exact fin _ rfl
 ·have e:a8 t.q=bI t.q t.d:=by
   unfold bI;rw[if_pos (by have:=op.2.1;lia)]
  rw[e];exact fin _ rfl
end Tg
namespace L2
open PySem PySem.Spec PyProof.Rows
section
variable{K:Fg}{ta tv:TE}{f m:Str}{σ:St}{H:Hp}{Q:VK}{D:cq}{C:Addr}{sp:Sp}{WR:List V}{E:XK}{t:TA}
theorem wX(h:ta σ H fun x H1=>∃a C dx fs v,x=.ref a/\H1 a=some (.ins C dx fs)/\Cls K C/\dy K C f/\fs.lookup f=some v/\Q v H1):cY K ta f σ H Q:=h
theorem mh(h:tv σ H fun y H1=>ta σ H1 fun x H2=>∃a C dx fs,x=.ref a/\H2 a=some (.ins C dx fs)/\Cls K C/\dy K C f/\fs.length<1000/\D.nx σ (upd H2 a (.ins C dx (bE f y fs)))):qG K ta tv f D σ H:=h
theorem wW(h:ta σ H fun x H1=>∃a dx fs,x=.ref a/\H1 a=some (.ins C dx fs)/\fs.lookup m=none/\t σ H1 fun vs H2=>sp (x :: (vs++WR)) H2 Q E):gq C m sp WR E ta t σ H Q:=h
end
end L2
namespace Dk
open PySem L2 Fr G1 Sm Vs
open PySem.W (Dat kqdOk)
local macro_rules | `(tactic| walk_at "d")=>`(tactic| repeat first|fail "1"|with_reducible refine wX ?_|with_reducible refine mh ?_|with_reducible refine wW ?_)
structure Kl (K:Fg) (mg:Str->Option K_) (D:Addr):Prop where
 cl:Cls K D
 mD:mg "Desk"=some (.ref D)
 n1:dy K D "stuffs"
 n2:dy K D "turnings"
 n3:dy K D "pieces"
 n4:dy K D "deeds"
structure Ds where
 dx:Addr
 l:Addr
 ws:List Str
 ts:List Tn
 c:List Int
 n:Nat
abbrev pN (vs vt vp:V) (l:Addr):List (Str×V):=[("stuffs",vs),("turnings",vt),("pieces",vp),("deeds",.ref l)]
structure At (K:Fg) (C:Addr) (H:Hp) (a:Addr) (d:Ds) (vs vt vp:V) (xs:List V):Prop where
 ins:H a=some (.ins C d.dx (pN vs vt vp d.l))
 own:H d.dx=some (.own a)
 lst:H d.l=some (.lst xs)
 len:xs.length=d.n
 s:Rz K H vs (.tuple (d.ws.map Mp))
 t:Rz K H vt (.tuple (d.ts.map dT))
 p:Rz K H vp (dI d.c)
def Desk(K:Fg)(C:Addr)(H:Hp)(a:Addr)(d:Ds):Prop:=∃vs vt vp xs,At K C H a d vs vt vp xs
def Up(M:List Addr)(H H':Hp):Prop:=∀b o,b∉M->H b=some o->H' b=some o
section
variable{K:Fg}{C a:Addr}{H H' H2:Hp}{d:Ds}{vs vt vp:V}{xs:List V}{mg:Str->Option K_}{Q:VK}{M:List Addr}
theorem Up.of_same(e:Same H H'):Up M H H':=fun b o _ q=>e b o q
theorem Up.trans(e:Up M H H')(f:Up M H' H2):Up M H H2:=fun b o n q=>f b o n (e b o n q)
theorem At.same(A:At K C H a d vs vt vp xs)(e:Same H H'):At K C H' a d vs vt vp xs:=⟨e _ _ A.ins,e _ _ A.own,e _ _ A.lst,A.len,A.s.same e,A.t.same e,A.p.same e⟩
theorem Desk.same(A:Desk K C H a d)(e:Same H H'):Desk K C H' a d:=by obtain⟨vs,vt,vp,xs,B⟩:=A;exact⟨vs,vt,vp,xs,B.same e⟩
theorem At.ne(A:At K C H a d vs vt vp xs):a≠d.l:=fun e=>by have:=A.ins;rw[e,A.lst] at this;cases this
theorem Up.agr(e:Up M H H')(h:∀b∈M,∀xs,H b≠some (.tup xs)):Agr (fun _=>False) H H':=⟨fun b xs q=>e b _ (fun z=>h b z xs q) q,fun _ _ z=>z.elim⟩
theorem fS(k:Kl K mg C) (A:At K C H a d vs vt vp xs) {P:V->Prop} (q:P vs):∃a' C' dx fs v,V.ref a=.ref a'/\H a'=some (.ins C' dx fs)/\Cls K C'/\dy K C' "stuffs"/\fs.lookup ("stuffs":Str)=some v/\P v:=⟨a,C,_,_,vs,rfl,A.ins,k.cl,k.n1,rfl,q⟩
theorem fT(k:Kl K mg C) (A:At K C H a d vs vt vp xs) {P:V->Prop} (q:P vt):∃a' C' dx fs v,V.ref a=.ref a'/\H a'=some (.ins C' dx fs)/\Cls K C'/\dy K C' "turnings"/\fs.lookup ("turnings":Str)=some v/\P v:=⟨a,C,_,_,vt,rfl,A.ins,k.cl,k.n2,rfl,q⟩
theorem fP(k:Kl K mg C) (A:At K C H a d vs vt vp xs) {P:V->Prop} (q:P vp):∃a' C' dx fs v,V.ref a=.ref a'/\H a'=some (.ins C' dx fs)/\Cls K C'/\dy K C' "pieces"/\fs.lookup ("pieces":Str)=some v/\P v:=⟨a,C,_,_,vp,rfl,A.ins,k.cl,k.n3,rfl,q⟩
theorem fD(k:Kl K mg C) (A:At K C H a d vs vt vp xs) {P:V->Prop} (q:P (.ref d.l)):∃a' C' dx fs v,V.ref a=.ref a'/\H a'=some (.ins C' dx fs)/\Cls K C'/\dy K C' "deeds"/\fs.lookup ("deeds":Str)=some v/\P v:=⟨a,C,_,_,.ref d.l,rfl,A.ins,k.cl,k.n4,rfl,q⟩
theorem At.nt(A:At K C H a d vs vt vp xs):∀b∈[a,d.l],∀ys,H b≠some (.tup ys):=by
 intro b hb ys e;simp only[Lj,Lp,or_false] at hb;rcases hb with rfl|rfl
 ·rw[A.ins] at e;cases e
 ·rw[A.lst] at e;cases e
theorem At.rz(A:At K C H a d vs vt vp xs)(e:Up [a,d.l] H H')(r:Rz K H v x):Rz K H' v x:=r.agr (e.agr A.nt)
theorem At.dne(A:At K C H a d vs vt vp xs):d.dx≠a/\d.dx≠d.l:=by
 constructor
 ·intro e;have:=A.own;rw[e,A.ins] at this;cases this
 ·intro e;have:=A.own;rw[e,A.lst] at this;cases this
theorem Ho{v:V} :bE "turnings" v (pN vs vt vp l)=pN vs v vp l:=by
 unfold pN;rw[bE,if_neg (by decide),bE,if_pos rfl]
theorem JL{v:V} :bE "pieces" v (pN vs vt vp l)=pN vs vt v l:=by
 unfold pN;rw[bE,if_neg (by decide),bE,if_neg (by decide),bE,if_pos rfl]
end
def iw(K:Fg)(C:Addr):Sp:=fun vs H Q _=>∃(a:Addr) (v1 v2:V) (d:Ds) (ts:List Tn) (c:List Int),vs=[.ref a,v1,v2]/\Desk K C H a d/\Rz K H v1 (.tuple (ts.map dT))/\Rz K H v2 (dI c)/\d.n<1000 /\
 ∀H',Up [a,d.l] H H'->Desk K C H' a {d with ts:=ts,c:=c,n:=d.n+1}->Q .non H'
def xN (K:Fg):TS:=(av (dL (lg K "list" di (cY K (ae 0) "deeds") (ag (dX (ag (cY K (ae 0) "turnings") (ag (cY K (ae 0) "pieces") aq))) aq)))
 (av (qG K (ae 0) (ae 1) "turnings")
 (qG K (ae 0) (ae 2) "pieces")))
theorem Fa{K:Fg}(k:Kl K mg C){N:List Str}(hN:N.length=3)(h:iw K C vs H Q E):xN K (ends Q) (L2.start N vs) H:=by
 obtain⟨a,v1,v2,d,ts,c,rfl,⟨vs,vt,vp,xs,A⟩,r1,r2,n9,q⟩:=h;rw[L2.bx hN];walk_at "t";unfold xN;walk_at "d";refine fD k A ?_;refine⟨CI A.lst,?_⟩;walk_at "d";refine fT k A ?_;walk_at "d";refine fP k A ?_;walk_at "d";refine⟨bq,fun p np=>?_⟩;have S1:Same H (upd H p (.tup [vt,vp])):=ar np _;have A1:=A.same S1;generalize upd H p (.tup [vt,vp])=H1 at S1 A1 ⊢;walk_at "d";refine⟨d.l,xs,_,rfl,rfl,A1.lst,by rw[A.len,Nl];lia,?_⟩;walk_at "d";refine⟨a,C,d.dx,_,rfl,by rw[aC A.ne];exact A1.ins,k.cl,k.n2,by show 4<1000;decide,?_⟩;walk_at "d";refine⟨a,C,d.dx,_,rfl,am,k.cl,k.n3,by rw[Ho];show 4<1000;decide,?_⟩
 have U:Up [a,d.l] H (upd (upd (upd H1 d.l (.lst (xs++[.ref p]))) a (.ins C d.dx (bE "turnings" v1 (pN vs vt vp d.l)))) a (.ins C d.dx (bE "pieces" v2 (bE "turnings" v1 (pN vs vt vp d.l))))):=fun b o nb e=>by
  simp only[Lj,Lp,or_false,not_or] at nb;rw[aC nb.1,aC nb.1,aC nb.2];exact S1 _ _ e
 refine q _ U ⟨vs,v1,v2,xs++[.ref p],⟨?_,?_,?_,?_,A.rz U A.s,A.rz U r1,A.rz U r2⟩⟩
 ·show upd _ a _ a=_;rw[am,Ho,JL]
 ·show upd _ a _ d.dx=_;rw[aC A.dne.1,aC A.dne.1,aC A.dne.2];exact A1.own
 ·show upd _ a _ d.l=_;rw[aC A.ne.symm,aC A.ne.symm,am]
 ·rw[LQ,A.len];rfl
structure GG (ws:List Str):Prop where
 st:Nv.StOk ws
 pl:∀w∈ws,Nv.Plain w
def dM(K:Fg)(C:Addr):Sp:=fun vs H Q _=>∃(a dx b:Addr) (ws:List Str),vs=[.ref a,.ref b]/\H a=some (.ins C dx [])/\H dx=some (.own a)/\SqL K H b (ws.map V.str)/\GG ws /\
 ∀(H':Hp) (l:Addr),H l=none->Up [a] H H'->Desk K C H' a ⟨dx,l,ws,[],LI ws.length 0,0⟩->Q .non H'
theorem uY{K:Fg}{H:Hp}(h:H a=some (.ins C dx fs))(o:HO):Up [a] H (upd H a o)/\∀{v:V} {x:Dat},Rz K H v x->Rz K (upd H a o) v x :=
 ⟨fun b u nb e=>by rw[aC (fun z=>nb (by rw[z];exact Lx.mpr rfl))];exact e,fun r=>r.agr (Agr.FN h (fun _ z=>by cases z) fun z=>z)⟩
def xO (K:Fg) (x:Ex0.Ad):TS:=(av (qG K (ae 0) (a4 (Nv.gQ K x.c1) [] E0 (ag (ae 1) aq)) "stuffs")
 (av (qG K (ae 0) (dX aq) "turnings")
 (av (qG K (ae 0) (aB (Hj K) (dX (ag (tC (.int 0)) aq)) (bY (cE K) (ag (cY K (ae 0) "stuffs") aq))) "pieces")
 (qG K (ae 0) (cX aq) "deeds"))))
theorem Fb{K:Fg}(k:Kl K mg C){N:List Str}(hN:N.length=2)(h:dM K C vs H Q E):xO K x (ends Q) (L2.start N vs) H:=by
 obtain⟨a,dx,b,ws,rfl,ha,X7,hb,wo,q⟩:=h;rw[L2.bx hN];walk_at "t";unfold xO;walk_at "d";refine⟨b,ws,rfl,.inl hb,wo.pl,by have:=wo.st.1.2;lia,fun _ p H1 S1 hp=>?_,fun z=>absurd wo.st z⟩;walk_at "d";refine⟨a,C,dx,[],rfl,S1 _ _ ha,k.cl,k.n1,by decide,?_⟩;have rs1:Rz K H1 (.ref p) (.tuple (ws.map Mp)):=.tup hp (.strs ws);obtain⟨U2,r2⟩:=uY (K:=K) (S1 _ _ ha) (.ins C dx (bE "stuffs" (.ref p) []));have U2:=(Up.of_same S1).trans U2;have rs:=r2 rs1;have i2:upd H1 a (.ins C dx (bE "stuffs" (.ref p) [])) a=some (.ins C dx [("stuffs",.ref p)]):=am;generalize upd H1 a (.ins C dx (bE "stuffs" (.ref p) []))=H2 at U2 rs i2 ⊢;clear r2;walk_at "d";refine⟨by decide,fun p2 n2=>?_⟩;walk_at "d";have S3:Same H2 (upd H2 p2 (.tup [])):=ar n2 _;have rt:Rz K (upd H2 p2 (.tup [])) (.ref p2) (.tuple []):=.tup am .nil;generalize upd H2 p2 (.tup [])=H3 at S3 rt ⊢;refine⟨a,C,dx,_,rfl,S3 _ _ i2,k.cl,k.n2,by show 1<1000;decide,?_⟩;obtain⟨U4,r4⟩:=uY (K:=K) (S3 _ _ i2) (.ins C dx (bE "turnings" (.ref p2) [("stuffs",.ref p)]));have U4:=(U2.trans (Up.of_same S3)).trans U4;have rs:=r4 (rs.same S3);have rt:=r4 rt
 have i4:upd H3 a (.ins C dx (bE "turnings" (.ref p2) [("stuffs",.ref p)])) a=some (.ins C dx [("stuffs",.ref p),("turnings",.ref p2)]):=by
  rw[am,bE,if_neg (by decide),bE]
 generalize upd H3 a (.ins C dx (bE "turnings" (.ref p2) [("stuffs",.ref p)]))=H4 at U4 rs rt i4 ⊢;clear r4;walk_at "d";refine⟨by decide,fun p3 n3=>?_⟩;walk_at "d";have S5:Same H4 (upd H4 p3 (.tup [.int 0])):=ar n3 _;have h3:upd H4 p3 (.tup [.int 0]) p3=some (.tup [.int 0]):=am;generalize upd H4 p3 (.tup [.int 0])=H5 at S5 h3 ⊢;refine⟨a,C,dx,_,_,rfl,S5 _ _ i4,k.cl,k.n1,rfl,?_⟩;walk_at "d";obtain⟨p',xs,e,hp5,rx5⟩:=(rs.same S5).cC;cases e;have ex:=rx5.gt;subst ex;refine kG (SqT.of hp5) ?_;have h15:=wo.st.1;refine⟨p3,.int 0,ws.length,rfl,by rw[La],h3,h15.1,h15.2,fun l6 H6 S6 h6=>?_⟩;have Zz:=S5.trans S6;walk_at "d";refine⟨a,C,dx,_,rfl,Zz _ _ i4,k.cl,k.n3,by show 2<1000;decide,?_⟩
 have rp:Rz K H6 (.ref l6) (dI (LI ws.length 0)):=.tup h6 (by
  have:=RpL.ints (K:=K) (S:=F0) (H:=H6) (LI ws.length 0)
  rwa [List.map_replicate] at this)
 obtain⟨U7,r7⟩:=uY (K:=K) (Zz _ _ i4) (.ins C dx (bE "pieces" (.ref l6) [("stuffs",.ref p),("turnings",.ref p2)]));have U7:=(U4.trans (Up.of_same Zz)).trans U7;have rs:=r7 (rs.same Zz);have rt:=r7 (rt.same Zz);have rp:=r7 rp
 have i7:upd H6 a (.ins C dx (bE "pieces" (.ref l6) [("stuffs",.ref p),("turnings",.ref p2)])) a=some (.ins C dx [("stuffs",.ref p),("turnings",.ref p2),("pieces",.ref l6)]):=by
  rw[am,bE,if_neg (by decide),bE,if_neg (by decide),bE]
 generalize upd H6 a (.ins C dx (bE "pieces" (.ref l6) [("stuffs",.ref p),("turnings",.ref p2)]))=H7 at U7 rs rt rp i7 ⊢;clear r7;walk_at "d";refine⟨by decide,fun l nl=>?_⟩;walk_at "d";have S8:Same H7 (upd H7 l (.lst [])):=ar nl _;have hl:upd H7 l (.lst []) l=some (.lst []):=am;generalize upd H7 l (.lst [])=H8 at S8 hl ⊢;refine⟨a,C,dx,_,rfl,S8 _ _ i7,k.cl,k.n4,by show 3<1000;decide,?_⟩;obtain⟨U9,r9⟩:=uY (K:=K) (S8 _ _ i7) (.ins C dx (bE "deeds" (.ref l) [("stuffs",.ref p),("turnings",.ref p2),("pieces",.ref l6)]));have la:l≠a:=fun z=>by rw[z,i7] at nl;cases nl
 have dna:dx≠a:=fun z=>by rw[z,ha] at X7;cases X7
 have nb:∀{b:Addr},b≠a->b∉[a]:=fun h z=>h (Lx.mp z)
 have U89:Up [a] H (upd H8 a (.ins C dx (bE "deeds" (.ref l) [("stuffs",.ref p),("turnings",.ref p2),("pieces",.ref l6)]))):=(U7.trans (Up.of_same S8)).trans U9;refine q _ l ?_ U89 ⟨.ref p,.ref p2,.ref l6,[],⟨?_,?_,?_,rfl,r9 (rs.same S8),r9 (rt.same S8),r9 (rp.same S8)⟩⟩
 ·cases z:H l with
  |none=>rfl
  |some o=>have:=U7 _ _ (nb la) z;rw[nl] at this;cases this
 ·rw[am,bE,if_neg (by decide),bE,if_neg (by decide),bE,if_neg (by decide),bE]
 ·exact U89 _ _ (nb dna) X7
 ·show upd _ a _ l=_;rw[aC la];exact hl
def jr(K:Fg)(C:Addr):Sp:=fun vs H Q _=>∃(a:Addr) (d:Ds),vs=[.ref a]/\Desk K C H a d/\Tw.WsOk d.ws/\d.ts.length<=8/\(∀t∈d.ts,Tw.TtOk d.ws t) /\
 ∀(p:Addr) (H':Hp),AccZ K H p H' ((d.ts.map (Tw.turnT d.ws)).map Mp)->Q (.ref p) H'
def sN (K:Fg):TS:=(aY (gr (kK K (cY K (ae 0) "turnings")) (a4 (Tw.nY K) [] E0 (ag (cY K (ae 1) "stuffs") (ag (ae 0) aq)))))
theorem BJ{K:Fg}(k:Kl K mg C){N:List Str}(hN:N.length=1)(h:jr K C vs H Q E):sN K (ends Q) (L2.start N vs) H:=by
 obtain⟨a,d,rfl,⟨vs,vt,vp,xs,A⟩,wo,l8,to,q⟩:=h;rw[L2.bx hN];walk_at "t";obtain⟨b,ys,rfl,hb,rx⟩:=A.t.cC;unfold sN;walk_at "d";refine fT k A ⟨b,rfl,⟨_,SqT.of hb⟩,?_⟩;refine Tw.Bn ⟨wo,l8,to⟩ hb rx (fun H2 z t Q' S2 rz ot q'=>?_) q;walk_at "d";refine fS k (A.same S2) ?_;walk_at "d";exact⟨vs,z,d.ws,t,rfl,A.s.same S2,rz,wo,ot,q'⟩
theorem RzL.of_get{K:Fg}{H:Hp}:∀{vs:List V} {ds:List Dat},vs.length=ds.length->(∀(i:Nat) (d:Dat),ds[i]?=some d->∃v,vs[i]?=some v/\Rz K H v d)->RzL K H vs ds
 |[],[],_,_=>.nil
 |[],_ :: _,h,_=>by cases h
 |_ :: _,[],h,_=>by cases h
 |v :: vs,d :: ds,h,g=>by
  obtain⟨w,e,r⟩:=g 0 d rfl;cases e;exact .cons r (RzL.of_get (MP h) fun i e he=>g (i+1) e he)
def dP(p:Str×Int):Dat:=.tuple [.str p.1,.int p.2]
def nV(K:Fg)(C:Addr):Sp:=fun vs H Q _=>∃(a:Addr) (d:Ds),vs=[.ref a]/\Desk K C H a d/\d.ws.length=d.c.length/\d.ws.length<=5 /\
 ∀(p:Addr) (H':Hp),AccZ K H p H' ((d.ws.zip d.c).map dP)->Q (.ref p) H'
def tq (K:Fg):TS:=(aY (nQ (ag (cY K (ae 0) "stuffs") (ag (cY K (ae 0) "pieces") aq))))
theorem zX{ta:TA}{H:Hp}{Q:VK}(h:ta σ H fun vs H1=>∃a b xv yv,vs=[.ref a,.ref b]/\H1 a=some (.tup xv)/\H1 b=some (.tup yv)/\xv.length=yv.length/\xv.length<=1000 /\
 ∀S Xe H',H1 S=none->Same H1 H'->H' S=some (.lst Xe)->Xe.length=xv.length->Jb H' xv yv xv.length Xe->Q (.ref S) H'):nQ ta σ H Q:=h
theorem BW{K:Fg}(k:Kl K mg C){N:List Str}(hN:N.length=1)(h:nV K C vs H Q E):tq K (ends Q) (L2.start N vs) H:=by
 obtain⟨a,d,rfl,⟨vs,vt,vp,xs,A⟩,el,l5,q⟩:=h;obtain⟨b,ys,rfl,hb,rx⟩:=A.s.cC;have ey:=rx.gt;subst ey;obtain⟨c,zs,rfl,hc,rz⟩:=(show Rz K H vp (.tuple (d.c.map NG)) from A.p).cC;have ez:=rz.ints_of;subst ez;rw[L2.bx hN];walk_at "t";unfold tq;walk_at "d";refine zX ?_;walk_at "d";refine fS k A ?_;walk_at "d";refine fP k A ?_;walk_at "d";refine⟨b,c,_,_,rfl,hb,hc,by rw[La,La];exact el,by rw[La];lia,fun S Xe H' nS sm hS lv pr=>q S H' ⟨sm,nS,Xe,hS,RzL.of_get ?_ fun i e he=>?_⟩⟩
 ·rw[lv,La,La,Om];lia
 ·rw[Li] at he;obtain⟨p,hp,rfl⟩:=Ln.mp he;obtain⟨w,n⟩:=p;obtain⟨e1,e2⟩:=MU.mp hp;have li:=(Ld.mp e1).1;obtain⟨T,p1,p2⟩:=pr i (.str w) (.int n) (by rw[La];exact li) (by rw[Li,e1];rfl) (by rw[Li,e2];rfl);exact⟨.ref T,p1,.tup p2 (.cons (.str _) (.cons (.int _) .nil))⟩
structure DOk (d:Ds):Prop where
 st:Nv.StOk d.ws
 pl:∀w∈d.ws,Nv.Plain w
 wd:Tr2.WdOk d.ws
 ln:d.c.length=d.ws.length
 tt:∀t∈d.ts,Tw.TtOk d.ws t
 ck:d.ts=[]\/Nv.ga d.ts
theorem DOk.l8(o:DOk d):d.ts.length<=8:=by
 rcases o.ck with z|z
 ·rw[z];decide
 ·exact z.2.1
theorem vg(h:∀c∈Tp2.cl s,c<128):NR s=true:=by
 unfold NR;rw[MI];intro c hc
 have:=h c (by simpa using hc)
 exact decide_eq_true (by lia)
theorem Hw(h:ie q d):Tg.uM q d:=by
 have b:(10000000000:Int)<(Tg.Big:Int):=by unfold Tg.Big;decide +kernel
 exact⟨h.1,h.2.1,h.2.2.1,by have:=h.2.2.2.1;lia,by have:=h.2.2.2.2;lia⟩
theorem Bk(o:Tw.TtOk ws t):Tg.TtG ws t:=⟨o.1,o.2.1,Hw o.2.2⟩
theorem xA(ow:Tr2.WdOk ws)(o:Tw.TtOk ws t):kqdOk 7 (.str (Tw.turnT ws t))=true:=by
 refine vg fun c hc=>?_
 rw[Tr2.bL,Tp2.bo,Tp2.bo,Tp2.bo,Tp2.bo] at hc
 have hh:∀{h:List Int},ba ws.length h->c∈Tp2.cl (Tw.bH ws h)->c<128:=fun oh z=>by
  have:=Tr2.cM ow.lt oh.2 c z
  lia
 simp only[LZ] at hc;rcases hc with(z|z)|(z|z)|z
 ·exact hh o.1 z
 ·rw[show Tp2.cl (" -> ":Str)=[32,45,62,32] by decide +kernel] at z;simp only[Lj,Lp,or_false] at z;lia
 ·exact hh o.2.1 z
 ·rw[show Tp2.cl (" @ ":Str)=[32,64,32] by decide +kernel] at z;simp only[Lj,Lp,or_false] at z;lia
 ·have:=Tg.FE (Hw o.2.2) c z;lia
open Dn (AQ xf pr)
local macro_rules | `(tactic| walk_at "d")=>`(tactic| repeat first|fail "1"|with_reducible refine wX ?_|with_reducible refine mh ?_|with_reducible refine wW ?_)
def first(ts:List Tn)(t:Tn)(j:Nat):Prop:=ts[j]?=some t/\∀m,m<j->ts[m]?≠some t
theorem vT:∀{ts:List Tn} {t:Tn},t∈ts->∃j,first ts t j
 |[],_,h=>by cases h
 |u :: ts,t,h=>by
  by_cases e:u=t
  ·exact⟨0,by rw[e];rfl,fun m hm=>absurd hm (SB _)⟩
  ·obtain⟨j,h1,h2⟩:=vT (ts:=ts) (t:=t) (by rcases Lj.mp h with z|z;exact absurd z.symm e;exact z);refine⟨j+1,h1,fun m hm=>?_⟩;cases m with
   |zero=>exact fun z=>e (LF z)
   |succ m=>exact h2 m (by lia)
def eM(K:Fg)(C:Addr)(x:Ex0.Ad):Sp:=fun vs H Q E=>∃(a:Addr) (d:Ds) (t:Tn),vs=[.ref a,.str (Tw.turnT d.ws t)]/\Desk K C H a d/\DOk d/\Tw.TtOk d.ws t /\
 (∀(j:Nat) (H':Hp),first d.ts t j->Same H H'->Q (.int j) H')/\(t∉d.ts->∀H',Same H H'->E (.ref x.c5) none H')
theorem ve{ts:List Tn}(ow:Tr2.WdOk ws)(o:∀u∈ts,Tw.TtOk ws u)(ot:Tw.TtOk ws t):Mp (Tw.turnT ws t)∈(ts.map (Tw.turnT ws)).map Mp↔t∈ts:=by
 constructor
 ·intro h;obtain⟨s,hs,e⟩:=Ls.mp h;obtain⟨u,hu,e2⟩:=Ls.mp hs;rw[<- Tg.u_ ow (Bk (o u hu)) (Bk ot) (e2.trans (Tx e))];exact hu
 ·intro h;exact Ls.mpr ⟨_,Ls.mpr ⟨t,h,rfl⟩,rfl⟩
def jE (K:Fg) (dD:Addr) (E:XK) (x:Ex0.Ad):TS:=(av (aR (gq dD "texts" (jr K dD) [] E0 (ae 0) aq) (aH 2))
 (av (a6 (bg (aB (qM K true) (ae 1) (ae 2)))
 (eZ E x.c5 (tC (.str "no turning with this text lies there")))
 a9)
 (aY (lg K "list" (yV K) (ae 2) (ag (ae 1) aq)))))
theorem wz{K:Fg}(k:Kl K mg C){N:List Str}(hN:N.length=3)(h:eM K C x vs H Q E):jE K C E x (ends Q) (L2.start N vs) H:=by
 obtain⟨a,d,t,rfl,Dd,o,ot,q,qe⟩:=h;obtain⟨vs,vt,vp,xs,A⟩:=id Dd;rw[L2.bx hN];walk_at "t";unfold jE;walk_at "d";refine⟨a,d.dx,_,rfl,A.ins,rfl,?_⟩;walk_at "d";refine⟨a,d,rfl,Dd,o.wd.ok,o.l8,o.tt,fun p H1 A1=>?_⟩;walk_at "d"
 have ka:∀e∈((d.ts.map (Tw.turnT d.ws)).map Mp),kqdOk 8 e=true:=fun e he=>by
  obtain⟨s,hs,rfl⟩:=Ls.mp he;obtain⟨u,hu,rfl⟩:=Ls.mp hs;exact xA o.wd (o.tt u hu)
 have kd:kqdOk 8 (.str (Tw.turnT d.ws t))=true:=xA o.wd ot;refine vI (d:=.str (Tw.turnT d.ws t)) (.str _) A1.rep ka kd (fun z=>?_) (fun z=>?_)
 ·walk_at "d";exact⟨rfl,qe (fun m=>z ((ve o.wd o.tt ot).mpr m)) H1 A1.same⟩
 ·walk_at "d";refine⟨A1.ty,?_⟩;walk_at "d";obtain⟨j,h1,h2⟩:=vT ((ve o.wd o.tt ot).mp z);refine F8 (d:=.str (Tw.turnT d.ws t)) (j:=j) (.str _) A1.rep ka kd (by rw[Li,Li,h1];rfl) (fun m hm e=>h2 m hm ?_) (by rw[La,La];have:=o.l8;lia) (q j H1 ⟨h1,h2⟩ A1.same);rw[Li,Li] at e;cases g:d.ts[m]? with
  |none=>rw[g] at e;cases e
  |some u =>
   rw[g] at e;rw[Tg.u_ o.wd (Bk (o.tt u (Ll g))) (Bk ot) (Tx (LF e))]
def yc(K:Fg)(C:Addr)(x:Ex0.Ad):Sp:=fun vs H Q E=>∃(a:Addr) (d:Ds) (t:Tn),vs=[.ref a,.str (Tw.turnT d.ws t)]/\Desk K C H a d/\DOk d/\d.n<1000/\Tw.TtOk d.ws t /\
 (Nv.ga (d.ts++[t])->∀H',Up [a,d.l] H H'->Desk K C H' a {d with ts:=d.ts++[t],n:=d.n+1}->Q .non H')/\(¬ Nv.ga (d.ts++[t])->∀H',Same H H'->E (.ref x.c4) none H')
def EH (K:Fg) (dD:Addr) (E:XK) (x:Ex0.Ad):TS:=(av (aR (a4 (Tr2.nZ K) [] E0 (ag (cY K (ae 0) "stuffs") (ag (ae 1) aq))) (aH 2))
 (av (a6 (bg (aB yT (ae 2) (tC .non)))
 gO
 a9)
 (av (aR (aB (yW K) (cY K (ae 0) "turnings") (dX (ag (ae 2) aq))) (aH 3))
 (av (dL (a4 (Nv.oy K x.c4) [] E (ag (ae 3) aq)))
 (dL (gq dD "keep" (iw K dD) [] E0 (ae 0) (ag (ae 3) (ag (cY K (ae 0) "pieces") aq))))))))
theorem He{K:Fg}(k:Kl K mg C){N:List Str}(hN:N.length=4)(h:yc K C x vs H Q E):EH K C E x (ends Q) (L2.start N vs) H:=by
 obtain⟨a,d,t,rfl,Dd,o,n9,ot,q,qe⟩:=h;obtain⟨vs,vt,vp,xs,A⟩:=id Dd;obtain⟨b,ys,rfl,hb,rx⟩:=A.t.cC;have ly:ys.length=d.ts.length:=by rw[rx.length,La]
 have l8:=o.l8;rw[L2.bx hN];walk_at "t";unfold EH;walk_at "d";refine fS k A ?_;walk_at "d";refine⟨vs,d.ws,t,rfl,A.s,o.wd,ot,fun p H1 S1 rp=>?_⟩;walk_at "d";rw[decide_eq_false (show ¬ V.ref p=V.non from fun z=>by cases z)];walk_at "d";refine fT k (A.same S1) ?_;walk_at "d";refine⟨jS,fun p2 n2=>?_⟩;have S2:=ar n2 (.tup [.ref p]);have h2:upd H1 p2 (.tup [.ref p]) p2=some (.tup [.ref p]):=am;generalize upd H1 p2 (.tup [.ref p])=H2 at S2 h2 ⊢;have S02:=S1.trans S2;refine⟨b,p2,ys,_,rfl,rfl,S02 _ _ hb,h2,by rw[ly,Nl];simp only[L9];lia,fun l H3 S3 hl=>?_⟩;have S03:=S02.trans S3;walk_at "d";have rl:Rz K H3 (.ref l) (.tuple ((d.ts++[t]).map dT)):=.tup hl (by rw[LD];exact(rx.same S03).append (.cons (rp.same (S2.trans S3)) .nil));refine⟨.ref l,d.ts++[t],rfl,rl,by rw[LQ];simp only[L9];lia,fun ok H4 S4=>?_,fun no H4 S4=>qe no H4 (S03.trans S4)⟩;have XH:=S03.trans S4;walk_at "d";refine⟨a,d.dx,_,rfl,XH _ _ A.ins,rfl,?_⟩;walk_at "d";refine fP k (A.same XH) ?_;walk_at "d";exact⟨a,.ref l,vp,d,d.ts++[t],d.c,rfl,Dd.same XH,rl.same S4,A.p.same XH,n9,fun H' U D'=>q ok H' ((Up.of_same XH).trans U) D'⟩
def tF(K:Fg)(C:Addr)(x:Ex0.Ad):Sp:=fun vs H Q E=>∃(a:Addr) (d:Ds) (t:Tn),vs=[.ref a,.str (Tw.turnT d.ws t)]/\Desk K C H a d/\DOk d/\d.n<1000/\Tw.TtOk d.ws t /\
 (∀(j:Nat) (H':Hp),first d.ts t j->Up [a,d.l] H H'->Desk K C H' a {d with ts:=d.ts.take j++d.ts.drop (j+1),n:=d.n+1}->Q .non H')/\(t∉d.ts->∀H',Same H H'->E (.ref x.c5) none H')
def xG (K:Fg) (dD:Addr) (E:XK) (x:Ex0.Ad):TS:=(av (aR (gq dD "place_of" (eM K dD x) [] E (ae 0) (ag (ae 1) aq)) (aH 2))
 (dL (gq dD "keep" (iw K dD) [] E0 (ae 0) (ag (aB (yW K) (tw (j6 K) (cY K (ae 0) "turnings") dh (fh (ae 2))) (tw (j6 K) (cY K (ae 0) "turnings") (fh (aB cT (ae 2) (tC (.int 1)))) dh)) (ag (cY K (ae 0) "pieces") aq)))))
theorem E4{K:Fg}(k:Kl K mg C){N:List Str}(hN:N.length=3)(h:tF K C x vs H Q E):xG K C E x (ends Q) (L2.start N vs) H:=by
 obtain⟨a,d,t,rfl,Dd,o,n9,ot,q,qe⟩:=h;obtain⟨vs,vt,vp,xs,A⟩:=id Dd;obtain⟨b,ys,rfl,hb,rx⟩:=A.t.cC;have ly:ys.length=d.ts.length:=by rw[rx.length,La]
 have l8:=o.l8;rw[L2.bx hN];walk_at "t";unfold xG;walk_at "d";refine⟨a,d.dx,_,rfl,A.ins,rfl,?_⟩;walk_at "d";refine⟨a,d,t,rfl,Dd,o,ot,fun j H1 fj S1=>?_,qe⟩;have lj:j<d.ts.length:=(Ld.mp fj.1).1;have A1:=A.same S1;walk_at "d";refine⟨a,d.dx,_,rfl,A1.ins,rfl,?_⟩;walk_at "d";refine fT k A1 ?_;walk_at "d"
 refine zW (SqT.of (S1 _ _ hb)) (by
  intro z
  have:=z.2
  rw[HT.iF] at this
  lia) fun p np=>?_
 rw[Nv.vY (by lia)];have S2:=ar np (.tup (ys.take (j:Int).toNat));have h2:upd H1 p (.tup (ys.take (j:Int).toNat)) p=some (.tup (ys.take (j:Int).toNat)):=am;generalize upd H1 p (.tup (ys.take (j:Int).toNat))=H2 at S2 h2 ⊢;have A2:=A1.same S2;walk_at "d";refine fT k A2 ?_;walk_at "d"
 refine zW (SqT.of (S2 _ _ (S1 _ _ hb))) (by
  intro z
  have:=z.1
  rw[show(j:Int)+1=((j+1:Nat):Int) by lia,HT.iF] at this
  lia) fun p2 np2=>?_
 rw[Nv.v0 (by lia),show((j:Int)+1).toNat=j+1 by lia,MT] at *;have S3:=ar np2 (.tup (ys.drop (j+1)));have h3:upd H2 p2 (.tup (ys.drop (j+1))) p2=some (.tup (ys.drop (j+1))):=am;generalize upd H2 p2 (.tup (ys.drop (j+1)))=H3 at S3 h3 ⊢;refine⟨p,p2,_,_,rfl,rfl,S3 _ _ h2,h3,by rw[LG,MR,Nl];lia,fun l H4 S4 hl=>?_⟩;have XH:=S1.trans (S2.trans (S3.trans S4));walk_at "d";refine fP k (A.same XH) ?_;walk_at "d"
 have rl:Rz K H4 (.ref l) (.tuple ((d.ts.take j++d.ts.drop (j+1)).map dT)):=.tup hl (by
  rw[LD,Ug,Uh]
  exact((rx.same XH).take j).append ((rx.same XH).drop (j+1)))
 exact⟨a,.ref l,vp,d,_,d.c,rfl,Dd.same XH,rl,A.p.same XH,n9,fun H' U D'=>q j H' fj ((Up.of_same XH).trans U) D'⟩
theorem CM{K:Fg}{E:XK}{D:cq}(s:sA K C)(a:sB K C f)(k:∀dx H',Same H H'->E (.ref C) (some dx) H'):jJ E C (qm K C f) (tC (.int 0)) D σ H:=by
 obtain⟨v,e,h⟩:=CL (K:=K) (E:=E) (D:=D) (i:=0) (σ:=[some (.int ((0:Nat):Int))]) (H:=H) (n:=0) s a rfl (by decide) fun dx H' S _=>k dx H' S
 cases e;exact h
def tE (K:Fg) (C:Addr) (x:Ex0.Ad):Sp:=fun vs H Q E=>∃(a:Addr) (d:Ds) (t:Tn),vs=[.ref a,.str (Tw.turnT d.ws t)]/\Desk K C H a d/\DOk d/\d.n<1000/\Tw.TtOk d.ws t/\sA K x.c7/\sB K x.c7 "at" /\
 (t∈d.ts->AQ (pr t) d.c=true->∀H',Up [a,d.l] H H'->Desk K C H' a {d with c:=xf (pr t) d.c,n:=d.n+1}->Q .non H')/\(t∉d.ts->∀H',Same H H'->E (.ref x.c5) none H') /\
 (t∈d.ts->AQ (pr t) d.c=false->∀dx H',Same H H'->E (.ref x.c7) (some dx) H')
def xF (K:Fg) (dD:Addr) (E:XK) (x:Ex0.Ad):TS:=(av (aR (aB (bh K) (cY K (ae 0) "turnings") (gq dD "place_of" (eM K dD x) [] E (ae 0) (ag (ae 1) aq))) (aH 2))
 (av (a6 (dJ (tB (a4 (Wd.yk K) [] E0 (ag (ae 2) (ag (cY K (ae 0) "pieces") aq)))))
 (jJ E x.c7 (qm K x.c7 "at") (tC (.int 0)))
 a9)
 (dL (gq dD "keep" (iw K dD) [] E0 (ae 0) (ag (cY K (ae 0) "turnings") (ag (a4 (Wd.yj K) [] E0 (ag (ae 2) (ag (cY K (ae 0) "pieces") aq))) aq))))))
theorem E3{K:Fg}(k:Kl K mg C){N:List Str}(hN:N.length=3)(h:tE K C x vs H Q E):xF K C E x (ends Q) (L2.start N vs) H:=by
 obtain⟨a,d,t,rfl,Dd,o,n9,ot,hS,hF,q,qe,qn⟩:=h;obtain⟨vs,vt,vp,xs,A⟩:=id Dd;obtain⟨b,ys,rfl,hb,rx⟩:=A.t.cC;have ly:ys.length=d.ts.length:=by rw[rx.length,La]
 rw[L2.bx hN];walk_at "t";unfold xF;walk_at "d";refine fT k A ?_;walk_at "d";refine⟨a,d.dx,_,rfl,A.ins,rfl,?_⟩;walk_at "d";refine⟨a,d,t,rfl,Dd,o,ot,fun j H1 fj S1=>?_,qe⟩;have lj:j<d.ts.length:=(Ld.mp fj.1).1;have mt:t∈d.ts:=Ll fj.1;have gy:ys[j]?=some ys[j]:=Lb (by lia);obtain⟨dd,g1,rz⟩:=rx.get gy;rw[Li,fj.1] at g1;cases LF g1;refine bn (SqT.of (S1 _ _ hb)) (v:=ys[j]) (bQ gy) ?_;walk_at "d";refine fP k (A.same S1) ?_;walk_at "d";have l1:t.fr.length=d.c.length:=by rw[o.ln];exact ot.1.1
 have l2:t.to.length=d.c.length:=by rw[o.ln];exact ot.2.1.1
 have l5:=o.st.1.2;have ln:=o.ln;refine⟨ys[j],vp,t,d.c,rfl,rz.same S1,A.p.same S1,by lia,fun H2 S2=>?_⟩;have S02:=S1.trans S2;cases hc:AQ (pr t) d.c with
 |false =>
  walk_at "d";exact CM hS hF fun dx H' S'=>qn mt hc dx H' (S02.trans S')
 |true =>
  walk_at "d";refine⟨a,d.dx,_,rfl,S02 _ _ A.ins,rfl,?_⟩;walk_at "d";refine fT k (A.same S02) ?_;walk_at "d";refine fP k (A.same S02) ?_;walk_at "d";refine⟨ys[j],vp,t,d.c,rfl,rz.same S02,A.p.same S02,l1,l2,by lia,fun p H3 S3 rp=>?_⟩;have S03:=S02.trans S3;walk_at "d";exact⟨a,.ref b,.ref p,d,d.ts,_,rfl,Dd.same S03,A.t.same S03,rp,n9,fun H' U D'=>q mt hc H' ((Up.of_same S03).trans U) D'⟩
def tG(K:Fg)(C:Addr)(x:Ex0.Ad):Sp:=fun vs H Q E=>∃(a:Addr) (d:Ds) (i:Nat) (w:Str) (c n:Int),vs=[.ref a,.str w,.int n]/\Desk K C H a d/\DOk d/\d.n<1000/\d.ws[i]?=some w/\d.c[i]?=some c /\
 (0<=c+n->∀H',Up [a,d.l] H H'->Desk K C H' a {d with c:=d.c.set i (c+n),n:=d.n+1}->Q .non H')/\(c+n<0->∀H',Same H H'->E (.ref x.c12) none H')
def xI (K:Fg) (dD:Addr) (E:XK) (x:Ex0.Ad):TS:=(av (a6 (bg (aB (yR K) (ae 1) (cY K (ae 0) "stuffs")))
 gO
 a9)
 (av (aR (ER (yU K) (cY K (ae 0) "stuffs") (ag (ae 1) aq)) (aH 3))
 (av (aR (bY (oN K) (ag (cY K (ae 0) "pieces") aq)) (aH 4))
 (av (aR (aB cT (aB (bz K) (ae 4) (ae 3)) (ae 2)) (C6 (ae 4) (ae 3) Fo))
 (av (a6 (bg (aB B_ (aB (bz K) (ae 4) (ae 3)) (tC (.int 0))))
 (eZ E x.c12 (tC (.str "there would be fewer pieces than none")))
 a9)
 (dL (gq dD "keep" (iw K dD) [] E0 (ae 0) (ag (cY K (ae 0) "turnings") (ag (bY (dv K) (ag (ae 4) aq)) aq)))))))))
theorem E6{K:Fg}(k:Kl K mg C){N:List Str}(hN:N.length=5)(h:tG K C x vs H Q E):xI K C E x (ends Q) (L2.start N vs) H:=by
 obtain⟨a,d,i,w,c,n,rfl,Dd,o,n9,hw,hc,q,qe⟩:=h;obtain⟨vs,vt,vp,xs,A⟩:=id Dd;obtain⟨b,ys,rfl,hb,rx⟩:=A.s.cC;have ey:=rx.gt;subst ey;obtain⟨pc,zs,rfl,hpc,rz⟩:=(show Rz K H vp (.tuple (d.c.map NG)) from A.p).cC;have ez:=rz.ints_of;subst ez;rw[L2.bx hN];walk_at "t"
 have ka:∀e∈(d.ws.map Mp),kqdOk 8 e=true:=fun e he=>by
  obtain⟨s,hs,rfl⟩:=Ls.mp he;exact vg fun c hc=>by have:=o.wd.lt s hs c hc;lia
 have kd:kqdOk 8 (.str w)=true:=ka _ (Ls.mpr ⟨w,Ll hw,rfl⟩);have mw:Mp w∈d.ws.map Mp:=Ls.mpr ⟨w,Ll hw,rfl⟩;have li:i<d.c.length:=(Ld.mp hc).1;have l5:=o.st.1.2;have ln:=o.ln;unfold xI;walk_at "d";refine fS k A ?_;refine⟨.str w,d.ws.map Mp,.str _,A.s.rep,ka,kd,?_⟩;walk_at "d";rw[if_neg (by simp[mw])];walk_at "d";unfold ER;walk_at "d";refine fS k A ⟨⟨b,_,rfl,hb⟩,?_⟩;walk_at "d";refine⟨b,.str w,d.ws.map Mp,.str w,i,rfl,rfl,.str _,A.s.rep,ka,kd,by rw[Li,hw];rfl,fun m hm e=>?_,by rw[La];lia,?_⟩
 ·rw[Li] at e;obtain⟨w',g,e2⟩:=Ln.mp e;cases Tx e2;have lm:=(Ld.mp g)
  have lw:=(Ld.mp hw)
  obtain⟨lm1,lm2⟩:=lm;obtain⟨lw1,lw2⟩:=lw;exact NH.mp o.st.2.2 m i lm1 lw1 hm (lm2.trans lw2.symm)
 walk_at "d";refine fP k A ?_;walk_at "d";refine F2 (SqT.of hpc) fun l nl=>?_
 have S1:=ar nl (.lst (d.c.map V.int));have h1:upd H l (.lst (d.c.map V.int)) l=some (.lst (d.c.map V.int)):=am;generalize upd H l (.lst (d.c.map V.int))=H1 at S1 h1 ⊢;walk_at "d";refine bG (SqL.of h1) (bQ (by rw[Li,hc];rfl)) ?_;walk_at "d";refine Ec (wV (i:=4) rfl (wV (i:=3) rfl ?_));refine⟨l,_,_,i,rfl,rfl,h1,?_,?_⟩
 ·unfold CT;rw[if_pos (by lia),if_pos (by rw[La];lia)];simp
 have S2:Same H (upd H1 l (.lst ((d.c.map V.int).set i (.int (c+n))))):=fun b o e=>by rw[aC (au e nl)];exact S1 _ _ e
 have h2:upd H1 l (.lst ((d.c.map V.int).set i (.int (c+n)))) l=some (.lst ((d.c.set i (c+n)).map V.int)):=by rw[am,List.map_set]
 show av _ _ _ _ _;generalize upd H1 l (.lst ((d.c.map V.int).set i (.int (c+n))))=H2 at S2 h2 ⊢;walk_at "d";refine bG (SqL.of h2) (bQ (v:=.int (c+n)) (by rw[Li,P7 li];rfl)) ?_;walk_at "d";by_cases z:c+n<0
 ·refine bt (fun _=>?_) fun y=>absurd (by simpa using z) y
  walk_at "d";exact⟨rfl,qe z H2 S2⟩
 ·refine bt (fun y=>absurd (by simpa using y) z) fun _=>?_
  walk_at "d";refine⟨a,d.dx,_,rfl,S2 _ _ A.ins,rfl,?_⟩;walk_at "d";refine fT k (A.same S2) ?_;walk_at "d";refine⟨l,_,rfl,.inl ⟨SqL.of h2,fun l3 n3=>?_⟩⟩;have S3:=ar n3 (.tup ((d.c.set i (c+n)).map V.int));have h3:upd H2 l3 (.tup ((d.c.set i (c+n)).map V.int)) l3=some (.tup ((d.c.set i (c+n)).map V.int)):=am;generalize upd H2 l3 (.tup ((d.c.set i (c+n)).map V.int))=H3 at S3 h3 ⊢;have S03:=S2.trans S3;walk_at "d";exact⟨a,vt,.ref l3,d,d.ts,d.c.set i (c+n),rfl,Dd.same S03,A.t.same S03,.tup h3 (.ints _),n9,fun H' U D'=>q (by lia) H' ((Up.of_same S03).trans U) D'⟩
end Dk
namespace Dk
open PySem L2 Fr G1 Sm Vs
open PySem.W (Dat kqdOk)
local macro_rules | `(tactic| walk_at "d")=>`(tactic| repeat first|fail "1"|with_reducible refine wX ?_|with_reducible refine mh ?_|with_reducible refine wW ?_)
theorem vN(o:ba n h):Nv.Aq n h=true:=by
 unfold Nv.Aq;rw[decide_eq_true o.1,N7,MA];intro b hb;obtain⟨x,hx,rfl⟩:=Ls.mp hb;unfold Nv.okN;rw[decide_eq_true (o.2 x hx).1,decide_eq_true (o.2 x hx).2];rfl
def nX(K:Fg):Sp:=fun vs H Q _=>∃(v:V) (ts:List Tn) (ws:List Str),vs=[v,.int (ws.length:Int)]/\Rz K H v (.tuple (ts.map dT))/\(∀t∈ts,Tw.TtOk ws t)/\ws.length<=5/\ts.length<=8 /\
 ∀(p:Addr) (H':Hp),Same H H'->Rz K H' (.ref p) (.tuple (ts.map dT))->Q (.ref p) H'
def nA(K:Fg)(nq:Addr):TS:=(av (eF (kK K (ae 0)) (aH 2)
 (a6 (xm (dJ (tB (a4 (Nv.jt K) [] E0 (ag (aB (bh K) (ae 2) (tC (.int 0))) (ag (ae 1) aq))))) (dJ (tB (a4 (Nv.jt K) [] E0 (ag (aB (bh K) (ae 2) (tC (.int 1))) (ag (ae 1) aq))))))
 gO
 a9))
 (av (eF (kK K (ae 0)) (aH 2)
 (a6 (dJ (tB (a4 (Nv.oz K) [] E0 (ag (tC (.ref nq)) (ag (aB (bh K) (ae 2) (tC (.int 2))) aq)))))
 gO
 a9))
 (aY (bY (dv K) (ag (gr (kK K (ae 0)) (dX (ag (bY (dv K) (ag (aB (bh K) (ae 0) (tC (.int 0))) aq)) (ag (bY (dv K) (ag (aB (bh K) (ae 0) (tC (.int 1))) aq)) (ag (bY (dv K) (ag (aB (bh K) (ae 0) (tC (.int 2))) aq)) aq))))) aq)))))
theorem yF{K:Fg}(G:Nv.Cn K mg nq){N:List Str}(hN:N.length=3)(h:nX K vs H Q E):nA K nq (ends Q) (L2.start N vs) H:=by
 obtain⟨v,ts,ws,rfl,rv,ok,w5,l8,k⟩:=h;obtain⟨a,xs,rfl,ha,rx⟩:=rv.cC;have lx:xs.length=ts.length:=by rw[rx.length,La]
 rw[L2.bx hN];walk_at "t"
 have at_:∀{i:Nat} {z:V} {H2:Hp},Same H H2->xs[i]?=some z->∃t,ts[i]?=some t/\Tw.TtOk ws t/\Rz K H2 z (dT t)/\∃(p b1 b2 b3:Addr),z=.ref p/\H2 p=some (.tup [.ref b1,.ref b2,.ref b3])/\H2 b1=some (.tup (t.fr.map V.int))/\H2 b2=some (.tup (t.to.map V.int))/\H2 b3=some (.tup [.int t.q,.int t.d]):=by
  intro i z H2 S2 hz;obtain⟨dd,g1,g2⟩:=rx.get hz;rw[Li] at g1;obtain⟨t,ht,rfl⟩:=Ln.mp g1;obtain⟨p,v1,v2,v3,rfl,hp,r1,r2,r3⟩:=ib (g2.same S2);obtain⟨b1,ys,rfl,h1,q1⟩:=r1.cC;obtain⟨b2,zs,rfl,h2,q2⟩:=r2.cC;obtain⟨b3,us,rfl,h3,q3⟩:=r3.cC;cases q1.ints_of;cases q2.ints_of;cases RpL.ints_of (ns:=[t.q,t.d]) q3;exact⟨t,ht,ok t (Ll ht),g2.same S2,p,b1,b2,b3,rfl,hp,h1,h2,h3⟩
 unfold nA;walk_at "";refine CJ (SqT.of ha) ?_;refine pO (xs:=xs) (fun i σ H2=>Same H H2/\∃u:Option V,σ=[some (.ref a),some (.int (ws.length:Int)),u]) ⟨Same.refl _,none,rfl⟩ (fun i σ H2 _ p=>SqT.of (p.1 _ _ ha)) ?_ ?_
 ·rintro i z σ H2 hz ⟨S2,u,rfl⟩;obtain⟨t,ht,⟨o1,o2,op⟩,_,p,b1,b2,b3,rfl,hp,h1,h2,h3⟩:=at_ S2 hz;walk_at "";refine bn (SqT.of hp) (v:=.ref b1) rfl ?_;walk_at "";refine⟨b1,_,_,rfl,.inr (SqT.of h1),by have:=o1.1;lia,by lia,fun H3 S3=>?_⟩;rw[MT,vN o1];walk_at "";refine bn (SqT.of (S3 _ _ hp)) (v:=.ref b2) rfl ?_;walk_at "";refine⟨b2,_,_,rfl,.inr (SqT.of (S3 _ _ h2)),by have:=o2.1;lia,by lia,fun H4 S4=>?_⟩;rw[MT,vN o2];walk_at "";exact⟨S2.trans (S3.trans S4),_,rfl⟩
 rintro σ H2 ⟨S2,u,rfl⟩;walk_at "";refine CJ (SqT.of (S2 _ _ ha)) ?_;refine pO (xs:=xs) (fun i σ H3=>Same H H3/\∃u:Option V,σ=[some (.ref a),some (.int (ws.length:Int)),u]) ⟨S2,u,rfl⟩ (fun i σ H2 _ p=>SqT.of (p.1 _ _ ha)) ?_ ?_
 ·rintro i z σ H3 hz ⟨S3,u,rfl⟩;obtain⟨t,ht,⟨o1,o2,op⟩,_,p,b1,b2,b3,rfl,hp,h1,h2,h3⟩:=at_ S3 hz;walk_at "";refine bn (SqT.of hp) (v:=.ref b3) rfl ?_;walk_at "";have q0:=op.1;have q1:=op.2.2.2.1;have d0:=op.2.1;have d1:=op.2.2.2.2;refine⟨nq,b3,0,1,t.q,t.d,rfl,G.two _,SqT.of h3,⟨Gd.Bf (Gd.wide (by lia)),Gd.Bf (Gd.wide (by lia))⟩,⟨Gd.Bf (Gd.wide (by lia)),Gd.Bf (Gd.wide (by lia))⟩,?_⟩;walk_at "";refine bT (fun z=>absurd z (by lia)) (fun _=>?_);walk_at "";exact⟨S3,_,rfl⟩
 rintro σ H3 ⟨S3,u,rfl⟩;walk_at "";refine FZ (SqT.of (S3 _ _ ha)) ?_;refine fY (xs:=xs) fun D nD=>⟨fun i H4=>AccZ K H3 D H4 ((ts.take i).map dT),AccZ.start (Same.refl _) nD,fun i H4 _ A=>SqT.of (A.same _ _ (S3 _ _ ha)),?_,?_⟩
 ·intro i z H4 hz A;obtain⟨t,ht,⟨o1,o2,op⟩,_,p,b1,b2,b3,rfl,hp,h1,h2,h3⟩:=at_ (S3.trans A.same) hz;have li:i<ts.length:=(Ld.mp ht).1;walk_at "";refine bn (SqT.of hp) (v:=.ref b1) rfl ?_;walk_at "";refine vH (SqT.of h1) ?_;walk_at "";refine bn (SqT.of hp) (v:=.ref b2) rfl ?_;walk_at "";refine vH (SqT.of h2) ?_;walk_at "";refine bn (SqT.of hp) (v:=.ref b3) rfl ?_;walk_at "";refine vH (SqT.of h3) ?_;walk_at "";refine⟨gu,fun pt npt=>?_⟩;have S7:=ar npt (.tup [.ref b1,.ref b2,.ref b3])
  have r7:Rz K (upd H4 pt (.tup [.ref b1,.ref b2,.ref b3])) (.ref pt) (dT t) :=
   .tup am (.cons (.tup (S7 _ _ h1) (RpL.ints _)) (.cons (.tup (S7 _ _ h2) (RpL.ints _)) (.cons (.tup (S7 _ _ h3) (RpL.ints [_,_])) .nil)))
  refine cA (by lia) ((A.on S7).gz r7 (aU ?_) fun H8 A8=>?_)
  ·rw[La,LG];lia
  ·show AccZ K H3 D H8 ((ts.take (i+1)).map dT);rw[LU,ht,LD];exact A8
 ·intro H4 A;rw[lx,Lq (Lg _)] at A;obtain⟨ys,hD,ry⟩:=A.at_;refine gg (SqL.of hD) fun p np=>?_
  have S5:=ar np (.tup ys);exact k p _ (S3.trans (A.same.trans S5)) (.tup am (ry.same S5))
def tK(K:Fg):Sp:=fun vs H Q _=>∃(v1 v2:V) (ws:List Str) (ts:List Tn),vs=[v1,v2]/\Rz K H v1 (.tuple (ws.map Mp))/\Rz K H v2 (.tuple (ts.map dT))/\GG ws/\(∀t∈ts,Tw.TtOk ws t)/\Nv.ga ts /\
 ∀(p:Addr) (H':Hp),Same H H'->Rz K H' (.ref p) (dV ws ts)->Q (.ref p) H'
def sU(K:Fg)(x:Ex0.Ad):TS:=(av (aR (a4 (Nv.gQ K x.c1) [] E0 (ag (ae 0) aq)) (aH 2))
 (av (aR (a4 (nX K) [] E0 (ag (ae 1) (ag (bY (cE K) (ag (ae 2) aq)) aq))) (aH 3))
 (av (dL (a4 (Nv.oy K x.c4) [] E0 (ag (ae 3) aq)))
 (aY (dX (ag (ae 2) (ag (ae 3) aq)))))))
theorem BP{K:Fg}{N:List Str}(hN:N.length=4)(h:tK K vs H Q E):sU K x (ends Q) (L2.start N vs) H:=by
 obtain⟨v1,v2,ws,ts,rfl,r1,r2,wo,to,ck,k⟩:=h;obtain⟨a,xs,rfl,ha,rx⟩:=r1.cC;cases rx.gt;rw[L2.bx hN];walk_at "t";have w5:=wo.st.1.2;unfold sU;walk_at "";refine⟨a,ws,rfl,.inr ha,wo.pl,by lia,fun _ p H1 S1 hp=>?_,fun z=>absurd wo.st z⟩;walk_at "";refine kG (SqT.of hp) ?_;rw[La];walk_at "";refine⟨v2,ts,ws,rfl,r2.same S1,to,w5,ck.2.1,fun q H2 S2 rq=>?_⟩;walk_at "";refine⟨.ref q,ts,rfl,rq,by have:=ck.2.1;lia,fun _ H3 S3=>?_,fun z=>absurd ck z⟩;walk_at "";refine⟨bq,fun r nr=>?_⟩;have S4:=ar nr (.tup [.ref p,.ref q]);exact k r _ (S1.trans (S2.trans (S3.trans S4))) (.tup am (.cons (.tup (S4 _ _ (S3 _ _ (S2 _ _ hp))) (RpL.strs _)) (.cons ((rq.same S3).same S4) .nil)))
def jP(K:Fg)(C:Addr):Sp:=fun vs H Q _=>∃(a:Addr) (d:Ds),vs=[.ref a]/\Desk K C H a d/\DOk d/\d.ts≠[]/\∀(p:Addr) (H':Hp),Same H H'->Rz K H' (.ref p) (dV d.ws d.ts)->Q (.ref p) H'
def ny (K:Fg):TS:=(aY (a4 (tK K) [] E0 (ag (cY K (ae 0) "stuffs") (ag (cY K (ae 0) "turnings") aq))))
theorem yE{K:Fg}(k:Kl K mg C){N:List Str}(hN:N.length=1)(h:jP K C vs H Q E):ny K (ends Q) (L2.start N vs) H:=by
 obtain⟨a,d,rfl,⟨vs,vt,vp,xs,A⟩,o,ne,q⟩:=h;rw[L2.bx hN];walk_at "t";unfold ny;walk_at "d";refine fS k A ?_;walk_at "d";refine fT k A ?_;walk_at "d";refine⟨vs,vt,d.ws,d.ts,rfl,A.s,A.t,⟨o.st,o.pl⟩,o.tt,?_,q⟩;rcases o.ck with z|z
 ·exact absurd z ne
 ·exact z
open PySem L2 Fr G1 Sm Vs Dn Rk Wd
def yg(K:Fg):Sp:=fun vs H Q _=>∃(v w:V) (t:Tn) (c:List Int),vs=[v,w]/\Rz K H v (dT t)/\Rz K H w (dI c)/\c.length<=100/\∀H',Same H H'->Q (.bl (AQ (pr t) c)) H'
theorem Di(t:Tn)(c:List Int):((Ob c t.fr).map fun z=>decide (z.2<=z.1)).all id=AQ (pr t) c:=by
 unfold AQ;rw[List.all_map];show _=(Ob t.fr c).all _;generalize t.fr=f
 induction f generalizing c with
 |nil=>rw[List.zip_nil_right,List.zip_nil_left];rfl
 |cons x f ih =>
  cases c with
  |nil=>rfl
  |cons y c=>rw[Re,Re,Nr,Nr,ih c];rfl
def xM(K:Fg):TS:=(aY (bY (qP K) (ag (jK (Ak K .T .T (ag (ae 1) (ag (aB (bh K) (ae 0) (tC (.int 0))) aq))) 2 (pL K 2 (fK (aH 0) (fK (aH 1) pM))) (aB KP (ae 0) (ae 1))) aq)))
theorem E_{K:Fg}{N:List Str}(hN:N.length=2)(h:yg K vs H Q E):xM K (ends Q) (L2.start N vs) H:=by
 obtain⟨v,w,t,c,rfl,rv,Zg,hl,k⟩:=h;obtain⟨a,w1,w2,w3,rfl,ha,q1,q2,_⟩:=ib rv;obtain⟨b,rfl,hb⟩:=eL Zg;obtain⟨f,rfl,hf⟩:=eL q1;rw[L2.bx hN];walk_at "t";unfold xM;have lz:(Ob c t.fr).length=min c.length t.fr.length:=Om;walk_at "";refine bn (SqT.of ha) (v:=.ref f) rfl ?_;walk_at "";refine⟨b,f,_,_,rfl,SqT.of hb,SqT.of hf,?_⟩;have ml:min (c.map V.int).length (t.fr.map V.int).length=(Ob c t.fr).length:=by rw[La,La,lz]
 refine v4 (xs:=c.map V.int) (ys:=t.fr.map V.int) fun D nD=>⟨fun i H2=>AccZ K H D H2 ((((Ob c t.fr).take i).map fun z=>decide (z.2<=z.1)).map OZ),by simpa using AccZ.start (Same.refl _) nD,fun i H2 _ A=>⟨SqT.of (A.same _ _ hb),SqT.of (A.same _ _ hf)⟩,?_,?_⟩
 ·intro i x y H2 T e1 e2 A nT us hu
  obtain⟨u1,u2',rfl⟩:∃u0 u1,us=[u0,u1]:=by
   match us,hu with
   |[u0,u1],_=>exact⟨u0,u1,rfl⟩
  rw[Li] at e1 e2;obtain⟨m1,f1,rfl⟩:=Ln.mp e1;obtain⟨m2,f2,rfl⟩:=Ln.mp e2;have ez:(Ob c t.fr)[i]?=some (m1,m2):=by rw[MU];exact⟨f1,f2⟩
  have li:i<(Ob c t.fr).length:=(Ld.mp ez).1;refine kH (SqT.of am) rfl ?_;walk_at "";refine⟨⟨[some (.int m1),some (.int m2)],rfl,rfl⟩,?_⟩;walk_at "";refine cA (by rw[ml];exact li) ?_;refine(A.on (ar nT _)).gz (.bl (decide (m1≥m2))) (aU (by rw[La,La,LG];lia)) fun H4 A4=>?_
  show AccZ K H D H4 ((((Ob c t.fr).take (i+1)).map fun z=>decide (z.2<=z.1)).map OZ);rw[LU,ez,LD,LD];exact A4
 ·intro H2 A;rw[ml,Lq (Lg _)] at A;walk_at "";refine mn A.bls ?_;rw[Di];exact k H2 A.same
def tL(K:Fg):Sp:=fun vs H Q _=>∃(v w:V) (t:Tn) (c:List Int),vs=[v,w]/\Rz K H v (dT t)/\Rz K H w (dI c)/\t.fr.length=c.length/\t.to.length=c.length/\c.length<=100/\∀(p:Addr) (H':Hp),Same H H'->Rz K H' (.ref p) (dI (xf (pr t) c))->Q (.ref p) H'
def sV(K:Fg):TS:=(av (aR (cX aq) (aH 2))
 (av (eF (iS (ag (bY (cE K) (ag (ae 1) aq)) aq)) (aH 3)
 (dL (lg K "list" di (ae 2) (ag (aB cT (aB Cc (aB (bh K) (ae 1) (ae 3)) (aB (bh K) (aB (bh K) (ae 0) (tC (.int 0))) (ae 3))) (aB (bh K) (aB (bh K) (ae 0) (tC (.int 1))) (ae 3))) aq))))
 (aY (bY (dv K) (ag (ae 2) aq)))))
theorem BQ{K:Fg}{N:List Str}(hN:N.length=4)(h:tL K vs H Q E):sV K (ends Q) (L2.start N vs) H:=by
 obtain⟨v,w,t,c,rfl,rv,Zg,l1,l2,hl,k⟩:=h;obtain⟨a,w1,w2,w3,rfl,ha,q1,q2,_⟩:=ib rv;obtain⟨b,rfl,hb⟩:=eL Zg;obtain⟨f,rfl,hf⟩:=eL q1;obtain⟨g,rfl,hg⟩:=eL q2;rw[L2.bx hN];walk_at "t";unfold sV;walk_at "";refine⟨by decide,fun l nl=>?_⟩;walk_at "";have Sl:=ar nl (.lst []);refine kG (SqT.of (Sl _ _ hb)) ?_;rw[La];walk_at "";rw[show((c.length:Nat):Int).toNat=c.length by lia];refine cw (fun i σ H2=>∃u3:Option V,σ=[some (.ref a),some (.ref b),some (.ref l),u3]/\AccZ K H l H2 (((xf (pr t) c).take i).map NG)) ⟨none,rfl,AccZ.start (Same.refl _) nl⟩ ?_ ?_
 ·rintro i σ H2 hi ⟨u3,rfl,A⟩
  have pe:∀{l:List Int},i<l.length->l[i]?=some (pt l i):=fun hl'=>by
   unfold pt;rw[Mm,Lb hl'];rfl
  have ec:=Ek (t:=t) (c:=c) (pe (l:=t.fr) (by lia)) (pe (l:=t.to) (by lia)) (pe hi)
  have ixI:∀{ls:List Int},i<ls.length->mO (ls.map V.int) (0+(i:Int))=some (.int (pt ls i)):=fun hh=>by
   rw[Nz];exact bQ (by rw[Li,pe hh];rfl)
  walk_at "";refine⟨A.ty,?_⟩;walk_at "";refine bn (SqT.of (A.same _ _ hb)) (ixI hi) ?_;walk_at "";refine bn (SqT.of (A.same _ _ ha)) (v:=.ref f) rfl ?_;walk_at "";refine bn (SqT.of (A.same _ _ hf)) (ixI (by lia)) ?_;walk_at "";refine bn (SqT.of (A.same _ _ ha)) (v:=.ref g) rfl ?_;walk_at "";refine bn (SqT.of (A.same _ _ hg)) (ixI (by lia)) ?_;walk_at "";refine g_ A (.int (pt c i-pt t.fr i+pt t.to i)) (aU (by rw[La,LG];lia)) fun H4 A4 _ _ _=>?_
  walk_at "";refine⟨_,rfl,?_⟩;rw[LU,ec,LD];exact A4
 ·rintro σ H2 ⟨u3,rfl,A⟩;rw[Lq (by rw[Gz];exact Lg _)] at A;walk_at "";refine gg (SqL.of (AccZ.ints A)) fun p np=>?_
  exact k p _ (A.same.trans (ar np _)) (.tup am (RpL.ints _))
theorem jx{ts:List Tn}{t:Tn}(h:ts=[]\/Nv.ga ts):Nv.ga (ts++[t])↔(t.fr≠t.to/\ts.length<=7/\(C0 (ts++[t])).length<9/\ts.filter (fun u=>decide (cy u=cy t))=[]):=by
 have ok:(ts.map cy).Nodup/\∀u∈ts,u.fr≠u.to:=by
  rcases h with rfl|z
  ·exact⟨Nq,fun u hu=>by cases hu⟩
  ·exact⟨z.2.2.1,z.2.2.2.1⟩
 unfold Nv.ga;rw[LQ,LD,Va,List.filter_eq_nil_iff];constructor
 ·rintro⟨_,l8,⟨_,_,nd⟩,ne,h8⟩;refine⟨ne t (LZ.mpr (.inr (Lx.mpr rfl))),by simp only[L9] at l8;lia,by lia,fun u hu e=>?_⟩;exact nd _ (Ls.mpr ⟨u,hu,rfl⟩) _ (Lx.mpr rfl) (of_decide_eq_true e)
 ·rintro⟨ne,l7,h9,fl⟩;refine⟨by simp only[L9];lia,by simp only[L9];lia,⟨ok.1,by simp,fun x hx y hy e=>?_⟩,fun u hu=>?_,by lia⟩
  ·obtain⟨u,hu,rfl⟩:=Ls.mp hx;rw[List.map_singleton,Lx] at hy;exact fl u hu (decide_eq_true (e.trans hy))
  ·rcases LZ.mp hu with z|z
   ·exact ok.2 u z
   ·rw[Lx.mp z];exact ne
def yh(K:Fg):Sp:=fun vs H Q _=>∃(r:Addr) (v:V) (xs:List V) (ts:List Tn) (t:Tn),vs=[.ref r,v]/\H r=some (.lst xs)/\RzL K H xs (ts.map dT)/\Rz K H v (dT t)/\(ts=[]\/Nv.ga ts) /\
 ∀(b:Bool) (H':Hp),Same H H'->(b=true↔Nv.ga (ts++[t]))->Q (.bl b) H'
theorem vW{u t:Tn}:(Dat.tuple [dI u.fr,dI u.to]=Dat.tuple [dI t.fr,dI t.to])↔cy u=cy t:=by
 constructor
 ·intro e;have e':=Nc (Qw e);unfold cy;rw[gh e'.1,gh (Nc e'.2).1]
 ·intro e;unfold cy at e;rw[(On e).1,(On e).2]
theorem HD(t:Tn):kqdOk 8 (.tuple [dI t.fr,dI t.to])=true:=by
 show([dI t.fr,dI t.to].all (kqdOk 7))=true;rw[Nr,Nr,Su,f9 t.fr 6,f9 t.to 6];rfl
theorem JM(t:Tn):kqdOk 7 (dT t)=true:=by
 show([dI t.fr,dI t.to,dI [t.q,t.d]].all (kqdOk 6))=true;rw[Nr,Nr,Nr,Su,f9 t.fr 5,f9 t.to 5,f9 [t.q,t.d] 5];rfl
theorem FL(ts:List Tn):kqdOk 8 (.list (ts.map dT))=true:=by
 show((ts.map dT).all (kqdOk 7))=true;rw[MA];intro x hx;obtain⟨t,_,rfl⟩:=Ls.mp hx;exact JM t
def Aj(hs:List (List Int))(u:Tn):Nat->List (List Int)
 |0=>hs
 |1=>cF hs u.fr
 |_=>cF (cF hs u.fr) u.to
theorem DZ{hs:List (List Int)}:dI h∈hs.map dI↔h∈hs:=⟨fun z=>by obtain⟨g,hg,e⟩:=Ls.mp z;rw[<- gh e];exact hg,fun z=>Ls.mpr ⟨h,z,rfl⟩⟩
theorem KE(v1 v2 v3:V):f_ [v1,v2,v3] none (some 2)=[v1,v2]:=rfl
theorem FY{K:Fg}{H:Hp}{Q:VK}{v1 v2 v3:V}(ha:H a=some (.tup [v1,v2,v3]))(q:∀p H',Same H H'->H' p=some (.tup [v1,v2])->Q (.ref p) H'):j6 K (.ref a) none (some 2) H Q :=
 ⟨a,_,rfl,SqT.of ha,fun z=>absurd (show(2:Nat)=3 from z.2) (by decide),fun p np=>by rw[KE];exact q p _ (ar np _) am⟩
def xR(K:Fg):TS:=(av (a6 (xm (bg (aB (ua K) (aB (bh K) (ae 1) (tC (.int 0))) (aB (bh K) (ae 1) (tC (.int 1))))) (bg (aB GR (bY (cE K) (ag (ae 0) aq)) (tC (.int 7)))))
 (aY (tC (.bl false)))
 a9)
 (av (aR (cX aq) (aH 2))
 (av (eF (kM K (aB Cb (ae 0) (cX (ag (ae 1) aq)))) (aH 3)
 (eF (kK K (tw (j6 K) (ae 3) dh (fh (tC (.int 2))))) (aH 4)
 (a6 (bg (aB (qM K true) (ae 4) (ae 2)))
 (dL (lg K "list" di (ae 2) (ag (ae 4) aq)))
 a9)))
 (av (aR (qh (kM K (ae 0)) 1 (aH 0) (bg (aB (ua K) (tw (j6 K) (ae 0) dh (fh (tC (.int 2)))) (tw (j6 K) (ae 2) dh (fh (tC (.int 2)))))) (ae 0)) (aH 5))
 (aY (jL (aB B_ (bY (cE K) (ag (ae 2) aq)) (tC (.int 9))) (aB (ua K) (ae 5) (cX aq))))))))
theorem Fe{K:Fg}{N:List Str}(hN:N.length=6)(h:yh K vs H Q E):xR K (ends Q) (L2.start N vs) H:=by
 obtain⟨r,v,xs,ts,t,rfl,hr,rx,rv,ck,q⟩:=h;obtain⟨a,v1,v2,v3,rfl,ha,r1,r2,_⟩:=ib rv;have lx:xs.length=ts.length:=by rw[rx.length,La]
 have l8:ts.length<=8:=by
  rcases ck with z|z
  ·rw[z];decide
  ·exact z.2.1
 rw[L2.bx hN];walk_at "t";unfold xR;walk_at "";refine bn (SqT.of ha) (v:=v1) rfl ?_;walk_at "";refine bn (SqT.of ha) (v:=v2) rfl ?_;refine z_ r1.rep r2.rep (f9 _ 7) (f9 _ 7) (fun z=>?_) (fun z=>?_)
 ·walk_at "";exact q false H (Same.refl _) ⟨fun y=>(by cases y),fun y=>absurd (gh z) ((jx ck).mp y).1⟩
 have ne:t.fr≠t.to:=fun e=>z (by rw[e])
 walk_at "";refine dO (SqL.of hr) ?_;walk_at "";refine bt (fun g=>?_) (fun g=>?_)
 ·walk_at "";exact q false H (Same.refl _) ⟨fun y=>(by cases y),fun y=>by have:=((jx ck).mp y).2.1;lia⟩
 walk_at "";refine⟨by decide,fun l nl=>?_⟩;have Al:AccZ K H l (upd H l (.lst [])) ([].map dI):=AccZ.start (Same.refl _) nl;generalize upd H l (.lst [])=H1 at Al ⊢;walk_at "";refine⟨jS,fun l2 n2=>?_⟩;have S2:=ar n2 (.lst [.ref a]);have h2:upd H1 l2 (.lst [.ref a]) l2=some (.lst [.ref a]):=am;have A2:=Al.on S2;generalize upd H1 l2 (.lst [.ref a])=H2 at S2 h2 A2 ⊢;refine⟨r,l2,xs,_,rfl,rfl,A2.same _ _ hr,h2,by rw[lx,Nl];simp only[L9];lia,fun l3 n3=>?_⟩;have S3:=ar n3 (.lst (xs++[.ref a]));have h3:upd H2 l3 (.lst (xs++[.ref a])) l3=some (.lst (xs++[.ref a])):=am;have A3:=A2.on S3
 have nl3:l≠l3:=fun e=>by
  obtain⟨ys,hy,_⟩:=A2.at_;rw[e,n3] at hy;cases hy
 generalize upd H2 l3 (.lst (xs++[.ref a]))=H3 at S3 h3 A3 ⊢;have rx3:RzL K H3 (xs++[.ref a]) ((ts++[t]).map dT):=by rw[LD];exact(rx.same A3.same).append (.cons (rv.same A3.same) .nil)
 refine CK (SqL.of h3) ?_;refine jy (xs:=xs++[.ref a]) (fun i σ H4=>∃u3 u4:Option V,σ=[some (.ref r),some (.ref a),some (.ref l),u3,u4,none]/\AccZ K H l H4 ((hZ [] ((ts++[t]).take i)).map dI)/\H4 l3=some (.lst (xs++[.ref a]))) ⟨none,none,rfl,A3,h3⟩ (fun i σ H4 _ p=>by obtain⟨_,_,_,_,e⟩:=p;exact SqL.of e) ?_ ?_
 ·rintro i z σ H4 hz ⟨u3,u4,rfl,A4,e4⟩;obtain⟨dd,g1,g2⟩:=rx3.get hz;rw[Li] at g1;obtain⟨u,hu,rfl⟩:=Ln.mp g1;have li:i<(ts++[t]).length:=(Ld.mp hu).1;have rz0:RzL K H (xs++[.ref a]) ((ts++[t]).map dT):=by rw[LD];exact rx.append (.cons rv .nil)
  obtain⟨YV,g1',g2'⟩:=rz0.get hz;rw[Li,hu] at g1';cases LF g1';obtain⟨p,w1,w2,w3,rfl,hp,q1,q2,_⟩:=ib g2';have eT:(ts++[t]).take (i+1)=(ts++[t]).take i++[u]:=by rw[LU,hu];rfl
  rw[eT,rW];have lh:=pK ((ts++[t]).take i) [];rw[LG,LQ] at lh;simp only[QG,L9] at lh;generalize hZ [] ((ts++[t]).take i)=hs at A4 lh ⊢;walk_at "";refine FY (A4.same _ _ hp) fun p2 H5 S5 Yc=>?_
  refine CJ (SqT.of Yc) ?_;refine pO (xs:=[w1,w2]) (fun j σ H6=>∃u4:Option V,σ=[some (.ref r),some (.ref a),some (.ref l),some (.ref p),u4,none]/\AccZ K H l H6 ((Aj hs u j).map dI)/\H6 l3=some (.lst (xs++[.ref a]))/\H6 p2=some (.tup [w1,w2])) ⟨u4,rfl,A4.on S5,S5 _ _ e4,Yc⟩ (fun j σ H6 _ p=>by obtain⟨_,_,_,_,e⟩:=p;exact SqT.of e) ?_ ?_
  ·rintro j y σ H6 hy ⟨u4,rfl,A6,e6,f6⟩
   have st:∀(h:List Int),Rz K H y (dI h)->Aj hs u (j+1)=cF (Aj hs u j) h->(Aj hs u j).length<=100->a6 (bg (aB (qM K true) (ae 4) (ae 2))) (dL (lg K "list" di (ae 2) (ag (ae 4) aq))) a9 {nx:=fun σ H7=>∃u4:Option V,σ=[some (.ref r),some (.ref a),some (.ref l),some (.ref p),u4,none]/\AccZ K H l H7 ((Aj hs u (j+1)).map dI)/\H7 l3=some (.lst (xs++[.ref a]))/\H7 p2=some (.tup [w1,w2]),rt:=Q} [some (.ref r),some (.ref a),some (.ref l),some (.ref p),some y,none] H6:=by
    intro h ry ei l100;rw[ei];walk_at "";refine vI (d:=dI h) (ry.same A6.same).rep A6.rep (fun e he=>?_) (f9 _ 7) (fun z=>?_) (fun z=>?_)
    ·obtain⟨g,_,rfl⟩:=Ls.mp he;exact f9 g 7
    ·rw[DZ] at z;walk_at "";refine⟨A6.ty,?_⟩;walk_at "";have nl3':l3≠l:=nl3.symm
     have np2:p2≠l:=fun e=>by
      obtain⟨ys,hy,_⟩:=A6.at_;rw[e,hy] at f6;cases f6
     refine g_ A6 (ry.same A6.same) (aU (by rw[La];lia)) fun H7 A7 _ ot _=>?_
     walk_at "";refine⟨_,rfl,?_,by rw[ot _ nl3'];exact e6,by rw[ot _ np2];exact f6⟩;unfold cF;rw[if_neg z,LD];exact A7
    ·rw[DZ] at z;walk_at "";refine⟨_,rfl,?_,e6,f6⟩;unfold cF;rw[if_pos z];exact A6
   have l0:=pH hs u.fr
   match j,hy with
   |0,hy =>
    cases hy;exact st u.fr q1 rfl (by show hs.length<=100;lia)
   |1,hy =>
    cases hy;exact st u.to q2 rfl (by show(cF hs u.fr).length<=100;lia)
  ·rintro σ H6 ⟨u4,rfl,A6,e6,_⟩;exact⟨_,_,rfl,A6,e6⟩
 rintro σ H4 ⟨u3,u4,rfl,A4,_⟩;rw[show(xs++[V.ref a]).length=(ts++[t]).length by rw[LQ,LQ,lx];rfl,Lq (Lg _)] at A4;have S4:=A4.same;walk_at "";refine⟨r,rfl,⟨_,SqL.of (S4 _ _ hr)⟩,?_⟩;refine mI (xs:=xs) fun D nD=>⟨fun j H5=>AccZ K H4 D H5 (((ts.take j).filter fun u=>decide (cy u=cy t)).map dT),by simpa using AccZ.start (Same.refl _) nD,fun j H5 _ A=>SqL.of (A.same _ _ (S4 _ _ hr)),?_,?_⟩
 ·intro j y H5 hy B us hu;obtain⟨u0,rfl⟩:∃u,us=[u]:=Qa.mp hu;have lj:=(Ld.mp hy).1;obtain⟨d,g3,g4⟩:=rx.get hy;rw[Li] at g3;obtain⟨u,hu,rfl⟩:=Ln.mp g3;have S5:=S4.trans B.same;obtain⟨p,w1,w2,w3,rfl,hp,q1,q2,_⟩:=ib (g4.same S5);have er:((ts.take (j+1)).filter fun u=>decide (cy u=cy t))=((ts.take j).filter fun u=>decide (cy u=cy t))++[u].filter fun u=>decide (cy u=cy t):=by rw[LU,hu,UC];rfl
  walk_at "";refine⟨⟨[some (.ref p)],rfl,rfl⟩,?_⟩;walk_at "";refine FY hp fun p2 H6 S6 Yc=>?_
  walk_at "";have S06:=S5.trans S6;refine FY (S06 _ _ ha) fun p3 H7 S7 hp3=>?_
  have S67:=S6.trans S7;have B7:=B.on S67;have e1:Rep K H7 (.ref p2) (.tuple [dI u.fr,dI u.to]):=Rp.rep (S:=F0) (.tup (S7 _ _ Yc) (.cons (q1.same S67) (.cons (q2.same S67) .nil)));have e2:Rep K H7 (.ref p3) (.tuple [dI t.fr,dI t.to]):=Rp.rep (S:=F0) (.tup hp3 (.cons (r1.same (S06.trans S7)) (.cons (r2.same (S06.trans S7)) .nil)));refine z_ e1 e2 (HD u) (HD t) (fun z=>?_) (fun z=>?_)
  ·rw[vW] at z;walk_at "";refine cA lj ?_;refine B7.gz (g4.same (S06.trans S7)) (aU ?_) fun H8 B8=>?_
   ·have:=O1 (fun u=>decide (cy u=cy t)) (ts.take j)
    rw[LG] at this;rw[La];lia
   ·show AccZ K H4 D H8 (((ts.take (j+1)).filter fun u=>decide (cy u=cy t)).map dT);rw[er,LD,P3 (by simpa using z)];exact B8
  ·replace z:=fun y=>z (vW.mpr y)
   walk_at "";refine oC lj ?_;show AccZ K H4 D H7 (((ts.take (j+1)).filter fun u=>decide (cy u=cy t)).map dT);rw[er,P4 (by simpa using z),VN,Nb];exact B7
 ·intro H5 B;rw[lx,Lq (Lg _)] at B;have A5:=A4.on B.same;obtain⟨ys,hys,ry⟩:=A5.at_;have lys:ys.length=(C0 (ts++[t])).length:=by rw[ry.length,La];rfl
  walk_at "";refine dO (SqL.of hys) ?_;walk_at "";have fin:∀(b:Bool) (H':Hp),Same H5 H'->(b=true↔(C0 (ts++[t])).length<9/\ts.filter (fun u=>decide (cy u=cy t))=[])->Q (.bl b) H':=fun b H' S' e=>q b H' (A5.same.trans S') (e.trans ⟨fun z=>(jx ck).mpr ⟨ne,by lia,z.1,z.2⟩,fun z=>((jx ck).mp z).2.2⟩)
  refine bt (fun z9=>?_) (fun z9=>?_)
  ·walk_at "";refine⟨by decide,fun l6 n6=>?_⟩;have S6:=ar n6 (.lst []);have h6:upd H5 l6 (.lst []) l6=some (.lst []):=am;generalize upd H5 l6 (.lst [])=H6 at S6 h6 ⊢;refine z_ (d:=.list ((ts.filter (fun u=>decide (cy u=cy t))).map dT)) (e:=.list []) (B.on S6).rep (.lst (SqL.of h6) .nil) (FL _) (by decide +kernel) (fun z=>?_) (fun z=>?_)
   ·exact fin true H6 S6 ⟨fun _=>⟨by lia,Nj.mp (Vb z)⟩,fun _=>rfl⟩
   ·exact fin false H6 S6 ⟨fun y=>(by cases y),fun y=>absurd (by rw[y.2];rfl) z⟩
  ·walk_at "";exact fin false H5 (Same.refl _) ⟨fun y=>(by cases y),fun y=>absurd y.1 (by lia)⟩
def ye(K:Fg):Sp:=fun vs H Q _=>∃(r p x:Addr) (xs ys:List V) (ts po:List Tn) (ns:List Int),vs=[.ref r,.ref p,.ref x]/\H r=some (.lst xs)/\RzL K H xs (ts.map dT)/\H p=some (.lst ys)/\RzL K H ys (po.map dT)/\H x=some (.lst (ns.map V.int))/\3<=ns.length/\(∀n∈ns,Mx n)/\po≠[] /\
 ∀(v:V) (t:Tn) (H':Hp),Same H H'->(t∈ts\/t∈po)->Rz K H' v (dT t)->Q v H'
theorem Js{K:Fg}{ts:List Tn}(rx:RzL K H xs (ts.map dT))(ne:ts≠[])(n:Int):∃(v:V) (t:Tn),mO xs (n % (xs.length:Int))=some v/\t∈ts/\ts[(n % (xs.length:Int)).toNat]?=some t/\Rz K H v (dT t):=by
 have lx:xs.length=ts.length:=by rw[rx.length,La]
 have l0:0<ts.length:=OF.mpr ne;have h0:=Nf n (show(xs.length:Int)≠0 by lia);have h1:=MK n (show 0<(xs.length:Int) by lia);generalize n % (xs.length:Int)=m at h0 h1;have lm:m.toNat<xs.length:=by lia
 obtain⟨d,g1,g2⟩:=rx.get (Lb lm);rw[Li] at g1;obtain⟨t,ht,rfl⟩:=Ln.mp g1;refine⟨xs[m.toNat],t,?_,Ll ht,ht,g2⟩
 have:=bQ (xs:=xs) (Lb lm)
 rwa [QP h0] at this
theorem df{ns:List Int}{i:Nat}{n:Int}(h:ns[i]?=some n):mO (ns.map V.int) ((i:Nat):Int)=some (.int n):=bQ (by rw[Li,h];rfl)
def xJ(K:Fg):TS:=(av (a6 (nU (bg (aB B_ (aB bZ (aB (bz K) (ae 2) (tC (.int 1))) (tC (.int 5))) (tC (.int 3)))) (bg (aB (yS K) (ae 0) (cX aq))))
 (aY (aB (bz K) (ae 0) (aB bZ (aB (bz K) (ae 2) (tC (.int 2))) (bY (cE K) (ag (ae 0) aq)))))
 a9)
 (aY (aB (bz K) (ae 1) (aB bZ (aB (bz K) (ae 2) (tC (.int 2))) (bY (cE K) (ag (ae 1) aq))))))
theorem E7{K:Fg}{N:List Str}(hN:N.length=3)(h:ye K vs H Q E):xJ K (ends Q) (L2.start N vs) H:=by
 obtain⟨r,p,x,xs,ys,ts,po,ns,rfl,hr,rx,hp,ry,hx,l3,mx,ne,q⟩:=h;rw[L2.bx hN];walk_at "t";have lx:xs.length=ts.length:=by rw[rx.length,La]
 have g1:ns[1]?=some ns[1]:=Lb (by lia);have g2:ns[2]?=some ns[2]:=Lb (by lia);have lp0:0<po.length:=OF.mpr ne;have ly:ys.length=po.length:=by rw[ry.length,La]
 have pool:∀H',Same H H'->(bz K (V.ref x) (V.int 2) H' fun x1 H1=>bY (cE K) (ag (ae 1) aq) [some (V.ref r),some (V.ref p),some (V.ref x)] H1 fun y H2=>bZ x1 y H2 fun y H2=>bz K (V.ref p) y H2 (ends Q).rt):=fun H' S=>by
  refine bG (SqL.of (S _ _ hx)) (df g2) ?_;walk_at "";refine dO (SqL.of (S _ _ hp)) ?_;refine kF (show(0:Int)<(ys.length:Int) by lia) ?_;obtain⟨v,t,e,m,_,rt⟩:=Js (ry.same S) ne ns[2];exact bG (SqL.of (S _ _ hp)) e (q v t H' S (.inr m) rt)
 unfold xJ;walk_at "";refine bG (SqL.of hx) (df g1) ?_;walk_at "";refine bt (fun _=>?_) (fun _=>?_)
 ·walk_at "";refine⟨by decide,fun l nl=>?_⟩;have S1:=ar nl (.lst []);have h1:upd H l (.lst []) l=some (.lst []):=am;generalize upd H l (.lst [])=H1 at S1 h1 ⊢;refine F1 (d:=.list (ts.map dT)) (e:=.list []) (.lst (SqL.of (S1 _ _ hr)) (rx.same S1).rep) (.lst (SqL.of h1) .nil) (FL _) (by decide +kernel) (fun z=>?_) (fun z=>?_)
  ·have nt:ts≠[]:=fun e=>z (by rw[e];rfl)
   have lt0:0<ts.length:=OF.mpr nt;walk_at "";refine bG (SqL.of (S1 _ _ hx)) (df g2) ?_;walk_at "";refine dO (SqL.of (S1 _ _ hr)) ?_;refine kF (show(0:Int)<(xs.length:Int) by lia) ?_;obtain⟨v,t,e,m,_,rt⟩:=Js (rx.same S1) nt ns[2];exact bG (SqL.of (S1 _ _ hr)) e (q v t H1 S1 (.inl m) rt)
  ·walk_at "";exact pool H1 S1
 ·walk_at "";exact pool H (Same.refl _)
def og(K:Fg):Sp:=fun vs H Q _=>∃(v:V) (i:Nat) (x:Addr) (cell:Int) (c ns:List Int),vs=[v,.int (i:Int),.ref x,.int cell]/\Rz K H v (dI c)/\i<c.length/\H x=some (.lst (ns.map V.int))/\4<=ns.length/\(∀n∈ns,Mx n)/\∀(n:Int) (H':Hp),Same H H'->Q (.int n) H'
def nL(K:Fg):TS:=(av (a6 (bg (aB fw (aB bZ (aB (bz K) (ae 2) (tC (.int 1))) (tC (.int 5))) (tC (.int 0))))
 (aY (aB Cc (tC (.int 0)) (aB (bh K) (ae 0) (ae 1))))
 a9)
 (av (a6 (bg (aB fw (aB bZ (aB (bz K) (ae 2) (tC (.int 1))) (tC (.int 5))) (tC (.int 1))))
 (aY (aB Cc (tC (.int 0)) (aB bZ (aB (bz K) (ae 2) (tC (.int 3))) (tC (.int 3)))))
 a9)
 (aY (aB (bz K) (cX (ag (aB bZ (aB (bz K) (ae 2) (tC (.int 3))) (tC (.int 4))) (ag (aB cT (tC (.int 1)) (aB bZ (aB (bz K) (ae 2) (tC (.int 3))) (tC (.int 9)))) (ag (aB bZ (ae 3) (aB JE (tC (.int 10)) (tC (.int 38)))) aq)))) (aB bZ (aB qN (aB (bz K) (ae 2) (tC (.int 1))) (tC (.int 5))) (tC (.int 3)))))))
theorem yL{K:Fg}{N:List Str}(hN:N.length=4)(h:og K vs H Q E):nL K (ends Q) (L2.start N vs) H:=by
 obtain⟨v,i,x,cell,c,ns,rfl,rv,li,hx,l4,mx,q⟩:=h;obtain⟨b,rfl,hb⟩:=eL rv;rw[L2.bx hN];walk_at "t";have g1:ns[1]?=some ns[1]:=Lb (by lia);have g3:ns[3]?=some ns[3]:=Lb (by lia);have gc:c[i]?=some c[i]:=Lb li;unfold nL;walk_at "";refine bG (SqL.of hx) (df g1) ?_;walk_at "";refine bt (fun _=>?_) (fun _=>?_)
 ·walk_at "";refine bn (SqT.of hb) (df gc) ?_;walk_at "";exact q _ H (Same.refl _)
 walk_at "";refine bG (SqL.of hx) (df g1) ?_;walk_at "";refine bt (fun _=>?_) (fun _=>?_)
 ·walk_at "";refine bG (SqL.of hx) (df g3) ?_;walk_at "";exact q _ H (Same.refl _)
 walk_at "";refine bG (SqL.of hx) (df g3) ?_;walk_at "";refine bG (SqL.of hx) (df g3) ?_;walk_at "";refine kF (show(0:Int)<10 ^ Int.toNat 38 by decide) ?_;walk_at "";refine⟨gu,fun l nl=>?_⟩;generalize cell % 10 ^ Int.toNat 38=z;have S1:=ar nl (.lst [V.int (ns[3] % 4),V.int (1+ns[3] % 9),.int z]);have h1:upd H l (.lst [V.int (ns[3] % 4),V.int (1+ns[3] % 9),.int z]) l=some (.lst ([ns[3] % 4,1+ns[3] % 9,z].map V.int)):=am;generalize upd H l (.lst [V.int (ns[3] % 4),V.int (1+ns[3] % 9),.int z])=H1 at S1 h1 ⊢;walk_at "";refine bG (SqL.of (S1 _ _ hx)) (df g1) ?_;walk_at "";have m0:=Nf (ns[1] / 5) (show(3:Int)≠0 by decide);have m3:=MK (ns[1] / 5) (show(0:Int)<3 by decide);generalize ns[1] / 5 % 3=m at m0 m3 ⊢;have lm:m.toNat<([ns[3] % 4,1+ns[3] % 9,z]:List Int).length:=by show m.toNat<3;lia
 have e:=df (Lb lm);rw[QP m0] at e;exact bG (SqL.of h1) e (q _ H1 S1)
theorem vZ(ns:List Int)(lo hi:Option Int):∃cells:List Int,f_ (ns.map V.int) lo hi=cells.map V.int/\cells.length<=ns.length:=by
 refine⟨(ns.drop (HT.sIx (ns.map V.int).length 0 lo)).take (HT.sIx (ns.map V.int).length (ns.map V.int).length hi-HT.sIx (ns.map V.int).length 0 lo),?_,?_⟩
 ·unfold f_;rw[Ug,Uh]
 ·rw[LG,MR];lia
def IX(m:Nat)(t:Tn):Prop:=ba m t.fr/\ba m t.to/\ie t.q t.d
def iA(K:Fg):Sp:=fun vs H Q _=>∃(a:Addr) (ns:List Int) (m:Nat),vs=[.ref a,.int (m:Int)]/\SqL K H a (ns.map V.int)/\ns.length<=63/\m<=5 /\
 ∀(p:Addr) (H':Hp) (po:List Tn),AccZ K H p H' (po.map dT)->po≠[]->(∀t∈po,IX m t)->Q (.ref p) H'
def xS(K:Fg):TS:=(a6 (nU (bg (aB fw (aB bZ (aB (bz K) (ae 4) (tC (.int 5))) (tC (.int 3))) (tC (.int 1)))) (bg (aB GR (bY (cE K) (ag (ae 2) aq)) (tC (.int 0)))))
 (aR (aB (bh K) (aB (bz K) (ae 2) (aB bZ (aB (bz K) (ae 4) (tC (.int 0))) (bY (cE K) (ag (ae 2) aq)))) (tC (.int 1))) (aH 6))
 a9)
def nO (K:Fg):TS:=(dL (lg K "list" di (ae 2) (ag (dX (ag (ae 6) (ag (ae 7) (ag (a4 (yf K) [] E0 (ag (aB cT (tC (.int 1)) (aB bZ (aB (bz K) (ae 4) (tC (.int 2))) (tC (.int 99)))) (ag (aB cT (tC (.int 1)) (aB bZ (aB (bz K) (ae 4) (tC (.int 3))) (tC (.int 9)))) aq))) aq)))) aq)))
def iq(K:Fg):TS:=(av (aR (cX aq) (aH 2))
 (av (eF (kM K (aB Cb (tw (Fn K) (ae 0) (fh (tC (.int 3))) (fh (tC (.int 12)))) (cX (ag (a4 (qp K) [] E0 (ag (ae 0) (ag (tC (.int 3)) aq))) aq)))) (aH 3)
 (av (aR (a4 (oi K) [] E0 (ag (ae 3) (ag (tC (.int 6)) aq))) (aH 4))
 (av (aR (aB cT (tC (.int 1)) (aB bZ (aB (bz K) (ae 4) (tC (.int 4))) (tC (.int 3)))) (aH 5))
 (av (aR (a4 (qo K) [] E0 (ag (aB (bz K) (ae 4) (tC (.int 0))) (ag (ae 1) (ag (ae 5) aq)))) (aH 6))
 (av (aR (a4 (qo K) [] E0 (ag (aB (bz K) (ae 4) (tC (.int 1))) (ag (ae 1) (ag (ae 5) aq)))) (aH 7))
 (av (a6 (bg (aB fw (aB bZ (aB (bz K) (ae 4) (tC (.int 5))) (tC (.int 3))) (tC (.int 0))))
 (aR (a4 (qo K) [] E0 (ag (tC (.int 0)) (ag (ae 1) (ag (tC (.int 1)) aq)))) (aH 7))
 a9)
 (av (xS K)
 (nO K))))))))
 (aY (ae 2))))
theorem t7{K:Fg}{N:List Str}(hN:N.length=8)(h:iA K vs H Q E):iq K (ends Q) (L2.start N vs) H:=by
 obtain⟨a,ns,m,rfl,ha,l63,m5,q⟩:=h;rw[L2.bx hN];walk_at "t";unfold iq;walk_at "";refine⟨by decide,fun l nl=>?_⟩;have Al:AccZ K H l (upd H l (.lst [])) ([].map dT):=AccZ.start (Same.refl _) nl;generalize upd H l (.lst [])=H1 at Al ⊢;walk_at "";obtain⟨cs,ec,lc⟩:=vZ ns (some 3) (some 12);refine⟨a,_,rfl,Al.same.seq ha,fun l2 n2=>?_⟩;rw[ec];have S2:=ar n2 (.lst (cs.map V.int));have h2:upd H1 l2 (.lst (cs.map V.int)) l2=some (.lst (cs.map V.int)):=am;have A2:=Al.on S2;generalize upd H1 l2 (.lst (cs.map V.int))=H2 at S2 h2 A2 ⊢;walk_at "";refine⟨a,ns,3,rfl,A2.same.seq ha,by decide,?_⟩;generalize cellOf ns 3=c3;walk_at "";refine⟨jS,fun l4 n4=>?_⟩;have S4:=ar n4 (.lst [.int c3]);have h4:upd H2 l4 (.lst [.int c3]) l4=some (.lst [.int c3]):=am;have A4:=A2.on S4;generalize upd H2 l4 (.lst [.int c3])=H4 at S4 h4 A4 ⊢;refine⟨l2,l4,_,_,rfl,rfl,S4 _ _ h2,h4,by rw[La,Nl];simp only[L9];lia,fun l3 n3=>?_⟩;have S3:=ar n3 (.lst (cs.map V.int++[.int c3]));have h3:upd H4 l3 (.lst (cs.map V.int++[.int c3])) l3=some (.lst ((cs++[c3]).map V.int)):=by rw[am,LD];rfl
 have A3:=A4.on S3
 have nl3:l3≠l:=fun e=>by
  obtain⟨ys,hy,_⟩:=A4.at_;rw[<- e,n3] at hy;cases hy
 generalize upd H4 l3 (.lst (cs.map V.int++[.int c3]))=H3 at S3 h3 A3 ⊢;have lcs:(cs++[c3]).length=cs.length+1:=by rw[LQ];rfl
 refine CK (SqL.of h3) ?_;refine jy (xs:=(cs++[c3]).map V.int) (fun i σ H5=>∃(po:List Tn) (u3 u4 u5 u6 u7:Option V),σ=[some (.ref a),some (.int (m:Int)),some (.ref l),u3,u4,u5,u6,u7]/\AccZ K H l H5 (po.map dT)/\po.length=i/\(∀t∈po,IX m t)/\H5 l3=some (.lst ((cs++[c3]).map V.int))) ⟨[],none,none,none,none,none,rfl,A3,rfl,fun t ht=>(by cases ht),h3⟩ (fun i σ H5 _ p=>by obtain⟨_,_,_,_,_,_,_,_,_,_,e⟩:=p;exact SqL.of e) ?_ ?_
 ·rintro i z σ H5 hz ⟨po,u3,u4,u5,u6,u7,rfl,A5,lp,op,e5⟩;rw[Li] at hz;obtain⟨c,hc,rfl⟩:=Ln.mp hz;have li:i<(cs++[c3]).length:=(Ld.mp hc).1;walk_at "";refine⟨c,6,rfl,by decide,by decide,fun x H6 ms Ax lm mm=>?_⟩;have lm6:ms.length=6:=lm;have hx:=AccZ.ints Ax;have g0:ms[0]?=some ms[0]:=Lb (by lia);have g1:ms[1]?=some ms[1]:=Lb (by lia);have g2:ms[2]?=some ms[2]:=Lb (by lia);have g3:ms[3]?=some ms[3]:=Lb (by lia);have g4:ms[4]?=some ms[4]:=Lb (by lia);have g5:ms[5]?=some ms[5]:=Lb (by lia);have S6:=Ax.same;walk_at "";refine bG (SqL.of hx) (df g4) ?_;walk_at "";have t0:=Nf ms[4] (show(3:Int)≠0 by decide);have t3:=MK ms[4] (show(0:Int)<3 by decide);generalize ms[4] % 3=tp at t0 t3 ⊢;refine bG (SqL.of hx) (df g0) ?_;walk_at "";refine⟨_,_,_,rfl,by lia,by lia,by lia,by lia,fun p1 H7 h1 S7 o1 r1=>?_⟩;walk_at "";refine bG (SqL.of (S7 _ _ hx)) (df g1) ?_;walk_at "";refine⟨_,_,_,rfl,by lia,by lia,by lia,by lia,fun p2 H8 h2 S8 o2 r2=>?_⟩;have S68:=S7.trans S8;obtain⟨xs0,hl0,rp0⟩:=A5.at_;have lx0:xs0.length=po.length:=by rw[rp0.length,La]
  have fin:∀(D:cq),(∀σ H',(∃(po:List Tn) (u3 u4 u5 u6 u7:Option V),σ=[some (.ref a),some (.int (m:Int)),some (.ref l),u3,u4,u5,u6,u7]/\AccZ K H l H' (po.map dT)/\po.length=i+1/\(∀t∈po,IX m t)/\H' l3=some (.lst ((cs++[c3]).map V.int)))->D.nx σ H') ->
    ∀(H9:Hp) (v6 v7:V) (k1 k2:List Int),Same H6 H9->ba m k1->ba m k2->Rz K H9 v6 (dI k1)->Rz K H9 v7 (dI k2)->nO K D [some (.ref a),some (.int (m:Int)),some (.ref l),some (.int c),some (.ref x),some (.int (1+tp)),some v6,some v7] H9:=by
   intro D hD H9 v6 v7 k1 k2 S9 ok1 ok2 rk1 rk2;unfold nO;have YQ:=S6.trans S9;have A9:=A5.on YQ;walk_at "";refine⟨A9.ty,?_⟩;walk_at "";refine bG (SqL.of (S9 _ _ hx)) (df g2) ?_;walk_at "";refine bG (SqL.of (S9 _ _ hx)) (df g3) ?_;walk_at "";have a0:=Nf ms[2] (show(99:Int)≠0 by decide);have a1:=MK ms[2] (show(0:Int)<99 by decide);have b0:=Nf ms[3] (show(9:Int)≠0 by decide);have b1:=MK ms[3] (show(0:Int)<9 by decide);refine⟨_,_,rfl,by lia,by lia,by lia,by lia,fun p9 q9 d9 XQ YO pk r10=>?_⟩;walk_at "";refine⟨gu,fun pt npt=>?_⟩;have S11:=ar npt (.tup [v6,v7,.ref p9]);have r11:Rz K (upd XQ pt (.tup [v6,v7,.ref p9])) (.ref pt) (dT ⟨k1,k2,q9,d9⟩):=.tup am (.cons ((rk1.same YO).same S11) (.cons ((rk2.same YO).same S11) (.cons (r10.same S11) .nil)));have A11:=(A9.on YO).on S11;have e11:=S11 _ _ (YO _ _ (YQ _ _ e5));generalize upd XQ pt (.tup [v6,v7,.ref p9])=H11 at S11 r11 A11 e11 ⊢;walk_at "";refine g_ A11 r11 (aU (by rw[La];lia)) fun H12 A12 _ ot _=>?_
   refine hD _ _ ⟨po++[⟨k1,k2,q9,d9⟩],_,_,_,_,_,rfl,by rw[LD];exact A12,by rw[LQ,lp];rfl,fun t ht=>?_,by rw[ot _ nl3];exact e11⟩;rcases LZ.mp ht with z|z
   ·exact op t z
   ·rw[Lx.mp z];exact⟨ok1,ok2,pk⟩
  have mid:∀(D:cq),(∀σ H',(∃(po:List Tn) (u3 u4 u5 u6 u7:Option V),σ=[some (.ref a),some (.int (m:Int)),some (.ref l),u3,u4,u5,u6,u7]/\AccZ K H l H' (po.map dT)/\po.length=i+1/\(∀t∈po,IX m t)/\H' l3=some (.lst ((cs++[c3]).map V.int)))->D.nx σ H') ->
    ∀(H9:Hp) (v6 v7:V) (k1 k2:List Int),Same H6 H9->ba m k1->ba m k2->Rz K H9 v6 (dI k1)->Rz K H9 v7 (dI k2)->av (xS K) (nO K) D [some (.ref a),some (.int (m:Int)),some (.ref l),some (.int c),some (.ref x),some (.int (1+tp)),some v6,some v7] H9:=by
   intro D hD H9 v6 v7 k1 k2 S9 ok1 ok2 rk1 rk2;have F:=fin D hD;have YQ:=S6.trans S9;walk_at "";unfold xS;walk_at "";refine bG (SqL.of (S9 _ _ hx)) (df g5) ?_;walk_at "";refine bt (fun _=>?_) (fun _=>?_)
   ·walk_at "";refine dO (SqL.of (YQ _ _ hl0)) ?_;walk_at "";refine bt (fun z=>?_) (fun _=>?_)
    ·have ne:po≠[]:=fun e=>by rw[lx0,e] at z;exact absurd z (by decide)
     walk_at "";refine bG (SqL.of (S9 _ _ hx)) (df g0) ?_;walk_at "";refine dO (SqL.of (YQ _ _ hl0)) ?_;refine kF (show(0:Int)<(xs0.length:Int) by lia) ?_;obtain⟨v,t,e,mt,_,rt⟩:=Js (rp0.same YQ) ne ms[0];refine bG (SqL.of (YQ _ _ hl0)) e ?_;obtain⟨p,w1,w2,w3,rfl,hp,q1,q2,_⟩:=ib rt;walk_at "";refine bn (SqT.of hp) (v:=w2) rfl ?_;walk_at "";exact F H9 w2 v7 t.to k2 S9 (op t mt).2.1 ok2 q2 rk2
    ·walk_at "";exact F H9 v6 v7 k1 k2 S9 ok1 ok2 rk1 rk2
   ·walk_at "";exact F H9 v6 v7 k1 k2 S9 ok1 ok2 rk1 rk2
  have om:∀{hs:List Int},ba (m:Int).toNat hs->ba m hs:=fun h=>by rwa [MT] at h
  walk_at "";refine bG (SqL.of (S68 _ _ hx)) (df g5) ?_;walk_at "";refine bt (fun _=>?_) (fun _=>?_)
  ·walk_at "";refine⟨_,_,_,rfl,by lia,by lia,by decide,by decide,fun p3 H9 h3' S9 o3 r3=>?_⟩;walk_at "";exact mid _ (fun _ _ h=>h) H9 (.ref p1) (.ref p3) h1 h3' (S68.trans S9) (om o1) (om o3) ((r1.same S8).same S9) r3
  ·walk_at "";exact mid _ (fun _ _ h=>h) H8 (.ref p1) (.ref p2) h1 h2 S68 (om o1) (om o2) (r1.same S8) r2
 ·rintro σ H5 ⟨po,u3,u4,u5,u6,u7,rfl,A5,lp,op,e5⟩;walk_at "";refine q l H5 po A5 (fun e=>?_) op;rw[e,La,lcs] at lp;cases lp
local macro_rules | `(tactic| walk_at "d")=>`(tactic| repeat first|fail "1"|with_reducible refine wX ?_|with_reducible refine mh ?_|with_reducible refine wW ?_)
theorem JN(t:Tn)(l1:t.fr.length<=1000)(l2:t.to.length<=1000):rC 2 (dT t)=true:=by
 have i:∀(ns:List Int),ns.length<=1000->rC 1 (dI ns)=true:=fun ns l=>zt (by rw[La];exact l) fun d hd=>by
  obtain⟨n,_,rfl⟩:=Ls.mp hd;rfl
 refine zt (by show 3<=1000;decide) fun d hd=>?_
 simp only[Lj,Lp,or_false] at hd;rcases hd with rfl|rfl|rfl
 ·exact i _ l1
 ·exact i _ l2
 ·exact i [t.q,t.d] (by show 2<=1000;decide)
theorem Cz(ss:List Str)(l:ss.length<=1000)(n:Nat):rC (n+1) (.list (ss.map Mp))=true:=HE (by rw[La];exact l) fun d hd=>by
 obtain⟨w,_,rfl⟩:=Ls.mp hd;cases n <;> rfl
theorem HF(o:DOk d):rC 4 (dV d.ws d.ts)=true:=by
 have l5:=o.st.1.2;have l8:=o.l8;refine zt (by show 2<=1000;decide) fun e he=>?_
 simp only[Lj,Lp,or_false] at he;rcases he with rfl|rfl
 ·refine zt (by rw[La];lia) fun d hd=>?_
  obtain⟨w,_,rfl⟩:=Ls.mp hd;rfl
 ·refine zt (by rw[La];lia) fun e he=>?_
  obtain⟨t,ht,rfl⟩:=Ls.mp he;have ot:=o.tt t ht;exact JN t (by have:=ot.1.1;lia) (by have:=ot.2.1.1;lia)
def dN(K:Fg)(C:Addr):Sp:=fun vs H Q _=>∃(a w r:Addr) (d:Ds) (xs:List V),vs=[.ref a,.ref w,.ref r]/\Desk K C H a d/\DOk d/\H w=some (.lst (d.ws.map V.str))/\H r=some (.lst xs)/\RzL K H xs (d.ts.map dT)/\∀H',Same H H'->Q (.bl true) H'
def gn(K:Fg)(dD:Addr):TS:=(av (eF (iS (ag (tC (.int 2)) aq)) (aH 3)
 (av (aR (gq dD "texts" (jr K dD) [] E0 (ae 0) aq) (aH 4))
 (av (a6 (dJ (tB (a4 (eG K 4) [] E0 (ag (ae 4) (ag (gr (kM K (ae 2)) (a4 (Tg.js K) [] E0 (ag (ae 2) (ag (ae 0) aq)))) aq)))))
 (aY (tC (.bl false)))
 a9)
 (dL (wq K "list" qO (ae 4))))))
 (aY (tC (.bl true))))
theorem qJ{K:Fg}{N:List Str}(hN:N.length=5)(h:dN K C vs H Q E):gn K C (ends Q) (L2.start N vs) H:=by
 obtain⟨a,w,r,d,xs,rfl,Dd,o,hw,hr,rx,q⟩:=h;have l8:=o.l8;have lx:xs.length=d.ts.length:=by rw[rx.length,La]
 rw[L2.bx hN];walk_at "t";unfold gn;walk_at "d";refine cw (fun i σ H2=>∃u3 u4:Option V,σ=[some (.ref a),some (.ref w),some (.ref r),u3,u4]/\Same H H2) ⟨none,none,rfl,Same.refl _⟩ ?_ ?_
 ·rintro i σ H2 hi ⟨u3,u4,rfl,S2⟩;have D2:=Dd.same S2;obtain⟨vs,vt,vp,ys,A⟩:=id D2;walk_at "d";refine⟨a,d.dx,_,rfl,A.ins,rfl,?_⟩;walk_at "d";refine⟨a,d,rfl,D2,o.wd.ok,l8,o.tt,fun p H3 A3=>?_⟩;have S3:=S2.trans A3.same;walk_at "d";refine⟨r,rfl,⟨_,SqL.of (S3 _ _ hr)⟩,?_⟩;refine kQ (xs:=xs) fun D nD=>⟨fun i H4=>AccZ K H3 D H4 (((d.ts.take i).map (Tw.turnT d.ws)).map Mp),AccZ.start (Same.refl _) nD,fun i H4 _ A=>SqL.of (A.same _ _ (S3 _ _ hr)),?_,?_⟩
  ·intro j z H4 hz A4;obtain⟨dd,g1,g2⟩:=rx.get hz;rw[Li] at g1;obtain⟨t,ht,rfl⟩:=Ln.mp g1;have lj:j<d.ts.length:=(Ld.mp ht).1;have S4:=S3.trans A4.same;walk_at "d";refine⟨w,z,d.ws,t,rfl,S4 _ _ hw,g2.same S4,o.wd.ok,o.tt t (Ll ht),fun H5 S5=>?_⟩;refine cA (by lia) ((A4.on S5).gz (.str _) (aU ?_) fun H6 A6=>?_)
   ·rw[La,La,LG];lia
   ·show AccZ K H3 D H6 (((d.ts.take (j+1)).map (Tw.turnT d.ws)).map Mp);rw[LU,ht,LD,LD];exact A6
  ·intro H4 A4;rw[lx,Lq (Lg _)] at A4;have A34:=A3.on A4.same;walk_at "d";refine⟨.ref p,.ref D,_,_,rfl,A34.ref.a,A4.ref.a,Cz _ (by rw[La];lia) 3,fun _=>?_,fun z=>absurd rfl z⟩;obtain⟨zs,hzs,_⟩:=A34.at_;walk_at "d";refine⟨A34.ty,uB hzs ?_⟩;walk_at "d";exact⟨_,_,rfl,fun b u e=>by rw[aC (au (S2 _ _ e) A3.new)];exact A34.same _ _ (S2 _ _ e)⟩
 ·rintro σ H2 ⟨u3,u4,rfl,S2⟩;walk_at "d";exact q H2 S2
def oa(K:Fg)(C:Addr):Sp:=fun vs H Q _=>∃(a w s r:Addr) (vc:V) (b:Bool) (d:Ds) (xs:List V),vs=[.ref a,.ref w,.ref s,.bl b]/\Desk K C H a d/\DOk d/\H w=some (.lst (d.ws.map V.str))/\H s=some (.tup [.ref r,vc])/\H r=some (.lst xs)/\RzL K H xs (d.ts.map dT)/\Rz K H vc (dI d.c)/\∀H',Same H H'->Q (.bl true) H'
structure RtAt (K:Fg) (C:Addr) (H:Hp) (a w r c:Addr) (d:Ds) (xs:List V):Prop where
 D:Desk K C H a d
 o:DOk d
 w:H w=some (.lst (d.ws.map V.str))
 r:H r=some (.lst xs)
 x:RzL K H xs (d.ts.map dT)
 c:H c=some (.tup (d.c.map V.int))
theorem RtAt.same{K:Fg}{C:Addr}{H H':Hp}{a w r c:Addr}{d:Ds}{xs:List V}(R:RtAt K C H a w r c d xs)(S:Same H H'):RtAt K C H' a w r c d xs:=⟨R.D.same S,R.o,S _ _ R.w,S _ _ R.r,R.x.same S,S _ _ R.c⟩
def nJ (K:Fg) (dD:Addr):TS:=(av (a6 (nU (bg (aB (yS K) (ae 4) (cX aq))) (dJ (tB (a4 (eG K 4) [] E0 (ag (gq dD "vessel" (jP K dD) [] E0 (ae 0) aq) (ag (dX (ag (bY (dv K) (ag (ae 1) aq)) (ag (bY (dv K) (ag (ae 4) aq)) aq))) aq))))))
 (aY (tC (.bl false)))
 a9)
 (aY (Bs (ae 3) (a4 (dN K dD) [] E0 (ag (ae 0) (ag (ae 1) (ag (ae 4) aq)))))))
theorem yK{K:Fg}{Q:VK}{u6:Option V}(R:RtAt K C H a w r c d xs)(q:∀H',Same H H'->Q (.bl true) H') :
  nJ K C (ends Q) [some (.ref a),some (.ref w),some (.ref s),some (.bl b),some (.ref r),some (.ref c),u6] H:=by
 have o:=R.o;have lx:xs.length=d.ts.length:=by rw[R.x.length,La]
 have fin:∀H2,Same H H2->(if b=true then (ends Q).rt (.bl true) H2 else (a4 (dN K C) [] E0 (ag (ae 0) (ag (ae 1) (ag (ae 4) aq)))) [some (.ref a),some (.ref w),some (.ref s),some (.bl b),some (.ref r),some (.ref c),u6] H2 (ends Q).rt):=fun H2 S2=>by
  have R2:=R.same S2;cases b with
  |true=>exact q H2 S2
  |false =>
   walk_at "d";exact⟨a,w,r,d,xs,rfl,R2.D,o,R2.w,R2.r,R2.x,fun H' S'=>q H' (S2.trans S')⟩
 unfold nJ;walk_at "d";refine⟨by decide,fun l nl=>?_⟩;have S1:=ar nl (.lst []);have h1:upd H l (.lst []) l=some (.lst []):=am;generalize upd H l (.lst [])=H1 at S1 h1 ⊢;have R1:=R.same S1;refine F1 (d:=.list (d.ts.map dT)) (e:=.list []) (.lst (SqL.of R1.r) R1.x.rep) (.lst (SqL.of h1) .nil) (FL _) (by decide +kernel) (fun z=>?_) (fun z=>?_)
 ·have ne:d.ts≠[]:=fun e=>z (by rw[e];rfl)
  obtain⟨vs,vt,vp,ys,A⟩:=id R1.D;walk_at "d";refine⟨a,d.dx,_,rfl,A.ins,rfl,?_⟩;walk_at "d";refine⟨a,d,rfl,R1.D,o,ne,fun p H2 S2 rp=>?_⟩;have R2:=R1.same S2;walk_at "d";refine gg (SqL.of R2.w) fun p3 n3=>?_
  have S3:=ar n3 (.tup (d.ws.map V.str));have h3:upd H2 p3 (.tup (d.ws.map V.str)) p3=some (.tup (d.ws.map V.str)):=am;generalize upd H2 p3 (.tup (d.ws.map V.str))=H3 at S3 h3 ⊢;have R3:=R2.same S3;walk_at "d";refine gg (SqL.of R3.r) fun p4 n4=>?_
  have S4:=ar n4 (.tup xs);have h4:upd H3 p4 (.tup xs) p4=some (.tup xs):=am;generalize upd H3 p4 (.tup xs)=H4 at S4 h4 ⊢;have R4:=R3.same S4;walk_at "d";refine⟨bq,fun p5 n5=>?_⟩;have S5:=ar n5 (.tup [.ref p3,.ref p4]);have r5:Rz K (upd H4 p5 (.tup [.ref p3,.ref p4])) (.ref p5) (dV d.ws d.ts):=.tup am (.cons (.tup (S5 _ _ (S4 _ _ h3)) (RpL.strs _)) (.cons (.tup (S5 _ _ h4) ((R4.same S5).x)) .nil));generalize upd H4 p5 (.tup [.ref p3,.ref p4])=H5 at S5 r5 ⊢;have S25:=S3.trans (S4.trans S5);walk_at "d";refine⟨.ref p,.ref p5,_,_,rfl,(rp.same S25).a,r5.a,HF o,fun _=>?_,fun z=>absurd rfl z⟩;walk_at "d";exact fin H5 (S1.trans (S2.trans S25))
 ·walk_at "d";exact fin H1 S1
theorem FM(o:DOk d):rC 4 (.list ((d.ws.zip d.c).map dP))=true:=by
 have l5:=o.st.1.2;refine HE (by rw[La,Om];lia) fun e he=>?_
 obtain⟨p,_,rfl⟩:=Ls.mp he;rfl
def nK (K:Fg) (dD:Addr):TS:=(av (aR (gq dD "count" (nV K dD) [] E0 (ae 0) aq) (aH 6))
 (av (a6 (dJ (tB (a4 (eG K 4) [] E0 (ag (ae 6) (ag (gr (iS (ag (bY (cE K) (ag (ae 1) aq)) aq)) (dX (ag (aB (bz K) (ae 2) (ae 0)) (ag (aB (bh K) (ae 6) (ae 0)) aq)))) aq)))))
 (aY (tC (.bl false)))
 a9)
 (av (dL (wq K "list" qO (ae 6)))
 (nJ K dD))))
theorem qK{K:Fg}{Q:VK}(R:RtAt K C H a w r c d xs)(q:∀H',Same H H'->Q (.bl true) H') :
  nK K C (ends Q) [some (.ref a),some (.ref w),some (.ref s),some (.bl b),some (.ref r),some (.ref c),none] H:=by
 have o:=R.o;have l5:=o.st.1.2;have ln:=o.ln;have lz:(d.ws.zip d.c).length=d.ws.length:=by rw[Om];lia
 obtain⟨vs,vt,vp,ys,A⟩:=id R.D;unfold nK;walk_at "d";refine⟨a,d.dx,_,rfl,A.ins,rfl,?_⟩;walk_at "d";refine⟨a,d,rfl,R.D,by lia,l5,fun p H1 A1=>?_⟩;have R1:=R.same A1.same;walk_at "d";refine dO (SqL.of R1.w) ?_;rw[La];walk_at "d";refine w6 (n:=d.ws.length) fun D nD=>⟨fun i H2=>AccZ K H1 D H2 (((d.ws.zip d.c).take i).map dP),AccZ.start (Same.refl _) nD,?_,?_⟩
 ·intro i H2 hi A2;have R2:=R1.same A2.same;have e1:d.ws[i]?=some d.ws[i]:=Lb hi;have e2:d.c[i]?=some d.c[i]:=Lb (by lia);have ez:(d.ws.zip d.c)[i]?=some (d.ws[i],d.c[i]):=by rw[MU];exact⟨e1,e2⟩
  walk_at "d";refine bG (SqL.of R2.w) (v:=.str d.ws[i]) (by rw[Nz];exact bQ (by rw[Li,e1];rfl)) ?_;walk_at "d";refine bn (SqT.of R2.c) (v:=.int d.c[i]) (by rw[Nz];exact df e2) ?_;walk_at "d";refine⟨bq,fun p3 n3=>?_⟩;have S3:=ar n3 (.tup [.str d.ws[i],.int d.c[i]]);have r3:Rz K (upd H2 p3 (.tup [.str d.ws[i],.int d.c[i]])) (.ref p3) (dP (d.ws[i],d.c[i])):=.tup am (.cons (.str _) (.cons (.int _) .nil));refine cA hi ((A2.on S3).gz r3 (aU ?_) fun H4 A4=>?_)
  ·rw[La,LG];lia
  ·show AccZ K H1 D H4 (((d.ws.zip d.c).take (i+1)).map dP);rw[LU,ez,LD];exact A4
 ·intro H2 A2;rw[<- lz,Lq (Lg _)] at A2;have A12:=A1.on A2.same;walk_at "d";refine⟨.ref p,.ref D,_,_,rfl,A12.ref.a,A2.ref.a,FM o,fun _=>?_,fun z=>absurd rfl z⟩;obtain⟨zs,hzs,_⟩:=A12.at_;walk_at "d";refine⟨A12.ty,uB hzs ?_⟩;have S3:Same H (upd H2 p (.lst [])):=fun b u e=>by rw[aC (au e A1.new)];exact A12.same _ _ e
  generalize upd H2 p (.lst [])=H3 at S3 ⊢;walk_at "d";exact yK (R.same S3) fun H' S'=>q H' (S3.trans S')
def sQ(K:Fg)(dD:Addr):TS:=(av (aR (ae 2) (pL K 2 (fK (aH 4) (fK (aH 5) pM))))
 (av (a6 (nU (tB (ae 3)) (dJ (tB (a4 (dN K dD) [] E0 (ag (ae 0) (ag (ae 1) (ag (ae 4) aq)))))))
 (aY (tC (.bl false)))
 a9)
 (nK K dD)))
theorem BL{K:Fg}{N:List Str}(hN:N.length=7)(h:oa K C vs H Q E):sQ K C (ends Q) (L2.start N vs) H:=by
 obtain⟨a,w,s,r,vc,b,d,xs,rfl,Dd,o,hw,hs,hr,rx,rc,q⟩:=h;obtain⟨c,rfl,hc⟩:=eL rc;have R:RtAt K C H a w r c d xs:=⟨Dd,o,hw,hr,rx,hc⟩
 rw[L2.bx hN];walk_at "t";unfold sQ;walk_at "d";refine kH (SqT.of hs) rfl ?_;walk_at "d";cases b with
 |true =>
  walk_at "d";refine⟨a,w,r,d,xs,rfl,R.D,o,R.w,R.r,R.x,fun H1 S1=>?_⟩;walk_at "d";exact qK (R.same S1) fun H' S'=>q H' (S1.trans S')
 |false =>
  walk_at "d";exact qK R q
end Dk
namespace L2
section
variable{D:cq}{E:St->XK}{σ:St}{H:Hp}
theorem Ku{tc:TT}{t u:TB}(h:tc σ H fun d H1=>if d=true then t D E σ H1 else u D E σ H1):IS tc t u D E σ H:=h
theorem Gf{sp:Sp}{ta:TE}{t:TA}(h:ta σ H fun x H1=>∃a dx fs,x=.ref a/\H1 a=some (.ins C dx fs)/\fs.lookup m=none/\t σ H1 fun vs H2=>sp (x :: (vs++[])) H2 (fun _ H3=>D.nx σ H3) (E σ)):xg C m sp ta t D E σ H:=h
theorem H_{K:Fg}{t:TB}(h:t D (fun σ'=>AO K Dv ts D σ') σ H):EL K Dv t ts D σ H:=h
end
end L2
namespace Dk
open PySem L2 Fr G1 Sm Vs Dn Rk Wd
open PySem.W (Dat kqdOk)
local macro_rules | `(tactic| walk_at "d")=>`(tactic| repeat first|fail "1"|with_reducible refine wX ?_|with_reducible refine mh ?_|with_reducible refine wW ?_|with_reducible refine Ku ?_|with_reducible refine Gf ?_|with_reducible refine H_ ?_)
structure Ex (K:Fg) (x:Ex0.Ad):Prop where
 s4:lR K x.c4 x.V
 s5:lR K x.c5 x.V
 s7:lR K x.c7 x.V
 s12:lR K x.c12 x.V
 e7:sA K x.c7
 f7:sB K x.c7 "at"
inductive Dd where
 |put (t:Tn)
 |take (t:Tn)
 |turn (t:Tn)
 |pour (i:Nat) (n:Int)
def kind:Dd->Int
 |.put _=>0
 |.take _=>1
 |.turn _=>2
 |.pour _ _=>3
def GX(ws:List Str):Dd->Str
 |.put t=>Tw.turnT ws t
 |.take t=>Tw.turnT ws t
 |.turn t=>Tw.turnT ws t
 |.pour i _=>ws.getD i ""
def Jx(d:Ds):Dd->Prop
 |.put t=>Tw.TtOk d.ws t
 |.take t=>Tw.TtOk d.ws t
 |.turn t=>Tw.TtOk d.ws t
 |.pour i _=>i<d.ws.length
def Due(d:Ds):Dd->Prop
 |.put t=>Nv.ga (d.ts++[t])
 |.take t=>t∈d.ts
 |.turn t=>t∈d.ts/\AQ (pr t) d.c=true
 |.pour i n=>0<=pt d.c i+n
open Classical in
noncomputable def IV (d:Ds):Dd->Ds
 |.put t=>{d with ts:=d.ts++[t],n:=d.n+1}
 |.take t=>{d with ts:=d.ts.filter (fun u=>decide (u≠t)),n:=d.n+1}
 |.turn t=>{d with c:=xf (pr t) d.c,n:=d.n+1}
 |.pour i n=>{d with c:=d.c.set i (pt d.c i+n),n:=d.n+1}
theorem JO(o:DOk d):d.ts.Nodup:=by
 rcases o.ck with z|z
 ·rw[z];exact Nq
 ·exact RA.of_map cy (fun a b h e=>h (congrArg cy e)) z.2.2.1
open Classical in
theorem mH:∀{ts:List Tn} {t:Tn} {j:Nat},ts.Nodup->ts[j]?=some t->ts.take j++ts.drop (j+1)=ts.filter (fun u=>decide (u≠t))
 |[],_,_,_,h=>by cases h
 |u :: ts,t,0,nd,h=>by
  cases h;rw[Me] at nd;rw[List.take_zero,PC,P4 (by simp)];refine(List.filter_eq_self.mpr fun w hw=>?_).symm;have ne:w≠u:=fun e=>nd.1 (e ▸ hw)
  exact decide_eq_true ne
 |u :: ts,t,j+1,nd,h=>by
  rw[Me] at nd;have h':ts[j]?=some t:=h;have ne:u≠t:=fun e=>nd.1 (e ▸ Ll h')
  rw[P3 (by simpa using ne),<- mH nd.2 h'];rfl
def n8(K:Fg)(C:Addr):Sp:=fun vs H Q _=>∃(a:Addr) (d:Ds) (k:Dd) (m:Int),vs=[.ref a,.int (kind k),.str (GX d.ws k),.int m]/\(∀i n,k=.pour i n->m=n)/\Desk K C H a d/\DOk d/\d.n<1000/\Jx d k /\
 ∀(b:Bool) (H':Hp),Up [a,d.l] H H'->(b=true↔Due d k)->Desk K C H' a (if b=true then IV d k else d)->Q (.bl b) H'
def ip(K:Fg)(dD:Addr)(x:Ex0.Ad):TS:=(av (aR (tC (.bl true)) (aH 4))
 (av (EL K x.V (IS (bg (aB fw (ae 1) (tC (.int 0))))
 (xg dD "put" (yc K dD x) (ae 0) (ag (ae 2) aq))
 (IS (bg (aB fw (ae 1) (tC (.int 1))))
 (xg dD "take" (tF K dD x) (ae 0) (ag (ae 2) aq))
 (IS (bg (aB fw (ae 1) (tC (.int 2))))
 (xg dD "turn" (tE K dD x) (ae 0) (ag (ae 2) aq))
 (xg dD "pour" (tG K dD x) (ae 0) (ag (ae 2) (ag (ae 3) aq)))))) (aR (tC (.bl false)) (aH 4)))
 (aY (ae 4))))
theorem BI{K:Fg}(T:Ex K x){N:List Str}(hN:N.length=5)(h:n8 K C vs H Q E):ip K C x (ends Q) (L2.start N vs) H:=by
 obtain⟨a,d,k,m,rfl,em,Dd',o,n9,ak,q⟩:=h;obtain⟨vs,vt,vp,xs,A⟩:=id Dd';have yes:∀H',Due d k->Up [a,d.l] H H'->Desk K C H' a (IV d k)->Q (.bl true) H':=fun H' z U D=>q true H' U ⟨fun _=>z,fun _=>rfl⟩ D
 have no:∀H',¬ Due d k->Same H H'->Q (.bl false) H':=fun H' z S=>q false H' (Up.of_same S) ⟨fun y=>(by cases y),fun y=>absurd y z⟩ (Dd'.same S)
 cases k with
 |put t =>
  rw[L2.bx hN];walk_at "t";unfold ip;walk_at "d";refine bt (fun _=>?_) (fun z=>absurd rfl z);walk_at "d";refine⟨a,d.dx,_,rfl,A.ins,rfl,?_⟩;walk_at "d";refine⟨a,d,t,rfl,Dd',o,n9,ak,fun ok H' U D=>?_,fun nk H' S=>⟨x.c4,rfl,T.s4,?_⟩⟩
  ·walk_at "d";exact yes H' ok U D
  ·walk_at "d";exact no H' nk S
 |take t =>
  rw[L2.bx hN];walk_at "t";unfold ip;walk_at "d";refine bt (fun z=>absurd (show(1:Int)=0 from z) (by decide)) (fun _=>?_);walk_at "d";refine bt (fun _=>?_) (fun z=>absurd rfl z);walk_at "d";refine⟨a,d.dx,_,rfl,A.ins,rfl,?_⟩;walk_at "d";refine⟨a,d,t,rfl,Dd',o,n9,ak,fun j H' fj U D=>?_,fun nk H' S=>⟨x.c5,rfl,T.s5,?_⟩⟩
  ·walk_at "d";rw[mH (JO o) fj.1] at D;exact yes H' (Ll fj.1) U D
  ·walk_at "d";exact no H' nk S
 |turn t =>
  rw[L2.bx hN];walk_at "t";unfold ip;walk_at "d";refine bt (fun z=>absurd (show(2:Int)=0 from z) (by decide)) (fun _=>?_);walk_at "d";refine bt (fun z=>absurd (show(2:Int)=1 from z) (by decide)) (fun _=>?_);walk_at "d";refine bt (fun _=>?_) (fun z=>absurd rfl z);walk_at "d";refine⟨a,d.dx,_,rfl,A.ins,rfl,?_⟩;walk_at "d";refine⟨a,d,t,rfl,Dd',o,n9,ak,T.e7,T.f7,fun mt hc H' U D=>?_,fun nk H' S=>⟨x.c5,rfl,T.s5,?_⟩,fun mt hc dx H' S=>⟨x.c7,rfl,T.s7,?_⟩⟩
  ·walk_at "d";exact yes H' ⟨mt,hc⟩ U D
  ·walk_at "d";exact no H' (fun z=>nk z.1) S
  ·walk_at "d";exact no H' (fun z=>by rw[z.2] at hc;cases hc) S
 |pour i n =>
  have li:i<d.ws.length:=ak;have en:=em i n rfl;subst en;have hw:d.ws[i]?=some (d.ws.getD i ""):=by rw[Mm,Lb li];rfl
  have hc:d.c[i]?=some (pt d.c i):=by unfold pt;rw[Mm,Lb (by rw[o.ln];exact li)];rfl
  rw[L2.bx hN];walk_at "t";unfold ip;walk_at "d";refine bt (fun z=>absurd (show(3:Int)=0 from z) (by decide)) (fun _=>?_);walk_at "d";refine bt (fun z=>absurd (show(3:Int)=1 from z) (by decide)) (fun _=>?_);walk_at "d";refine bt (fun z=>absurd (show(3:Int)=2 from z) (by decide)) (fun _=>?_);walk_at "d";refine⟨a,d.dx,_,rfl,A.ins,rfl,?_⟩;walk_at "d";refine⟨a,d,i,_,_,m,rfl,Dd',o,n9,hw,hc,fun z H' U D=>?_,fun z H' S=>⟨x.c12,rfl,T.s12,?_⟩⟩
  ·walk_at "d";exact yes H' z U D
  ·walk_at "d";exact no H' (fun y=>absurd (show 0<=pt d.c i+m from y) (by lia)) S
local macro_rules | `(tactic| walk_at "d")=>`(tactic| repeat first|fail "1"|with_reducible refine wX ?_|with_reducible refine mh ?_|with_reducible refine wW ?_)
theorem pG{hs:List (List Int)}{x:List Int}(m:x∈hs):x∈cF hs h:=by
 unfold cF;split
 ·exact m
 ·exact LZ.mpr (.inl m)
theorem rV(hs:List (List Int))(h:List Int):h∈cF hs h:=by
 unfold cF;split
 ·assumption
 ·exact LZ.mpr (.inr (Lx.mpr rfl))
theorem pJ:∀(ts:List Tn) {hs:List (List Int)} {x:List Int},x∈hs->x∈hZ hs ts
 |[],_,_,m=>m
 |t :: ts,_,_,m=>pJ ts (pG (pG m))
theorem vO:∀{ts:List Tn} {hs:List (List Int)} {t:Tn},t∈ts->t.fr∈hZ hs ts/\t.to∈hZ hs ts
 |u :: ts,hs,t,m=>by
  rcases Lj.mp m with rfl|z
  ·exact⟨pJ ts (pG (rV _ _)),pJ ts (rV _ _)⟩
  ·exact vO (ts:=ts) z
open Classical in
theorem Et(o:DOk d)(ak:Jx d k)(du:Due d k):DOk (IV d k):=by
 cases k with
 |put t =>
  refine⟨o.st,o.pl,o.wd,o.ln,fun u hu=>?_,.inr du⟩;rcases LZ.mp hu with z|z
  ·exact o.tt u z
  ·rw[Lx.mp z];exact ak
 |take t =>
  refine⟨o.st,o.pl,o.wd,o.ln,fun u hu=>o.tt u (M0.mp hu).1,?_⟩;by_cases e:d.ts.filter (fun u=>decide (u≠t))=[]
  ·exact .inl e
  ·rcases o.ck with z|z
   ·exact .inl (by show d.ts.filter _=[];rw[z];rfl)
   ·have sl:(d.ts.filter (fun u=>decide (u≠t))).Sublist d.ts:=List.filter_sublist;have l0:0<(d.ts.filter (fun u=>decide (u≠t))).length:=OF.mpr e;refine .inr ⟨l0,Mh sl.length_le z.2.1,z.2.2.1.sublist (sl.map _),fun u hu=>z.2.2.2.1 u (sl.subset hu),Mh ?_ z.2.2.2.2⟩;have hi:=Nv.Ar (ps:=C0 d.ts) (d.ts.filter (fun u=>decide (u≠t))) [] Nq (fun x hx=>by cases hx) fun u hu=>vO (sl.subset hu)
    exact Nv.rF hi.1 hi.2
 |turn t=>exact⟨o.st,o.pl,o.wd,by show(xf (pr t) d.c).length=_;rw[Gz];exact o.ln,o.tt,o.ck⟩
 |pour i n=>exact⟨o.st,o.pl,o.wd,by show(d.c.set i _).length=_;rw[VH];exact o.ln,o.tt,o.ck⟩
structure DeAt (K:Fg) (C:Addr) (H:Hp) (a w r c p:Addr) (d:Ds) (xs ys:List V) (po:List Tn):Prop where
 D:Desk K C H a d
 o:DOk d
 n:d.n<1000
 hw:H w=some (.lst (d.ws.map V.str))
 hr:H r=some (.lst xs)
 hx:RzL K H xs (d.ts.map dT)
 hc:H c=some (.tup (d.c.map V.int))
 hp:H p=some (.lst ys)
 hy:RzL K H ys (po.map dT)
 ne:po≠[]
 t:∀t∈po,Tw.TtOk d.ws t
 rl:r≠d.l
 pl:p≠d.l
 wl:w≠d.l
theorem DeAt.same{K:Fg}(R:DeAt K C H a w r c p d xs ys po)(S:Same H H'):DeAt K C H' a w r c p d xs ys po:=⟨R.D.same S,R.o,R.n,S _ _ R.hw,S _ _ R.hr,R.hx.same S,S _ _ R.hc,S _ _ R.hp,R.hy.same S,R.ne,R.t,R.rl,R.pl,R.wl⟩
structure AX (K:Fg) (C:Addr) (H H':Hp) (a r s' r':Addr) (d d':Ds) (W7:List V) (vc:V):Prop where
 U:Up [a,d.l] H H'
 D:Desk K C H' a d'
 o:DOk d'
 ws:d'.ws=d.ws
 l:d'.l=d.l
 n:d'.n<=d.n+1
 hs:H' s'=some (.tup [.ref r',vc])
 hr:H' r'=some (.lst W7)
 hx:RzL K H' W7 (d'.ts.map dT)
 hc:Rz K H' vc (dI d'.c)
 new:r'=r\/H r'=none
def yi(K:Fg)(C:Addr):Sp:=fun vs H Q _=>∃(a w s r c p:Addr) (d:Ds) (xs ys:List V) (po:List Tn) (cell:Int),vs=[.ref a,.ref w,.ref s,.ref p,.int cell]/\DeAt K C H a w r c p d xs ys po/\H s=some (.tup [.ref r,.ref c]) /\
 ∀(H':Hp) (o s' r':Addr) (d':Ds) (W7:List V) (vc:V),AX K C H H' a r s' r' d d' W7 vc->H' o=some (.tup [.bl true,.ref s'])->Q (.ref o) H'
theorem iP{K:Fg}{Q:VK}{d':Ds}{W7:List V}{vc:V}
  (q:∀(H':Hp) (o s' r':Addr) (d':Ds) (W7:List V) (vc:V),AX K C H H' a r s' r' d d' W7 vc->H' o=some (.tup [.bl true,.ref s'])->Q (.ref o) H')
  (U:Up [a,d.l] H H1) (D:Desk K C H1 a d') (o:DOk d') (ws:d'.ws=d.ws) (l:d'.l=d.l) (n:d'.n<=d.n+1) (hr:H1 r'=some (.lst W7)) (rx:RzL K H1 W7 (d'.ts.map dT)) (rc:Rz K H1 vc (dI d'.c)) (new:r'=r\/H r'=none)  (n1:H1 p1=none)  (n2:upd H1 p1 (.tup [.ref r',vc]) p2=none) :
  Q (.ref p2) (upd (upd H1 p1 (.tup [.ref r',vc])) p2 (.tup [.bl true,.ref p1])):=by
 have S1:=ar n1 (.tup [.ref r',vc]);have S2:=ar n2 (.tup [.bl true,.ref p1]);have S:=S1.trans S2;exact q _ p2 p1 r' d' W7 vc ⟨U.trans (Up.of_same S),D.same S,o,ws,l,n,S2 _ _ am,S _ _ hr,rx.same S,rc.same S,new⟩ am
theorem KQ{b c:Bool}{P:Prop}(h1:b=true↔P)(h2:c=true↔P):b=c:=by
 cases b <;> cases c
 ·rfl
 ·exact absurd (h1.mpr (h2.mp rfl)) (by decide)
 ·exact absurd (h2.mpr (h1.mp rfl)) (by decide)
 ·rfl
def s_(K:Fg)(dD:Addr):TS:=(av (a6 (nU (tB (ae 11)) (bg (aB fw (ae 8) (tC (.int 0)))))
 (aR (aB Cb (ae 6) (cX (ag (ae 12) aq))) (aH 6))
 a9)
 (av (a6 (nU (tB (ae 11)) (bg (aB fw (ae 8) (tC (.int 1)))))
 (aR (qh (kM K (ae 6)) 1 (aH 0) (bg (aB (yS K) (ae 0) (ae 13))) (ae 0)) (aH 6))
 a9)
 (av (a6 (nU (tB (ae 11)) (bg (aB fw (ae 8) (tC (.int 2)))))
 (aR (a4 (tL K) [] E0 (ag (ae 12) (ag (ae 7) aq))) (aH 7))
 a9)
 (aY (dX (ag (aB fw (ae 13) (ae 11)) (ag (dX (ag (ae 6) (ag (ae 7) aq))) aq)))))))
theorem Cy(t:Tn):kqdOk 8 (dT t)=true:=by
 show([dI t.fr,dI t.to,dI [t.q,t.d]].all (kqdOk 7))=true;rw[Nr,Nr,Nr,Su,f9 t.fr 6,f9 t.to 6,f9 [t.q,t.d] 6];rfl
theorem Ej(e:dT u=dT t):u=t:=by
 obtain⟨e1,e2⟩:=Nc (Qw e);obtain⟨e2,e3⟩:=Nc e2;have e4:=gh (Nc e3).1;cases u;cases t;cases gh e1;cases gh e2;cases e4;rfl
def KY(t:Tn)(k:Dd):Prop:=k=.put t\/k=.take t\/k=.turn t
open Classical in
theorem BV{K:Fg}{Q:VK}{b:Bool}{u9 YM:Option V}(kt:KY t k)
  (q:∀(H':Hp) (o s' r':Addr) (d':Ds) (W7:List V) (vc:V),AX K C H H' a r s' r' d d' W7 vc->H' o=some (.tup [.bl true,.ref s'])->Q (.ref o) H')
  (o:DOk d) (ak:Jx d k) (U:Up [a,d.l] H H1) (D:Desk K C H1 a (if b=true then IV d k else d)) (du:b=true↔Due d k) (hr:H1 r=some (.lst xs)) (rx:RzL K H1 xs (d.ts.map dT)) (hc:H1 c=some (.tup (d.c.map V.int))) (rv:Rz K H1 v (dT t)) :
  s_ K C (ends Q) [some (.ref a),some (.ref w),some (.ref s),some (.ref p),some (.int cell),some (.ref x),some (.ref r),some (.ref c),some (.int (kind k)),u9,YM,some (.bl b),some v,some (.bl b)] H1:=by
 have lx:xs.length=d.ts.length:=by rw[rx.length,La]
 have l8:=o.l8;have nf:∀(P:Hp->Prop) (H2:Hp),Same H1 H2->Up [a,d.l] H H2:=fun _ H2 S=>U.trans (Up.of_same S)
 have fresh:∀{l:Addr},H1 l=none->l∉[a,d.l]->H l=none:=fun {l} nl m=>by
  cases z:H l with
  |none=>rfl
  |some u=>have:=U _ _ m z;rw[nl] at this;cases this
 have rc:Rz K H1 (.ref c) (dI d.c):=.tup hc (.ints _);unfold s_;cases b with
 |false =>
  walk_at "d";refine⟨bq,fun p1 n1=>?_⟩;walk_at "d";refine⟨bq,fun p2 n2=>?_⟩;exact iP q U D o rfl rfl (Op _) hr rx rc (.inl rfl) n1 n2
 |true =>
  have dk:=du.mp rfl;have o':=Et o ak dk
  have ut:∀{l:Addr},H1 l=none->l∉[a,d.l]:=fun {l} nl m=>by
   obtain⟨vs,vt,vp,zs,A⟩:=D;have e1:=A.ins;have e2:=A.lst;have el:(IV d k).l=d.l:=by cases k <;> rfl
   rw[if_pos rfl,el] at e2;simp only[Lj,Lp,or_false] at m;rcases m with m|m
   ·rw[<- m,nl] at e1;cases e1
   ·rw[<- m,nl] at e2;cases e2
  rcases kt with rfl|rfl|rfl
  ·walk_at "d";refine bt (fun _=>?_) (fun z=>absurd rfl z);walk_at "d";refine⟨jS,fun l2 n2=>?_⟩;have S2:=ar n2 (.lst [v]);have h2:upd H1 l2 (.lst [v]) l2=some (.lst [v]):=am;generalize upd H1 l2 (.lst [v])=H2 at S2 h2 ⊢;refine⟨r,l2,xs,_,rfl,rfl,S2 _ _ hr,h2,by rw[lx,Nl];simp only[L9];lia,fun l3 n3=>?_⟩;have S3:=ar n3 (.lst (xs++[v]));have h3:upd H2 l3 (.lst (xs++[v])) l3=some (.lst (xs++[v])):=am;generalize upd H2 l3 (.lst (xs++[v]))=H3 at S3 h3 ⊢;have S13:=S2.trans S3;have f3:H1 l3=none:=S2.free n3;walk_at "d";refine bt (fun z=>absurd (show(0:Int)=1 from z) (by decide)) (fun _=>?_);walk_at "d";refine bt (fun z=>absurd (show(0:Int)=2 from z) (by decide)) (fun _=>?_);walk_at "d";refine⟨bq,fun p1 n1=>?_⟩;walk_at "d";refine⟨bq,fun p2 n2=>?_⟩;exact iP q (U.trans (Up.of_same S13)) (D.same S13) o' rfl rfl (Lg _) h3 (by show RzL K H3 _ ((d.ts++[t]).map dT);rw[LD];exact(rx.same S13).append (.cons (rv.same S13) .nil)) (rc.same S13) (.inr (fresh f3 (ut f3))) n1 n2
  ·walk_at "d";refine bt (fun z=>absurd (show(1:Int)=0 from z) (by decide)) (fun _=>?_);walk_at "d";refine bt (fun _=>?_) (fun z=>absurd rfl z);walk_at "d";refine⟨r,rfl,⟨_,SqL.of hr⟩,?_⟩;refine mI (xs:=xs) fun l3 n3=>⟨fun j H2=>AccZ K H1 l3 H2 (((d.ts.take j).filter fun u=>decide (u≠t)).map dT),by simpa using AccZ.start (Same.refl _) n3,fun j H2 _ A=>SqL.of (A.same _ _ hr),?_,?_⟩
   ·intro j y H2 hy B us hu;obtain⟨u0,rfl⟩:∃u,us=[u]:=Qa.mp hu;have lj:=(Ld.mp hy).1;obtain⟨e,g3,g4⟩:=rx.get hy;rw[Li] at g3;obtain⟨u,hu,rfl⟩:=Ln.mp g3;have er:((d.ts.take (j+1)).filter fun u=>decide (u≠t))=((d.ts.take j).filter fun u=>decide (u≠t))++[u].filter fun u=>decide (u≠t):=by rw[LU,hu,UC];rfl
    walk_at "d";refine⟨⟨[some y],rfl,rfl⟩,?_⟩;walk_at "d";refine F1 (g4.same B.same).rep (rv.same B.same).rep (Cy u) (Cy t) (fun z=>?_) (fun z=>?_)
    ·have ne:u≠t:=fun e=>z (by rw[e])
     walk_at "d";refine cA lj ?_;refine B.gz (g4.same B.same) (aU ?_) fun H8 B8=>?_
     ·have:=O1 (fun u=>decide (u≠t)) (d.ts.take j)
      rw[LG] at this;rw[La];lia
     ·show AccZ K H1 l3 H8 (((d.ts.take (j+1)).filter fun u=>decide (u≠t)).map dT);rw[er,LD,P3 (by simpa using ne)];exact B8
    ·have ne : ¬ u≠t:=fun h=>h (Ej z)
     walk_at "d";refine oC lj ?_;show AccZ K H1 l3 H2 (((d.ts.take (j+1)).filter fun u=>decide (u≠t)).map dT);rw[er,P4 (by simpa using ne),VN,Nb];exact B
   ·intro H2 B;rw[lx,Lq (Lg _)] at B;obtain⟨zs,hz,rz⟩:=B.at_;have S2:=B.same;walk_at "d";refine bt (fun z=>absurd (show(1:Int)=2 from z) (by decide)) (fun _=>?_);walk_at "d";refine⟨bq,fun p1 n1=>?_⟩;walk_at "d";refine⟨bq,fun p2 n2=>?_⟩;exact iP q (U.trans (Up.of_same S2)) (D.same S2) o' rfl rfl (Lg _) hz rz (rc.same S2) (.inr (fresh n3 (ut n3))) n1 n2
  ·walk_at "d";refine bt (fun z=>absurd (show(2:Int)=0 from z) (by decide)) (fun _=>?_);walk_at "d";refine bt (fun z=>absurd (show(2:Int)=1 from z) (by decide)) (fun _=>?_);walk_at "d";refine bt (fun _=>?_) (fun z=>absurd rfl z);walk_at "d";have ot:Tw.TtOk d.ws t:=ak;have l5:=o.st.1.2;have ln:=o.ln;refine⟨v,.ref c,t,d.c,rfl,rv,rc,by rw[ln];exact ot.1.1,by rw[ln];exact ot.2.1.1,by lia,fun p3 H2 S2 rp=>?_⟩;walk_at "d";refine⟨bq,fun p1 n1=>?_⟩;walk_at "d";refine⟨bq,fun p2 n2=>?_⟩;exact iP q (U.trans (Up.of_same S2)) (D.same S2) o' rfl rfl (Lg _) (S2 _ _ hr) (rx.same S2) rp (.inl rfl) n1 n2
def tm(K:Fg)(dD:Addr):TS:=(av (aR (a4 (n8 K dD) [] E0 (ag (ae 0) (ag (ae 8) (ag (a4 (Tg.js K) [] E0 (ag (ae 1) (ag (ae 12) aq))) (ag (tC (.int 0)) aq))))) (aH 13))
 (s_ K dD))
theorem DeAt.out{K:Fg}(R:DeAt K C H a w r c p d xs ys po)(U:Up [a,d.l] H H'):H' r=some (.lst xs)/\RzL K H' xs (d.ts.map dT)/\H' c=some (.tup (d.c.map V.int))/\∀{v:V} {e:Dat},Rz K H v e->Rz K H' v e:=by
 obtain⟨vs,vt,vp,zs,A⟩:=R.D
 have out:∀{b:Addr} {o:HO},H b=some o->b≠d.l->(∀C' dx fs,o≠.ins C' dx fs)->H' b=some o:=fun {b o} h nl ni=>U b o (fun m=>by
  simp only[Lj,Lp,or_false] at m
  rcases m with m|m
  ·rw[m,A.ins] at h;exact ni _ _ _ (LF h).symm
  ·exact nl m) h
 have cl:c≠d.l:=fun e=>by have:=R.hc;rw[e,A.lst] at this;cases this
 exact⟨out R.hr R.rl (fun _ _ _ z=>by cases z),R.hx.agr (U.agr A.nt),out R.hc cl (fun _ _ _ z=>by cases z),fun r=>A.rz U r⟩
theorem gS{K:Fg}{Q:VK}{b:Bool}(kt:KY t k)
  (q:∀(H':Hp) (o s' r':Addr) (d':Ds) (W7:List V) (vc:V),AX K C H0 H' a r s' r' d d' W7 vc->H' o=some (.tup [.bl true,.ref s'])->Q (.ref o) H')
  (S0:Same H0 H) (R:DeAt K C H a w r c p d xs ys po) (ot:Tw.TtOk d.ws t) (du:b=true↔Due d k) (rv:Rz K H v (dT t)) :
  tm K C (ends Q) [some (.ref a),some (.ref w),some (.ref s),some (.ref p),some (.int cell),some (.ref x),some (.ref r),some (.ref c),some (.int (kind k)),none,none,some (.bl b),some v,none] H:=by
 have ak:Jx d k:=by rcases kt with rfl|rfl|rfl <;> exact ot
 have wk:GX d.ws k=Tw.turnT d.ws t:=by rcases kt with rfl|rfl|rfl <;> rfl
 have np:∀i n,k=.pour i n->(0:Int)=n:=fun i n e=>by rcases kt with rfl|rfl|rfl <;> cases e
 unfold tm;walk_at "d";refine⟨w,v,d.ws,t,rfl,R.hw,rv,R.o.wd.ok,ot,fun H1 S1=>?_⟩;have R1:=R.same S1;walk_at "d";refine⟨a,d,k,0,by rw[wk];rfl,np,R1.D,R.o,R.n,ak,fun b' H2 U bd D2=>?_⟩;obtain⟨f1,f2,f3,f4⟩:=R1.out U;have e:=KQ bd du;subst e;walk_at "d";exact BV kt q R.o ak ((Up.of_same (S0.trans S1)).trans U) D2 du f1 f2 f3 (f4 (rv.same S1))
def sZ(K:Fg)(dD:Addr):TS:=(aY (dX (ag (aB fw (a4 (n8 K dD) [] E0 (ag (ae 0) (ag (tC (.int 3)) (ag (aB (bz K) (ae 1) (ae 9)) (ag (ae 10) aq))))) (ae 11)) (ag (dX (ag (ae 6) (ag (ae 7) aq))) aq))))
def xT(K:Fg)(dD:Addr):TS:=(av (aR (a4 (oi K) [] E0 (ag (ae 4) (ag (tC (.int 9)) aq))) (aH 5))
 (av (aR (ae 2) (pL K 2 (fK (aH 6) (fK (aH 7) pM))))
 (av (aR (aB (bz K) (cX (ag (tC (.int 0)) (ag (tC (.int 0)) (ag (tC (.int 1)) (ag (tC (.int 2)) (ag (tC (.int 2)) (ag (tC (.int 3)) aq))))))) (aB bZ (aB (bz K) (ae 5) (tC (.int 0))) (tC (.int 6)))) (aH 8))
 (av (a6 (bg (aB fw (ae 8) (tC (.int 3))))
 (av (aR (aB bZ (aB (bz K) (ae 5) (tC (.int 2))) (bY (cE K) (ag (ae 1) aq))) (aH 9))
 (av (aR (a4 (og K) [] E0 (ag (ae 7) (ag (ae 9) (ag (ae 5) (ag (ae 4) aq))))) (aH 10))
 (av (aR (aB KP (aB cT (aB (bh K) (ae 7) (ae 9)) (ae 10)) (tC (.int 0))) (aH 11))
 (av (a6 (tB (ae 11))
 (aR (aB (yW K) (aB (yW K) (tw (j6 K) (ae 7) dh (fh (ae 9))) (dX (ag (aB cT (aB (bh K) (ae 7) (ae 9)) (ae 10)) aq))) (tw (j6 K) (ae 7) (fh (aB cT (ae 9) (tC (.int 1)))) dh)) (aH 7))
 a9)
 (sZ K dD)))))
 a9)
 (av (aR (a4 (ye K) [] E0 (ag (ae 6) (ag (ae 3) (ag (ae 5) aq)))) (aH 12))
 (av (a6 (bg (aB fw (ae 8) (tC (.int 0))))
 (av (aR (aB (bz K) (ae 3) (aB bZ (aB (bz K) (ae 5) (tC (.int 2))) (bY (cE K) (ag (ae 3) aq)))) (aH 12))
 (aR (a4 (yh K) [] E0 (ag (ae 6) (ag (ae 12) aq))) (aH 11)))
 (aR (jL (aB (qM K false) (ae 12) (ae 6)) (Bs (aB fw (ae 8) (tC (.int 1))) (a4 (yg K) [] E0 (ag (ae 12) (ag (ae 7) aq))))) (aH 11)))
 (tm K dD)))))))
theorem Ff{K:Fg}{N:List Str}(hN:N.length=14)(h:yi K C vs H Q E):xT K C (ends Q) (L2.start N vs) H:=by
 obtain⟨a,w,s,r,c,p,d,xs,ys,po,cell,rfl,R,hs,q⟩:=h;rw[L2.bx hN];walk_at "t";have o:=R.o;have l5:=o.st.1.2;have l1:=o.st.1.1;have ln:=o.ln;have ly:ys.length=po.length:=by rw[R.hy.length,La]
 have lp0:0<po.length:=OF.mpr R.ne;unfold xT;walk_at "d";refine⟨cell,9,rfl,by decide,by decide,fun x H1 ns Ax lm mm=>?_⟩;have l9:ns.length=9:=lm;have hx:=AccZ.ints Ax;have S1:=Ax.same;have R1:=R.same S1;have g0:ns[0]?=some ns[0]:=Lb (by lia);have g2:ns[2]?=some ns[2]:=Lb (by lia);walk_at "d";refine kH (SqT.of (S1 _ _ hs)) rfl ?_;walk_at "d";refine⟨EV,fun l2 n2=>?_⟩;have S2:=ar n2 (.lst [V.int 0,V.int 0,V.int 1,V.int 2,V.int 2,V.int 3]);have h2:upd H1 l2 (.lst [V.int 0,V.int 0,V.int 1,V.int 2,V.int 2,V.int 3]) l2=some (.lst (([0,0,1,2,2,3]:List Int).map V.int)):=am;generalize upd H1 l2 (.lst [V.int 0,V.int 0,V.int 1,V.int 2,V.int 2,V.int 3])=H2 at S2 h2 ⊢;have S12:=S1.trans S2;have R2:=R.same S12;have Y7:=S2 _ _ hx;walk_at "d";refine bG (SqL.of Y7) (df g0) ?_;walk_at "d";have m0:=Nf ns[0] (show(6:Int)≠0 by decide);have m6:=MK ns[0] (show(0:Int)<6 by decide);generalize ns[0] % 6=m at m0 m6 ⊢;have lm:m.toNat<([0,0,1,2,2,3]:List Int).length:=by show m.toNat<6;lia
 have ek:=df (Lb lm);rw[QP m0] at ek;refine bG (SqL.of h2) ek ?_
 have kv:([0,0,1,2,2,3]:List Int)[m.toNat]=0\/([0,0,1,2,2,3]:List Int)[m.toNat]=1\/([0,0,1,2,2,3]:List Int)[m.toNat]=2\/([0,0,1,2,2,3]:List Int)[m.toNat]=3:=by
  have:m=0\/m=1\/m=2\/m=3\/m=4\/m=5:=by lia
  rcases this with rfl|rfl|rfl|rfl|rfl|rfl
  ·exact .inl rfl
  ·exact .inl rfl
  ·exact .inr (.inl rfl)
  ·exact .inr (.inr (.inl rfl))
  ·exact .inr (.inr (.inl rfl))
  ·exact .inr (.inr (.inr rfl))
 generalize ([0,0,1,2,2,3]:List Int)[m.toNat]=kd at kv ⊢;clear ek lm m6 m0;walk_at "d";refine bt (fun k3=>?_) (fun k3=>?_)
 ·subst k3;walk_at "d";refine bG (SqL.of Y7) (df g2) ?_;walk_at "d";refine dO (SqL.of R2.hw) ?_;rw[La];refine kF (show(0:Int)<(d.ws.length:Int) by lia) ?_;have p0:=Nf ns[2] (show(d.ws.length:Int)≠0 by lia);have p1:=MK ns[2] (show 0<(d.ws.length:Int) by lia);obtain⟨i,ei⟩:∃i:Nat,ns[2] % (d.ws.length:Int)=(i:Int):=⟨(ns[2] % (d.ws.length:Int)).toNat,by lia⟩
  rw[ei] at p0 p1 ⊢;have li:i<d.ws.length:=by lia
  walk_at "d";refine⟨.ref c,i,x,cell,d.c,ns,rfl,.tup R2.hc (.ints _),by lia,Y7,by lia,mm,fun n H3 S3=>?_⟩;have S03:=S12.trans S3;have R3:=R.same S03;have ec:d.c[i]?=some (pt d.c i):=by unfold pt;rw[Mm,Lb (by lia)];rfl
  have ew:d.ws[i]?=some (d.ws.getD i ""):=by rw[Mm,Lb li];rfl
  have fin:∀(b0:Bool) (H4:Hp) (vc:V),(b0=true↔Due d (.pour i n))->Same H H4->Rz K H4 vc (dI (if b0=true then d.c.set i (pt d.c i+n) else d.c)) ->
    sZ K C (ends Q) [some (.ref a),some (.ref w),some (.ref s),some (.ref p),some (.int cell),some (.ref x),some (.ref r),some vc,some (.int 3),some (.int (i:Int)),some (.int n),some (.bl b0),none,none] H4:=by
   intro b0 H4 vc bd0 S4 rc;have R4:=R.same S4;unfold sZ;walk_at "d";refine bG (SqL.of R4.hw) (v:=.str (d.ws.getD i "")) (bQ (by rw[Li,ew];rfl)) ?_;walk_at "d";refine⟨a,d,.pour i n,n,rfl,fun _ _ e=>by cases e;rfl,R4.D,o,R.n,li,fun b H5 U bd D5=>?_⟩;obtain⟨f1,f2,f3,f4⟩:=R4.out U;have eb:=KQ bd bd0;subst eb;walk_at "d";refine⟨bq,fun p1 n1=>?_⟩;walk_at "d";refine⟨bq,fun p2 n2=>?_⟩;have U5:=(Up.of_same S4).trans U;have rc5:=f4 rc;rw[decide_eq_true (show b=b from rfl)];cases b with
   |true=>exact iP q U5 D5 (Et (k:=.pour i n) o li (bd.mp rfl)) rfl rfl (Lg _) f1 f2 rc5 (.inl rfl) n1 n2
   |false=>exact iP q U5 D5 o rfl rfl (Op _) f1 f2 rc5 (.inl rfl) n1 n2
  walk_at "d";refine bn (SqT.of R3.hc) (df ec) ?_;walk_at "d";by_cases z:0<=pt d.c i+n
  ·rw[decide_eq_true (show pt d.c i+n≥0 from z)];walk_at "d"
   refine zW (SqT.of R3.hc) (by
    intro y
    have:=y.2
    rw[HT.iF,La] at this
    lia) fun q1 m1=>?_
   rw[Nv.vY (by lia),MT];have T1:=ar m1 (.tup ((d.c.map V.int).take i));have e1:upd H3 q1 (.tup ((d.c.map V.int).take i)) q1=some (.tup ((d.c.map V.int).take i)):=am;generalize upd H3 q1 (.tup ((d.c.map V.int).take i))=G1 at T1 e1 ⊢;walk_at "d";refine bn (SqT.of (T1 _ _ R3.hc)) (df ec) ?_;walk_at "d";refine⟨jS,fun q2 m2=>?_⟩;have T2:=ar m2 (.tup [V.int (pt d.c i+n)]);have e2:upd G1 q2 (.tup [V.int (pt d.c i+n)]) q2=some (.tup [V.int (pt d.c i+n)]):=am;generalize upd G1 q2 (.tup [V.int (pt d.c i+n)])=G2 at T2 e2 ⊢;refine⟨q1,q2,_,_,rfl,rfl,T2 _ _ e1,e2,by rw[LG,La,Nl];simp only[L9];lia,fun q3 G3 T3 e3=>?_⟩;have T03:=T1.trans (T2.trans T3);walk_at "d"
   refine zW (SqT.of (T03 _ _ R3.hc)) (by
    intro y
    have:=y.1
    rw[show(i:Int)+1=((i+1:Nat):Int) by lia,HT.iF,La] at this
    lia) fun q4 m4=>?_
   rw[Nv.v0 (by lia),show((i:Int)+1).toNat=i+1 by lia];have T4:=ar m4 (.tup ((d.c.map V.int).drop (i+1)));have e4:upd G3 q4 (.tup ((d.c.map V.int).drop (i+1))) q4=some (.tup ((d.c.map V.int).drop (i+1))):=am;generalize upd G3 q4 (.tup ((d.c.map V.int).drop (i+1)))=G4 at T4 e4 ⊢;refine⟨q3,q4,_,_,rfl,rfl,T4 _ _ e3,e4,by rw[LQ,LG,MR,La,Nl];simp only[L9];lia,fun q5 G5 T5 e5=>?_⟩;walk_at "d";refine fin true G5 (.ref q5) ⟨fun _=>z,fun _=>rfl⟩ (S03.trans (T03.trans (T4.trans T5))) (.tup e5 ?_);rw[if_pos rfl,List.set_eq_take_append_cons_drop,if_pos (by lia)]
   have:=RpL.ints (K:=K) (S:=F0) (H:=G5) (d.c.take i++(pt d.c i+n) :: d.c.drop (i+1))
   rw[LD,LX,Ug,Uh] at this;rw[MG];exact this
  ·rw[decide_eq_false (show ¬ pt d.c i+n≥0 from z)];walk_at "d";exact fin false H3 (.ref c) ⟨fun y=>(by cases y),fun y=>absurd y z⟩ S03 (.tup R3.hc (.ints _))
 ·walk_at "d";refine⟨r,p,x,xs,ys,d.ts,po,ns,rfl,R2.hr,R2.hx,R2.hp,R2.hy,Y7,by lia,mm,R.ne,fun v t H3 S3 mt rv=>?_⟩;have S03:=S12.trans S3;have R3:=R.same S03;have hx3:=S3 _ _ Y7
  have ot:Tw.TtOk d.ws t:=by
   rcases mt with z|z
   ·exact o.tt t z
   ·exact R.t t z
  walk_at "d";refine bt (fun k0=>?_) (fun k0=>?_)
  ·subst k0;walk_at "d";refine bG (SqL.of hx3) (df g2) ?_;walk_at "d";refine dO (SqL.of R3.hp) ?_;refine kF (show(0:Int)<(ys.length:Int) by lia) ?_;obtain⟨v',t',e,m',_,rt⟩:=Js R3.hy R.ne ns[2];refine bG (SqL.of R3.hp) e ?_;walk_at "d";refine⟨r,v',xs,d.ts,t',rfl,R3.hr,R3.hx,rt,o.ck,fun b H4 S4 bd=>?_⟩;walk_at "d";exact gS (k:=.put t') (.inl rfl) q (S03.trans S4) (R3.same S4) (R.t t' m') bd (rt.same S4)
  ·have k12:kd=1\/kd=2:=by
    rcases kv with z|z|z|z
    ·exact absurd z k0
    ·exact .inl z
    ·exact .inr z
    ·exact absurd z k3
   have ka:∀e∈(d.ts.map dT),kqdOk 8 e=true:=fun e he=>by
    obtain⟨u,_,rfl⟩:=Ls.mp he;exact Cy u
   have mem:dT t∈d.ts.map dT↔t∈d.ts:=⟨fun z=>by obtain⟨u,hu,e⟩:=Ls.mp z;rw[<- Ej e];exact hu,fun z=>Ls.mpr ⟨t,z,rfl⟩⟩
   walk_at "d";refine Kg (d:=dT t) rv.rep (.lst (SqL.of R3.hr) R3.hx.rep) ka (Cy t) (fun z=>?_) (fun z=>?_)
   ·rw[mem] at z;rcases k12 with rfl|rfl
    ·walk_at "d";refine bt (fun _=>?_) (fun y=>absurd rfl y);walk_at "d";exact gS (k:=.take t) (.inr (.inl rfl)) q S03 R3 ot ⟨fun _=>z,fun _=>rfl⟩ rv
    ·walk_at "d";refine bt (fun y=>absurd y (by decide)) (fun _=>?_);walk_at "d";refine⟨v,.ref c,t,d.c,rfl,rv,.tup R3.hc (.ints _),by lia,fun H4 S4=>?_⟩;walk_at "d";exact gS (k:=.turn t) (.inr (.inr rfl)) q (S03.trans S4) (R3.same S4) ot ⟨fun y=>⟨z,y⟩,fun y=>y.2⟩ (rv.same S4)
   ·rw[mem] at z;walk_at "d";rcases k12 with rfl|rfl
    ·exact gS (k:=.take t) (.inr (.inl rfl)) q S03 R3 ot ⟨fun y=>(by cases y),fun y=>absurd y z⟩ rv
    ·exact gS (k:=.turn t) (.inr (.inr rfl)) q S03 R3 ot ⟨fun y=>(by cases y),fun y=>absurd y.1 z⟩ rv
theorem DeAt.keep{K:Fg}(R:DeAt K C H a w r c p d xs ys po)(U:Up M H H')(nt:∀b∈M,∀zs,H b≠some (.tup zs))(na:a∉M)(nx:d.dx∉M)(nl:d.l∉M)(nw:w∉M)(nr:r∉M)(np:p∉M) :
  DeAt K C H' a w r c p d xs ys po:=by
 obtain⟨vs,vt,vp,zs,A⟩:=R.D;have g:=U.agr nt;have rc:Rz K H (.ref c) (.tuple (d.c.map NG)):=.tup R.hc (.ints _);obtain⟨c',cs,e,hc,rx⟩:=(rc.agr g).cC;cases e;cases rx.ints_of;exact⟨⟨vs,vt,vp,zs,⟨U _ _ na A.ins,U _ _ nx A.own,U _ _ nl A.lst,A.len,A.s.agr g,A.t.agr g,A.p.agr g⟩⟩,R.o,R.n,U _ _ nw R.hw,U _ _ nr R.hr,R.hx.agr g,hc,U _ _ np R.hp,R.hy.agr g,R.ne,R.t,R.rl,R.pl,R.wl⟩
structure Pd where
 a:Addr
 w:Addr
 s:Addr
 r:Addr
 c:Addr
 d:Ds
 xs:List V
structure Hall (K:Fg) (C:Addr) (H:Hp) (ro de p st:Addr) (P:Nat->Pd) (ys:List V) (po:List Tn) (n:Nat):Prop where
 hro:H ro=some (.lst [.ref (P 0).w,.ref (P 1).w])
 hde:H de=some (.lst [.ref (P 0).a,.ref (P 1).a])
 hst:H st=some (.lst [.ref (P 0).s,.ref (P 1).s])
 at_:∀j,j<2->DeAt K C H (P j).a (P j).w (P j).r (P j).c p (P j).d (P j).xs ys po
 s:∀j,j<2->H (P j).s=some (.tup [.ref (P j).r,.ref (P j).c])
 aa:(P 0).a≠(P 1).a
 ll:(P 0).d.l≠(P 1).d.l
 fr:∀j,j<2->∀b∈[ro,de,st,(P 0).w,(P 1).w,(P 0).r,(P 1).r],b≠(P j).d.l
 sf:∀b∈[ro,de,p,(P 0).w,(P 1).w,(P 0).r,(P 1).r],b≠st
 cn:∀j,j<2->(P j).d.n<=n
theorem Hall.same{K:Fg}{st:Addr}(h:Hall K C H ro de p st P ys po n)(S:Same H H'):Hall K C H' ro de p st P ys po n :=
 ⟨S _ _ h.hro,S _ _ h.hde,S _ _ h.hst,fun j hj=>(h.at_ j hj).same S,fun j hj=>S _ _ (h.s j hj),h.aa,h.ll,h.fr,h.sf,h.cn⟩
theorem two{j:Nat}(h:j<2):j=0\/j=1:=by lia
theorem apart{H:Hp}{o u:HO}(h:H a=some o)(g:H b=some u)(n:o≠u):a≠b:=fun e=>by rw[e,g] at h;exact n (LF h).symm
theorem Hall.deed{K:Fg}{st:Addr}{j:Nat}(h:Hall K C H ro de p st P ys po n)(hj:j<2)(n9:n+1<1000)
  (L:AX K C H H1 (P j).a (P j).r s' r' (P j).d d' W7 (.ref c')) :
  Hall K C (upd H1 st (.lst (([V.ref (P 0).s,V.ref (P 1).s]).set j (.ref s')))) ro de p st (fun i=>if i=j then {P j with s:=s',r:=r',c:=c',d:=d',xs:=W7} else P i) ys po (n+1):=by
 have Rj:=h.at_ j hj;obtain⟨vs,vt,vp,zs,A⟩:=id Rj.D;have U:=L.U
 have nm:∀{b:Addr} {zs:List V},H b=some (.lst zs)->b≠(P j).d.l->b∉[(P j).a,(P j).d.l]:=fun {b zs} hb nl m=>by
  simp only[Lj,Lp,or_false] at m;rcases m with m|m
  ·exact apart hb A.ins (fun z=>by cases z) m
  ·exact nl m
 have ro1:=U _ _ (nm h.hro (h.fr j hj _ (by simp))) h.hro;have de1:=U _ _ (nm h.hde (h.fr j hj _ (by simp))) h.hde;have st1:=U _ _ (nm h.hst (h.fr j hj _ (by simp))) h.hst
 have tup1:∀{b:Addr} {zs:List V},H b=some (.tup zs)->H1 b=some (.tup zs):=fun {b zs} hb=>U _ _ (fun m=>by
  simp only[Lj,Lp,or_false] at m
  rcases m with m|m
  ·exact apart hb A.ins (fun z=>by cases z) m
  ·exact apart hb A.lst (fun z=>by cases z) m) hb
 have oth:∀i,i<2->i≠j->DeAt K C H1 (P i).a (P i).w (P i).r (P i).c p (P i).d (P i).xs ys po:=fun i hi ne=>by
  have Ri:=h.at_ i hi;obtain⟨Xe,vt',vp',zs',B⟩:=id Ri.D
  have aij:(P i).a≠(P j).a:=by
   rcases two hi with rfl|rfl <;> rcases two hj with rfl|rfl
   ·exact absurd rfl ne
   ·exact h.aa
   ·exact h.aa.symm
   ·exact absurd rfl ne
  have lij:(P i).d.l≠(P j).d.l:=by
   rcases two hi with rfl|rfl <;> rcases two hj with rfl|rfl
   ·exact absurd rfl ne
   ·exact h.ll
   ·exact h.ll.symm
   ·exact absurd rfl ne
  have wi:(P i).w≠(P j).d.l:=h.fr j hj _ (by rcases two hi with rfl|rfl <;> simp);have ri:(P i).r≠(P j).d.l:=h.fr j hj _ (by rcases two hi with rfl|rfl <;> simp);refine Ri.keep U A.nt ?_ ?_ (nm B.lst lij) (nm Ri.hw wi) (nm Ri.hr ri) (nm Ri.hp Rj.pl)
  ·intro m;simp only[Lj,Lp,or_false] at m;rcases m with m|m
   ·exact aij m
   ·exact apart B.ins A.lst (fun z=>by cases z) m
  ·intro m;simp only[Lj,Lp,or_false] at m;rcases m with m|m
   ·exact apart B.own A.ins (fun z=>by cases z) m
   ·exact apart B.own A.lst (fun z=>by cases z) m
 have hrn:∀{b:Addr} {o:HO},H b=some o->b≠(P j).r->b≠r':=fun {b o} hb nb e=>by
  rcases L.new with z|z
  ·exact nb (e.trans z)
  ·rw[e,z] at hb;cases hb
 obtain⟨c2,hcc,X5⟩:=eL L.hc;cases hcc;have w1:=U _ _ (nm Rj.hw Rj.wl) Rj.hw;have p1:=U _ _ (nm Rj.hp Rj.pl) Rj.hp;have lH:H (P j).d.l=some (.lst zs):=A.lst
 have rl':r'≠(P j).d.l:=fun e=>by
  rcases L.new with z|z
  ·exact Rj.rl (z.symm.trans e)
  ·rw[e,lH] at z;cases z
 have own:DeAt K C H1 (P j).a (P j).w r' c' p d' W7 ys po:=⟨L.D,L.o,by have:=L.n;have:=h.cn j hj;lia,by rw[L.ws];exact w1,L.hr,L.hx,X5,p1,Rj.hy.agr (U.agr A.nt),Rj.ne,by rw[L.ws];exact Rj.t,by rw[L.l];exact rl',by rw[L.l];exact Rj.pl,by rw[L.l];exact Rj.wl⟩
 have U2:Up [st] H1 (upd H1 st (.lst (([V.ref (P 0).s,V.ref (P 1).s]).set j (.ref s')))):=fun b u nb e=>by rw[aC (fun z=>nb (by rw[z];exact Lx.mpr rfl))];exact e
 have nt2:∀b∈[st],∀zs,H1 b≠some (.tup zs):=fun b hb zs e=>by rw[Lx.mp hb,st1] at e;cases e
 have out:∀{b:Addr},b≠st->b∉[st]:=fun nb m=>nb (Lx.mp m)
 have keep:∀{a w r c:Addr} {d:Ds} {xs:List V},DeAt K C H1 a w r c p d xs ys po->d.l≠st->w≠st->r≠st->DeAt K C (upd H1 st (.lst (([V.ref (P 0).s,V.ref (P 1).s]).set j (.ref s')))) a w r c p d xs ys po:=fun {a w r c d xs} R nl nw nr=>by
  obtain⟨_,_,_,_,B⟩:=id R.D;exact R.keep U2 nt2 (out (apart B.ins st1 fun z=>by cases z)) (out (apart B.own st1 fun z=>by cases z)) (out nl) (out nw) (out nr) (out (h.sf p (by simp)))
 have lst':∀i,i<2->(P i).d.l≠st:=fun i hi=>(h.fr i hi st (by simp)).symm
 have wst:∀i,i<2->(P i).w≠st:=fun i hi=>h.sf _ (by rcases two hi with rfl|rfl <;> simp)
 have rst:∀i,i<2->(P i).r≠st:=fun i hi=>h.sf _ (by rcases two hi with rfl|rfl <;> simp)
 have Zd:r'≠st:=fun e=>by
  rcases L.new with z|z
  ·exact rst j hj (z.symm.trans e)
  ·rw[e,h.hst] at z;cases z
 have wE:∀i,(if i=j then ({P j with s:=s',r:=r',c:=c',d:=d',xs:=W7}:Pd) else P i).w=(P i).w:=fun i=>by by_cases e:i=j <;> simp[e]
 have aE:∀i,(if i=j then ({P j with s:=s',r:=r',c:=c',d:=d',xs:=W7}:Pd) else P i).a=(P i).a:=fun i=>by by_cases e:i=j <;> simp[e]
 have lE:∀i,(if i=j then ({P j with s:=s',r:=r',c:=c',d:=d',xs:=W7}:Pd) else P i).d.l=(P i).d.l:=fun i=>by
  by_cases e:i=j
  ·rw[if_pos e,e];exact L.l
  ·rw[if_neg e]
 have rE:∀i,i<2->(if i=j then ({P j with s:=s',r:=r',c:=c',d:=d',xs:=W7}:Pd) else P i).r=(P i).r\/(if i=j then ({P j with s:=s',r:=r',c:=c',d:=d',xs:=W7}:Pd) else P i).r=r':=fun i _=>by
  by_cases e:i=j
  ·rw[if_pos e];exact .inr rfl
  ·rw[if_neg e];exact .inl rfl
 refine⟨?_,?_,?_,fun i hi=>?_,fun i hi=>?_,?_,?_,fun i hi b hb=>?_,fun b hb=>?_,fun i hi=>?_⟩
 ·rw[wE,wE,aC (h.sf ro (by simp))];exact ro1
 ·rw[aE,aE,aC (h.sf de (by simp))];exact de1
 ·rw[am];rcases two hj with rfl|rfl <;> rfl
 ·by_cases e:i=j
  ·simp only[if_pos e];exact keep own (by rw[L.l];exact lst' j hj) (wst j hj) Zd
  ·simp only[if_neg e];exact keep (oth i hi e) (lst' i hi) (wst i hi) (rst i hi)
 ·by_cases e:i=j
  ·simp only[if_pos e];rw[aC (apart L.hs st1 fun z=>by cases z)];exact L.hs
  ·simp only[if_neg e]
   have:=tup1 (h.s i hi)
   rw[aC (apart this st1 fun z=>by cases z)];exact this
 ·rw[aE,aE];exact h.aa
 ·rw[lE,lE];exact h.ll
 ·rw[lE]
  have rne:r'≠(P i).d.l:=fun e=>by
   rcases L.new with z|z
   ·exact h.fr i hi (P j).r (by rcases two hj with rfl|rfl <;> simp) (z.symm.trans e)
   ·obtain⟨_,_,_,_,B⟩:=(h.at_ i hi).D;rw[e,B.lst] at z;cases z
  simp only[Lj,Lp,or_false,wE] at hb;rcases hb with hb|hb|hb|hb|hb|hb|hb
  ·exact h.fr i hi b (by simp[hb])
  ·exact h.fr i hi b (by simp[hb])
  ·exact h.fr i hi b (by simp[hb])
  ·exact h.fr i hi b (by simp[hb])
  ·exact h.fr i hi b (by simp[hb])
  ·rcases rE 0 (by decide) with z|z
   ·rw[hb,z];exact h.fr i hi _ (by simp)
   ·rw[hb,z];exact rne
  ·rcases rE 1 (by decide) with z|z
   ·rw[hb,z];exact h.fr i hi _ (by simp)
   ·rw[hb,z];exact rne
 ·simp only[Lj,Lp,or_false,wE] at hb;rcases hb with hb|hb|hb|hb|hb|hb|hb
  ·exact h.sf b (by simp[hb])
  ·exact h.sf b (by simp[hb])
  ·exact h.sf b (by simp[hb])
  ·exact h.sf b (by simp[hb])
  ·exact h.sf b (by simp[hb])
  ·rcases rE 0 (by decide) with z|z
   ·rw[hb,z];exact h.sf _ (by simp)
   ·rw[hb,z];exact Zd
  ·rcases rE 1 (by decide) with z|z
   ·rw[hb,z];exact h.sf _ (by simp)
   ·rw[hb,z];exact Zd
 ·by_cases e:i=j
  ·simp only[if_pos e]
   have:=L.n
   have:=h.cn j hj
   lia
  ·simp only[if_neg e]
   have:=h.cn i hi
   lia
theorem Hall.lst{K:Fg}{C:Addr}{H H1:Hp}{ro de p st:Addr}{P:Nat->Pd}{ys:List V}{po:List Tn}{n j:Nat}(h:Hall K C H ro de p st P ys po n)(hj:j<2)(U:Up [(P j).a,(P j).d.l] H H1){b:Addr}{zs:List V}(hb:H b=some (.lst zs))(nl:b≠(P j).d.l):H1 b=some (.lst zs):=by
 obtain⟨_,_,_,_,A⟩:=(h.at_ j hj).D;refine U _ _ (fun m=>?_) hb;simp only[Lj,Lp,or_false] at m;rcases m with m|m
 ·exact apart hb A.ins (fun z=>by cases z) m
 ·exact nl m
theorem En{f:Nat->V}{j:Nat}(h:j<2):mO [f 0,f 1] ((j:Nat):Int)=some (f j):=by
 rcases two h with rfl|rfl <;> rfl
def EJ(K:Fg)(dD:Addr):TS:=(av (eF (iS (ag (tC (.int 2)) aq)) (aH 8)
 (a6 (dJ (tB (a4 (oa K dD) [] E0 (ag (aB (bz K) (ae 4) (ae 8)) (ag (aB (bz K) (ae 2) (ae 8)) (ag (aB (bz K) (ae 6) (ae 8)) (ag (aB fw (ae 8) (tC (.int 0))) aq)))))))
 (aY (tC (.bl false)))
 a9))
 (aY (tC (.bl true))))
theorem JC{K:Fg}{Q:VK}{st:Addr}{u7 u8 u9 YM:Option V}(h:Hall K C H ro de p st P ys po n)(q:∀H',Q (.bl true) H') :
  EJ K C (ends Q) [some (.ref a),some (.ref w),some (.ref ro),some (.ref hd),some (.ref de),some (.ref p),some (.ref st),u7,u8,u9,YM] H:=by
 unfold EJ;walk_at "";refine cw (fun i σ H2=>∃u8:Option V,σ=[some (.ref a),some (.ref w),some (.ref ro),some (.ref hd),some (.ref de),some (.ref p),some (.ref st),u7,u8,u9,YM]/\Same H H2) ⟨_,rfl,Same.refl _⟩ ?_ ?_
 ·rintro i σ H2 hi ⟨u8,rfl,S2⟩;have YE:i<2:=hi;have h2:=h.same S2;have R:=h2.at_ i YE;walk_at "";rw[Nz];refine bG (SqL.of h2.hde) (En (f:=fun j=>.ref (P j).a) YE) ?_;walk_at "";refine bG (SqL.of h2.hro) (En (f:=fun j=>.ref (P j).w) YE) ?_;walk_at "";refine bG (SqL.of h2.hst) (En (f:=fun j=>.ref (P j).s) YE) ?_;walk_at "";refine⟨(P i).a,(P i).w,(P i).s,(P i).r,.ref (P i).c,_,(P i).d,(P i).xs,rfl,R.D,R.o,R.hw,h2.s i YE,R.hr,R.hx,.tup R.hc (.ints _),fun H3 S3=>?_⟩;walk_at "";exact⟨_,rfl,S2.trans S3⟩
 ·rintro σ H2 ⟨u8,rfl,S2⟩;walk_at "";exact q H2
def EK(K:Fg)(dD:Addr):TS:=(av (eF (kM K (tw (Fn K) (ae 0) (fh (tC (.int 12))) (fh (tC (.int 63))))) (aH 7)
 (av (aR (aB bZ (aB qN (ae 7) (tC (.int 3))) (tC (.int 2))) (aH 8))
 (av (aR (a4 (yi K dD) [] E0 (ag (aB (bz K) (ae 4) (ae 8)) (ag (aB (bz K) (ae 2) (ae 8)) (ag (aB (bz K) (ae 6) (ae 8)) (ag (ae 5) (ag (ae 7) aq)))))) (pL K 2 (fK (aH 9) (fK (aH 10) pM))))
 (av (aR (ae 10) (C6 (ae 6) (ae 8) Fo))
 (av (a6 (dJ (tB (ae 9)))
 (aY (tC (.bl false)))
 a9)
 (a6 (dJ (tB (a4 (oa K dD) [] E0 (ag (aB (bz K) (ae 4) (ae 8)) (ag (aB (bz K) (ae 2) (ae 8)) (ag (ae 10) (ag (aB fw (aB bZ (aB qN (ae 7) (tC (.int 7))) (tC (.int 2))) (tC (.int 1))) aq)))))))
 (aY (tC (.bl false)))
 a9))))))
 (EJ K dD))
theorem JD{K:Fg}{Q:VK}{st:Addr}{ns:List Int}(h:Hall K C H ro de p st P ys po 0)(hS:SqL K H a (ns.map V.int))(l63:ns.length<=63)(q:∀H',Q (.bl true) H') :
  EK K C (ends Q) [some (.ref a),some (.ref w),some (.ref ro),some (.ref hd),some (.ref de),some (.ref p),some (.ref st),none,none,none,none] H:=by
 unfold EK;walk_at "";obtain⟨cs,ec,lc⟩:=vZ ns (some 12) (some 63);refine⟨a,_,rfl,hS,fun l9 n9=>?_⟩;rw[ec];have S1:=ar n9 (.lst (cs.map V.int));have e9:upd H l9 (.lst (cs.map V.int)) l9=some (.lst (cs.map V.int)):=am;have hl9:∀{b:Addr} {o:HO},H b=some o->l9≠b:=fun hb e=>by rw[e,hb] at n9;cases n9
 have h1:=h.same S1;generalize upd H l9 (.lst (cs.map V.int))=H1 at S1 e9 h1 ⊢;refine CK (SqL.of e9) ?_
 refine jy (xs:=cs.map V.int) (fun i σ H2=>∃(P:Nat->Pd) (u7 u8 u9 YM:Option V),σ=[some (.ref a),some (.ref w),some (.ref ro),some (.ref hd),some (.ref de),some (.ref p),some (.ref st),u7,u8,u9,YM]/\Hall K C H2 ro de p st P ys po i/\H2 l9=some (.lst (cs.map V.int))/\(∀j,j<2->l9≠(P j).d.l)/\l9≠st)
  ⟨P,none,none,none,none,rfl,h1,e9,fun j hj=>by obtain⟨_,_,_,_,A⟩:=(h.at_ j hj).D;exact hl9 A.lst,hl9 h.hst⟩ (fun i σ H2 _ z=>by obtain⟨_,_,_,_,_,_,_,e,_⟩:=z;exact SqL.of e) ?_ ?_
 ·rintro i z σ H2 hz ⟨P,u7,u8,u9,YM,rfl,h2,e2,nl,ns9⟩;rw[Li] at hz;obtain⟨c,hc,rfl⟩:=Ln.mp hz;have li:i<cs.length:=(Ld.mp hc).1;walk_at "";have m0:=Nf (c / 3) (show(2:Int)≠0 by decide);have m2:=MK (c / 3) (show(0:Int)<2 by decide);obtain⟨j,ej⟩:∃j:Nat,c / 3 % 2=(j:Int):=⟨(c / 3 % 2).toNat,by lia⟩
  rw[ej] at m0 m2 ⊢;have hj:j<2:=by lia
  have R:=h2.at_ j hj;refine bG (SqL.of h2.hde) (En (f:=fun j=>.ref (P j).a) hj) ?_;walk_at "";refine bG (SqL.of h2.hro) (En (f:=fun j=>.ref (P j).w) hj) ?_;walk_at "";refine bG (SqL.of h2.hst) (En (f:=fun j=>.ref (P j).s) hj) ?_;walk_at "";refine⟨(P j).a,(P j).w,(P j).s,(P j).r,(P j).c,p,(P j).d,(P j).xs,ys,po,c,rfl,R,h2.s j hj,fun H3 o s' r' d' W7 vc L ho=>?_⟩;obtain⟨c',rfl,_⟩:=eL L.hc;have st3:=h2.lst hj L.U h2.hst (h2.fr j hj st (by simp));have e3:=h2.lst hj L.U e2 (nl j hj);have h4:=h2.deed hj (by lia) L;have e4:upd H3 st (.lst (([V.ref (P 0).s,V.ref (P 1).s]).set j (.ref s'))) l9=some (.lst (cs.map V.int)):=by rw[aC ns9];exact e3
  refine kH (SqT.of ho) rfl ?_;walk_at "";refine Ec (wV (i:=6) rfl (wV (i:=8) rfl ?_));refine⟨st,_,_,j,rfl,rfl,st3,?_,?_⟩
  ·unfold CT;rw[if_pos (by lia),if_pos (by show(j:Int)<2;lia)];simp
  show av _ _ _ _ _;generalize upd H3 st (.lst (([V.ref (P 0).s,V.ref (P 1).s]).set j (.ref s')))=H4 at h4 e4 ⊢;generalize hP:(fun i=>if i=j then ({P j with s:=s',r:=r',c:=c',d:=d',xs:=W7}:Pd) else P i)=P' at h4;have pa:(P' j).s=s':=by rw[<- hP];simp
  have pl:∀i,(P' i).d.l=(P i).d.l:=fun i=>by
   rw[<- hP];by_cases e:i=j
   ·simp only[if_pos e];rw[e];exact L.l
   ·simp only[if_neg e]
  have R4:=h4.at_ j hj;have WS:=h4.s j hj;rw[pa] at WS;walk_at "";refine bG (SqL.of h4.hde) (En (f:=fun j=>.ref (P' j).a) hj) ?_;walk_at "";refine bG (SqL.of h4.hro) (En (f:=fun j=>.ref (P' j).w) hj) ?_;walk_at "";refine⟨(P' j).a,(P' j).w,s',(P' j).r,.ref (P' j).c,_,(P' j).d,(P' j).xs,rfl,R4.D,R4.o,R4.hw,WS,R4.hr,R4.hx,.tup R4.hc (.ints _),fun H5 S5=>?_⟩;walk_at "";exact⟨P',_,_,_,_,rfl,h4.same S5,S5 _ _ e4,fun i hi=>by rw[pl];exact nl i hi,ns9⟩
 ·rintro σ H2 ⟨P,u7,u8,u9,YM,rfl,h2,_⟩;walk_at "";exact JC h2 q
theorem Desk.keep{K:Fg}(R:Desk K C H a d)(U:Up M H H')(nt:∀b∈M,∀zs,H b≠some (.tup zs))(na:a∉M)(nx:d.dx∉M)(nl:d.l∉M):Desk K C H' a d:=by
 obtain⟨vs,vt,vp,zs,A⟩:=R;have g:=U.agr nt;exact⟨vs,vt,vp,zs,⟨U _ _ na A.ins,U _ _ nx A.own,U _ _ nl A.lst,A.len,A.s.agr g,A.t.agr g,A.p.agr g⟩⟩
structure Fst (K:Fg) (C:Addr) (H:Hp) (w w1 ro de a0 a1:Addr) (ws:List Str) (d0 d1:Ds):Prop where
 hw:H w=some (.lst (ws.map V.str))
 hw1:H w1=some (.lst (ws.reverse.map V.str))
 hro:H ro=some (.lst [.ref w,.ref w1])
 hde:H de=some (.lst [.ref a0,.ref a1])
 D0:Desk K C H a0 d0
 D1:Desk K C H a1 d1
theorem Fst.same{K:Fg}(F:Fst K C H w w1 ro de a0 a1 ws d0 d1)(S:Same H H'):Fst K C H' w w1 ro de a0 a1 ws d0 d1:=⟨S _ _ F.hw,S _ _ F.hw1,S _ _ F.hro,S _ _ F.hde,F.D0.same S,F.D1.same S⟩
theorem Fst.upd{K:Fg}(F:Fst K C H w w1 ro de a0 a1 ws d0 d1)(hh:H h=some (.lst zs))(n:∀b∈[w,w1,ro,de,d0.l,d1.l],b≠h):Fst K C (L2.upd H h o) w w1 ro de a0 a1 ws d0 d1:=by
 have U:Up [h] H (L2.upd H h o):=fun b u nb e=>by rw[aC (fun z=>nb (by rw[z];exact Lx.mpr rfl))];exact e
 have nt:∀b∈[h],∀ys,H b≠some (.tup ys):=fun b hb ys e=>by rw[Lx.mp hb,hh] at e;cases e
 have out:∀{b:Addr},b≠h->b∉[h]:=fun nb m=>nb (Lx.mp m)
 have dk:∀{a:Addr} {d:Ds},Desk K C H a d->d.l≠h->Desk K C (L2.upd H h o) a d:=fun {a d} D nl=>by
  obtain⟨_,_,_,_,A⟩:=id D;exact D.keep U nt (out (apart A.ins hh fun z=>by cases z)) (out (apart A.own hh fun z=>by cases z)) (out nl)
 exact⟨U _ _ (out (n w (by simp))) F.hw,U _ _ (out (n w1 (by simp))) F.hw1,U _ _ (out (n ro (by simp))) F.hro,U _ _ (out (n de (by simp))) F.hde,dk F.D0 (n _ (by simp)),dk F.D1 (n _ (by simp))⟩
theorem uU(h:eX ws)(w1:1<=ws.length)(w5:ws.length<=5):GG ws:=⟨Nv.JA h w1 w5,fun w hw=>Nv.wf (h.2 w hw)⟩
theorem Jy(h:eX ws)(w5:ws.length<=5):Tr2.WdOk ws:=⟨h.1,w5,fun w hw=>⟨(h.2 w hw).2.2,(h.2 w hw).2.1⟩⟩
theorem pX(h:eX ws):eX ws.reverse:=⟨List.pairwise_reverse.mpr (h.1.imp MO),fun w hw=>h.2 w (Vk.mp hw)⟩
theorem IM{dx l:Addr}(h:eX ws)(w1:1<=ws.length)(w5:ws.length<=5):DOk ⟨dx,l,ws,[],LI ws.length 0,0⟩:=⟨(uU h w1 w5).st,(uU h w1 w5).pl,Jy h w5,MM,fun t ht=>(by cases ht),.inl rfl⟩
theorem rJ{H:Hp}(nx:H x=none)(nd:H dx=none)(U:Up [x] (upd (upd H dx (.own x)) x (.ins C dx [])) H'):Same H H':=fun b o e=>U _ _ (fun m=>au e nx (Lx.mp m)) (by rw[aC (au e nx),aC (au e nd)];exact e)
theorem uR{K:Fg}{H:Hp}{Q:VK}{ws:List Str}(hw:H w=some (.lst (ws.map V.str)))(l5:ws.length<=5)(q:∀(D:Addr) (H':Hp),AccZ K H D H' ((LI ws.length (0:Int)).map NG)->Q (.ref D) H'):dS (uN K w) (tC (.int 0)) σ Q H:=by
 refine kQ (xs:=ws.map V.str) fun D nD=>⟨fun i H2=>AccZ K H D H2 ((LI i (0:Int)).map NG),AccZ.start (Same.refl _) nD,fun i H2 _ A=>SqL.of (A.same _ _ hw),?_,?_⟩
 ·intro i z H2 hz A;have li:i<(ws.map V.str).length:=(Ld.mp hz).1;have l2:=li;rw[La] at l2;walk_at "";refine cA li (A.gz (.int 0) (aU (by rw[La,MM];lia)) fun H4 A4=>?_);show AccZ K H D H4 ((LI (i+1) (0:Int)).map NG);rw[Th,LD];exact A4
 ·intro H2 A;rw[La] at A;exact q D H2 A
theorem D9{sp:Sp}{WR:List V}{t:TA}{H:Hp}{Q:VK}(h:t σ H fun vs H1=>∀x dx,H1 x=none->H1 dx=none->dx≠x->sp (.ref x :: (vs++WR)) (upd (upd H1 dx (.own x)) x (.ins C dx [])) (fun v H2=>v=.non/\Q (.ref x) H2) E):xZ C sp WR E t σ H Q:=h
def EI(K:Fg)(dD:Addr):TS:=(av (aR (a4 (tH K) [] E0 (ag (ae 0) (ag (tC (.int 1)) (ag (aB cT (tC (.int 1)) (aB bZ (a4 (qp K) [] E0 (ag (ae 0) (ag (tC (.int 0)) aq))) (tC (.int 5)))) aq)))) (aH 1))
 (av (aR (cX (ag (ae 1) (ag (Bq K (ae 1) (G0 (rU fun i=>.int (-i)) (tC (.int 1)))) aq))) (aH 2))
 (av (aR (cX (ag (bY (oN K) (ag (ae 1) aq)) (ag (Bq K (ae 1) (G0 (rU fun i=>.int (-i)) (tC (.int 1)))) aq))) (aH 3))
 (av (aR (cX (ag (xZ dD (dM K dD) [] E0 (ag (aB (bz K) (ae 3) (tC (.int 0))) aq)) (ag (xZ dD (dM K dD) [] E0 (ag (aB (bz K) (ae 3) (tC (.int 1))) aq)) aq))) (aH 4))
 (av (dL (wq K "list" vo (aB (bz K) (ae 3) (tC (.int 0)))))
 (av (dL (wq K "list" qO (aB (bz K) (ae 3) (tC (.int 1)))))
 (av (aR (a4 (iA K) [] E0 (ag (ae 0) (ag (bY (cE K) (ag (ae 1) aq)) aq))) (aH 5))
 (av (aR (cX (ag (dX (ag (cX aq) (ag (bY (dv K) (ag (gr (kM K (ae 1)) (tC (.int 0))) aq)) aq))) (ag (dX (ag (cX aq) (ag (bY (dv K) (ag (gr (kM K (ae 1)) (tC (.int 0))) aq)) aq))) aq))) (aH 6))
 (EK K dD)))))))))
theorem Hg{K:Fg}{Q:VK}{ns:List Int}(hS:SqL K H a (ns.map V.int))(l63:ns.length<=63)(q:∀H',Q (.bl true) H') :
  EI K C (ends Q) [some (.ref a),none,none,none,none,none,none,none,none,none,none] H:=by
 unfold EI;walk_at "";refine⟨a,ns,0,rfl,hS,by decide,?_⟩;generalize cellOf ns 0=c0;walk_at "";have c50:=Nf c0 (show(5:Int)≠0 by decide);have c55:=MK c0 (show(0:Int)<5 by decide);refine⟨a,ns,1,1+c0 % 5,rfl,hS,by decide,by lia,by lia,fun w H1 ws A1 wo lw=>?_⟩;have w1':1<=ws.length:=by lia
 have w5:ws.length<=5:=by lia
 have S1:=A1.same;have hw:=AccZ.strs A1;clear A1;walk_at "";refine D8 ?_;walk_at "";refine⟨w,_,rfl,rfl,SqL.of hw,fun w1 nw1=>?_⟩;have T1:=ar nw1 (.lst (ws.map V.str).reverse);have hw1:upd H1 w1 (.lst (ws.map V.str).reverse) w1=some (.lst (ws.reverse.map V.str)):=by rw[am,Vy]
 have hw:=T1 _ _ hw;have S2:=S1.trans T1;generalize upd H1 w1 (.lst (ws.map V.str).reverse)=H2 at T1 hw1 hw S2 ⊢;walk_at "";refine⟨bq,fun ro nro=>?_⟩;have T2:=ar nro (.lst [.ref w,.ref w1]);have hro:upd H2 ro (.lst [.ref w,.ref w1]) ro=some (.lst [.ref w,.ref w1]):=am;have hw1:=T2 _ _ hw1;have hw:=T2 _ _ hw;have S3:=S2.trans T2;generalize upd H2 ro (.lst [.ref w,.ref w1])=H3 at T2 hro hw1 hw S3 ⊢;walk_at "";refine F3 (SqL.of hw) fun h0 nh0=>?_
 have n0:w≠h0/\w1≠h0/\ro≠h0:=⟨au hw nh0,au hw1 nh0,au hro nh0⟩
 have T3:=ar nh0 (.lst (ws.map V.str));have W4:upd H3 h0 (.lst (ws.map V.str)) h0=some (.lst (ws.map V.str)):=am;have hw:=T3 _ _ hw;have hw1:=T3 _ _ hw1;have hro:=T3 _ _ hro;have S4:=S3.trans T3;generalize upd H3 h0 (.lst (ws.map V.str))=H4 at T3 W4 hw hw1 hro S4 ⊢;walk_at "";refine D8 ?_;walk_at "";refine⟨w,_,rfl,rfl,SqL.of hw,fun h1 Zy=>?_⟩;have T4:=ar Zy (.lst (ws.map V.str).reverse);have W9:upd H4 h1 (.lst (ws.map V.str).reverse) h1=some (.lst (ws.reverse.map V.str)):=by rw[am,Vy]
 have n01:h0≠h1:=au W4 Zy;have n1:w≠h1/\w1≠h1/\ro≠h1:=⟨au hw Zy,au hw1 Zy,au hro Zy⟩
 have W4:=T4 _ _ W4;have hw:=T4 _ _ hw;have hw1:=T4 _ _ hw1;have hro:=T4 _ _ hro;have S5:=S4.trans T4;generalize upd H4 h1 (.lst (ws.map V.str).reverse)=H5 at T4 W4 W9 hw hw1 hro S5 ⊢;walk_at "";refine⟨bq,fun hd nhd=>?_⟩;have T5:=ar nhd (.lst [.ref h0,.ref h1]);have Xo:upd H5 hd (.lst [.ref h0,.ref h1]) hd=some (.lst [.ref h0,.ref h1]):=am;have dh0:hd≠h0:=(au W4 nhd).symm;have dh1:hd≠h1:=(au W9 nhd).symm;have W4:=T5 _ _ W4;have W9:=T5 _ _ W9;have hw:=T5 _ _ hw;have hw1:=T5 _ _ hw1;have hro:=T5 _ _ hro;have S6:=S5.trans T5;generalize upd H5 hd (.lst [.ref h0,.ref h1])=H6 at T5 Xo W4 W9 hw hw1 hro S6 ⊢;walk_at "";refine D9 ?_;walk_at "";refine bG (SqL.of Xo) (v:=.ref h0) rfl ?_;walk_at "";intro a0 ZH na0 nd0 ne0;have M1:Same H6 (upd (upd H6 ZH (.own a0)) a0 (.ins C ZH [])):=fun b o e=>by rw[aC (au e na0),aC (au e nd0)];exact e
 refine⟨a0,ZH,h0,ws,rfl,am,by rw[aC ne0,am],SqL.of (M1 _ _ W4),uU wo w1' w5,fun H7 l0 nl0 U7 D0=>⟨rfl,?_⟩⟩;have T6:=rJ na0 nd0 U7
 have Zq:∀{b:Addr} {o:HO},H6 b=some o->b≠l0:=fun hb e=>by
  have:=M1 _ _ hb
  rw[e,nl0] at this;cases this
 have x0:w≠l0/\w1≠l0/\ro≠l0/\h0≠l0/\h1≠l0:=⟨Zq hw,Zq hw1,Zq hro,Zq W4,Zq W9⟩
 have Xo:=T6 _ _ Xo;have W4:=T6 _ _ W4;have W9:=T6 _ _ W9;have hw:=T6 _ _ hw;have hw1:=T6 _ _ hw1;have hro:=T6 _ _ hro;have S7:=S6.trans T6;clear M1 T6 U7;walk_at "";refine D9 ?_;walk_at "";refine bG (SqL.of Xo) (v:=.ref h1) rfl ?_;walk_at "";intro a1 ZI na1 nd1 ne1;have M2:Same H7 (upd (upd H7 ZI (.own a1)) a1 (.ins C ZI [])):=fun b o e=>by rw[aC (au e na1),aC (au e nd1)];exact e
 have lr:ws.reverse.length=ws.length:=Pq;refine⟨a1,ZI,h1,ws.reverse,rfl,am,by rw[aC ne1,am],SqL.of (M2 _ _ W9),uU (pX wo) (by lia) (by lia),fun H8 l1 nl1 U8 D1=>⟨rfl,?_⟩⟩;have T7:=rJ na1 nd1 U8
 have YX:∀{b:Addr} {o:HO},H7 b=some o->b≠l1:=fun hb e=>by
  have:=M2 _ _ hb
  rw[e,nl1] at this;cases this
 have x1:w≠l1/\w1≠l1/\ro≠l1/\h0≠l1/\h1≠l1:=⟨YX hw,YX hw1,YX hro,YX W4,YX W9⟩
 have x01:l0≠l1/\a0≠a1:=by
  obtain⟨_,_,_,_,A⟩:=D0;exact⟨YX A.lst,au A.ins na1⟩
 have Xo:=T7 _ _ Xo;have W4:=T7 _ _ W4;have W9:=T7 _ _ W9;have hw:=T7 _ _ hw;have hw1:=T7 _ _ hw1;have hro:=T7 _ _ hro;have D0:=D0.same T7;have S8:=S7.trans T7;clear M2 T7 U8 Zq YX;walk_at "";refine⟨bq,fun de nde=>?_⟩;have T8:=ar nde (.lst [.ref a0,.ref a1]);have hde:upd H8 de (.lst [.ref a0,.ref a1]) de=some (.lst [.ref a0,.ref a1]):=am
 have xd:de≠h0/\de≠h1/\de≠l0/\de≠l1:=by
  obtain⟨_,_,_,_,A⟩:=D0;obtain⟨_,_,_,_,B⟩:=D1;exact⟨(au W4 nde).symm,(au W9 nde).symm,(au A.lst nde).symm,(au B.lst nde).symm⟩
 have Xo:=T8 _ _ Xo;have W4:=T8 _ _ W4;have W9:=T8 _ _ W9;have F:Fst K C (upd H8 de (.lst [.ref a0,.ref a1])) w w1 ro de a0 a1 ws ⟨ZH,l0,ws,[],LI ws.length 0,0⟩ ⟨ZI,l1,ws.reverse,[],LI ws.reverse.length 0,0⟩:=⟨T8 _ _ hw,T8 _ _ hw1,T8 _ _ hro,hde,D0.same T8,D1.same T8⟩
 have S9:=S8.trans T8;clear hde hw hw1 hro D0 D1;generalize upd H8 de (.lst [.ref a0,.ref a1])=H9 at T8 Xo W4 W9 F S9 ⊢;walk_at "";refine bG (SqL.of Xo) (v:=.ref h0) rfl ?_;walk_at "";have f0:H h0=none:=S3.free nh0;have f1:H h1=none:=S4.free Zy;refine⟨CI W4,h0,_,rfl,rfl,W4,?_⟩
 have F:=F.upd (o:=.lst (ws.map V.str).reverse) W4 (fun b hb=>by
  simp only[Lj,Lp,or_false] at hb
  rcases hb with rfl|rfl|rfl|rfl|rfl|rfl
  ·exact n0.1
  ·exact n0.2.1
  ·exact n0.2.2
  ·exact xd.1
  ·exact x0.2.2.2.1.symm
  ·exact x1.2.2.2.1.symm)
 have Xo:upd H9 h0 (.lst (ws.map V.str).reverse) hd=some (.lst [.ref h0,.ref h1]):=by rw[aC dh0];exact Xo
 have W9:upd H9 h0 (.lst (ws.map V.str).reverse) h1=some (.lst (ws.reverse.map V.str)):=by rw[aC n01.symm];exact W9
 have YO:Same H (upd H9 h0 (.lst (ws.map V.str).reverse)):=fun b o e=>by rw[aC (au e f0)];exact S9 _ _ e
 clear W4;show av _ _ _ _ _;generalize upd H9 h0 (.lst (ws.map V.str).reverse)=XQ at F Xo W9 YO ⊢;walk_at "";refine bG (SqL.of Xo) (v:=.ref h1) rfl ?_;refine⟨CI W9,uB W9 ?_⟩
 have F:=F.upd (o:=.lst []) W9 (fun b hb=>by
  simp only[Lj,Lp,or_false] at hb
  rcases hb with rfl|rfl|rfl|rfl|rfl|rfl
  ·exact n1.1
  ·exact n1.2.1
  ·exact n1.2.2
  ·exact xd.2.1
  ·exact x0.2.2.2.2.symm
  ·exact x1.2.2.2.2.symm)
 have S11:Same H (upd XQ h1 (.lst [])):=fun b o e=>by rw[aC (au e f1)];exact YO _ _ e
 clear Xo W9;show av _ _ _ _ _;generalize upd XQ h1 (.lst [])=H11 at F S11 ⊢;walk_at "";refine dO (SqL.of F.hw) ?_;rw[La];walk_at "";refine⟨a,ns,ws.length,rfl,S11.seq hS,l63,w5,fun p H12 po Ap ne tp=>?_⟩;obtain⟨ys,hp,ry⟩:=Ap.at_;have T12:=Ap.same
 have xp:p≠l0/\p≠l1:=by
  obtain⟨_,_,_,_,A⟩:=F.D0;obtain⟨_,_,_,_,B⟩:=F.D1;exact⟨(au A.lst Ap.new).symm,(au B.lst Ap.new).symm⟩
 have F:=F.same T12;have S12:=S11.trans T12;clear Ap T12;walk_at "";refine⟨by decide,fun r0 nr0=>?_⟩;have Zl:=ar nr0 (.lst []);have WY:upd H12 r0 (.lst []) r0=some (.lst []):=am
 have y0:r0≠l0/\r0≠l1:=by
  obtain⟨_,_,_,_,A⟩:=F.D0;obtain⟨_,_,_,_,B⟩:=F.D1;exact⟨(au A.lst nr0).symm,(au B.lst nr0).symm⟩
 have F:=F.same Zl;have hp:=Zl _ _ hp;have ry:=ry.same Zl;have S13:=S12.trans Zl;generalize upd H12 r0 (.lst [])=H13 at Zl WY F hp ry S13 ⊢;clear Zl;walk_at "";refine⟨w,rfl,⟨_,SqL.of F.hw⟩,?_⟩;refine uR F.hw w5 fun D0 H14 AD=>?_
 have hD:=AccZ.ints AD;have Zm:=AD.same;have F:=F.same Zm;have hp:=Zm _ _ hp;have ry:=ry.same Zm;have WY:=Zm _ _ WY;have S14:=S13.trans Zm;clear AD Zm;walk_at "";refine gg (SqL.of hD) fun c0 nc0=>?_
 have YR:=ar nc0 (.tup ((LI ws.length (0:Int)).map V.int));have Xg:upd H14 c0 (.tup ((LI ws.length (0:Int)).map V.int)) c0=some (.tup ((LI ws.length (0:Int)).map V.int)):=am;have F:=F.same YR;have hp:=YR _ _ hp;have ry:=ry.same YR;have WY:=YR _ _ WY;have S15:=S14.trans YR;generalize upd H14 c0 (.tup ((LI ws.length (0:Int)).map V.int))=H15 at YR Xg F hp ry WY S15 ⊢;clear YR hD;walk_at "";refine⟨bq,fun s0 ns0=>?_⟩;have Yy:=ar ns0 (.tup [.ref r0,.ref c0]);have Xp:upd H15 s0 (.tup [.ref r0,.ref c0]) s0=some (.tup [.ref r0,.ref c0]):=am;have F:=F.same Yy;have hp:=Yy _ _ hp;have ry:=ry.same Yy;have WY:=Yy _ _ WY;have Xg:=Yy _ _ Xg;have S16:=S15.trans Yy;generalize upd H15 s0 (.tup [.ref r0,.ref c0])=H16 at Yy Xp Xg F hp ry WY S16 ⊢;clear Yy;walk_at "";refine⟨by decide,fun r1 nr1=>?_⟩;have Yi:=ar nr1 (.lst []);have XB:upd H16 r1 (.lst []) r1=some (.lst []):=am
 have y1:r1≠l0/\r1≠l1:=by
  obtain⟨_,_,_,_,A⟩:=F.D0;obtain⟨_,_,_,_,B⟩:=F.D1;exact⟨(au A.lst nr1).symm,(au B.lst nr1).symm⟩
 have F:=F.same Yi;have hp:=Yi _ _ hp;have ry:=ry.same Yi;have WY:=Yi _ _ WY;have Xg:=Yi _ _ Xg;have Xp:=Yi _ _ Xp;have S17:=S16.trans Yi;generalize upd H16 r1 (.lst [])=H17 at Yi XB F hp ry WY Xg Xp S17 ⊢;clear Yi;walk_at "";refine⟨w,rfl,⟨_,SqL.of F.hw⟩,?_⟩;refine uR F.hw w5 fun D1 H18 AD=>?_
 have hD:=AccZ.ints AD;have Yj:=AD.same;have F:=F.same Yj;have hp:=Yj _ _ hp;have ry:=ry.same Yj;have WY:=Yj _ _ WY;have Xg:=Yj _ _ Xg;have Xp:=Yj _ _ Xp;have XB:=Yj _ _ XB;have S18:=S17.trans Yj;clear AD Yj;walk_at "";refine gg (SqL.of hD) fun c1 nc1=>?_
 have X4:=ar nc1 (.tup ((LI ws.length (0:Int)).map V.int));have X5:upd H18 c1 (.tup ((LI ws.length (0:Int)).map V.int)) c1=some (.tup ((LI ws.length (0:Int)).map V.int)):=am;have F:=F.same X4;have hp:=X4 _ _ hp;have ry:=ry.same X4;have WY:=X4 _ _ WY;have Xg:=X4 _ _ Xg;have Xp:=X4 _ _ Xp;have XB:=X4 _ _ XB;have S19:=S18.trans X4;generalize upd H18 c1 (.tup ((LI ws.length (0:Int)).map V.int))=H19 at X4 X5 F hp ry WY Xg Xp XB S19 ⊢;clear X4 hD;walk_at "";refine⟨bq,fun s1 ns1=>?_⟩;have XR:=ar ns1 (.tup [.ref r1,.ref c1]);have Wn:upd H19 s1 (.tup [.ref r1,.ref c1]) s1=some (.tup [.ref r1,.ref c1]):=am;have F:=F.same XR;have hp:=XR _ _ hp;have ry:=ry.same XR;have WY:=XR _ _ WY;have Xg:=XR _ _ Xg;have Xp:=XR _ _ Xp;have XB:=XR _ _ XB;have X5:=XR _ _ X5;have S20:=S19.trans XR;generalize upd H19 s1 (.tup [.ref r1,.ref c1])=H20 at XR Wn X5 F hp ry WY Xg Xp XB S20 ⊢;clear XR;walk_at "";refine⟨bq,fun st Yh=>?_⟩;have XI:=ar Yh (.lst [.ref s0,.ref s1]);have hst:upd H20 st (.lst [.ref s0,.ref s1]) st=some (.lst [.ref s0,.ref s1]):=am
 have sl:st≠l0/\st≠l1:=by
  obtain⟨_,_,_,_,A⟩:=F.D0;obtain⟨_,_,_,_,B⟩:=F.D1;exact⟨(au A.lst Yh).symm,(au B.lst Yh).symm⟩
 have sf:∀b∈[ro,de,p,w,w1,r0,r1],b≠st:=fun b hb=>by
  simp only[Lj,Lp,or_false] at hb;rcases hb with rfl|rfl|rfl|rfl|rfl|rfl|rfl
  ·exact au F.hro Yh
  ·exact au F.hde Yh
  ·exact au hp Yh
  ·exact au F.hw Yh
  ·exact au F.hw1 Yh
  ·exact au WY Yh
  ·exact au XB Yh
 have F:=F.same XI;have hp:=XI _ _ hp;have ry:=ry.same XI;have WY:=XI _ _ WY;have Xg:=XI _ _ Xg;have Xp:=XI _ _ Xp;have XB:=XI _ _ XB;have X5:=XI _ _ X5;have Wn:=XI _ _ Wn;have S21:=S20.trans XI;generalize upd H20 st (.lst [.ref s0,.ref s1])=H21 at XI hst F hp ry WY Xg Xp XB X5 Wn S21 ⊢;clear XI;walk_at "";refine JD (P:=fun j=>if j=0 then ⟨a0,w,s0,r0,c0,⟨ZH,l0,ws,[],LI ws.length 0,0⟩,[]⟩ else ⟨a1,w1,s1,r1,c1,⟨ZI,l1,ws.reverse,[],LI ws.reverse.length 0,0⟩,[]⟩) (ys:=ys) (po:=po) ⟨F.hro,F.hde,hst,fun j hj=>?_,fun j hj=>?_,x01.2,x01.1,fun j hj b hb=>?_,sf,fun j hj=>?_⟩ (S21.seq hS) l63 q
 ·rcases two hj with rfl|rfl
  ·exact⟨F.D0,IM wo w1' w5,(by show 0<1000;decide),F.hw,WY,.nil,Xg,hp,ry,ne,tp,y0.1,xp.1,x0.1⟩
  ·exact⟨F.D1,IM (pX wo) (by lia) (by lia),(by show 0<1000;decide),F.hw1,XB,.nil,by show H21 c1=some (.tup ((LI ws.reverse.length (0:Int)).map V.int));rw[lr];exact X5,hp,ry,ne,fun t ht=>by have:=tp t ht;unfold IX at this;unfold Tw.TtOk;show ba ws.reverse.length t.fr/\ba ws.reverse.length t.to/\ie t.q t.d;rw[lr];exact this,y1.2,xp.2,x1.2.1⟩
 ·rcases two hj with rfl|rfl
  ·exact Xp
  ·exact Wn
 ·simp only[Lj,Lp,or_false] at hb;rcases two hj with rfl|rfl
  ·rcases hb with rfl|rfl|rfl|rfl|rfl|rfl|rfl
   ·exact x0.2.2.1
   ·exact xd.2.2.1
   ·exact sl.1
   ·exact x0.1
   ·exact x0.2.1
   ·exact y0.1
   ·exact y1.1
  ·rcases hb with rfl|rfl|rfl|rfl|rfl|rfl|rfl
   ·exact x1.2.2.1
   ·exact xd.2.2.2
   ·exact sl.2
   ·exact x1.1
   ·exact x1.2.1
   ·exact y0.2
   ·exact y1.2
 ·rcases two hj with rfl|rfl <;> exact Lg _
end Dk
set_option Elab.async false
set_option linter.all false
set_option maxRecDepth 100000
set_option maxHeartbeats 4000000
namespace K93
open PySem L2 Fr G1 Sm Vs
open Tr2 (kvPW)
open PySem.W (Dat kqdOk)
open K93H
open Ex0 Kd in
structure xr (K:Fg) (mg:Str->Option K_) (x:Ad):Prop where
 v:GP K mg "VesselError" x.V
 vb:Jh K mg "VesselError" x.V
 n1:AY K mg "NoStuffs" x.c1 BX "ValueError.__new__"
 n4:AY K mg "NoTurnings" x.c4 BX "ValueError.__new__"
 n5:AY K mg "NoTurning" x.c5 BX "ValueError.__new__"
 n12:AY K mg "NoPieces" x.c12 BX "ValueError.__new__"
 s1:lR K x.c1 x.V
 s4:lR K x.c4 x.V
 s5:lR K x.c5 x.V
 s7:lR K x.c7 x.V
 s12:lR K x.c12 x.V
 h7:sA K x.c7
 f7:sB K x.c7 "at"
theorem JS{K:Fg} {mg:Str->Option K_}  {n:Nat} {t0 t1 t2:Tok} {h0 h1 h2:Int} (hm:mg "PIECES_WRITTEN"=some (.ref D))
  (hl:K.lookup D=some ⟨.type "dict",none,.dict #[⟨h0,.str "" t0,.int 1 u0⟩,⟨h1,.str "2" t1,.int 2 u1⟩,⟨h2,.str "3" t2,.int 3 u2⟩] n,#[]⟩) (e0:h0=hashStr w "") (e1:h1=hashStr w "2") (e2:h2=hashStr w "3") (ns:(D == sysModules)=false):KD P w K mg "PIECES_WRITTEN" D kvPW:=by
 refine⟨hm,ns,fun h X=>⟨[(.inr "",.int 1 u0),(.inr "2",.int 2 u1),(.inr "3",.int 3 u2)],.cons ⟨rfl,_,rfl⟩ (.cons ⟨rfl,_,rfl⟩ (.cons ⟨rfl,_,rfl⟩ .nil)),?_⟩⟩;refine⟨_,_,_,X _ _ hl,⟨rfl,rfl,rfl⟩,rfl,?_,.cons (cB ..) rfl (.cons (cB ..) rfl (.cons (cB ..) rfl .nil)),(by decide:([.inr "",.inr "2",.inr "3"]:List L2.Key).Nodup)⟩;intro e he;have he':e∈[(⟨h0,.str "" t0,.int 1 u0⟩:RL),⟨h1,.str "2" t1,.int 2 u1⟩,⟨h2,.str "3" t2,.int 3 u2⟩]:=O9.mpr he;rcases Lj.mp he' with rfl|he'
 ·exact⟨.inr "",cB ..,e0⟩
 rcases Lj.mp he' with rfl|he'
 ·exact⟨.inr "2",cB ..,e1⟩
 ·cases Lx.mp he';exact⟨.inr "3",cB ..,e2⟩
theorem BC:aJ ["value"] ["value"] (ai (top 14)):=by walk_at "s"
theorem gw:aJ ["one","two","rest"] ["one","two"] (ai (top 15)):=by walk_at "s"
theorem tX:aJ ["top","bottom","divisor"] ["top","bottom"] (ai (top 16)):=by walk_at "s"
theorem yz:aJ ["one","two"] ["one","two"] (ai (top 17)):=by walk_at "s"
theorem wx:aJ ["word"] ["word"] (ai (top 25)):=by walk_at "s"
theorem qu:aJ ["words"] ["words"] (ai (top 26)):=by walk_at "s"
theorem wy:aJ ["pieces","size"] ["pieces","size"] (ai (top 27)):=by walk_at "s"
theorem lB:aJ ["rows","size","row"] ["rows","size"] (ai (top 28)):=by walk_at "s"
theorem iE:aJ ["turnings"] ["turnings"] (ai (top 29)):=by walk_at "s"
theorem tW:aJ ["turnings","found","turning"] ["turnings"] (ai (top 30)):=by walk_at "s"
theorem EZ:aJ ["words","rows","stuffs","turnings"] ["words","rows"] (ai (top 31)):=by walk_at "s"
theorem oF:aJ ["word","pieces"] ["word","pieces"] (ai (top 34)):=by walk_at "s"
theorem qB:aJ ["stuffs","heap","parts"] ["stuffs","heap"] (ai (top 35)):=by walk_at "s"
theorem qw:aJ ["pace","top","bottom"] ["pace"] (ai (top 36)):=by walk_at "s"
theorem jV:aJ ["stuffs","turning","one","two","pace"] ["stuffs","turning"] (ai (top 37)):=by walk_at "s"
theorem jY:aJ ["stuffs","text","pieces","part","cut"] ["stuffs","text"] (ai (top 38)):=by walk_at "s"
theorem iC:aJ ["text"] ["text"] (ai (top 39)):=by walk_at "s"
theorem jX:aJ ["text","cut","top","bottom"] ["text"] (ai (top 40)):=by walk_at "s"
theorem jW:aJ ["stuffs","text","cut","rest","pace","turning"] ["stuffs","text"] (ai (top 41)):=by walk_at "s"
theorem lF:aJ ["turning","count"] ["turning","count"] (ai (top 43)):=by walk_at "s"
theorem jZ:aJ ["turning","count"] ["turning","count"] (ai (top 44)):=by walk_at "s"
theorem lD:aJ ["_law_script","_law_k"] ["_law_script","_law_k"] (ai (top 48)):=by walk_at "s"
theorem qA:aJ ["_law_cell","_law_many","_law_found","_law_number","_law_k"] ["_law_cell","_law_many"] (ai (top 49)):=by walk_at "s"
theorem lC:aJ ["_law_one","_law_other","_law_rest"] ["_law_one","_law_other"] (ai (top 50)):=by walk_at "s"
theorem oH:aJ ["_law_top","_law_bottom","_law_share"] ["_law_top","_law_bottom"] (ai (top 51)):=by walk_at "s"
theorem tU:aJ ["_law_cell","_law_size","_law_number","_law_found","_law_k"] ["_law_cell","_law_size"] (ai (top 52)):=by walk_at "s"
theorem tO:aJ ["_law_base_here","_law_place","_law_size","_law_k","_law_signs","_law_other"] ["_law_base_here","_law_place","_law_size","_law_k"] (ai (top 53)):=by walk_at "s"
theorem qx:aJ ["_law_script","_law_at","_law_many","_law_cell","_law_size","_law_base_here","_law_words_here","_law_k","_law_word_here"] ["_law_script","_law_at","_law_many"] (ai (top 54)):=by walk_at "s"
theorem tR:aJ ["_law_number","_law_many","_law_most","_law_found","_law_k"] ["_law_number","_law_many","_law_most"] (ai (top 55)):=by walk_at "s"
theorem eN:aJ ["_law_found","_law_due","_law_k"] ["_law_found","_law_due"] (ai (top 56)):=by walk_at "s"
theorem jh:aJ ["_law_words_here","_law_heap_here","_law_found","_law_k"] ["_law_words_here","_law_heap_here"] (ai (top 57)):=by walk_at "s"
theorem gv:aJ ["_law_words_here","_law_turning","_law_pace","_law_sides"] ["_law_words_here","_law_turning"] (ai (top 58)):=by walk_at "s"
theorem ww:aJ ["_law_turning","_law_count"] ["_law_turning","_law_count"] (ai (top 59)):=by walk_at "s"
theorem tP:aJ ["_law_turning","_law_count","_law_found","_law_k"] ["_law_turning","_law_count"] (ai (top 60)):=by walk_at "s"
theorem tS:aJ ["_law_rows","_law_turning","_law_unlike","_law_row","_law_heap_here","_law_same_here"] ["_law_rows","_law_turning"] (ai (top 61)):=by walk_at "s"
theorem tQ:aJ ["_law_rows","_law_pool","_law_xs"] ["_law_rows","_law_pool","_law_xs"] (ai (top 62)):=by walk_at "s"
theorem oG:aJ ["_law_count","_law_place","_law_xs","_law_cell"] ["_law_count","_law_place","_law_xs","_law_cell"] (ai (top 63)):=by walk_at "s"
theorem ji:aJ ["_law_script","_law_many","_law_found","_law_cell","_law_xs","_law_most","_law_one","_law_two"] ["_law_script","_law_many"] (ai (top 64)):=by walk_at "s"
theorem iD:aJ ["_law_desk","_law_words_here","_law_rows","_law_k","_law_found"] ["_law_desk","_law_words_here","_law_rows"] (ai (top 65)):=by walk_at "s"
theorem qz:aJ ["_law_desk","_law_words_here","_law_state","_law_first","_law_rows","_law_count","_law_found"] ["_law_desk","_law_words_here","_law_state","_law_first"] (ai (top 66)):=by walk_at "s"
theorem qy:aJ ["_law_desk","_law_kind","_law_what","_law_pieces","_law_done"] ["_law_desk","_law_kind","_law_what","_law_pieces"] (ai (top 67)):=by walk_at "s"
theorem tT:aJ ["_law_desk","_law_words_here","_law_state","_law_pool","_law_cell","_law_xs","_law_rows","_law_count","_law_kind","_law_place","_law_pieces","_law_due","_law_turning","_law_done"] ["_law_desk","_law_words_here","_law_state","_law_pool","_law_cell"] (ai (top 68)):=by walk_at "s"
theorem jk:aJ ["self","words"] ["self","words"] (ai (met 46 0)):=by walk_at "s"
theorem qF:aJ ["self","turnings","pieces"] ["self","turnings","pieces"] (ai (met 46 1)):=by walk_at "s"
theorem jj:aJ ["self","text","lying"] ["self","text"] (ai (met 46 2)):=by walk_at "s"
theorem tY:aJ ["self","text","turning","turnings"] ["self","text"] (ai (met 46 3)):=by walk_at "s"
theorem qD:aJ ["self","text","place"] ["self","text"] (ai (met 46 4)):=by walk_at "s"
theorem oJ:aJ ["self"] ["self"] (ai (met 46 5)):=by walk_at "s"
theorem lG:aJ ["self"] ["self"] (ai (met 46 6)):=by walk_at "s"
theorem qE:aJ ["self","word","pieces","place","behind"] ["self","word","pieces"] (ai (met 46 7)):=by walk_at "s"
theorem qC:aJ ["self","text","turning"] ["self","text"] (ai (met 46 8)):=by walk_at "s"
theorem oK:aJ ["self"] ["self"] (ai (met 46 9)):=by walk_at "s"
theorem DI:aJ ["_law_script","_law_words_here","_law_rolls","_law_handed","_law_desks","_law_pool","_law_states","_law_cell","_law_j","_law_good","_law_state"] ["_law_script"] (ai (top 69)):=by walk_at "s"
section
variable{P:LA}{w:LL}{K:Fg}{mg:Str->Option K_}{base:Heap}{dD:Addr}
seal PE PS PSs PA PT
local macro_rules | `(tactic| walk_at "l")=>`(tactic| (intro h;repeat (first|(obtain⟨e,_⟩:=h;cases e;exact rfl)|obtain⟨_,h⟩:=h)))
abbrev uP (P:LA) (w:LL) (K:Fg) (mg:Str->Option K_) (base:Heap) (k:Nat):=FnC P w K mg base b9 k "whole" ["value"] nW
abbrev d_ (P:LA) (w:LL) (K:Fg) (mg:Str->Option K_) (base:Heap) (k:Nat):=FnC P w K mg base b9 k "greatest_divisor" ["one","two"] Bv
abbrev m8 (P:LA) (w:LL) (K:Fg) (mg:Str->Option K_) (base:Heap) (k:Nat):=FnC P w K mg base b9 k "fraction" ["top","bottom"] (Tr.ou K)
abbrev wc (P:LA) (w:LL) (K:Fg) (mg:Str->Option K_) (base:Heap) (k:Nat):=FnC P w K mg base b9 k "before" ["one","two"] (Nv.oz K)
abbrev sF (P:LA) (w:LL) (K:Fg) (mg:Str->Option K_) (base:Heap) (k:Nat):=FnC P w K mg base b9 k "is_word" ["word"] (Nv.oj K)
abbrev gL (P:LA) (w:LL) (K:Fg) (mg:Str->Option K_) (base:Heap) (x:Ex0.Ad) (k:Nat):=FnC P w K mg base (fU P w) k "stuffs_of" ["words"] (Nv.gQ K x.c1)
abbrev sG (P:LA) (w:LL) (K:Fg) (mg:Str->Option K_) (base:Heap) (k:Nat):=FnC P w K mg base b9 k "is_heap" ["pieces","size"] (Nv.jt K)
abbrev ig (P:LA) (w:LL) (K:Fg) (mg:Str->Option K_) (base:Heap) (k:Nat):=FnC P w K mg base b9 k "turnings_of" ["rows","size"] (Dk.nX K)
abbrev dq (P:LA) (w:LL) (K:Fg) (mg:Str->Option K_) (base:Heap) (x:Ex0.Ad) (k:Nat):=FnC P w K mg base (fU P w) k "check_turnings" ["turnings"] (Nv.oy K x.c4)
abbrev m7 (P:LA) (w:LL) (K:Fg) (mg:Str->Option K_) (base:Heap) (k:Nat):=FnC P w K mg base b9 k "heaps_of" ["turnings"] (jQ K)
abbrev Ev (P:LA) (w:LL) (K:Fg) (mg:Str->Option K_) (base:Heap) (k:Nat):=FnC P w K mg base b9 k "made" ["words","rows"] (Dk.tK K)
abbrev jc (P:LA) (w:LL) (K:Fg) (mg:Str->Option K_) (base:Heap) (k:Nat):=FnC P w K mg base b9 k "stuff_text" ["word","pieces"] Tw.n_
abbrev k8 (P:LA) (w:LL) (K:Fg) (mg:Str->Option K_) (base:Heap) (k:Nat):=FnC P w K mg base b9 k "heap_text" ["stuffs","heap"] (Tw.oo K)
abbrev kX (P:LA) (w:LL) (K:Fg) (mg:Str->Option K_) (base:Heap) (k:Nat):=FnC P w K mg base b9 k "pace_text" ["pace"] (Tw.tI K)
abbrev eE (P:LA) (w:LL) (K:Fg) (mg:Str->Option K_) (base:Heap) (k:Nat):=FnC P w K mg base b9 k "turning_text" ["stuffs","turning"] (Tw.nY K)
abbrev gk (P:LA) (w:LL) (K:Fg) (mg:Str->Option K_) (base:Heap) (k:Nat):=FnC P w K mg base b9 k "heap_guessed" ["stuffs","text"] (Tr2.oq K)
abbrev ff (P:LA) (w:LL) (K:Fg) (mg:Str->Option K_) (base:Heap) (k:Nat):=FnC P w K mg base b9 k "number_guessed" ["text"] (Tr2.vi K)
abbrev gj (P:LA) (w:LL) (K:Fg) (mg:Str->Option K_) (base:Heap) (k:Nat):=FnC P w K mg base b9 k "pace_guessed" ["text"] (Tr2.tJ K)
abbrev gi (P:LA) (w:LL) (K:Fg) (mg:Str->Option K_) (base:Heap) (k:Nat):=FnC P w K mg base b9 k "turning_read" ["stuffs","text"] (Tr2.nZ K)
abbrev ij (P:LA) (w:LL) (K:Fg) (mg:Str->Option K_) (base:Heap) (k:Nat):=FnC P w K mg base b9 k "can_be_made" ["turning","count"] (Wd.yk K)
abbrev gm (P:LA) (w:LL) (K:Fg) (mg:Str->Option K_) (base:Heap) (k:Nat):=FnC P w K mg base b9 k "count_behind" ["turning","count"] (Wd.yj K)
abbrev dH (P:LA) (w:LL) (K:Fg) (mg:Str->Option K_) (base:Heap) (k:Nat):=FnC P w K mg base b9 k "_law_cell_at" ["_law_script","_law_k"] (qp K)
abbrev gM (P:LA) (w:LL) (K:Fg) (mg:Str->Option K_) (base:Heap) (k:Nat):=FnC P w K mg base b9 k "_law_mixed" ["_law_cell","_law_many"] (oi K)
abbrev ii (P:LA) (w:LL) (K:Fg) (mg:Str->Option K_) (base:Heap) (k:Nat):=FnC P w K mg base b9 k "_law_divisor" ["_law_one","_law_other"] Bv
abbrev je (P:LA) (w:LL) (K:Fg) (mg:Str->Option K_) (base:Heap) (k:Nat):=FnC P w K mg base b9 k "_law_lowest" ["_law_top","_law_bottom"] (yf K)
abbrev mZ (P:LA) (w:LL) (K:Fg) (mg:Str->Option K_) (base:Heap) (k:Nat):=FnC P w K mg base b9 k "_law_base" ["_law_cell","_law_size"] yl
abbrev mS (P:LA) (w:LL) (K:Fg) (mg:Str->Option K_) (base:Heap) (k:Nat):=FnC P w K mg base b9 k "_law_word" ["_law_base_here","_law_place","_law_size","_law_k"] yd
abbrev kY (P:LA) (w:LL) (K:Fg) (mg:Str->Option K_) (base:Heap) (k:Nat):=FnC P w K mg base b9 k "_law_words" ["_law_script","_law_at","_law_many"] (tH K)
abbrev mW (P:LA) (w:LL) (K:Fg) (mg:Str->Option K_) (base:Heap) (k:Nat):=FnC P w K mg base b9 k "_law_heap" ["_law_number","_law_many","_law_most"] (qo K)
abbrev fO (P:LA) (w:LL) (K:Fg) (mg:Str->Option K_) (base:Heap) (k:Nat):=FnC P w K mg base b9 k "_law_heap_text" ["_law_words_here","_law_heap_here"] (Tg.fW K)
abbrev cP (P:LA) (w:LL) (K:Fg) (mg:Str->Option K_) (base:Heap) (k:Nat):=FnC P w K mg base b9 k "_law_turning_text" ["_law_words_here","_law_turning"] (Tg.js K)
abbrev sE (P:LA) (w:LL) (K:Fg) (mg:Str->Option K_) (base:Heap) (k:Nat):=FnC P w K mg base b9 k "_law_can" ["_law_turning","_law_count"] (Dk.yg K)
abbrev mT (P:LA) (w:LL) (K:Fg) (mg:Str->Option K_) (base:Heap) (k:Nat):=FnC P w K mg base b9 k "_law_step" ["_law_turning","_law_count"] (Dk.tL K)
abbrev mX (P:LA) (w:LL) (K:Fg) (mg:Str->Option K_) (base:Heap) (k:Nat):=FnC P w K mg base b9 k "_law_fits" ["_law_rows","_law_turning"] (Dk.yh K)
abbrev mU (P:LA) (w:LL) (K:Fg) (mg:Str->Option K_) (base:Heap) (k:Nat):=FnC P w K mg base b9 k "_law_pick" ["_law_rows","_law_pool","_law_xs"] (Dk.ye K)
abbrev jd (P:LA) (w:LL) (K:Fg) (mg:Str->Option K_) (base:Heap) (k:Nat):=FnC P w K mg base b9 k "_law_poured" ["_law_count","_law_place","_law_xs","_law_cell"] (Dk.og K)
abbrev fQ (P:LA) (w:LL) (K:Fg) (mg:Str->Option K_) (base:Heap) (k:Nat):=FnC P w K mg base b9 k "_law_deed_rows" ["_law_script","_law_many"] (Dk.iA K)
abbrev fg (P:LA) (w:LL) (K:Fg) (mg:Str->Option K_) (base:Heap) (dD:Addr) (k:Nat):=FnC P w K mg base b9 k "_law_texts_well" ["_law_desk","_law_words_here","_law_rows"] (Dk.dN K dD)
abbrev k7 (P:LA) (w:LL) (K:Fg) (mg:Str->Option K_) (base:Heap) (dD:Addr) (k:Nat):=FnC P w K mg base b9 k "_law_right" ["_law_desk","_law_words_here","_law_state","_law_first"] (Dk.oa K dD)
abbrev kZ (P:LA) (w:LL) (K:Fg) (mg:Str->Option K_) (base:Heap) (dD:Addr) (k:Nat):=FnC P w K mg base b9 k "_law_tried" ["_law_desk","_law_kind","_law_what","_law_pieces"] (Dk.n8 K dD)
abbrev mY (P:LA) (w:LL) (K:Fg) (mg:Str->Option K_) (base:Heap) (dD:Addr) (k:Nat):=FnC P w K mg base b9 k "_law_deed" ["_law_desk","_law_words_here","_law_state","_law_pool","_law_cell"] (Dk.yi K dD)
abbrev dW (P:LA) (w:LL) (K:Fg) (mg:Str->Option K_) (base:Heap) (dD:Addr) (k:Nat):=MtC P w K mg base b9 k dD "keep" ["self","turnings","pieces"] (Dk.iw K dD)
abbrev dU (P:LA) (w:LL) (K:Fg) (mg:Str->Option K_) (base:Heap) (x:Ex0.Ad) (dD:Addr) (k:Nat):=MtC P w K mg base (fU P w) k dD "place_of" ["self","text"] (Dk.eM K dD x)
abbrev m9 (P:LA) (w:LL) (K:Fg) (mg:Str->Option K_) (base:Heap) (x:Ex0.Ad) (dD:Addr) (k:Nat):=MtC P w K mg base (fU P w) k dD "put" ["self","text"] (Dk.yc K dD x)
abbrev k_ (P:LA) (w:LL) (K:Fg) (mg:Str->Option K_) (base:Heap) (x:Ex0.Ad) (dD:Addr) (k:Nat):=MtC P w K mg base (fU P w) k dD "take" ["self","text"] (Dk.tF K dD x)
abbrev fR (P:LA) (w:LL) (K:Fg) (mg:Str->Option K_) (base:Heap) (dD:Addr) (k:Nat):=MtC P w K mg base b9 k dD "texts" ["self"] (Dk.jr K dD)
abbrev im (P:LA) (w:LL) (K:Fg) (mg:Str->Option K_) (base:Heap) (dD:Addr) (k:Nat):=MtC P w K mg base b9 k dD "vessel" ["self"] (Dk.jP K dD)
abbrev lf (P:LA) (w:LL) (K:Fg) (mg:Str->Option K_) (base:Heap) (x:Ex0.Ad) (dD:Addr) (k:Nat):=MtC P w K mg base (fU P w) k dD "pour" ["self","word","pieces"] (Dk.tG K dD x)
abbrev k9 (P:LA) (w:LL) (K:Fg) (mg:Str->Option K_) (base:Heap) (x:Ex0.Ad) (dD:Addr) (k:Nat):=MtC P w K mg base (fU P w) k dD "turn" ["self","text"] (Dk.tE K dD x)
abbrev jf (P:LA) (w:LL) (K:Fg) (mg:Str->Option K_) (base:Heap) (dD:Addr) (k:Nat):=MtC P w K mg base b9 k dD "count" ["self"] (Dk.nV K dD)
theorem yy:aJ ["self","at"] ["self","at"] (ai (ini 10)):=by walk_at "s"
theorem FK(T:xr K mg x)  (G:Nv.Cn K mg nq) {pD:Addr} (Ww:KD P w K mg "PIECES_WRITTEN" pD Tr2.kvPW) (DK:Dk.Kl K mg dD)   (F:Fun K "__init__" "NotNow.__init__" (ini 10) f fd) (B:cR mg):FnOk P w K mg base b9 1 f fd ["self","at"] (qm K x.c7 "at"):=by
 refine F.ok yy (fun vs H Q E h=>FW h) (fun gV A outer s H vs Q E hr h=>?_);have nd:=yy.nd;have V8:=fun {M A env}=>@OW M A env
 have hu:=hr.units;have Wi:=LW (OE (by decide:1<=64) _) hu;exact⟨Wd.xP K,(af (bM (Cp rfl T.vb (ac (pv 0) (ac (Ch (PJ.cons bi (PJ.cons (j8 (pv 1)) (PJ.cons bi PJ.nil)))) ah))))
 (ao (Fu (pv 0) (pv 1) rfl))),(Wd.Fc rfl h)⟩
theorem Cu(F:bw K mg "whole" (top 14) ["value"]) (B:cR mg)  : uP P w K mg base 1 :=
 F.okN BC (fun _ _ _ _=>by walk_at "l") fun f gV A outer s H vs Q E nd hr hu Wi V8 own h=>⟨DD K,(ao (aK (dZ (aA a_ rfl B.isinstance aG (ac (pv 0) (ac (br rfl B.int mL rfl) ah))) (dY (zf (aA a_ rfl B.isinstance aG (ac (pv 0) (ac (br rfl B.bool gJ rfl) ah)))))))),(by obtain⟨i,rfl,k⟩:=h;exact BG k)⟩
theorem gC(F:bw K mg "greatest_divisor" (top 15) ["one","two"]) (B:cR mg)  : d_ P w K mg base 1 :=
 F.okN gw (fun _ _ _ _=>by walk_at "l") fun f gV A outer s H vs Q E nd hr hu Wi V8 own h=>⟨EQ,(af (vw V8 (aP ud (pv 1) aj (aO _))
 (af (aF (i:=2) nd rfl (by walk_at "o") (aN zo (pv 0) (pv 1)))
 (af (aF (i:=0) nd rfl (by walk_at "o") (pv 1))
 (ao (aF (i:=1) nd rfl (by walk_at "o") (pv 2))))))
 (ao (aK (aA wa rfl B.abs El (ac (pv 0) ah))))),(by obtain⟨a,b,rfl,k⟩:=h;exact DL a b H _ k)⟩
theorem um(F:bw K mg "fraction" (top 16) ["top","bottom"]) (B:cR mg) (Wc:d_ P w K mg base 1) (WD:uP P w K mg base 1):m8 P w K mg base 2 :=
 F.okN tX (fun _ _ _ _=>by walk_at "l") fun f gV A outer s H vs Q E nd hr hu Wi V8 own h=>⟨Tr.sY K,(af (a7 (PW.pt (pw_or (cu (bA (aw WD hr rfl (ac (pv 0) ah)))) (pw_or1 (cu (bA (aw WD hr rfl (ac (pv 1) ah)))))))
 c_
 aI)
 (af (a7 (aP cg (pv 1) aj (aO _))
 c_
 aI)
 (af (aF (i:=2) nd rfl (by walk_at "o") (aw Wc hr rfl (ac (pv 0) (ac (pv 1) ah))))
 (af (a7 (aP oU (pv 1) aj (aO _))
 (ao (aF (i:=2) nd rfl (by walk_at "o") (Fw xx (pv 2))))
 aI)
 (ao (aK (cK (ac (aN ju (pv 0) (pv 2)) (ac (aN ju (pv 1) (pv 2)) ah))))))))),(Tr.BU rfl h)⟩
theorem zr(F:bw K mg "before" (top 17) ["one","two"]) (B:cR mg)  : wc P w K mg base 1 :=
 F.okN yz (fun _ _ _ _=>by walk_at "l") fun f gV A outer s H vs Q E nd hr hu Wi V8 own h=>⟨Nv.nP K,(ao (aK (bF oU (aN zm (aQ aX (pv 0) aj (fun _ _=>rfl)) (aQ aX (pv 1) aj (fun _ _=>rfl))) (aN zm (aQ aX (pv 1) aj (fun _ _=>rfl)) (aQ aX (pv 0) aj (fun _ _=>rfl))) (aO _)))),(Nv.yO rfl h)⟩
theorem wL(G:Nv.Cn K mg nq) {pD:Addr} (Ww:KD P w K mg "PIECES_WRITTEN" pD Tr2.kvPW) (DK:Dk.Kl K mg dD) (F:bw K mg "is_word" (top 25) ["word"]) (B:cR mg)  : sF P w K mg base 1 :=
 F.okN wx (fun _ _ _ _=>by walk_at "l") fun f gV A outer s H vs Q E nd hr hu Wi V8 own h=>⟨Nv.nM K,(af (a7 (PW.pt (pw_or (cu (bA (aA a_ rfl B.isinstance aG (ac (pv 0) (ac (br rfl B.str kW rfl) ah))))) (pw_or1 (cu (oO oV oV aj (aA se rfl B.len bP (ac (pv 0) ah)) (gW rfl G.MOST_SIGNS))))))
 (ao (aK eI))
 aI)
 (ao (aK (aA (fZ rfl) rfl B.all mM (ac (iG (M:=["word"]) (by show dm (ai (top 25)) ["word"] ["word"] _ _;walk_at "c") nd rfl (DP (pv 0)) (fun _ _ _ _ _=>(oS g8 g8 bi (pv 0) bi))) ah))))),(Nv.yM rfl h)⟩
theorem qZ(T:xr K mg x)  (G:Nv.Cn K mg nq) {pD:Addr} (Ww:KD P w K mg "PIECES_WRITTEN" pD Tr2.kvPW) (DK:Dk.Kl K mg dD) (F:bw K mg "stuffs_of" (top 26) ["words"]) (B:cR mg) (WT:sF P w K mg base 1):gL P w K mg base x 2 :=
 F.okM qu (fun _ _ _ _=>by walk_at "l") fun f gV A outer s H vs Q E nd hr hu Wi V8 Xh h=>⟨Nv.nF K E x,(af (a7 (cu (oO oV oV aj (aA aM rfl B.len bP (ac (pv 0) ah)) (gW rfl G.MOST_STUFFS)))
 (ao (dB Xh rfl rfl T.n1 Mt bi))
 aI)
 (af (a7 (cu (bA (aA (fZ rfl) rfl B.all mM (ac (iG (M:=["words"]) (by show dm (ai (top 26)) ["words"] ["words"] _ _;walk_at "c") nd rfl (DQ (pv 0)) (fun _ _ _ _ _=>(aw WT hr rfl (ac (pv 0) ah)))) ah))))
 (ao (dB Xh rfl rfl T.n1 Mt bi))
 aI)
 (af (a7 (aP oU (qU (yp rfl) rfl B.len rfl B.set (pv 0)) (aA aM rfl B.len bP (ac (pv 0) ah)) (aO _))
 (ao (dB Xh rfl rfl T.n1 Mt bi))
 aI)
 (ao (aK (bc aZ rfl B.tuple bB (ac (pv 0) ah))))))),(Nv.yH rfl h)⟩
theorem wM(G:Nv.Cn K mg nq) {pD:Addr} (Ww:KD P w K mg "PIECES_WRITTEN" pD Tr2.kvPW) (DK:Dk.Kl K mg dD) (F:bw K mg "is_heap" (top 27) ["pieces","size"]) (B:cR mg) (WD:uP P w K mg base 1):sG P w K mg base 2 :=
 F.okN wy (fun _ _ _ _=>by walk_at "l") fun f gV A outer s H vs Q E nd hr hu Wi V8 own h=>⟨Nv.nN K,(af (a7 (PW.pt (pw_or (cu (bA (FA rfl B.isinstance rfl B.list rfl B.tuple (pv 0)))) (pw_or1 (aP ud (aA aM rfl B.len bP (ac (pv 0) ah)) (pv 1) (aO _)))))
 (ao (aK eI))
 aI)
 (ao (aK (aA (fZ rfl) rfl B.all mM (ac (iG (M:=["pieces","size"]) (by show dm (ai (top 27)) ["pieces","size"] ["pieces","size"] _ _;walk_at "c") nd rfl (DQ (pv 0)) (fun _ _ _ _ _=>(dZ (aw WD hr rfl (ac (pv 0) ah)) (dY (oS oV oV aj (pv 0) (gW rfl G.MOST_PIECES)))))) ah))))),(Nv.yN rfl h)⟩
theorem lK(G:Nv.Cn K mg nq) {pD:Addr} (Ww:KD P w K mg "PIECES_WRITTEN" pD Tr2.kvPW) (DK:Dk.Kl K mg dD) (F:bw K mg "turnings_of" (top 28) ["rows","size"]) (B:cR mg) (W8:wc P w K mg base 2) (WH:sG P w K mg base 2):ig P w K mg base 3 :=
 F.okN lB (fun _ _ _ _=>by walk_at "l") fun f gV A outer s H vs Q E nd hr hu Wi V8 own h=>⟨Dk.nA K nq,(af (cS V8 rfl (gT (pv 0)) (a5 (i:=2) nd rfl (by walk_at "o"))
 (ao (a7 (PW.pt (pw_or (cu (bA (aw WH hr rfl (ac (aQ aX (pv 2) aj (fun _ _=>rfl)) (ac (pv 1) ah))))) (pw_or1 (cu (bA (aw WH hr rfl (ac (aQ aX (pv 2) aj (fun _ _=>rfl)) (ac (pv 1) ah))))))))
 c_
 aI)))
 (af (cS V8 rfl (gT (pv 0)) (a5 (i:=2) nd rfl (by walk_at "o"))
 (ao (a7 (cu (bA (aw W8 hr rfl (ac (zi rfl G.NOUGHT rfl) (ac (aQ aX (pv 2) aj (fun _ _=>rfl)) ah)))))
 c_
 aI)))
 (ao (aK (bc aZ rfl B.tuple bB (ac (iG (M:=["rows","size","#row"]) (by show dm (ai (top 28)) ["rows","size","row"] ["rows","size","#row"] _ _;walk_at "c") nd rfl (gT (pv 0)) (fun _ _ _ _ _=>(cK (ac (bc aZ rfl B.tuple bB (ac (aQ aX (pv 0) aj (fun _ _=>rfl)) ah)) (ac (bc aZ rfl B.tuple bB (ac (aQ aX (pv 0) aj (fun _ _=>rfl)) ah)) (ac (bc aZ rfl B.tuple bB (ac (aQ aX (pv 0) aj (fun _ _=>rfl)) ah)) ah)))))) ah)))))),(Dk.yF G rfl h)⟩
theorem iN(T:xr K mg x)  (G:Nv.Cn K mg nq) {pD:Addr} (Ww:KD P w K mg "PIECES_WRITTEN" pD Tr2.kvPW) (DK:Dk.Kl K mg dD) (F:bw K mg "check_turnings" (top 29) ["turnings"]) (B:cR mg) (WK:m7 P w K mg base 1):dq P w K mg base x 2 :=
 F.okM iE (fun _ _ _ _=>by walk_at "l") fun f gV A outer s H vs Q E nd hr hu Wi V8 Xh h=>⟨Nv.tu K E x,(af (a7 (cu (oO oV oV aj (aA aM rfl B.len bP (ac (pv 0) ah)) (gW rfl G.MOST_TURNINGS)))
 (ao (dB Xh rfl rfl T.n4 Mt bi))
 aI)
 (af (a7 (bA (aA (Dl rfl) rfl B.any IR (ac (iG (M:=["turnings"]) (by show dm (ai (top 29)) ["turnings"] ["turnings"] _ _;walk_at "c") nd rfl (gT (pv 0)) (fun _ _ _ _ _=>(bF (qY hu) (aQ aX (pv 0) aj (fun _ _=>rfl)) (aQ aX (pv 0) aj (fun _ _=>rfl)) (aO _)))) ah)))
 (ao (dB Xh rfl rfl T.n4 Mt bi))
 aI)
 (af (a7 (aP oU (qU (tM rfl hu) rfl B.len rfl B.set (iG (M:=["turnings"]) (by show dm (ai (top 29)) ["turnings"] ["turnings"] _ _;walk_at "c") nd rfl (gT (pv 0)) (fun _ _ _ _ _=>(cf i6 (pv 0) eB (cj aj))))) (aA aM rfl B.len bP (ac (pv 0) ah)) (aO _))
 (ao (dB Xh rfl rfl T.n4 Mt bi))
 aI)
 (ao (a7 (aP wJ (aA aM rfl B.len bP (ac (aw WK hr rfl (ac (pv 0) ah)) ah)) (gW rfl G.MOST_HEAPS) (aO _))
 (ao (dB Xh rfl rfl T.n4 Mt bi))
 aI))))),(Nv.BY rfl h)⟩
theorem ul(F:bw K mg "heaps_of" (top 30) ["turnings"]) (B:cR mg)  : m7 P w K mg base 1 :=
 F.okN tW (fun _ _ _ _=>by walk_at "l") fun f gV A outer s H vs Q E nd hr hu Wi V8 own h=>⟨jH K,(af (aF (i:=1) nd rfl (by walk_at "o") Cj)
 (af (cS V8 rfl (gT (pv 0)) (a5 (i:=2) nd rfl (by walk_at "o"))
 (af (ub Wi (pv 1) (aQ aX (pv 2) aj (fun _ _=>rfl)) eI rfl)
 (ao (ub Wi (pv 1) (aQ aX (pv 2) aj (fun _ _=>rfl)) eI rfl))))
 (ao (aK (bc (xc rfl) rfl B.list eW (ac (pv 1) ah)))))),(wC rfl h)⟩
theorem FJ(T:xr K mg x) (F:bw K mg "made" (top 31) ["words","rows"]) (B:cR mg) (Wf:gL P w K mg base x 3) (Wz:ig P w K mg base 3) (xn:dq P w K mg base x 3):Ev P w K mg base 4 :=
 F.okN EZ (fun _ _ _ _=>by walk_at "l") fun f gV A outer s H vs Q E nd hr hu Wi V8 own h=>⟨Dk.sU K x,(af (aF (i:=2) nd rfl (by walk_at "o") (gX Wf hr rfl FD (ac (pv 0) ah)))
 (af (aF (i:=3) nd rfl (by walk_at "o") (aw Wz hr rfl (ac (pv 1) (ac (aA aM rfl B.len bP (ac (pv 2) ah)) ah))))
 (af (bM (gX xn hr rfl FD (ac (pv 3) ah)))
 (ao (aK (cK (ac (pv 2) (ac (pv 3) ah)))))))),(Dk.BP rfl h)⟩
theorem oX(F:bw K mg "stuff_text" (top 34) ["word","pieces"]) (B:cR mg)  : jc P w K mg base 1 :=
 F.okN oF (fun _ _ _ _=>by walk_at "l") fun f gV A outer s H vs Q E nd hr hu Wi V8 own h=>⟨Tw.nG K,(af (a7 (aP cg (pv 1) aj (aO _))
 (ao (aK (pv 0)))
 aI)
 (ao (aK (Ch (PJ.cons (j8 (pv 1)) (PJ.cons bi (PJ.cons (oR (pv 0)) PJ.nil))))))),(Tw.yI rfl h)⟩
theorem rk(F:bw K mg "heap_text" (top 35) ["stuffs","heap"]) (B:cR mg) (WC:jc P w K mg base 1):k8 P w K mg base 2 :=
 F.okN qB (fun _ _ _ _=>by walk_at "l") fun f gV A outer s H vs Q E nd hr hu Wi V8 own h=>⟨Tw.sW K,(af (yZ (i:=2) ["word","pieces"] ["stuffs","heap","parts"] nd rfl rfl (by show dm (ai (top 35)) ["stuffs","heap","parts"] ["stuffs","heap","parts"] _ _;walk_at "c") rfl (zd (k1:=.T) (k2:=.T) rfl B.zip (ac (pv 0) (ac (pv 1) ah))) (fun _ _ _ _ _=>(j7 rfl (bU (a5 (i:=0) (show(["word","pieces","stuffs","heap","parts"]:List Str).Nodup by decide +kernel) rfl (by walk_at "o")) (bU (a5 (i:=1) (show(["word","pieces","stuffs","heap","parts"]:List Str).Nodup by decide +kernel) rfl (by walk_at "o")) gA)))) (fun _ _ _ _ _=>(aP wJ (pv 1) aj (aO _))) (fun _ _ _ _ _=>(aw WC hr rfl (ac (pv 0) (ac (pv 1) ah)))))
 (af (a7 (aP cg (aA aM rfl B.len bP (ac (pv 2) ah)) aj (aO _))
 (ao (aK bi))
 aI)
 (ao (aK (fo MZ SU SV zw bi (ac (pv 2) ah)))))),(Tw.BR rfl h)⟩
theorem q_(F:bw K mg "pace_text" (top 36) ["pace"]) (B:cR mg)  : kX P w K mg base 1 :=
 F.okN qw (fun _ _ _ _=>by walk_at "l") fun f gV A outer s H vs Q E nd hr hu Wi V8 own h=>⟨Tw.sR K,(af (aF (i:=1) nd rfl (by walk_at "o") (aQ aX (pv 0) aj (fun _ _=>rfl)))
 (af (aF (i:=2) nd rfl (by walk_at "o") (aQ aX (pv 0) aj (fun _ _=>rfl)))
 (af (a7 (aP cg (pv 2) aj (aO _))
 (ao (aK (Hu (j8 (pv 1)))))
 aI)
 (ao (aK (Ch (PJ.cons (j8 (pv 1)) (PJ.cons bi (PJ.cons (j8 (pv 2)) PJ.nil))))))))),(Tw.BM rfl h)⟩
theorem kf(F:bw K mg "turning_text" (top 37) ["stuffs","turning"]) (B:cR mg) (Wt:k8 P w K mg base 2) (WG:kX P w K mg base 2):eE P w K mg base 3 :=
 F.okN jV (fun _ _ _ _=>by walk_at "l") fun f gV A outer s H vs Q E nd hr hu Wi V8 own h=>⟨Tw.sM K,(af (aF (i:=2) nd rfl (by walk_at "o") (aw Wt hr rfl (ac (pv 0) (ac (aQ aX (pv 1) aj (fun _ _=>rfl)) ah))))
 (af (aF (i:=3) nd rfl (by walk_at "o") (aw Wt hr rfl (ac (pv 0) (ac (aQ aX (pv 1) aj (fun _ _=>rfl)) ah))))
 (af (aF (i:=4) nd rfl (by walk_at "o") (aw WG hr rfl (ac (aQ aX (pv 1) aj (fun _ _=>rfl)) ah)))
 (ao (aK (Ch (PJ.cons (oR (pv 2)) (PJ.cons bi (PJ.cons (oR (pv 3)) (PJ.cons bi (PJ.cons (oR (pv 4)) PJ.nil))))))))))),(Tw.BH rfl h)⟩
theorem kj(G:Nv.Cn K mg nq) {pD:Addr} (Ww:KD P w K mg "PIECES_WRITTEN" pD Tr2.kvPW) (DK:Dk.Kl K mg dD) (F:bw K mg "heap_guessed" (top 38) ["stuffs","text"]) (B:cR mg)  : gk P w K mg base 1 :=
 F.okN jY (fun _ _ _ _=>by walk_at "l") fun f gV A outer s H vs Q E nd hr hu Wi V8 own h=>⟨Tr2.sX K,(af (aF (i:=2) nd rfl (by walk_at "o") Ck)
 (af (cS V8 rfl (eP (fo MZ OR PySem.F.type_str_split CC (pv 1) (ac bi ah))) (a5 (i:=3) nd rfl (by walk_at "o"))
 (af (aF (i:=4) nd rfl (by walk_at "o") (fo MZ QW PySem.F.type_str_rpartition o_ (pv 3) (ac bi ah)))
 (ao (ub Wi (pv 2) (aQ aX (pv 4) aj (fun _ _=>rfl)) (Fz rfl Ww (aQ aX (pv 4) aj (fun _ _=>rfl)) aj ⟨rfl,rfl,rfl,rfl⟩) rfl))))
 (ao (aK (bc aZ rfl B.tuple bB (ac (iG (M:=["stuffs","text","pieces","part","cut"]) (by show dm (ai (top 38)) ["stuffs","text","pieces","part","cut"] ["stuffs","text","pieces","part","cut"] _ _;walk_at "c") nd rfl (gT (pv 0)) (fun _ _ _ _ _=>(Co Wi (pv 3) (pv 0) aj ⟨rfl,rfl,rfl,rfl⟩))) ah)))))),(Tr2.BS rfl h)⟩
theorem iL(F:bw K mg "number_guessed" (top 39) ["text"]) (B:cR mg)  : ff P w K mg base 1 :=
 F.okN iC (fun _ _ _ _=>by walk_at "l") fun f gV A outer s H vs Q E nd hr hu Wi V8 own h=>⟨Tr2.xL K,(af (a7 (PW.pt (pw_or (aP cg (pv 0) bi (aO _)) (pw_or1 (cu (bA (aA (fZ rfl) rfl B.all mM (ac (iG (M:=["text"]) (by show dm (ai (top 39)) ["text"] ["text"] _ _;walk_at "c") nd rfl (DP (pv 0)) (fun _ _ _ _ _=>(oS g8 g8 bi (pv 0) bi))) ah)))))))
 (ao (aK aj))
 aI)
 (ao (aK (bc AR rfl B.int mL (ac (pv 0) ah))))),(Tr2.E8 rfl h)⟩
theorem kh(F:bw K mg "pace_guessed" (top 40) ["text"]) (B:cR mg) (Wa:ff P w K mg base 2) (WJ:m8 P w K mg base 2):gj P w K mg base 3 :=
 F.okN jX (fun _ _ _ _=>by walk_at "l") fun f gV A outer s H vs Q E nd hr hu Wi V8 own h=>⟨Tr2.sS K,(af (aF (i:=1) nd rfl (by walk_at "o") (fo MZ Oc Pe fA (pv 0) (ac bi ah)))
 (af (aF (i:=2) nd rfl (by walk_at "o") (aw Wa hr rfl (ac (aQ aX (pv 1) aj (fun _ _=>rfl)) ah)))
 (af (aF (i:=3) nd rfl (by walk_at "o") (Ci (aP cg (aQ aX (pv 1) aj (fun _ _=>rfl)) bi (aO _)) aj (aw Wa hr rfl (ac (aQ aX (pv 1) aj (fun _ _=>rfl)) ah))))
 (af (a7 (PW.pt (pw_or (aP cg (pv 2) aj (aO _)) (pw_or1 (aP cg (pv 3) aj (aO _)))))
 (ao (aK gU))
 aI)
 (ao (aK (aw WJ hr rfl (ac (pv 2) (ac (pv 3) ah))))))))),(Tr2.BN rfl h)⟩
theorem kg(F:bw K mg "turning_read" (top 41) ["stuffs","text"]) (B:cR mg) (Wr:gj P w K mg base 3) (Wg:gk P w K mg base 3) (xy:eE P w K mg base 3):gi P w K mg base 4 :=
 F.okN jW (fun _ _ _ _=>by walk_at "l") fun f gV A outer s H vs Q E nd hr hu Wi V8 own h=>⟨Tr2.nB K,(af (aF (i:=2) nd rfl (by walk_at "o") (fo MZ Oc Pe fA (pv 1) (ac bi ah)))
 (af (aF (i:=3) nd rfl (by walk_at "o") (fo MZ Oc Pe fA (aQ aX (pv 2) aj (fun _ _=>rfl)) (ac bi ah)))
 (af (aF (i:=4) nd rfl (by walk_at "o") (aw Wr hr rfl (ac (aQ aX (pv 3) aj (fun _ _=>rfl)) ah)))
 (af (a7 (aP ma (pv 4) gU (aO _))
 (ao (aK gU))
 aI)
 (af (aF (i:=5) nd rfl (by walk_at "o") (cK (ac (aw Wg hr rfl (ac (pv 0) (ac (aQ aX (pv 2) aj (fun _ _=>rfl)) ah))) (ac (aw Wg hr rfl (ac (pv 0) (ac (aQ aX (pv 3) aj (fun _ _=>rfl)) ah))) (ac (pv 4) ah)))))
 (af (a7 (aP ud (aw xy hr rfl (ac (pv 0) (ac (pv 5) ah))) (pv 1) (aO _))
 (ao (aK gU))
 aI)
 (ao (aK (pv 5))))))))),(Tr2.yG rfl h)⟩
theorem lO(F:bw K mg "can_be_made" (top 43) ["turning","count"]) (B:cR mg)  : ij P w K mg base 1 :=
 F.okN lF (fun _ _ _ _=>by walk_at "l") fun f gV A outer s H vs Q E nd hr hu Wi V8 own h=>⟨Wd.xW K,(ao (aK (aA (fZ rfl) rfl B.all mM (ac (zg ["taken","pieces"] ["turning","count"] (by show dm (ai (top 43)) ["turning","count"] ["turning","count"] _ _;walk_at "c") rfl (zd (k1:=.T) (k2:=.T) rfl B.zip (ac (aQ aX (pv 0) aj (fun _ _=>rfl)) (ac (pv 1) ah))) (fun _ _ _ _ _=>(j7 rfl (bU (a5 (i:=0) (show(["taken","pieces","turning","count"]:List Str).Nodup by decide +kernel) rfl (by walk_at "o")) (bU (a5 (i:=1) (show(["taken","pieces","turning","count"]:List Str).Nodup by decide +kernel) rfl (by walk_at "o")) gA)))) (fun _ _ _ _ _=>(bF oV (pv 0) (pv 1) (aO _)))) ah)))),(Wd.Fj rfl h)⟩
theorem km(F:bw K mg "count_behind" (top 44) ["turning","count"]) (B:cR mg)  : gm P w K mg base 1 :=
 F.okN jZ (fun _ _ _ _=>by walk_at "l") fun f gV A outer s H vs Q E nd hr hu Wi V8 own h=>⟨Wd.xU K,(ao (aK (bc aZ rfl B.tuple bB (ac (zg ["pieces","taken","put"] ["turning","count"] (by show dm (ai (top 44)) ["turning","count"] ["turning","count"] _ _;walk_at "c") rfl (Fv rfl B.zip (ac (pv 1) (ac (aQ aX (pv 0) aj (fun _ _=>rfl)) (ac (aQ aX (pv 0) aj (fun _ _=>rfl)) ah)))) (fun _ _ _ _ _=>(j7 rfl (bU (a5 (i:=0) (show(["pieces","taken","put","turning","count"]:List Str).Nodup by decide +kernel) rfl (by walk_at "o")) (bU (a5 (i:=1) (show(["pieces","taken","put","turning","count"]:List Str).Nodup by decide +kernel) rfl (by walk_at "o")) (bU (a5 (i:=2) (show(["pieces","taken","put","turning","count"]:List Str).Nodup by decide +kernel) rfl (by walk_at "o")) gA))))) (fun _ _ _ _ _=>(aN bO (aN vE (pv 0) (pv 1)) (pv 2)))) ah)))),(Wd.Fh rfl h)⟩
theorem lN(F:bw K mg "_law_cell_at" (top 48) ["_law_script","_law_k"]) (B:cR mg)  : dH P w K mg base 1 :=
 F.okN lD (fun _ _ _ _=>by walk_at "l") fun f gV A outer s H vs Q E nd hr hu Wi V8 own h=>⟨G7 K,(af (a7 (aP oU (pv 1) (aA aM rfl B.len bP (ac (pv 0) ah)) (aO _))
 (ao (aK (aQ aT (pv 0) (pv 1) (fun _ _=>rfl))))
 aI)
 (ao (aK aj))),(by obtain⟨a,ns,k,rfl,hS,h0,q⟩:=h;exact Fi hS h0 q)⟩
theorem rj(F:bw K mg "_law_mixed" (top 49) ["_law_cell","_law_many"]) (B:cR mg)  : gM P w K mg base 1 :=
 F.okN qA (fun _ _ _ _=>by walk_at "l") fun f gV A outer s H vs Q E nd hr hu Wi V8 own h=>⟨sT K,(af (aF (i:=2) nd rfl (by walk_at "o") (b5 ah))
 (af (aF (i:=3) nd rfl (by walk_at "o") (aN fy (pv 0) aj))
 (af (a7 (aP cg (aN bu (pv 0) aj) aj (aO _))
 (af (cS V8 rfl (b_ rfl B.range (ac (pv 1) ah)) (a5 (i:=4) nd rfl (by walk_at "o"))
 (af (bM (fo L5 My Mz ca (pv 2) (ac (aN bu (pv 3) aj) ah)))
 (ao (aF (i:=3) nd rfl (by walk_at "o") (aN fy (pv 3) aj)))))
 (ao (aK (pv 2))))
 aI)
 (af (aF (i:=3) nd rfl (by walk_at "o") (aN bu (aN bO (aN kc (aN bu (pv 3) aj) aj) aj) aj))
 (af (cS V8 rfl (b_ rfl B.range (ac (pv 1) ah)) (a5 (i:=4) nd rfl (by walk_at "o"))
 (af (aF (i:=3) nd rfl (by walk_at "o") (aN bu (aN bO (aN bO (aN bO (aN kc (pv 3) (pv 3)) (aN kc aj (pv 3))) (pv 4)) aj) aj))
 (ao (bM (fo L5 My Mz ca (pv 2) (ac (pv 3) ah))))))
 (ao (aK (pv 2)))))))),(BO rfl h)⟩
theorem lM(F:bw K mg "_law_divisor" (top 50) ["_law_one","_law_other"]) (B:cR mg)  : ii P w K mg base 1 :=
 F.okN lC (fun _ _ _ _=>by walk_at "l") fun f gV A outer s H vs Q E nd hr hu Wi V8 own h=>⟨EQ,(af (vw V8 (aP ud (pv 1) aj (aO _))
 (af (aF (i:=2) nd rfl (by walk_at "o") (aN zo (pv 0) (pv 1)))
 (af (aF (i:=0) nd rfl (by walk_at "o") (pv 1))
 (ao (aF (i:=1) nd rfl (by walk_at "o") (pv 2))))))
 (ao (aK (aA wa rfl B.abs El (ac (pv 0) ah))))),(by obtain⟨a,b,rfl,k⟩:=h;exact DL a b H _ k)⟩
theorem oZ(F:bw K mg "_law_lowest" (top 51) ["_law_top","_law_bottom"]) (B:cR mg) (Wy:ii P w K mg base 1):je P w K mg base 2 :=
 F.okN oH (fun _ _ _ _=>by walk_at "l") fun f gV A outer s H vs Q E nd hr hu Wi V8 own h=>⟨EM,(af (a7 (aP oU (pv 1) aj (aO _))
 c_
 aI)
 (af (a7 (aP cg (pv 1) aj (aO _))
 (ao (aF (i:=1) nd rfl (by walk_at "o") aj))
 aI)
 (af (aF (i:=2) nd rfl (by walk_at "o") (aw Wy hr rfl (ac (pv 0) (ac (pv 1) ah))))
 (ao (aK (cK (ac (aN ju (pv 0) (pv 2)) (ac (aN ju (pv 1) (pv 2)) ah)))))))),(E9 rfl h)⟩
theorem uk(F:bw K mg "_law_base" (top 52) ["_law_cell","_law_size"]) (B:cR mg)  : mZ P w K mg base 1 :=
 F.okN tU (fun _ _ _ _=>by walk_at "l") fun f gV A outer s H vs Q E nd hr hu Wi V8 own h=>⟨xX K,(af (aF (i:=2) nd rfl (by walk_at "o") (aN bu (aN bO (aN kc (aN bu (pv 0) aj) aj) aj) aj))
 (af (aF (i:=3) nd rfl (by walk_at "o") bi)
 (af (cS V8 rfl (b_ rfl B.range (ac (pv 1) ah)) (a5 (i:=4) nd rfl (by walk_at "o"))
 (af (aF (i:=2) nd rfl (by walk_at "o") (aN bu (aN bO (aN bO (aN bO (aN kc (pv 2) (pv 2)) (aN kc aj (pv 2))) (pv 4)) aj) aj))
 (ao (aF (i:=3) nd rfl (by walk_at "o") (aN bN (pv 3) (aQ vJ bi (aN bu (pv 2) aj) (fun _ _=>rfl)))))))
 (ao (aK (pv 3)))))),(Fl rfl h)⟩
theorem ue(F:bw K mg "_law_word" (top 53) ["_law_base_here","_law_place","_law_size","_law_k"]) (B:cR mg)  : mS P w K mg base 1 :=
 F.okN tO (fun _ _ _ _=>by walk_at "l") fun f gV A outer s H vs Q E nd hr hu Wi V8 own h=>⟨xE K,(af (aF (i:=4) nd rfl (by walk_at "o") bi)
 (af (aF (i:=5) nd rfl (by walk_at "o") (aQ vJ (pv 4) (aN bu (aN bO (fo MZ PySem.F.slot_str_find PySem.F.type_str_find FT (pv 4) (ac (aQ vJ (pv 0) (pv 1) (fun _ _=>rfl)) ah)) (aN kc aj (pv 3))) aj) (fun _ _=>rfl)))
 (ao (aK (aN bN (aN bN (cf ym (pv 0) eB (cj (pv 1))) (pv 5)) (cf ym (pv 0) (cj (aN bO (pv 1) aj)) (cj (pv 2)))))))),(E2 rfl h)⟩
theorem rf(F:bw K mg "_law_words" (top 54) ["_law_script","_law_at","_law_many"]) (B:cR mg) (wp:dH P w K mg base 1) (WL:mZ P w K mg base 1) (WQ:mS P w K mg base 1):kY P w K mg base 2 :=
 F.okN qx (fun _ _ _ _=>by walk_at "l") fun f gV A outer s H vs Q E nd hr hu Wi V8 own h=>⟨sL K,(af (aF (i:=3) nd rfl (by walk_at "o") (aw wp hr rfl (ac (pv 0) (ac (pv 1) ah))))
 (af (aF (i:=4) nd rfl (by walk_at "o") (aN bO aj (aN bu (pv 3) aj)))
 (af (aF (i:=5) nd rfl (by walk_at "o") (aw WL hr rfl (ac (aw wp hr rfl (ac (pv 0) (ac (aN bO (pv 1) aj) ah))) (ac aj ah))))
 (af (aF (i:=6) nd rfl (by walk_at "o") (b5 ah))
 (af (cS V8 rfl (b_ rfl B.range (ac (pv 2) ah)) (a5 (i:=7) nd rfl (by walk_at "o"))
 (af (aF (i:=8) nd rfl (by walk_at "o") (aw WQ hr rfl (ac (pv 5) (ac (aN bu (aN fy (pv 3) aj) (pv 4)) (ac (pv 4) (ac (pv 7) ah))))))
 (af (a7 (aP cg (aN bu (aN fy (pv 3) aj) aj) aj (aO _))
 (ao (aF (i:=8) nd rfl (by walk_at "o") (cf ym (pv 5) eB (cj (aN bO (pv 7) aj)))))
 aI)
 (ao (bM (fo L5 My Mz ca (pv 6) (ac (pv 8) ah)))))))
 (ao (aK (pv 6)))))))),(BF rfl h)⟩
theorem uh(F:bw K mg "_law_heap" (top 55) ["_law_number","_law_many","_law_most"]) (B:cR mg)  : mW P w K mg base 1 :=
 F.okN tR (fun _ _ _ _=>by walk_at "l") fun f gV A outer s H vs Q E nd hr hu Wi V8 own h=>⟨xQ K,(af (aF (i:=3) nd rfl (by walk_at "o") (b5 ah))
 (af (cS V8 rfl (b_ rfl B.range (ac (pv 1) ah)) (a5 (i:=4) nd rfl (by walk_at "o"))
 (af (bM (fo L5 My Mz ca (pv 3) (ac (aN bu (pv 0) (aN bO (pv 2) aj)) ah)))
 (ao (aF (i:=0) nd rfl (by walk_at "o") (aN fy (pv 0) (aN bO (pv 2) aj))))))
 (ao (aK (bc aZ rfl B.tuple bB (ac (pv 3) ah)))))),(Fd rfl h)⟩
theorem Cw(F:bw K mg "_law_same" (top 56) ["_law_found","_law_due"]) (B:cR mg):FnC P w K mg base b9 1 "_law_same" ["_law_found","_law_due"] (eG K 0):=by
 refine F.ok eN (fun vs H Q E h=>rK h) (fun f gV A outer s H vs Q E hr h=>?_);have nd:=eN.nd;have V8:=fun {M A env}=>@OW M A env
 have hu:=hr.units;exact⟨sP K,(af (a7 (PW.pt (pw_or (bA (aA a_ rfl B.isinstance aG (ac (pv 1) (ac (br rfl B.tuple bB rfl) ah)))) (pw_or1 (bA (aA a_ rfl B.isinstance aG (ac (pv 1) (ac (br rfl B.list eW rfl) ah)))))))
 c_
 aI)
 (af (a7 (bA (aA a_ rfl B.isinstance aG (ac (pv 1) (ac (br rfl B.bool gJ rfl) ah))))
 (ao (aK (dZ (aA a_ rfl B.isinstance aG (ac (pv 0) (ac (br rfl B.bool gJ rfl) ah))) (dY (bF cg (pv 0) (pv 1) (aO _))))))
 aI)
 (af (a7 (bA (aA a_ rfl B.isinstance aG (ac (pv 1) (ac (br rfl B.int mL rfl) ah))))
 (ao (aK (dZ (aA a_ rfl B.isinstance aG (ac (pv 0) (ac (br rfl B.int mL rfl) ah))) (dZ (zf (aA a_ rfl B.isinstance aG (ac (pv 0) (ac (br rfl B.bool gJ rfl) ah)))) (dY (bF cg (pv 0) (pv 1) (aO _)))))))
 aI)
 (af (a7 (bA (aA a_ rfl B.isinstance aG (ac (pv 1) (ac (br rfl B.str kW rfl) ah))))
 (ao (aK (dZ (aA a_ rfl B.isinstance aG (ac (pv 0) (ac (br rfl B.str kW rfl) ah))) (dY (bF cg (pv 0) (pv 1) (aO _))))))
 aI)
 (ao (aK (dZ (bF ma (pv 1) gU (aO _)) (dY (bF ma (pv 0) gU (aO _)))))))))),(BK rfl h)⟩
theorem Cv{m:Nat} (F:bw K mg "_law_same" (top 56) ["_law_found","_law_due"]) (B:cR mg) (V7:FnC P w K mg base b9 (m+1) "_law_same" ["_law_found","_law_due"] (eG K m)):FnC P w K mg base b9 (m+2) "_law_same" ["_law_found","_law_due"] (eG K (m+1)):=by
 refine F.ok eN (fun vs H Q E h=>rK h) (fun f gV A outer s H vs Q E hr h=>?_);have nd:=eN.nd;have V8:=fun {M A env}=>@OW M A env
 have hu:=hr.units;exact⟨xH K m,(af (a7 (PW.pt (pw_or (bA (aA a_ rfl B.isinstance aG (ac (pv 1) (ac (br rfl B.tuple bB rfl) ah)))) (pw_or1 (bA (aA a_ rfl B.isinstance aG (ac (pv 1) (ac (br rfl B.list eW rfl) ah)))))))
 (af (a7 (PW.pt (pw_or (aP ud (aA a_ rfl B.isinstance aG (ac (pv 0) (ac (br rfl B.tuple bB rfl) ah))) (aA a_ rfl B.isinstance aG (ac (pv 1) (ac (br rfl B.tuple bB rfl) ah))) (aO _)) (pw_or1 (aP ud (aA a_ rfl B.isinstance aG (ac (pv 0) (ac (br rfl B.list eW rfl) ah))) (aA a_ rfl B.isinstance aG (ac (pv 1) (ac (br rfl B.list eW rfl) ah))) (aO _)))))
 (ao (aK eI))
 aI)
 (af (a7 (aP ud (aA aM rfl B.len bP (ac (pv 0) ah)) (aA aM rfl B.len bP (ac (pv 1) ah)) (aO _))
 (ao (aK eI))
 aI)
 (af (cS V8 rfl (b_ rfl B.range (ac (aA aM rfl B.len bP (ac (pv 1) ah)) ah)) (a5 (i:=2) nd rfl (by walk_at "o"))
 (ao (a7 (cu (bA (aw V7 hr rfl (ac (aQ Ed (pv 0) (pv 2) (fun _ _=>rfl)) (ac (aQ Ed (pv 1) (pv 2) (fun _ _=>rfl)) ah)))))
 (ao (aK eI))
 aI)))
 (ao (aK eI)))))
 aI)
 (af (a7 (bA (aA a_ rfl B.isinstance aG (ac (pv 1) (ac (br rfl B.bool gJ rfl) ah))))
 (ao (aK (dZ (aA a_ rfl B.isinstance aG (ac (pv 0) (ac (br rfl B.bool gJ rfl) ah))) (dY (bF cg (pv 0) (pv 1) (aO _))))))
 aI)
 (af (a7 (bA (aA a_ rfl B.isinstance aG (ac (pv 1) (ac (br rfl B.int mL rfl) ah))))
 (ao (aK (dZ (aA a_ rfl B.isinstance aG (ac (pv 0) (ac (br rfl B.int mL rfl) ah))) (dZ (zf (aA a_ rfl B.isinstance aG (ac (pv 0) (ac (br rfl B.bool gJ rfl) ah)))) (dY (bF cg (pv 0) (pv 1) (aO _)))))))
 aI)
 (af (a7 (bA (aA a_ rfl B.isinstance aG (ac (pv 1) (ac (br rfl B.str kW rfl) ah))))
 (ao (aK (dZ (aA a_ rfl B.isinstance aG (ac (pv 0) (ac (br rfl B.str kW rfl) ah))) (dY (bF cg (pv 0) (pv 1) (aO _))))))
 aI)
 (ao (aK (dZ (bF ma (pv 1) gU (aO _)) (dY (bF ma (pv 0) gU (aO _)))))))))),(E5 rfl h)⟩
theorem zq(F:bw K mg "_law_same" (top 56) ["_law_found","_law_due"]) (B:cR mg):∀m:Nat,FnC P w K mg base b9 (m+1) "_law_same" ["_law_found","_law_due"] (eG K m)
 |0=>Cw F B
 |m+1=>Cv F B (zq F B m)
theorem jl(F:bw K mg "_law_heap_text" (top 57) ["_law_words_here","_law_heap_here"]) (B:cR mg)  : fO P w K mg base 1 :=
 F.okN jh (fun _ _ _ _=>by walk_at "l") fun f gV A outer s H vs Q E nd hr hu Wi V8 own h=>⟨Tg.jG K,(af (aF (i:=2) nd rfl (by walk_at "o") (b5 ah))
 (af (cS V8 rfl (b_ rfl B.range (ac (aA aM rfl B.len bP (ac (pv 0) ah)) ah)) (a5 (i:=3) nd rfl (by walk_at "o"))
 (ao (a7 (aP wJ (aQ aX (pv 1) (pv 3) (fun _ _=>rfl)) aj (aO _))
 (ao (bM (fo L5 My Mz ca (pv 2) (ac (aQ aT (b5 (ac bi (ac (aQ aT (pv 0) (pv 3) (fun _ _=>rfl)) (ac (aN bN bi (aQ aT (pv 0) (pv 3) (fun _ _=>rfl))) (ac (aN bN bi (aQ aT (pv 0) (pv 3) (fun _ _=>rfl))) ah))))) (aQ aX (pv 1) (pv 3) (fun _ _=>rfl)) (fun _ _=>rfl)) ah))))
 aI)))
 (af (a7 (aP (qY hu) (pv 2) (b5 ah) (aO _))
 (ao (aK bi))
 aI)
 (ao (aK (fo MZ SU SV zw bi (ac (pv 2) ah))))))),(Tg.wB rfl h)⟩
theorem gB(F:bw K mg "_law_turning_text" (top 58) ["_law_words_here","_law_turning"]) (B:cR mg) (Wb:fO P w K mg base 1):cP P w K mg base 2 :=
 F.okN gv (fun _ _ _ _=>by walk_at "l") fun f gV A outer s H vs Q E nd hr hu Wi V8 own h=>⟨Tg.jF K,(af (aF (i:=2) nd rfl (by walk_at "o") (bc r_ rfl B.str kW (ac (aQ aX (aQ aX (pv 1) aj (fun _ _=>rfl)) aj (fun _ _=>rfl)) ah)))
 (af (a7 (aP wJ (aQ aX (aQ aX (pv 1) aj (fun _ _=>rfl)) aj (fun _ _=>rfl)) aj (aO _))
 (ao (aF (i:=2) nd rfl (by walk_at "o") (aN bN (aN bN (pv 2) bi) (bc r_ rfl B.str kW (ac (aQ aX (aQ aX (pv 1) aj (fun _ _=>rfl)) aj (fun _ _=>rfl)) ah)))))
 aI)
 (af (aF (i:=3) nd rfl (by walk_at "o") (aN bN (aN bN (aw Wb hr rfl (ac (pv 0) (ac (aQ aX (pv 1) aj (fun _ _=>rfl)) ah))) bi) (aw Wb hr rfl (ac (pv 0) (ac (aQ aX (pv 1) aj (fun _ _=>rfl)) ah)))))
 (ao (aK (aN bN (aN bN (pv 3) bi) (pv 2))))))),(Tg.wA rfl h)⟩
theorem wK(F:bw K mg "_law_can" (top 59) ["_law_turning","_law_count"]) (B:cR mg)  : sE P w K mg base 1 :=
 F.okN ww (fun _ _ _ _=>by walk_at "l") fun f gV A outer s H vs Q E nd hr hu Wi V8 own h=>⟨Dk.xM K,(ao (aK (aA (fZ rfl) rfl B.all mM (ac (zg ["_law_here","_law_wanted"] ["_law_turning","_law_count"] (by show dm (ai (top 59)) ["_law_turning","_law_count"] ["_law_turning","_law_count"] _ _;walk_at "c") rfl (zd (k1:=.T) (k2:=.T) rfl B.zip (ac (pv 1) (ac (aQ aX (pv 0) aj (fun _ _=>rfl)) ah))) (fun _ _ _ _ _=>(j7 rfl (bU (a5 (i:=0) (show(["_law_here","_law_wanted","_law_turning","_law_count"]:List Str).Nodup by decide +kernel) rfl (by walk_at "o")) (bU (a5 (i:=1) (show(["_law_here","_law_wanted","_law_turning","_law_count"]:List Str).Nodup by decide +kernel) rfl (by walk_at "o")) gA)))) (fun _ _ _ _ _=>(bF HA (pv 0) (pv 1) (aO _)))) ah)))),(Dk.E_ rfl h)⟩
theorem uf(F:bw K mg "_law_step" (top 60) ["_law_turning","_law_count"]) (B:cR mg)  : mT P w K mg base 1 :=
 F.okN tP (fun _ _ _ _=>by walk_at "l") fun f gV A outer s H vs Q E nd hr hu Wi V8 own h=>⟨Dk.sV K,(af (aF (i:=2) nd rfl (by walk_at "o") (b5 ah))
 (af (cS V8 rfl (b_ rfl B.range (ac (aA aM rfl B.len bP (ac (pv 1) ah)) ah)) (a5 (i:=3) nd rfl (by walk_at "o"))
 (ao (bM (fo L5 My Mz ca (pv 2) (ac (aN bO (aN vE (aQ aX (pv 1) (pv 3) (fun _ _=>rfl)) (aQ aX (aQ aX (pv 0) aj (fun _ _=>rfl)) (pv 3) (fun _ _=>rfl))) (aQ aX (aQ aX (pv 0) aj (fun _ _=>rfl)) (pv 3) (fun _ _=>rfl))) ah)))))
 (ao (aK (bc aZ rfl B.tuple bB (ac (pv 2) ah)))))),(Dk.BQ rfl h)⟩
theorem ui(F:bw K mg "_law_fits" (top 61) ["_law_rows","_law_turning"]) (B:cR mg)  : mX P w K mg base 1 :=
 F.okN tS (fun _ _ _ _=>by walk_at "l") fun f gV A outer s H vs Q E nd hr hu Wi V8 own h=>⟨Dk.xR K,(af (a7 (PW.pt (pw_or (aP (qY hu) (aQ aX (pv 1) aj (fun _ _=>rfl)) (aQ aX (pv 1) aj (fun _ _=>rfl)) (aO _)) (pw_or1 (aP wJ (aA aM rfl B.len bP (ac (pv 0) ah)) aj (aO _)))))
 (ao (aK eI))
 aI)
 (af (aF (i:=2) nd rfl (by walk_at "o") (b5 ah))
 (af (cS V8 rfl (eP (aN zp (pv 0) (b5 (ac (pv 1) ah)))) (a5 (i:=3) nd rfl (by walk_at "o"))
 (ao (cS V8 rfl (gT (cf i6 (pv 3) eB (cj aj))) (a5 (i:=4) nd rfl (by walk_at "o"))
 (ao (a7 (aP (qX hu) (pv 4) (pv 2) (by with_unfolding_all rfl))
 (ao (bM (fo L5 My Mz ca (pv 2) (ac (pv 4) ah))))
 aI)))))
 (af (yZ (i:=5) ["_law_row"] ["_law_rows","_law_turning","_law_unlike","#_law_row","_law_heap_here","_law_same_here"] nd rfl rfl (by show dm (ai (top 61)) ["_law_rows","_law_turning","_law_unlike","_law_row","_law_heap_here","_law_same_here"] ["_law_rows","_law_turning","_law_unlike","#_law_row","_law_heap_here","_law_same_here"] _ _;walk_at "c") rfl (eP (pv 0)) (fun _ _ _ _ _=>(a5 (i:=0) (show(["_law_row","_law_rows","_law_turning","_law_unlike","#_law_row","_law_heap_here","_law_same_here"]:List Str).Nodup by decide +kernel) rfl (by walk_at "o"))) (fun _ _ _ _ _=>(aP (qY hu) (cf i6 (pv 0) eB (cj aj)) (cf i6 (pv 2) eB (cj aj)) (aO _))) (fun _ _ _ _ _=>(pv 0)))
 (ao (aK (dZ (bF oU (aA aM rfl B.len bP (ac (pv 2) ah)) aj (aO _)) (dY (bF (qY hu) (pv 5) (b5 ah) (aO _)))))))))),(Dk.Fe rfl h)⟩
theorem ug(F:bw K mg "_law_pick" (top 62) ["_law_rows","_law_pool","_law_xs"]) (B:cR mg)  : mU P w K mg base 1 :=
 F.okN tQ (fun _ _ _ _=>by walk_at "l") fun f gV A outer s H vs Q E nd hr hu Wi V8 own h=>⟨Dk.xJ K,(af (a7 (PW.pt (pw_and (aP oU (aN bu (aQ aT (pv 2) aj (fun _ _=>rfl)) aj) aj (aO _)) (pw_and1 (aP (zl hu) (pv 0) (b5 ah) (aO _)))))
 (ao (aK (aQ aT (pv 0) (aN bu (aQ aT (pv 2) aj (fun _ _=>rfl)) (aA aM rfl B.len bP (ac (pv 0) ah))) (fun _ _=>rfl))))
 aI)
 (ao (aK (aQ aT (pv 1) (aN bu (aQ aT (pv 2) aj (fun _ _=>rfl)) (aA aM rfl B.len bP (ac (pv 1) ah))) (fun _ _=>rfl))))),(Dk.E7 rfl h)⟩
theorem oY(F:bw K mg "_law_poured" (top 63) ["_law_count","_law_place","_law_xs","_law_cell"]) (B:cR mg)  : jd P w K mg base 1 :=
 F.okN oG (fun _ _ _ _=>by walk_at "l") fun f gV A outer s H vs Q E nd hr hu Wi V8 own h=>⟨Dk.nL K,(af (a7 (aP cg (aN bu (aQ aT (pv 2) aj (fun _ _=>rfl)) aj) aj (aO _))
 (ao (aK (aN vE aj (aQ aX (pv 0) (pv 1) (fun _ _=>rfl)))))
 aI)
 (af (a7 (aP cg (aN bu (aQ aT (pv 2) aj (fun _ _=>rfl)) aj) aj (aO _))
 (ao (aK (aN vE aj (aN bu (aQ aT (pv 2) aj (fun _ _=>rfl)) aj))))
 aI)
 (ao (aK (aQ aT (b5 (ac (aN bu (aQ aT (pv 2) aj (fun _ _=>rfl)) aj) (ac (aN bO aj (aN bu (aQ aT (pv 2) aj (fun _ _=>rfl)) aj)) (ac (aN bu (pv 3) (aN Hy aj aj)) ah)))) (aN bu (aN fy (aQ aT (pv 2) aj (fun _ _=>rfl)) aj) aj) (fun _ _=>rfl)))))),(Dk.yL rfl h)⟩
theorem jm(F:bw K mg "_law_deed_rows" (top 64) ["_law_script","_law_many"]) (B:cR mg) (We:gM P w K mg base 2) (Wp:mW P w K mg base 2) (wp:dH P w K mg base 2) (WA:je P w K mg base 2):fQ P w K mg base 3 :=
 F.okN ji (fun _ _ _ _=>by walk_at "l") fun f gV A outer s H vs Q E nd hr hu Wi V8 own h=>⟨Dk.iq K,(af (aF (i:=2) nd rfl (by walk_at "o") (b5 ah))
 (af (cS V8 rfl (eP (aN zp (cf yn (pv 0) (cj aj) (cj aj)) (b5 (ac (aw wp hr rfl (ac (pv 0) (ac aj ah))) ah)))) (a5 (i:=3) nd rfl (by walk_at "o"))
 (af (aF (i:=4) nd rfl (by walk_at "o") (aw We hr rfl (ac (pv 3) (ac aj ah))))
 (af (aF (i:=5) nd rfl (by walk_at "o") (aN bO aj (aN bu (aQ aT (pv 4) aj (fun _ _=>rfl)) aj)))
 (af (aF (i:=6) nd rfl (by walk_at "o") (aw Wp hr rfl (ac (aQ aT (pv 4) aj (fun _ _=>rfl)) (ac (pv 1) (ac (pv 5) ah)))))
 (af (aF (i:=7) nd rfl (by walk_at "o") (aw Wp hr rfl (ac (aQ aT (pv 4) aj (fun _ _=>rfl)) (ac (pv 1) (ac (pv 5) ah)))))
 (af (a7 (aP cg (aN bu (aQ aT (pv 4) aj (fun _ _=>rfl)) aj) aj (aO _))
 (ao (aF (i:=7) nd rfl (by walk_at "o") (aw Wp hr rfl (ac aj (ac (pv 1) (ac aj ah))))))
 aI)
 (af (a7 (PW.pt (pw_and (aP cg (aN bu (aQ aT (pv 4) aj (fun _ _=>rfl)) aj) aj (aO _)) (pw_and1 (aP wJ (aA aM rfl B.len bP (ac (pv 2) ah)) aj (aO _)))))
 (ao (aF (i:=6) nd rfl (by walk_at "o") (aQ aX (aQ aT (pv 2) (aN bu (aQ aT (pv 4) aj (fun _ _=>rfl)) (aA aM rfl B.len bP (ac (pv 2) ah))) (fun _ _=>rfl)) aj (fun _ _=>rfl))))
 aI)
 (ao (bM (fo L5 My Mz ca (pv 2) (ac (cK (ac (pv 6) (ac (pv 7) (ac (aw WA hr rfl (ac (aN bO aj (aN bu (aQ aT (pv 4) aj (fun _ _=>rfl)) aj)) (ac (aN bO aj (aN bu (aQ aT (pv 4) aj (fun _ _=>rfl)) aj)) ah))) ah)))) ah)))))))))))
 (ao (aK (pv 2))))),(Dk.t7 rfl h)⟩
theorem iM(G:Nv.Cn K mg nq) {pD:Addr} (Ww:KD P w K mg "PIECES_WRITTEN" pD Tr2.kvPW) (DK:Dk.Kl K mg dD) (F:bw K mg "_law_texts_well" (top 65) ["_law_desk","_law_words_here","_law_rows"]) (B:cR mg) (V7:FnC P w K mg base b9 5 "_law_same" ["_law_found","_law_due"] (eG K 4)) (xa:cP P w K mg base 5) (WI:fR P w K mg base dD 5):fg P w K mg base dD 6 :=
 F.okN iD (fun _ _ _ _=>by walk_at "l") fun f gV A outer s H vs Q E nd hr hu Wi V8 own h=>⟨Dk.gn K dD,(af (cS V8 rfl (b_ rfl B.range (ac aj ah)) (a5 (i:=3) nd rfl (by walk_at "o"))
 (af (aF (i:=4) nd rfl (by walk_at "o") (oQ (pv 0) DK.cl WI hr lJ))
 (af (a7 (cu (bA (aw V7 hr rfl (ac (pv 4) (ac (iG (M:=["_law_desk","_law_words_here","_law_rows","_law_k","_law_found"]) (by show dm (ai (top 65)) ["_law_desk","_law_words_here","_law_rows","_law_k","_law_found"] ["_law_desk","_law_words_here","_law_rows","_law_k","_law_found"] _ _;walk_at "c") nd rfl (eP (pv 2)) (fun _ _ _ _ _=>(aw xa hr rfl (ac (pv 2) (ac (pv 0) ah))))) ah)))))
 (ao (aK eI))
 aI)
 (ao (bM (vC L5 P5 P6 pb (pv 4)))))))
 (ao (aK eI))),(Dk.qJ rfl h)⟩
theorem rh(G:Nv.Cn K mg nq) {pD:Addr} (Ww:KD P w K mg "PIECES_WRITTEN" pD Tr2.kvPW) (DK:Dk.Kl K mg dD) (F:bw K mg "_law_right" (top 66) ["_law_desk","_law_words_here","_law_state","_law_first"]) (B:cR mg) (V7:FnC P w K mg base b9 6 "_law_same" ["_law_found","_law_due"] (eG K 4)) (V_:fg P w K mg base dD 6) (Xi:jf P w K mg base dD 6) (Xa:im P w K mg base dD 6):k7 P w K mg base dD 7 :=
 F.okN qz (fun _ _ _ _=>by walk_at "l") fun f gV A outer s H vs Q E nd hr hu Wi V8 own h=>⟨Dk.sQ K dD,(af (qR (pv 2) (j7 rfl (bU (a5 (i:=4) nd rfl (by walk_at "o")) (bU (a5 (i:=5) nd rfl (by walk_at "o")) gA))))
 (af (a7 (PW.pt (pw_and (bA (pv 3)) (pw_and1 (cu (bA (aw V_ hr rfl (ac (pv 0) (ac (pv 1) (ac (pv 4) ah)))))))))
 (ao (aK eI))
 aI)
 (af (aF (i:=6) nd rfl (by walk_at "o") (oQ (pv 0) DK.cl Xi hr lJ))
 (af (a7 (cu (bA (aw V7 hr rfl (ac (pv 6) (ac (iG (M:=["_law_desk","_law_words_here","_law_state","_law_first","_law_rows","_law_count","_law_found"]) (by show dm (ai (top 66)) ["_law_desk","_law_words_here","_law_state","_law_first","_law_rows","_law_count","_law_found"] ["_law_desk","_law_words_here","_law_state","_law_first","_law_rows","_law_count","_law_found"] _ _;walk_at "c") nd rfl (b_ rfl B.range (ac (aA aM rfl B.len bP (ac (pv 1) ah)) ah)) (fun _ _ _ _ _=>(cK (ac (aQ aT (pv 2) (pv 0) (fun _ _=>rfl)) (ac (aQ aX (pv 6) (pv 0) (fun _ _=>rfl)) ah))))) ah)))))
 (ao (aK eI))
 aI)
 (af (bM (vC L5 P5 P6 pb (pv 6)))
 (af (a7 (PW.pt (pw_and (aP (zl hu) (pv 4) (b5 ah) (aO _)) (pw_and1 (cu (bA (aw V7 hr rfl (ac (oQ (pv 0) DK.cl Xa hr lJ) (ac (cK (ac (bc aZ rfl B.tuple bB (ac (pv 1) ah)) (ac (bc aZ rfl B.tuple bB (ac (pv 4) ah)) ah))) ah))))))))
 (ao (aK eI))
 aI)
 (ao (aK (Hr (pv 3) (dY (aw V_ hr rfl (ac (pv 0) (ac (pv 1) (ac (pv 4) ah)))))))))))))),(Dk.BL rfl h)⟩
theorem rg(T:xr K mg x)  (G:Nv.Cn K mg nq) {pD:Addr} (Ww:KD P w K mg "PIECES_WRITTEN" pD Tr2.kvPW) (DK:Dk.Kl K mg dD) (F:bw K mg "_law_tried" (top 67) ["_law_desk","_law_kind","_law_what","_law_pieces"]) (B:cR mg) (X2:m9 P w K mg base x dD 6) (Xw:k_ P w K mg base x dD 6) (Xx:k9 P w K mg base x dD 6) (Xv:lf P w K mg base x dD 6):kZ P w K mg base dD 7 :=
 F.okN qy (fun _ _ _ _=>by walk_at "l") fun f gV A outer s H vs Q E nd hr hu Wi V8 own h=>⟨Dk.ip K dD x,(af (aF (i:=4) nd rfl (by walk_at "o") eI)
 (af (Ft own rfl T.v (EE (aP cg (pv 1) aj (aO _))
 (nv (pv 0) DK.cl X2 hr (ac (pv 2) ah))
 (EE (aP cg (pv 1) aj (aO _))
 (nv (pv 0) DK.cl Xw hr (ac (pv 2) ah))
 (EE (aP cg (pv 1) aj (aO _))
 (nv (pv 0) DK.cl Xx hr (ac (pv 2) ah))
 (nv (pv 0) DK.cl Xv hr (ac (pv 2) (ac (pv 3) ah)))))) (fun _=>(ao (aF (i:=4) nd rfl (by walk_at "o") eI))))
 (ao (aK (pv 4))))),(Dk.BI ⟨T.s4,T.s5,T.s7,T.s12,T.h7,T.f7⟩ rfl h)⟩
theorem uj(F:bw K mg "_law_deed" (top 68) ["_law_desk","_law_words_here","_law_state","_law_pool","_law_cell"]) (B:cR mg) (We:gM P w K mg base 7) (WO:mU P w K mg base 7) (Wv:kZ P w K mg base dD 7) (WB:jd P w K mg base 7) (WN:mX P w K mg base 7) (xa:cP P w K mg base 7) (WP:mT P w K mg base 7) (WU:sE P w K mg base 7):mY P w K mg base dD 8 :=
 F.okN tT (fun _ _ _ _=>by walk_at "l") fun f gV A outer s H vs Q E nd hr hu Wi V8 own h=>⟨Dk.xT K dD,(af (aF (i:=5) nd rfl (by walk_at "o") (aw We hr rfl (ac (pv 4) (ac aj ah))))
 (af (qR (pv 2) (j7 rfl (bU (a5 (i:=6) nd rfl (by walk_at "o")) (bU (a5 (i:=7) nd rfl (by walk_at "o")) gA))))
 (af (aF (i:=8) nd rfl (by walk_at "o") (aQ aT (b5 (ac aj (ac aj (ac aj (ac aj (ac aj (ac aj ah))))))) (aN bu (aQ aT (pv 5) aj (fun _ _=>rfl)) aj) (fun _ _=>rfl)))
 (af (a7 (aP cg (pv 8) aj (aO _))
 (af (aF (i:=9) nd rfl (by walk_at "o") (aN bu (aQ aT (pv 5) aj (fun _ _=>rfl)) (aA aM rfl B.len bP (ac (pv 1) ah))))
 (af (aF (i:=10) nd rfl (by walk_at "o") (aw WB hr rfl (ac (pv 7) (ac (pv 9) (ac (pv 5) (ac (pv 4) ah))))))
 (af (aF (i:=11) nd rfl (by walk_at "o") (bF HA (aN bO (aQ aX (pv 7) (pv 9) (fun _ _=>rfl)) (pv 10)) aj (aO _)))
 (af (a7 (bA (pv 11))
 (ao (aF (i:=7) nd rfl (by walk_at "o") (aN oW (aN oW (cf i6 (pv 7) eB (cj (pv 9))) (cK (ac (aN bO (aQ aX (pv 7) (pv 9) (fun _ _=>rfl)) (pv 10)) ah))) (cf i6 (pv 7) (cj (aN bO (pv 9) aj)) eB))))
 aI)
 (ao (aK (cK (ac (bF cg (aw Wv hr rfl (ac (pv 0) (ac aj (ac (aQ aT (pv 1) (pv 9) (fun _ _=>rfl)) (ac (pv 10) ah))))) (pv 11) (aO _)) (ac (cK (ac (pv 6) (ac (pv 7) ah))) ah)))))))))
 aI)
 (af (aF (i:=12) nd rfl (by walk_at "o") (aw WO hr rfl (ac (pv 6) (ac (pv 3) (ac (pv 5) ah)))))
 (af (a7 (aP cg (pv 8) aj (aO _))
 (af (aF (i:=12) nd rfl (by walk_at "o") (aQ aT (pv 3) (aN bu (aQ aT (pv 5) aj (fun _ _=>rfl)) (aA aM rfl B.len bP (ac (pv 3) ah))) (fun _ _=>rfl)))
 (ao (aF (i:=11) nd rfl (by walk_at "o") (aw WN hr rfl (ac (pv 6) (ac (pv 12) ah))))))
 (ao (aF (i:=11) nd rfl (by walk_at "o") (dZ (bF (Hz hu) (pv 12) (pv 6) (by with_unfolding_all rfl)) (dY (Hr (bF cg (pv 8) aj (aO _)) (dY (aw WU hr rfl (ac (pv 12) (ac (pv 7) ah))))))))))
 (af (aF (i:=13) nd rfl (by walk_at "o") (aw Wv hr rfl (ac (pv 0) (ac (pv 8) (ac (aw xa hr rfl (ac (pv 1) (ac (pv 12) ah))) (ac aj ah))))))
 (af (a7 (PW.pt (pw_and (bA (pv 11)) (pw_and1 (aP cg (pv 8) aj (aO _)))))
 (ao (aF (i:=6) nd rfl (by walk_at "o") (aN zp (pv 6) (b5 (ac (pv 12) ah)))))
 aI)
 (af (a7 (PW.pt (pw_and (bA (pv 11)) (pw_and1 (aP cg (pv 8) aj (aO _)))))
 (ao (yZ (i:=6) ["_law_row"] ["_law_desk","_law_words_here","_law_state","_law_pool","_law_cell","_law_xs","_law_rows","_law_count","_law_kind","_law_place","_law_pieces","_law_due","_law_turning","_law_done"] nd rfl rfl (by show dm (ai (top 68)) ["_law_desk","_law_words_here","_law_state","_law_pool","_law_cell","_law_xs","_law_rows","_law_count","_law_kind","_law_place","_law_pieces","_law_due","_law_turning","_law_done"] ["_law_desk","_law_words_here","_law_state","_law_pool","_law_cell","_law_xs","_law_rows","_law_count","_law_kind","_law_place","_law_pieces","_law_due","_law_turning","_law_done"] _ _;walk_at "c") rfl (eP (pv 6)) (fun _ _ _ _ _=>(a5 (i:=0) (show(["_law_row","_law_desk","_law_words_here","_law_state","_law_pool","_law_cell","_law_xs","_law_rows","_law_count","_law_kind","_law_place","_law_pieces","_law_due","_law_turning","_law_done"]:List Str).Nodup by decide +kernel) rfl (by walk_at "o"))) (fun _ _ _ _ _=>(aP (zl hu) (pv 0) (pv 13) (aO _))) (fun _ _ _ _ _=>(pv 0))))
 aI)
 (af (a7 (PW.pt (pw_and (bA (pv 11)) (pw_and1 (aP cg (pv 8) aj (aO _)))))
 (ao (aF (i:=7) nd rfl (by walk_at "o") (aw WP hr rfl (ac (pv 12) (ac (pv 7) ah)))))
 aI)
 (ao (aK (cK (ac (bF cg (pv 13) (pv 11) (aO _)) (ac (cK (ac (pv 6) (ac (pv 7) ah))) ah))))))))))))))),(Dk.Ff rfl h)⟩
theorem jo(T:xr K mg x)  (G:Nv.Cn K mg nq) {pD:Addr} (Ww:KD P w K mg "PIECES_WRITTEN" pD Tr2.kvPW) (DK:Dk.Kl K mg dD) (F:gK K dD "__init__" "Desk.__init__" (met 46 0) ["self","words"]) (B:cR mg) (Wf:gL P w K mg base x 2):MtC P w K mg base b9 3 dD "__init__" ["self","words"] (Dk.dM K dD) :=
 F.okN jk (fun _ _ _ _=>by walk_at "l") fun f gV A outer s H vs Q E nd hr hu Wi V8 own h=>⟨Dk.xO K x,(af (lZ (pv 0) (gX Wf hr rfl FD (ac (pv 1) ah)) rfl)
 (af (lZ (pv 0) (cK ah) rfl)
 (af (lZ (pv 0) (aN FG (cK (ac aj ah)) (aA aM rfl B.len bP (ac (b6 (pv 0) rfl) ah))) rfl)
 (ao (lZ (pv 0) (b5 ah) rfl))))),(Dk.Fb DK rfl h)⟩
theorem rB(G:Nv.Cn K mg nq) {pD:Addr} (Ww:KD P w K mg "PIECES_WRITTEN" pD Tr2.kvPW) (DK:Dk.Kl K mg dD) (F:gK K dD "keep" "Desk.keep" (met 46 1) ["self","turnings","pieces"]) (B:cR mg)  : dW P w K mg base dD 1 :=
 F.okN qF (fun _ _ _ _=>by walk_at "l") fun f gV A outer s H vs Q E nd hr hu Wi V8 own h=>⟨Dk.xN K,(af (bM (fo L5 My Mz ca (b6 (pv 0) rfl) (ac (cK (ac (b6 (pv 0) rfl) (ac (b6 (pv 0) rfl) ah))) ah)))
 (af (lZ (pv 0) (pv 1) rfl)
 (ao (lZ (pv 0) (pv 2) rfl)))),(Dk.Fa DK rfl h)⟩
theorem jn(T:xr K mg x)  (G:Nv.Cn K mg nq) {pD:Addr} (Ww:KD P w K mg "PIECES_WRITTEN" pD Tr2.kvPW) (DK:Dk.Kl K mg dD) (F:gK K dD "place_of" "Desk.place_of" (met 46 2) ["self","text"]) (B:cR mg) (WI:fR P w K mg base dD 4):dU P w K mg base x dD 5 :=
 F.okM jj (fun _ _ _ _=>by walk_at "l") fun f gV A outer s H vs Q E nd hr hu Wi V8 Xh h=>⟨Dk.jE K dD E x,(af (aF (i:=2) nd rfl (by walk_at "o") (oQ (pv 0) DK.cl WI hr lJ))
 (af (a7 (aP (qX hu) (pv 1) (pv 2) (by with_unfolding_all rfl))
 (ao (dB Xh rfl rfl T.n5 Mt bi))
 aI)
 (ao (aK (fo L5 PySem.F.slot_list_index PySem.F.type_list_index (CD hu) (pv 2) (ac (pv 1) ah)))))),(Dk.wz DK rfl h)⟩
theorem uo(T:xr K mg x)  (G:Nv.Cn K mg nq) {pD:Addr} (Ww:KD P w K mg "PIECES_WRITTEN" pD Tr2.kvPW) (DK:Dk.Kl K mg dD) (F:gK K dD "put" "Desk.put" (met 46 3) ["self","text"]) (B:cR mg) (Ws:gi P w K mg base 4) (xn:dq P w K mg base x 4) (Wl:dW P w K mg base dD 4):m9 P w K mg base x dD 5 :=
 F.okM tY (fun _ _ _ _=>by walk_at "l") fun f gV A outer s H vs Q E nd hr hu Wi V8 Xh h=>⟨Dk.EH K dD E x,(af (aF (i:=2) nd rfl (by walk_at "o") (aw Ws hr rfl (ac (b6 (pv 0) rfl) (ac (pv 1) ah))))
 (af (a7 (aP ma (pv 2) gU (aO _))
 c_
 aI)
 (af (aF (i:=3) nd rfl (by walk_at "o") (aN oW (b6 (pv 0) rfl) (cK (ac (pv 2) ah))))
 (af (bM (gX xn hr rfl Xh.pass (ac (pv 3) ah)))
 (ao (bM (l_ (pv 0) DK.cl Wl hr lJ (ac (pv 3) (ac (b6 (pv 0) rfl) ah))))))))),(Dk.He DK rfl h)⟩
theorem rn(T:xr K mg x)  (G:Nv.Cn K mg nq) {pD:Addr} (Ww:KD P w K mg "PIECES_WRITTEN" pD Tr2.kvPW) (DK:Dk.Kl K mg dD) (F:gK K dD "take" "Desk.take" (met 46 4) ["self","text"]) (B:cR mg) (Wj:dU P w K mg base x dD 5) (Wl:dW P w K mg base dD 5):k_ P w K mg base x dD 6 :=
 F.okM qD (fun _ _ _ _=>by walk_at "l") fun f gV A outer s H vs Q E nd hr hu Wi V8 Xh h=>⟨Dk.xG K dD E x,(af (aF (i:=2) nd rfl (by walk_at "o") (l_ (pv 0) DK.cl Wj hr Xh.pass (ac (pv 1) ah)))
 (ao (bM (l_ (pv 0) DK.cl Wl hr lJ (ac (aN oW (cf i6 (b6 (pv 0) rfl) eB (cj (pv 2))) (cf i6 (b6 (pv 0) rfl) (cj (aN bO (pv 2) aj)) eB)) (ac (b6 (pv 0) rfl) ah)))))),(Dk.E4 DK rfl h)⟩
theorem o0(G:Nv.Cn K mg nq) {pD:Addr} (Ww:KD P w K mg "PIECES_WRITTEN" pD Tr2.kvPW) (DK:Dk.Kl K mg dD) (F:gK K dD "texts" "Desk.texts" (met 46 5) ["self"]) (B:cR mg) (xy:eE P w K mg base 3):fR P w K mg base dD 4 :=
 F.okN oJ (fun _ _ _ _=>by walk_at "l") fun f gV A outer s H vs Q E nd hr hu Wi V8 own h=>⟨Dk.sN K,(ao (aK (iG (M:=["self"]) (by show dm (ai (met 46 5)) ["self"] ["self"] _ _;walk_at "c") nd rfl (gT (b6 (pv 0) rfl)) (fun _ _ _ _ _=>(aw xy hr rfl (ac (b6 (pv 1) rfl) (ac (pv 0) ah))))))),(Dk.BJ DK rfl h)⟩
theorem lP(G:Nv.Cn K mg nq) {pD:Addr} (Ww:KD P w K mg "PIECES_WRITTEN" pD Tr2.kvPW) (DK:Dk.Kl K mg dD) (F:gK K dD "vessel" "Desk.vessel" (met 46 6) ["self"]) (B:cR mg) (Xq:Ev P w K mg base 4):im P w K mg base dD 5 :=
 F.okN lG (fun _ _ _ _=>by walk_at "l") fun f gV A outer s H vs Q E nd hr hu Wi V8 own h=>⟨Dk.ny K,(ao (aK (aw Xq hr rfl (ac (b6 (pv 0) rfl) (ac (b6 (pv 0) rfl) ah))))),(Dk.yE DK rfl h)⟩
theorem rA(T:xr K mg x)  (G:Nv.Cn K mg nq) {pD:Addr} (Ww:KD P w K mg "PIECES_WRITTEN" pD Tr2.kvPW) (DK:Dk.Kl K mg dD) (F:gK K dD "pour" "Desk.pour" (met 46 7) ["self","word","pieces"]) (B:cR mg) (Wl:dW P w K mg base dD 1):lf P w K mg base x dD 2 :=
 F.okM qE (fun _ _ _ _=>by walk_at "l") fun f gV A outer s H vs Q E nd hr hu Wi V8 Xh h=>⟨Dk.xI K dD E x,(af (a7 (aP (zj hu) (pv 1) (b6 (pv 0) rfl) (by with_unfolding_all rfl))
 c_
 aI)
 (af (aF (i:=3) nd rfl (by walk_at "o") (Hv PySem.F.slot_tuple_index PySem.F.type_tuple_index (zx hu) (b6 (pv 0) rfl) (ac (pv 1) ah)))
 (af (aF (i:=4) nd rfl (by walk_at "o") (bc jb rfl B.list eW (ac (b6 (pv 0) rfl) ah)))
 (af (qR (aN bO (aQ aT (pv 4) (pv 3) (fun _ _=>rfl)) (pv 2)) (DR (pv 4) (pv 3) qt))
 (af (a7 (aP oU (aQ aT (pv 4) (pv 3) (fun _ _=>rfl)) aj (aO _))
 (ao (dB Xh rfl rfl T.n12 Mt bi))
 aI)
 (ao (bM (l_ (pv 0) DK.cl Wl hr lJ (ac (b6 (pv 0) rfl) (ac (bc aZ rfl B.tuple bB (ac (pv 4) ah)) ah)))))))))),(Dk.E6 DK rfl h)⟩
theorem rm(T:xr K mg x)  (G:Nv.Cn K mg nq) {pD:Addr} (Ww:KD P w K mg "PIECES_WRITTEN" pD Tr2.kvPW) (DK:Dk.Kl K mg dD) (F:gK K dD "turn" "Desk.turn" (met 46 8) ["self","text"]) (B:cR mg) (Wx:ij P w K mg base 5) (Wo:gm P w K mg base 5) (Wl:dW P w K mg base dD 5) (Wj:dU P w K mg base x dD 5) (W_:GN P w K mg base 1 "NotNow" x.c7 (qm K x.c7 "at")):k9 P w K mg base x dD 6 :=
 F.okM qC (fun _ _ _ _=>by walk_at "l") fun f gV A outer s H vs Q E nd hr hu Wi V8 Xh h=>⟨Dk.xF K dD E x,(af (aF (i:=2) nd rfl (by walk_at "o") (aQ aX (b6 (pv 0) rfl) (l_ (pv 0) DK.cl Wj hr Xh.pass (ac (pv 1) ah)) (fun _ _=>rfl)))
 (af (a7 (cu (bA (aw Wx hr rfl (ac (pv 2) (ac (b6 (pv 0) rfl) ah)))))
 (ao (yY Xh rfl rfl W_ (hr.mono (by decide)) aj))
 aI)
 (ao (bM (l_ (pv 0) DK.cl Wl hr lJ (ac (b6 (pv 0) rfl) (ac (aw Wo hr rfl (ac (pv 2) (ac (b6 (pv 0) rfl) ah))) ah))))))),(Dk.E3 DK rfl h)⟩
theorem o4(G:Nv.Cn K mg nq) {pD:Addr} (Ww:KD P w K mg "PIECES_WRITTEN" pD Tr2.kvPW) (DK:Dk.Kl K mg dD) (F:gK K dD "count" "Desk.count" (met 46 9) ["self"]) (B:cR mg)  : jf P w K mg base dD 1 :=
 F.okN oK (fun _ _ _ _=>by walk_at "l") fun f gV A outer s H vs Q E nd hr hu Wi V8 own h=>⟨Dk.tq K,(ao (aK (wI rfl rfl B.list rfl B.zip (ac (b6 (pv 0) rfl) (ac (b6 (pv 0) rfl) ah))))),(Dk.BW DK rfl h)⟩
theorem HC(G:Nv.Cn K mg nq) {pD:Addr} (Ww:KD P w K mg "PIECES_WRITTEN" pD Tr2.kvPW) (DK:Dk.Kl K mg dD)   (F:Fun K "law" "law" (top 69) f fd) (B:cR mg) (WF:kY P w K mg base 8) (Wk:fQ P w K mg base 8) (WM:mY P w K mg base dD 8) (Wu:k7 P w K mg base dD 8) (wp:dH P w K mg base 8) (WE:MkC P w K mg base b9 7 dD ["self","words"] (Dk.dM K dD)):FnOk P w K mg base b9 9 f fd ["_law_script"] (spLaw K):=by
 refine F.ok DI (fun vs H Q E h=>?_) (fun gV A outer s H vs Q E hr h=>?_)
 ·obtain⟨a,ns,rfl,_⟩:=h;rfl
 have nd:=DI.nd;have V8:=fun {M A env}=>@OW M A env
 exact⟨Dk.EI K dD,(af (aF (i:=1) nd rfl (by walk_at "o") (aw WF hr rfl (ac (pv 0) (ac aj (ac (aN bO aj (aN bu (aw wp hr rfl (ac (pv 0) (ac aj ah))) aj)) ah)))))
 (af (aF (i:=2) nd rfl (by walk_at "o") (b5 (ac (pv 1) (ac (ze (pv 1) (Fw xx aj)) ah))))
 (af (aF (i:=3) nd rfl (by walk_at "o") (b5 (ac (bc jb rfl B.list eW (ac (pv 1) ah)) (ac (ze (pv 1) (Fw xx aj)) ah))))
 (af (aF (i:=4) nd rfl (by walk_at "o") (b5 (ac (DS WE hr rfl DK.mD (ac (aQ aT (pv 3) aj (fun _ _=>rfl)) ah)) (ac (DS WE hr rfl DK.mD (ac (aQ aT (pv 3) aj (fun _ _=>rfl)) ah)) ah))))
 (af (bM (vC L5 PySem.F.slot_list_reverse PySem.F.type_list_reverse wO (aQ aT (pv 3) aj (fun _ _=>rfl))))
 (af (bM (vC L5 P5 P6 pb (aQ aT (pv 3) aj (fun _ _=>rfl))))
 (af (aF (i:=5) nd rfl (by walk_at "o") (aw Wk hr rfl (ac (pv 0) (ac (aA aM rfl B.len bP (ac (pv 1) ah)) ah))))
 (af (aF (i:=6) nd rfl (by walk_at "o") (b5 (ac (cK (ac (b5 ah) (ac (bc aZ rfl B.tuple bB (ac (iG (M:=["_law_script","_law_words_here","_law_rolls","_law_handed","_law_desks","_law_pool","_law_states","_law_cell","_law_j","_law_good","_law_state"]) (by show dm (ai (top 69)) ["_law_script","_law_words_here","_law_rolls","_law_handed","_law_desks","_law_pool","_law_states","_law_cell","_law_j","_law_good","_law_state"] ["_law_script","_law_words_here","_law_rolls","_law_handed","_law_desks","_law_pool","_law_states","_law_cell","_law_j","_law_good","_law_state"] _ _;walk_at "c") nd rfl (eP (pv 1)) (fun _ _ _ _ _=>aj)) ah)) ah))) (ac (cK (ac (b5 ah) (ac (bc aZ rfl B.tuple bB (ac (iG (M:=["_law_script","_law_words_here","_law_rolls","_law_handed","_law_desks","_law_pool","_law_states","_law_cell","_law_j","_law_good","_law_state"]) (by show dm (ai (top 69)) ["_law_script","_law_words_here","_law_rolls","_law_handed","_law_desks","_law_pool","_law_states","_law_cell","_law_j","_law_good","_law_state"] ["_law_script","_law_words_here","_law_rolls","_law_handed","_law_desks","_law_pool","_law_states","_law_cell","_law_j","_law_good","_law_state"] _ _;walk_at "c") nd rfl (eP (pv 1)) (fun _ _ _ _ _=>aj)) ah)) ah))) ah))))
 (af (cS V8 rfl (eP (cf yn (pv 0) (cj aj) (cj aj))) (a5 (i:=7) nd rfl (by walk_at "o"))
 (af (aF (i:=8) nd rfl (by walk_at "o") (aN bu (aN fy (pv 7) aj) aj))
 (af (qR (aw WM hr rfl (ac (aQ aT (pv 4) (pv 8) (fun _ _=>rfl)) (ac (aQ aT (pv 2) (pv 8) (fun _ _=>rfl)) (ac (aQ aT (pv 6) (pv 8) (fun _ _=>rfl)) (ac (pv 5) (ac (pv 7) ah)))))) (j7 rfl (bU (a5 (i:=9) nd rfl (by walk_at "o")) (bU (a5 (i:=10) nd rfl (by walk_at "o")) gA))))
 (af (qR (pv 10) (DR (pv 6) (pv 8) qt))
 (af (a7 (cu (bA (pv 9)))
 (ao (aK eI))
 aI)
 (ao (a7 (cu (bA (aw Wu hr rfl (ac (aQ aT (pv 4) (pv 8) (fun _ _=>rfl)) (ac (aQ aT (pv 2) (pv 8) (fun _ _=>rfl)) (ac (pv 10) (ac (bF cg (aN bu (aN fy (pv 7) aj) aj) aj (aO _)) ah)))))))
 (ao (aK eI))
 aI)))))))
 (af (cS V8 rfl (b_ rfl B.range (ac aj ah)) (a5 (i:=8) nd rfl (by walk_at "o"))
 (ao (a7 (cu (bA (aw Wu hr rfl (ac (aQ aT (pv 4) (pv 8) (fun _ _=>rfl)) (ac (aQ aT (pv 2) (pv 8) (fun _ _=>rfl)) (ac (aQ aT (pv 6) (pv 8) (fun _ _=>rfl)) (ac (bF cg (pv 8) aj (aO _)) ah)))))))
 (ao (aK eI))
 aI)))
 (ao (aK eI)))))))))))),(by obtain⟨a,ns,rfl,hS,hl,k⟩:=h;exact Dk.Hg hS hl k)⟩
end
theorem AT{G:K_->K_->K_->Option Addr->K_->K_->N2}{ps:List Str}(e:ps.length=1)(h:∀(a b c:K_) (d:Option Addr) (x y u0:K_),bindArgs (G a b c d x y) ⟨[u0],[]⟩=pure (ps.zip [u0]))(a b c:K_)(d:Option Addr)(x y:K_)(us:List K_)(hl:us.length=ps.length):bindArgs (G a b c d x y) ⟨us,[]⟩=pure (ps.zip us):=by
 have e0:us.length=1:=hl.trans e;obtain⟨u0,us,rfl⟩:=LB e0;cases Nn (MP e0);exact h a b c d x y u0
theorem gI{G:K_->K_->K_->Option Addr->K_->K_->N2}{ps:List Str}(e:ps.length=2)(h:∀(a b c:K_) (d:Option Addr) (x y u0 u1:K_),bindArgs (G a b c d x y) ⟨[u0,u1],[]⟩=pure (ps.zip [u0,u1]))(a b c:K_)(d:Option Addr)(x y:K_)(us:List K_)(hl:us.length=ps.length):bindArgs (G a b c d x y) ⟨us,[]⟩=pure (ps.zip us):=by
 have e0:us.length=2:=hl.trans e;obtain⟨u0,us,rfl⟩:=LB e0;have e1:us.length=1:=MP e0;obtain⟨u1,us,rfl⟩:=LB e1;cases Nn (MP e1);exact h a b c d x y u0 u1
theorem GS{G:K_->K_->K_->Option Addr->K_->K_->N2}{ps:List Str}(e:ps.length=3)(h:∀(a b c:K_) (d:Option Addr) (x y u0 u1 u2:K_),bindArgs (G a b c d x y) ⟨[u0,u1,u2],[]⟩=pure (ps.zip [u0,u1,u2]))(a b c:K_)(d:Option Addr)(x y:K_)(us:List K_)(hl:us.length=ps.length):bindArgs (G a b c d x y) ⟨us,[]⟩=pure (ps.zip us):=by
 have e0:us.length=3:=hl.trans e;obtain⟨u0,us,rfl⟩:=LB e0;have e1:us.length=2:=MP e0;obtain⟨u1,us,rfl⟩:=LB e1;have e2:us.length=1:=MP e1;obtain⟨u2,us,rfl⟩:=LB e2;cases Nn (MP e2);exact h a b c d x y u0 u1 u2
theorem Jr{G:K_->K_->K_->Option Addr->K_->K_->N2}{ps:List Str}(e:ps.length=4)(h:∀(a b c:K_) (d:Option Addr) (x y u0 u1 u2 u3:K_),bindArgs (G a b c d x y) ⟨[u0,u1,u2,u3],[]⟩=pure (ps.zip [u0,u1,u2,u3]))(a b c:K_)(d:Option Addr)(x y:K_)(us:List K_)(hl:us.length=ps.length):bindArgs (G a b c d x y) ⟨us,[]⟩=pure (ps.zip us):=by
 have e0:us.length=4:=hl.trans e;obtain⟨u0,us,rfl⟩:=LB e0;have e1:us.length=3:=MP e0;obtain⟨u1,us,rfl⟩:=LB e1;have e2:us.length=2:=MP e1;obtain⟨u2,us,rfl⟩:=LB e2;have e3:us.length=1:=MP e2;obtain⟨u3,us,rfl⟩:=LB e3;cases Nn (MP e3);exact h a b c d x y u0 u1 u2 u3
theorem K7{G:K_->K_->K_->Option Addr->K_->K_->N2}{ps:List Str}(e:ps.length=5)(h:∀(a b c:K_) (d:Option Addr) (x y u0 u1 u2 u3 u4:K_),bindArgs (G a b c d x y) ⟨[u0,u1,u2,u3,u4],[]⟩=pure (ps.zip [u0,u1,u2,u3,u4]))(a b c:K_)(d:Option Addr)(x y:K_)(us:List K_)(hl:us.length=ps.length):bindArgs (G a b c d x y) ⟨us,[]⟩=pure (ps.zip us):=by
 have e0:us.length=5:=hl.trans e;obtain⟨u0,us,rfl⟩:=LB e0;have e1:us.length=4:=MP e0;obtain⟨u1,us,rfl⟩:=LB e1;have e2:us.length=3:=MP e1;obtain⟨u2,us,rfl⟩:=LB e2;have e3:us.length=2:=MP e2;obtain⟨u3,us,rfl⟩:=LB e3;have e4:us.length=1:=MP e3;obtain⟨u4,us,rfl⟩:=LB e4;cases Nn (MP e4);exact h a b c d x y u0 u1 u2 u3 u4
theorem FnAt{K:Fg}{st:Stmt}{ps:List Str}(X:K.In h)(G:h.Ns mainGlobals mg)(p:GO K n st)(hb:∀(kV doc pm:K_) (an:Option Addr) (gV ct:K_) (us:List K_),us.length=ps.length->bindArgs (MY n n (cN st) (bK st) (ai st) .none kV doc pm an gV ct) ⟨us,[]⟩=pure (ps.zip us)):bw K mg n st ps:=by
 obtain⟨_,_,_,_,_,_,_,_,_,_,a,l,c,k⟩:=p;exact C7 X G a l c k hb
theorem lS{K:Fg}{st:Stmt}{ps:List Str}(p:GM K D n q st)(hb:∀(kV doc pm:K_) (an:Option Addr) (gV ct:K_) (us:List K_),us.length=ps.length->bindArgs (MY n q (cN st) (bK st) (ai st) .none kV doc pm an gV ct) ⟨us,[]⟩=pure (ps.zip us)):gK K D n q st ps:=by
 obtain⟨f,_,_,_,_,_,_,_,_,_,a,l,c,k,i⟩:=p;exact⟨f,_,mE (st:=st) l c k,⟨a,i,k⟩,(mE (st:=st) l c k).binds hb⟩
abbrev Pg:=PySem.Challenge.rw_vesselhall_k93_whole_desk.prog
theorem fin:PySem.Challenge.rw_vesselhall_k93_whole_desk.Holds:=by
 refine K93H.headed ?_;intro w K h mg fa X G hfa P0 P20 P40 Z V q1 q4 q5 q7 q12 dD qd1 qd4 qd5 qd7 Zc qdV fi7 Ni7 nmi7 qni7 ZC tli7 sui7 ZR ZA sni7 ZD ZG odi7 ZB kai7 kbi7 kci7 kdi7 kei7 oci7 kVi7 ZF pmi7 YU ZE sli7 tk0 tk1 tk2 tk3 tk4 tn0 tn1 tp0 tp1 tp2 tq0 tq1 tq2 nq pD nqd nqn pDn nqs ph0 ph1 ph2 aV xV zVE sgV rdV fcV dV mV cs rs L7 ni7 fn7 kq7 lf7 cf7 kf7 sa7 nf7 hd7 mr7 aD gD hD pD_ sD mD kD nD0 nD1 nD2 nD3 hcn0 hcn1 hcn2 hcn3 hcn4 hcnN hcnL hpwN hpwL hpw0 hpw1 hpw2 hpwS ms;obtain⟨p0,p1,p2,p3,p4,p5,p6,p7,p8,p9,p10,p11,p12,p13,p14,p15,p16,p17,p18,p19,_⟩:=P0;obtain⟨p20,p21,p22,p23,p24,p25,p26,p27,p28,p29,p30,p31,p32,p33,p34,p35,p36,p37,p38,p39,_⟩:=P20;obtain⟨p40,p41,p42,_⟩:=P40;obtain⟨z0,z1,z2,z3,z4,z5,z6,z7,z8,z9,z10,z11,z12,z13,z14,z15,z16,z17,z18,z19,z20,z21,_⟩:=Z;obtain⟨mt0,mt1,mt2,mt3,mt4,mt5,mt6,mt7,mt8,mt9,_⟩:=ms;obtain⟨_,_,an,_,_,kV,dc,pm,cd,ct,aL,lL,cL,kL⟩:=p42;cases hfa.symm.trans (MD X G aL);have zn:=fun {n:Str}=>PySem.W.mg_none_of (n:=n) X G
 have B:cR mg:=⟨zn z0,zn z1,zn z2,zn z3,zn z4,zn z5,zn z6,zn z7,zn z8,zn z9,zn z10,zn z11,zn z12,zn z13,zn z14,zn z15,zn z16,zn z17,zn z18,zn z19,zn z20,zn z21⟩
 refine⟨MY "law" "law" (cN (top 69)) (bK (top 69)) (ai (top 69)) .none kV dc pm an cd ct,fun s v=>.of_eq rfl,fun base _ _=>?_⟩;obtain⟨c1,c4,c5,c7,c12,_⟩:=cs;obtain⟨r1,r4,r5,r12,_⟩:=rs;have be7:=Ex0.DX (t:=.type "BaseException") c7.2.2 mr7 (by decide +kernel);have iC7:ExcI K mg "NotNow" q7 fi7:=⟨MD X G c7.1,⟨_,_,_,_,_,_,_,_,_,_,_,_,_,_,_,_,L7,fun h X=>Bp xV dV mV L7 c7.2.2 mr7 h X⟩,ni7,fn7,kq7⟩
 have T:xr K mg ⟨V,V,q1,V,V,q4,q5,V,q7,V,V,V,V,q12,V⟩:={
   v:=⟨MD X G aV,_,_,xV,by decide⟩
   vb:=⟨MD X G aV,sgV,rdV,fcV⟩
   n1:=⟨MD X G c1.1,r1.1⟩
   s1:=⟨jA r1.1,Ex0.zy c1.2.2 r1.2.1⟩
   n4:=⟨MD X G c4.1,r4.1⟩
   s4:=⟨jA r4.1,Ex0.zy c4.2.2 r4.2.1⟩
   n5:=⟨MD X G c5.1,r5.1⟩
   s5:=⟨jA r5.1,Ex0.zy c5.2.2 r5.2.1⟩
   n12:=⟨MD X G c12.1,r12.1⟩
   s12:=⟨jA r12.1,Ex0.zy c12.2.2 r12.2.1⟩
   h7:=iC7.shape
   f7:=⟨sa7,nf7,hd7,⟨_,[_,_],c7.2.2,mr7,rfl⟩,Ex0.DX c7.2.2 mr7 (by decide +kernel)⟩
   s7:=⟨iC7.ob,Ex0.zy c7.2.2 mr7⟩}
 have DK:Dk.Kl K mg dD:=⟨⟨gD,hD,pD_,sD⟩,MD X G aD,nD0,nD1,nD2,nD3⟩
 have Ww:=JS (P:=Pg) (MD X G hpwN) hpwL hpw0 hpw1 hpw2 hpwS;have gG:=G;have G:Nv.Cn K mg nq:=⟨⟨_,MD X G hcn0⟩,⟨_,MD X G hcn1⟩,⟨_,MD X G hcn2⟩,⟨_,MD X G hcn3⟩,⟨_,MD X G hcn4⟩,MD X G hcnN,fun H=>.inr ⟨_,_,_,hcnL,rfl,rfl,bq,.cons ⟨_,rfl⟩ (.cons ⟨_,rfl⟩ .nil)⟩⟩
 have W_:=Fun.iniC (P:=Pg) (w:=w) (base:=base) (k:=1) (sp:=qm K q7 "at") iC7 be7 (FK (P:=Pg) (w:=w) (base:=base) T G Ww DK (mE (st:=ini 10) lf7 cf7 kf7) B) ((mE (st:=ini 10) lf7 cf7 kf7).binds (gI rfl fun _ _ _ _ _ _ _ _=>rfl)) rfl;have WD:=Cu (P:=Pg) (w:=w) (base:=base) (FnAt X gG p0 (AT rfl fun _ _ _ _ _ _ _=>rfl)) B;have Wc:=gC (P:=Pg) (w:=w) (base:=base) (FnAt X gG p1 (gI rfl fun _ _ _ _ _ _ _ _=>rfl)) B;have W8:=zr (P:=Pg) (w:=w) (base:=base) (FnAt X gG p3 (gI rfl fun _ _ _ _ _ _ _ _=>rfl)) B;have WT:=wL (P:=Pg) (w:=w) (base:=base) G Ww DK (FnAt X gG p4 (AT rfl fun _ _ _ _ _ _ _=>rfl)) B;have WK:=ul (P:=Pg) (w:=w) (base:=base) (FnAt X gG p9 (AT rfl fun _ _ _ _ _ _ _=>rfl)) B;have WC:=oX (P:=Pg) (w:=w) (base:=base) (FnAt X gG p11 (gI rfl fun _ _ _ _ _ _ _ _=>rfl)) B;have WG:=q_ (P:=Pg) (w:=w) (base:=base) (FnAt X gG p13 (AT rfl fun _ _ _ _ _ _ _=>rfl)) B;have Wg:=kj (P:=Pg) (w:=w) (base:=base) G Ww DK (FnAt X gG p15 (gI rfl fun _ _ _ _ _ _ _ _=>rfl)) B;have Wa:=iL (P:=Pg) (w:=w) (base:=base) (FnAt X gG p16 (AT rfl fun _ _ _ _ _ _ _=>rfl)) B;have Wx:=lO (P:=Pg) (w:=w) (base:=base) (FnAt X gG p19 (gI rfl fun _ _ _ _ _ _ _ _=>rfl)) B;have Wo:=km (P:=Pg) (w:=w) (base:=base) (FnAt X gG p20 (gI rfl fun _ _ _ _ _ _ _ _=>rfl)) B;have wp:=lN (P:=Pg) (w:=w) (base:=base) (FnAt X gG p21 (gI rfl fun _ _ _ _ _ _ _ _=>rfl)) B;have We:=rj (P:=Pg) (w:=w) (base:=base) (FnAt X gG p22 (gI rfl fun _ _ _ _ _ _ _ _=>rfl)) B;have Wy:=lM (P:=Pg) (w:=w) (base:=base) (FnAt X gG p23 (gI rfl fun _ _ _ _ _ _ _ _=>rfl)) B;have WL:=uk (P:=Pg) (w:=w) (base:=base) (FnAt X gG p25 (gI rfl fun _ _ _ _ _ _ _ _=>rfl)) B;have WQ:=ue (P:=Pg) (w:=w) (base:=base) (FnAt X gG p26 (Jr rfl fun _ _ _ _ _ _ _ _ _ _=>rfl)) B;have Wp:=uh (P:=Pg) (w:=w) (base:=base) (FnAt X gG p28 (GS rfl fun _ _ _ _ _ _ _ _ _=>rfl)) B;have Wb:=jl (P:=Pg) (w:=w) (base:=base) (FnAt X gG p30 (gI rfl fun _ _ _ _ _ _ _ _=>rfl)) B;have WU:=wK (P:=Pg) (w:=w) (base:=base) (FnAt X gG p32 (gI rfl fun _ _ _ _ _ _ _ _=>rfl)) B;have WP:=uf (P:=Pg) (w:=w) (base:=base) (FnAt X gG p33 (gI rfl fun _ _ _ _ _ _ _ _=>rfl)) B;have WN:=ui (P:=Pg) (w:=w) (base:=base) (FnAt X gG p34 (gI rfl fun _ _ _ _ _ _ _ _=>rfl)) B;have WO:=ug (P:=Pg) (w:=w) (base:=base) (FnAt X gG p35 (GS rfl fun _ _ _ _ _ _ _ _ _=>rfl)) B;have WB:=oY (P:=Pg) (w:=w) (base:=base) (FnAt X gG p36 (Jr rfl fun _ _ _ _ _ _ _ _ _ _=>rfl)) B;have Wl:=rB (P:=Pg) (w:=w) (base:=base) G Ww DK (lS mt1 (GS rfl fun _ _ _ _ _ _ _ _ _=>rfl)) B;have Xi:=o4 (P:=Pg) (w:=w) (base:=base) G Ww DK (lS mt9 (AT rfl fun _ _ _ _ _ _ _=>rfl)) B;have WJ:=um (P:=Pg) (w:=w) (base:=base) (FnAt X gG p2 (gI rfl fun _ _ _ _ _ _ _ _=>rfl)) B Wc WD;have Wf:=qZ (P:=Pg) (w:=w) (base:=base) T G Ww DK (FnAt X gG p5 (AT rfl fun _ _ _ _ _ _ _=>rfl)) B WT;have WH:=wM (P:=Pg) (w:=w) (base:=base) G Ww DK (FnAt X gG p6 (gI rfl fun _ _ _ _ _ _ _ _=>rfl)) B WD;have xn:=iN (P:=Pg) (w:=w) (base:=base) T G Ww DK (FnAt X gG p8 (AT rfl fun _ _ _ _ _ _ _=>rfl)) B WK;have Wt:=rk (P:=Pg) (w:=w) (base:=base) (FnAt X gG p12 (gI rfl fun _ _ _ _ _ _ _ _=>rfl)) B WC;have WA:=oZ (P:=Pg) (w:=w) (base:=base) (FnAt X gG p24 (gI rfl fun _ _ _ _ _ _ _ _=>rfl)) B Wy;have WF:=rf (P:=Pg) (w:=w) (base:=base) (FnAt X gG p27 (GS rfl fun _ _ _ _ _ _ _ _ _=>rfl)) B wp WL WQ;have xa:=gB (P:=Pg) (w:=w) (base:=base) (FnAt X gG p31 (gI rfl fun _ _ _ _ _ _ _ _=>rfl)) B Wb;have Xv:=rA (P:=Pg) (w:=w) (base:=base) T G Ww DK (lS mt7 (GS rfl fun _ _ _ _ _ _ _ _ _=>rfl)) B Wl;have Wz:=lK (P:=Pg) (w:=w) (base:=base) G Ww DK (FnAt X gG p7 (gI rfl fun _ _ _ _ _ _ _ _=>rfl)) B (W8.mono (by decide:1<=2)) WH;have xy:=kf (P:=Pg) (w:=w) (base:=base) (FnAt X gG p14 (gI rfl fun _ _ _ _ _ _ _ _=>rfl)) B Wt (WG.mono (by decide:1<=2));have Wr:=kh (P:=Pg) (w:=w) (base:=base) (FnAt X gG p17 (AT rfl fun _ _ _ _ _ _ _=>rfl)) B (Wa.mono (by decide:1<=2)) WJ;have Wk:=jm (P:=Pg) (w:=w) (base:=base) (FnAt X gG p37 (gI rfl fun _ _ _ _ _ _ _ _=>rfl)) B (We.mono (by decide:1<=2)) (Wp.mono (by decide:1<=2)) (wp.mono (by decide:1<=2)) WA;have Yu:=jo (P:=Pg) (w:=w) (base:=base) T G Ww DK (lS mt0 (gI rfl fun _ _ _ _ _ _ _ _=>rfl)) B Wf;have WE:=Yu.mkC mD kD;have Xq:=FJ (P:=Pg) (w:=w) (base:=base) T (FnAt X gG p10 (gI rfl fun _ _ _ _ _ _ _ _=>rfl)) B (Wf.mono (by decide:2<=3)) Wz (xn.mono (by decide:2<=3));have Ws:=kg (P:=Pg) (w:=w) (base:=base) (FnAt X gG p18 (gI rfl fun _ _ _ _ _ _ _ _=>rfl)) B Wr (Wg.mono (by decide:1<=3)) xy;have WI:=o0 (P:=Pg) (w:=w) (base:=base) G Ww DK (lS mt5 (AT rfl fun _ _ _ _ _ _ _=>rfl)) B xy;have V7:=zq (P:=Pg) (w:=w) (base:=base) (FnAt X gG p29 (gI rfl fun _ _ _ _ _ _ _ _=>rfl)) B 4;have Wj:=jn (P:=Pg) (w:=w) (base:=base) T G Ww DK (lS mt2 (gI rfl fun _ _ _ _ _ _ _ _=>rfl)) B WI;have X2:=uo (P:=Pg) (w:=w) (base:=base) T G Ww DK (lS mt3 (gI rfl fun _ _ _ _ _ _ _ _=>rfl)) B Ws (xn.mono (by decide:2<=4)) (Wl.mono (by decide:1<=4));have Xa:=lP (P:=Pg) (w:=w) (base:=base) G Ww DK (lS mt6 (AT rfl fun _ _ _ _ _ _ _=>rfl)) B Xq;have V_:=iM (P:=Pg) (w:=w) (base:=base) G Ww DK (FnAt X gG p38 (GS rfl fun _ _ _ _ _ _ _ _ _=>rfl)) B V7 (xa.mono (by decide:2<=5)) (WI.mono (by decide:4<=5));have Xw:=rn (P:=Pg) (w:=w) (base:=base) T G Ww DK (lS mt4 (gI rfl fun _ _ _ _ _ _ _ _=>rfl)) B Wj (Wl.mono (by decide:1<=5));have Xx:=rm (P:=Pg) (w:=w) (base:=base) T G Ww DK (lS mt8 (gI rfl fun _ _ _ _ _ _ _ _=>rfl)) B (Wx.mono (by decide:1<=5)) (Wo.mono (by decide:1<=5)) (Wl.mono (by decide:1<=5)) Wj W_;have Wu:=rh (P:=Pg) (w:=w) (base:=base) G Ww DK (FnAt X gG p39 (Jr rfl fun _ _ _ _ _ _ _ _ _ _=>rfl)) B (V7.mono (by decide:5<=6)) V_ (Xi.mono (by decide:1<=6)) (Xa.mono (by decide:5<=6));have Wv:=rg (P:=Pg) (w:=w) (base:=base) T G Ww DK (FnAt X gG p40 (Jr rfl fun _ _ _ _ _ _ _ _ _ _=>rfl)) B (X2.mono (by decide:5<=6)) Xw Xx (Xv.mono (by decide:2<=6));have WM:=uj (P:=Pg) (w:=w) (base:=base) (FnAt X gG p41 (K7 rfl fun _ _ _ _ _ _ _ _ _ _ _=>rfl)) B (We.mono (by decide:1<=7)) (WO.mono (by decide:1<=7)) Wv (WB.mono (by decide:1<=7)) (WN.mono (by decide:1<=7)) (xa.mono (by decide:2<=7)) (WP.mono (by decide:1<=7)) (WU.mono (by decide:1<=7));exact HC (P:=Pg) (w:=w) (base:=base) G Ww DK (mE (st:=top 69) lL cL kL) B (WF.mono (by decide:2<=8)) (Wk.mono (by decide:3<=8)) WM (Wu.mono (by decide:7<=8)) (wp.mono (by decide:1<=8)) (WE.mono (by decide:3<=7))
end K93
theorem PySem.Challenge.cw_vesselhall_k93_whole_desk_holds : PySem.Challenge.rw_vesselhall_k93_whole_desk.Holds := by
 exact K93.fin
#print axioms PySem.Challenge.cw_vesselhall_k93_whole_desk_holds

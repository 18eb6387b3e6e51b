import PyProof.Rows.All
import Wide.All
import Wide.FinOn
import Lean
import KE.KDictList
import KE.KEqDat
import KE.KIntText
import KE.KIsAll
import KE.KRevSl
import PySem.Challenge.RW_vesselhall_k23_texts_refused
local macro_rules | `(tactic| get_elem_tactic_extensible)=>`(tactic| omega)
open PySem in
local macro_rules | `(tactic| wp_step)=>`(tactic| first|(with_reducible first|refine wpAny_pure ?_|refine wpAny_bind ?_|refine wpAny_holding ?_|refine wpAny_standAt ?_|refine wpAny_point ?_|refine wpAny_rule ?_|refine wpAny_letGo ?_|refine wpAny_mkInt' ?_|(refine wpAny_mkStr' ?_ ?a;(case a=>size_fits))|refine wpAny_fresh' ?_|refine wpAny_alloc' ?_|refine wpAny_attempt ?_|refine wpAny_throw ?_|refine wpAny_of_eq (by assumption) ?_|refine wpAny_typeOf (by assumption) ?_|refine wpAny_specialOf_val (by assumption) (by assumption) ?_|refine wpAny_specialOf (by assumption) (by assumption) ?_|refine wpAny_isInstance_val (by assumption) (by assumption) ?_|refine wpAny_isInstance (by assumption) (by assumption) ?_|refine wpAny_call ?_|refine wpAny_runValue ?_|refine wpAny_run ?_)|((with_reducible apply wpAny_load');focus (heap_get;done))|((with_reducible apply wpAny_update');focus (heap_get;done))|((with_reducible apply wpAny_loadPart');focus (heap_get;done))|((with_reducible apply wpAny_updatePart');focus (heap_get;done))|((with_reducible apply wpAny_handled_none);focus (assumption;done))|((with_reducible apply wpAny_ite_false);focus (rfl;done))|((with_reducible apply wpAny_ite_true);focus (rfl;done))|((with_reducible apply wpAny_ite_false);focus (simp[*];done))|((with_reducible apply wpAny_ite_true);focus (simp[*];done))|wp_delta)
local macro_rules | `(tactic| walk_at "om") => `(tactic| first|lia|omega)
set_option compiler.extract_closed false
set_option Elab.async false
set_option linter.all false
set_option maxRecDepth 100000
set_option maxHeartbeats 4000000
local macro_rules | `(tactic| walk_at "o") => `(tactic| first|exact Or.inl rfl|exact Or.inr rfl)
local macro_rules | `(tactic| walk_at "c") => `(tactic| exact ⟨rfl,by decide +kernel,by decide +kernel,by decide +kernel,by decide +kernel,rfl,by decide +kernel,by decide +kernel,by decide +kernel⟩)
local macro_rules | `(tactic| walk_at "s") => `(tactic| exact ⟨rfl,rfl,rfl,by decide +kernel,rfl,by decide +kernel,by decide +kernel⟩)
open PySem.Challenge renaming pw_vesselhall_k23_texts_refused->PW23
open PySem renaming wpAny_bind->K8,Value->La,Shared->Le,wpAny_pure->Lh,Program->LB,strLen_append->LC,World->LQ,importedModules->L4,Around->Mf,wpAny_mono->Mi,wpAny_newObj_type->ME,SetTable->MG,wpAny_holding->MJ,wpAny_field->ML,treeTable->MM,wpAny_getItem_str_slice->MN,World->MY,wpAny_callSpecial?_slot->M3,wpAny_truthy_bool->Nf,OsState->Nh,wpAny_seqItems->Ni,wpAny_Call_Name_kw->Nq,wpAny_pyIter_list->Nw,wpAny_loadPart_at->Nz,wpAny_pyIter_tuple->NL,wpAny_call_entry->NO,codeAny_call_builtin->NY,wpAny_typeNameOfWhole_keyiter->NZ,wpAny_setField_rec->Oe,Builtin->Og,wpAny_passesOwn->On,FuncData->Oq,Reads->Ot,wpAny_setState_of->Oy,wpAny_comprehension_free->OC,mem_of_lookup->OE,wpAny_setField->OL,wpAny_execs_nil->OX,wpAny_standAt->O1,ClassData->O4,wpAny_attempt->O5,typeIs_str->Ph,call_meets->Pj,codeAny_mono->Pu,wpAny_isSubtype_exc->PF,IsPair->PH,wpAny_call->P2,wpAny_forIn_list->Qu,wpAny_onRaise->Qz,codeAny_builtin->QM,wpAny_assign_Name->Rm,sizeLine_eq->Rn,slot_list_getitem->Rr,wpAny_dictEntries->Ru,wpAny_getItem_list_slice->RB,PyData->RE,wpAny_execs_cons->RM,PassesOwn->RN,DictEntry->RO,NameKind->RP,wpAny_isInstance->RV,Shared->R1,Within->R4,meets_dict_get_default->R_,ExcBaseFacts->Sa,codeAny_compStart_list->Se,wpAny_dictEpoch->Sy,exec_Assign_Name_used->SD,wpAny_isOneOf_keyiter->SG,wpAny_isSame_ref_self->SI,toDigits_len_ge->SL,Result->SQ,ReadsAll->SV,wpAny_newFunctionEnv->SW,IsZip->SZ,OsState->Tq,OwnTail->Tu,wpAny_Tuple_spliced->TB,evalPart_none->TM,hashStr->TN,call->T1,IsPart->T4,tupleKind_room_in1->T7,BindsTo->Uj,wpAny_typeOf->Uk,seqIndex_neg->Ul,call_meetsIn->Up,seqIndex_of->U2,wpAny_letGo->U5,Keyword->Vd,intText?->Vo
open List renaming length_map->K9,getElem?_eq_some_iff->K_,getElem?_eq_getElem->Ld,mem_cons_self->Lg,mem_of_getElem?->Li,mem_cons_of_mem->Lj,getElem?_map->Ll,mem_map->Lm,take_of_length_le->Ln,map_append->Lq,mem_cons->Lr,mem_singleton->Lw,replicate->LG,mem_append_right->LH,length_take->LK,size_toArray->LM,map_cons->LP,length_cons->LS,length_append->LU,take_add_one->LV,exists_cons_of_length_eq_add_one->LY,mem_append->L5,getElem?_append_right->L7,not_mem_nil->L_,getElem?_append_left->Mc,length_replicate->Me,nodup_cons->Mg,range->Mo,all_eq_true->Mp,length_singleton->Mt,getD_eq_getElem?_getD->Mz,length_eq_zero_iff->MB,filterMap_cons->MC,append_assoc->MF,mem_append_left->MP,mem_filterMap->MS,nodup_nil->MV,getElem?_of_mem->M6,mem_filter->M7,append_nil->M9,length_drop->M_,map_map->Na,getElem_mem->Nb,getElem?_eq_none_iff->Nc,of_mem_zip->Nk,mem_range->Nt,getElem?_set_self->Nu,pairwise_iff_getElem->NE,getElem?_eq_none->NG,contains_iff_mem->NH,mem_iff_getElem?->NI,getElem?_take_of_lt->NR,getElem?_set_ne->NW,eq_nil_of_length_eq_zero->N0,length_range->N2,map_eq_nil_iff->N6,drop_of_length_le->N7,lookup_cons->Oa,length->Oo,map_nil->Os,mem_of_mem_drop->Ow,mem_of_mem_take->Ox,replicate_succ->OF,length_pos_iff->OH,countP_eq_zero->OI,length_eq_one_iff->OR,getElem?_drop->OS,filter_eq_nil_iff->OU,find?_cons->OY,take_append_drop->O6,ext_getElem?->Pa,filter_cons->Pw,take_length->PB,getElem?_zip_eq_some->PD,length_reverse->PL,forIn_cons->PX,range_succ->P1,pairwise_cons->P4,filter_append->P7,getElem?_replicate->P8,getElem?_cons_succ->P_,append_cancel_left->Qc,flatten_cons->Qg,pairwise_lt_range->Qk,countP_eq_length->Ql,filterMap_append->Qm,eq_nil_or_concat->Qn,concat_eq_append->Qo,all_cons->QC,sum_cons->QD,replicate_succ'->QH,nil_append->QI,foldl_cons->QJ,length_nil->QL,map_congr_left->QW,getElem?_range->QX,drop_zero->Q9,mem_replicate->Re,zip_cons_cons->Rg,drop_eq_getElem_cons->Ri,mem_or_eq_of_mem_set->Rj,take_sublist->Rq,reverse_cons->Rt,foldl_append->Ry,Pairwise->RC,any_cons->RD,length_erase_of_mem->RH,cons_append->RI,any_eq_true->RX,length_pos_of_mem->Sk,length_set->Ss,getElem?_toArray->SJ,length_filter_le->SM,countP_le_length->SN,mem_erase_of_ne->Td,mem_iff_getElem->Tf,take_left->To,drop_left->Tp,drop->Tv,map_take->TW,foldl->T6,map_inj_right->T_,any_eq_false->Ud,getElem?_inj->Uw,drop_sublist->Ux,pairwise_map->Uz,nodup_append->UD,mem_reverse->UN,zipIdx_cons->UQ,map_reverse->UX,zipIdx_nil->U_,zip_append->Vb,forIn_nil->Vl,drop_drop->Vn
open PySem.Heap renaming get?_push_of_some->Lb,lt_size->Ls,get?_push_size->LJ,get?_update_other->Mw,get?_update_self->MZ,size_push->OM,SameBut->Pr,get?_none_of_le->QE,ExtBut->SY,IsList->S9,get?_push_cases->S_,get?_update_ne->TF,IsTuple->Us,NotedW->U3,SlotsOnly->Vi
open Nat renaming le_refl->Lf,ne_of_lt->LA,lt_of_lt_of_le->LR,lt_trans->L8,le_trans->Mh,zero_le->Ml,le_of_lt->M0,lt_of_le_of_lt->M5,lt_or_ge->Nn,lt_trichotomy->NA,ne_of_gt->NQ,lt_irrefl->N9,pow_le_pow_right->Ov,le_succ->Pl,pow_lt_pow_right->Pn,zero_add->Pp,min_eq_right->Px,min_eq_left->PY,toDigits_of_lt_base->Qd,min_le_right->Qp,lt_succ_self->Qt,not_lt_zero->QR,strongRecOn->QT,add_le_add_left->QV,add_zero->Q1,mul_comm->R9,mod_lt->Si,succ_pos->Sj,log2_lt->SR,le_of_eq->Uo,sub_self->Uy,lt_succ_of_lt->UB,toDigits->UF,div_eq_of_lt->UT
open PySem.W renaming kitCls->Lp,kitOne->LN,mg_of->L9,view->Mj,kia_one->M8,boot_heap->Ng,fnOf->Nl,nsIn->Ny,keepIn->NX,kqd_lay->N5,recOk->Oz,findIn->OJ,codeIn->OK,xlAt->OO,hideAll->OW,openSeen->Pq,excIn->PP,looks_findIn->Qi,kHook->Qy,of_hideAll->Q4,notCls->Q8,methodObj->Rl,specialIn->Ro,openGood->RJ,kqd_layL->RU,cellsFrom_some->R5,instObj->Sr,kqd_eqv->Su,lookIn->SO,recFacts_of->Tx,hideAll_get->Tz,LeftO->TJ,WalkO->TK,mroIn->TL,boot_drawn->TY,holds_open->TZ,callWith_K->T3,mg_none_of->Ua,Frag->Ub,hasDictIn->Ue,kitx_list->Uf,kitx_dict->Ug,Looks->Uq,boot_toks->UG,plainGet->UK,looks_mroIn->U4,takesIn->U7,OpenLaw->U8,kqd_any->U9,SharedT->Vc,XL->Vg,xl_of->Vr,clsIn->Vv
open Option renaming map_eq_some_iff->Lu,bind_eq_some_iff->N1,map_some->QK,isSome_iff_exists->RA,isSome->TQ,getD_none->UL,getD_some->UU,map->Vk,toList->VC
open PySem.F renaming slot_list_append->Lx,type_list_append->Ly,plainAttrs_list->Lz,plainAttrs_str->LL,slot_str_split->Mq,excBase_ValueError->Ms,type_str_split->MU,slot_dict_keyiterator_next->Nm,slot_str_find->NJ,type_str_find->NK,slot_tuple_iterator_next->Od,slot_str_partition->Of,slot_dict_get->Oh,called_set->OT,slot_str_join->O8,type_str_join->O9,excAttr_ValueError->Pk,type_str_partition->Po,args_str_split_2->PR,args_dict_get_3->P9,entry_str_split->Qb,entry_dict_get->Qh,args_dict_keyiterator_next_1->Qs,entry_dict_keyiterator_next->QF,args_tuple_iterator_next_1->QN,slot_zip_next->QP,entry_tuple_iterator_next->QZ,slot_str_rpartition->Q0,plainAttrs_dict->RQ,type_dict_get->SA,excBase_ValueError->SU,slot_str_getitem->T8,args_zip_next_1->Ur,slot_tuple_hash->UA,slot_dict_iter->UO,entry_zip_next->UP
open Option.some renaming inj->LD
open Bool renaming false_ne_true->LO,false_eq_true->LX,and_eq_true->My,true_and->N_,not_true->OB,eq_false_iff->O_,and_eq_true_iff->Pd,eq_iff_iff->PU,false_and->Qe,and_false->Qj,not_false->Th,noConfusion->UM,or_false->Vu
open PySem.StrLaws renaming partsFrom->LW,strSub_toList->O7,sub_whole->Pb,ChainTo->PZ,occ_chain->Rx,occ_head->RZ,partsBetween_eq->R0,glued_eq_join->SK,last_spec->UC,occBody->Va,At->Vp
open PySem.Value renaming ref->LZ,none->MI,type->OP,str->Q2,bool->Q3,int->RL,float->U0,isStrOf->Vt,builtin->Vw
open PySem.Builtin.Str renaming strSliceIndices->Ma,occurrences->Nr,strKind->Om
open PySem.Str renaming empty->Mm,length_append->Mn,empty_append->MO,join->MQ,ofString->OQ,append_assoc->Qw,cps_append->Tl,length->Vh
open Array renaming getElem?_eq_some_iff->Mr,length_toList->Mv,getElem?_toList->MA,all_eq_true_iff_forall_mem->MH,getElem?_eq_getElem->MR,getElem?_setIfInBounds->OZ,mem_toList_iff->Pf,toList_append->PM,forIn_toList->P5,getD->Q_,getElem?_eq_none->Sg,append_empty->TX,append_assoc->T2,all_append->UW,mk->Vf
open PySem.W.Dat renaming str->Mu,int->ND,bool->O0,bool->US
open PySem.Builtin.SmallTypes renaming nextOf->MD,ownedTupleIsFree->Nj,ownedTupleHandOut->PK
open List.cons renaming inj->MK,injEq->MW
open Int renaming emod_lt_of_pos->MT,emod_nonneg->No,toNat_natCast->Nx,zero_add->NT,eq_ofNat_of_zero_le->ON,fdiv_eq_ediv_of_nonneg->Pe,mul_fdiv_cancel_left->PQ,ediv_pos_of_pos_of_dvd->Rf,gcd_dvd_right->Rv,pos_of_mul_pos_right->RG,gcd_dvd_left->RW,ediv_one->R6,fmod_nonneg_of_pos->Sh,le_of_lt->So,fdiv->Tb,neg_dvd->Tc,fmod_lt_of_pos->T9,fmod->Uu,fmod_def->Uv,emod_eq_of_lt->UE,ediv_le_self->UY
open PySem.Obj renaming mapFields->MX,data_mapFields->NP,isFreed_of_fields->Oi,putSet->Rb,cls_mapFields->Rs,mapSeq->R8
open PyProof.Rows renaming callWith_type1->M1,toString_length_le->NC,callWith_builtin1->NM,slot_tuple_getitem->OD,AllBare->Qx,intBits_le->RS,subscriptTail_builtinR->R7,FormattedValue_plain->Ta,IntsAre->Ve
open PySem.Calls renaming spliced_cons->M4,spliced_nil->Op,evalArgs_plain->Pi,callWith_builtin->Qf,Name_function_global->Q5
open Ne renaming symm->Nd
open False renaming elim->Np
open PySem.SetTable renaming insertAt->NB,advance->Py,sizeAbove->P6,grown->Rc,sameMemory->TH,fill->TR,tooFull->UV,probe->Vm,slot->Vz,laid->VA
open Classical renaming byContradiction->NF
open Nat.succ renaming inj->NS
open PySem.PyData renaming strOk->NU,int->Qv,eqv->Sb,depthAll->Sv
open PySem.SetTable.probe renaming go->N3
open PySem.NumText renaming digitsVal->N4
open PySem.Paired renaming length->N8
open PySem.Txt renaming slice->Ob,find->SX,join->Ut
open True renaming intro->Oc
open PySem.W.KIN renaming signs_num->Oj
open PySem.Builtin.Slice renaming slicePlaces->Ol,sliceAdjust->PC,sliceApplied->Q6
open PySem.Builtin.Tuple renaming tupleExact->OA,tupleItemsOf->Q7,tupleHashOf->Rh
open PySem.Heap.SameBut renaming update->OG
open Prod renaming ext->OV,fst->VE,snd->VF
open Prod.mk renaming inj->Pc
open Rat renaming divInt->Pm
open PySem.Builtin.List renaming listTooLong->PN
open PySem.PassesOwn renaming never->PV
open PySem.Code renaming quiet_builtin->P3,isFrame->Ui
open PyProof.Rows.F renaming plain_set_update_loop->Qa,entry_set_update_loop->RY
open PySem.W.Looks renaming here->Qq
open PySem.Shared renaming heap->QG
open PySem.Builtin.Frozenset renaming updateFrom->QU
open Sum renaming inl->QY,inr->Ts
open PySem.NameKind renaming cell->RF,free->Vy
open PySem.SeqAt renaming readOf->Sn
open ForInStep renaming yield->Sw
open PySem.Builtin.Int renaming intTooBig->SB,intBits->TC
open PySem.Builtin.Dict renaming showsAll->SE
open List.Pairwise renaming sublist->SH,nil->Um
open PySem.Heap.UpToSlots renaming trans->SS
open PyProof.Rows.Reads renaming keeps->Tj
open PySem.Around renaming under_plainId->Tk,under->Uh
open PySem.Data renaming cell->Tt,fields->U1,seq->VD
open PySem.EntryCells renaming newEntry->TD
open PySem.W.Dat.tuple renaming inj->TU
open PySem.W.Hook renaming keeps->T0,says->Uc,obs->UH,val->UI,of->U6
open PySem.Heap.IsSliceOf renaming new->T5
open PySem.W.XL renaming keeps->UJ
open PySem.IsiPair renaming tupleOfB->UR
open Sum.inr renaming inj->UZ
open PySem.Bind renaming checkArgs->Vj
open Char renaming toNat->Vq
open PySem.Value.ref renaming inj->Vx
open Int.ofNat renaming inj->VB
abbrev Fg := Ub
local macro_rules | `(tactic| walk_at "t")=>`(tactic| simp only[List.map,Oo,LG,RI,QI,Pp,Nat.reduceAdd,Nat.reduceSub])
namespace HdT
open PySem PySem.W
def C4:BT->Nat->List Obj->BT
 |T,_,[]=>T
 |T,n,o :: os=>C4 (T.ins n o) (n+1) os
def nH:BT->Nat->List Obj->Bool
 |_,_,[]=>true
 |T,n,o :: os=>match ((T.ins n o).get n).isSome with
  |true=>nH (T.ins n o) (n+1) os
  |false=>false
theorem wv:∀(os:List Obj) (T:BT) (n:Nat) (life:Life),nH T n os=true->absHeap (C4 T n os) (n+os.length) life=⟨(absHeap T n life).objs++os.toArray,life⟩
 |[],T,n,life,_=>by
  show absHeap T n life=_;rw[show([]:List Obj).toArray = #[] from rfl,TX];rfl
 |o :: os,T,n,life,h=>by
  unfold nH at h;split at h
  ·rename_i e;have ih:=wv os (T.ins n o) (n+1) life h;rw[absHeap_ins e] at ih;show absHeap (C4 (T.ins n o) (n+1) os) (n+(os.length+1)) life=_;rw[show n+(os.length+1)=n+1+os.length by walk_at "om",ih];show Heap.mk ((absHeap T n life).objs.push o++os.toArray) life=Heap.mk ((absHeap T n life).objs++(o :: os).toArray) life;congr 1;simp
  ·cases h
def BK(tb:String->Option Og)(p:LB)(w:LQ)(n₀:Nat)(ann:Option La):Nat->Vc->Thread->Option Vc
 |0,_,_=>none
 |n+1,s,t=>match through t with
  |true=>some s
  |false=>match stepOk n₀ ann t with
   |false=>none
   |true=>match stepT (denote tb) p w s t with
    |some (s',t')=>BK tb p w n₀ ann n s' t'
    |none=>none
theorem yN{tb:String->Option Og}{p:LB}{w:LQ}{n₀:Nat}{ann:Option La}:∀{n:Nat} {s r:Vc} {t:Thread},BK tb p w n₀ ann n s t=some r->topRun tb p w n₀ ann n s.abs t=some r.abs
 |0,_,_,_,h=>by cases h
 |n+1,s,r,t,h=>by
  unfold BK at h;unfold topRun;cases he:through t with
  |true=>rw[he] at h;cases h;rfl
  |false =>
   rw[he] at h;cases hk:stepOk n₀ ann t with
   |false=>rw[hk] at h;cases h
   |true =>
    rw[hk] at h;cases hs:stepT (denote tb) p w s t with
    |none=>rw[hs] at h;cases h
    |some x=>obtain⟨s₂,t₂⟩:=x;rw[hs] at h;rw[stepT_spec hs];exact yN h
noncomputable def yi (P:Params) (os:Tq):Vc:=⟨C4 .nil 0 (Ng P).objs.toList,(Ng P).objs.toList.length,(Ng P).life,Vf [],TY,UG,os⟩
theorem wQ{os:Tq}(h:nH .nil 0 (Ng P).objs.toList=true):(yi P os).abs=⟨Ng P,Vf [],TY,UG,os⟩:=by
 have e:=wv (Ng P).objs.toList .nil 0 (Ng P).life h;rw[Pp] at e;unfold Vc.abs yi;simp only;rw[e];congr 1
noncomputable def ends (tb:String->Option Og) (mods:List Str) (p:LB) (w:LQ) (N:Nat) (os:Tq):Option Le :=
 match (Ng w.params).isNs mainGlobals with
 |true=>(BK tb p w (Ng w.params).objs.size ((Ng w.params).nsMap mainGlobals "__annotations__") N (yi w.params os) (topStub p)).bind fun r =>
   match staticsOk mods (Ng w.params) r.abs.heap && namesBound p r.abs.heap && gensDone r.abs && laidKept (Ng w.params) r.abs.heap with
   |true=>some r.abs
   |false=>none
 |false=>none
theorem Gy{p:LB}{w:LQ}{os:Tq}{r:Le}(g:nH .nil 0 (Ng w.params).objs.toList=true)(h:ends treeTable (importedModules p.main.body) p w N os=some r):topFrom treeTable p w N ⟨Ng w.params,Vf [],TY,UG,os⟩=some r:=by
 unfold ends at h;unfold topFrom;cases hi:(Ng w.params).isNs mainGlobals with
 |false=>rw[hi] at h;cases h
 |true =>
  rw[hi] at h;simp only at h ⊢;obtain⟨x,hx,hr⟩:=N1.mp h
  have:=yN hx
  rw[wQ g] at this;show(topRun treeTable p w (Ng w.params).objs.size ((Ng w.params).nsMap mainGlobals "__annotations__") N ⟨Ng w.params,Vf [],TY,UG,os⟩ (topStub p)).bind _=_;rw[this];exact hr
theorem left{α:Type}{Yf:Le->α}{Ya:LQ->α}
  (e:opening p=plainProg p.main.scope.names) (hN:Nat.ble 600 N=true) (f:∀s,fenceModules? p s=some s) (g:∀w:LQ,nH .nil 0 (Ng w.params).objs.toList=true)
  (h:∀w os,(ends treeTable (importedModules p.main.body) p w N os).map (fun s=>(openSeen q loose (importedModules p.main.body) Xt true s,Yf s))=some (openGood q loose,Ya w)):LeftO p q loose Xt Yf Ya N:=fun w=>by
 obtain⟨s,hs,hv⟩:=Lu.mp (boot_open e hN f w);unfold openEnds;rw[hs];obtain⟨heap,gens,drawn,toks,os⟩:=s;obtain⟨h1,h2⟩:=Pc hv;obtain⟨h2,h3⟩:=Pc h2;obtain⟨h3,h4⟩:=Pc h3;subst h1 h2 h3 h4;obtain⟨r,hr,hv⟩:=Lu.mp (h w os);show(topFrom treeTable p w N _).map _=_;rw[Gy (g w) hr];exact congrArg some hv
theorem cut4{α β γ δ ε ζ η θ ι:Type}{o:Option Le}{F:Le->α×β×γ×δ×ε×ζ×η×θ×ι}{a:α}{b:β}{c:γ}{d:δ}{e:ε}{f:ζ}{g:η}{h:θ}{i:ι}(h1:o.map (fun s=>((F s).1,(F s).2.1))=some (a,b))(h2:o.map (fun s=>(F s).2.2.1)=some c)(h3:o.map (fun s=>((F s).2.2.2.1,(F s).2.2.2.2.1))=some (d,e))
  (h4:o.map (fun s=>((F s).2.2.2.2.2.1,(F s).2.2.2.2.2.2.1,(F s).2.2.2.2.2.2.2.1,(F s).2.2.2.2.2.2.2.2))=some (f,g,h,i)):o.map F=some (a,b,c,d,e,f,g,h,i):=by
 cases o with
 |none=>cases h1
 |some s =>
  have k1:=Pc (LD h1);have k3:=Pc (LD h3);have k4:=Pc (LD h4);have k5:=Pc k4.2;have k6:=Pc k5.2;exact congrArg some (OV k1.1 (OV k1.2 (OV (LD h2) (OV k3.1 (OV k3.2 (OV k4.1 (OV k5.1 (OV k6.1 k6.2))))))))
end HdT
namespace K23H
open PySem
def qv:PySem.Program:=Mj PW23 [1,2,3,4,5,6,7,8,9,10,11,12,13,14,15,17,18,19,20,22,23,24,25,26,27,28,29,30,31,32,33,34,36,37,38,39,40,41,42,43,44,45,47,48,49,50,51,52,53,54,55,56,57,58,59,60,61,62,63,64,65,66,67,68,69,70,71,72,73,74]
theorem said(h:PySem.Challenge.rw_vesselhall_k23_texts_refused.row.Holds):PySem.Challenge.rw_vesselhall_k23_texts_refused.Holds:=by
 w_on;o_law;exact h
theorem booted{α:Type}{Yf:R1->α}{Ya:MY->α}(h:∀w os,(HdT.ends MM (L4 PW23.main.body) PW23 w 9876 os).map (fun s=>(Pq q loose (L4 PW23.main.body) Xt true s,Yf s))=some (RJ q loose,Ya w)):TJ PW23 q loose Xt Yf Ya 9876 :=
 HdT.left (by kernel_rfl) (by decide) (fun s=>by kernel_rfl) (fun w=>by kernel_rfl) h
local macro_rules | `(tactic| o_head $H)=>`(tactic| refine TZ (q:=K23H.qv) (loose:=["PIECES_WRITTEN"]) (Xt:=fun s=>OO K23H.qv [] s && Oz [] s) (XP:=Vg K23H.qv []) (Yf:=UH $H) (Ya:=UI $H) (YP:=Uc $H) (N:=9876) ?_ (U6 $H) (T0 $H) (fun s e=>Vr s (Pd.mp e).1) UJ (by rfl) (by rfl) (by rfl) (fun s e=>Tx (Pd.mp e).2) (by rfl) (by first|assumption|decide +kernel) (by decide +kernel) ⟨rfl,rfl,rfl,rfl,rfl,by decide +kernel⟩ ?_ ?_)
set_option maxRecDepth 100000 in
set_option maxHeartbeats 0 in
open PySem.W PyProof.Rows in
theorem pre(hL:∀(α:Type) (Yf:R1->α) (Ya:MY->α),TJ PW23 qv ["PIECES_WRITTEN"] (fun s=>OO qv [] s && Oz [] s) Yf Ya 9876) (hP:PySem.Challenge.rw_vesselhall_k23_texts_refused.row.toRowW.promised) (hC:∀(YP:MY->PySem.Heap->Prop) (d:DefRec),TK qv ["PIECES_WRITTEN"] (Vg qv []) YP PySem.Challenge.rw_vesselhall_k23_texts_refused.row.toRowW d [] (fun f vs=>T1 f vs)):PySem.Challenge.rw_vesselhall_k23_texts_refused.row.Holds:=by
 w_on;k_head
 ·exact hL _ _ _
 ·exact hP
 ·exact hC _ _
def asl:List Nat:=[2,3,15,22,23,24,25,28,35,36,37,40,47,48,49,52,59,60,61,64,71,72,73,76,83,84,85,88,95,96,97,100,107,109,110,112,113,114,115,116,119,126,128,129,131,132,133,134,135,138,145,147,148,150,151,152,153,154,157,164,165,166,169,176,177,178,181,188,189,190,193,200,201,202,205,212,213,214,217,219,220,222,223,224,226,227,229,230,231,233,234,236,237,238,240,241,243,244,245,246,249,250,251,254,255,256,259,260,261,264,265,266,269,270,271,273,274,276,277,278,280,281,283,284,285,286,288,289,291,292,293,296,297,298,300,301,303,304,305,307,308,310,311,312,315,316,317,320,321,322,324,325,327,328,329,331,332,334,335,336,338,339,341,342,343,345,346,348,349,350,352,353,355,356,357,359,360,362,363,364,366,367,369,370,371,373,374,376,377,378,380,381,383,384,385,387,388,390,391,392,394,395,397,398,399,402,403,404,406,407,409,410,411,413,414,416,417,418,420,421,423,424,425,427,428,430,431,432,434,435,437,438,439,441,442,444,445,446,448,449,451,452,453,455,456,458,459,460,462,463,465,466,467,470,471,472,475,476,477,480,481,482,484,485,487,488,489,491,492,494,495,496,499,500,501,504,505,506,509,510,511,513,514,516,517,518,521,522]
theorem asl_ok(P:PySem.Params):asl=(pre.heap_1 P).map (·.1):=by kernel_rfl
abbrev cQ (w:MY) (s:R1):=Pq (Mj PW23 [1,2,3,4,5,6,7,8,9,10,11,12,13,14,15,17,18,19,20,22,23,24,25,26,27,28,29,30,31,32,33,34,36,37,38,39,40,41,42,43,44,45,47,48,49,50,51,52,53,54,55,56,57,58,59,60,61,62,63,64,65,66,67,68,69,70,71,72,73,74]) ["PIECES_WRITTEN"] (L4 PW23.main.body) (fun s=>OO (Mj PW23 [1,2,3,4,5,6,7,8,9,10,11,12,13,14,15,17,18,19,20,22,23,24,25,26,27,28,29,30,31,32,33,34,36,37,38,39,40,41,42,43,44,45,47,48,49,50,51,52,53,54,55,56,57,58,59,60,61,62,63,64,65,66,67,68,69,70,71,72,73,74]) [] s && Oz [] s) true s
open PySem.W PyProof.Rows in
set_option maxRecDepth 100000 in
set_option maxHeartbeats 0 in
theorem yH(w:MY) (os:Nh):(HdT.ends MM (L4 PW23.main.body) PW23 (w.withFollow "special-get-raises" false) 9876 os).map (fun s=>((cQ w s).1,(cQ w s).2.1))=some (expectedOf (Mj PW23 [1,2,3,4,5,6,7,8,9,10,11,12,13,14,15,17,18,19,20,22,23,24,25,26,27,28,29,30,31,32,33,34,36,37,38,39,40,41,42,43,44,45,47,48,49,50,51,52,53,54,55,56,57,58,59,60,61,62,63,64,65,66,67,68,69,70,71,72,73,74]),bltViewBooted):=by
 unfold cQ;rw[PySem.W.Fast.te4187177175401517315,PySem.W.Fast.te5923862056798008813,PySem.W.Fast.te14364793385576792824,PySem.W.Fast.te4994505583389057146];kernel_rfl
open PySem.W PyProof.Rows in
set_option maxRecDepth 100000 in
set_option maxHeartbeats 0 in
theorem yG(w:MY) (os:Nh):(HdT.ends MM (L4 PW23.main.body) PW23 (w.withFollow "special-get-raises" false) 9876 os).map (fun s=>(cQ w s).2.2.1)=some true:=by
 unfold cQ;rw[PySem.W.Fast.te4187177175401517315,PySem.W.Fast.te5923862056798008813,PySem.W.Fast.te14364793385576792824,PySem.W.Fast.te4994505583389057146];kernel_rfl
open PySem.W PyProof.Rows in
set_option maxRecDepth 100000 in
set_option maxHeartbeats 0 in
theorem yF(w:MY) (os:Nh):(HdT.ends MM (L4 PW23.main.body) PW23 (w.withFollow "special-get-raises" false) 9876 os).map (fun s=>((cQ w s).2.2.2.1,(cQ w s).2.2.2.2.1))=some (true,pinGoodD (drecsOf (Mj PW23 [1,2,3,4,5,6,7,8,9,10,11,12,13,14,15,17,18,19,20,22,23,24,25,26,27,28,29,30,31,32,33,34,36,37,38,39,40,41,42,43,44,45,47,48,49,50,51,52,53,54,55,56,57,58,59,60,61,62,63,64,65,66,67,68,69,70,71,72,73,74]))):=by
 unfold cQ;rw[PySem.W.Fast.te4187177175401517315,PySem.W.Fast.te5923862056798008813,PySem.W.Fast.te14364793385576792824,PySem.W.Fast.te4994505583389057146];kernel_rfl
open PySem.W PyProof.Rows in
set_option maxRecDepth 100000 in
set_option maxHeartbeats 0 in
theorem yE(w:MY) (os:Nh):(HdT.ends MM (L4 PW23.main.body) PW23 (w.withFollow "special-get-raises" false) 9876 os).map (fun s=>((cQ w s).2.2.2.2.2.1,(cQ w s).2.2.2.2.2.2.1,(cQ w s).2.2.2.2.2.2.2.1,(cQ w s).2.2.2.2.2.2.2.2))=some (plainGoodE (Mj PW23 [1,2,3,4,5,6,7,8,9,10,11,12,13,14,15,17,18,19,20,22,23,24,25,26,27,28,29,30,31,32,33,34,36,37,38,39,40,41,42,43,44,45,47,48,49,50,51,52,53,54,55,56,57,58,59,60,61,62,63,64,65,66,67,68,69,70,71,72,73,74]) (looseW (Mj PW23 [1,2,3,4,5,6,7,8,9,10,11,12,13,14,15,17,18,19,20,22,23,24,25,26,27,28,29,30,31,32,33,34,36,37,38,39,40,41,42,43,44,45,47,48,49,50,51,52,53,54,55,56,57,58,59,60,61,62,63,64,65,66,67,68,69,70,71,72,73,74]) ["PIECES_WRITTEN"]),plainGoodD (Mj PW23 [1,2,3,4,5,6,7,8,9,10,11,12,13,14,15,17,18,19,20,22,23,24,25,26,27,28,29,30,31,32,33,34,36,37,38,39,40,41,42,43,44,45,47,48,49,50,51,52,53,54,55,56,57,58,59,60,61,62,63,64,65,66,67,68,69,70,71,72,73,74]) ["PIECES_WRITTEN"],wideGood (Mj PW23 [1,2,3,4,5,6,7,8,9,10,11,12,13,14,15,17,18,19,20,22,23,24,25,26,27,28,29,30,31,32,33,34,36,37,38,39,40,41,42,43,44,45,47,48,49,50,51,52,53,54,55,56,57,58,59,60,61,62,63,64,65,66,67,68,69,70,71,72,73,74]),clsGoodW (Mj PW23 [1,2,3,4,5,6,7,8,9,10,11,12,13,14,15,17,18,19,20,22,23,24,25,26,27,28,29,30,31,32,33,34,36,37,38,39,40,41,42,43,44,45,47,48,49,50,51,52,53,54,55,56,57,58,59,60,61,62,63,64,65,66,67,68,69,70,71,72,73,74]) ["PIECES_WRITTEN"]):=by
 unfold cQ;rw[PySem.W.Fast.te4187177175401517315,PySem.W.Fast.te5923862056798008813,PySem.W.Fast.te14364793385576792824,PySem.W.Fast.te4994505583389057146];kernel_rfl
theorem seenfalse(w:MY) (os:Nh):(HdT.ends MM (L4 PW23.main.body) PW23 (w.withFollow "special-get-raises" false) 9876 os).map (fun s=>Pq (Mj PW23 [1,2,3,4,5,6,7,8,9,10,11,12,13,14,15,17,18,19,20,22,23,24,25,26,27,28,29,30,31,32,33,34,36,37,38,39,40,41,42,43,44,45,47,48,49,50,51,52,53,54,55,56,57,58,59,60,61,62,63,64,65,66,67,68,69,70,71,72,73,74]) ["PIECES_WRITTEN"] (L4 PW23.main.body) (fun s=>OO (Mj PW23 [1,2,3,4,5,6,7,8,9,10,11,12,13,14,15,17,18,19,20,22,23,24,25,26,27,28,29,30,31,32,33,34,36,37,38,39,40,41,42,43,44,45,47,48,49,50,51,52,53,54,55,56,57,58,59,60,61,62,63,64,65,66,67,68,69,70,71,72,73,74]) [] s && Oz [] s) true s)=some (RJ (Mj PW23 [1,2,3,4,5,6,7,8,9,10,11,12,13,14,15,17,18,19,20,22,23,24,25,26,27,28,29,30,31,32,33,34,36,37,38,39,40,41,42,43,44,45,47,48,49,50,51,52,53,54,55,56,57,58,59,60,61,62,63,64,65,66,67,68,69,70,71,72,73,74]) ["PIECES_WRITTEN"]):=HdT.cut4 (F:=fun s=>cQ w s) (yH w os) (yG w os) (yF w os) (yE w os)
set_option maxRecDepth 100000 in
set_option maxHeartbeats 0 in
theorem hookfalse(w:MY) (os:Nh):(HdT.ends MM (L4 PW23.main.body) PW23 (w.withFollow "special-get-raises" false) 9876 os).map (fun s=>asl.map s.heap.get?)=some ((pre.heap_1 (w.withFollow "special-get-raises" false).params).map fun p=>some p.2):=by
 unfold asl;rw[PySem.W.Fast.te5923862056798008813,PySem.W.Fast.te14364793385576792824,PySem.W.Fast.te4994505583389057146];kernel_rfl
abbrev dG (w:MY) (s:R1):=Pq (Mj PW23 [1,2,3,4,5,6,7,8,9,10,11,12,13,14,15,17,18,19,20,22,23,24,25,26,27,28,29,30,31,32,33,34,36,37,38,39,40,41,42,43,44,45,47,48,49,50,51,52,53,54,55,56,57,58,59,60,61,62,63,64,65,66,67,68,69,70,71,72,73,74]) ["PIECES_WRITTEN"] (L4 PW23.main.body) (fun s=>OO (Mj PW23 [1,2,3,4,5,6,7,8,9,10,11,12,13,14,15,17,18,19,20,22,23,24,25,26,27,28,29,30,31,32,33,34,36,37,38,39,40,41,42,43,44,45,47,48,49,50,51,52,53,54,55,56,57,58,59,60,61,62,63,64,65,66,67,68,69,70,71,72,73,74]) [] s && Oz [] s) true s
open PySem.W PyProof.Rows in
set_option maxRecDepth 100000 in
set_option maxHeartbeats 0 in
theorem BG(w:MY) (os:Nh):(HdT.ends MM (L4 PW23.main.body) PW23 (w.withFollow "special-get-raises" true) 9876 os).map (fun s=>((dG w s).1,(dG w s).2.1))=some (expectedOf (Mj PW23 [1,2,3,4,5,6,7,8,9,10,11,12,13,14,15,17,18,19,20,22,23,24,25,26,27,28,29,30,31,32,33,34,36,37,38,39,40,41,42,43,44,45,47,48,49,50,51,52,53,54,55,56,57,58,59,60,61,62,63,64,65,66,67,68,69,70,71,72,73,74]),bltViewBooted):=by
 unfold dG;rw[PySem.W.Fast.te4187177175401517315,PySem.W.Fast.te5923862056798008813,PySem.W.Fast.te14364793385576792824,PySem.W.Fast.te4994505583389057146];kernel_rfl
open PySem.W PyProof.Rows in
set_option maxRecDepth 100000 in
set_option maxHeartbeats 0 in
theorem BF(w:MY) (os:Nh):(HdT.ends MM (L4 PW23.main.body) PW23 (w.withFollow "special-get-raises" true) 9876 os).map (fun s=>(dG w s).2.2.1)=some true:=by
 unfold dG;rw[PySem.W.Fast.te4187177175401517315,PySem.W.Fast.te5923862056798008813,PySem.W.Fast.te14364793385576792824,PySem.W.Fast.te4994505583389057146];kernel_rfl
open PySem.W PyProof.Rows in
set_option maxRecDepth 100000 in
set_option maxHeartbeats 0 in
theorem BE(w:MY) (os:Nh):(HdT.ends MM (L4 PW23.main.body) PW23 (w.withFollow "special-get-raises" true) 9876 os).map (fun s=>((dG w s).2.2.2.1,(dG w s).2.2.2.2.1))=some (true,pinGoodD (drecsOf (Mj PW23 [1,2,3,4,5,6,7,8,9,10,11,12,13,14,15,17,18,19,20,22,23,24,25,26,27,28,29,30,31,32,33,34,36,37,38,39,40,41,42,43,44,45,47,48,49,50,51,52,53,54,55,56,57,58,59,60,61,62,63,64,65,66,67,68,69,70,71,72,73,74]))):=by
 unfold dG;rw[PySem.W.Fast.te4187177175401517315,PySem.W.Fast.te5923862056798008813,PySem.W.Fast.te14364793385576792824,PySem.W.Fast.te4994505583389057146];kernel_rfl
open PySem.W PyProof.Rows in
set_option maxRecDepth 100000 in
set_option maxHeartbeats 0 in
theorem BD(w:MY) (os:Nh):(HdT.ends MM (L4 PW23.main.body) PW23 (w.withFollow "special-get-raises" true) 9876 os).map (fun s=>((dG w s).2.2.2.2.2.1,(dG w s).2.2.2.2.2.2.1,(dG w s).2.2.2.2.2.2.2.1,(dG w s).2.2.2.2.2.2.2.2))=some (plainGoodE (Mj PW23 [1,2,3,4,5,6,7,8,9,10,11,12,13,14,15,17,18,19,20,22,23,24,25,26,27,28,29,30,31,32,33,34,36,37,38,39,40,41,42,43,44,45,47,48,49,50,51,52,53,54,55,56,57,58,59,60,61,62,63,64,65,66,67,68,69,70,71,72,73,74]) (looseW (Mj PW23 [1,2,3,4,5,6,7,8,9,10,11,12,13,14,15,17,18,19,20,22,23,24,25,26,27,28,29,30,31,32,33,34,36,37,38,39,40,41,42,43,44,45,47,48,49,50,51,52,53,54,55,56,57,58,59,60,61,62,63,64,65,66,67,68,69,70,71,72,73,74]) ["PIECES_WRITTEN"]),plainGoodD (Mj PW23 [1,2,3,4,5,6,7,8,9,10,11,12,13,14,15,17,18,19,20,22,23,24,25,26,27,28,29,30,31,32,33,34,36,37,38,39,40,41,42,43,44,45,47,48,49,50,51,52,53,54,55,56,57,58,59,60,61,62,63,64,65,66,67,68,69,70,71,72,73,74]) ["PIECES_WRITTEN"],wideGood (Mj PW23 [1,2,3,4,5,6,7,8,9,10,11,12,13,14,15,17,18,19,20,22,23,24,25,26,27,28,29,30,31,32,33,34,36,37,38,39,40,41,42,43,44,45,47,48,49,50,51,52,53,54,55,56,57,58,59,60,61,62,63,64,65,66,67,68,69,70,71,72,73,74]),clsGoodW (Mj PW23 [1,2,3,4,5,6,7,8,9,10,11,12,13,14,15,17,18,19,20,22,23,24,25,26,27,28,29,30,31,32,33,34,36,37,38,39,40,41,42,43,44,45,47,48,49,50,51,52,53,54,55,56,57,58,59,60,61,62,63,64,65,66,67,68,69,70,71,72,73,74]) ["PIECES_WRITTEN"]):=by
 unfold dG;rw[PySem.W.Fast.te4187177175401517315,PySem.W.Fast.te5923862056798008813,PySem.W.Fast.te14364793385576792824,PySem.W.Fast.te4994505583389057146];kernel_rfl
theorem seentrue(w:MY) (os:Nh):(HdT.ends MM (L4 PW23.main.body) PW23 (w.withFollow "special-get-raises" true) 9876 os).map (fun s=>Pq (Mj PW23 [1,2,3,4,5,6,7,8,9,10,11,12,13,14,15,17,18,19,20,22,23,24,25,26,27,28,29,30,31,32,33,34,36,37,38,39,40,41,42,43,44,45,47,48,49,50,51,52,53,54,55,56,57,58,59,60,61,62,63,64,65,66,67,68,69,70,71,72,73,74]) ["PIECES_WRITTEN"] (L4 PW23.main.body) (fun s=>OO (Mj PW23 [1,2,3,4,5,6,7,8,9,10,11,12,13,14,15,17,18,19,20,22,23,24,25,26,27,28,29,30,31,32,33,34,36,37,38,39,40,41,42,43,44,45,47,48,49,50,51,52,53,54,55,56,57,58,59,60,61,62,63,64,65,66,67,68,69,70,71,72,73,74]) [] s && Oz [] s) true s)=some (RJ (Mj PW23 [1,2,3,4,5,6,7,8,9,10,11,12,13,14,15,17,18,19,20,22,23,24,25,26,27,28,29,30,31,32,33,34,36,37,38,39,40,41,42,43,44,45,47,48,49,50,51,52,53,54,55,56,57,58,59,60,61,62,63,64,65,66,67,68,69,70,71,72,73,74]) ["PIECES_WRITTEN"]):=HdT.cut4 (F:=fun s=>dG w s) (BG w os) (BF w os) (BE w os) (BD w os)
set_option maxRecDepth 100000 in
set_option maxHeartbeats 0 in
theorem hooktrue(w:MY) (os:Nh):(HdT.ends MM (L4 PW23.main.body) PW23 (w.withFollow "special-get-raises" true) 9876 os).map (fun s=>asl.map s.heap.get?)=some ((pre.heap_1 (w.withFollow "special-get-raises" true).params).map fun p=>some p.2):=by
 unfold asl;rw[PySem.W.Fast.te5923862056798008813,PySem.W.Fast.te14364793385576792824,PySem.W.Fast.te4994505583389057146];kernel_rfl
theorem hooks:TJ PW23 qv ["PIECES_WRITTEN"] (fun s=>OO qv [] s && Oz [] s) (fun s=>asl.map s.heap.get?) (fun w=>(pre.heap_1 w.params).map fun p=>some p.2) 9876 :=
 booted (PySem.W.byRow2 "special-get-raises" (fun w=>fun os=>by
  obtain⟨s,e,a⟩:=Lu.mp (seenfalse w os)
  have b:=hookfalse w os
  rw[e] at b ⊢
  exact congrArg some (OV a (LD b))) (fun w=>fun os=>by
  obtain⟨s,e,a⟩:=Lu.mp (seentrue w os)
  have b:=hooktrue w os
  rw[e] at b ⊢
  exact congrArg some (OV a (LD b))))
end K23H
set_option Elab.async false
set_option linter.all false
set_option maxRecDepth 100000
set_option maxHeartbeats 4000000
set_option Elab.async false
set_option linter.all false
set_option maxRecDepth 100000
namespace L2
open PySem PySem.Spec PyProof.Rows
abbrev Key:=Sum Int Str
def xr:Key->La->Bool
 |.inl k,v=>La.isInt k v
 |.inr x,v=>Vt x v
def JX(w:LQ):Key->Int
 |.inl k=>hashInt k
 |.inr x=>hashStr w x
theorem cJ:∀{k:Key} {v:La},xr k v=true->(∃i t,k=QY i/\v=RL i t)\/(∃x t,k=Ts x/\v=Q2 x t)
 |.inl i,v,h=>by
  obtain⟨t,e⟩:=La.isInt_shape (k:=i) (v:=v) h;exact .inl ⟨i,t,rfl,e⟩
 |.inr x,v,h=>by
  obtain⟨t,e⟩:=La.isStrOf_shape (x:=x) (v:=v) h;exact .inr ⟨x,t,rfl,e⟩
theorem Aa(i:Int)(t:Tok):xr (.inl i) (.int i t)=true:=by simp[xr,La.isInt]
theorem z_(x:Str)(t:Tok):xr (.inr x) (.str x t)=true:=by simp[xr,Vt]
theorem HW(a b:Int):decide ((QY a:Key)=QY b)=(a == b):=by
 by_cases e:a=b
 ·subst e;simp
 ·have h : ¬ (QY a:Key)=QY b:=fun q=>e (QY.inj q)
  rw[decide_eq_false h];exact(beq_eq_false_iff_ne.mpr e).symm
theorem HS(a b:Str):decide ((Ts a:Key)=Ts b)=decide (a=b):=by
 by_cases e:a=b
 ·subst e;simp
 ·have h : ¬ (Ts a:Key)=Ts b:=fun q=>e (UZ q)
  rw[decide_eq_false h,decide_eq_false e]
theorem HV(a:Int)(b:Str):decide ((QY a:Key)=Ts b)=false:=decide_eq_false (fun q=>nomatch q)
theorem HU(a:Str)(b:Int):decide ((Ts a:Key)=QY b)=false:=decide_eq_false (fun q=>nomatch q)
def cS(prog:LB)(w:LQ):PySem.KeyKind prog w Key where
 is:=xr
 hash:=JX w
 inj:=fun v a b ha hb=>by
  rcases cJ ha with⟨i,t,rfl,rfl⟩|⟨x,t,rfl,rfl⟩
  ·rcases cJ hb with⟨j,u,rfl,e⟩|⟨y,u,rfl,e⟩
   ·injection e with e1 _;rw[e1]
   ·exact nomatch e
  ·rcases cJ hb with⟨j,u,rfl,e⟩|⟨y,u,rfl,e⟩
   ·exact nomatch e
   ·injection e with e1 _;rw[e1]
 byValue:=fun k v h=>by
  rcases cJ h with⟨i,t,rfl,rfl⟩|⟨x,t,rfl,rfl⟩ <;> rfl
 pyHash:=fun hv h=>by
  rcases cJ hv with⟨i,t,rfl,rfl⟩|⟨x,t,rfl,rfl⟩
  ·exact wpAny_pyHash_int h
  ·exact wpAny_pyHash_str h
 eqBool:=fun hu hv h=>by
  rcases cJ hu with⟨i,t,rfl,rfl⟩|⟨x,t,rfl,rfl⟩
  ·rcases cJ hv with⟨j,u,rfl,rfl⟩|⟨y,u,rfl,rfl⟩
   ·rw[HW] at h;exact wpAny_eqBool_int h
   ·rw[HV] at h;exact SeqAt.EqAt.int_str i t y u _ _ _ _ h
  ·rcases cJ hv with⟨j,u,rfl,rfl⟩|⟨y,u,rfl,rfl⟩
   ·rw[HU] at h;exact SeqAt.EqAt.str_int x t j u _ _ _ _ h
   ·rw[HS] at h;exact wpAny_eqBool_str h
 «strs»:=fun k x t v h=>by
  rcases cJ h with⟨i,u,rfl,e⟩|⟨y,u,rfl,e⟩
  ·exact nomatch e
  ·injection e with e1 _
   subst e1;cases v <;> rfl
theorem uO(prog:LB)(w:LQ)(i:Int)(t:Tok):(cS prog w).is (.inl i) (.int i t)=true:=Aa i t
theorem dj(prog:LB)(w:LQ)(x:Str)(t:Tok):(cS prog w).is (.inr x) (.str x t)=true:=z_ x t
inductive V where
 |non|bl (b:Bool)|int (i:Int)|str (x:Str)|byt (b:Array UInt8)|flt (b:UInt64)|ref (a:Addr)|ty (n:String)
 deriving DecidableEq
def RelV:V->La->Prop
 |.non,u=>u=MI
 |.bl b,u=>u=Q3 b
 |.int i,u=>∃t,u=RL i t
 |.str x,u=>∃t,u=Q2 x t
 |.byt b,u=>∃t,u=La.bytes b t
 |.flt b,u=>∃t,u=U0 b t
 |.ref a,u=>u=LZ a
 |.ty n,u=>u=OP n
abbrev Vals:List V->List La->Prop:=Paired RelV
theorem Vals.length(r:Vals xs us):xs.length=us.length:=N8 r
theorem Vals.get:∀{xs:List V} {us:List La} {i:Nat} {x:V},Vals xs us->xs[i]?=some x->∃u,us[i]?=some u/\RelV x u
 |_,_,_,_,.nil,e=>by simp at e
 |_,_,0,_,.cons r _,e=>by simp at e;subst e;exact⟨_,rfl,r⟩
 |_,_,i+1,x,.cons _ t,e=>by
  obtain⟨u,h1,h2⟩:=Vals.get (i:=i) (x:=x) t (by simpa using e);exact⟨u,by simpa using h1,h2⟩
theorem Vals.set{x:V}{u:La}(r:RelV x u):∀{xs:List V} {us:List La} (i:Nat),Vals xs us->Vals (xs.set i x) (us.set i u)
 |_,_,_,.nil=>.nil
 |_,_,0,.cons _ t=>.cons r t
 |_,_,i+1,.cons q t=>.cons q (Vals.set r i t)
theorem Vals.append:∀{xs ys:List V} {us ws:List La},Vals xs us->Vals ys ws->Vals (xs++ys) (us++ws)
 |_,_,_,_,.nil,s=>s
 |_,_,_,_,.cons r t,s=>.cons r (Vals.append t s)
theorem Vals.take:∀{xs:List V} {us:List La} (n:Nat),Vals xs us->Vals (xs.take n) (us.take n)
 |_,_,0,_=>.nil
 |_,_,_+1,.nil=>.nil
 |_,_,n+1,.cons r t=>.cons r (Vals.take n t)
theorem Vals.drop:∀{xs:List V} {us:List La} (n:Nat),Vals xs us->Vals (xs.drop n) (us.drop n)
 |_,_,0,r=>r
 |_,_,_+1,.nil=>.nil
 |_,_,n+1,.cons _ t=>Vals.drop n t
def RelO:Option V->Option La->Prop
 |some v,some u=>RelV v u
 |none,none=>True
 |_,_=>False
def KV{κ:Type}:List (κ×V)->List (κ×La)->Prop:=Paired fun(p:κ×V) (q:κ×La)=>p.1=q.1/\RelV p.2 q.2
def kV:Key->V
 |.inl i=>.int i
 |.inr x=>.str x
inductive HO where
 |lst (xs:List V)
 |tup (xs:List V)
 |dK (i3:List (Key×V))|dT (i3:List (List Key×V))
 |set (S:Int->Bool) (n:Nat)
 |ins (C dx:Addr) (fs:List (Str×V))
 |own (x:Addr)
 |xd (fs:List (Str×V))
 |met (f x:Addr)
 |rng (lo hi:Int)
 |frz (o:Obj) (u:HO)
 |tbl (ps:Array La)
 |ext (φ:Heap->Prop)
abbrev Hp:=Addr->Option HO
def upd(H:Hp)(a:Addr)(o:HO):Hp:=fun b=>if b=a then some o else H b
theorem aq:upd H a o a=some o:=by unfold upd;rw[if_pos rfl]
theorem bf{a b:Addr}(h:b≠a):upd H a o b=H b:=by unfold upd;rw[if_neg h]
theorem ED:upd (upd H a o) a u=upd H a u:=by
 funext b;unfold upd;split <;> rfl
theorem CG{H:Hp}{o u:HO}(h:H a=some o)(h':H b=some u)(d:o≠u):a≠b:=by
 intro e;subst e;rw[h] at h';exact d (LD h')
theorem bA{H:Hp}{o:HO}(h:H a=some o)(h':H b=none):a≠b:=by
 intro e;subst e;rw[h] at h';cases h'
def TupD (h:Heap) (a:Addr) (items:Array La):Prop:=∃o,h.get? a=some o/\(o.cls=.type "tuple"/\∃n,o.data=.seq items n)/\o.dict=none
theorem TupD.tup{h:Heap}{a:Addr}{items:Array La}(t:TupD h a items):IsTup h a items:=let ⟨o,e,c,_⟩:=t;⟨o,e,c⟩
theorem TupD.lt(t:TupD h a items):a<h.objs.size:=t.tup.lt
theorem TupD.new(h:Heap) (items:Array La):TupD (h.push {cls:=.type "tuple",data:=.seq items}) h.objs.size items:=⟨_,LJ _ rfl,⟨rfl,_,rfl⟩,rfl⟩
section
variable(P:LB)(w:LQ)
def cP(H:Hp)(h:Heap)(a:Addr):HO->Prop
 |.lst xs=>xs.length<=sizeLine/\∃(gV:List La) (n:Nat),Vals xs gV/\h.get? a=some {cls:=.type "list",data:=.seq gV.toArray n}
 |.tup xs=>xs.length<=sizeLine/\∃gV:List La,Vals xs gV/\TupD h a gV.toArray
 |.dK i3=>i3.length<=sizeLine/\(a == sysModules)=false/\∃vs,KV i3 vs/\h.DictOf (cS P w) a vs
 |.dT i3=>i3.length<=sizeLine/\(a == sysModules)=false/\∃xs:List (List Key×Addr×La),
   Paired (fun(p:List Key×V) (q:List Key×Addr×La)=>p.1=q.1/\H q.2.1=some (.tup (p.1.map kV))/\RelV p.2 q.2.2) i3 xs /\
   ∃o es ep,h.get? a=some o/\o.ExactDict/\o.data=.dict es ep/\es.toList=xs.map (entryOfKey (tupleKind (cS P w)))/\(xs.map (·.1)).Nodup
 |.set S n=>h.SetOf (intKind P w) a S n
 |.ins C dx fs=>H dx=some (.own a)/\fs.length<=1000/\dx≠a/\h.get? a=some (Sr C dx) /\
   ∃mA,h.Ns1 dx mA/\(∀f,RelO (fs.lookup f) (mA f))/\R4 mA (fs.map (·.1))
 |.own _=>∃o,h.get? a=some o
 |.xd fs=>∃mA,h.Ns1 a mA/\∀f,RelO (fs.lookup f) (mA f)
 |.rng lo hi=>∃t u v,h.get? a=some {cls:=.type "range",data:=.fields #[.int lo t,.int hi u,.int 1 v]}
 |.frz o u=>h.get? a=some o/\cP H h a u
 |.tbl ps=>h.get? a=some {cls:=.none,data:=.fields ps}
 |.met f x=>h.get? a=some (Rl (.ref f) (.ref x))
 |.ext φ=>φ h/\(∃o,h.get? a=some o)/\∀h1 h2:Heap,φ h1->(∀o,h1.get? a=some o->h2.get? a=some o)->φ h2
def HOk(H:Hp)(h:Heap):Prop:=∀a o,H a=some o->cP P w H h a o
end
section
variable{P:LB}{w:LQ}{H H':Hp}{h h':Heap}{a:Addr}{o:HO}
theorem cP.lt(x:cP P w H h a o):a<h.objs.size:=by
 cases o with
 |lst xs=>obtain⟨_,_,_,_,e⟩:=x;exact Ls e
 |tup xs=>obtain⟨_,_,_,p⟩:=x;exact p.lt
 |dK i3=>obtain⟨_,_,_,_,o,_,_,e,_⟩:=x;exact Ls e
 |dT i3=>obtain⟨_,_,_,_,o,_,_,e,_⟩:=x;exact Ls e
 |set S n=>obtain⟨o,_,_,_,e,_⟩:=x;exact Ls e
 |ins C dx fs=>obtain⟨_,_,_,e,_⟩:=x;exact Ls e
 |own y=>obtain⟨_,e⟩:=x;exact Ls e
 |xd fs=>obtain⟨_,⟨_,_,_,e,_⟩,_⟩:=x;exact Ls e
 |rng lo hi=>obtain⟨_,_,_,e⟩:=x;exact Ls e
 |frz ob u=>obtain⟨e,_⟩:=x;exact Ls e
 |tbl ps=>exact Ls (show h.get? a=some _ from x)
 |met f y=>exact Ls (show h.get? a=some _ from x)
 |ext φ=>obtain⟨_,⟨_,e⟩,_⟩:=x;exact Ls e
theorem Paired.mapP{α β:Type}{F G:α->β->Prop}:∀{l₁:List α} {l₂:List β},Paired F l₁ l₂->(∀a b,F a b->G a b)->Paired G l₁ l₂
 |_,_,.nil,_=>.nil
 |_,_,.cons r t,f=>.cons (f _ _ r) (Paired.mapP t f)
theorem cP.stay(x:cP P w H h a o)(k:∀b u,(b=a\/H b=some (.own a))->h.get? b=some u->h'.get? b=some u)
  (ho:∀b,H b=some (.own a)->H' b=some (.own a)) (ht:∀b xs,H b=some (.tup xs)->H' b=some (.tup xs)):cP P w H' h' a o:=by
 induction o with
 |lst xs=>obtain⟨z,gV,n,r,e⟩:=x;exact⟨z,gV,n,r,k _ _ (.inl rfl) e⟩
 |tup xs=>obtain⟨z,gV,r,ob,e,c⟩:=x;exact⟨z,gV,r,ob,k _ _ (.inl rfl) e,c⟩
 |dK i3=>obtain⟨z,y,vs,r,ob,es,ep,e,c⟩:=x;exact⟨z,y,vs,r,ob,es,ep,k _ _ (.inl rfl) e,c⟩
 |dT i3 =>
  obtain⟨z,y,xs,r,ob,es,ep,e,c⟩:=x;exact⟨z,y,xs,Paired.mapP r fun p q z=>⟨z.1,ht _ _ z.2.1,z.2.2⟩,ob,es,ep,k _ _ (.inl rfl) e,c⟩
 |set S n=>obtain⟨ob,es,ep,t,e,c⟩:=x;exact⟨ob,es,ep,t,k _ _ (.inl rfl) e,c⟩
 |ins C dx fs =>
  obtain⟨d,z,ne,e,mA,⟨od,es,ep,e2,c⟩,r⟩:=x;exact⟨ho _ d,z,ne,k _ _ (.inl rfl) e,mA,⟨od,es,ep,k _ _ (.inr d) e2,c⟩,r⟩
 |own y=>obtain⟨ob,e⟩:=x;exact⟨ob,k _ _ (.inl rfl) e⟩
 |xd fs=>obtain⟨mA,⟨od,es,ep,e,c⟩,r⟩:=x;exact⟨mA,⟨od,es,ep,k _ _ (.inl rfl) e,c⟩,r⟩
 |rng lo hi=>obtain⟨t,u,v,e⟩:=x;exact⟨t,u,v,k _ _ (.inl rfl) e⟩
 |frz ob u ih=>obtain⟨e,q⟩:=x;exact⟨k _ _ (.inl rfl) e,ih q⟩
 |tbl ps =>
  have e:h.get? a=some {cls:=.none,data:=.fields ps}:=x;show h'.get? a=some {cls:=.none,data:=.fields ps};exact k a _ (.inl rfl) e
 |met f y =>
  have e:h.get? a=some (Rl (.ref f) (.ref y)):=x;show h'.get? a=some (Rl (.ref f) (.ref y));exact k a _ (.inl rfl) e
 |ext φ=>obtain⟨p,⟨o,e⟩,st⟩:=x;exact⟨st _ _ p fun o q=>k _ _ (.inl rfl) q,⟨o,k _ _ (.inl rfl) e⟩,st⟩
theorem HOk.lt(x:HOk P w H h)(e:H a=some o):a<h.objs.size:=(x a o e).lt
theorem HOk.fresh(x:HOk P w H h)(e:h.objs.size<=a):H a=none:=by
 cases q:H a with
 |none=>rfl
 |some u=>exact absurd (LR (x.lt q) e) (N9 _)
theorem HOk.kept(x:HOk P w H h)(k:∀b u,h.get? b=some u->h'.get? b=some u):HOk P w H h':=fun a o e =>
 (x a o e).stay (fun b u _ q=>k b u q) (fun _ q=>q) fun _ _ q=>q
theorem HOk.laid(x:HOk P w H h)(k:∀b u,h.get? b=some u->h'.get? b=some u)(hp:h.objs.size<=a)(new:cP P w (upd H a o) h' a o):HOk P w (upd H a o) h':=fun b u e=>by
 have hn:=x.fresh hp;by_cases hb:b=a
 ·subst hb;rw[aq] at e;cases e;exact new
 ·rw[bf hb] at e;exact(x b u e).stay (fun c v _ q=>k c v q) (fun c q=>by rw[bf (bA q hn)];exact q) fun c xs q=>by rw[bf (bA q hn)];exact q
end
def Rd(H:Hp)(a:Addr)(u:HO):Prop:=H a=some u\/∃o,H a=some (.frz o u)
theorem Rd.ok(r:Rd H a u)(x:HOk P w H h):cP P w H h a u:=by
 rcases r with r|⟨o,r⟩
 ·exact x a u r
 ·obtain⟨_,q⟩:=x a _ r;exact q
def Jm:Option HO->Prop
 |some (.lst _)=>True
 |some (.dK _)=>True
 |some (.dT _)=>True
 |some (.set _ _)=>True
 |some (.ins _ _ _)=>True
 |some (.ext _)=>True
 |_=>False
section
variable{P:LB}{w:LQ}{H:Hp}{h h':Heap}{x e:Addr}{o':HO}
theorem HOk.write(ok:HOk P w H h)(mu:Jm (H x))(he:e=x\/H e=some (.own x))(k:∀b u,b≠e->h.get? b=some u->h'.get? b=some u)(Yt:∃u,h'.get? e=some u)
  (new:cP P w (upd H x o') h' x o'):HOk P w (upd H x o') h':=fun b u q=>by
 have Zx:∀c y,H c=some (.own y)->c≠x:=fun c y r z=>by subst z;rw[r] at mu;exact mu
 have ntup:∀c xs,H c=some (.tup xs)->c≠x:=fun c xs r z=>by subst z;rw[r] at mu;exact mu
 by_cases hb:b=x
 ·subst hb;rw[aq] at q;cases q;exact new
 ·rw[bf hb] at q;by_cases W8:b=e
  ·have q':H b=some (.own x):=by
    rcases he with z|z
    ·exact absurd (W8.trans z) hb
    ·rw[W8];exact z
   rw[q] at q';cases q';obtain⟨v,hv⟩:=Yt;exact⟨v,by rw[W8];exact hv⟩
  ·refine(ok b u q).stay (fun c v hc r=>k c v ?_ r) (fun c r=>by rw[bf (Zx c b r)];exact r) fun c xs r=>by rw[bf (ntup c xs r)];exact r
   rcases hc with rfl|hc
   ·exact W8
   ·rintro rfl;rcases he with z|z
    ·exact Zx c b hc z
    ·rw[hc] at z;cases z;exact hb rfl
end
structure Un (fs ex:List Addr) (H H':Hp) (h h':Heap):Prop where
 keep:∀b o,h.get? b=some o->H b=none->b∉fs->b∉ex->h'.get? b=some o
 slot:∀b o,h.get? b=some o->H b=none->b∈fs->b∉ex->∃sl,h'.get? b=some {o with slots:=sl}
 free:∀b o,h.get? b=some o->H b=none->b∉ex->H' b=none
 there:∀b o,h.get? b=some o->b∉ex->∃o',h'.get? b=some o'
 tups:∀b xs,H b=some (.tup xs)->H' b=some (.tup xs)
 frzs:∀b o u,H b=some (.frz o u)->H' b=some (.frz o u)
 tbls:∀b ps,H b=some (.tbl ps)->∃more,H' b=some (.tbl (ps++more))
section
variable{fs fs' ex ex':List Addr}{H H1 H2:Hp}{h h1 h2 h':Heap}{a x e:Addr}{o:HO}
theorem Un.any(u:Un fs ex H H1 h h1){b:Addr}{ob:Obj}(q:h.get? b=some ob)(n:H b=none)(hx:b∉ex):∃sl,h1.get? b=some {ob with slots:=sl}:=by
 by_cases hb:b∈fs
 ·exact u.slot b ob q n hb hx
 ·exact⟨ob.slots,u.keep b ob q n hb hx⟩
theorem Un.kept(k:∀b u,h.get? b=some u->h'.get? b=some u):Un fs ex H H h h' :=
 ⟨fun b ob q _ _ _=>k b ob q,fun b ob q _ _ _=>⟨ob.slots,k b ob q⟩,fun _ _ _ n _=>n,fun b ob q _=>⟨ob,k b ob q⟩,fun _ _ q=>q,fun _ _ _ q=>q,fun _ ps q=>⟨#[],by rw[q];simp⟩⟩
theorem Un.refl:Un fs ex H H h h:=Un.kept fun _ _ q=>q
theorem Un.laid(k:∀b u,h.get? b=some u->h'.get? b=some u)(hp:h.objs.size<=a)(hn:H a=none):Un fs ex H (upd H a o) h h' where
 keep:=fun b u q _ _ _=>k b u q
 slot:=fun b u q _ _ _=>⟨u.slots,k b u q⟩
 free:=fun b u q n _=>by rw[bf (LA (LR (Ls q) hp))];exact n
 there:=fun b u q _=>⟨u,k b u q⟩
 tups:=fun b xs q=>by rw[bf (bA q hn)];exact q
 frzs:=fun b u xs q=>by rw[bf (bA q hn)];exact q
 tbls:=fun b ps q=>⟨#[],by rw[bf (bA q hn),q];simp⟩
theorem Un.write(mu:Jm (H x))(he:e=x\/H e=some (.own x))(k:∀b u,b≠e->h.get? b=some u->h'.get? b=some u)(Yt:∃u,h'.get? e=some u):Un fs ex H (upd H x o) h h':=by
 have hx:∀b,H b=none->b≠x:=fun b n z=>by subst z;rw[n] at mu;exact mu
 have hb:∀b,H b=none->b≠e:=fun b n z=>by
  subst z;rcases he with r|r
  ·exact hx b n r
  ·rw[n] at r;cases r
 have hm:∀b u,H b=some u->¬ Jm (some u)->b≠x:=fun b u q nm z=>by subst z;rw[q] at mu;exact nm mu
 refine⟨fun b u q n _ _=>k b u (hb b n) q,fun b u q n _ _=>⟨u.slots,k b u (hb b n) q⟩,fun b u q n _=>by rw[bf (hx b n)];exact n,fun b u q _=>?_,
  fun b xs q=>by rw[bf (hm b _ q fun z=>z)];exact q,fun b u xs q=>by rw[bf (hm b _ q fun z=>z)];exact q,fun b ps q=>⟨#[],by rw[bf (hm b _ q fun z=>z),q];simp⟩⟩
 by_cases W8:b=e
 ·subst W8;exact Yt
 ·exact⟨u,k b u W8 q⟩
end
def Ju(h:Heap)(H:Hp):List Addr:=(Mo h.objs.size).filter fun a=>(H a).isSome
def pW(h:Heap)(H:Hp):Heap:=OW h (Ju h H)
theorem Au(h:Heap)(H:Hp):(pW h H).objs.size=h.objs.size:=PySem.W.hideAll_size _ _
theorem CZ{h:Heap}{H:Hp}{b:Addr}{o:Obj}(e:h.get? b=some o)(n:H b=none):(pW h H).get? b=some o :=
 Tz _ e fun hm=>by
  have q:(H b).isSome=true:=(M7.mp hm).2;rw[n] at q;simp at q
theorem FM{b:Addr}{o:Obj}(e:(pW h H).get? b=some o):h.get? b=some o/\H b=none:=by
 have e':h.get? b=some o:=Q4 (Ju h H) e;refine⟨e',?_⟩;cases q:H b with
 |none=>rfl
 |some x =>
  have hm:b∈Ju h H:=M7.mpr ⟨Nt.mpr (Ls e'),by simp[q]⟩;have z:(pW h H).get? b=none:=PySem.W.hideAll_none (Ju h H) hm;rw[z] at e;cases e
structure Mod (K:Fg) (mg:Str->Option La) (base:Heap):Prop where
 kin:K.In base
 glob:base.Ns mainGlobals mg
 blt:∃mb,base.Ns builtinsNs mb/\∀x:Str,x≠"__name__"->mb x=bootBuiltins x
 nolimit:base.NoLimit
structure Cx where
 prog:LB
 w:LQ
 K:Fg
 mg:Str->Option La
 base:Heap
 A:Mf
 N:List Str
 s₀:Le
 H₀:Hp
 env:Env
 outer:List Env
 stack:List Env
 ex:List Addr
 fn:Str->Bool
 calm:Bool
 pn:List (Addr×Obj)
 xe:La->Le->Prop
def frs(l:List Env):List Addr:=l.filterMap (·.frame)
abbrev Cx.fs(X:Cx):List Addr:=frs X.outer
def Jy(sc:Scope)(x:Str):Prop:=sc.names.lookup x=some .local\/sc.names.lookup x=some .cell\/sc.names.lookup x=some .free
def Loc(sc:Scope)(x:Str):Prop:=sc.names.lookup x=some .local\/sc.names.lookup x=some .cell
def Look(env:Env)(h:Heap)(m:Str->Option La)(x:Str)(u:La):Prop :=
 (env.kindOf x=some .local/\m x=some u)\/((env.kindOf x=some .cell\/env.kindOf x=some .free)/\∃c,env.cells.lookup x=some c/\h.IsCell c (some u))
structure Cx.Ok (X:Cx):Prop where
 mod:Mod X.K X.mg X.base
 kind:X.env.scope.kind=.function
 glob:X.env.globals=mainGlobals
 blt:X.env.builtins=builtinsNs
 above:X.s₀.heap.objs.size<=X.env.locals
 inj:∀x y c,X.env.cells.lookup x=some c->X.env.cells.lookup y=some c->x=y
 has:∀x,(X.env.kindOf x=some .cell\/X.env.kindOf x=some .free)->∃c,X.env.cells.lookup x=some c
 cab:∀x c,X.fn x=true->X.env.cells.lookup x=some c->X.s₀.heap.objs.size<=c
 hd:X.calm=true->X.A.handled=none
 frames:X.A.frames=some X.stack
 stk:X.stack=X.outer\/(X.stack=X.env :: X.outer/\X.env.frame=some X.env.locals)
 exf:∀b∈X.ex,b≠X.env.locals/\∀x c,X.env.cells.lookup x=some c->c≠b
 bs:∀b o,X.base.get? b=some o->X.s₀.heap.get? b=some o/\X.H₀ b=none
 bsz:X.base.objs.size<=X.s₀.heap.objs.size
 noex:∀b o,X.base.get? b=some o->b∉X.ex
 exfs:∀b∈X.ex,b∉X.fs
 funs:X.s₀.heap.FunFrames X.base X.outer
 frf:∀b∈X.fs,X.H₀ b=none
structure Inv (X:Cx) (pins:List (Addr×Obj)) (σ:List (Option V)) (H:Hp) (s:Le):Prop where
 ok:X.Ok
 os:s.os=X.s₀.os
 bare:Qx s.gens
 base:Un X.fs X.ex X.H₀ H X.s₀.heap s.heap
 loc:∃m,s.heap.Ns X.env.locals m/\∀(i:Nat) (x:Str) (v:V),X.N[i]?=some x->σ[i]?=some (some v)->Jy X.env.scope x->∃u,RelV v u/\Look X.env s.heap m x u
 cell:∀x c,X.env.cells.lookup x=some c->∃v,s.heap.IsCell c v
 free:H X.env.locals=none
 freeC:∀x c,X.env.cells.lookup x=some c->H c=none
 pin:∀p∈X.pn++pins,s.heap.get? p.1=some p.2/\H p.1=none/\p.1≠X.env.locals/\p.1∉X.fs/\∀v,p.2.data≠.cell v
 hok:HOk X.prog X.w H s.heap
 len:σ.length=X.N.length
section
variable{X:Cx}{pins:List (Addr×Obj)}{σ:List (Option V)}{H H':Hp}{s:Le}{h':Heap}
theorem Cx.Ok.nofr(ok:X.Ok){b:Addr}{o:Obj}(e:X.base.get? b=some o):b∉X.fs:=fun hb=>by
 have:=(ok.funs.mem hb).1
 rw[e] at this;cases this
theorem Inv.bs(I:Inv X pins σ H s):∀b o,X.base.get? b=some o->s.heap.get? b=some o/\H b=none:=fun b o e =>
 ⟨I.base.keep b o (I.ok.bs b o e).1 (I.ok.bs b o e).2 (I.ok.nofr e) (I.ok.noex b o e),I.base.free b o (I.ok.bs b o e).1 (I.ok.bs b o e).2 (I.ok.noex b o e)⟩
theorem Inv.bk(I:Inv X pins σ H s):∀b o,X.base.get? b=some o->s.heap.get? b=some o:=fun b o e=>(I.bs b o e).1
theorem Inv.mod(I:Inv X pins σ H s):Mod X.K X.mg X.base:=I.ok.mod
theorem Inv.kIn(I:Inv X pins σ H s):X.K.In s.heap:=I.ok.mod.kin.keeps I.bk
theorem Inv.lt(I:Inv X pins σ H s):X.env.locals<s.heap.objs.size:=let ⟨_,hn,_⟩:=I.loc;hn.lt
theorem Inv.sz(I:Inv X pins σ H s):X.s₀.heap.objs.size<=s.heap.objs.size:=Mh I.ok.above (M0 I.lt)
theorem Inv.nofs(I:Inv X pins σ H s){a:Addr}(h:s.heap.objs.size<=a):a∉X.fs:=fun hb=>by
 obtain⟨_,o,ho,_⟩:=I.ok.funs.mem hb;exact absurd (LR (Ls ho) (Mh I.sz h)) (N9 _)
theorem Inv.cne(I:Inv X pins σ H s):∀x c,X.env.cells.lookup x=some c->c≠X.env.locals:=fun x c e z=>by
 obtain⟨v,o,ho,hd⟩:=I.cell x c e;obtain⟨m,⟨o',es,ep,WV,W9,_⟩,_⟩:=I.loc;rw[z,WV] at ho;cases ho;rw[W9] at hd;cases hd
theorem Inv.funs(I:Inv X pins σ H s):s.heap.FunFrames X.base X.outer:=by
 have all:∀(l:List Env),(∀b∈frs l,b∈X.fs)->X.s₀.heap.FunFrames X.base l->s.heap.FunFrames X.base l:=by
  intro l
  induction l with
  |nil=>intro _ _;trivial
  |cons env r ih =>
   intro hs hl;obtain⟨hk,⟨L,o,hf,hn,ho,hd⟩,hr⟩:=hl;have hL:L∈X.fs:=hs L (by unfold frs;rw[MC,hf];exact Lg);obtain⟨sl,e⟩:=I.base.slot L o ho (I.ok.frf L hL) hL fun z=>I.ok.exfs L z hL
   exact⟨hk,⟨L,_,hf,hn,e,hd⟩,ih (fun b hb=>hs b (by unfold frs;rw[MC,hf];exact Lj _ hb)) hr⟩
 exact all X.outer (fun _ hb=>hb) I.ok.funs
theorem Inv.stack(I:Inv X pins σ H s):s.heap.FunFrames X.base X.stack:=by
 rcases I.ok.stk with e|⟨e,hf⟩
 ·rw[e];exact I.funs
 ·rw[e];obtain⟨m,hn,_⟩:=I.loc;refine .cons (by rw[I.ok.kind];decide) hf hn ?_ I.funs;exact QE (Mh I.ok.bsz I.ok.above)
theorem Inv.yh(I:Inv X pins σ H s):∀b∈frs X.stack,b∈X.env.locals :: X.fs:=fun b hb=>by
 rcases I.ok.stk with e|⟨e,hf⟩
 ·rw[e] at hb;exact Lj _ hb
 ·rw[e] at hb;unfold frs at hb;rw[MC,hf] at hb;exact hb
theorem Inv.kH(I:Inv X pins σ H s):∀b∈frs X.stack,H b=none:=fun b hb=>by
 rcases Lr.mp (I.yh b hb) with e|hb
 ·rw[e];exact I.free
 ·obtain⟨_,o,ho,_⟩:=I.ok.funs.mem hb;exact I.base.free b o ho (I.ok.frf b hb) fun z=>I.ok.exfs b z hb
theorem Inv.step{t':Nat}{d':Drawn}{ch:List Addr}(I:Inv X pins σ H s)
  (hch:∀b∈ch,(b∈X.ex\/X.s₀.heap.objs.size<=b)/\b≠X.env.locals/\(∀x c,X.env.cells.lookup x=some c->c≠b)/\∀p∈X.pn++pins,p.1≠b)
  (keep:∀b o,b≠X.env.locals->b∉X.fs->b∉ch->s.heap.get? b=some o->H b=none->h'.get? b=some o)
  (slot:∀b o,b≠X.env.locals->b∈X.fs->b∉ch->s.heap.get? b=some o->H b=none->∃sl,h'.get? b=some {o with slots:=sl}) (free:∀b o,b∉ch->s.heap.get? b=some o->H b=none->H' b=none)
  (there:∀b o,b∉ch->s.heap.get? b=some o->∃o',h'.get? b=some o')
  (tups:∀b xs,H b=some (.tup xs)->H' b=some (.tup xs)) (frzs:∀b o u,H b=some (.frz o u)->H' b=some (.frz o u)) (tbls:∀b ps,H b=some (.tbl ps)->∃more,H' b=some (.tbl (ps++more)))
  (ns:∀m,s.heap.Ns X.env.locals m->h'.Ns X.env.locals m) (hok:HOk X.prog X.w H' h') (hg:Qx g') :
  Inv X pins σ H' {s with heap:=h',gens:=g',drawn:=d',toks:=t'}:=by
 have neL:∀b o,X.s₀.heap.get? b=some o->b≠X.env.locals:=fun b o e=>LA (LR (Ls e) I.ok.above)
 have Yj:∀b o,X.s₀.heap.get? b=some o->b∉X.ex->b∉ch:=fun b o e hx hb=>by
  rcases (hch b hb).1 with z|z
  ·exact hx z
  ·exact absurd (LR (Ls e) z) (N9 _)
 have cellK:∀x c,X.env.cells.lookup x=some c->∀v,s.heap.IsCell c v->h'.IsCell c v:=fun x c e v ⟨o,ho,hd⟩=>by
  have Zs:c∉ch:=fun z=>(hch c z).2.2.1 x c e rfl
  by_cases hc:c∈X.fs
  ·obtain⟨sl,q⟩:=slot c o (I.cne x c e) hc Zs ho (I.freeC x c e);exact⟨_,q,hd⟩
  ·exact⟨o,keep c o (I.cne x c e) hc Zs ho (I.freeC x c e),hd⟩
 refine⟨I.ok,I.os,hg,⟨fun b o e n hb hx=>?_,fun b o e n hb hx=>?_,fun b o e n hx=>?_,fun b o e hx=>?_,fun b xs e=>tups b xs (I.base.tups b xs e),fun b o xs e=>frzs b o xs (I.base.frzs b o xs e),fun b ps e=>?_⟩,?_,fun x c e=>?_,?_,fun x c e=>?_,fun p hp=>?_,hok,I.len⟩
 ·exact keep b o (neL b o e) hb (Yj b o e hx) (I.base.keep b o e n hb hx) (I.base.free b o e n hx)
 ·obtain⟨sl,e1⟩:=I.base.slot b o e n hb hx;obtain⟨W4,e2⟩:=slot b _ (neL b o e) hb (Yj b o e hx) e1 (I.base.free b o e n hx);exact⟨W4,e2⟩
 ·obtain⟨o',e1⟩:=I.base.there b o e hx;exact free b o' (Yj b o e hx) e1 (I.base.free b o e n hx)
 ·obtain⟨o',e1⟩:=I.base.there b o e hx;exact there b o' (Yj b o e hx) e1
 ·obtain⟨m1,e1⟩:=I.base.tbls b ps e;obtain⟨m2,e2⟩:=tbls b _ e1;exact⟨m1++m2,by rw[e2,T2]⟩
 ·obtain⟨m,hn,hl⟩:=I.loc;refine⟨m,ns m hn,fun i x v e1 e2 e3=>?_⟩;obtain⟨u,r,l⟩:=hl i x v e1 e2 e3;refine⟨u,r,?_⟩;rcases l with l|⟨k,c,e,z⟩
  ·exact .inl l
  ·exact .inr ⟨k,c,e,cellK x c e _ z⟩
 ·obtain⟨v,z⟩:=I.cell x c e;exact⟨v,cellK x c e v z⟩
 ·obtain⟨m,⟨o,_,_,ho,_⟩,_⟩:=I.loc;exact free _ o (fun z=>(hch _ z).2.1 rfl) ho I.free
 ·obtain⟨v,o,ho,hd⟩:=I.cell x c e;exact free c o (fun z=>(hch c z).2.2.1 x c e rfl) ho (I.freeC x c e)
 ·obtain⟨e,n,ne,nf,d⟩:=I.pin p hp;have Zs:p.1∉ch:=fun z=>(hch p.1 z).2.2.2 p hp rfl
  exact⟨keep p.1 p.2 ne nf Zs e n,free p.1 p.2 Zs e n,ne,nf,d⟩
theorem Inv.un{t':Nat}(I:Inv X pins σ H s)(u:Un X.fs [] H H' s.heap h')(hok:HOk X.prog X.w H' h'):Inv X pins σ H' {s with heap:=h',toks:=t'}:=by
 obtain⟨m,⟨o,es,ep,ho,r⟩,_⟩:=id I.loc;obtain⟨sl,hL⟩:=u.any ho I.free (by simp)
 exact I.step (g':=s.gens) (d':=s.drawn) (ch:=[]) (fun _ z=>nomatch z) (fun b o _ hb _ e n=>u.keep b o e n hb (by simp)) (fun b o _ hb _ e n=>u.slot b o e n hb (by simp)) (fun b o _ e n=>u.free b o e n (by simp)) (fun b o _ e=>u.there b o e (by simp)) u.tups u.frzs u.tbls (fun m' hm=>by
  obtain⟨o',Wm,X2,WV,r'⟩:=hm
  rw[ho] at WV;cases WV
  exact⟨_,Wm,X2,hL,r'⟩) hok I.bare
theorem Inv.call{t':Nat}{d':Drawn}(I:Inv X pins σ H s)(u:Un (frs X.stack) ch H H' s.heap h')(hok:HOk X.prog X.w H' h')(hg:Qx g')
  (hch:∀b∈ch,(b∈X.ex\/X.s₀.heap.objs.size<=b)/\b≠X.env.locals/\(∀x c,X.env.cells.lookup x=some c->c≠b)/\∀p∈X.pn++pins,p.1≠b) :
  Inv X pins σ H' {s with heap:=h',gens:=g',drawn:=d',toks:=t'}:=by
 obtain⟨m,⟨o,es,ep,ho,r⟩,_⟩:=id I.loc;obtain⟨sl,hL⟩:=u.any ho I.free fun z=>(hch _ z).2.1 rfl
 exact I.step (ch:=ch) hch (fun b o hL hb hc e n=>u.keep b o e n (fun z=>(Lr.mp (I.yh b z)).elim hL hb) hc) (fun b o _ _ hc e n=>u.any e n hc) (fun b o hc e n=>u.free b o e n hc) (fun b o hc e=>u.there b o e hc) u.tups u.frzs u.tbls (fun m' hm=>by
  obtain⟨o',Wm,X2,WV,r'⟩:=hm
  rw[ho] at WV;cases WV
  exact⟨_,Wm,X2,hL,r'⟩) hok hg
theorem Inv.turned{t':Nat}{it:Addr}(I:Inv X pins σ H s)(k:∀b o,b≠it->s.heap.get? b=some o->h'.get? b=some o)(hn:H it=none)(hL:it≠X.env.locals)
  (h1:it∈X.ex\/X.s₀.heap.objs.size<=it) (h2:∀x c,X.env.cells.lookup x=some c->c≠it) (h3:∀p∈X.pn++pins,p.1≠it):Inv X pins σ H {s with heap:=h',toks:=t'}:=by
 have Zt:∀b u,H b=some u->b≠it:=fun b u e z=>by rw[z,hn] at e;cases e
 refine I.step (g':=s.gens) (d':=s.drawn) (ch:=[it]) (fun b hb=>?_) (fun b o _ _ hc e _=>k b o (fun z=>hc (by simp[z])) e) (fun b o _ _ hc e _=>⟨o.slots,k b o (fun z=>hc (by simp[z])) e⟩) (fun _ _ _ _ n=>n)
  (fun b o hc e=>⟨o,k b o (fun z=>hc (by simp[z])) e⟩) (fun _ _ e=>e) (fun _ _ _ e=>e) (fun b ps e=>⟨#[],by rw[e];simp⟩) (fun m hm=>?_) (fun b u e=>?_) I.bare
 ·have e:b=it:=by simpa using hb
  subst e;exact⟨h1,hL,h2,h3⟩
 ·obtain⟨o,es,ep,ho,r⟩:=hm;exact⟨o,es,ep,k _ o (Nd hL) ho,r⟩
 ·refine(I.hok b u e).stay (fun c v hc q=>k c v ?_ q) (fun _ q=>q) fun _ _ q=>q
  rcases hc with z|z
  ·rw[z];exact Zt b u e
  ·exact Zt c _ z
theorem Inv.tok(I:Inv X pins σ H s)(t:Nat):Inv X pins σ H {s with toks:=t}:=I.un (h':=s.heap) (t':=t) Un.refl I.hok
theorem Inv.kept{t':Nat}(I:Inv X pins σ H s)(k:∀b u,s.heap.get? b=some u->h'.get? b=some u):Inv X pins σ H {s with heap:=h',toks:=t'}:=I.un (Un.kept k) (I.hok.kept k)
theorem Inv.laid{a:Addr}{t':Nat}(I:Inv X pins σ H s)(k:∀b u,s.heap.get? b=some u->h'.get? b=some u)(hp:s.heap.objs.size<=a)(new:cP X.prog X.w (upd H a o) h' a o) :
  Inv X pins σ (upd H a o) {s with heap:=h',toks:=t'}:=I.un (Un.laid k hp (I.hok.fresh hp)) (I.hok.laid k hp new)
theorem Inv.write{e:Addr}{t':Nat}(I:Inv X pins σ H s)(mu:Jm (H x))(he:e=x\/H e=some (.own x))(k:∀b u,b≠e->s.heap.get? b=some u->h'.get? b=some u)(Yt:∃u,h'.get? e=some u)
  (new:cP X.prog X.w (upd H x o) h' x o):Inv X pins σ (upd H x o) {s with heap:=h',toks:=t'}:=I.un (Un.write mu he k Yt) (I.hok.write mu he k Yt new)
theorem Inv.zm{Xf:List (Addr×Obj)}(I:Inv X pins σ H s)(h:∀p∈Xf,s.heap.get? p.1=some p.2/\H p.1=none/\p.1≠X.env.locals/\p.1∉X.fs/\∀v,p.2.data≠.cell v):Inv X Xf σ H s :=
 ⟨I.ok,I.os,I.bare,I.base,I.loc,I.cell,I.free,I.freeC,fun p hp=>(L5.mp hp).elim (fun z=>I.pin p (MP _ z)) (h p),I.hok,I.len⟩
theorem gT{N:List Str}(hN:N.Nodup){i j:Nat}{x:Str}(a:N[i]?=some x)(b:N[j]?=some x):i=j:=by
 obtain⟨h1,e1⟩:=K_.mp a;obtain⟨h2,e2⟩:=K_.mp b;exact(List.getElem_inj hN).mp (e1.trans e2.symm)
theorem kG{i:Nat}{x:Str}{Q:Unit->Le->Prop}(I:Inv X pins σ H s)(hN:X.N.Nodup)(hi:X.N[i]?=some x)(hx:Loc X.env.scope x)(r:RelV v u)
  (h:∀s',Inv X pins (σ.set i (some v)) H s'->(∃a,Pr a s.heap s'.heap/\(a=X.env.locals\/X.env.cells.lookup x=some a))->Q () s') (hf:X.fn x=true\/X.env.scope.names.lookup x=some .local:=by first|exact .inl rfl|exact .inr rfl|assumption):wpAny M A (storeName X.env x u) Q E s:=by
 obtain⟨m,hn,hl⟩:=id I.loc;have X8:(X.env.scope.kind == .class || (X.env.scope.kind == .module && X.env.locals != X.env.globals))=false:=by rw[I.ok.kind];rfl
 have WM:i<σ.length:=by rw[I.len];exact(K_.mp hi).1
 have cne:=I.cne
 have tracked:∀{a:Addr} {h':Heap},(∃o,s.heap.get? a=some o/\H a=none)->Pr a s.heap h'->HOk X.prog X.w H h':=fun {a h'} ha hs b ob e=>by
  obtain⟨_,_,WC⟩:=ha;refine(I.hok b ob e).stay (fun c w' hc q=>(hs.2 c ?_).trans q) (fun _ q=>q) fun _ _ q=>q
  rintro rfl;rcases hc with rfl|hc
  ·rw[WC] at e;cases e
  ·rw[WC] at hc;cases hc
 rcases hx with hk|hk
 ·refine wpAny_storeName_local hk hn (fun h' Yv hs=>?_) X8;obtain⟨oL,_,_,hoL,_⟩:=id hn;refine h _ ⟨I.ok,I.os,I.bare,⟨fun b o e n hb hx=>?_,fun b o e n hb hx=>?_,I.base.free,fun b o e hx=>?_,I.base.tups,I.base.frzs,I.base.tbls⟩,⟨_,Yv,fun j y v' e1 e2 e3=>?_⟩,fun y c e=>?_,I.free,I.freeC,fun p hp=>?_,tracked ⟨oL,hoL,I.free⟩ hs,by simpa using I.len⟩ ⟨_,hs,.inl rfl⟩
  ·exact(hs.2 b (LA (LR (Ls e) I.ok.above))).trans (I.base.keep b o e n hb hx)
  ·obtain⟨sl,e1⟩:=I.base.slot b o e n hb hx;exact⟨sl,(hs.2 b (LA (LR (Ls e) I.ok.above))).trans e1⟩
  ·obtain⟨o',e1⟩:=I.base.there b o e hx;exact⟨o',(hs.2 b (LA (LR (Ls e) I.ok.above))).trans e1⟩
  ·by_cases hj:j=i
   ·subst hj;rw[hi] at e1;cases e1;rw[Nu WM] at e2;cases e2;exact⟨u,r,.inl ⟨hk,by simp⟩⟩
   ·rw[NW (Nd hj)] at e2;obtain⟨u',r',q⟩:=hl j y v' e1 e2 e3;refine⟨u',r',?_⟩;rcases q with⟨k,e⟩|⟨k,c,e,z⟩
    ·refine .inl ⟨k,?_⟩
     have:y≠x:=fun e=>hj (gT hN e1 (e ▸ hi))
     simp[this,e]
    ·exact .inr ⟨k,c,e,z.sameBut hs (cne y c e)⟩
  ·obtain⟨w',z⟩:=I.cell y c e;exact⟨w',z.sameBut hs (cne y c e)⟩
  ·obtain⟨e,n,ne,nf,d⟩:=I.pin p hp;exact⟨(hs.2 p.1 ne).trans e,n,ne,nf,d⟩
 ·have hfn:X.fn x=true:=by
   rcases hf with z|z
   ·exact z
   ·rw[z] at hk;cases hk
  obtain⟨c,hc⟩:=I.ok.has x (.inl hk);obtain⟨w',z⟩:=I.cell x c hc;refine wpAny_storeName_cell I.ok.kind hk hc z (fun h' V9 hs=>?_);obtain⟨oc,Yw,hocd⟩:=id z;refine h {s with heap:=h'} ⟨I.ok,I.os,I.bare,⟨fun b o e n hb hx=>?_,fun b o e n hb hx=>?_,I.base.free,fun b o e hx=>?_,I.base.tups,I.base.frzs,I.base.tbls⟩,⟨m,hn.sameBut hs (Nd (cne x c hc)),fun j y v' e1 e2 e3=>?_⟩,fun y c' e=>?_,I.free,I.freeC,fun p hp=>?_,tracked ⟨oc,Yw,I.freeC x c hc⟩ hs,by simpa using I.len⟩ ⟨c,hs,.inr hc⟩
  ·exact(hs.2 b (LA (LR (Ls e) (I.ok.cab x c hfn hc)))).trans (I.base.keep b o e n hb hx)
  ·obtain⟨sl,e1⟩:=I.base.slot b o e n hb hx;exact⟨sl,(hs.2 b (LA (LR (Ls e) (I.ok.cab x c hfn hc)))).trans e1⟩
  ·obtain⟨o',e1⟩:=I.base.there b o e hx;exact⟨o',(hs.2 b (LA (LR (Ls e) (I.ok.cab x c hfn hc)))).trans e1⟩
  ·by_cases hj:j=i
   ·subst hj;rw[hi] at e1;cases e1;rw[Nu WM] at e2;cases e2;exact⟨u,r,.inr ⟨.inl hk,c,hc,V9⟩⟩
   ·rw[NW (Nd hj)] at e2;obtain⟨u',r',q⟩:=hl j y v' e1 e2 e3;refine⟨u',r',?_⟩;rcases q with q|⟨k,c',e,z'⟩
    ·exact .inl q
    ·refine .inr ⟨k,c',e,z'.sameBut hs ?_⟩;rintro rfl;exact hj (gT hN e1 (I.ok.inj _ _ _ e hc ▸ hi))
  ·by_cases hcc:c'=c
   ·subst hcc;exact⟨_,V9⟩
   ·obtain⟨w2,z2⟩:=I.cell y c' e;exact⟨w2,z2.sameBut hs hcc⟩
  ·obtain⟨e,n,ne,nf,d⟩:=I.pin p hp;refine⟨(hs.2 p.1 ?_).trans e,n,ne,nf,d⟩;intro q;rw[q,Yw] at e;have q':oc=p.2:=LD e;exact d w' (by rw[<- q'];exact hocd)
theorem iI{i:Nat}{x:Str}{Q:Unit->Le->Prop}(I:Inv X pins σ H s)(hN:X.N.Nodup)(hi:X.N[i]?=some x)(hx:Loc X.env.scope x)(r:RelV v u)
  (h:∀s',Inv X pins (σ.set i (some v)) H s'->Q () s') (hf:X.fn x=true\/X.env.scope.names.lookup x=some .local:=by first|exact .inl rfl|exact .inr rfl|assumption):wpAny M A (storeName X.env x u) Q E s :=
 kG I hN hi hx r (fun s' I' _=>h s' I') hf
theorem Inv.call'{s':Le}(I:Inv X pins σ H s)(ho:s'.os=s.os)(u:Un (frs X.stack) ch H H' s.heap s'.heap)(hok:HOk X.prog X.w H' s'.heap)(hg:Qx s'.gens)
  (hch:∀b∈ch,(b∈X.ex\/X.s₀.heap.objs.size<=b)/\b≠X.env.locals/\(∀x c,X.env.cells.lookup x=some c->c≠b)/\∀p∈X.pn++pins,p.1≠b):Inv X pins σ H' s':=by
 obtain⟨h',g',d',t',o'⟩:=s';have e:o'=s.os:=ho;subst e;exact I.call (g':=g') (t':=t') (d':=d') u hok hg hch
end
abbrev XK:=La->Option Addr->Hp->Prop
abbrev St:=List (Option V)
abbrev VK:=V->Hp->Prop
abbrev TE:=St->Hp->VK->Prop
abbrev TT:=St->Hp->(Bool->Hp->Prop)->Prop
abbrev TA:=St->Hp->(List V->Hp->Prop)->Prop
structure dk where
 nx:St->Hp->Prop
 rt:VK
 bk:St->Hp->Prop:=fun _ _=>False
 ct:St->Hp->Prop:=fun _ _=>False
abbrev TS:=dk->St->Hp->Prop
def EP(X:Cx)(pins:List (Addr×Obj))(σ:St)(Q:VK)(u:La)(s':Le):Prop:=∃v H',Inv X pins σ H' s'/\RelV v u/\Q v H'
def TP(X:Cx)(pins:List (Addr×Obj))(σ:St)(Q:Bool->Hp->Prop)(b:Bool)(s':Le):Prop:=∃H',Inv X pins σ H' s'/\Q b H'
def AP(X:Cx)(pins:List (Addr×Obj))(σ:St)(Q:List V->Hp->Prop)(us:List La)(s':Le):Prop:=∃vs H',Inv X pins σ H' s'/\Vals vs us/\Q vs H'
def SP(X:Cx)(pins:List (Addr×Obj))(D:dk)(f:Flow)(s':Le):Prop :=
 match f with
 |.next=>∃σ' H',Inv X pins σ' H' s'/\D.nx σ' H'
 |.brk=>∃σ' H',Inv X pins σ' H' s'/\D.bk σ' H'
 |.cont=>∃σ' H',Inv X pins σ' H' s'/\D.ct σ' H'
 |.ret u=>∃v σ' H',Inv X pins σ' H' s'/\RelV v u/\D.rt v H'
def PE(X:Cx)(e:Expr)(t:TE):Prop :=
 ∀(pins:List (Addr×Obj)) (s:Le) (σ:St) (H:Hp) (Q:VK),Inv X pins σ H s->t σ H Q->wpAny (model X.prog X.w) X.A (eval e X.env) (EP X pins σ Q) X.xe s
def PT(X:Cx)(e:Expr)(t:TT):Prop :=
 ∀(pins:List (Addr×Obj)) (s:Le) (σ:St) (H:Hp) (Q:Bool->Hp->Prop),Inv X pins σ H s->t σ H Q->wpAny (model X.prog X.w) X.A (isTrue e X.env (eval e X.env)) (TP X pins σ Q) X.xe s
def PW(X:Cx)(e:Expr)(t:TT):Prop :=
 ∀(whole:Sem La) (pins:List (Addr×Obj)) (s:Le) (σ:St) (H:Hp) (Q:Bool->Hp->Prop),Inv X pins σ H s->t σ H Q->wpAny (model X.prog X.w) X.A (isTrue e X.env whole) (TP X pins σ Q) X.xe s
theorem PW.pt(h:PW X e t):PT X e t:=h _
def PA(X:Cx)(es:List Expr)(t:TA):Prop :=
 ∀(pos:Pos) (pins:List (Addr×Obj)) (s:Le) (σ:St) (H:Hp) (Q:List V->Hp->Prop),Inv X pins σ H s->t σ H Q->wpAny (model X.prog X.w) X.A (spliced (backTo pos (starEach es X.env))) (AP X pins σ Q) X.xe s
def PS(X:Cx)(st:Stmt)(t:TS):Prop :=
 ∀(pins:List (Addr×Obj)) (s:Le) (σ:St) (H:Hp) (D:dk),Inv X pins σ H s->t D σ H->wpAny (model X.prog X.w) X.A (exec st X.env) (SP X pins D) X.xe s
def PSs(X:Cx)(st:List Stmt)(t:TS):Prop :=
 ∀(pins:List (Addr×Obj)) (s:Le) (σ:St) (H:Hp) (D:dk),Inv X pins σ H s->t D σ H->wpAny (model X.prog X.w) X.A (execs st X.env) (SP X pins D) X.xe s
theorem bQ{α:Type}{t:Sem α}{Q Q':α->Le->Prop}(h:wpAny M A t Q E s)(hQ:∀a s,Q a s->Q' a s):wpAny M A t Q' E s:=Mi h hQ fun _ _ x=>x
section
variable{X:Cx}
def ag(i:Nat):TE:=fun σ H Q=>∃v,σ[i]?=some (some v)/\Q v H
def tC(v:V):TE:=fun _ H Q=>Q v H
theorem D3{i:Nat} {x:Str} {pos:Pos} (hN:X.N[i]?=some x) (hv:Jy X.env.scope x) (hd:(x == ("__debug__":Str))=false:=by decide) (hcd:(x == ("__classdict__":Str))=false:=by decide):PE X (.Name x pos) (ag i):=by
 intro pins s σ H Q I h;obtain⟨v,e,h⟩:=h;obtain⟨m,hn,hl⟩:=I.loc;obtain⟨u,r,l⟩:=hl i x v hN e hv;have fin:EP X pins σ Q u s:=⟨v,H,I,r,h⟩
 rcases l with⟨hk,hm⟩|⟨hk,c,hc,XM⟩
 ·exact wpAny_Name (wpAny_loadName_local I.ok.kind hk hn hm fin) hd
 ·rcases hk with hk|hk
  ·exact wpAny_Name (wpAny_loadName_cell I.ok.kind hk hc XM fin) hd
  ·exact wpAny_Name (wpAny_loadName_free I.ok.kind hk hc XM fin hcd) hd
theorem am{i j pos}:PE X (.Constant (.int i) j pos) (tC (.int i)):=fun _ _ _ H _ I h=>wpAny_Constant_int ⟨.int i,H,I.tok _,⟨_,rfl⟩,h⟩
theorem jS{b j pos}:PE X (.Constant (.bool b) j pos) (tC (.bl b)):=fun _ _ _ H _ I h=>Constant_bool ⟨.bl b,H,I,rfl,h⟩
theorem cE{j pos}:PE X (.Constant .none j pos) (tC .non):=fun _ _ _ H _ I h=>Constant_none ⟨.non,H,I,rfl,h⟩
theorem aM{x j pos}:PE X (.Constant (.str x) j pos) (tC (.str x)):=fun _ _ _ H _ I h=>Calls.Constant_str ⟨.str x,H,I.tok _,⟨_,rfl⟩,h⟩
def Gl(X:Cx)(x:Str):Prop:=X.env.kindOf x=some .globalImplicit
theorem gn{H:Hp}{u:La}{pos:Pos}{Q:La->Le->Prop}(I:Inv X pins σ H s)(hg:Gl X x)(hm:X.mg x=some u)(h:Q u s)
  (hd:(x == ("__debug__":Str))=false:=by decide):wpAny (model X.prog X.w) X.A (eval (.Name x pos) X.env) Q E s :=
 Q5 I.ok.kind hg (Calls.loadGlobal_global (by rw[I.ok.glob];exact I.mod.glob.keeps I.bk) hm h) hd
theorem g_{H:Hp}{u:La}{pos:Pos}{Q:La->Le->Prop}(I:Inv X pins σ H s)(hg:Gl X x)(hm:X.mg x=none)(hv:bootBuiltins x=some u)(h:Q u s)
  (hn:x≠"__name__":=by decide) (hd:(x == ("__debug__":Str))=false:=by decide):wpAny (model X.prog X.w) X.A (eval (.Name x pos) X.env) Q E s:=by
 obtain⟨mb,h1,h2⟩:=I.mod.blt;exact Q5 I.ok.kind hg (Calls.loadGlobal_builtin (by rw[I.ok.glob];exact I.mod.glob.keeps I.bk) hm (by rw[I.ok.blt];exact h1.keeps I.bk) ((h2 x hn).trans hv) h) hd
theorem c_{u:La} {pos:Pos} (hg:Gl X x) (hm:X.mg x=some u) (r:RelV v u) (hd:(x == ("__debug__":Str))=false:=by decide):PE X (.Name x pos) (tC v) :=
 fun _ _ _ H _ I h=>gn I hg hm ⟨v,H,I,r,h⟩ hd
theorem bE{u:La} {pos:Pos} (hg:Gl X x) (hm:X.mg x=none) (hv:bootBuiltins x=some u) (r:RelV v u) (hn:x≠"__name__":=by decide) (hd:(x == ("__debug__":Str))=false:=by decide):PE X (.Name x pos) (tC v) :=
 fun _ _ _ H _ I h=>g_ I hg hm hv ⟨v,H,I,r,h⟩ hn hd
variable{a b:Expr}{ta tb:TE}{pos:Pos}
def tB(t:TE):TT:=fun σ H Q=>t σ H fun x H1=>∃c,x=.bl c/\Q c H1
theorem bH(h:PE X e t)(he:∀whole,isTrue e X.env whole=(do let v <- whole;standAt e.pos;holding [v] (truthy v)):=by intro _;rfl):PT X e (tB t):=by
 intro pins s σ H Q I hw;refine isTrue_plain (bQ (h pins s σ H _ I hw) fun v s1 ⟨x,H1,I1,r1,q1⟩=>?_) (he _);obtain⟨d,rfl,q⟩:=q1;cases r1;exact Nf ⟨H1,I1,q⟩
variable{tA tB':TT}{rest:List Expr}
def Bw(t u:TT):TT:=fun σ H Q=>t σ H fun c H1=>if c=true then u σ H1 Q else Q false H1
def kF(t u:TT):TT:=fun σ H Q=>t σ H fun c H1=>if c=true then Q true H1 else u σ H1 Q
def gb(t:TT):TT:=fun σ H Q=>t σ H fun c H1=>Q (!c) H1
theorem pw_and1(ha:PT X a tA):PW X (.BoolOp .And [a] pos) tA:=by
 intro wh pins s σ H Q I h;refine isTrue_and (bQ (ha pins s σ H Q I h) fun c s1 e=>?_);cases c with
 |true=>exact isTrue_and_nil e
 |false=>exact e
theorem pw_or1(ha:PT X a tA):PW X (.BoolOp .Or [a] pos) tA:=by
 intro wh pins s σ H Q I h;refine isTrue_or (bQ (ha pins s σ H Q I h) fun c s1 e=>?_);cases c with
 |false=>exact isTrue_or_nil e
 |true=>exact e
theorem pw_and(ha:PT X a tA)(hb:PW X (.BoolOp .And (b :: rest) pos) tB'):PW X (.BoolOp .And (a :: b :: rest) pos) (Bw tA tB'):=by
 intro wh pins s σ H Q I h;refine isTrue_and (bQ (ha pins s σ H _ I h) fun c s1 ⟨H1,I1,q1⟩=>?_);cases c with
 |true=>exact hb wh pins s1 σ H1 Q I1 q1
 |false=>exact⟨H1,I1,q1⟩
theorem pw_or(ha:PT X a tA)(hb:PW X (.BoolOp .Or (b :: rest) pos) tB'):PW X (.BoolOp .Or (a :: b :: rest) pos) (kF tA tB'):=by
 intro wh pins s σ H Q I h;refine isTrue_or (bQ (ha pins s σ H _ I h) fun c s1 ⟨H1,I1,q1⟩=>?_);cases c with
 |true=>exact⟨H1,I1,q1⟩
 |false=>exact hb wh pins s1 σ H1 Q I1 q1
theorem eK(ha:PT X a tA):PT X (.UnaryOp .Not a pos) (gb tA):=by
 intro pins s σ H Q I h;exact isTrue_not (ha pins s σ H (fun c H1=>Q (!c) H1) I h)
def mF(ta tb:TE):TE:=fun σ H Q=>ta σ H fun x H1=>∃c,x=.bl c/\if c=true then tb σ H1 Q else Q (.bl false) H1
def EN(ta tb:TE):TE:=fun σ H Q=>ta σ H fun x H1=>∃c,x=.bl c/\if c=true then Q (.bl true) H1 else tb σ H1 Q
def Bv(ta:TE):TE:=fun σ H Q=>ta σ H fun x H1=>∃c,x=.bl c/\Q (.bl (!c)) H1
theorem fy{op}(h:PE X a t):PE X (.BoolOp op [a] pos) t:=fun pins s σ H Q I hw=>BoolOp_one (h pins s σ H Q I hw)
theorem eZ(ha:PE X a ta)(hb:PE X (.BoolOp .And (b :: rest) pos) tb):PE X (.BoolOp .And (a :: b :: rest) pos) (mF ta tb):=by
 intro pins s σ H Q I h;refine BoolOp_and (bQ (ha pins s σ H _ I h) fun v s1 ⟨x,H1,I1,r1,q1⟩=>?_);obtain⟨c,rfl,q1⟩:=q1;cases r1;refine Nf ?_;cases c with
 |true=>exact hb pins s1 σ H1 Q I1 q1
 |false=>exact⟨.bl false,H1,I1,rfl,q1⟩
theorem JQ(ha:PE X a ta)(hb:PE X (.BoolOp .Or (b :: rest) pos) tb):PE X (.BoolOp .Or (a :: b :: rest) pos) (EN ta tb):=by
 intro pins s σ H Q I h;refine BoolOp_or (bQ (ha pins s σ H _ I h) fun v s1 ⟨x,H1,I1,r1,q1⟩=>?_);obtain⟨c,rfl,q1⟩:=q1;cases r1;refine Nf ?_;cases c with
 |false=>exact hb pins s1 σ H1 Q I1 q1
 |true=>exact⟨.bl true,H1,I1,rfl,q1⟩
theorem vX(ha:PE X a ta):PE X (.UnaryOp .Not a pos) (Bv ta):=by
 intro pins s σ H Q I h;refine UnaryOp_ (bQ (ha pins s σ H _ I h) fun v s1 ⟨x,H1,I1,r1,q1⟩=>?_);obtain⟨c,rfl,q1⟩:=q1;cases r1;exact not_of (Nf ⟨.bl (!c),H1,I1,rfl,q1⟩)
def JE(t:TT)(ta tb:TE):TE:=fun σ H Q=>t σ H fun c H1=>if c=true then ta σ H1 Q else tb σ H1 Q
theorem Co(hc:PT X c tA)(ha:PE X a ta)(hb:PE X b tb):PE X (.IfExp c a b pos) (JE tA ta tb):=by
 intro pins s σ H Q I h;refine wpAny_IfExp (bQ (hc pins s σ H _ I h) fun d s1 ⟨H1,I1,q1⟩=>?_);cases d with
 |true=>exact ha pins s1 σ H1 Q I1 q1
 |false=>exact hb pins s1 σ H1 Q I1 q1
end
def SqL(K:Fg)(H:Hp)(a:Addr)(xs:List V):Prop :=
 Rd H a (.lst xs) \/
  ∃(o:Obj) (gV:Array La) (n:Nat),K.lookup a=some o/\o.cls=.type "list"/\o.dict=none/\o.data=.seq gV n/\gV.size<=sizeLine/\Vals xs gV.toList
def SqT(K:Fg)(H:Hp)(a:Addr)(xs:List V):Prop :=
 Rd H a (.tup xs) \/
  ∃(o:Obj) (gV:Array La) (n:Nat),K.lookup a=some o/\o.cls=.type "tuple"/\o.data=.seq gV n/\gV.size<=sizeLine/\Vals xs gV.toList
def KL:La->Option V
 |.none=>some .non
 |.bool b=>some (.bl b)
 |.int i _=>some (.int i)
 |.str x _=>some (.str x)
 |.bytes b _=>some (.byt b)
 |.float b _=>some (.flt b)
 |.ref a=>some (.ref a)
 |.type n=>some (.ty n)
 |_=>none
theorem RelV.abs(r:RelV x u):KL u=some x:=by
 cases x with
 |non=>cases r;rfl
 |bl _=>cases r;rfl
 |int _=>obtain⟨t,rfl⟩:=r;rfl
 |str _=>obtain⟨t,rfl⟩:=r;rfl
 |byt _=>obtain⟨t,rfl⟩:=r;rfl
 |flt _=>obtain⟨t,rfl⟩:=r;rfl
 |ref _=>cases r;rfl
 |ty _=>cases r;rfl
theorem RelV.inj(r:RelV x u)(q:RelV y u):x=y:=LD (r.abs.symm.trans q.abs)
theorem Vals.inj:∀{xs ys:List V} {us:List La},Vals xs us->Vals ys us->xs=ys
 |_,_,_,.nil,.nil=>rfl
 |_,_,_,.cons r t,.cons r' t'=>by rw[r.inj r',Vals.inj t t']
section
variable{X:Cx}{pins:List (Addr×Obj)}{σ:St}{H:Hp}{s:Le}{a:Addr}{xs ys:List V}
theorem SqL.of{K:Fg}(h:H a=some (.lst xs)):SqL K H a xs:=.inl (.inl h)
theorem SqT.of{K:Fg}(h:H a=some (.tup xs)):SqT K H a xs:=.inl (.inl h)
theorem Inv.list(I:Inv X pins σ H s)(h:SqL X.K H a xs):∃gV:List La,Vals xs gV/\PlainL s.heap a gV.toArray/\xs.length<=sizeLine:=by
 rcases h with h|⟨o,gV,n,hk,hc,hd,hs,hz,r⟩
 ·obtain⟨z,gV,n,r,e⟩:=h.ok I.hok;exact⟨gV,r,⟨_,n,e,rfl,rfl,rfl⟩,z⟩
 ·refine⟨gV.toList,r,⟨o,n,I.kIn a o hk,hc,hd,by simpa using hs⟩,?_⟩;have e:=r.length;simp only[Mv] at e;walk_at "om"
theorem Inv.tuple(I:Inv X pins σ H s)(h:SqT X.K H a xs):∃gV:List La,Vals xs gV/\IsTup s.heap a gV.toArray/\xs.length<=sizeLine:=by
 rcases h with h|⟨o,gV,n,hk,hc,hs,hz,r⟩
 ·obtain⟨z,gV,r,p⟩:=h.ok I.hok;exact⟨gV,r,p.tup,z⟩
 ·refine⟨gV.toList,r,⟨o,I.kIn a o hk,hc,n,by simpa using hs⟩,?_⟩;have e:=r.length;simp only[Mv] at e;walk_at "om"
theorem Inv.pM(I:Inv X pins σ H s)(h:SqL X.K H a xs)(h':SqL X.K H a ys):xs=ys:=by
 obtain⟨gV,r,⟨o,n,e,_,_,d⟩,_⟩:=I.list h;obtain⟨its',r',⟨o',n',e',_,_,d'⟩,_⟩:=I.list h';rw[e] at e';cases e';rw[d] at d';injection d' with d1 _
 have:gV=its':=by simpa using congrArg Array.toList d1
 subst this;exact r.inj r'
theorem Inv.qA(I:Inv X pins σ H s)(h:SqT X.K H a xs)(h':SqT X.K H a ys):xs=ys:=by
 obtain⟨gV,r,⟨o,e,_,n,d⟩,_⟩:=I.tuple h;obtain⟨its',r',⟨o',e',_,n',d'⟩,_⟩:=I.tuple h';rw[e] at e';cases e';rw[d] at d';injection d' with d1 _
 have:gV=its':=by simpa using congrArg Array.toList d1
 subst this;exact r.inj r'
end
abbrev Cx.wish(X:Cx)(E:La->Le->Prop):Cx:={X with xe:=E}
abbrev Cx.nox(X:Cx):Cx:=X.wish fun _ _=>False
theorem Cx.Ok.wish{X:Cx}(ok:X.Ok)(E:La->Le->Prop):(X.wish E).Ok :=
 ⟨ok.mod,ok.kind,ok.glob,ok.blt,ok.above,ok.inj,ok.has,ok.cab,ok.hd,ok.frames,ok.stk,ok.exf,ok.bs,ok.bsz,ok.noex,ok.exfs,ok.funs,ok.frf⟩
theorem Cx.Ok.iD{X:Cx}(ok:(X.wish E).Ok):X.Ok :=
 ⟨ok.mod,ok.kind,ok.glob,ok.blt,ok.above,ok.inj,ok.has,ok.cab,ok.hd,ok.frames,ok.stk,ok.exf,ok.bs,ok.bsz,ok.noex,ok.exfs,ok.funs,ok.frf⟩
section
variable{X:Cx}{pins:List (Addr×Obj)}{σ:St}{H:Hp}{s:Le}{E:La->Le->Prop}
theorem Inv.wish(I:Inv X pins σ H s)(E:La->Le->Prop):Inv (X.wish E) pins σ H s:=⟨I.ok.wish E,I.os,I.bare,I.base,I.loc,I.cell,I.free,I.freeC,I.pin,I.hok,I.len⟩
theorem Inv.iD(I:Inv (X.wish E) pins σ H s):Inv X pins σ H s:=⟨I.ok.iD,I.os,I.bare,I.base,I.loc,I.cell,I.free,I.freeC,I.pin,I.hok,I.len⟩
theorem SP.iD{D:dk}(h:SP (X.wish E) pins D f s'):SP X pins D f s':=by
 cases f with
 |next=>obtain⟨σ',H',I,q⟩:=h;exact⟨σ',H',I.iD,q⟩
 |brk=>obtain⟨σ',H',I,q⟩:=h;exact⟨σ',H',I.iD,q⟩
 |cont=>obtain⟨σ',H',I,q⟩:=h;exact⟨σ',H',I.iD,q⟩
 |ret u=>obtain⟨v,σ',H',I,r,q⟩:=h;exact⟨v,σ',H',I.iD,r,q⟩
theorem PSs.nox{st:List Stmt}(h:PSs X.nox st t):PSs X st t:=fun pins s σ H D I hw =>
 Mi (h pins s σ H D (I.wish _) hw) (fun _ _ q=>q.iD) fun _ _ z=>Np z
end
section
variable{X:Cx}{st:Stmt}{rest:List Stmt}{t u:TS}{e:Expr}{te:TE}{pos:Pos}
def bp:TS:=fun D σ H=>D.nx σ H
def aF(t u:TS):TS:=fun D σ H=>t {D with nx:=u D} σ H
theorem aH:PSs X [] bp:=fun _ _ σ H _ I h=>OX ⟨σ,H,I,h⟩
theorem ai(h1:PS X st t)(h2:PSs X rest u):PSs X (st :: rest) (aF t u):=by
 intro pins s σ H D I h;refine RM (bQ (h1 pins s σ H {D with nx:=u D} I h) fun f s1 q=>?_);cases f with
 |next =>
  obtain⟨σ',H',I',q⟩:=q;exact h2 pins s1 σ' H' D I' q
 |ret v=>exact q
 |brk=>exact q
 |cont=>exact q
theorem ar(h1:PS X st t):PSs X [st] t:=by
 intro pins s σ H D I h;refine RM (bQ (h1 pins s σ H D I h) fun f s1 q=>?_);cases f with
 |next=>exact OX q
 |ret v=>exact q
 |brk=>exact q
 |cont=>exact q
theorem Inv.quiet{H:Hp}(I:Inv X pins σ H s):interactive X.env=false:=by simp[interactive,I.ok.kind]
def gf(te:TE):TS:=fun D σ H=>te σ H fun _ H1=>D.nx σ H1
theorem bM(he:PE X e te)(hs:swapsWith e none pos.line X.env=pure false:=by rfl):PS X (.Expr e pos) (gf te):=by
 intro pins s σ H D I h;exact wpAny_Expr_any (bQ (he pins s σ H _ I h) fun v s1 ⟨x,H1,I1,r1,q1⟩=>⟨σ,H1,I1,q1⟩) I.quiet hs
def aY(te:TE):TS:=fun D σ H=>te σ H D.rt
theorem aP(he:PE X e te):PS X (.Return (some e) pos) (aY te):=by
 intro pins s σ H D I h;exact wpAny_Return_some (bQ (he pins s σ H _ I h) fun v s1 ⟨x,H1,I1,r1,q1⟩=>⟨x,σ,H1,I1,r1,q1⟩)
def bq(c:TT)(t u:TS):TS:=fun D σ H=>c σ H fun b H1=>if b=true then t D σ H1 else u D σ H1
theorem a6(hc:PT X c tc)(ha:PSs X a t)(hb:PSs X b u):PS X (.If c a b pos) (bq tc t u):=by
 intro pins s σ H D I h;refine wpAny_If (bQ (hc pins s σ H _ I h) fun d s1 ⟨H1,I1,q1⟩=>?_);cases d with
 |true=>exact ha pins s1 σ H1 D I1 q1
 |false=>exact hb pins s1 σ H1 D I1 q1
def qC:TS:=fun _ _ _=>False
theorem iN:PSs X sts qC:=fun _ _ _ _ _ _ h=>h.elim
end
abbrev TG:=V->St->Hp->(St->Hp->Prop)->Prop
abbrev Dz:=List V->St->Hp->(St->Hp->Prop)->Prop
def PG(X:Cx)(target:Expr)(t:TG):Prop :=
 ∀(pins:List (Addr×Obj)) (s:Le) (σ:St) (H:Hp) (v:V) (u:La) (Q:St->Hp->Prop),Inv X pins σ H s->RelV v u->t v σ H Q ->
  wpAny (model X.prog X.w) X.A (assign target X.env u) (fun _ s'=>∃σ' H',Inv X pins σ' H' s'/\Q σ' H') X.xe s
def JA(X:Cx)(ts:List Expr)(t:Dz):Prop :=
 ∀(pins:List (Addr×Obj)) (s:Le) (σ:St) (H:Hp) (vs:List V) (us:List La) (Q:St->Hp->Prop),Inv X pins σ H s->Vals vs us->t vs σ H Q ->
  wpAny (model X.prog X.w) X.A (assignInOrder ((assignEach ts X.env).map (·.2)) us) (fun _ s'=>∃σ' H',Inv X pins σ' H' s'/\Q σ' H') X.xe s
abbrev Dy:=V->V->V->Hp->(Hp->Prop)->Prop
def Jl(X:Cx)(t:Dy):Prop :=
 ∀(pins:List (Addr×Obj)) (s:Le) (σ:St) (H:Hp) (o i v:V) (ov iv u:La) (Q:Hp->Prop),Inv X pins σ H s->RelV o ov->RelV i iv->RelV v u->t o i v H Q ->
  wpAny (model X.prog X.w) X.A (setItem ov iv u) (fun _ s'=>∃H',Inv X pins σ H' s'/\Q H') X.xe s
section
variable{X:Cx}{pos:Pos}
def aO(i:Nat):TG:=fun v σ H Q=>Q (σ.set i (some v)) H
theorem bD{i:Nat}{x:Str}(hN:X.N.Nodup)(hi:X.N[i]?=some x)(hx:Loc X.env.scope x)(hf:X.fn x=true\/X.env.scope.names.lookup x=some .local:=by first|exact .inl rfl|exact .inr rfl|assumption):PG X (.Name x pos) (aO i):=by
 intro pins s σ H v u Q I r h;exact Rm (iI I hN hi hx r (fun s' I'=>⟨_,H,I',h⟩) hf)
def xw:Dz:=fun vs σ H Q=>vs=[]/\Q σ H
def lU(t:TG)(u:Dz):Dz:=fun vs σ H Q=>∃v r,vs=v :: r/\t v σ H fun σ' H'=>u r σ' H' Q
theorem pj:JA X [] xw:=by
 intro pins s σ H vs us Q I r h;obtain⟨e,h⟩:=h;subst e;cases r;exact assignInOrder_nil ⟨σ,H,I,h⟩
theorem eN(h1:PG X e t)(h2:JA X es u)
  (hs:(assignEach (e :: es) X.env).map (·.2)=assign e X.env :: (assignEach es X.env).map (·.2):=by rfl):JA X (e :: es) (lU t u):=by
 intro pins s σ H vs us Q I r h;obtain⟨v,vr,e1,h⟩:=h;subst e1;cases r with
 |cons r rr =>
  rw[hs];refine assignInOrder_cons (bQ (h1 pins s σ H _ _ _ I r h) fun _ s1 ⟨σ1,H1,I1,q1⟩=>?_);exact h2 pins s1 σ1 H1 _ _ Q I1 rr q1
def xu(K:Fg)(n:Nat)(t:Dz):TG:=fun v σ H Q=>∃a xs,v=.ref a/\SqT K H a xs/\xs.length=n/\t xs σ H Q
theorem vW{n:Nat}(hc:X.calm=true)(h:JA X es t)
  (hn:(assignEach es X.env).length=n:=by rfl) (hst:(assignEach es X.env).findIdx? (·.1)=none:=by rfl):PG X (.Tuple es k pos) (xu X.K n t):=by
 intro pins s σ H v u Q I r hw;obtain⟨a,xs,e1,hq,hl,hw⟩:=hw;subst e1;cases r;obtain⟨gV,rv,ht,hz⟩:=I.tuple hq;refine assign_Tuple_tuple (I.ok.hd hc) ht (by simp[hn,<- hl,rv.length]) hst fun h' hx=>?_
 have I1:Inv X pins σ H {s with heap:=h'}:=I.kept (t':=s.toks) fun b o e=>hx b o (LA (Ls e)) e
 exact h pins _ σ H xs _ Q I1 (by simpa using rv) hw
def C6(to ti:TE)(t:Dy):TG:=fun v σ H Q=>to σ H fun o H1=>ti σ H1 fun i H2=>t o i v H2 fun H3=>Q σ H3
theorem D0(ho:PE X o to)(hi:PE X i ti)(hs:Jl X t)
  (ha:∀v,assign (.Subscript o i pos) X.env v=(do
   let ov <- holding [v] (eval o X.env)
   let iv <- holding [v,ov] (eval i X.env)
   standAt pos
   holding [v,ov,iv] (setItem ov iv v)
   release [v,ov,iv] []):=by intro _;rfl):PG X (.Subscript o i pos) (C6 to ti t):=by
 intro pins s σ H v u Q I r h;rw[ha];refine K8 (MJ (bQ (ho pins s σ H _ I h) fun ov s1 ⟨x,H1,I1,r1,q1⟩=>?_));refine K8 (MJ (bQ (hi pins s1 σ H1 _ I1 q1) fun iv s2 ⟨y,H2,I2,r2,q2⟩=>?_));refine K8 (O1 (K8 (MJ (bQ (hs pins s2 σ H2 x y v ov iv u _ I2 r1 r2 r q2) fun _ s3 ⟨H3,I3,q3⟩=>?_))));exact wpAny_release ⟨σ,H3,I3,q3⟩
def aR(te:TE)(g:TG):TS:=fun D σ H=>te σ H fun x H1=>g x σ H1 D.nx
theorem zc(he:PE X e te)(hg:PG X tg g)(hs:swapsWithSole [tg] e pos.line X.env=pure false:=by rfl)(hw:swappedStores [tg] e X.env=pure none:=by rfl)
  (h1:(assignEach [tg] X.env).map (·.2)=[assign tg X.env]:=by rfl):PS X (.Assign [tg] e pos) (aR te g):=by
 intro pins s σ H D I h;refine wpAny_Assign_stores (bQ (he pins s σ H _ I h) fun v s1 ⟨x,H1,I1,r1,q1⟩=>?_) hs hw;rw[h1];exact bQ (hg pins s1 σ H1 x v _ I1 r1 q1) fun _ s2 q=>q
theorem aJ{i:Nat}{x:Str}(hN:X.N.Nodup)(hi:X.N[i]?=some x)(hx:Loc X.env.scope x)(he:PE X e te)(hs:swapsWith e (some (.Name x pos')) pos.line X.env=pure false:=by rfl)(hf:X.fn x=true\/X.env.scope.names.lookup x=some .local:=by first|exact .inl rfl|exact .inr rfl|assumption) :
  PS X (.Assign [.Name x pos'] e pos) (aR te (aO i)):=by
 intro pins s σ H D I h;refine wpAny_Assign_Name (bQ (he pins s σ H _ I h) fun v s1 ⟨y,H1,I1,r1,q1⟩=>?_) hs;exact iI I1 hN hi hx r1 (fun s2 I2=>⟨_,H1,I2,q1⟩) hf
end
section
variable{X:Cx}{pos:Pos}
def yc(c:TT)(tb:TS):TS:=fun D σ H=>∃W:Nat->St->Hp->Prop,(∃m,W m σ H)/\∀m σ H,W m σ H ->
 c σ H fun b H1=>if b=true then ∃N:St->Hp->Prop,(∀σ' H',N σ' H'->∃m',m'<m/\W m' σ' H')/\tb {D with nx:=N,ct:=N,bk:=D.nx} σ H1 else D.nx σ H1
theorem vR(hp:RN (model X.prog X.w) X.A X.env X.xe)(hc:PT X c tc)(hb:PSs X body tb):PS X (.While c body [] pos) (yc tc tb):=by
 intro pins s σ H D I h;obtain⟨W,⟨m0,w0⟩,turn⟩:=h;refine wpAny_While (codeAny_whileLoop (fun n s'=>∃σ' H',Inv X pins σ' H' s'/\W n σ' H') ?_ m0 ⟨σ,H,I,w0⟩);rintro n s1 ⟨σ1,H1,I1,w1⟩;refine On hp (bQ (hc pins s1 σ1 H1 _ I1 (turn n σ1 H1 w1)) fun b s2 ⟨H2,I2,q2⟩=>?_);cases b with
 |true =>
  obtain⟨N,hN,q2⟩:=q2;rw[if_pos rfl];refine On hp (bQ (hb pins s2 σ1 H2 _ I2 q2) fun f s3 q3=>?_);cases f with
  |next =>
   obtain⟨σ3,H3,I3,n3⟩:=q3;obtain⟨m',hm,w3⟩:=hN σ3 H3 n3;exact⟨m',hm,σ3,H3,I3,w3⟩
  |cont =>
   obtain⟨σ3,H3,I3,n3⟩:=q3;obtain⟨m',hm,w3⟩:=hN σ3 H3 n3;exact⟨m',hm,σ3,H3,I3,w3⟩
  |brk=>exact q3
  |ret v=>exact q3
 |false =>
  rw[if_neg LO];exact OX ⟨σ1,H2,I2,q2⟩
end
structure It where
 go:Nat->Hp->Prop
 yld:Nat->Hp->V->Hp->Prop
 stop:Nat->Hp->Prop
def g7(X:Cx)(pins:List (Addr×Obj))(H:Hp)(b:Addr):Prop :=
 H b=none/\b≠X.env.locals/\b∉X.fs/\(b∈X.ex\/X.s₀.heap.objs.size<=b)/\(∀x c,X.env.cells.lookup x=some c->c≠b)/\∀p∈X.pn++pins,p.1≠b
theorem Inv.fpOk{H H':Hp}{b:Addr}(I:Inv X pins σ H s)(hb:s.heap.objs.size<=b)(hn:H' b=none):g7 X pins H' b:=by
 refine⟨hn,NQ (LR I.lt hb),I.nofs hb,.inr (Mh I.sz hb),fun x c e z=>?_,fun p hp z=>?_⟩
 ·obtain⟨v,q⟩:=I.cell x c e;exact absurd (LR q.lt (by rw[z];exact hb)) (N9 _)
 ·exact absurd (LR (Ls (I.pin p hp).1) (by rw[z];exact hb)) (N9 _)
structure qq (P:LB) (w:LQ) (K:Fg) (tg:Expr) (J:It) (fp:List Addr) (it:Addr) (tn:Nat->Heap->Prop):Prop where
 mem:it∈fp
 obj:∀i h,tn i h->∀b∈fp,∃o,h.get? b=some o/\∀v,o.data≠.cell v
 keep:∀i h h',tn i h->(∀b∈fp,∀o,h.get? b=some o->h'.get? b=some o)->tn i h'
 item:∀(X:Cx),X.prog=P->X.w=w->X.K=K->X.calm=true->∀(i:Nat) (pins:List (Addr×Obj)) (s:Le) (σ:St) (H:Hp) (E:La->Le->Prop),Inv X pins σ H s->(∀b∈fp,g7 X pins H b)->tn i s.heap->J.go i H ->
  wpAny (model P w) X.A (pyNext (.ref it)) (fun r s1=>∃u,r=some u /\
   wpAny (model P w) X.A (letOwnedTupleGo tg (.ref it) u) (fun _ s2=>∃x H',Inv X pins σ H' s2/\RelV x u/\J.yld i H x H'/\tn (i+1) s2.heap/\∀b∈fp,H' b=none) E s1) E s
 done:∀(X:Cx),X.prog=P->X.w=w->X.K=K->X.calm=true->∀(i:Nat) (pins:List (Addr×Obj)) (s:Le) (σ:St) (H:Hp) (E:La->Le->Prop),Inv X pins σ H s->(∀b∈fp,g7 X pins H b)->tn i s.heap->J.stop i H ->
  wpAny (model P w) X.A (pyNext (.ref it)) (fun r s1=>r=none/\Inv X pins σ H s1) E s
 self:∀(A:Mf) (i:Nat) (s:Le) (Q:La->Le->Prop) (E:La->Le->Prop),tn i s.heap->Q (.ref it) s->wpAny (model P w) A (pyIter (.ref it)) Q E s
abbrev TI:=St->Hp->(It->Hp->Prop)->Prop
def KZ(X:Cx)(pins:List (Addr×Obj))(σ:St)(tg:Expr)(R:It->Hp->Prop)(Xo:La)(s2:Le):Prop :=
 ∃(it:Addr) (fp:List Addr) (tn:Nat->Heap->Prop) (J:It) (H':Hp),Xo=.ref it/\Inv X pins σ H' s2/\qq X.prog X.w X.K tg J fp it tn/\tn 0 s2.heap/\(∀b∈fp,g7 X pins H' b)/\R J H'
def PI(X:Cx)(tg iter:Expr)(wi:TI):Prop :=
 ∀(pins:List (Addr×Obj)) (s:Le) (σ:St) (H:Hp) (R:It->Hp->Prop),Inv X pins σ H s->wi σ H R ->
  wpAny (model X.prog X.w) X.A (eval iter X.env) (fun v s1=>wpAny (model X.prog X.w) X.A (pyIter v) (KZ X pins σ tg R) X.xe s1) X.xe s
theorem C5{E:La->Le->Prop} {s:Le}  {it:Addr}  {o:Obj}   {Q:Unit->Le->Prop} (ho:s.heap.get? it=some o) (hc:o.cls=.type n) (hd:o.data=.fields vs)
    (hn:["enumerate", "zip", "dict_itemiterator", "dict_reverseitemiterator", "odict_iterator", "itertools.zip_longest", "itertools.pairwise"].contains n=false) (hQ:Q () s):wpAny M A (letOwnedTupleGo tg (.ref it) u) Q E s := by
  unfold letOwnedTupleGo
  cases tg <;> first
    |exact Lh hQ
    | (cases u <;> first
        |exact Lh hQ
        | (refine K8 (wpAny_load ho ?_)
           rw[hc, hd]
           show wpAny M A (if (["enumerate", "zip", "dict_itemiterator", "dict_reverseitemiterator", "odict_iterator", "itertools.zip_longest", "itertools.pairwise"].contains n && vs[0]? == some (rawInt _))=true then _ else _) Q E s
           rw[if_neg (by intro h; rw[hn, Qe] at h; cases h)]
           exact Lh hQ))
def sN(K:Fg)(a:Addr):It :=
 ⟨fun i H=>∃xs x,SqL K H a xs/\xs[i]?=some x,fun i H x H'=>H'=H/\∀xs,SqL K H a xs->xs[i]?=some x,fun i H=>∃xs,SqL K H a xs/\xs.length<=i⟩
def vx(K:Fg)(a:Addr):It :=
 ⟨fun i H=>∃xs x,SqT K H a xs/\xs[i]?=some x,fun i H x H'=>H'=H/\∀xs,SqT K H a xs->xs[i]?=some x,fun i H=>∃xs,SqT K H a xs/\xs.length<=i⟩
def sU(lo:Int)(n:Nat):It:=⟨fun i _=>i<n,fun i H x H'=>H'=H/\x=.int (lo+i),fun i _=>n<=i⟩
theorem qz{K:Fg}(a it:Addr):qq P w K tg (sN K a) [it] it (fun i h=>h.IsListIter it a i) where
 mem:=by simp
 obj:=fun i h st b hb=>by
  have e:b=it:=by simpa using hb
  subst e;obtain⟨o,e,c,d⟩:=st;exact⟨o,e,fun v z=>by rw[d] at z;cases z⟩
 keep:=fun i h h' st k=>st.at fun o e=>k it (by simp) o e
 item:=by
  intro X hP hw hK hc i pins s σ H E I hf st hg;subst hP hw hK;obtain⟨xs,x,hq,hx⟩:=hg;obtain⟨gV,rv,p,hz⟩:=I.list hq;obtain⟨u,hu,ru⟩:=rv.get hx;obtain⟨f0,f1,f2,f3,f4,f5⟩:=hf it (by simp);refine wpAny_pyNext_list_item st p.isList (x:=u) (by simpa using hu) fun h' Xh sb=>?_
  have I1:Inv X pins σ H {s with heap:=h'}:=I.turned (t':=s.toks) (fun b o hb e=>(sb.2 b hb).trans e) f0 f1 f3 f4 f5;obtain⟨o,e,c,d⟩:=id Xh;exact⟨u,rfl,C5 (s:={s with heap:=h'}) e c d (by decide) ⟨x,H,I1,ru,⟨rfl,fun ys hy=>by rw[I.pM hy hq];exact hx⟩,Xh,fun b hb=>(hf b hb).1⟩⟩
 done:=by
  intro X hP hw hK hc i pins s σ H E I hf st hg;subst hP hw hK;obtain⟨xs,hq,hx⟩:=hg;obtain⟨gV,rv,p,hz⟩:=I.list hq;obtain⟨f0,f1,f2,f3,f4,f5⟩:=hf it (by simp);have hl:=rv.length;exact wpAny_pyNext_list_end (I.ok.hd hc) st p.isList (by simp;walk_at "om") fun h' eb=>⟨rfl,I.turned (t':=s.toks) (fun b o hb e=>eb b o hb e) f0 f1 f3 f4 f5⟩
 self:=fun _ _ _ _ _ st h=>wpAny_pyIter_listiter st h
theorem nh{K:Fg}(a it:Addr):qq P w K tg (vx K a) [it] it (fun i h=>h.IsTupleIter it a i) where
 mem:=by simp
 obj:=fun i h st b hb=>by
  have e:b=it:=by simpa using hb
  subst e;obtain⟨o,e,c,d⟩:=st;exact⟨o,e,fun v z=>by rw[d] at z;cases z⟩
 keep:=fun i h h' st k=>st.at fun o e=>k it (by simp) o e
 item:=by
  intro X hP hw hK hc i pins s σ H E I hf st hg;subst hP hw hK;obtain⟨xs,x,hq,hx⟩:=hg;obtain⟨gV,rv,p,hz⟩:=I.tuple hq;obtain⟨u,hu,ru⟩:=rv.get hx;obtain⟨f0,f1,f2,f3,f4,f5⟩:=hf it (by simp);refine wpAny_pyNext_tuple_item st (show s.heap.IsTuple a gV.toArray from p) (x:=u) (by simpa using hu) fun h' Xh sb=>?_
  have I1:Inv X pins σ H {s with heap:=h'}:=I.turned (t':=s.toks) (fun b o hb e=>(sb.2 b hb).trans e) f0 f1 f3 f4 f5;obtain⟨o,e,c,d⟩:=id Xh;exact⟨u,rfl,C5 (s:={s with heap:=h'}) e c d (by decide) ⟨x,H,I1,ru,⟨rfl,fun ys hy=>by rw[I.qA hy hq];exact hx⟩,Xh,fun b hb=>(hf b hb).1⟩⟩
 done:=by
  intro X hP hw hK hc i pins s σ H E I hf st hg;subst hP hw hK;obtain⟨xs,hq,hx⟩:=hg;obtain⟨gV,rv,p,hz⟩:=I.tuple hq;obtain⟨f0,f1,f2,f3,f4,f5⟩:=hf it (by simp);have hl:=rv.length;exact wpAny_pyNext_tuple_end (I.ok.hd hc) st (show s.heap.IsTuple a gV.toArray from p) (by simp;walk_at "om") fun h' eb=>⟨rfl,I.turned (t':=s.toks) (fun b o hb e=>eb b o hb e) f0 f1 f3 f4 f5⟩
 self:=fun _ _ _ _ _ st h=>wpAny_pyIter_tupleiter st h
theorem wO{K:Fg}(it:Addr)(lo:Int)(n:Nat):qq P w K tg (sU lo n) [it] it (fun i h=>IsRangeIter h it (lo+(i:Nat)*1) ((n:Int)-(i:Nat)) 1) where
 mem:=by simp
 obj:=fun i h st b hb=>by
  have e:b=it:=by simpa using hb
  subst e
  exact⟨_,st,fun v z=>by
   have z':U1 _=Tt v:=z
   cases z'⟩
 keep:=fun i h h' st k=>k it (by simp) _ st
 item:=by
  intro X hP hw hK hc i pins s σ H E I hf st hg;subst hP hw hK;obtain⟨f0,f1,f2,f3,f4,f5⟩:=hf it (by simp);have W:=Walks.range (prog:=X.prog) (w:=X.w) (I.ok.hd hc) it lo 1 n;refine W.item i s _ _ hg st fun v h' tk hv Xh kk=>?_
  obtain⟨t,rfl⟩:=hv;have I1:Inv X pins σ H {s with heap:=h',toks:=tk}:=I.turned (fun b o hb e=>kk b o (by simpa using hb) e) f0 f1 f3 f4 f5;refine⟨_,rfl,C5 (s:={s with heap:=h',toks:=tk}) (n:="range_iterator") Xh rfl rfl (by decide) ⟨.int (lo+i),H,I1,⟨t,?_⟩,⟨rfl,rfl⟩,Xh,fun b hb=>(hf b hb).1⟩⟩;rw[Int.mul_one]
 done:=by
  intro X hP hw hK hc i pins s σ H E I hf st hg;subst hP hw hK;obtain⟨f0,f1,f2,f3,f4,f5⟩:=hf it (by simp);exact wpAny_pyNext_range_end (I.ok.hd hc) st (by have:n<=i:=hg;walk_at "om") fun h' eb=>⟨rfl,I.turned (t':=s.toks) (fun b o hb e=>eb b o hb e) f0 f1 f3 f4 f5⟩
 self:=fun _ _ _ _ _ st h=>wpAny_pyIter_rangeiter st h
section
variable{X:Cx}{tg:Expr}
def gY(K:Fg)(tl:TE):TI:=fun σ H R=>tl σ H fun x H1=>∃a,x=.ref a/\(∃xs,SqL K H1 a xs)/\R (sN K a) H1
def vc(K:Fg)(tl:TE):TI:=fun σ H R=>tl σ H fun x H1=>∃a,x=.ref a/\(∃xs,SqT K H1 a xs)/\R (vx K a) H1
theorem dJ(hl:PE X l tl):PI X tg l (gY X.K tl):=by
 intro pins s σ H R I h;refine bQ (hl pins s σ H _ I h) fun v s1 ⟨x,H1,I1,r1,q1⟩=>?_
 obtain⟨a,e,⟨xs,hq⟩,q⟩:=q1;subst e;cases r1;obtain⟨gV,rv,p,hz⟩:=I1.list hq;refine Nw p.isList ?_;refine⟨s1.heap.objs.size,[s1.heap.objs.size],_,_,H1,rfl,I1.kept (t':=s1.toks) fun b o e=>Lb _ e,qz a _,⟨_,LJ _ rfl,rfl,rfl⟩,fun b hb=>?_,q⟩;have e:b=s1.heap.objs.size:=by simpa using hb
 subst e;exact I1.fpOk (Lf _) (I1.hok.fresh (Lf _))
theorem rm(hl:PE X l tl):PI X tg l (vc X.K tl):=by
 intro pins s σ H R I h;refine bQ (hl pins s σ H _ I h) fun v s1 ⟨x,H1,I1,r1,q1⟩=>?_
 obtain⟨a,e,⟨xs,hq⟩,q⟩:=q1;subst e;cases r1;obtain⟨gV,rv,p,hz⟩:=I1.tuple hq;refine NL (show s1.heap.IsTuple a gV.toArray from p) ?_;refine⟨s1.heap.objs.size,[s1.heap.objs.size],_,_,H1,rfl,I1.kept (t':=s1.toks) fun b o e=>Lb _ e,nh a _,⟨_,LJ _ rfl,rfl,rfl⟩,fun b hb=>?_,q⟩;have e:b=s1.heap.objs.size:=by simpa using hb
 subst e;exact I1.fpOk (Lf _) (I1.hok.fresh (Lf _))
theorem vP{H:Hp}{R:It->Hp->Prop}{lo hi:Int}{t u v:Tok}{tk:Nat}(I:Inv X pins σ H s)(h1 : -(2 ^ 62)<=lo)(h2:lo<2 ^ 62)(h3 : -(2 ^ 62)<=hi)(h4:hi<2 ^ 62)
  (q:R (sU lo (hi-lo).toNat) H):wpAny (model X.prog X.w) X.A (pyIter (.ref s.heap.objs.size)) (KZ X pins σ tg R) E {s with heap:=s.heap.push {cls:=.type "range",data:=.fields #[.int lo t,.int hi u,.int 1 v]},toks:=tk}:=by
 refine wpAny_pyIter_range (IsRange.new ..) (small_one h1 h2 h3 h4) ?_;have I1:Inv X pins σ H {s with heap:=s.heap.push {cls:=.type "range",data:=.fields #[.int lo t,.int hi u,.int 1 v]},toks:=tk}:=I.kept fun b o e=>Lb _ e
 refine⟨(s.heap.push {cls:=.type "range",data:=.fields #[.int lo t,.int hi u,.int 1 v]}).objs.size,[(s.heap.push {cls:=.type "range",data:=.fields #[.int lo t,.int hi u,.int 1 v]}).objs.size],_,_,H,rfl,
  I1.kept (t':=tk) fun b o e=>Lb _ e,wO _ lo (hi-lo).toNat,?_,fun b hb=>?_,q⟩
 ·have e1:lo+((0:Nat):Int)*1=lo:=by simp
  have e2:(((hi-lo).toNat:Nat):Int)-((0:Nat):Int)=Og.Range.rangeSize lo hi 1:=by rw[rangeSize_one];split <;> walk_at "om"
  show IsRangeIter _ _ (lo+((0:Nat):Int)*1) ((((hi-lo).toNat:Nat):Int)-((0:Nat):Int)) 1;rw[e1,e2];exact LJ _ rfl
 ·have e:b=(s.heap.push {cls:=.type "range",data:=.fields #[.int lo t,.int hi u,.int 1 v]}).objs.size:=by simpa using hb
  subst e;exact I1.fpOk (Lf _) (I1.hok.fresh (Lf _))
def fE(ta:TA):TI:=fun σ H R=>ta σ H fun vs H1=>∃j:Int,vs=[.int j]/\-(2 ^ 62)<=j/\j<2 ^ 62/\R (sU 0 j.toNat) H1
def Gm(ta:TA):TI:=fun σ H R=>ta σ H fun vs H1=>∃i j:Int,vs=[.int i,.int j]/\(-(2 ^ 62)<=i/\i<2 ^ 62/\-(2 ^ 62)<=j/\j<2 ^ 62)/\R (sU i (j-i).toNat) H1
theorem bN{a:Expr} {ta:TA} {p pos:Pos} (hg:Gl X "range") (hm:X.mg "range"=none) (ha:PA X [a] ta) (hs:starEach [a] X.env=[(false,eval a X.env)]:=by rfl):PI X tg (.Call (.Name "range" p) [a] [] pos) (fE ta):=by
 intro pins s σ H R I h;refine Call_ (g_ I hg hm boot_range (M1 (bQ (ha pos pins s σ H _ I h) fun us s1 ⟨vs,H1,I1,r1,q1⟩=>?_) hs rfl));obtain⟨j,e,q1,q2,q⟩:=q1;subst e;cases r1 with
 |cons r rr =>
  cases rr;obtain⟨t,rfl⟩:=r;exact call_range_1 (vP I1 (by walk_at "om") (by walk_at "om") q1 q2 (by simpa using q))
theorem zp{a b:Expr} {ta:TA} {p pos:Pos} (hg:Gl X "range") (hm:X.mg "range"=none) (ha:PA X [a,b] ta) (hs:starEach [a,b] X.env=[(false,eval a X.env),(false,eval b X.env)]:=by rfl) (hs2:starEach [b] X.env=[(false,eval b X.env)]:=by rfl) :
  PI X tg (.Call (.Name "range" p) [a,b] [] pos) (Gm ta):=by
 intro pins s σ H R I h;refine Call_ (g_ I hg hm boot_range (M1 (bQ (ha pos pins s σ H _ I h) fun us s1 ⟨vs,H1,I1,r1,q1⟩=>?_) (by rw[hs,hs2]) (by rw[hs2];rfl)));obtain⟨i,j,e,⟨q1,q2,q3,q4⟩,q⟩:=q1;subst e;cases r1 with
 |cons r rr =>
  cases rr with
  |cons r' rr =>
   cases rr;obtain⟨t,rfl⟩:=r;obtain⟨t',rfl⟩:=r';exact call_range_2 (vP I1 q1 q2 q3 q4 q)
def eW(wi:TI)(g:TG)(tb:TS):TS:=fun D σ H=>wi σ H fun J H1=>∃W:Nat->Nat->St->Hp->Prop,(∃m,W 0 m σ H1)/\∀i m σ H,W i m σ H ->
 (J.stop i H/\D.nx σ H)\/(J.go i H/\∃N:St->Hp->Prop,(∀σ' H',N σ' H'->∃m',m'<m/\W (i+1) m' σ' H')/\∀x H',J.yld i H x H'->g x σ H' fun σ2 H2=>tb {D with nx:=N,ct:=N,bk:=D.nx} σ2 H2)
def vV(fp:List Addr)(h:Heap):List (Addr×Obj):=fp.filterMap fun b=>(h.get? b).map fun o=>(b,o)
theorem dz{fp:List Addr}{h:Heap}{b:Addr}{o:Obj}(hb:b∈fp)(e:h.get? b=some o):(b,o)∈vV fp h:=MS.mpr ⟨b,hb,by rw[e];rfl⟩
theorem zE{p:Addr×Obj}(hp:p∈vV fp h):p.1∈fp/\h.get? p.1=some p.2:=by
 obtain⟨b,hb,e⟩:=MS.mp hp;cases q:h.get? b with
 |none=>rw[q] at e;cases e
 |some o =>
  rw[q] at e;have e':(b,o)=p:=LD e;subst e';exact⟨hb,q⟩
theorem Inv.pinned{H:Hp}{fp:List Addr}(I:Inv X pins σ H s)(hf:∀b∈fp,g7 X pins H b)(ho:∀b∈fp,∃o,s.heap.get? b=some o/\∀v,o.data≠.cell v):Inv X (pins++vV fp s.heap) σ H s :=
 I.zm fun p hp=>(L5.mp hp).elim (fun z=>I.pin p (LH _ z)) fun z=>by
  obtain⟨hb,e⟩:=zE z;obtain⟨f0,f1,f2,_⟩:=hf p.1 hb;obtain⟨o,e',d⟩:=ho p.1 hb;rw[e] at e';cases e';exact⟨e,f0,f1,f2,d⟩
theorem Inv.gL{pins pl:List (Addr×Obj)}{H:Hp}(I:Inv X (pins++pl) σ H s):Inv X pins σ H s:=I.zm fun p hp=>I.pin p (LH _ (MP _ hp))
theorem du{iter:Expr}{pos:Pos}(hp:RN (model X.prog X.w) X.A X.env X.xe)(hc:X.calm=true)(hi:PI X tg iter wi)(hg:PG X tg g)(hb:PSs X body tb)
  (hs:∀x,foldedSetIterable iter X.env x=pure x:=by intro _;rfl):PS X (.For tg iter body [] pos) (eW wi g tb):=by
 intro pins s σ H D I h;refine wpAny_For (bQ (hi pins s σ H _ I h) fun v s1 h1=>bQ h1 fun Xo s2 h2=>?_) hs;obtain⟨it,fp,tn,J,H2,e,I2,T,WU,f2,W,⟨m0,w0⟩,turn⟩:=h2;subst e;have Wr:∀{H':Hp},(∀b∈fp,H' b=none)->∀b∈fp,g7 X pins H' b:=fun hn b hb=>⟨hn b hb,(f2 b hb).2⟩
 refine codeAny_forLoop_any (fun n s'=>∃i σ' H',Inv X pins σ' H' s'/\tn i s'.heap/\(∀b∈fp,H' b=none)/\W i n σ' H') ?_ m0 ⟨0,σ,H2,I2,WU,fun b hb=>(f2 b hb).1,w0⟩;rintro n s3 ⟨i,σ3,H3,I3,st3,fr3,w3⟩;rcases turn i n σ3 H3 w3 with⟨stop,qn⟩|⟨go,N,hN,step⟩
 ·refine On hp (bQ (T.done X rfl rfl rfl hc i pins s3 σ3 H3 X.xe I3 (Wr fr3) st3 stop) fun r s4 ⟨hr,I4⟩=>?_);subst hr;exact OX ⟨σ3,H3,I4,qn⟩
 ·refine On hp (bQ (T.item X rfl rfl rfl hc i pins s3 σ3 H3 X.xe I3 (Wr fr3) st3 go) fun r s4 ⟨u,hr,h4⟩=>?_);subst hr;refine On hp (bQ h4 fun _ s5 ⟨x,H5,I5,r5,y5,XD,X6⟩=>?_);have I5':=I5.pinned (Wr X6) (T.obj _ _ XD);refine On hp (bQ (hg _ s5 σ3 H5 x u _ I5' r5 (step x H5 y5)) fun _ s6 ⟨σ6,H6,I6,q6⟩=>?_);refine On hp (bQ (hb _ s6 σ6 H6 _ I6 q6) fun f s7 q7=>?_)
  have again:∀{σ7:St} {H7:Hp},Inv X (pins++vV fp s5.heap) σ7 H7 s7->N σ7 H7->∃m,m<n/\∃i σ' H',Inv X pins σ' H' s7/\tn i s7.heap/\(∀b∈fp,H' b=none)/\W i m σ' H':=fun {σ7 H7} I7 n7=>by
   obtain⟨m',hm,w7⟩:=hN σ7 H7 n7;refine⟨m',hm,i+1,σ7,H7,I7.gL,T.keep _ _ _ XD fun b hb o e=>(I7.pin (b,o) (LH _ (LH _ (dz hb e)))).1,fun b hb=>?_,w7⟩;obtain⟨o,e,d⟩:=T.obj _ _ XD b hb;exact(I7.pin (b,o) (LH _ (LH _ (dz hb e)))).2.1
  cases f with
  |next=>obtain⟨σ7,H7,I7,n7⟩:=q7;exact again I7 n7
  |cont=>obtain⟨σ7,H7,I7,n7⟩:=q7;exact again I7 n7
  |brk=>obtain⟨σ7,H7,I7,q7⟩:=q7;exact⟨σ7,H7,I7.gL,q7⟩
  |ret v=>obtain⟨x7,σ7,H7,I7,r7,q7⟩:=q7;exact⟨x7,σ7,H7,I7.gL,r7,q7⟩
end
theorem C9{K:Fg}{xs:List V}{g:TG}{tb:TS}{D:dk}{H:Hp}(Pv:Nat->St->Hp->Prop)(h0:Pv 0 σ H)(hl:∀i σ H,i<=xs.length->Pv i σ H->SqL K H a xs)
  (hs:∀i x σ H,xs[i]?=some x->Pv i σ H->g x σ H fun σ2 H2=>tb {D with nx:=Pv (i+1),ct:=Pv (i+1),bk:=D.nx} σ2 H2) (hd:∀σ H,Pv xs.length σ H->D.nx σ H) :
  ∃W:Nat->Nat->St->Hp->Prop,(∃m,W 0 m σ H)/\∀i m σ H,W i m σ H ->
   ((sN K a).stop i H/\D.nx σ H)\/((sN K a).go i H/\∃N:St->Hp->Prop,(∀σ' H',N σ' H'->∃m',m'<m/\W (i+1) m' σ' H')/\∀x H',(sN K a).yld i H x H'->g x σ H' fun σ2 H2=>tb {D with nx:=N,ct:=N,bk:=D.nx} σ2 H2):=by
 refine⟨fun i m σ H=>m=xs.length-i/\i<=xs.length/\Pv i σ H,⟨xs.length,by simp,Ml _,h0⟩,?_⟩;rintro i m σ H ⟨rfl,hi,p⟩;have q:=hl i σ H hi p;by_cases VL:i<xs.length
 ·refine .inr ⟨⟨xs,xs[i],q,by simp[VL]⟩,Pv (i+1),fun σ' H' p'=>⟨xs.length-(i+1),by walk_at "om",rfl,VL,p'⟩,fun x H' y=>?_⟩;obtain⟨e,y⟩:=y;subst e;exact hs i x σ _ (y xs q) p
 ·have e:i=xs.length:=by walk_at "om"
  subst e;exact .inl ⟨⟨xs,q,Lf _⟩,hd σ H p⟩
theorem Gv{K:Fg}{xs:List V}{g:TG}{tb:TS}{D:dk}{H:Hp}(Pv:Nat->St->Hp->Prop)(h0:Pv 0 σ H)(hl:∀i σ H,i<=xs.length->Pv i σ H->SqT K H a xs)
  (hs:∀i x σ H,xs[i]?=some x->Pv i σ H->g x σ H fun σ2 H2=>tb {D with nx:=Pv (i+1),ct:=Pv (i+1),bk:=D.nx} σ2 H2) (hd:∀σ H,Pv xs.length σ H->D.nx σ H) :
  ∃W:Nat->Nat->St->Hp->Prop,(∃m,W 0 m σ H)/\∀i m σ H,W i m σ H ->
   ((vx K a).stop i H/\D.nx σ H)\/((vx K a).go i H/\∃N:St->Hp->Prop,(∀σ' H',N σ' H'->∃m',m'<m/\W (i+1) m' σ' H')/\∀x H',(vx K a).yld i H x H'->g x σ H' fun σ2 H2=>tb {D with nx:=N,ct:=N,bk:=D.nx} σ2 H2):=by
 refine⟨fun i m σ H=>m=xs.length-i/\i<=xs.length/\Pv i σ H,⟨xs.length,by simp,Ml _,h0⟩,?_⟩;rintro i m σ H ⟨rfl,hi,p⟩;have q:=hl i σ H hi p;by_cases VL:i<xs.length
 ·refine .inr ⟨⟨xs,xs[i],q,by simp[VL]⟩,Pv (i+1),fun σ' H' p'=>⟨xs.length-(i+1),by walk_at "om",rfl,VL,p'⟩,fun x H' y=>?_⟩;obtain⟨e,y⟩:=y;subst e;exact hs i x σ _ (y xs q) p
 ·have e:i=xs.length:=by walk_at "om"
  subst e;exact .inl ⟨⟨xs,q,Lf _⟩,hd σ H p⟩
theorem AF{lo:Int}{n:Nat}{g:TG}{tb:TS}{D:dk}{H:Hp}(Pv:Nat->St->Hp->Prop)(h0:Pv 0 σ H)
  (hs:∀i σ H,i<n->Pv i σ H->g (.int (lo+i)) σ H fun σ2 H2=>tb {D with nx:=Pv (i+1),ct:=Pv (i+1),bk:=D.nx} σ2 H2) (hd:∀σ H,Pv n σ H->D.nx σ H) :
  ∃W:Nat->Nat->St->Hp->Prop,(∃m,W 0 m σ H)/\∀i m σ H,W i m σ H ->
   ((sU lo n).stop i H/\D.nx σ H)\/((sU lo n).go i H/\∃N:St->Hp->Prop,(∀σ' H',N σ' H'->∃m',m'<m/\W (i+1) m' σ' H')/\∀x H',(sU lo n).yld i H x H'->g x σ H' fun σ2 H2=>tb {D with nx:=N,ct:=N,bk:=D.nx} σ2 H2):=by
 refine⟨fun i m σ H=>m=n-i/\i<=n/\Pv i σ H,⟨n,by simp,Ml _,h0⟩,?_⟩;rintro i m σ H ⟨rfl,hi,p⟩;by_cases VL:i<n
 ·refine .inr ⟨VL,Pv (i+1),fun σ' H' p'=>⟨n-(i+1),by walk_at "om",rfl,VL,p'⟩,fun x H' y=>?_⟩;obtain⟨e,y⟩:=y;subst e y;exact hs i σ _ VL p
 ·have e:i=n:=by walk_at "om"
  subst e;exact .inl ⟨Lf _,hd σ H p⟩
theorem Bk{c:TT}{tb:TS}{D:dk}{H:Hp}(Pv:St->Hp->Prop)(μ:St->Hp->Nat)(h0:Pv σ H)
  (hs:∀σ H,Pv σ H->c σ H fun b H1=>if b=true then tb {D with nx:=fun σ' H'=>Pv σ' H'/\μ σ' H'<μ σ H,ct:=fun σ' H'=>Pv σ' H'/\μ σ' H'<μ σ H,bk:=D.nx} σ H1 else D.nx σ H1)
  (mono:∀σ H Q Q',(∀b H1,Q b H1->Q' b H1)->c σ H Q->c σ H Q'):yc c tb D σ H:=by
 refine⟨fun m σ H=>m=μ σ H/\Pv σ H,⟨_,rfl,h0⟩,?_⟩;rintro m σ H ⟨rfl,p⟩;refine mono σ H _ _ (fun b H1 q=>?_) (hs σ H p);cases b with
 |true=>exact⟨_,fun σ' H' ⟨p',l⟩=>⟨_,l,rfl,p'⟩,q⟩
 |false=>exact q
abbrev R2:=V->V->Hp->VK->Prop
def gW(X:Cx)(f:La->La->Sem La)(r:R2):Prop :=
 ∀(pins:List (Addr×Obj)) (s:Le) (σ:St) (H:Hp) (x y:V) (v u:La) (Q:VK),Inv X pins σ H s->RelV x v->RelV y u->r x y H Q ->
  wpAny (model X.prog X.w) X.A (f v u) (EP X pins σ Q) X.xe s
def KO(X:Cx)(f:La->Sem La)(r:V->Hp->VK->Prop):Prop :=
 ∀(pins:List (Addr×Obj)) (s:Le) (σ:St) (H:Hp) (x:V) (v:La) (Q:VK),Inv X pins σ H s->RelV x v->r x H Q ->
  wpAny (model X.prog X.w) X.A (f v) (EP X pins σ Q) X.xe s
def g8(X:Cx)(f:La)(r:List V->Hp->VK->Prop):Prop :=
 ∀(pins:List (Addr×Obj)) (s:Le) (σ:St) (H:Hp) (xs:List V) (us:List La) (Q:VK),Inv X pins σ H s->Vals xs us->r xs H Q ->
  wpAny (model X.prog X.w) X.A (call f us) (EP X pins σ Q) X.xe s
def aE(r:R2)(ta tb:TE):TE:=fun σ H Q=>ta σ H fun x H1=>tb σ H1 fun y H2=>r x y H2 Q
def DK(r:V->Hp->VK->Prop)(ta:TE):TE:=fun σ H Q=>ta σ H fun x H1=>r x H1 Q
def rI(C:Int->Int->Prop)(g:Int->Int->V):R2:=fun x y H Q=>∃i j,x=.int i/\y=.int j/\C i j/\Q (g i j) H
def w_(g:Int->Int->V):R2:=fun x y H Q=>∃i j,x=.int i/\y=.int j/\Q (g i j) H
def rU(g:Int->V):V->Hp->VK->Prop:=fun x H Q=>∃i,x=.int i/\Q (g i) H
section
variable{X:Cx}{a b c:Expr}{ta tb tc:TE}{pos:Pos}
theorem GG(ha:PE X a ta)(hb:PE X b tb){H:Hp}{R:V->V->Hp->Prop}(I:Inv X pins σ H s)
  (h:ta σ H fun x H1=>tb σ H1 fun y H2=>R x y H2)  {f:La->La->Sem La}
  (hf:∀v u s2 x y H2,Inv X pins σ H2 s2->RelV x v->RelV y u->R x y H2->wpAny (model X.prog X.w) X.A (f v u) Q X.xe s2) :
  wpAny (model X.prog X.w) X.A (eval a X.env) (fun v s₁=>wpAny (model X.prog X.w) X.A (eval b X.env) (fun u s₂=>wpAny (model X.prog X.w) X.A (f v u) Q X.xe s₂) X.xe s₁) X.xe s:=by
 refine bQ (ha pins s σ H _ I h) fun v s1 ⟨x,H1,I1,r1,q1⟩=>?_
 refine bQ (hb pins s1 σ H1 _ I1 q1) fun u s2 ⟨y,H2,I2,r2,q2⟩=>?_
 exact hf v u s2 x y H2 I2 r1 r2 q2
theorem aG(ho:gW X (binaryOp op) r)(ha:PE X a ta)(hb:PE X b tb):PE X (.BinOp a op b pos) (aE r ta tb):=by
 intro pins s σ H Q I h;exact wpAny_BinOp (GG ha hb I h fun v u s2 x y H2 I2 rx ry q=>ho pins s2 σ H2 x y v u Q I2 rx ry q)
theorem xg(ho:KO X (unaryOp op) r)(ha:PE X a ta):PE X (.UnaryOp op a pos) (DK r ta):=by
 intro pins s σ H Q I h;exact UnaryOp_ (bQ (ha pins s σ H _ I h) fun v s1 ⟨x,H1,I1,r1,q1⟩=>ho pins s1 σ H1 x v Q I1 r1 q1)
theorem FH{f:La->La->Sem La}{C:Int->Int->Prop}{g:Int->Int->Int}
  (rule:∀(i j:Int) (t u:Tok) (s:Le) (Q:La->Le->Prop) (E:La->Le->Prop),C i j->Q (.int (g i j) s.toks) {s with toks:=s.toks+1}->wpAny (model X.prog X.w) X.A (f (.int i t) (.int j u)) Q E s) :
  gW X f (rI C fun i j=>.int (g i j)):=by
 intro pins s σ H x y v u Q I rx ry h;obtain⟨i,j,rfl,rfl,hc,q⟩:=h;obtain⟨t,rfl⟩:=rx;obtain⟨t',rfl⟩:=ry;exact rule i j t t' s _ _ hc ⟨.int (g i j),H,I.tok _,⟨_,rfl⟩,q⟩
theorem HD{f:La->La->Sem La}{g:Int->Int->Int}
  (rule:∀(i j:Int) (t u:Tok) (s:Le) (Q:La->Le->Prop) (E:La->Le->Prop),Q (.int (g i j) s.toks) {s with toks:=s.toks+1}->wpAny (model X.prog X.w) X.A (f (.int i t) (.int j u)) Q E s) :
  gW X f (w_ fun i j=>.int (g i j)):=by
 intro pins s σ H x y v u Q I rx ry h;obtain⟨i,j,rfl,rfl,q⟩:=h;obtain⟨t,rfl⟩:=rx;obtain⟨t',rfl⟩:=ry;exact rule i j t t' s _ _ ⟨.int (g i j),H,I.tok _,⟨_,rfl⟩,q⟩
theorem FI{f:La->La->Sem La}{g:Int->Int->Bool}
  (rule:∀(i j:Int) (t u:Tok) (s:Le) (Q:La->Le->Prop) (E:La->Le->Prop),Q (.bool (g i j)) s->wpAny (model X.prog X.w) X.A (f (.int i t) (.int j u)) Q E s) :
  gW X f (w_ fun i j=>.bl (g i j)):=by
 intro pins s σ H x y v u Q I rx ry h;obtain⟨i,j,rfl,rfl,q⟩:=h;obtain⟨t,rfl⟩:=rx;obtain⟨t',rfl⟩:=ry;exact rule i j t t' s _ _ ⟨.bl (g i j),H,I,rfl,q⟩
def GY(i j:Int):Prop:=0<j/\j<1073741824
def Js(i j:Int):Prop:=0<=j/\j<=1000000/\i.natAbs<2 ^ 64
def CMul(i j:Int):Prop:=(-(2 ^ 64)<i/\i<2 ^ 64)\/(-(2 ^ 64)<j/\j<2 ^ 64)
theorem CMul.ok(h:CMul i j):IntMulOk i j:=by
 rcases h with⟨h1,h2⟩|⟨h1,h2⟩
 ·exact .of_left (intBits_le_64 h1 h2)
 ·exact .of_right (intBits_le_64 h1 h2)
theorem br:gW X (binaryOp .Add) (w_ fun i j=>.int (i+j)):=HD fun _ _ _ _ _ _ _ q=>add_int q
theorem nA:gW X (binaryOp .Sub) (w_ fun i j=>.int (i-j)):=HD fun _ _ _ _ _ _ _ q=>sub_int q
theorem fB:gW X (binaryOp .Mult) (rI CMul fun i j=>.int (i*j)):=FH fun _ _ _ _ _ _ _ hc q=>mul_int q hc.ok
theorem cB:gW X (binaryOp .FloorDiv) (rI GY fun i j=>.int (i / j)):=FH fun i j _ _ _ _ _ hc q=>by
 have h1:(0:Int)<j:=hc.1;have h2:j<1073741824:=hc.2;exact floordiv_int (by walk_at "om") (by rw[Pe i (by walk_at "om")];exact q) (.inl (PyProof.noPylong_small (by walk_at "om")))
theorem aZ:gW X (binaryOp .Mod) (rI (fun _ j=>0<j) fun i j=>.int (i % j)):=FH fun i j _ _ _ _ _ hc q=>by
 have h1:(0:Int)<j:=hc;exact mod_int' (by walk_at "om") (by rw[Int.fmod_eq_emod_of_nonneg i (by walk_at "om")];exact q)
theorem zx:gW X (binaryOp .Mod) (rI (fun _ j=>j≠0) fun i j=>.int (i.fmod j)):=FH fun _ _ _ _ _ _ _ hc q=>mod_int' hc q
theorem D6:gW X (binaryOp .Pow) (rI Js fun i j=>.int (i ^ j.toNat)):=FH fun _ _ _ _ _ _ _ hc q=>pow_int_small hc.1 hc.2.1 hc.2.2 q
theorem K1{f:La->Sem La}{g:Int->Int}
  (rule:∀(i:Int) (t:Tok) (s:Le) (Q:La->Le->Prop) (E:La->Le->Prop),Q (.int (g i) s.toks) {s with toks:=s.toks+1}->wpAny (model X.prog X.w) X.A (f (.int i t)) Q E s) :
  KO X f (rU fun i=>.int (g i)):=by
 intro pins s σ H x v Q I rx h;obtain⟨i,rfl,q⟩:=h;obtain⟨t,rfl⟩:=rx;exact rule i t s _ _ ⟨.int (g i),H,I.tok _,⟨_,rfl⟩,q⟩
theorem m_:KO X (unaryOp .USub) (rU fun i=>.int (-i)):=K1 fun _ _ _ _ _ q=>neg_int q
end
def Hf:V->V->Bool
 |.non,.non=>true|.non,.int _=>true|.int _,.non=>true|.non,.bl _=>true|.bl _,.non=>true|.non,.str _=>true|.str _,.non=>true
 |.int _,.int _=>true|.bl _,.bl _=>true|.str _,.str _=>true|.byt _,.byt _=>true
 |.int _,.str _=>true|.str _,.int _=>true|.bl _,.str _=>true|.str _,.bl _=>true
 |_,_=>false
def fq:R2:=fun x y H Q=>Hf x y=true/\Q (.bl (decide (x=y))) H
def w4:R2:=fun x y H Q=>Hf x y=true/\Q (.bl (!decide (x=y))) H
theorem AM:decide (V.int i=V.int j)=(i == j):=by
 rw[PU];simp
theorem Ep:decide (V.bl i=V.bl j)=(i == j):=by
 rw[PU];simp
theorem AL:decide (V.str i=V.str j)=(i == j):=by
 rw[PU];simp
theorem AN:decide (V.byt i=V.byt j)=(i.toList == j.toList):=by
 rw[PU];cases i;cases j;simp
section
variable{X:Cx}{a b c:Expr}{ta tb tc:TE}{pos:Pos}
theorem b8{H:Hp}{Q:VK}{k':Bool}(I:Inv X pins σ H s)(q:Q (.bl k) H)(e:k=k'):EP X pins σ Q (.bool k') s:=by
 subst e;exact⟨.bl k,H,I,rfl,q⟩
theorem cC:gW X (compareOp .Eq) fq:=by
 intro pins s σ H x y v u Q I rx ry h;obtain⟨hs,q⟩:=h;cases x with
 |non =>
  cases rx;cases y with
  |non=>cases ry;exact PySem.EqNone.eq_none_none (b8 I q (by simp))
  |bl j=>cases ry;exact PySem.EqNone.eq_none_bool (b8 I q (by simp))
  |int j=>obtain⟨t',rfl⟩:=ry;exact PySem.EqNone.eq_none_int (b8 I q (by simp))
  |str j=>obtain⟨t',rfl⟩:=ry;exact PySem.EqNone.eq_none_str (b8 I q (by simp))
  |_=>exact absurd (show false=true from hs) LO
 |bl i =>
  cases rx;cases y with
  |non=>cases ry;exact PySem.EqNone.eq_bool_none (b8 I q (by simp))
  |bl j=>cases ry;exact eq_bool (b8 I q Ep)
  |str j=>obtain⟨t',rfl⟩:=ry;exact PySem.EqMixed.eq_bool_str (b8 I q (by simp))
  |_=>exact absurd (show false=true from hs) LO
 |int i =>
  obtain⟨t,rfl⟩:=rx;cases y with
  |non=>cases ry;exact PySem.EqNone.eq_int_none (b8 I q (by simp))
  |int j=>obtain⟨t',rfl⟩:=ry;exact eq_int (b8 I q AM)
  |str j=>obtain⟨t',rfl⟩:=ry;exact PySem.EqMixed.eq_int_str (b8 I q (by simp))
  |_=>exact absurd (show false=true from hs) LO
 |str i =>
  obtain⟨t,rfl⟩:=rx;cases y with
  |non=>cases ry;exact PySem.EqNone.eq_str_none (b8 I q (by simp))
  |bl j=>cases ry;exact PySem.EqMixed.eq_str_bool (b8 I q (by simp))
  |int j=>obtain⟨t',rfl⟩:=ry;exact PySem.EqMixed.eq_str_int (b8 I q (by simp))
  |str j=>obtain⟨t',rfl⟩:=ry;exact eq_str (b8 I q AL)
  |_=>exact absurd (show false=true from hs) LO
 |byt i =>
  obtain⟨t,rfl⟩:=rx;cases y with
  |byt j=>obtain⟨t',rfl⟩:=ry;exact PySem.W.eq_bytes (b8 I q AN)
  |_=>exact absurd (show false=true from hs) LO
 |_=>cases y <;> exact absurd (show false=true from hs) LO
theorem mM:gW X (compareOp .NotEq) w4:=by
 intro pins s σ H x y v u Q I rx ry h;obtain⟨hs,q⟩:=h;cases x with
 |non =>
  cases rx;cases y with
  |non=>cases ry;exact PySem.EqNone.ne_none_none (b8 I q (by simp))
  |bl j=>cases ry;exact PySem.EqNone.ne_none_bool (b8 I q (by simp))
  |int j=>obtain⟨t',rfl⟩:=ry;exact PySem.EqNone.ne_none_int (b8 I q (by simp))
  |str j=>obtain⟨t',rfl⟩:=ry;exact PySem.EqNone.ne_none_str (b8 I q (by simp))
  |_=>exact absurd (show false=true from hs) LO
 |bl i =>
  cases rx;cases y with
  |non=>cases ry;exact PySem.EqNone.ne_bool_none (b8 I q (by simp))
  |bl j=>cases ry;exact ne_bool (b8 I q (congrArg not Ep))
  |str j=>obtain⟨t',rfl⟩:=ry;exact PySem.EqMixed.ne_bool_str (b8 I q (by simp))
  |_=>exact absurd (show false=true from hs) LO
 |int i =>
  obtain⟨t,rfl⟩:=rx;cases y with
  |non=>cases ry;exact PySem.EqNone.ne_int_none (b8 I q (by simp))
  |int j=>obtain⟨t',rfl⟩:=ry;exact ne_int (b8 I q (congrArg not AM))
  |str j=>obtain⟨t',rfl⟩:=ry;exact PySem.EqMixed.ne_int_str (b8 I q (by simp))
  |_=>exact absurd (show false=true from hs) LO
 |str i =>
  obtain⟨t,rfl⟩:=rx;cases y with
  |non=>cases ry;exact PySem.EqNone.ne_str_none (b8 I q (by simp))
  |bl j=>cases ry;exact PySem.EqMixed.ne_str_bool (b8 I q (by simp))
  |int j=>obtain⟨t',rfl⟩:=ry;exact PySem.EqMixed.ne_str_int (b8 I q (by simp))
  |str j=>obtain⟨t',rfl⟩:=ry;exact ne_str (b8 I q (congrArg not AL))
  |_=>exact absurd (show false=true from hs) LO
 |byt i =>
  obtain⟨t,rfl⟩:=rx;cases y with
  |byt j=>obtain⟨t',rfl⟩:=ry;exact PySem.W.ne_bytes (b8 I q (congrArg not AN))
  |_=>exact absurd (show false=true from hs) LO
 |_=>cases y <;> exact absurd (show false=true from hs) LO
theorem ij:gW X (compareOp .Lt) (w_ fun i j=>.bl (decide (i<j))):=FI fun _ _ _ _ _ _ _ q=>lt_int q
theorem pC:gW X (compareOp .LtE) (w_ fun i j=>.bl (decide (i<=j))):=FI fun _ _ _ _ _ _ _ q=>le_int q
theorem mO:gW X (compareOp .Gt) (w_ fun i j=>.bl (decide (j<i))):=FI fun _ _ _ _ _ _ _ q=>gt_int q
theorem gk:gW X (compareOp .Is) (fun x y H Q=>y=.non/\Q (.bl (decide (x=.non))) H):=by
 intro pins s σ H x y v u Q I rx ry h;obtain⟨rfl,q⟩:=h;cases ry;refine is_none_gen (b8 I q ?_)
 cases x <;> first
  |(cases rx;rfl)
  |(obtain⟨t,rfl⟩:=rx;rfl)
theorem rA:gW X (compareOp .NotIn) (fun x y H Q=>∃i j,x=.str i/\y=.str j/\Q (.bl (!(!(Nr j i 0 j.length 1).isEmpty))) H):=by
 intro pins s σ H x y v u Q I rx ry h;obtain⟨i,j,rfl,rfl,q⟩:=h;obtain⟨t,rfl⟩:=rx;obtain⟨t',rfl⟩:=ry;exact notIn_str (b8 I q rfl)
theorem aQ(b:Expr){op:CmpOp}(h:op≠.In:=by decide)(h2:op≠.NotIn:=by decide):behindInMarks op b=false:=by
 have e1:(op == CmpOp.In)=false:=by cases op <;> first|rfl|exact absurd rfl h
 have e2:(op == CmpOp.NotIn)=false:=by cases op <;> first|rfl|exact absurd rfl h2
 cases b <;> simp[behindInMarks,e1,e2]
theorem cr(ho:gW X (compareOp op) r)(ha:PE X a ta)(hb:PE X b tb)(hm:behindInMarks op b=false):PE X (.Compare a [op] [b] pos) (aE r ta tb):=by
 intro pins s σ H Q I h;exact wpAny_Compare1 (GG ha hb I h fun v u s2 x y H2 I2 rx ry q=>ho pins s2 σ H2 x y v u Q I2 rx ry q) hm
def bg(t:TE):TT:=fun σ H Q=>t σ H fun x H'=>∃k,x=.bl k/\Q k H'
theorem aN(ho:gW X (compareOp op) r)(ha:PE X a ta)(hb:PE X b tb)(hm:behindInMarks op b=false):PT X (.Compare a [op] [b] pos) (bg (aE r ta tb)):=by
 intro pins s σ H Q I h
 refine wpAny_isTrue_Compare1 (bQ (ha pins s σ H _ I h) fun v s1 ⟨x,H1,I1,r1,q1⟩=>bQ (hb pins s1 σ H1 _ I1 q1) fun u s2 ⟨y,H2,I2,r2,q2⟩ =>
  bQ (ho pins s2 σ H2 x y v u _ I2 r1 r2 q2) fun c s3 ⟨z,H3,I3,r3,k,e,q3⟩=>?_) hm
 subst e;cases r3;exact Nf ⟨H3,I3,q3⟩
def iF(r r':R2)(ta tb tc:TE):TE:=fun σ H Q=>ta σ H fun x H1=>tb σ H1 fun y H2=>r x y H2 fun z H3=>∃k,z=.bl k /\
 (if k=true then tc σ H3 fun w' H4=>r' y w' H4 Q else Q (.bl false) H3)
theorem pB(ho:gW X (compareOp op) r)(WV:gW X (compareOp ZC) r')(ha:PE X a ta)(hb:PE X b tb)(hc:PE X c tc)
  (hm:lastMarks [op,ZC] [b,c]=false:=by with_unfolding_all rfl):PE X (.Compare a [op,ZC] [b,c] pos) (iF r r' ta tb tc):=by
 intro pins s σ H Q I h
 refine Compare_chain (bQ (ha pins s σ H _ I h) fun v s1 ⟨x,H1,I1,r1,q1⟩=>chain_link (bQ (hb pins s1 σ H1 _ I1 q1) fun u s2 ⟨y,H2,I2,r2,q2⟩ =>
  bQ (ho pins s2 σ H2 x y v u _ I2 r1 r2 q2) fun d s3 ⟨z,H3,I3,r3,k,e,q3⟩=>?_)) hm
 subst e;cases r3;refine Nf ?_;cases k with
 |false=>exact ite_ff ⟨.bl false,H3,I3,rfl,q3⟩
 |true=>exact ite_tt (chain_last (bQ (hc pins s3 σ H3 _ I3 q3) fun w' s4 ⟨z',H4,I4,r4,q4⟩=>WV pins s4 σ H4 y z' u w' Q I4 r2 r4 q4))
theorem pf(ho:gW X (compareOp op) r)(WV:gW X (compareOp ZC) r')(ha:PE X a ta)(hb:PE X b tb)(hc:PE X c tc)
  (hm:lastMarks [op,ZC] [b,c]=false:=by with_unfolding_all rfl):PT X (.Compare a [op,ZC] [b,c] pos) (bg (iF r r' ta tb tc)):=by
 intro pins s σ H Q I h
 refine isTrue_chain (bQ (ha pins s σ H _ I h) fun v s1 ⟨x,H1,I1,r1,q1⟩=>test_link (bQ (hb pins s1 σ H1 _ I1 q1) fun u s2 ⟨y,H2,I2,r2,q2⟩ =>
  bQ (ho pins s2 σ H2 x y v u _ I2 r1 r2 q2) fun d s3 ⟨z,H3,I3,r3,k,e,q3⟩=>?_)) hm
 subst e;cases r3;refine Nf ?_;cases k with
 |false =>
  obtain⟨k',e',q'⟩:=q3;cases e';exact ite_ff ⟨H3,I3,q'⟩
 |true =>
  refine ite_tt (test_last (bQ (hc pins s3 σ H3 _ I3 q3) fun w' s4 ⟨z',H4,I4,r4,q4⟩=>bQ (WV pins s4 σ H4 y z' u w' _ I4 r2 r4 q4) fun d' s5 ⟨z2,H5,I5,r5,k2,e2,q5⟩=>?_));subst e2;cases r5;exact Nf ⟨H5,I5,q5⟩
theorem nB:(sizeLine:Nat)<2 ^ 63:=by rw[Rn];decide
theorem aX:gW X (binaryOp .Add) (fun x y H Q=>∃i j,x=.str i/\y=.str j/\i.length+j.length<=sizeLine/\Q (.str (i++j)) H):=by
 intro pins s σ H x y v u Q I rx ry h;obtain⟨i,j,rfl,rfl,hz,q⟩:=h;obtain⟨t,rfl⟩:=rx;obtain⟨t',rfl⟩:=ry;exact add_str (fun t' tk=>⟨.str (i++j),H,I.tok _,⟨_,rfl⟩,q⟩) hz
theorem vals1{x:V}{us:List La}(r:Vals [x] us):∃u,us=[u]/\RelV x u:=by
 cases r with
 |cons r1 r2=>cases r2;exact⟨_,rfl,r1⟩
theorem vals2{x y:V}{us:List La}(r:Vals [x,y] us):∃u w',us=[u,w']/\RelV x u/\RelV y w':=by
 cases r with
 |cons r1 r2 =>
  cases r2 with
  |cons r3 r4=>cases r4;exact⟨_,_,rfl,r1,r3⟩
theorem wK:g8 X (.builtin "abs") (fun xs H Q=>∃i,xs=[.int i]/\Q (.int (if i<0 then -i else i)) H):=by
 intro pins s σ H xs us Q I r h;obtain⟨i,rfl,q⟩:=h;obtain⟨u,rfl,t,rfl⟩:=vals1 r;exact call_abs_int fun u tk=>⟨.int (if i<0 then -i else i),H,I.tok _,⟨_,rfl⟩,q⟩
theorem AZ(hc:X.calm=true):g8 X (.builtin "min") (fun xs H Q=>∃i j,xs=[.int i,.int j]/\Q (.int (if j<i then j else i)) H):=by
 intro pins s σ H xs us Q I r h;obtain⟨i,j,rfl,q⟩:=h;obtain⟨u,w',rfl,⟨t,rfl⟩,⟨t',rfl⟩⟩:=vals2 r;refine min_two_ints (I.ok.hd hc) fun h' tk k=>⟨_,H,I.kept k,?_,q⟩
 by_cases hj:j<i
 ·rw[if_pos hj,if_pos hj];exact⟨_,rfl⟩
 ·rw[if_neg hj,if_neg hj];exact⟨_,rfl⟩
theorem gB:g8 X (.type "int") (fun xs H Q=>(∃i,xs=[.int i]/\Q (.int i) H)\/∃k,xs=[.bl k]/\Q (.int (if k then 1 else 0)) H):=by
 intro pins s σ H xs us Q I r h;rcases h with⟨i,rfl,q⟩|⟨k,rfl,q⟩
 ·obtain⟨u,rfl,t,rfl⟩:=vals1 r;exact call_int_int ⟨.int i,H,I,⟨_,rfl⟩,q⟩
 ·obtain⟨u,rfl,r1⟩:=vals1 r;cases r1;exact call_int_bool ⟨.int (if k then 1 else 0),H,I.tok _,⟨_,rfl⟩,q⟩
end
structure ObjM (h:Heap) (x dx C:Addr) (mA:Str->Option La):Prop where
 obj:h.get? x=some (Sr C dx)
 ns:h.Ns1 dx mA
 ne:dx≠x
theorem rP{h:Heap}(n:h.Ns1 dx mA):∃od,h.get? dx=some od/\∀name,SO name od=some (mA name):=by
 obtain⟨o,es,ep,ho,hd,hk,_,hm⟩:=n;refine⟨o,ho,fun name=>?_⟩;have e:=hm name;unfold nsFind findBy at e;rw[<- Array.find?_toList] at e;unfold SO;rw[hd];dsimp only;split
 ·rename_i y q;rw[q] at e;exact congrArg some e
 ·rename_i q;rw[q] at e
  have a:es.toList.any (·.refKey)=false:=by
   rw[Ud];intro y hy;obtain⟨z,t,hkey⟩:=hk y (Pf.mp hy);simp[RO.refKey,hkey]
  have a' : ¬ es.toList.any (·.refKey)=true:=by rw[a];exact LO
  rw[if_neg a'];exact congrArg some e
theorem ObjM.look(I:ObjM h x dx C mA):∃od,PySem.W.InstAt h x (Sr C dx) C (some od)/\∀name,SO name od=some (mA name) :=
 let ⟨od,ho,hl⟩:=rP I.ns
 ⟨od,⟨I.obj,rfl,rfl,ho⟩,hl⟩
theorem RelO.some_of{v:V}(r:RelO (some v) o):∃u,o=some u/\RelV v u:=by
 cases o with
 |none=>exact(show False from r).elim
 |some u=>exact⟨u,rfl,r⟩
theorem Az(r:RelV v u):PySem.W.handedIn u=true:=by
 cases v with
 |non=>cases (show u=MI from r);rfl
 |bl b=>cases (show u=Q3 b from r);rfl
 |int i=>obtain⟨t,e⟩:=(show ∃t,u=RL i t from r);cases e;rfl
 |str x=>obtain⟨t,e⟩:=(show ∃t,u=Q2 x t from r);cases e;rfl
 |byt b=>obtain⟨t,e⟩:=(show ∃t,u=La.bytes b t from r);cases e;rfl
 |flt b=>obtain⟨t,e⟩:=(show ∃t,u=U0 b t from r);cases e;rfl
 |ref a=>cases (show u=LZ a from r);rfl
 |ty n=>cases (show u=OP n from r);rfl
section
variable{P:LB}{w:LQ}{H H':Hp}{h h':Heap}{a C dx:Addr}{fs fs':List (Str×V)}
theorem Gj(hok:HOk P w H h)(e:H a=some (.ins C dx fs)):∃mA,ObjM h a dx C mA/\(∀f,RelO (fs.lookup f) (mA f))/\R4 mA (fs.map (·.1))/\fs.length<=1000/\H dx=some (.own a):=by
 obtain⟨d,z,ne,ob,mA,n,r,q⟩:=(show cP P w H h a (.ins C dx fs) from hok a _ e)
 exact⟨mA,⟨ob,n,ne⟩,r,q,z,d⟩
end
structure Cls (K:Fg) (C:Addr):Prop where
 pg:UK K C Mm=true
 hd:Ue K C=true
 po:PySem.W.plainOver K C=true
 sa:OJ K (.ref C) "__setattr__"=some (some (.builtin "object.__setattr__"))
theorem Cls.get{K:Fg}(c:Cls K C)(f:Str):UK K C f=true:=c.pg
section
variable{X:Cx}{pins:List (Addr×Obj)}{σ:St}{H:Hp}{s:Le}{a C dx:Addr}{fs:List (Str×V)}{f:Str}{v:V}{A:Mf}{E:La->Le->Prop}
theorem GI{f:Str}{pos:Pos}{s:Le}(hb:attributeBase e f env (eval e env)=eval e env)
  (h:wpAny (model prog w) A (eval e env) (fun o s₁=>wpAny (model prog w) A (getAttr o f true) Q E s₁) E s):wpAny (model prog w) A (eval (.Attribute e f pos) env) Q E s :=
 Attribute_any_ h (by rw[arm_eval_Attribute,hb])
end
section
variable{X:Cx}{pins:List (Addr×Obj)}{σ:St}{H:Hp}{s:Le}{A:Mf}{E:La->Le->Prop}{Q:La->Le->Prop}{c:La}{b:Bool}
inductive TyOf (K:Fg) (H:Hp):V->La->Prop where
 |non:TyOf K H .non (.type "NoneType")
 |bl (x:Bool):TyOf K H (.bl x) (.type "bool")
 |int (i:Int):TyOf K H (.int i) (.type "int")
 |str (x:Str):TyOf K H (.str x) (.type "str")
 |flt (x:UInt64):TyOf K H (.flt x) (.type "float")
 |lst {a:Addr} {xs:List V} (e:H a=some (.lst xs)):TyOf K H (.ref a) (.type "list")
 |frz {a:Addr} {o:Obj} {xs:List V} (e:H a=some (.frz o (.lst xs))):TyOf K H (.ref a) (.type "list")
 |tup {a:Addr} {xs:List V} (e:H a=some (.tup xs)):TyOf K H (.ref a) (.type "tuple")
 |dK {a:Addr} {i3:List (Key×V)} (e:H a=some (.dK i3)):TyOf K H (.ref a) (.type "dict")
 |dT {a:Addr} {i3:List (List Key×V)} (e:H a=some (.dT i3)):TyOf K H (.ref a) (.type "dict")
 |ins {a C dx:Addr} {fs:List (Str×V)} (e:H a=some (.ins C dx fs)) (cl:Cls K C) (ha:OJ K (.ref C) "__class__"=some (some (.builtin "object.__class__")))
   (hn:Ro K (.builtin "object.__class__") "__get__"=some (some (.builtin "getset_descriptor.__get__"))) (htk:U7 K (.builtin "object.__class__")=some true)
   (hm:TL K C (.type "object")=some true):TyOf K H (.ref a) (.ref C)
theorem Aj(I:Inv X pins σ H s)(rx:RelV x u)(ty:TyOf X.K H x t)(e:LN X.K t c=some b)(h:∀tk,Q (.bool b) {s with toks:=tk}) :
  wpAny (model X.prog X.w) A (call (.builtin "isinstance") [u,c]) Q E s:=by
 cases ty with
 |non=>cases (show u=MI from rx);exact M8 PySem.W.kitx_none I.kIn Oc e (fun z=>nomatch z) h
 |bl y=>cases (show u=Q3 y from rx);exact M8 PySem.W.kitx_bool I.kIn Oc e (fun z=>nomatch z) h
 |int i=>obtain⟨t,q⟩:=(show ∃t,u=RL i t from rx);cases q;exact M8 PySem.W.kitx_int I.kIn Oc e (fun z=>nomatch z) h
 |str y=>obtain⟨t,q⟩:=(show ∃t,u=Q2 y t from rx);cases q;exact M8 PySem.W.kitx_str I.kIn Oc e (fun z=>nomatch z) h
 |flt y=>obtain⟨t,q⟩:=(show ∃t,u=U0 y t from rx);cases q;exact M8 PySem.W.kitx_float I.kIn Oc e (fun z=>nomatch z) h
 |@lst a xs ea =>
  cases (show u=LZ a from rx);obtain⟨_,_,n,_,h1⟩:=(show cP X.prog X.w H s.heap a (.lst xs) from I.hok a _ ea)
  exact M8 Uf I.kIn ⟨_,h1,rfl⟩ e (fun z=>nomatch z) h
 |@frz a ob xs ea =>
  cases (show u=LZ a from rx);obtain⟨_,_,_,n,_,h1⟩:=(show cP X.prog X.w H s.heap a (.frz ob (.lst xs)) from I.hok a _ ea)
  exact M8 Uf I.kIn ⟨_,h1,rfl⟩ e (fun z=>nomatch z) h
 |@tup a xs ea =>
  cases (show u=LZ a from rx);obtain⟨_,_,_,p⟩:=(show cP X.prog X.w H s.heap a (.tup xs) from I.hok a _ ea)
  obtain⟨o,h1,⟨h2,_⟩,_⟩:=p;exact M8 PySem.W.kitx_tuple I.kIn ⟨o,h1,h2⟩ e (fun z=>nomatch z) h
 |@dK a i3 ea =>
  cases (show u=LZ a from rx);obtain⟨_,_,vs,_,p⟩:=(show cP X.prog X.w H s.heap a (.dK i3) from I.hok a _ ea)
  obtain⟨o,es,ep,h1,h2,_⟩:=p;exact M8 Ug I.kIn ⟨o,h1,h2.1⟩ e (fun z=>nomatch z) h
 |@dT a i3 ea =>
  cases (show u=LZ a from rx);obtain⟨_,_,xs,_,o,es,ep,h1,h2,_⟩:=(show cP X.prog X.w H s.heap a (.dT i3) from I.hok a _ ea)
  exact M8 Ug I.kIn ⟨o,h1,h2.1⟩ e (fun z=>nomatch z) h
 |@ins a C dx fs ea cl ha hn htk hm =>
  cases (show u=LZ a from rx);obtain⟨mA,O,_⟩:=Gj I.hok ea;obtain⟨od,J,_⟩:=O.look;exact M8 (PySem.W.kitx_own (cl.get _) cl.hd ha hn htk hm) I.kIn J e (fun z=>nomatch z) h
end
structure Room (k:Nat) (A:Mf):Prop where
 hd:A.handled=none
 dp:A.depth+3*k+5<recursionLimit
 un:A.units+16*k+200<cLine
theorem Room.mono{j:Nat}(r:Room k A)(h:j<=k):Room j A:=⟨r.hd,by have:=r.dp;walk_at "om",by have:=r.un;walk_at "om"⟩
theorem Room.deeper{k:Nat}(r:Room (k+1) A)(env:Env):Room k (A.deeper env) :=
 ⟨r.hd,by have:=r.dp;show A.depth+1+3*k+5<_;walk_at "om",by have:=r.un;show A.units+3+16*k+200<_;walk_at "om"⟩
theorem xo{A:Mf}  {us:List La} {kw:List (Str×La)}:(A.under (.builtin "type.__call__" ⟨.ref C :: us,kw⟩)).depth=A.depth+1:=by
 first|rfl|simp[Uh,Code.weight,Code.isCreation,Code.isGuard,Code.isCaller,Code.frames,Ui,guardIds]
theorem xm{A:Mf}  {us:List La} {kw:List (Str×La)}:(A.under (.builtin "type.__call__" ⟨.ref C :: us,kw⟩)).units=A.units+1:=by
 first|rfl|simp[Uh,Code.cUnits,Code.frames,Ui]
theorem Room.make{k:Nat}  (r:Room (k+1) A) (C:Addr) (us:List La) (kw:List (Str×La)):Room k (A.under (.builtin "type.__call__" ⟨.ref C :: us,kw⟩)) :=
 ⟨r.hd,by have:=r.dp;rw[xo];walk_at "om",by have:=r.un;rw[xm];walk_at "om"⟩
theorem Room.depth(r:Room k A):A.depth<recursionLimit:=by have:=r.dp;walk_at "om"
theorem Room.units(r:Room k A):A.units+64<cLine:=by have:=r.un;walk_at "om"
def aA:TA:=fun _ H Q=>Q [] H
def ao(ta:TE)(tr:TA):TA:=fun σ H Q=>ta σ H fun x H1=>tr σ H1 fun xs H2=>Q (x :: xs) H2
section
variable{X:Cx}{e:Expr}{es:List Expr}{te:TE}{t:TA}{pos:Pos}
theorem ak:PA X [] aA:=fun _ _ _ _ H Q I h=>Op ⟨[],H,I,.nil,h⟩
theorem af(ha:PE X e te)(hr:PA X es t)(hs:starEach (e :: es) X.env=(false,eval e X.env) :: starEach es X.env:=by rfl):PA X (e :: es) (ao te t):=by
 intro pos pins s σ H Q I h;rw[hs];show wpAny _ _ (spliced ((false,eval e X.env) :: backTo pos (starEach es X.env))) _ _ s;refine M4 (bQ (ha pins s σ H _ I h) fun u s1 ⟨x,H1,I1,r1,q1⟩=>?_);exact bQ (hr pos pins s1 σ H1 _ I1 q1) fun us s2 ⟨xs,H2,I2,r2,q2⟩=>⟨x :: xs,H2,I2,.cons r1 r2,q2⟩
def cV(t:TA):TE:=fun σ H Q=>t σ H fun xs H1=>xs.length<=sizeLine/\∀p,H1 p=none->Q (.ref p) (upd H1 p (.tup xs))
def cW(t:TA):TE:=fun σ H Q=>t σ H fun xs H1=>xs.length<=sizeLine/\∀p,H1 p=none->Q (.ref p) (upd H1 p (.lst xs))
theorem cA{x1}(h:PA X es t):PE X (.Tuple es x1 pos) (cV t):=by
 intro pins s σ H Q I hq;refine TB (bQ (h pos pins s σ H _ I hq) fun us s1 ⟨xs,H1,I1,r,z,q⟩=>⟨by rw[<- r.length];exact z,?_⟩);have hf:H1 s1.heap.objs.size=none:=I1.hok.fresh (Lf _);refine⟨.ref s1.heap.objs.size,upd H1 s1.heap.objs.size (.tup xs),I1.laid (t':=s1.toks) (fun b u e=>Lb _ e) (Lf _) ?_,rfl,q _ hf⟩;exact⟨z,us,r,TupD.new _ _⟩
theorem cj(h:PA X es t):PE X (.List es pos) (cW t):=by
 intro pins s σ H Q I hq;refine wpAny_List_spliced (bQ (h pos pins s σ H _ I hq) fun us s1 ⟨xs,H1,I1,r,z,q⟩=>⟨by rw[<- r.length];exact z,?_⟩);have hf:H1 s1.heap.objs.size=none:=I1.hok.fresh (Lf _);refine⟨.ref s1.heap.objs.size,upd H1 s1.heap.objs.size (.lst xs),I1.laid (t':=s1.toks) (fun b u e=>Lb _ e) (Lf _) ?_,rfl,q _ hf⟩;exact⟨z,us,0,r,LJ _ rfl⟩
end
abbrev Sp:=List V->Hp->VK->XK->Prop
abbrev oj:=List Env->Hp->Le->XK->La->Le->Prop
structure Env0 (P:LB) (w:LQ) (K:Fg) (mg:Str->Option La) (base:Heap) (A:Mf) (outer:List Env) (s:Le) (H:Hp):Prop where
 frames:A.frames=some outer
 mod:Mod K mg base
 bs:∀b o,base.get? b=some o->s.heap.get? b=some o/\H b=none
 bsz:base.objs.size<=s.heap.objs.size
 funs:s.heap.FunFrames base outer
 frf:∀b∈frs outer,H b=none
 hok:HOk P w H s.heap
 bare:Qx s.gens
def CE(outer:List Env)(P:LB)(w:LQ)(H:Hp)(s:Le)(Q:VK)(u:La)(s':Le):Prop :=
 ∃v H',s'.os=s.os/\Qx s'.gens/\Un (frs outer) [] H H' s.heap s'.heap/\HOk P w H' s'.heap/\RelV v u/\Q v H'
def CR(CX:oj)(outer:List Env)(P:LB)(w:LQ)(H:Hp)(s:Le)(Q:VK)(E:XK)(r:SQ)(s':Le):Prop :=
 match r with
 |.ok (.ret u)=>CE outer P w H s Q u s'
 |.ok _=>False
 |.error e=>CX outer H s E e s'
structure FnOk (P:LB) (w:LQ) (K:Fg) (mg:Str->Option La) (base:Heap) (CX:oj) (k:Nat) (f:Addr) (fd:Oq) (ps:List Str) (sp:Sp):Prop where
 len:∀vs H Q E,sp vs H Q E->vs.length=ps.length
 run:∀(A:Mf) (outer:List Env) (s:Le) (H:Hp) (args:Args) (us:List La) (vs:List V) (Q:VK) (E:XK),Room k A->Env0 P w K mg base A outer s H->Uj s fd args (ps.zip us)->Vals vs us->sp vs H Q E ->
  codeAny (model P w) A (.call (.ref f) args) (CR CX outer P w H s Q E) s
theorem FnOk.mono{K:Fg}{CX:oj}{k:Nat}(F:FnOk P w K mg base CX j f fd ps sp)(h:j<=k) :
  FnOk P w K mg base CX k f fd ps sp:=⟨F.len,fun A outer s H args us vs Q E hr=>F.run A outer s H args us vs Q E (hr.mono h)⟩
theorem FnOk.imp{K:Fg}{CX:oj}{sp':Sp}(F:FnOk P w K mg base CX k f fd ps sp)
  (h:∀vs H Q E,sp' vs H Q E->sp vs H Q E):FnOk P w K mg base CX k f fd ps sp' :=
 ⟨fun vs H Q E q=>F.len vs H Q E (h _ _ _ _ q),fun A outer s H args us vs Q E hr he hb hv hs=>F.run A outer s H args us vs Q E hr he hb hv (h _ _ _ _ hs)⟩
theorem Env0.make{K:Fg}(e:Env0 P w K mg base A outer s H)(C:Addr)(us:List La)(kw:List (Str×La)) :
  Env0 P w K mg base (A.under (.builtin "type.__call__" ⟨.ref C :: us,kw⟩)) outer s H:=⟨by first|exact e.frames|(simpa[Uh,Code.envs,Ui,pushEnvs] using e.frames),e.mod,e.bs,e.bsz,e.funs,e.frf,e.hok,e.bare⟩
section
variable{X:Cx}{pins:List (Addr×Obj)}{σ:St}{H:Hp}{s s':Le}
theorem Inv.env0(I:Inv X pins σ H s):Env0 X.prog X.w X.K X.mg X.base X.A X.stack s H :=
 ⟨I.ok.frames,I.ok.mod,I.bs,Mh I.ok.bsz I.sz,I.stack,I.kH,I.hok,I.bare⟩
theorem Inv.after(I:Inv X pins σ H s)(h:CE X.stack X.prog X.w H s Q u s'):EP X pins σ Q u s':=by
 obtain⟨v,H',os,bare,un,hok,r,q⟩:=h;obtain⟨hh,g,d,t,os'⟩:=s';obtain rfl:os'=s.os:=os;exact⟨v,H',I.call (h':=hh) (g':=g) (d':=d) (t':=t) (ch:=[]) un hok bare (fun b z=>absurd z (by simp)),r,q⟩
end
def bo(sp:Sp)(W6:List V)(E:XK)(t:TA):TE:=fun σ H Q=>t σ H fun vs H1=>sp (vs++W6) H1 Q E
def Binds(K:Fg)(fd:Oq)(ps:List Str)(ds:List La):Prop :=
 ∀(s:Le) (us:List La),K.In s.heap->(us++ds).length=ps.length->Uj s fd ⟨us,[]⟩ (ps.zip (us++ds))
theorem Binds.all{K:Fg}{ps:List Str}(h:∀us:List La,us.length=ps.length->bindArgs fd ⟨us,[]⟩=pure (ps.zip us)):Binds K fd ps []:=fun s us _ hl=>by
 rw[M9] at hl ⊢;exact .of_eq (h us hl)
def mf(CX:oj)(X:Cx)(E:XK):Prop:=∀(pins:List (Addr×Obj)) (σ:St) (H:Hp) (s:Le) (e:La) (s':Le),Inv X pins σ H s->CX X.stack H s E e s'->X.xe e s'
section
variable{X:Cx}{CX:oj}{k:Nat}{f C:Addr}{fd:Oq}{ps:List Str}{sp:Sp}{W6:List V}{ds:List La}{E:XK}{x m:Str}{p pos apos:Pos}{e o:Expr}{es:List Expr}{ta:TE}{t:TA}
theorem Hk{H:Hp}(F:FnOk X.prog X.w X.K X.mg X.base CX k f fd ps sp)(hr:Room k X.A)(hb:Binds X.K fd ps ds)(hd:Vals W6 ds)(hx:mf CX X E)
  (I:Inv X pins σ H s) (r:Vals vs us) (h:sp (vs++W6) H Q E):wpAny (model X.prog X.w) X.A (call (.ref f) us) (EP X pins σ Q) X.xe s:=by
 have r2:Vals (vs++W6) (us++ds):=r.append hd;have hl:(us++ds).length=ps.length:=by rw[<- r2.length];exact F.len _ _ _ _ h
 refine P2 (Pu (F.run X.A X.stack s H ⟨us,[]⟩ (us++ds) (vs++W6) Q E hr I.env0 (hb s us I.kIn hl) r2 h) fun r s' hq=>?_);cases r with
 |error e=>exact hx pins σ H s e s' I hq
 |ok fl =>
  cases fl with
  |ret u=>exact I.after hq
  |next=>exact Np hq
  |brk=>exact Np hq
  |cont=>exact Np hq
theorem FG(F:FnOk X.prog X.w X.K X.mg X.base CX k f fd ps sp)(hr:Room k X.A)(hg:Gl X x)(hm:X.mg x=some (.ref f))(hk:NX X.K (.ref f)=true)(hb:Binds X.K fd ps ds)(hd:Vals W6 ds)(hx:mf CX X E)
  (ha:PA X (e :: es) t) (hdb:(x == ("__debug__":Str))=false:=by decide) (he:starEach (e :: es) X.env=(false,eval e X.env) :: starEach es X.env:=by rfl) (WF:(backTo pos (starEach es X.env)).any (·.1)=false:=by rfl) :
  PE X (.Call (.Name x p) (e :: es) [] pos) (bo sp W6 E t):=by
 intro pins s σ H Q I h;refine Nq (gn I hg hm ?_ hdb);refine T3 (h₀:=X.base) I.ok.mod.kin hk (bQ (ha pos pins s σ H _ I h) fun us s1 ⟨vs,H1,I1,r,q⟩=>⟨I1.kIn,?_⟩) he WF;exact Hk F hr hb hd hx I1 r q
end
structure aU (N P:List Str) (sc:Scope):Prop where
 kind:sc.kind=.function
 co:sc.isCoroutine=false
 gen:sc.isGenerator=false
 nd:N.Nodup
 pre:N.take P.length=P
 par:∀x∈P,sc.names.lookup x=some .local\/sc.names.lookup x=some .cell
 nofree:∀y∈sc.names,y.2≠.free
theorem sB{kindOf:Str->Option RP}{x:Str}:∀{binds:List (Str×La)} {m:Str->Option La},(∀v,(x,v)∉binds)->bindL kindOf binds m x=m x
 |[],_,_=>rfl
 |(n,v) :: r,m,h=>by
  unfold bindL;rw[sB fun w hw=>h w (Lj _ hw)];split
  ·have:x≠n:=by rintro rfl;exact h v Lg
   simp[this]
  ·rfl
theorem sD{kindOf:Str->Option RP}{x:Str}:∀{binds:List (Str×La)} {m:Str->Option La},(∀v,(x,v)∉binds)->bindC kindOf binds m x=m x
 |[],_,_=>rfl
 |(n,v) :: r,m,h=>by
  unfold bindC;rw[sD fun w hw=>h w (Lj _ hw)];split
  ·rfl
  ·have:x≠n:=by rintro rfl;exact h v Lg
   simp[this]
theorem sC{kindOf:Str->Option RP}{x:Str}{v:La}:∀{P:List Str} {vs:List La} {i:Nat} {m:Str->Option La},P.Nodup->P[i]?=some x->vs[i]?=some v->kindOf x=some .local ->
  bindL kindOf (P.zip vs) m x=some v
 |[],_,_,_,_,h,_,_=>by simp at h
 |_ :: _,[],_,_,_,_,h,_=>by simp at h
 |p :: P,w :: vs,0,m,nd,h1,h2,hk=>by
  simp at h1 h2;subst h1;subst h2;show bindL kindOf ((p,w) :: P.zip vs) m p=_;unfold bindL;rw[sB fun v hv=>(Mg.mp nd).1 (Nk hv).1,if_pos hk];simp
 |p :: P,w :: vs,i+1,m,nd,h1,h2,hk=>by
  show bindL kindOf ((p,w) :: P.zip vs) m x=_;unfold bindL;exact sC (i:=i) (Mg.mp nd).2 (by simpa using h1) (by simpa using h2) hk
theorem sE{kindOf:Str->Option RP}{x:Str}{v:La}:∀{P:List Str} {vs:List La} {i:Nat} {m:Str->Option La},P.Nodup->P[i]?=some x->vs[i]?=some v->kindOf x≠some .local ->
  bindC kindOf (P.zip vs) m x=some v
 |[],_,_,_,_,h,_,_=>by simp at h
 |_ :: _,[],_,_,_,_,h,_=>by simp at h
 |p :: P,w :: vs,0,m,nd,h1,h2,hk=>by
  simp at h1 h2;subst h1;subst h2;show bindC kindOf ((p,w) :: P.zip vs) m p=_;unfold bindC;rw[sD fun v hv=>(Mg.mp nd).1 (Nk hv).1,if_neg hk];simp
 |p :: P,w :: vs,i+1,m,nd,h1,h2,hk=>by
  show bindC kindOf ((p,w) :: P.zip vs) m x=_;unfold bindC;exact sE (i:=i) (Mg.mp nd).2 (by simpa using h1) (by simpa using h2) hk
def start(N:List Str)(vs:List V):St:=vs.map some++LG (N.length-vs.length) none
def fH(CX:oj)(P:LB)(w:LQ)(K:Fg)(mg:Str->Option La)(base:Heap)(N:List Str)(qual:Str)(scope:Scope)(f:Addr)(cd:La)(A:Mf)(outer:List Env)(s:Le)(H:Hp)(E:XK):Cx where
 prog:=P
 w:=w
 K:=K
 mg:=mg
 base:=base
 A:=A.deeper (envOfC qual scope s.heap.objs.size f cd)
 N:=N
 s₀:=s
 H₀:=H
 env:=envOfC qual scope s.heap.objs.size f cd
 outer:=outer
 stack:=envOfC qual scope s.heap.objs.size f cd :: outer
 ex:=[]
 calm:=true
 fn:=fun _=>true
 pn:=[]
 xe:=fun e s'=>wpAny (model P w) (A.deeper (envOfC qual scope s.heap.objs.size f cd)) (leaving (envOfC qual scope s.heap.objs.size f cd) e) (fun _ WY=>CX outer H s E e WY) (fun e' WY=>CX outer H s E e' WY) s'
theorem wJ{sc:Scope}(h:sc.names.lookup x=some .cell):∃c,(cellsFrom n sc.names []).lookup x=some c:=by
 have q:=R5 sc.names n [] (.inl h);exact RA.mp q
theorem Al{CX:oj}{K:Fg}{A:Mf}{vs:List V}
  (S:aU N ps scope) (hd:A.handled=none) (e0:Env0 P w K mg base A outer s H) (hl:vs.length=ps.length) (r:Vals vs us)
  (x:InCallC s s.heap.objs.size (bindL (envOfC qual scope s.heap.objs.size f cd).kindOf (ps.zip us) fun _=>none) (cellsFrom (s.heap.objs.size+1) scope.names []) (bindC (envOfC qual scope s.heap.objs.size f cd).kindOf (ps.zip us) fun _=>none) s1) :
  Inv (fH CX P w K mg base N qual scope f cd A outer s H E) [] (start N vs) H s1:=by
 have WF:ps.length<=N.length:=by have:=congrArg Oo S.pre;rw[LK] at this;walk_at "om"
 obtain⟨h1,tk,rfl,hk⟩:=x.done;have Zv:∀b:Addr,b∉(fH CX P w K mg base N qual scope f cd A outer s H E).ex:=fun b z=>absurd (show b∈([]:List Addr) from z) (by simp)
 refine⟨⟨e0.mod,S.kind,rfl,rfl,Lf _,fun y z c h1 h2=>?_,fun y hy=>?_,fun y c _ h=>?_,fun _=>hd,Mf.frames_deeper e0.frames,.inr ⟨rfl,rfl⟩,fun b z=>absurd z (Zv b),e0.bs,e0.bsz,fun b _ _=>Zv b,fun b z=>absurd z (Zv b),e0.funs,e0.frf⟩,
  rfl,e0.bare,Un.kept hk,⟨_,x.toInCall.ns,fun i y v h1 h2 h3=>?_⟩,fun y c h=>⟨_,x.cell y c h⟩,e0.hok.fresh (Lf _),fun y c h=>?_,fun p hp=>absurd (show p∈([]:List (Addr×Obj)) from hp) (by simp),e0.hok.kept hk,?_⟩
 ·exact name_of_addr x.apart (OE h1) (OE h2)
 ·have hy:scope.names.lookup y=some .cell\/scope.names.lookup y=some .free:=hy;rcases hy with hy|hy
  ·exact wJ hy
  ·exact absurd rfl (S.nofree _ (OE hy))
 ·exact M0 (x.above y c (OE h))
 ·have hi:i<vs.length:=by
   unfold start at h2;by_cases hi:i<vs.length
   ·exact hi
   ·rw[L7 (by simpa using hi)] at h2;rw[P8] at h2;split at h2 <;> cases h2
  have ha:vs[i]?=some v:=by
   unfold start at h2;rw[Mc (by simpa using hi),Ll] at h2;cases e:vs[i]? with
   |none=>rw[e] at h2;cases h2
   |some a=>rw[e] at h2;cases h2;rfl
  obtain⟨u,hu,rv⟩:=r.get ha
  have hp:ps[i]?=some y:=by
   rw[<- S.pre,NR (by walk_at "om")];exact h1
  have ndP:ps.Nodup:=by rw[<- S.pre];exact S.nd.sublist (Rq _ _)
  refine⟨u,rv,?_⟩;rcases S.par y (Li hp) with k|k
  ·exact .inl ⟨k,sC ndP hp hu k⟩
  ·obtain⟨c,e⟩:=wJ (n:=s.heap.objs.size+1) k;refine .inr ⟨.inl k,c,e,?_⟩;have q:=x.cell y c e;rw[sE ndP hp hu (by show scope.names.lookup y≠_;rw[k];decide)] at q;exact q
 ·exact e0.hok.fresh (M0 (x.above y c (OE h)))
 ·unfold start;show _=N.length;rw[LU,K9,Me];walk_at "om"
theorem IN{CX:oj}{K:Fg}{dV kV oc:La}{od:Option Addr}
  {Xe:Array (Option La)}  {sp:Sp} (lk:K.lookup f=some ⟨oc,od,.func (Nl name qual params body scope dV kV doc pm an pe ct),Xe⟩) (hcd:OK K pe qual=true) (S:aU N ps scope)
  (len:∀vs H Q E,sp vs H Q E->vs.length=ps.length)
  (hbody:∀(A:Mf) (outer:List Env) (s:Le) (H:Hp) (vs:List V) (Q:VK) (E:XK),Room k (A.deeper (envOfC qual scope s.heap.objs.size f pe))->sp vs H Q E ->
   ∃t,PSs (fH CX P w K mg base N qual scope f pe A outer s H E) body t/\t {nx:=fun _ H'=>Q .non H',rt:=Q} (start N vs) H) :
  FnOk P w K mg base CX (k+1) f (Nl name qual params body scope dV kV doc pm an pe ct) ps sp:=by
 refine⟨len,fun A outer s H args us vs Q E hr e0 hb r hsp=>?_⟩;have hl:=len _ _ _ _ hsp;have KX:K.In s.heap:=e0.mod.kin.keeps fun b o e=>(e0.bs b o e).1
 have lim:s.heap.NoLimit:=e0.mod.nolimit.keeps fun b o e=>(e0.bs b o e).1
 have YZ:∀y∈ps.zip us,scope.names.lookup y.1=some .local\/(scope.names.lookup y.1=some .cell/\((cellsFrom (s.heap.objs.size+1) scope.names []).lookup y.1).isSome=true):=fun⟨n,v⟩ hy=>by
  rcases S.par n (Nk hy).1 with q|q
  ·exact .inl q
  ·exact .inr ⟨q,R5 _ _ _ (.inl q)⟩
 refine codeAny_call_function hr.depth (KX _ _ lk) rfl S.co S.gen rfl (PySem.W.codeRec_of KX hcd) (hb _ _ _ _ ?_);refine wpAny_newFunctionEnv_cells S.kind YZ fun env he s1 x=>?_
 subst he;refine⟨lim.keeps x.toInCall.keep,codeAny_func ?_⟩;obtain⟨t,ht,hq⟩:=hbody A outer s H vs Q E (hr.deeper _) hsp;have I:Inv (fH CX P w K mg base N qual scope f pe A outer s H E) [] (start N vs) H s1:=Al S hr.hd e0 hl r x;refine Mi (ht [] s1 (start N vs) H _ I hq) (fun fl s' hs=>?_) fun e s' hs=>hs
 have fin:∀{σ':St} {H':Hp} {v:V} {u:La},Inv (fH CX P w K mg base N qual scope f pe A outer s H E) [] σ' H' s'->RelV v u->Q v H'->CE outer P w H s Q u s' :=
  fun {σ' H' v u} J rv q=>⟨v,H',J.os,J.bare,J.base,J.hok,rv,q⟩
 cases fl with
 |ret u =>
  obtain⟨v,σ',H',J,rv,q⟩:=hs;exact fin J rv q
 |next =>
  obtain⟨σ',H',J,q⟩:=hs;exact fin (v:=V.non) (u:=MI) J rfl q
 |brk =>
  obtain⟨_,_,_,q⟩:=hs;exact Np q
 |cont =>
  obtain⟨_,_,_,q⟩:=hs;exact Np q
section
variable{X:Cx}{x:Str}{p pos:Pos}{e:Expr}{es:List Expr}{t:TA}{id T:String}{r:List V->Hp->VK->Prop}
def b_(r:List V->Hp->VK->Prop)(t:TA):TE:=fun σ H Q=>t σ H fun vs H1=>r vs H1 Q
theorem aC(hc:g8 X (.builtin id) r) (hg:Gl X x) (hm:X.mg x=none) (hv:bootBuiltins x=some (.builtin id)) (ha:PA X (e :: es) t) (hn:x≠"__name__":=by decide) (hdb:(x == ("__debug__":Str))=false:=by decide)
  (he:starEach (e :: es) X.env=(false,eval e X.env) :: starEach es X.env:=by rfl) (WF:(backTo pos (starEach es X.env)).any (·.1)=false:=by rfl):PE X (.Call (.Name x p) (e :: es) [] pos) (b_ r t):=by
 intro pins s σ H Q I h;refine Nq (g_ I hg hm hv ?_ hn hdb);exact NM (bQ (ha pos pins s σ H _ I h) fun us s1 ⟨vs,H1,I1,r1,q1⟩=>hc pins s1 σ H1 vs us Q I1 r1 q1) he WF
theorem a7(hc:g8 X (.type T) r) (hg:Gl X x) (hm:X.mg x=none) (hv:bootBuiltins x=some (.type T)) (ha:PA X (e :: es) t) (hn:x≠"__name__":=by decide) (hdb:(x == ("__debug__":Str))=false:=by decide)
  (he:starEach (e :: es) X.env=(false,eval e X.env) :: starEach es X.env:=by rfl) (WF:(backTo pos (starEach es X.env)).any (·.1)=false:=by rfl):PE X (.Call (.Name x p) (e :: es) [] pos) (b_ r t):=by
 intro pins s σ H Q I h;refine Nq (g_ I hg hm hv ?_ hn hdb);exact M1 (bQ (ha pos pins s σ H _ I h) fun us s1 ⟨vs,H1,I1,r1,q1⟩=>hc pins s1 σ H1 vs us Q I1 r1 q1) he WF
end
end L2
namespace HT
open PySem PyProof.Rows
section
variable{prog:LB}{w:LQ}{A:Mf}{E:La->Le->Prop}{s:Le}
def sIx(n d:Nat):Option Int->Nat
 |none=>d
 |some v=>if v<0 then (v+(n:Int)).toNat else min v.toNat n
theorem BJ(n d:Nat):sIx n d none=d:=rfl
theorem E6(n d k:Nat):sIx n d (some (k:Int))=min k n:=by
 show(if (k:Int)<0 then ((k:Int)+(n:Int)).toNat else min (k:Int).toNat n)=min k n;rw[if_neg (by walk_at "om"),Nx]
theorem Hg(n d:Nat)(hd:d<=n)(o:Option Int):sIx n d o<=n:=by
 cases o with
 |none=>exact hd
 |some v =>
  show(if v<0 then (v+(n:Int)).toNat else min v.toNat n)<=n;by_cases hv:v<0
  ·rw[if_pos hv];walk_at "om"
  ·rw[if_neg hv];exact Qp _ _
theorem AX(v:Int)(n d:Nat):(if v<0 then max (v+(n:Int)) 0 else min v (n:Int))=((sIx n d (some v):Nat):Int):=by
 show(if v<0 then max (v+(n:Int)) 0 else min v (n:Int))=(((if v<0 then (v+(n:Int)).toNat else min v.toNat n):Nat):Int)
 by_cases hv:v<0
 ·simp only[if_pos hv];walk_at "om"
 ·simp only[if_neg hv];walk_at "om"
theorem xD(lo hi:Option Int)(n:Nat):PC lo hi 1 (n:Int)=(((sIx n 0 lo:Nat):Int),((sIx n n hi:Nat):Int)):=by
 have h1 : ¬ ((1:Int)<0):=by walk_at "om"
 unfold PC;simp only[h1,if_false];refine OV ?_ ?_
 ·cases lo with
  |none=>rfl
  |some v=>exact AX v n 0
 ·cases hi with
  |none=>rfl
  |some v=>exact AX v n n
theorem xf(i j:Nat):Ol (i:Int) (j:Int) 1=j-i:=by
 unfold Ol;have h1:(1:Int) > 0:=by walk_at "om"
 simp only[h1,if_true,R6];split <;> walk_at "om"
theorem nv{Q:Option Int->Le->Prop}(p:T4 v o)(h:Q o s):wpAny (model prog w) A (Og.Slice.slicePartIndex v) Q E s:=by
 cases p with
 |none=>exact slicePart_none h
 |int i t=>exact slicePart_int h
theorem jM{lo:Option Int}{Q:Int×Int×Nat->Le->Prop}(hs:s.heap.IsSliceOf sl vl vu .none)(pl:T4 vl lo)(pu:T4 vu hi)
  (h:Q (((sIx n 0 lo:Nat):Int),1,sIx n n hi-sIx n 0 lo) s):wpAny (model prog w) A (Q6 (.ref sl) (pure (n:Int))) Q E s:=by
 obtain⟨os,Xl,hcs,hds⟩:=id hs;unfold Q6 Og.Slice.sliceFields;refine K8 (K8 (ML Xl hds (x:=vl) rfl (K8 (ML Xl hds (x:=vu) rfl (K8 (ML Xl hds (x:=.none) rfl (Lh ?_)))))));refine K8 (slicePart_none ?_);show wpAny _ _ (if ((1:Int) == 0)=true then _ else _) _ _ s;rw[if_neg (by decide)];refine K8 (nv pl (K8 (nv pu (K8 (Lh ?_)))));show wpAny _ _ (match PC lo hi 1 (n:Int) with|(lo,hi)=>pure (lo,(1:Int),Ol lo hi 1)) _ _ s;rw[xD lo hi n];show wpAny _ _ (pure (((sIx n 0 lo:Nat):Int),(1:Int),Ol ((sIx n 0 lo:Nat):Int) ((sIx n n hi:Nat):Int) 1)) _ _ s;rw[xf];exact Lh h
theorem Cj(xs:Array La)(i k:Nat):((Mo k).filterMap fun(m:Nat)=>xs[((i:Int)+(m:Int)*1).toNat]?).toArray=((xs.toList.drop i).take k).toArray:=by
 have e:(fun(m:Nat)=>xs[((i:Int)+(m:Int)*1).toNat]?)=fun m=>xs[i+m]?:=by
  funext m
  have:((i:Int)+(m:Int)*1).toNat=i+m:=by walk_at "om"
  rw[this]
 rw[e]
 have:=pick_run xs i k
 rw[List.filterMap_map] at this;have e2:((fun x=>xs[x]?)∘fun x=>i+x)=fun m=>xs[i+m]?:=rfl
 rw[e2] at this;rw[this]
theorem jv{lo:Option Int}{Q:La->Le->Prop}(ht:IsTup s.heap t items)(hs:s.heap.IsSliceOf sl vl vu .none)(pl:T4 vl lo)(pu:T4 vu hi)
  (hw : ¬ (sIx items.size 0 lo=0/\sIx items.size items.size hi=items.size))
  (h:Q (.ref s.heap.objs.size) {s with heap:=s.heap.push {cls:=.type "tuple",data:=.seq ((items.toList.drop (sIx items.size 0 lo)).take (sIx items.size items.size hi-sIx items.size 0 lo)).toArray}})
  (hsz:items.size<=sizeLine):wpAny (model prog w) A (getItem (.ref t) (.ref sl)) Q E s:=by
 have WT:sizeOk (.seq ((items.toList.drop (sIx items.size 0 lo)).take (sIx items.size items.size hi-sIx items.size 0 lo)).toArray):=by
  show((items.toList.drop (sIx items.size 0 lo)).take (sIx items.size items.size hi-sIx items.size 0 lo)).toArray.size<=sizeLine;rw[LM,LK,M_,Mv];walk_at "om"
 have hj:sIx items.size items.size hi<=items.size:=Hg _ _ (Lf _) hi;obtain⟨os,Xl,hcs,hds⟩:=id hs;have hTs:s.TypeIs (.ref sl) "slice":=⟨os,Xl,hcs⟩
 unfold getItem
 try with_reducible refine MJ ?_
 first|refine K8 (Lh ?_)|skip
 refine K8 (wpAny_sequenceKey ht.typeIs (by decide) ?_)
 refine K8 (M3 (name:=OQ "__getitem__") ht.typeIs OD
  (NO OD ht.typeIs entry_tuple_getitem ?_ (args_tuple_getitem _ _)))
 show wpAny _ _ (Q7 (.ref t) >>= _) _ _ s;refine K8 (tupleItemsOf_ ht ?_);refine K8 (Uk hTs ?_);rw[if_pos (by decide)];refine K8 (jM hs pl pu ?_)
 have hno : ¬ ((((sIx items.size 0 lo:Nat):Int) == 0 && (1:Int) == 1 && (sIx items.size items.size hi-sIx items.size 0 lo) == items.size)=true):=by
  intro q;rw[My,My] at q;have q1:((sIx items.size 0 lo:Nat):Int)=0:=eq_of_beq q.1.1;have q2:sIx items.size items.size hi-sIx items.size 0 lo=items.size:=eq_of_beq q.2;exact hw ⟨by walk_at "om",by walk_at "om"⟩
 show wpAny _ _ (if (((sIx items.size 0 lo:Nat):Int) == 0 && (1:Int) == 1 && (sIx items.size items.size hi-sIx items.size 0 lo) == items.size)=true then _ else _) _ _ s;rw[if_neg hno,Cj]
 first
  |exact K8 (m:=OA _) (ME (Lh ⟨_,rfl,Lh h⟩) WT)
  |exact K8 (m:=OA _) (ME (K8 (Lh (Lh ⟨_,rfl,Lh h⟩))) WT)
  |exact K8 (K8 (m:=OA _) (ME (Lh (Lh ⟨_,rfl,Lh h⟩)) WT))
  |exact K8 (K8 (m:=OA _) (ME (Lh ⟨_,rfl,Lh h⟩) WT))
end
end HT
namespace L2
open PySem PySem.Spec PyProof.Rows
abbrev TO:=St->Hp->(Option Int->Hp->Prop)->Prop
def PO(X:Cx)(e:Option Expr)(t:TO):Prop :=
 ∀(pins:List (Addr×Obj)) (s:Le) (σ:St) (H:Hp) (Q:Option Int->Hp->Prop),Inv X pins σ H s->t σ H Q ->
  wpAny (model X.prog X.w) X.A (evalPart e X.env) (fun u s'=>∃o H',Inv X pins σ H' s'/\T4 u o/\Q o H') X.xe s
def bT:TO:=fun _ H Q=>Q none H
def dA(t:TE):TO:=fun σ H Q=>t σ H fun x H1=>∃i,x=.int i/\Q (some i) H1
section
variable{X:Cx}{e:Expr}{te:TE}{lo hi:Option Expr}{tl th:TO}{pos p2:Pos}
theorem cq:PO X none bT:=by
 intro pins s σ H Q I h;rw[TM];exact Lh ⟨none,H,I,.none,h⟩
theorem bU(h:PE X e te):PO X (some e) (dA te):=by
 intro pins s σ H Q I hw;rw[evalPart_some];refine bQ (h pins s σ H _ I hw) fun u s1 ⟨x,H1,I1,r1,q1⟩=>?_
 obtain⟨i,rfl,q⟩:=q1;obtain⟨t,rfl⟩:=r1;exact⟨some i,H1,I1,.int i t,q⟩
def Jh(X:Cx)(r:V->Option Int->Option Int->Hp->VK->Prop):Prop :=
 ∀(pins:List (Addr×Obj)) (s:Le) (σ:St) (H:Hp) (x:V) (v vl vu:La) (lo hi:Option Int) (sl:Addr) (Q:VK),Inv X pins σ H s->RelV x v->s.heap.IsSliceOf sl vl vu .none->T4 vl lo->T4 vu hi->r x lo hi H Q ->
  ∃T id,typeLookup (.type T) "__getitem__"=pure (some (.builtin id))/\s.TypeIs v T/\wpAny (model X.prog X.w) X.A (getItem v (.ref sl)) (EP X pins σ Q) X.xe s
def jb(r:V->Option Int->Option Int->Hp->VK->Prop)(te:TE)(tl th:TO):TE:=fun σ H Q=>te σ H fun x H1=>tl σ H1 fun l H2=>th σ H2 fun u H3=>r x l u H3 Q
theorem bC(hr:Jh X r)(he:PE X e te)(hl:PO X lo tl)(hu:PO X hi th):PE X (.Subscript e (.Slice lo hi none p2) pos) (jb r te tl th):=by
 intro pins s σ H Q I h;refine Subscript_ (bQ (he pins s σ H _ I h) fun v s1 ⟨x,H1,I1,r1,q1⟩=>?_);refine wpAny_Slice (bQ (hl pins s1 σ H1 _ I1 q1) fun vl s2 ⟨l,H2,I2,pl,q2⟩=>bQ (hu pins s2 σ H2 _ I2 q2) fun vu s3 ⟨u,H3,I3,pu,q3⟩=>?_);rw[TM];refine Lh ?_;have I4:Inv X pins σ H3 {s3 with heap:=s3.heap.push {cls:=.type "slice",data:=.fields #[vl,vu,.none]}}:=I3.kept (t':=s3.toks) fun b ob q=>Lb _ q
 obtain⟨T,id,hT,ht,hg⟩:=hr pins {s3 with heap:=s3.heap.push {cls:=.type "slice",data:=.fields #[vl,vu,.none]}} σ H3 x v vl vu l u s3.heap.objs.size Q I4 r1 (T5 ..) pl pu q3;show wpAny (model X.prog X.w) X.A (subscriptTail e (.Slice lo hi none p2) v (.ref s3.heap.objs.size)) (EP X pins σ Q) X.xe {s3 with heap:=s3.heap.push {cls:=.type "slice",data:=.fields #[vl,vu,.none]}};exact tail_any (ops:=[.ref s3.heap.objs.size,v]) ht hT hg (by with_unfolding_all rfl)
def g6(xs:List V)(lo hi:Option Int):List V:=(xs.drop (HT.sIx xs.length 0 lo)).take (HT.sIx xs.length xs.length hi-HT.sIx xs.length 0 lo)
theorem l5(xs:List V)(lo hi:Option Int):(g6 xs lo hi).length<=xs.length:=by
 unfold g6;rw[LK,M_];walk_at "om"
def Ca(K:Fg):V->Option Int->Option Int->Hp->VK->Prop:=fun x lo hi H Q=>∃a xs,x=.ref a/\SqT K H a xs /\
 ¬ (HT.sIx xs.length 0 lo=0/\HT.sIx xs.length xs.length hi=xs.length)/\∀p,H p=none->Q (.ref p) (upd H p (.tup (g6 xs lo hi)))
theorem DQ:Jh X (Ca X.K):=by
 intro pins s σ H x v vl vu lo hi sl Q I rx hs pl pu h;obtain⟨a,xs,rfl,hx,hw,q⟩:=h;cases rx;obtain⟨gV,r,ht,hz⟩:=I.tuple hx;have hlen:gV.toArray.size=xs.length:=by rw[LM];exact r.length.symm
 refine⟨"tuple",_,OD.lookup,ht.typeIs,?_⟩;refine HT.jv ht hs pl pu (by rw[hlen];exact hw) ?_ (by rw[hlen];exact hz);rw[hlen];refine⟨.ref s.heap.objs.size,_,I.laid (t':=s.toks) (o:=.tup (g6 xs lo hi)) (fun b ob q=>Lb _ q) (Lf _) ?_,rfl,q _ (I.hok.fresh (Lf _))⟩;exact⟨Mh (l5 xs lo hi) hz,_,(r.drop (HT.sIx xs.length 0 lo)).take (HT.sIx xs.length xs.length hi-HT.sIx xs.length 0 lo),TupD.new _ _⟩
end
def Ai(n:Nat)(i:Int):Option Nat:=if 0<=i then (if i<n then some i.toNat else none) else if -(n:Int)<=i then some (i+n).toNat else none
def i8{α:Type}(xs:List α)(i:Int):Option α:=(Ai xs.length i).bind fun j=>xs[j]?
theorem Ah{j:Nat}(h:Ai n i=some j):seqIndex? i n=some j/\j<n/\-(n:Int)<=i/\i<n:=by
 unfold Ai at h;by_cases h0:0<=i
 ·rw[if_pos h0] at h;by_cases h1:i<n
  ·rw[if_pos h1] at h;have e:i.toNat=j:=LD h;exact⟨by rw[U2 h0 h1,e],by walk_at "om",by walk_at "om",h1⟩
  ·rw[if_neg h1] at h;cases h
 ·rw[if_neg h0] at h;by_cases h1 : -(n:Int)<=i
  ·rw[if_pos h1] at h;have e:(i+n).toNat=j:=LD h;exact⟨by rw[Ul (by walk_at "om") h1,e],by walk_at "om",h1,by walk_at "om"⟩
  ·rw[if_neg h1] at h;cases h
theorem vn{α:Type}{xs:List α}{v:α}(h:i8 xs i=some v):∃j,seqIndex? i xs.length=some j/\xs[j]?=some v/\j<xs.length/\-(xs.length:Int)<=i/\i<xs.length:=by
 unfold i8 at h;cases e:Ai xs.length i with
 |none=>rw[e] at h;cases h
 |some j =>
  rw[e] at h;obtain⟨h1,h2,h3,h4⟩:=Ah e;exact⟨j,h1,h,h2,h3,h4⟩
theorem ba{α:Type}{xs:List α}{j:Nat}{v:α}(h:xs[j]?=some v):i8 xs (j:Int)=some v:=by
 have hj:j<xs.length:=(K_.mp h).1
 have e:Ai xs.length (j:Int)=some j:=by
  unfold Ai;rw[if_pos (by walk_at "om"),if_pos (by walk_at "om")];simp
 unfold i8;rw[e];exact h
theorem Dt{α:Type}(xs:List α)(v:α):i8 (xs++[v]) (-1)=some v:=by
 have hl:(xs++[v]).length=xs.length+1:=by simp
 have e:Ai (xs++[v]).length (-1)=some xs.length:=by
  unfold Ai;rw[hl,if_neg (by decide),if_pos (by walk_at "om")];congr 1;walk_at "om"
 unfold i8;rw[e];show(xs++[v])[xs.length]?=some v;simp
def GP(b:Expr):Prop:=∀o i,subscripted b false o i=operate [o,i] (getItem o i)
def IxR(X:Cx)(r:R2):Prop :=
 ∀(value slice:Expr) (pins:List (Addr×Obj)) (s:Le) (σ:St) (H:Hp) (x y:V) (v u:La) (Q:VK),Inv X pins σ H s->RelV x v->RelV y u->r x y H Q ->
  subscripted slice false v u=operate [v,u] (getItem v u)->wpAny (model X.prog X.w) X.A (subscriptTail value slice v u) (EP X pins σ Q) X.xe s
def GS(X:Cx)(id:String)(r:V->List V->Hp->VK->Prop):Prop :=
 ∀(pins:List (Addr×Obj)) (s:Le) (σ:St) (H:Hp) (x:V) (xs:List V) (v:La) (us:List La) (Q:VK),Inv X pins σ H s->RelV x v->Vals xs us->r x xs H Q ->
  wpAny (model X.prog X.w) X.A (call (.builtin id) (v :: us)) (EP X pins σ Q) X.xe s
section
variable{X:Cx}{a b:Expr}{ta tb:TE}{pos:Pos}
theorem IxR.or(h:IxR X r)(h':IxR X r'):IxR X (fun x y H Q=>r x y H Q\/r' x y H Q):=by
 intro value slice pins s σ H x y v u Q I rx ry q hs;rcases q with q|q
 ·exact h value slice pins s σ H x y v u Q I rx ry q hs
 ·exact h' value slice pins s σ H x y v u Q I rx ry q hs
theorem aT(hr:IxR X r)(ha:PE X a ta)(hb:PE X b tb)(hs:GP b):PE X (.Subscript a b pos) (aE r ta tb):=by
 intro pins s σ H Q I h;exact Subscript_ (GG ha hb I h fun v u s2 x y H2 I2 rx ry q=>hr a b pins s2 σ H2 x y v u Q I2 rx ry q (hs _ _))
def cy(K:Fg):R2:=fun x y H Q=>∃p xs i v,x=.ref p/\y=.int i/\SqL K H p xs/\i8 xs i=some v/\Q v H
def bt(K:Fg):R2:=fun x y H Q=>∃p xs i v,x=.ref p/\y=.int i/\SqT K H p xs/\i8 xs i=some v/\Q v H
def o_:R2:=fun x y H Q=>∃z i c,x=.str z/\y=.int i/\z.length<=sizeLine/\i8 z.cps.toList i=some c/\Q (.str ⟨#[c]⟩) H
theorem bn:IxR X (cy X.K):=by
 intro value slice pins s σ H x y v u Q I rx ry h hs;obtain⟨p,xs,i,z,rfl,rfl,hq,he,q⟩:=h;cases rx;obtain⟨t,rfl⟩:=ry;obtain⟨gV,r,pl,hz⟩:=I.list hq;obtain⟨j,h1,h2,h3,h4,h5⟩:=vn he;obtain⟨w,ew,ZM⟩:=r.get h2;have hl:=r.length;have hn:=nB;have fin:EP X pins σ Q w s:=⟨z,H,I,ZM,q⟩
 by_cases h0:0<=i
 ·have hj:i.toNat=j:=by
   rw[U2 h0 h5] at h1;exact LD h1
  exact item_listR pl.isList h0 (by walk_at "om") (by rw[hj];simpa using ew) fin hs
 ·have hj:(i+(gV.toArray.size:Int)).toNat=j:=by
   rw[Ul (by walk_at "om") h4] at h1;rw[LM,<- hl];exact LD h1
  exact R7 (x:=w) pl.isList.typeIs Rr.lookup
   (wpAny_getItem_list_neg (Q:=fun r s'=>r=w/\EP X pins σ Q r s') pl.isList (by walk_at "om") (by rw[LM] <;> walk_at "om") (by walk_at "om") (by rw[hj];simpa using ew) ⟨rfl,fin⟩) hs
theorem aW:IxR X (bt X.K):=by
 intro value slice pins s σ H x y v u Q I rx ry h hs;obtain⟨p,xs,i,z,rfl,rfl,hq,he,q⟩:=h;cases rx;obtain⟨t,rfl⟩:=ry;obtain⟨gV,r,pl,hz⟩:=I.tuple hq;obtain⟨j,h1,h2,h3,h4,h5⟩:=vn he;obtain⟨w,ew,ZM⟩:=r.get h2;have hl:=r.length;have hn:=nB;have fin:EP X pins σ Q w s:=⟨z,H,I,ZM,q⟩
 exact R7 (x:=w) pl.typeIs slot_tuple_getitem.lookup
  (getItem_tuple (j:=j) (Q:=fun r s'=>r=w/\EP X pins σ Q r s') pl (by walk_at "om") (by walk_at "om") (by rw[LM,<- hl];exact h1) (by simpa using ew) ⟨rfl,fin⟩) hs
theorem lO:IxR X o_:=by
 intro value slice pins s σ H x y v u Q I rx ry h hs;obtain⟨z,i,c,rfl,rfl,hz,he,q⟩:=h;obtain⟨t,rfl⟩:=rx;obtain⟨t',rfl⟩:=ry;obtain⟨j,h1,h2,h3,h4,h5⟩:=vn he;have hl:z.cps.toList.length=z.length:=by simp[Vh]
 rw[hl] at h1 h4 h5;have hn:=nB
 exact tail_any (Ph s z t) slot_str_getitem.lookup (getItem_str (c:=c) (by
  have e1:decide (i < -(2 ^ 63:Int))=false:=decide_eq_false (by walk_at "om")
  have e2:decide (i≥2 ^ 63)=false:=decide_eq_false (by walk_at "om")
  rw[e1,e2,Vu]) (by rw[h1];simpa using h2) ⟨.str ⟨#[c]⟩,H,I.tok _,⟨_,rfl⟩,q⟩) hs
def Fu(K:Fg):R2:=fun x y H Q=>cy K x y H Q\/bt K x y H Q\/o_ x y H Q
theorem Ej:IxR X (Fu X.K):=bn.or (aW.or lO)
theorem xl(gV:List La) (n j:Nat) (u:La):R8 (·.setIfInBounds j u) {cls:=.type "list",data:=.seq gV.toArray n} = {cls:=.type "list",data:=.seq (gV.set j u).toArray n}:=by
 simp[R8]
theorem Inv.lst{pins:List (Addr×Obj)}{σ:St}{H:Hp}{s:Le}{p:Addr}{xs:List V}(I:Inv X pins σ H s)(h:H p=some (.lst xs)) :
  ∃(gV:List La) (n:Nat),Vals xs gV/\s.heap.get? p=some {cls:=.type "list",data:=.seq gV.toArray n}/\xs.length<=sizeLine:=by
 obtain⟨z,gV,n,r,e⟩:=I.hok p _ h;exact⟨gV,n,r,e,z⟩
theorem Inv.HL{H:Hp}{gV its':List La}{f:Obj->Obj}(I:Inv X pins σ H s)(h:H p=some (.lst xs))
  (ho:s.heap.get? p=some {cls:=.type "list",data:=.seq gV.toArray n}) (hf:f {cls:=.type "list",data:=.seq gV.toArray n} = {cls:=.type "list",data:=.seq its'.toArray n'}) (r:Vals ys its') (hz:ys.length<=sizeLine) (t:Nat) :
  Inv X pins σ (upd H p (.lst ys)) {s with heap:=s.heap.update p f,toks:=t}:=by
 have e:(s.heap.update p f).get? p=some {cls:=.type "list",data:=.seq its'.toArray n'}:=by
  rw[MZ f ho (by rw[hf] <;> rfl),hf]
 refine I.write (x:=p) (e:=p) (by rw[h];trivial) (.inl rfl) (fun b u hb q=>(Mw _ _ (Nd hb)).trans q) ⟨_,e⟩ ?_;exact⟨hz,its',n',r,e⟩
def Fs:V->V->V->Hp->(Hp->Prop)->Prop:=fun o i v H Q=>∃p xs k j,o=.ref p/\i=.int k/\H p=some (.lst xs)/\Ai xs.length k=some j/\Q (upd H p (.lst (xs.set j v)))
theorem qJ:Jl X Fs:=by
 intro pins s σ H o i v ov iv u Q I ro ri rv h;obtain⟨p,xs,k,j,rfl,rfl,hp,hj,q⟩:=h;cases ro;obtain⟨t,rfl⟩:=ri;obtain⟨gV,n,r,ho,hz⟩:=I.lst hp;obtain⟨h1,h2,h3,h4⟩:=Ah hj;have hl:=r.length;have hn:=nB
 have I':Inv X pins σ (upd H p (.lst (xs.set j v))) {s with heap:=s.heap.update p (R8 (·.setIfInBounds j u))} :=
  I.HL hp ho (xl gV n j u) (r.set rv j) (by rw[Ss];exact hz) s.toks
 by_cases h0:0<=k
 ·have hk:k.toNat=j:=by
   rw[U2 h0 h4] at h1;exact LD h1
  exact PySem.W.ki_setAt ho h0 (by walk_at "om") (by rw[LM,<- hl];exact h4) (by rw[hk];exact⟨_,I',q⟩)
 ·have hk:(k+(gV.toArray.size:Int)).toNat=j:=by
   rw[Ul (by walk_at "om") h3] at h1;rw[LM,<- hl];exact LD h1
  exact PySem.W.ki_setBack ho (by walk_at "om") (by rw[LM,<- hl];exact h3) (by walk_at "om") (by rw[hk];exact⟨_,I',q⟩)
theorem qI(lo hi:Option Int)(n:Nat):(sliceBounds lo hi none n).1=((HT.sIx n 0 lo:Nat):Int)/\(sliceBounds lo hi none n).2.1=((HT.sIx n n hi:Nat):Int)/\(sliceBounds lo hi none n).2.2=1:=by
 refine⟨?_,?_,rfl⟩
 ·cases lo with
  |none=>simp[sliceBounds,HT.sIx]
  |some i =>
   simp only[sliceBounds,HT.sIx,UL,show(1:Int) > 0 by decide,if_true];by_cases h:i<0
   ·simp only[h,if_true] <;> walk_at "om"
   ·simp only[h,if_false] <;> walk_at "om"
 ·cases hi with
  |none=>simp[sliceBounds,HT.sIx]
  |some i =>
   simp only[sliceBounds,HT.sIx,UL,show(1:Int) > 0 by decide,if_true];by_cases h:i<0
   ·simp only[h,if_true] <;> walk_at "om"
   ·simp only[h,if_false] <;> walk_at "om"
theorem oS(gV:List La)(lo hi:Option Int):slicePick gV.toArray lo hi none=((gV.drop (HT.sIx gV.length 0 lo)).take (HT.sIx gV.length gV.length hi-HT.sIx gV.length 0 lo)).toArray:=by
 obtain⟨h1,h2,h3⟩:=qI lo hi gV.toArray.size;unfold slicePick;rw[h1,h2,h3];simp only[sliceRange_one,pick_run,LM] <;> rfl
def o9(K:Fg):V->Option Int->Option Int->Hp->VK->Prop:=fun x lo hi H Q=>∃a xs,x=.ref a/\SqL K H a xs/\∀p,H p=none->Q (.ref p) (upd H p (.lst (g6 xs lo hi)))
theorem jg:Jh X (o9 X.K):=by
 intro pins s σ H x v vl vu lo hi sl Q I rx hs pl pu h;obtain⟨a,xs,rfl,hx,q⟩:=h;cases rx;obtain⟨gV,r,ht,hz⟩:=I.list hx;have hlen:=r.length;refine⟨"list",_,Rr.lookup,ht.isList.typeIs,?_⟩;refine RB ht.isList hs pl pu .none (by simp) ?_ (by rw[LM] <;> walk_at "om");rw[oS,<- hlen];refine⟨.ref s.heap.objs.size,_,I.laid (t':=s.toks) (o:=.lst (g6 xs lo hi)) (fun b ob q=>Lb _ q) (Lf _) ?_,rfl,q _ (I.hok.fresh (Lf _))⟩;exact⟨Mh (l5 xs lo hi) hz,_,0,(r.drop (HT.sIx xs.length 0 lo)).take (HT.sIx xs.length xs.length hi-HT.sIx xs.length 0 lo),LJ _ rfl⟩
theorem aK:g8 X (.builtin "len") (fun xs H Q=>∃p ys,xs=[.ref p]/\(SqL X.K H p ys\/SqT X.K H p ys)/\Q (.int ys.length) H):=by
 intro pins s σ H xs us Q I r h;obtain⟨p,ys,rfl,hq,q⟩:=h;obtain⟨u,rfl,rx⟩:=vals1 r;cases rx;have hn:=nB;rcases hq with hq|hq
 ·obtain⟨gV,r',pl,hz⟩:=I.list hq;have hlen:=r'.length;exact Calls.call_len_list pl.isList (by simp only[LM] <;> walk_at "om") ⟨.int ys.length,H,I.tok _,⟨s.toks+1,by rw[LM,hlen]⟩,q⟩
 ·obtain⟨gV,r',pl,hz⟩:=I.tuple hq;have hlen:=r'.length;exact len_tuple pl (by simp only[LM] <;> walk_at "om") ⟨.int ys.length,H,I.tok _,⟨s.toks+1,by rw[LM,hlen]⟩,q⟩
theorem gA:g8 X (.builtin "len") (fun xs H Q=>∃z,xs=[.str z]/\z.length<=sizeLine/\Q (.int z.length) H):=by
 intro pins s σ H xs us Q I r h;obtain⟨z,rfl,hz,q⟩:=h;obtain⟨u,rfl,t,rfl⟩:=vals1 r;have hn:=nB;exact len_str (by walk_at "om") ⟨.int z.length,H,I.tok _,⟨_,rfl⟩,q⟩
theorem sy:g8 X (.type "list") (fun xs H Q=>∃p ys,xs=[.ref p]/\(SqL X.K H p ys\/SqT X.K H p ys)/\∀l,H l=none->Q (.ref l) (upd H l (.lst ys))):=by
 intro pins s σ H xs us Q I r h;obtain⟨p,ys,rfl,hq,q⟩:=h;obtain⟨u,rfl,rx⟩:=vals1 r;cases rx
 have fin:∀(gV:List La),Vals ys gV->ys.length<=sizeLine->∀(h':Heap) (c':Nat),(∀b o',s.heap.get? b=some o'->h'.get? b=some o') ->
   h'.get? s.heap.objs.size=some {cls:=.type "list",dict:=none,data:=.seq gV.toArray c',slots:=#[]}->EP X pins σ Q (.ref s.heap.objs.size) {s with heap:=h'}:=fun gV r' hz h' c' kp e =>
  ⟨.ref s.heap.objs.size,_,I.laid (t':=s.toks) kp (Lf _) (show cP X.prog X.w _ h' _ (.lst ys) from⟨hz,gV,c',r',e⟩),rfl,q _ (I.hok.fresh (Lf _))⟩
 rcases hq with hq|hq
 ·obtain⟨gV,r',pl,hz⟩:=I.list hq;have hlen:=r'.length;obtain⟨o,ho,hc,n,hd⟩:=pl.isList;exact call_list_seq p (.inl rfl) ho hc hd (fun h' c' kp e=>fin gV r' hz h' c' kp e) (by simp only[LM] <;> walk_at "om")
 ·obtain⟨gV,r',pl,hz⟩:=I.tuple hq;have hlen:=r'.length;obtain⟨o,ho,hc,n,hd⟩:=pl;exact call_list_seq p (.inr rfl) ho hc hd (fun h' c' kp e=>fin gV r' hz h' c' kp e) (by simp only[LM] <;> walk_at "om")
theorem bc:g8 X (.type "tuple") (fun xs H Q=>∃p ys,xs=[.ref p]/\((SqL X.K H p ys/\∀l,H l=none->Q (.ref l) (upd H l (.tup ys)))\/(SqT X.K H p ys/\Q (.ref p) H))):=by
 intro pins s σ H xs us Q I r h;obtain⟨p,ys,rfl,h⟩:=h;obtain⟨u,rfl,rx⟩:=vals1 r;cases rx;rcases h with⟨hq,q⟩|⟨hq,q⟩
 ·obtain⟨gV,r',pl,hz⟩:=I.list hq;have hlen:=r'.length;refine call_tuple_list pl.isList (fun h' kp=>?_) (by simp only[LM] <;> walk_at "om");have I1:Inv X pins σ H {s with heap:=h'}:=I.kept (t':=s.toks) kp
  have I2:Inv X pins σ (upd H h'.objs.size (.tup ys)) {s with heap:=h'.push {cls:=.type "tuple",data:=.seq gV.toArray}} :=
   I1.laid (t':=s.toks) (fun b o e=>Lb _ e) (Lf _) (show cP X.prog X.w _ _ _ (.tup ys) from⟨hz,gV,r',TupD.new _ _⟩)
  exact⟨.ref h'.objs.size,_,I2,rfl,q _ (I1.hok.fresh (Lf _))⟩
 ·obtain⟨gV,r',pl,hz⟩:=I.tuple hq;exact call_tuple_same pl ⟨.ref p,H,I,rfl,q⟩
def G9(K:Fg)(T:String)(x:V)(H:Hp):Prop:=match x with
 |.str _=>T = "str"
 |.int _=>T = "int"
 |.ref p=>(T = "list"/\∃xs,SqL K H p xs)\/(T = "tuple"/\∃o,K.lookup p=some o/\o.cls=.type "tuple"/\o.dict=none) \/
   (T = "dict"/\((∃i3,H p=some (.dK i3))\/∃i3,H p=some (.dT i3)))\/(T = "set"/\∃S n,H p=some (.set S n))
 |_=>False
theorem G8{H:Hp}(I:Inv X pins σ H s)(r:RelV x v)(ty:G9 X.K T x H) :
  s.TypeIs v T/\∀a,v=.ref a->∃ob,s.heap.get? a=some ob/\ob.dict=none:=by
 cases x with
 |str z =>
  obtain⟨t,rfl⟩:=r;cases (show T = "str" from ty);exact⟨Ph s z t,fun _ e=>nomatch e⟩
 |int i =>
  obtain⟨t,rfl⟩:=r;cases (show T = "int" from ty);exact⟨typeIs_int s i t,fun _ e=>nomatch e⟩
 |ref p =>
  cases r;rcases ty with⟨rfl,xs,hq⟩|⟨rfl,o,hk,hc,hd⟩|⟨rfl,hk⟩|⟨rfl,S,n,hk⟩
  ·obtain⟨gV,_,pl,_⟩:=I.list hq;refine⟨pl.isList.typeIs,fun a e=>?_⟩;cases e;obtain⟨o,n,e,c,hd,_⟩:=pl;exact⟨o,e,hd⟩
  ·refine⟨⟨o,I.kIn p o hk,hc⟩,fun a e=>?_⟩;cases e;exact⟨o,I.kIn _ o hk,hd⟩
  ·have z:∃o,s.heap.get? p=some o/\o.ExactDict:=by
    rcases hk with⟨i3,hk⟩|⟨i3,hk⟩
    ·obtain⟨_,_,_,_,o,_,_,e,ex,_⟩:=I.hok p _ hk;exact⟨o,e,ex⟩
    ·obtain⟨_,_,_,_,o,_,_,e,ex,_⟩:=I.hok p _ hk;exact⟨o,e,ex⟩
   obtain⟨o,e,ex⟩:=z;refine⟨⟨o,e,ex.1⟩,fun a e2=>?_⟩;cases e2;exact⟨o,e,ex.2.1⟩
  ·obtain⟨o,_,_,_,e,ex,_⟩:=I.hok p _ hk;refine⟨⟨o,e,ex.1⟩,fun a e2=>?_⟩;cases e2;exact⟨o,e,ex.2.1⟩
 |_=>exact Np ty
def fX(K:Fg)(T:String)(r:V->List V->Hp->VK->Prop)(to:TE)(t:TA):TE:=fun σ H Q=>to σ H fun x H1=>G9 K T x H1/\t σ H1 fun xs H2=>r x xs H2 Q
variable{o e:Expr}{es:List Expr}{to:TE}{t:TA}{name:Str}{apos VP:Pos}{T id:String}{r:V->List V->Hp->VK->Prop}
theorem b9(pa:PlainAttrs T) (slot:Slot T name id) (hty:typeOf (.builtin id)=pure (.type "method_descriptor")) (hm:GS X id r) (ho:PE X o to) (ha:PA X (e :: es) t)
  (hbase:attributeBase o name X.env (eval o X.env)=eval o X.env:=by rfl)
  (hfew:((backTo VP (starEach (e :: es) X.env)).all (fun x=>!x.1) && (backToKw VP (keywordEach [] X.env)).all (fun x=>x.1.isSome)
   && decide ((e :: es).length+([]:List Vd).length+(if ([]:List Vd).isEmpty then 0 else 1)<30))=true:=by rfl)
  (hline:(apos.endLine == VP.line)=true:=by rfl) (hs:starEach (e :: es) X.env=(false,eval e X.env) :: starEach es X.env:=by rfl) (Yd:(backTo VP (starEach es X.env)).any (·.1)=false:=by rfl) :
  PE X (.Call (.Attribute o name apos) (e :: es) [] VP) (fX X.K T r to t):=by
 intro pins s σ H Q I h;refine wpAny_Call_method_late hbase hfew hline rfl (bQ (ho pins s σ H _ I h) fun v s1 ⟨x,H1,I1,r1,ty,q1⟩=>?_);obtain⟨h1,h2⟩:=G8 I1 r1 ty;refine⟨T,id,pa,slot,hty,h1,h2,?_⟩;have hA:=ha VP pins s1 σ H1 _ I1 q1;rw[hs] at hA ⊢;refine Qf (by show(false || (backTo VP (starEach es X.env)).any (·.1))=false;rw[Yd] <;> rfl) (Pi ?_);exact bQ hA fun us s2 ⟨vs,H2,I2,r2,q2⟩=>hm pins s2 σ H2 x vs v us Q I2 r1 r2 q2
end
def K7(X:Cx)(id:String)(r:V->List V->Hp->VK->Prop):Prop :=
 ∀(pins:List (Addr×Obj)) (s:Le) (σ:St) (H:Hp) (x:V) (xs:List V) (v:La) (us:List La) (Q:VK),Inv X pins σ H s->RelV x v->Vals xs us->r x xs H Q ->
  wpAny (model X.prog X.w) X.A (call (.builtin id) (v :: us)) (EP X pins σ Q) X.xe s
theorem Vals.one:∀{x:V} {us:List La},Vals [x] us->∃u,us=[u]/\RelV x u
 |_,_,.cons r .nil=>⟨_,rfl,r⟩
theorem Vals.rep{xs:List V}{us:List La}(h:Vals xs us):∀k:Nat,Vals (LG k xs).flatten (LG k us).flatten
 |0=>.nil
 |k+1=>by
  rw[OF,OF,Qg,Qg];exact Vals.append h (Vals.rep h k)
theorem foldl_rep(gV:List La):∀(k:Nat) (acc:List La),
  T6 (fun x1 x2=>x1++x2) acc.toArray (LG k gV.toArray)=(acc++(LG k gV).flatten).toArray
 |0,acc=>by simp
 |k+1,acc=>by
  have e:acc.toArray++gV.toArray=(acc++gV).toArray:=by simp
  have e2:(acc++gV)++(LG k gV).flatten=acc++(LG (k+1) gV).flatten:=by
   rw[OF,Qg,MF]
  rw[<- e2,<- foldl_rep gV k (acc++gV),<- e,OF,QJ]
section
variable{X:Cx}{pins:List (Addr×Obj)}{σ:St}{H:Hp}{s:Le}{l b:Addr}{xs ys zs:List V}
theorem Inv.lset{gV its':List La}{f:Array La->Array La}{t':Nat}(I:Inv X pins σ H s)(hH:H l=some (.lst xs))
  (e:s.heap.get? l=some {cls:=.type "list",data:=.seq gV.toArray n}) (hf:f gV.toArray=its'.toArray) (hv:Vals ys its') (hz:ys.length<=sizeLine) :
  Inv X pins σ (upd H l (.lst ys)) {s with heap:=s.heap.update l (R8 f),toks:=t'}:=by
 have q:=PySem.IsL.update e f;rw[hf] at q;refine I.write (x:=l) (e:=l) (by rw[hH];exact trivial) (.inl rfl) (fun b' u hb hu=>(Mw s.heap (R8 f) (Nd hb)).trans hu) ⟨_,q⟩ ?_;exact⟨hz,its',_,hv,q⟩
theorem Inv.lnew{t':Nat}(I:Inv X pins σ H s)(hv:Vals ys gV)(hz:ys.length<=sizeLine) :
  Inv X pins σ (upd H s.heap.objs.size (.lst ys)) {s with heap:=s.heap.push {cls:=.type "list",data:=.seq gV.toArray},toks:=t'} :=
 I.laid (fun _ _ q=>Lb _ q) (Lf _) ⟨hz,gV,0,hv,LJ _ rfl⟩
theorem Inv.fresh(I:Inv X pins σ H s):H s.heap.objs.size=none:=I.hok.fresh (Lf _)
theorem Inv.lstM(I:Inv X pins σ H s) (hH:H l=some (.lst xs)):xs.length<=sizeLine/\∃(gV:List La) (n:Nat),Vals xs gV/\xs.length=gV.length/\s.heap.get? l=some {cls:=.type "list",data:=.seq gV.toArray n}:=by
 obtain⟨z,gV,n,r,e⟩:=I.hok l _ hH;exact⟨z,gV,n,r,r.length,e⟩
theorem CF{n:Nat}(h:n<=sizeLine):PN n=false:=by
 unfold PN;exact decide_eq_false (by walk_at "om")
end
section
variable{X:Cx}
def di:V->List V->Hp->VK->Prop:=fun x vs H Q=>∃l xs y,x=.ref l/\vs=[y]/\H l=some (.lst xs)/\xs.length<sizeLine/\Q .non (upd H l (.lst (xs++[y])))
theorem a9:K7 X "list.append" di:=by
 intro pins s σ H x vs v us Q I rx rv h;obtain⟨l,xs,y,rfl,rfl,hH,hz,q⟩:=h;cases rx;obtain⟨u,rfl,ru⟩:=rv.one;obtain⟨z,gV,n,r,hl,e⟩:=I.lstM hH;refine Pj F.slot_list_append ⟨_,e,rfl⟩ F.entry_list_append (F.args_list_append_2 _ _) (PySem.list_append l gV.toArray n u (by rw[LM];walk_at "om")) ⟨e,?_⟩;refine⟨.non,_,I.lset (its':=gV++[u]) hH e (by simp) (r.append (.cons ru .nil)) ?_,rfl,q⟩;rw[LU,Mt];walk_at "om"
def mL:R2:=fun x y H Q=>∃l b xs zs,x=.ref l/\y=.ref b/\H l=some (.lst xs)/\H b=some (.lst zs)/\xs.length+zs.length<=sizeLine/\∀p,H p=none->Q (.ref p) (upd H p (.lst (xs++zs)))
theorem k_:gW X (binaryOp .Add) mL:=by
 intro pins s σ H x y v u Q I rx ry h;obtain⟨l,b,xs,zs,rfl,rfl,hH,hB,hz,q⟩:=h;cases rx;cases ry;obtain⟨z,gV,n,r,hl,e⟩:=I.lstM hH;obtain⟨z2,Zb,n2,r2,WN,e2⟩:=I.lstM hB;refine PySem.P.add_list e e2 ?_ (by rw[LM,LM];walk_at "om");have ea:gV.toArray++Zb.toArray=(gV++Zb).toArray:=by simp
 rw[ea];exact⟨.ref _,_,I.lnew (t':=s.toks) (r.append r2) (by rw[LU];walk_at "om"),rfl,q _ I.fresh⟩
def Hu:R2:=fun x y H Q=>∃l k xs,x=.ref l/\y=.int k/\H l=some (.lst xs)/\-(2 ^ 63)<=k/\k<2 ^ 63/\xs.length*k.toNat<=sizeLine /\
 ∀p,H p=none->Q (.ref p) (upd H p (.lst (LG k.toNat xs).flatten))
theorem CJ{α:Type}(xs:List α)(k:Nat):(LG k xs).flatten.length=k*xs.length:=by
 induction k with
 |zero=>simp
 |succ k ih=>rw[OF,Qg,LU,ih,Nat.succ_mul,Nat.add_comm]
theorem HB:gW X (binaryOp .Mult) Hu:=by
 intro pins s σ H x y v u Q I rx ry h;obtain⟨l,k,xs,rfl,rfl,hH,h1,h2,hz,q⟩:=h;cases rx;obtain⟨t,rfl⟩:=ry;obtain⟨z,gV,n,r,hl,e⟩:=I.lstM hH;have hlen:gV.toArray.size*k.toNat<=sizeLine:=by rw[LM,<- hl];exact hz
 have hcap : ¬ gV.toArray.size*k.toNat > (2 ^ 63-1) / 8:=by
  have:(sizeLine:Nat)<=(2 ^ 63-1) / 8:=by decide
  walk_at "om"
 have hfit : ¬ (!Builtin.List.listFitsIndex k)=true:=by
  rw[fitsIndex_both h1 h2];exact LO
 have Y2 : ¬ PN (gV.toArray.size*k.toNat)=true:=by
  rw[CF hlen];exact LO
 have hnew:T6 (fun x1 x2=>x1++x2) #[] (LG (if gV.toArray.isEmpty=true then 0 else k.toNat) gV.toArray)=(LG k.toNat gV).flatten.toArray:=by
  have f0:∀m:Nat,T6 (fun x1 x2=>x1++x2) #[] (LG m gV.toArray)=(LG m gV).flatten.toArray:=fun m=>by
   have:=foldl_rep gV m []
   rw[QI] at this;exact this
  rw[f0];cases gV with
  |nil=>simp
  |cons a r'=>rw[if_neg (by simp)]
 refine wpAny_binaryOp_repeat_ref (T:="list") (U:="int") (by decide) ⟨_,e,rfl⟩ (fun s'=>typeIs_int s' k t) noFill_list_mul F.fills_int_mul F.slot_int_rmul repeat_list F.slot_int_index.lookup
  (Pj F.slot_int_rmul (typeIs_int s k t) F.entry_int_rmul (F.args_int_rmul_2 _ _) (int___rmul___int_list k t l gV.toArray n)
   ⟨e,rfl,⟨_,e,rfl⟩,Pj F.slot_list_mul ⟨_,e,rfl⟩ F.entry_list_mul (F.args_list_mul_2 _ _) (AutoListH.list___mul___list_int_3 l gV.toArray n k t hfit hcap Y2) ⟨e,?_⟩⟩)
 rw[hnew];exact⟨.ref _,_,I.lnew (t':=s.toks) (r.rep k.toNat) (by rw[CJ,R9];exact hz),rfl,q _ I.fresh⟩
end
end L2
namespace Att
open PySem PySem.W PySem.Calls PyProof.Rows
theorem lQ:∀(ns:List Int) (vs:List La),WellAll P h vs (ns.map WData.int)->Ve vs ns:=by
 intro ns
 induction ns with
 |nil =>
  intro vs w;rw[Os] at w;cases w;exact .nil
 |cons n ns ih =>
  intro vs w;rw[LP] at w;cases w with
  |cons a b =>
   cases a;exact .cons _ _ (ih _ b)
theorem yJ{l:OpenLaw}{n:Nat}(hn:l.most=some n)
  (hpre:l.row.toRowW.claim.pre args=true) (hwl:WellAll P h vals args) :
  ∃a vs ns,vals=[LZ a]/\args=[WData.list (ns.map WData.int)]/\h.get? a=some {cls:=.type "list",data:=.seq vs.toArray}/\Ve vs ns/\ns.length<=n:=by
 have hsh:WShape.hasAll [] args [.list .int]=true:=(pre_splitW hpre).1;have hc:l.pre.holds [] {args:=args}=true:=(pre_splitW hpre).2;obtain⟨d,r,rfl,h1,h2⟩:=hasAllW_cons hsh;obtain rfl:=hasAllW_nil h2;obtain⟨xs,rfl,h3⟩:=hasW_list h1;obtain⟨ns,rfl⟩:=items_int h3
 have hlen:ns.length<=n:=by
  unfold OpenLaw.pre at hc
  have h4:(WTm.not (.lt (.lit (.int (n:Int))) (.len (.arg 0)))).holds [] {args:=[.list (ns.map .int)]}=true:=by
   have h4:=(holds_andW hc).1;rw[hn] at h4;exact h4
  have h5:=condW_of h4 (w_not (w_lt w_lit (w_len_list (w_arg rfl))));rw[K9] at h5;refine Nat.le_of_not_lt fun q=>?_
  have q':(n:Int)<((ns.length:Nat):Int):=by walk_at "om"
  first
   |(rw[decide_eq_true q'] at h5;exact absurd h5 (by decide))
   |(simp at h5;omega)
 cases hwl with
 |cons w1 w2 =>
  cases w2;cases w1 with
  |list ho V2=>exact⟨_,_,ns,rfl,rfl,ho,lQ ns _ V2,hlen⟩
theorem ze(l:OpenLaw)(args:List WData):l.row.toRowW.claim.post args (.bool true) args=true :=
 postW_of (r:=l.row.toRowW) (X:=(true == true))
  (show WShape.has [] (.bool true) .bool=true by first|rfl|decide|simp[WShape.has,WShape.arms,WShape.armsAll])
  (show(WTm.eq .res (.lit (.bool true))).value [] {args:=args,res:=some (.bool true),after:=args}=some (.bool (true == true)) from w_eq_bool (w_res rfl) w_lit) rfl
theorem vm{l:OpenLaw}{n:Nat}{XP:(Str->Option La)->Heap->Prop}{YP:LQ->Heap->Prop}{d:DefRec}
  (hn:l.most=some n) (YT:d.params.defaults=[])
  (call:∀(w:LQ) (s₀ s₁:Le) (mg mb:Str->Option La) (fa:Addr) (o:Obj) (pm cd doc:La) (a:Addr) (vs:List La) (ns:List Int),
   Ground q loose [] XP w s₀ mg mb s₁.heap->YP w s₁.heap ->
   s₁.heap.get? fa=some o->o.data=.func (docDef d.name d.params d.body d.scope pm cd doc)->s₁.heap.CodeRec cd d.name->mg d.name=some (.ref fa) ->
   s₁.heap.get? a=some {cls:=.type "list",data:=.seq vs.toArray}->Ve vs ns->ns.length<=n->s₁.gens = #[] ->
   codeAny (model l.prog w) callerA (.call (.ref fa) ⟨[.ref a],[]⟩) (fun r s'=>r=.ok (.ret (.bool true))/\OldK s₁.heap s'.heap/\s'.os=s₁.os/\Qx s'.gens) s₁) :
  WalkO q loose XP YP l.row.toRowW d [] (fun f vs=>T1 f vs):=by
 intro w s₀ s₁ mg mb G Y fa o pm cd doc dV kV ho hd hcd hD Y4 hg args vals as hpre hlay hrd hwl hlo;obtain rfl:dV=.none:=Dflts.none hD YT;obtain rfl:kV=.none:=Dflts.noKw hD;obtain⟨a,vs,ns,rfl,rfl,Yb,hints,hlen⟩:=yJ hn hpre hwl;refine enter_call (Pu (call w s₀ s₁ mg mb fa o pm cd doc a vs ns G Y ho (fd_plain hd) hcd Y4 Yb hints hlen hg) fun r s' hq=>?_);obtain⟨rfl,h2,h3,h4⟩:=hq;exact⟨.inl ⟨.bool true,.bool true,[],rfl,fun _=>rfl,.bool true,ze l _,fun _=>⟨Um,fun _ hm=>(nomatch hm)⟩⟩,h2,h3,h4⟩
end Att
namespace L2
open PySem PySem.Spec PyProof.Rows
theorem qx:∀{vs:List La} {ns:List Int},Ve vs ns->Vals (ns.map V.int) vs
 |_,_,.nil=>.nil
 |_,_,.cons n t h=>.cons ⟨t,rfl⟩ (qx h)
def GQ(H:Hp):Prop:=∀b,H b=none\/∃o xs,H b=some (.frz o (.lst xs))
theorem CL{K:Fg}{CX:oj}{a:Addr}{x:Str}{sp:Sp}{s₁:Le}{vs:List La}
  (KX:K.In s₁.heap) (Xk:s₁.heap.Ns mainGlobals mg) (hb:s₁.heap.Ns builtinsNs mb) (Z9:∀x:Str,x≠"__name__"->mb x=bootBuiltins x) (hlim:s₁.heap.NoLimit) (hg:s₁.gens = #[])
  (ha:s₁.heap.get? a=some {cls:=.type "list",data:=.seq vs.toArray}) (hi:Ve vs ns) (hl:ns.length<=sizeLine) (hr:Room k callerA)
  (F:∀base:Heap,K.In base->base.Ns mainGlobals mg->FnOk P w K mg base CX k fa fd [x] sp) (YQ:∀(s:Le) (u:La),Uj s fd ⟨[u],[]⟩ [(x,u)])
  (hsp:∀H:Hp,GQ H->SqL K H a (ns.map V.int)->sp [.ref a] H (fun v _=>v=.bl true) fun _ _ _=>False)
  (hCX:∀H e s',CX [] H s₁ (fun _ _ _=>False) e s'->False) :
  codeAny (model P w) callerA (.call (.ref fa) ⟨[.ref a],[]⟩) (fun r s'=>r=.ok (.ret (.bool true))/\OldK s₁.heap s'.heap/\s'.os=s₁.os/\Qx s'.gens) s₁:=by
 have rv:=qx hi;have lenV:=hi.length
 have core:∀H:Hp,GQ H->SqL K H a (ns.map V.int)->HOk P w H s₁.heap->(∀b,H b≠none->b=a)->(H a≠none->K.lookup a=none) ->
   codeAny (model P w) callerA (.call (.ref fa) ⟨[.ref a],[]⟩) (fun r s'=>r=.ok (.ret (.bool true))/\OldK s₁.heap s'.heap/\s'.os=s₁.os/\Qx s'.gens) s₁:=by
  intro H hO hS hok hA hK;have WR:∀{b:Addr} {o:Obj},s₁.heap.get? b=some o->H b=none->(pW s₁.heap H).get? b=some o:=fun e n=>CZ e n
  have Zv:∀{b:Addr} {o:Obj} {es:Array RO} {ep:Nat},s₁.heap.get? b=some o->o.data=.dict es ep->H b=none:=fun {b o es ep} e d=>by
   cases q:H b with
   |none=>rfl
   |some u =>
    have e':b=a:=hA b (by rw[q];simp);subst e';rw[ha] at e;cases e;have d':VD vs.toArray _=Data.dict es ep:=d;cases d'
  have nsK:∀{b:Addr} {m:Str->Option La},s₁.heap.Ns b m->(pW s₁.heap H).Ns b m:=fun {b m} ⟨o,es,ep,e,d,r⟩=>⟨o,es,ep,WR e (Zv e d),d,r⟩
  have hKb:K.In (pW s₁.heap H):=fun b o e=>WR (KX b o e) (by
   cases q:H b with
   |none=>rfl
   |some u =>
    have e':b=a:=hA b (by rw[q];simp)
    subst e'
    rw[hK (by rw[q];simp)] at e;cases e)
  have hM:Mod K mg (pW s₁.heap H):=⟨hKb,nsK Xk,⟨mb,nsK hb,Z9⟩,let ⟨mc,h1,h2⟩:=hlim;⟨mc,nsK h1,h2⟩⟩
  have e0:Env0 P w K mg (pW s₁.heap H) callerA [] s₁ H:=⟨rfl,hM,fun b o e=>FM e,Uo (Au _ _),trivial,fun b hb=>absurd (show b∈([]:List Addr) from hb) (by simp),hok,.of_eq hg⟩
  refine Pu ((F _ hKb (nsK Xk)).run callerA [] s₁ H ⟨[.ref a],[]⟩ [.ref a] [.ref a] _ _ hr e0 (YQ s₁ (.ref a)) (.cons rfl .nil) (hsp H hO hS)) fun r s' h=>?_
  cases r with
  |error e=>exact(hCX H e s' h).elim
  |ok fl =>
   cases fl with
   |next=>exact Np h
   |brk=>exact Np h
   |cont=>exact Np h
   |ret u =>
    obtain⟨v,H',os,bare,un,hok',r',q⟩:=h;have q':v=.bl true:=q;subst q';obtain rfl:u=Q3 true:=r';refine⟨rfl,OldK.of_keep fun b o e=>?_,os,bare⟩;cases q:H b with
    |none=>exact un.keep b o e q (by intro z;exact absurd (show b∈([]:List Addr) from z) (by simp)) (by simp)
    |some u =>
     rcases hO b with z|⟨ob,xs,z⟩
     ·rw[q] at z;cases z
     ·have z2:=un.frzs b ob _ z;obtain⟨e1,_⟩:=hok b _ z;obtain⟨e2,_⟩:=hok' b _ z2;rw[e] at e1;cases e1;exact e2
 cases hk:K.lookup a with
 |some o =>
  have e:=KX a o hk;rw[ha] at e;cases e;refine core (fun _=>none) (fun _=>.inl rfl) (.inr ⟨_,vs.toArray,_,hk,rfl,rfl,rfl,by rw[LM,lenV];exact hl,by simpa using rv⟩) (fun b u z=>by have z':(none:Option HO)=some u:=z;cases z') (fun b z=>absurd rfl z) fun z=>absurd rfl z
 |none =>
  refine core (fun b=>if b=a then some (.frz {cls:=.type "list",data:=.seq vs.toArray} (.lst (ns.map V.int))) else none) (fun b=>?_) (.inl (.inr ⟨{cls:=.type "list",data:=.seq vs.toArray},if_pos rfl⟩)) (fun b u z=>?_) (fun b z=>?_) fun _=>hk
  ·by_cases hb:b=a
   ·exact .inr ⟨_,_,if_pos hb⟩
   ·exact .inl (if_neg hb)
  ·by_cases hb:b=a
   ·have z':=(if_pos hb).symm.trans z;cases z';subst hb;exact⟨ha,by rw[K9];exact hl,vs,_,rv,ha⟩
   ·have z':=(if_neg hb).symm.trans z;cases z'
  ·by_cases hb:b=a
   ·exact hb
   ·exact absurd (if_neg hb) z
theorem EC{l:U8}{n:Nat}{XP:(Str->Option La)->Heap->Prop}{YP:LQ->Heap->Prop}{d:DefRec}{K:Params->Ub}{CX:LQ->oj}{sp:LQ->Sp}{x:Str}
  (hn:l.most=some n) (hn2:n<=sizeLine) (YT:d.params.defaults=[]) (hr:Room k callerA)
  (hY:∀(w:LQ) (h:Heap),YP w h->(K w.params).In h)
  (F:∀(w:LQ) (mg:Str->Option La) (fa:Addr) (h:Heap),(K w.params).In h->h.Ns mainGlobals mg->mg d.name=some (.ref fa) ->
   ∃fd:Oq,(∀(s:Le) (u:La),Uj s fd ⟨[u],[]⟩ [(x,u)]) /\
    ∀base:Heap,(K w.params).In base->base.Ns mainGlobals mg->FnOk l.prog w (K w.params) mg base (CX w) k fa fd [x] (sp w))
  (hsp:∀(w:LQ) (H:Hp) (a:Addr) (ns:List Int),ns.length<=n->GQ H->SqL (K w.params) H a (ns.map V.int)->sp w [.ref a] H (fun v _=>v=.bl true) fun _ _ _=>False)
  (hCX:∀(w:LQ) (H:Hp) (s:Le) (e:La) (s':Le),CX w [] H s (fun _ _ _=>False) e s'->False) :
  TK q loose XP YP l.row.toRowW d [] (fun f vs=>T1 f vs):=by
 refine Att.vm hn YT fun w s₀ s₁ mg mb fa o pm cd doc a vs ns G Y ho hd hcd Y4 Yb hints hlen hg=>?_
 have KX:=hY w _ Y;obtain⟨fd,hb,hF⟩:=F w mg fa _ KX G.T.g Y4;exact CL KX G.T.g G.T.b G.T.builtins G.T.nolimit hg Yb hints (Mh hlen hn2) hr hF hb (fun H hO hS=>hsp w H a ns hlen hO hS) fun H e s'=>hCX w H s₁ e s'
def eU(s:Stmt):Arguments:=match s with
 |.FunctionDef _ a _ _ _ _ _ _ _ _=>a
 |_=>{posonlyargs:=[],args:=[],vararg:=none,kwonlyargs:=[],kw_defaults:=[],kwarg:=none,defaults:=[]}
def df(s:Stmt):List Stmt:=match s with
 |.FunctionDef _ _ b _ _ _ _ _ _ _=>b
 |_=>[]
def aB(s:Stmt):Scope:=match s with
 |.FunctionDef _ _ _ _ _ _ sc _ _ _=>sc
 |_=>{kind:=.function,names:=[],isGenerator:=false,isCoroutine:=false}
abbrev dh:oj:=fun _ _ _ _ _ _=>False
abbrev E0:XK:=fun _ _ _=>False
theorem JR:mf dh X E0:=fun _ _ _ _ _ _ _ h=>h.elim
structure Fun (K:Fg) (x qual:Str) (st:Stmt) (f:Addr) (fd:Oq):Prop where
 ex:∃(oc:La) (od:Option Addr) (kV doc pm:La) (an:Option Addr) (pe ct:La) (Xe:Array (Option La)),
  fd=Nl x qual (eU st) (df st) (aB st) .none kV doc pm an pe ct/\K.lookup f=some ⟨oc,od,.func fd,Xe⟩/\OK K pe qual=true
 kp:NX K (.ref f)=true
section
variable{P:LB}{w:LQ}{K:Fg}{mg:Str->Option La}{base:Heap}
theorem Fun.ok{st:Stmt}{sp:Sp}(F:Fun K x qual st f fd)(S:aU N ps (aB st))(len:∀vs H Q E,sp vs H Q E->vs.length=ps.length)
  (hbody:∀(pe:La) (A:Mf) (outer:List Env) (s:Le) (H:Hp) (vs:List V) (Q:VK) (E:XK),Room k (A.deeper (envOfC qual (aB st) s.heap.objs.size f pe))->sp vs H Q E ->
   ∃t,PSs (fH dh P w K mg base N qual (aB st) f pe A outer s H E).nox (df st) t/\t {nx:=fun _ H'=>Q .non H',rt:=Q} (start N vs) H):FnOk P w K mg base dh (k+1) f fd ps sp:=by
 obtain⟨oc,od,kV,doc,pm,an,pe,ct,Xe,rfl,lk,hcd⟩:=F.ex;refine IN lk hcd S len fun A outer s H vs Q E hr hsp=>?_
 obtain⟨t,h,q⟩:=hbody pe A outer s H vs Q E hr hsp;exact⟨t,h.nox,q⟩
theorem Fun.binds{st:Stmt}{ps:List Str}(F:Fun K x qual st f fd)
  (h:∀(kV doc pm:La) (an:Option Addr) (pe ct:La) (us:List La),us.length=ps.length->bindArgs (Nl x qual (eU st) (df st) (aB st) .none kV doc pm an pe ct) ⟨us,[]⟩=pure (ps.zip us)):Binds K fd ps []:=by
 obtain⟨oc,od,kV,doc,pm,an,pe,ct,Xe,rfl,lk,hcd⟩:=F.ex;exact .all (h kV doc pm an pe ct)
theorem wx{st:Stmt}{oc:La}{od:Option Addr}{Xe:Array (Option La)}{kV:La}(l:K.lookup f=some ⟨oc,od,.func (Nl x qual (eU st) (df st) (aB st) .none kV doc pm an pe ct),Xe⟩)
  (c:OK K pe qual=true) (k:NX K (.ref f)=true):Fun K x qual st f (Nl x qual (eU st) (df st) (aB st) .none kV doc pm an pe ct):=⟨⟨oc,od,kV,doc,pm,an,pe,ct,Xe,rfl,l,c⟩,k⟩
end
theorem bh{n:Nat}(h:n<=1000):n<sizeLine:=M5 h (by decide)
section
variable{X:Cx}
theorem pv(i:Nat) {x:Str} {pos:Pos} (hN:X.N[i]?=some x:=by rfl) (hv:Jy X.env.scope x:=by first|exact Or.inl rfl|exact Or.inr (Or.inl rfl)|exact Or.inr (Or.inr rfl)) (hd:(x == ("__debug__":Str))=false:=by decide)
  (hcd:(x == ("__classdict__":Str))=false:=by decide):PE X (.Name x pos) (ag i):=D3 hN hv hd hcd
end
theorem va{A B:Prop}(h:B):if false=true then A else B:=by
 rw[if_neg LO];exact h
theorem u_{A B:Prop}(h:A):if true=true then A else B:=by
 rw[if_pos rfl];exact h
def Same(H H':Hp):Prop:=∀b o,H b=some o->H' b=some o
theorem Same.refl(H:Hp):Same H H:=fun _ _ h=>h
theorem Same.trans(a:Same H H1)(b:Same H1 H2):Same H H2:=fun c o h=>b c o (a c o h)
theorem Same.free(e:Same H H')(h:H' l=Option.none):H l=Option.none:=by
 cases q:H l with
 |none=>rfl
 |some o =>
  rw[e l o q] at h;cases h
theorem Same.seq{K:Fg}(e:Same H H')(h:SqL K H a xs):SqL K H' a xs:=by
 rcases h with(h|⟨o,h⟩)|h
 ·exact .inl (.inl (e _ _ h))
 ·exact .inl (.inr ⟨o,e _ _ h⟩)
 ·exact .inr h
section
variable{κ:Type}[DecidableEq κ]
def cG(i3:List (κ×V))(k:κ):Option V:=(i3.find? fun kv=>decide (kv.1=k)).map (·.2)
def eJ(i3:List (κ×V))(k:κ)(v:V):List (κ×V) :=
 if (i3.any fun kv=>decide (kv.1=k))=true then i3.map (fun kv=>if kv.1=k then (kv.1,v) else kv) else i3++[(k,v)]
theorem dB{p:κ×V}{r:List (κ×V)}{k:κ}(e:p.1=k):cG (p :: r) k=some p.2:=by simp[cG,OY,e]
theorem dF{p:κ×V}{r:List (κ×V)}{k:κ}(e : ¬ p.1=k):cG (p :: r) k=cG r k:=by simp[cG,OY,e]
theorem j8(k:κ):∀i3:List (κ×V),(i3.any fun kv=>decide (kv.1=k))=(cG i3 k).isSome
 |[]=>rfl
 |p :: r=>by
  rw[RD];by_cases e:p.1=k
  ·simp only[dB e,decide_eq_true e,Bool.true_or,Option.isSome_some]
  ·rw[dF e,decide_eq_false e,Bool.false_or];exact j8 k r
theorem vC(k j:κ)(y:V):∀i3:List (κ×V),cG (i3.map fun kv=>if kv.1=k then (kv.1,y) else kv) j=(cG i3 j).map fun x=>if j=k then y else x
 |[]=>rfl
 |p :: r=>by
  have ih:=vC k j y r;rw[LP];by_cases h:p.1=k
  ·rw[if_pos h];by_cases e:p.1=j
   ·rw[dB (p:=(p.1,y)) e,dB e,QK,if_pos (e.symm.trans h)]
   ·rw[dF (p:=(p.1,y)) e,dF e,ih]
  ·rw[if_neg h];by_cases e:p.1=j
   ·rw[dB (p:=p) e,dB e,QK,if_neg (fun z=>h (e.trans z))]
   ·rw[dF (p:=p) e,dF e,ih]
theorem qy(k j:κ)(y:V):∀i3:List (κ×V),cG i3 k=none->cG (i3++[(k,y)]) j=if j=k then some y else cG i3 j
 |[],_=>by
  by_cases e:k=j
  ·rw[if_pos e.symm];exact dB (p:=(k,y)) e
  ·rw[if_neg (fun z=>e z.symm)];exact dF (p:=(k,y)) e
 |p :: r,hn=>by
  rw[RI];have hk : ¬ p.1=k:=fun z=>by rw[dB z] at hn;cases hn
  rw[dF hk] at hn;have ih:=qy k j y r hn;by_cases e:p.1=j
  ·rw[dB e,dB e,if_neg (fun z=>hk (e.trans z))]
  ·rw[dF e,dF e,ih]
theorem j7(i3:List (κ×V))(k j:κ)(y:V):cG (eJ i3 k y) j=if j=k then some y else cG i3 j:=by
 unfold eJ;by_cases a:(i3.any fun kv=>decide (kv.1=k))=true
 ·rw[if_pos a,vC];rw[j8] at a;by_cases e:j=k
  ·obtain⟨x,hx⟩:=RA.mp a;rw[if_pos e,e,hx,QK,if_pos rfl]
  ·rw[if_neg e];cases cG i3 j with
   |none=>rfl
   |some x=>rw[QK,if_neg e]
 ·rw[if_neg a];refine qy k j y i3 ?_;rw[j8] at a;cases q:cG i3 k with
  |none=>rfl
  |some x=>rw[q] at a;exact(a rfl).elim
theorem iq(i3:List (κ×V))(k:κ)(v:V):(eJ i3 k v).length<=i3.length+1:=by
 unfold eJ;split
 ·rw[K9];walk_at "om"
 ·rw[LU,LS,QL];walk_at "om"
theorem RelO.Ak(r:RelO o u):o.isSome=u.isSome:=by
 cases o with
 |none=>cases u with
  |none=>rfl
  |some _=>exact(show False from r).elim
 |some _=>cases u with
  |none=>exact(show False from r).elim
  |some _=>rfl
theorem RelO.getD(r:RelO o u)(rd:RelV d d'):RelV (o.getD d) (u.getD d'):=by
 cases o with
 |none=>cases u with
  |none=>exact rd
  |some _=>exact(show False from r).elim
 |some _=>cases u with
  |none=>exact(show False from r).elim
  |some _=>exact r
theorem KV.val{i3:List (κ×V)}{vs:List (κ×La)}(r:KV i3 vs)(k:κ):RelO (cG i3 k) (valueAt vs k):=by
 unfold KV at r
 induction r with
 |nil=>exact Oc
 |@cons p q ps qs h t ih =>
  obtain⟨h1,h2⟩:=h;by_cases e:p.1=k
  ·have e':q.1=k:=h1.symm.trans e;have b:valueAt (q :: qs) k=some q.2:=by simp[valueAt,OY,e']
   rw[dB e,b];exact h2
  ·have e' : ¬ q.1=k:=fun z=>e (h1.trans z)
   have b:valueAt (q :: qs) k=valueAt qs k:=by simp[valueAt,OY,e']
   rw[dF e,b];exact ih
theorem KV.any{i3:List (κ×V)}{vs:List (κ×La)}(r:KV i3 vs)(k:κ):(i3.any fun kv=>decide (kv.1=k))=vs.any fun kv=>decide (kv.1=k):=by
 unfold KV at r
 induction r with
 |nil=>rfl
 |cons h t ih=>rw[RD,RD,ih,h.1]
theorem KV.repl{i3:List (κ×V)}{vs:List (κ×La)}(r:KV i3 vs)(k:κ)(ry:RelV y u) :
  KV (i3.map fun kv=>if kv.1=k then (kv.1,y) else kv) (vs.map fun kv=>if kv.1=k then (kv.1,u) else kv):=by
 unfold KV at r ⊢
 induction r with
 |nil=>exact .nil
 |@cons p q ps qs h t ih =>
  rw[LP,LP];refine .cons ?_ ih;obtain⟨h1,h2⟩:=h;by_cases e:p.1=k
  ·rw[if_pos e,if_pos (h1.symm.trans e)];exact⟨h1,ry⟩
  ·rw[if_neg e,if_neg (fun z=>e (h1.trans z))];exact⟨h1,h2⟩
theorem KV.put{i3:List (κ×V)}{vs:List (κ×La)}(r:KV i3 vs)(k:κ)(ry:RelV y u):KV (eJ i3 k y) (stored vs k u):=by
 unfold eJ stored;rw[r.any k];by_cases e:(vs.any fun kv=>decide (kv.1=k))=true
 ·rw[if_pos e,if_pos e];exact r.repl k ry
 ·rw[if_neg e,if_neg e];exact Paired.snoc r ⟨rfl,ry⟩
theorem KV.length{i3:List (κ×V)}{vs:List (κ×La)}(r:KV i3 vs):i3.length=vs.length:=N8 r
end
theorem CT(r:RelV (kV k) u):(cS P w).is k u=true:=by
 cases k with
 |inl i=>obtain⟨t,e⟩:=(show ∃t,u=RL i t from r);subst e;exact uO P w i t
 |inr x=>obtain⟨t,e⟩:=(show ∃t,u=Q2 x t from r);subst e;exact dj P w x t
theorem si{P:LB}{w:LQ}:∀{ks:List Key} {us:List La},Vals (ks.map kV) us->ItemsAre (cS P w) ks us
 |[],_,r=>by rw[Os] at r;cases r;exact .nil
 |k :: ks,_,r=>by
  rw[LP] at r;cases r with
  |cons h t=>exact .cons (CT h) (si t)
abbrev KT(H:Hp):List (List Key×V)->List (List Key×Addr×La)->Prop:=Paired fun p q=>p.1=q.1/\H q.2.1=some (.tup (p.1.map kV))/\RelV p.2 q.2.2
theorem KT.val(r:KT H i3 xs)(k:List Key):RelO (cG i3 k) ((atKey xs k).map (·.2)):=by
 induction r with
 |nil=>exact Oc
 |@cons p q ps qs h t ih =>
  obtain⟨h1,_,h2⟩:=h;by_cases e:p.1=k
  ·have e':q.1=k:=h1.symm.trans e;have b:atKey (q :: qs) k=some q.2:=by simp[atKey,OY,e']
   rw[dB e,b];exact h2
  ·have e' : ¬ q.1=k:=fun z=>e (h1.trans z)
   have b:atKey (q :: qs) k=atKey qs k:=by simp[atKey,OY,e']
   rw[dF e,b];exact ih
theorem KT.repl(r:KT H i3 xs)(k:List Key)(ry:RelV y u) :
  KT H (i3.map fun kv=>if kv.1=k then (kv.1,y) else kv) (xs.map (putAt k u)):=by
 induction r with
 |nil=>exact .nil
 |@cons p q ps qs h t ih =>
  rw[LP,LP];refine .cons ?_ ih;obtain⟨h1,h2,h3⟩:=h;unfold putAt;by_cases e:p.1=k
  ·rw[if_pos e,if_pos (h1.symm.trans e)];exact⟨h1,h2,ry⟩
  ·rw[if_neg e,if_neg (fun z=>e (h1.trans z))];exact⟨h1,h2,h3⟩
theorem KT.put(r:KT H i3 xs)(k:List Key)(hb:H b=some (.tup (k.map kV)))(ry:RelV y u) :
  KT H (eJ i3 k y) (storedH xs k b u):=by
 have e:(i3.any fun kv=>decide (kv.1=k))=(atKey xs k).isSome:=by
  rw[j8,(r.val k).Ak,Option.isSome_map]
 unfold eJ storedH;rw[e];by_cases q:(atKey xs k).isSome=true
 ·rw[if_pos q,if_pos q];exact r.repl k ry
 ·rw[if_neg q,if_neg q];exact Paired.snoc r ⟨rfl,hb,ry⟩
theorem KT.keeps{H':Hp}(r:KT H i3 xs)(ht:∀b ys,H b=some (.tup ys)->H' b=some (.tup ys)):KT H' i3 xs :=
 Paired.mapP r fun _ _ z=>⟨z.1,ht _ _ z.2.1,z.2.2⟩
section
variable{P:LB}{w:LQ}{H:Hp}{h:Heap}{a:Addr}
theorem Ho(ok:HOk P w H h)(e:Rd H a u):cP P w H h a u:=e.ok ok
theorem GB(ok:HOk P w H h)(e:Rd H a (.dK i3)):i3.length<=sizeLine/\(a == sysModules)=false/\∃vs,KV i3 vs/\h.DictOf (cS P w) a vs :=
 show cP P w H h a (.dK i3) from Ho ok e
theorem KG(ok:HOk P w H h)(e:H a=some (.dK i3)):i3.length<=sizeLine/\(a == sysModules)=false/\∃vs,KV i3 vs/\h.DictOf (cS P w) a vs:=GB ok (.inl e)
theorem zZ{ks:List Key}(ok:HOk P w H h)(e:H a=some (.tup (ks.map kV))):(tupleKind (cS P w)).is h ks a:=by
 obtain⟨_,gV,r,o,h1,⟨h2,n,h3⟩,_⟩:=(show cP P w H h a (.tup (ks.map kV)) from ok a _ e)
 exact⟨o,gV.toArray,n,h1,h2,h3,by simpa using si r⟩
theorem Gz(ok:HOk P w H h)(e:Rd H a (.dT i3)):i3.length<=sizeLine/\(a == sysModules)=false /\
  ∃xs,KT H i3 xs/\h.DictOfH (tupleKind (cS P w)) a xs:=by
 obtain⟨z,y,xs,r,o,es,ep,h1,h2,h3,h4,h5⟩:=(show cP P w H h a (.dT i3) from Ho ok e)
 refine⟨z,y,xs,r,o,es,ep,h1,h2,h3,h4,fun x hx=>?_,h5⟩
 have all:∀{l:List (List Key×V)} {m:List (List Key×Addr×La)},KT H l m->∀x∈m,(tupleKind (cS P w)).is h x.1 x.2.1:=by
  intro l m q
  induction q with
  |nil=>intro x hx;exact nomatch hx
  |@cons p q ps qs hq t ih =>
   intro x hx;rcases Lr.mp hx with e|hx
   ·subst e;exact zZ ok (by rw[<- hq.1];exact hq.2.1)
   ·exact ih x hx
 exact all r x hx
theorem IS(ok:HOk P w H h)(e:H a=some (.dT i3)):i3.length<=sizeLine/\(a == sysModules)=false /\
  ∃xs,KT H i3 xs/\h.DictOfH (tupleKind (cS P w)) a xs:=Gz ok (.inl e)
end
def DGet(H:Hp)(a:Addr)(y:V)(r:Option V):Prop :=
 (∃i3 k,Rd H a (.dK i3)/\y=kV k/\r=cG i3 k)\/∃i3 k b,Rd H a (.dT i3)/\y=.ref b/\H b=some (.tup (k.map kV))/\r=cG i3 k
def DPut(H:Hp)(a:Addr)(y v:V)(H':Hp):Prop :=
 (∃i3 k,H a=some (.dK i3)/\y=kV k/\i3.length<sizeLine/\H'=upd H a (.dK (eJ i3 k v))) \/
 ∃i3 k b,H a=some (.dT i3)/\y=.ref b/\H b=some (.tup (k.map kV))/\i3.length<sizeLine/\H'=upd H a (.dT (eJ i3 k v))
theorem DGet.k{H:Hp}{k:Key}(e:H a=some (.dK i3)):DGet H a (kV k) (cG i3 k):=.inl ⟨i3,k,.inl e,rfl,rfl⟩
theorem DPut.k{H:Hp}{k:Key}(e:H a=some (.dK i3))(hl:i3.length<sizeLine):DPut H a (kV k) v (upd H a (.dK (eJ i3 k v))):=.inl ⟨i3,k,e,rfl,hl,rfl⟩
theorem DPut.t{H:Hp}{k:List Key}(e:H a=some (.dT i3))(eb:H b=some (.tup (k.map kV)))(hl:i3.length<sizeLine) :
  DPut H a (.ref b) v (upd H a (.dT (eJ i3 k v))):=.inr ⟨i3,k,b,e,rfl,eb,hl,rfl⟩
section
variable{X:Cx}{pins:List (Addr×Obj)}{σ:St}{H:Hp}{s:Le}{a:Addr}{y v:V}{u r:La}{o:Option V}{A:Mf}{E:La->Le->Prop}
theorem Inv.big(I:Inv X pins σ H s):sysModules<s.heap.objs.size:=by
 have h:mainGlobals<s.heap.objs.size:=(I.mod.glob.keeps I.bk).lt;exact L8 (by decide) h
theorem AO{t':Nat}(I:Inv X pins σ H s)(mu:Jm (H a))(hs:Pr a s.heap h')(he:∃q,h'.get? a=some q)(new:cP X.prog X.w (upd H a ob) h' a ob) :
  Inv X pins σ (upd H a ob) {s with heap:=h',toks:=t'} :=
 I.write (x:=a) (e:=a) mu (.inl rfl) (fun b q hb z=>(hs.2 b hb).trans z) he new
theorem IT{h':Heap}{i3:List (Key×V)}(z:i3.length<=sizeLine)(hd:(a == sysModules)=false)(rel:KV i3 vs)(dd:h'.DictOf (cS P w) a vs) :
  cP P w H' h' a (.dK i3):=⟨z,hd,vs,rel,dd⟩
theorem AQ{Q:Unit->Le->Prop}(hu:A.units+1<cLine)(I:Inv X pins σ H s)(g:DPut H a y v H')(ry:RelV y u)(rv:RelV v r)(h:∀s',Inv X pins σ H' s'->Q () s') :
  wpAny (model X.prog X.w) A (setItem (.ref a) u r) Q E s:=by
 rcases g with⟨i3,k,e,ey,l,eH⟩|⟨i3,k,b,e,ey,eb,l,eH⟩
 ·subst ey eH;obtain⟨z,hd,vs,rel,dd⟩:=KG I.hok e;have hz:vs.length<=sizeLine:=by rw[<- rel.length];exact z
  have hl:(eJ i3 k v).length<=sizeLine:=by have:=iq i3 k v;walk_at "om"
  refine wpAny_setItem_pairs (hsz:=hz) (CT ry) dd fun h' Yr hs=>h _ ?_
  have he:∃q,h'.get? a=some q:=let ⟨q,_,_,hq,_⟩:=Yr;⟨q,hq⟩
  exact AO I (by rw[e];exact Oc) hs he (IT hl hd (rel.put k rv) Yr)
 ·subst ey eH;cases (show u=LZ b from ry);obtain⟨z,hd,xs,rel,dd⟩:=IS I.hok e;have hz:xs.length<=sizeLine:=by rw[<- N8 rel];exact z
  have hl:(eJ i3 k v).length<=sizeLine:=by have:=iq i3 k v;walk_at "om"
  refine wpAny_setItem_heap (hsz:=hz) (T7 hu) (zZ I.hok eb) dd fun h' Yr hs=>h _ ?_
  obtain⟨q,es,ep,hq,h2,h3,h4,_,h5⟩:=Yr;refine AO I (by rw[e];exact Oc) hs ⟨q,hq⟩ ⟨hl,hd,_,(rel.put k eb rv).keeps fun c ys ec=>?_,q,es,ep,hq,h2,h3,h4,h5⟩;rw[bf (CG ec e (fun z=>nomatch z))];exact ec
end
def yM(td ty tv:TE):TS:=fun D σ H=>tv σ H fun v H1=>td σ H1 fun x H2=>ty σ H2 fun y H3=>∃a H4,x=.ref a/\DPut H3 a y v H4/\D.nx σ H4
section
variable{X:Cx}{o i e value:Expr}{pos pos' tpos:Pos}{td ty tv:TE}
theorem ux(hu:X.A.units+1<cLine)(ho:PE X o td)(hi:PE X i ty)(hv:PE X value tv)(hs:swapsWith value (some (.Subscript o i pos')) pos.line X.env=pure false) :
  PS X (.Assign [.Subscript o i pos'] value pos) (yM td ty tv):=by
 intro pins s σ H D I h;refine wpAny_Assign_Subscript (bQ (hv pins s σ H _ I h) fun r s1 ⟨v,H1,I1,rv,q1⟩=>bQ (ho pins s1 σ H1 _ I1 q1) fun u s2 ⟨x,H2,I2,rx,q2⟩=>bQ (hi pins s2 σ H2 _ I2 q2) fun iv s3 ⟨y,H3,I3,ry,a,H4,ex,g,q3⟩=>?_) hs;subst ex;obtain rfl:u=LZ a:=rx;exact AQ hu I3 g ry rv fun s4 I4=>⟨σ,H4,I4,q3⟩
end
theorem Di(h:Heap) (hb:sysModules<h.objs.size):cP P w H (h.push {cls:=.type "dict",data:=.dict #[]}) h.objs.size (.dK []) :=
 ⟨Ml _,beq_eq_false_iff_ne.mpr (Nd (LA hb)),[],.nil,Heap.DictOf.new h⟩
theorem Dg(h:Heap) (hb:sysModules<h.objs.size):cP P w H (h.push {cls:=.type "dict",data:=.dict #[]}) h.objs.size (.dT []) :=
 ⟨Ml _,beq_eq_false_iff_ne.mpr (Nd (LA hb)),[],.nil,_,#[],0,LJ _ rfl,⟨rfl,rfl,rfl⟩,rfl,rfl,MV⟩
def DM:TE:=fun _ H Q=>∀p,H p=none->Q (.ref p) (upd H p (.dK []))
def DL:TE:=fun _ H Q=>∀p,H p=none->Q (.ref p) (upd H p (.dT []))
section
variable{X:Cx}{pos:Pos}
theorem Cq:PE X (.Dict [] [] pos) DM:=fun pins s σ H Q I h =>
 wpAny_Dict_empty ⟨.ref s.heap.objs.size,_,I.laid (a:=s.heap.objs.size) (o:=.dK []) (t':=s.toks) (fun _ _ q=>Lb _ q) (Lf _) (Di s.heap I.big),rfl,h _ (I.hok.fresh (Lf _))⟩
theorem Cp:PE X (.Dict [] [] pos) DL:=fun pins s σ H Q I h =>
 wpAny_Dict_empty ⟨.ref s.heap.objs.size,_,I.laid (a:=s.heap.objs.size) (o:=.dT []) (t':=s.toks) (fun _ _ q=>Lb _ q) (Lf _) (Dg s.heap I.big),rfl,h _ (I.hok.fresh (Lf _))⟩
end
structure M2 (X:Cx) (o:Expr) (m:Str) (apos:Pos) (e f:Expr) (VP:Pos):Prop where
 base:attributeBase o m X.env (eval o X.env)=eval o X.env
 few:((backTo VP (starEach [e,f] X.env)).all (fun x=>!x.1) && (backToKw VP (keywordEach [] X.env)).all (fun x=>x.1.isSome)
  && decide (([e,f]:List Expr).length+([]:List Vd).length+(if ([]:List Vd).isEmpty then 0 else 1)<30))=true
 line:(apos.endLine == VP.line)=true
 trees:backTo VP (starEach [e,f] X.env)=[(false,eval e X.env),(false,eval f X.env)]
def K0(H:Hp)(a:Addr):Prop:=(∃i3,Rd H a (.dK i3))\/∃i3,Rd H a (.dT i3)
theorem IE{H:Hp}(I:Inv X pins σ H s)(d:K0 H a) :
  s.TypeIs (.ref a) "dict"/\(∀b,LZ a=.ref b->∃ob,s.heap.get? b=some ob/\ob.dict=none)/\(a == sysModules)=false:=by
 rcases d with⟨i3,e⟩|⟨i3,e⟩
 ·obtain⟨_,hd,vs,_,dd⟩:=GB I.hok e;refine⟨dd.typeIs,fun b q=>?_,hd⟩;cases q;obtain⟨ob,_,_,h1,h2,_⟩:=dd;exact⟨ob,h1,h2.2.1⟩
 ·obtain⟨_,hd,xs,_,dd⟩:=Gz I.hok e;refine⟨dd.typeIs,fun b q=>?_,hd⟩;cases q;obtain⟨ob,_,_,h1,h2,_⟩:=dd;exact⟨ob,h1,h2.2.1⟩
section
variable{X:Cx}{pins:List (Addr×Obj)}{σ:St}{H:Hp}{s:Le}{a:Addr}{y d:V}{u r:La}{o:Option V}{A:Mf}{E:La->Le->Prop}
theorem IU{Q:La->Le->Prop}(hu:A.units+1<cLine)(I:Inv X pins σ H s)(g:DGet H a y o)(ry:RelV y u)(rd:RelV d r)(h:∀w' s',Inv X pins σ H s'->RelV (o.getD d) w'->Q w' s') :
  wpAny (model X.prog X.w) A (call (.builtin "dict.get") [.ref a,u,r]) Q E s:=by
 rcases g with⟨i3,k,e,ey,l⟩|⟨i3,k,b,e,ey,eb,l⟩
 ·subst ey;obtain⟨z,hd,vs,rel,dd⟩:=GB I.hok e;refine Up Oh dd.typeIs Qh (P9 _ _ _) (R_ (cS X.prog X.w) a (CT ry) hd r) ⟨_,dd.mapOf,h _ _ (I.tok _) ?_⟩;rw[l];exact(rel.val k).getD rd
 ·subst ey;cases (show u=LZ b from ry);obtain⟨z,hd,xs,rel,dd⟩:=Gz I.hok e;refine Up Oh dd.typeIs Qh (P9 _ _ _) (meetsH_dict_get_default (tupleKind (cS X.prog X.w)) a b hd r) ⟨T7 hu,k,xs,zZ I.hok eb,dd,h _ _ (I.tok _) ?_⟩;rw[l];exact(rel.val k).getD rd
end
def DN(td ty tx:TE):TE:=fun σ H Q=>td σ H fun x H1=>∃a,x=.ref a/\K0 H1 a/\ty σ H1 fun y H2=>tx σ H2 fun z H3=>∃o,DGet H3 a y o/\Q (o.getD z) H3
section
variable{X:Cx}{o e f:Expr}{apos VP:Pos}{td ty tx:TE}
theorem Cr(hu:X.A.units+1<cLine) (ho:PE X o td) (he:PE X e ty) (hf:PE X f tx) (m:M2 X o "get" apos e f VP):PE X (.Call (.Attribute o "get" apos) [e,f] [] VP) (DN td ty tx):=by
 intro pins s σ H Q I h;refine wpAny_Call_method m.base m.few m.line RQ Oh SA (bQ (ho pins s σ H _ I h) fun u s1 ⟨x,H1,I1,rx,a,ex,d,q1⟩=>?_);subst ex;obtain rfl:u=LZ a:=rx;obtain⟨t1,t2,_⟩:=IE I1 d;refine⟨t1,t2,?_⟩;rw[m.trees]
 refine Qf rfl (Pi (M4 (bQ (he pins s1 σ H1 _ I1 q1) fun iv s2 ⟨y,H2,I2,ry,q2⟩ =>
  M4 (bQ (hf pins s2 σ H2 _ I2 q2) fun fv s3 ⟨z,H3,I3,rz,ov,g,q3⟩=>Op ?_))))
 exact IU hu I3 g ry rz fun w' s4 I4 ZM=>⟨_,H3,I4,ZM,q3⟩
end
open PySem PySem.W
def KU(K:Frag):List Str->Prop
 |[]=>True
 |n :: r=>nsIn K mainGlobals n=some none/\KU K r
def GX(K:Frag):List (Str×Addr×O4)->Prop
 |[]=>True
 |(n,q,d) :: r=>(nsIn K mainGlobals n=some (some (.ref q))/\typeIn K (.ref q)=some (.type "type")/\clsIn K q=some d)/\GX K r
def GU (K:Frag) (q:Addr):Prop:=findIn K (.ref q) "__getattribute__"=some (some (.builtin "BaseException.__getattribute__"))/\findIn K (.ref q) "__getattr__"=some none/\findIn K (.ref q) "__class__"=some (some (.builtin "object.__class__"))
def Jj(K:Frag)(V:Addr):List (Addr×O4)->Prop
 |[]=>True
 |(q,d) :: r=>(excIn K q [.type "ValueError",.type "Exception",.type "BaseException",.type "object"] "ValueError.__new__"=true/\d.mro=[.ref q,.ref V,.type "ValueError",.type "Exception",.type "BaseException",.type "object"]/\GU K q)/\Jj K V r
end L2
set_option Elab.async false
set_option linter.all false
set_option maxRecDepth 100000
set_option maxHeartbeats 4000000
namespace K23H
open PySem PySem.Spec PyProof.Rows L2
def top(i:Nat):Stmt:=PW23.main.body.getD i (.Pass ⟨0,0,0,0⟩)
def ini(i:Nat):Stmt:=match top i with
 |.ClassDef _ _ _ b _ _ _ _ _ _ _=>b.getD 0 (.Pass ⟨0,0,0,0⟩)
 |_=>.Pass ⟨0,0,0,0⟩
def spLaw(K:Fg):Sp:=fun vs H Q _=>∃(a:Addr) (ns:List Int),vs=[.ref a]/\SqL K H a (ns.map V.int)/\ns.length<=63/\∀H',Q (.bl true) H'
def GV(K:Fg)(n:Str)(st:Stmt):Prop:=∃(f:Addr) (od an:Option Addr) (sl:Array (Option La)) (oc kV dc pm cd ct:La),Ny K mainGlobals n=some (some (.ref f))/\K.lookup f=some ⟨oc,od,.func (Nl n n (eU st) (df st) (aB st) .none kV dc pm an cd ct),sl⟩/\OK K cd n=true/\NX K (.ref f)=true
theorem fnIn{K:Fg}{st:Stmt}{od:Option Addr}{sl:Array (Option La)}{oc kV:La}(a:Ny K mainGlobals n=some (some (.ref f)))(l:K.lookup f=some ⟨oc,od,.func (Nl n n (eU st) (df st) (aB st) .none kV dc pm an cd ct),sl⟩)(c:OK K cd n=true)(k:NX K (.ref f)=true):GV K n st:=⟨f,od,an,sl,oc,kV,dc,pm,cd,ct,a,l,c,k⟩
local macro_rules | `(tactic| fail "f")=>`(tactic| (refine' fnIn ?a ?l ?c ?k;(case a=>k_is);(case l=>k_is);(case c=>k_is);(case k=>k_is)))
def DC(K:Fg):List (Str×Nat)->Prop
 |[]=>True
 |(n,i) :: r=>GV K n (top i)/\DC K r
local macro_rules | `(tactic| walk_at "all")=>`(tactic| repeat' first|exact trivial|(refine And.intro ?_ ?_)|k_is|k_exc|fail "f"|exact rfl|decide)
theorem walk{l:U8}{XP:(Str->Option La)->Heap->Prop}{YP:LQ->Heap->Prop}{d:DefRec}{K:Params->Ub}(hn:l.most=some 63)(YT:d.params.defaults=[])
  (hY:∀(w:LQ) (h:Heap),YP w h->(K w.params).In h)
  (F:∀(w:LQ) (mg:Str->Option La) (fa:Addr) (h:Heap),(K w.params).In h->h.Ns mainGlobals mg->mg d.name=some (.ref fa) ->
   ∃fd:Oq,(∀(s:Le) (u:La),Uj s fd ⟨[u],[]⟩ [("_law_script",u)])/\∀base:Heap,(K w.params).In base->base.Ns mainGlobals mg->FnOk l.prog w (K w.params) mg base dh 7 fa fd ["_law_script"] (spLaw (K w.params))) :
  TK q loose XP YP l.row.toRowW d [] (fun f vs=>T1 f vs) :=
 L2.EC (n:=63) (k:=7) (x:="_law_script") (CX:=fun _=>dh) (sp:=fun w=>spLaw (K w.params)) hn (by decide) YT ⟨rfl,by decide,by decide⟩ hY F (fun _ _ a ns hl _ hS=>⟨a,ns,rfl,hS,hl,fun _=>rfl⟩) fun _ _ _ _ _ z=>z
open PySem.W in
set_option maxRecDepth 100000 in
set_option maxHeartbeats 0 in
theorem headed(hW:∀{w:LQ} {K:Fg} {h:Heap} {mg:Str->Option La} {fa:Addr} (X:K.In h) (G:h.Ns mainGlobals mg) (hfa:mg "law"=some (.ref fa))
  (P0:DC K [("whole",17),("greatest_divisor",18),("fraction",19),("before",20),("is_word",28),("stuffs_of",29),("is_heap",30),("turnings_of",31),("check_turnings",32),("heaps_of",33),("made",34),("stuff_text",37),("heap_text",38),("pace_text",39),("turning_text",40),("heap_guessed",41),("number_guessed",42),("pace_guessed",43),("turning_read",44),("read",45)]) (P20:DC K [("_law_cell_at",47),("_law_mixed",48),("_law_divisor",49),("_law_lowest",50),("_law_base",51),("_law_word",52),("_law_words",53),("_law_heap",54),("_law_pool",55),("_law_pace",56),("_law_turnings",57),("_law_vessel",58),("_law_whole",59),("_law_same",60),("_law_kinds",61),("_law_heap_text",62),("_law_turning_text",63),("_law_piece",64),("_law_heap_read",65),("_law_figures",66)]) (P40:DC K [("_law_pace_read",67),("_law_turning_read",68),("_law_bent",69),("_law_more_rows",70),("_law_good_rows",71),("_law_due",72),("_law_told",73),("law",74)]) (Z:KU K ["len","abs","range","isinstance","int","bool","tuple","list","str","zip","set","all","any","min","max","sum","sorted","enumerate","reversed","dict","ord","divmod"])
  {V q0 q1 q2 q3 q4 q5 q6 q7 q8 q9 Ym Yn ZE ZF:Addr} {qd0 qd1 qd2 qd3 qd4 qd5 qd6 qd7 qd8 qd9 ZG ZH ZI ZJ:O4} {qdV:O4} {fi6 Ni6:Addr} {Zu ZK:Str} {YF ZW ZT:List La} {YU YD:Bool} {ZP:List Str} {YG:Option Bool} {YJ ZA YE:Option Addr} {Zg Zh Zi Zj Zm:Option La} {Zy Zc YI ZD X0 YH:La} {ZO:Array (Option La)} {tk0 tk1 tk2 tk3 tk4 tn0 Bs tp0 tp1 tp2 tq0 tq1 tq2:Tok} {nq pD:Addr} {nqd:Option Addr} {nqn pDn:Nat} {nqs:Array (Option La)} {ph0 ph1 ph2:Int}
  (aV:Ny K mainGlobals "VesselError"=some (some (.ref V)))
  (xV:PP K V [.type "ValueError",.type "Exception",.type "BaseException",.type "object"] "ValueError.__new__"=true)
  (zVE:Ny K mainGlobals "ValueError"=some none)
  (gt:Ro K (.builtin "object.__class__") "__get__"=some (some (.builtin "getset_descriptor.__get__")))
  (tk:U7 K (.builtin "object.__class__")=some true)
  (sgV:Ro K (.ref V) "__getattribute__"=some (some (.builtin "type.__getattribute__")))
  (rdV:PySem.W.readsIn K V (.type "type")=true)
  (fcV:PySem.W.findCls K (.ref V) (.type "type") "__init__"=some (.val (.builtin "ValueError.__init__")))
  (dV:Vv K V=some qdV)
  (mV:qdV.mro=[.ref V]++[.type "ValueError",.type "Exception",.type "BaseException",.type "object"])
  (cs:GX K [("NoFraction",q0,qd0),("NoStuffs",q1,qd1),("NoHeap",q2,qd2),("NoPace",q3,qd3),("NoTurnings",q4,qd4),("NoTurning",q5,qd5),("NoText",q6,qd6),("NotNow",q7,qd7),("TooMany",q8,qd8),("NoDrain",q9,qd9),("NotEven",Ym,ZG),("NoStuff",Yn,ZH),("NoPieces",ZE,ZI),("NoDeed",ZF,ZJ)])
  (nd:[V,q0,q1,q2,q3,q4,q5,q6,q7,q8,q9,Ym,Yn,ZE,ZF].Nodup)
  (rs:Jj K V [(q1,qd1),(q2,qd2),(q3,qd3),(q4,qd4)])
  (L6:K.lookup q6=some (excClassObj Zu ZK q6 Ni6 YF ZW YU ZP ZT YD YG YJ Zg Zh Zi Zj Zm "ValueError.__new__"))
  (ni6:OJ K (.ref q6) "__init__"=some (some (.ref fi6)))
  (fn6:PySem.W.isFn K (.ref fi6)=true)
  (kq6:NX K (.ref q6)=true)
  (lf6:K.lookup fi6=some ⟨Zy,ZA,.func (Nl "__init__" "NoText.__init__" (eU (ini 8)) (df (ini 8)) (aB (ini 8)) .none Zc YI ZD YE X0 YH),ZO⟩)
  (cf6:OK K X0 "NoText.__init__"=true)
  (kf6:NX K (.ref fi6)=true)
  (sa6:OJ K (.ref q6) "__setattr__"=some (some (.builtin "object.__setattr__")))
  (nf6:OJ K (.ref q6) "at"=some none)
  (hd6:Ue K q6=true)
  (mr6:qd6.mro=[.ref q6,.ref V,.type "ValueError",.type "Exception",.type "BaseException",.type "object"])
  (fd6:GU K q6)
  (hcn0:Ny K mainGlobals "MOST_STUFFS"=some (some (.int 5 tk0)))
  (hcn1:Ny K mainGlobals "MOST_SIGNS"=some (some (.int 8 tk1)))
  (hcn2:Ny K mainGlobals "MOST_PIECES"=some (some (.int 3 tk2)))
  (hcn3:Ny K mainGlobals "MOST_TURNINGS"=some (some (.int 8 tk3)))
  (hcn4:Ny K mainGlobals "MOST_HEAPS"=some (some (.int 8 tk4)))
  (hcnN:Ny K mainGlobals "NOUGHT"=some (some (.ref nq)))
  (hcnL:K.lookup nq=some ⟨.type "tuple",nqd,.seq #[.int 0 tn0,.int 1 Bs] nqn,nqs⟩)
  (hpwN:Ny K mainGlobals "PIECES_WRITTEN"=some (some (.ref pD)))
  (hpwL:K.lookup pD=some ⟨.type "dict",none,.dict #[⟨ph0,.str "" tp0,.int 1 tq0⟩,⟨ph1,.str "2" tp1,.int 2 tq1⟩,⟨ph2,.str "3" tp2,.int 3 tq2⟩] pDn,#[]⟩)
  (hpw0:ph0=TN w "")
  (hpw1:ph1=TN w "2")
  (hpw2:ph2=TN w "3")
  (hpwS:(pD == PySem.sysModules)=false)
  ,∃fd:Oq,(∀(s:Le) (v:La),Uj s fd ⟨[v],[]⟩ [("_law_script",v)])/\∀base:Heap,K.In base->base.Ns mainGlobals mg->FnOk PySem.Challenge.rw_vesselhall_k23_texts_refused.prog w K mg base dh 7 fa fd ["_law_script"] (spLaw K)):PySem.Challenge.rw_vesselhall_k23_texts_refused.Holds:=by
 refine said ?_
 w_on
 refine TZ (q:=qv) (loose:=["PIECES_WRITTEN"]) (Xt:=fun s=>OO qv [] s && Oz [] s) (XP:=Vg qv []) (Yf:=UH (Qy pre.heap_1 asl asl_ok)) (Ya:=UI (Qy pre.heap_1 asl asl_ok)) (YP:=Uc (Qy pre.heap_1 asl asl_ok)) (N:=9876) hooks (U6 (Qy pre.heap_1 asl asl_ok)) (T0 (Qy pre.heap_1 asl asl_ok)) (fun s e=>Vr s (Pd.mp e).1) UJ (by rfl) (by rfl) (by rfl) (fun s e=>Tx (Pd.mp e).2) (by rfl) (by first|assumption|decide +kernel) (by decide +kernel) ⟨rfl,rfl,rfl,rfl,rfl,by decide +kernel⟩ ?_ ?_
 ·clear hW;w_witness2
 k_fill
 refine walk (l:=PySem.Challenge.rw_vesselhall_k23_texts_refused) rfl rfl (fun w h Y=>PySem.W.kIn_of Y) ?F
 case F =>
  intro w mg fa h KX G Y4;refine' hW KX G Y4 ?_ ?_ ?_ ?_ ?_ ?_ ?_ ?_ ?_ ?_ ?_ ?_ ?_ ?_ ?_ ?_ ?_ ?_ ?_ ?_ ?_ ?_ ?_ ?_ ?_ ?_ ?_ ?_ ?_ ?_ ?_ ?_ ?_ ?_ ?_ ?_ ?_ ?_ ?_ ?_ ?_ ?_
  all_goals try walk_at "all"
end K23H
set_option Elab.async false
set_option linter.all false
set_option maxRecDepth 100000
set_option maxHeartbeats 4000000
namespace L2
open PySem PySem.Spec PyProof.Rows
section
variable{X:Cx}{a b c:Expr}{ta tb tc:TE}{pos:Pos}
def Jt(_ j:Int):Prop:=j≠0/\j.natAbs<2 ^ 9000
theorem kj:gW X (binaryOp .FloorDiv) (rI Jt fun i j=>.int (i.fdiv j)):=FH fun i j _ _ _ _ _ hc q=>by
 have h0:j.natAbs≠0:=by have:=hc.1;walk_at "om"
 exact floordiv_int hc.1 q (.inl (PyProof.noPylong_of_log2 ((SR h0).mpr hc.2)))
def vz(i j:Int):Prop:=i.natAbs<2 ^ 20000/\j.natAbs<2 ^ 20000
theorem vz.ok(h:vz i j):IntMulOk i j:=by
 have h1:=RS h.1;have h2:=RS h.2;unfold IntMulOk
 have e:SB ((TC i:Int)+(TC j:Int))=false:=by
  unfold SB;refine decide_eq_false ?_
  have:(40000:Int)<=bitsLine:=by decide
  walk_at "om"
 intro q;rw[e] at q;simp at q
theorem zw:gW X (binaryOp .Mult) (rI vz fun i j=>.int (i*j)):=FH fun _ _ _ _ _ _ _ hc q=>mul_int q hc.ok
theorem bw:g8 X (.builtin "isinstance") (fun xs H Q=>∃x n t b,xs=[x,.ty n]/\TyOf X.K H x t/\LN X.K t (.type n)=some b/\Q (.bl b) H):=by
 intro pins s σ H xs us Q I r h;obtain⟨x,n,t,b,rfl,ty,e,q⟩:=h;obtain⟨u,u',rfl,rx,ry⟩:=vals2 r;obtain rfl:u'=OP n:=ry;exact Aj I rx ty e fun tk=>⟨.bl b,H,I.tok tk,rfl,q⟩
end
structure FnC (P:LB) (w:LQ) (K:Fg) (mg:Str->Option La) (base:Heap) (CX:oj) (k:Nat) (x:Str) (ps:List Str) (sp:Sp):Prop where
 ex:∃(f:Addr) (fd:Oq),FnOk P w K mg base CX k f fd ps sp/\mg x=some (.ref f)/\NX K (.ref f)=true/\Binds K fd ps []
structure bJ (K:Fg) (mg:Str->Option La) (x:Str) (st:Stmt) (ps:List Str):Prop where
 ex:∃(f:Addr) (fd:Oq),Fun K x x st f fd/\mg x=some (.ref f)/\Binds K fd ps []
section
variable{P:LB}{w:LQ}{K:Fg}{mg:Str->Option La}{base:Heap}{CX:oj}
theorem C7{st:Stmt}{ps:List Str}{oc:La}{od:Option Addr}{Xe:Array (Option La)}{kV:La}(X:K.In h)(G:h.Ns mainGlobals mg)
  (a:Ny K mainGlobals x=some (some (.ref f))) (l:K.lookup f=some ⟨oc,od,.func (Nl x x (eU st) (df st) (aB st) .none kV doc pm an pe ct),Xe⟩)
  (c:OK K pe x=true) (k:NX K (.ref f)=true)
  (hb:∀(kV doc pm:La) (an:Option Addr) (pe ct:La) (us:List La),us.length=ps.length->bindArgs (Nl x x (eU st) (df st) (aB st) .none kV doc pm an pe ct) ⟨us,[]⟩=pure (ps.zip us)) :
  bJ K mg x st ps:=by
 have F:=wx (K:=K) (x:=x) (qual:=x) (st:=st) l c k;exact⟨f,_,F,L9 X G a,F.binds hb⟩
theorem FnC.mono{k:Nat}(F:FnC P w K mg base CX j x ps sp)(h:j<=k):FnC P w K mg base CX k x ps sp :=
 let ⟨f,fd,G,r⟩:=F.ex
 ⟨f,fd,G.mono h,r⟩
theorem FnC.imp{sp':Sp}(F:FnC P w K mg base CX k x ps sp)(h:∀vs H Q E,sp' vs H Q E->sp vs H Q E):FnC P w K mg base CX k x ps sp' :=
 let ⟨f,fd,G,r⟩:=F.ex
 ⟨f,fd,G.imp h,r⟩
theorem bJ.ok{st:Stmt}{sp:Sp}(F:bJ K mg x st ps)(S:aU N ps (aB st))(len:∀vs H Q E,sp vs H Q E->vs.length=ps.length)
  (hbody:∀(f:Addr) (pe:La) (A:Mf) (outer:List Env) (s:Le) (H:Hp) (vs:List V) (Q:VK) (E:XK),Room k (A.deeper (envOfC x (aB st) s.heap.objs.size f pe))->sp vs H Q E ->
   ∃t,PSs (fH dh P w K mg base N x (aB st) f pe A outer s H E).nox (df st) t/\t {nx:=fun _ H'=>Q .non H',rt:=Q} (start N vs) H):FnC P w K mg base dh (k+1) x ps sp:=by
 obtain⟨f,fd,G,hm,hb⟩:=F.ex;exact⟨f,fd,G.ok S len (hbody f),hm,G.kp,hb⟩
end
section
variable{X:Cx}{CX:oj}{k:Nat}{ps:List Str}{sp:Sp}{E:XK}{x:Str}{p pos:Pos}{e:Expr}{es:List Expr}{t:TA}
theorem gR(F:FnC X.prog X.w X.K X.mg X.base CX k x ps sp)(hr:Room k X.A)(hg:Gl X x)(hx:mf CX X E)(ha:PA X (e :: es) t)
  (hdb:(x == ("__debug__":Str))=false:=by decide) (he:starEach (e :: es) X.env=(false,eval e X.env) :: starEach es X.env:=by rfl) (WF:(backTo pos (starEach es X.env)).any (·.1)=false:=by rfl) :
  PE X (.Call (.Name x p) (e :: es) [] pos) (bo sp [] E t):=by
 obtain⟨f,fd,G,hm,kp,hb⟩:=F.ex;exact FG G hr hg hm kp hb .nil hx ha hdb he WF
theorem aI(F:FnC X.prog X.w X.K X.mg X.base dh k x ps sp)(hr:Room k X.A)(hg:Gl X x)(ha:PA X (e :: es) t)
  (hdb:(x == ("__debug__":Str))=false:=by decide) (he:starEach (e :: es) X.env=(false,eval e X.env) :: starEach es X.env:=by rfl) (WF:(backTo pos (starEach es X.env)).any (·.1)=false:=by rfl) :
  PE X (.Call (.Name x p) (e :: es) [] pos) (bo sp [] E0 t):=gR F hr hg JR ha hdb he WF
end
theorem au{H:Hp}(h:H p=none)(o:HO):Same H (upd H p o):=fun b u q=>by rw[bf (bA q h)];exact q
theorem Same.seqT{K:Fg}(e:Same H H')(h:SqT K H a xs):SqT K H' a xs:=by
 rcases h with(h|⟨o,h⟩)|h
 ·exact .inl (.inl (e _ _ h))
 ·exact .inl (.inr ⟨o,e _ _ h⟩)
 ·exact .inr h
structure eG (mg:Str->Option La):Prop where
 len:mg "len"=none
 abs:mg "abs"=none
 range:mg "range"=none
 isinstance:mg "isinstance"=none
 int:mg "int"=none
 bool:mg "bool"=none
 tuple:mg "tuple"=none
 list:mg "list"=none
 str:mg "str"=none
 zip:mg "zip"=none
 set:mg "set"=none
 all:mg "all"=none
 any:mg "any"=none
 min:mg "min"=none
 max:mg "max"=none
 sum:mg "sum"=none
 sorted:mg "sorted"=none
 enumerate:mg "enumerate"=none
 reversed:mg "reversed"=none
 dict:mg "dict"=none
 ord:mg "ord"=none
 divmod:mg "divmod"=none
theorem bL:bootBuiltins "len"=some (.builtin "len"):=by decide +kernel
theorem Es:bootBuiltins "abs"=some (.builtin "abs"):=by decide +kernel
theorem aD:bootBuiltins "isinstance"=some (.builtin "isinstance"):=by decide +kernel
theorem eV:bootBuiltins "int"=some (.type "int"):=by decide +kernel
theorem gD:bootBuiltins "bool"=some (.type "bool"):=by decide +kernel
theorem bS:bootBuiltins "tuple"=some (.type "tuple"):=by decide +kernel
theorem iw:bootBuiltins "list"=some (.type "list"):=by decide +kernel
theorem qm:bootBuiltins "ValueError"=some (.type "ValueError"):=by decide +kernel
theorem md:bootBuiltins "str"=some (.type "str"):=by decide +kernel
theorem Kz{y z:Int}{A B:Prop}(h1:y≠z->A)(h2:y=z->B):if (!decide (V.int y=V.int z))=true then A else B:=by
 by_cases h:y=z
 ·subst h;rw[decide_eq_true rfl];exact va (h2 rfl)
 ·rw[decide_eq_false (fun q=>h (V.int.inj q))];exact u_ (h1 h)
theorem IC[Decidable c]{A B:Prop}(h1:c->A)(h2 : ¬ c->B):if decide c=true then A else B:=by
 by_cases h:c
 ·rw[decide_eq_true h];exact u_ (h1 h)
 ·rw[decide_eq_false h];exact va (h2 h)
abbrev bW:R2:=w_ fun i j=>.int (i+j)
abbrev xc:R2:=w_ fun i j=>.int (i-j)
abbrev Hw:R2:=rI vz fun i j=>.int (i*j)
abbrev ft:R2:=rI GY fun i j=>.int (i / j)
abbrev xb:R2:=rI Jt fun i j=>.int (i.fdiv j)
abbrev bB:R2:=rI (fun _ j=>0<j) fun i j=>.int (i % j)
abbrev JK:R2:=rI (fun _ j=>j≠0) fun i j=>.int (i.fmod j)
abbrev Hv:R2:=rI Js fun i j=>.int (i ^ j.toNat)
abbrev uq:R2:=w_ fun i j=>.bl (decide (i<j))
abbrev Cf:R2:=w_ fun i j=>.bl (decide (i<=j))
abbrev Bh:R2:=w_ fun i j=>.bl (decide (j<i))
abbrev jk:R2:=fun x y H Q=>y=.non/\Q (.bl (decide (x=.non))) H
abbrev cZ:R2:=fun x y H Q=>∃i j,x=.str i/\y=.str j/\i.length+j.length<=sizeLine/\Q (.str (i++j)) H
abbrev JM:List V->Hp->VK->Prop:=fun xs H Q=>∃i,xs=[.int i]/\Q (.int (if i<0 then -i else i)) H
abbrev cM(K:Fg):List V->Hp->VK->Prop:=fun xs H Q=>∃p ys,xs=[.ref p]/\(SqL K H p ys\/SqT K H p ys)/\Q (.int ys.length) H
abbrev Ce:List V->Hp->VK->Prop:=fun xs H Q=>∃z,xs=[.str z]/\z.length<=sizeLine/\Q (.int z.length) H
abbrev fL(K:Fg):List V->Hp->VK->Prop:=fun xs H Q=>∃x n t b,xs=[x,.ty n]/\TyOf K H x t/\LN K t (.type n)=some b/\Q (.bl b) H
abbrev ur:List V->Hp->VK->Prop:=fun xs H Q=>(∃i,xs=[.int i]/\Q (.int i) H)\/∃k,xs=[.bl k]/\Q (.int (if k then 1 else 0)) H
abbrev dH(K:Fg):List V->Hp->VK->Prop:=fun xs H Q=>∃p ys,xs=[.ref p]/\((SqL K H p ys/\∀l,H l=none->Q (.ref l) (upd H l (.tup ys)))\/(SqT K H p ys/\Q (.ref p) H))
abbrev yX(K:Fg):List V->Hp->VK->Prop:=fun xs H Q=>∃p ys,xs=[.ref p]/\(SqL K H p ys\/SqT K H p ys)/\∀l,H l=none->Q (.ref l) (upd H l (.lst ys))
theorem HQ{K:Fg}:LN K (.type "int") (.type "int")=some true:=by rfl
theorem HR{K:Fg}:LN K (.type "int") (.type "bool")=some false:=by
 show Lp K (.type "int") (.type "bool")=some false;unfold Lp
 kernel_rfl
def DF(φ:Obj->Prop)(e:Addr)(h:Heap):Prop:=∃o,h.get? e=some o/\φ o
def GR(φ:Obj->Prop):Prop:=∀o f,φ o->φ (MX f o)
section
variable{M:Model}{A:Mf}{E:La->Le->Prop}{s:Le}{φ:Obj->Prop}{base:Heap}{env:Env}{outer:List Env}{L e:Addr}{cls a0:La}{Q:Unit->Le->Prop}
theorem nM{oe:Obj}(Wo:A.frames=some (env :: outer))(hl:s.heap.FunFrames base (env :: outer))(hf:env.frame=some L)(he:s.heap.get? e=some oe)(hd:oe.data=.fields vs)(hsz:1<vs.size)
  (k:∀(h1:Heap) (ot:Obj) (ts:Array La),Vi ((env :: outer).filterMap (·.frame)) s.heap h1->h1.get? e=some oe->ot.data=.fields ts->ts[3]?=some (rawInt L)->Q () {s with heap:=(h1.push ot).update e (MX (·.setIfInBounds 1 (.ref h1.objs.size)))}) :
  wpAny M A (do setField (.ref e) 1 (<- TD head (<- frameOf env) .none (rawInt L) .none (<- entryPlaceOf L more))) Q E s:=by
 have ne:e∉(env :: outer).filterMap (·.frame):=fun hm=>by
  obtain⟨_,o,ho,z⟩:=hl.mem hm;cases he.symm.trans ho;exact z vs hd
 refine K8 (wpAny_frameOf_fun Wo hl hf fun h1 S=>K8 (wpAny_entryPlaceOf fun pl P=>?_));have e1:h1.get? e=some oe:=(S.2.1 e ne).trans he;unfold TD newFields;refine K8 (ME (OL (Lb _ e1) hd hsz (k h1 _ _ S e1 rfl ?_)) (P.sizeOk5 _ _ _ _ _));rcases P with rfl|⟨_,_,_,_,_,_,_,rfl⟩ <;> simp
theorem lY{oe:Obj}{h:Heap}{ot:Obj}(nf:GR φ)(p:φ oe)(hl:h.FunFrames base (env :: outer))(he:h.get? e=some oe)(Xx:base.StaysIn h)(XN:base.get? e=none)(hd:oe.data=.fields vs)(hsz:1<vs.size)(h0:vs[0]?=some a0)
  (S:Vi ((env :: outer).filterMap (·.frame)) h h1) (e1:h1.get? e=some oe) (dt:ot.data=.fields ts) (t3:ts[3]?=some (rawInt L)) :
  U3 base (env :: outer) e oe.cls a0 (rawInt L) h ((h1.push ot).update e (MX (·.setIfInBounds 1 (.ref h1.objs.size))))/\DF φ e ((h1.push ot).update e (MX (·.setIfInBounds 1 (.ref h1.objs.size)))):=by
 have Te:h1.objs.size≠e:=NQ (Ls e1);have d3:=NP hd (·.setIfInBounds 1 (LZ h1.objs.size));have e3:=MZ (MX (·.setIfInBounds 1 (LZ h1.objs.size))) (Lb ot e1) (Oi d3);have keep:∀b o,b≠e->h1.get? b=some o->((h1.push ot).update e (MX (·.setIfInBounds 1 (.ref h1.objs.size)))).get? b=some o:=fun b o n q=>(Mw _ _ (Nd n)).trans (Lb _ q)
 have nr:∀b o,h.get? b=some o->(∀us,o.data≠.fields us)->b≠e:=fun b o q z w=>by
  subst w;cases he.symm.trans q;exact z vs hd
 have kb1:base.StaysIn h1:=fun b o q=>(S.2.1 b fun hm=>by rw[(hl.mem hm).1] at q;cases q).trans (Xx b o q)
 refine⟨⟨fun b o q=>keep b o (fun z=>by rw[z,XN] at q;cases q) (kb1 b o q),hl.of_keeps fun b o q z=>?_,?_,fun b o q z=>?_⟩,⟨_,e3,nf _ _ p⟩⟩
 ·obtain⟨sl,w⟩:=S.2.2 b o q;exact⟨_,keep b _ (nr b o q z) w,rfl⟩
 ·refine⟨_,_,h1.objs.size,ot,ts,e3,⟨Rs _ _,?_⟩,d3,by simp[hsz],kb1.fresh,Te,(Mw _ _ (Nd Te)).trans (LJ h1 (Oi dt)),dt,t3⟩;rw[Array.getElem?_setIfInBounds_ne (by decide)];exact h0
 ·obtain⟨sl,w⟩:=S.2.2 b o q;exact⟨sl,keep b _ (nr b o q z) w⟩
theorem xk{oe:Obj}(nf:GR φ)(p:φ oe)(Wo:A.frames=some (env :: outer))(hl:s.heap.FunFrames base (env :: outer))(hf:env.frame=some L)(he:s.heap.get? e=some oe)(Xx:base.StaysIn s.heap)(XN:base.get? e=none)(hd:oe.data=.fields vs)(h1:vs[1]?=some .none)(h0:vs[0]?=some a0)
  (k:∀h',U3 base (env :: outer) e oe.cls a0 (rawInt L) s.heap h'->DF φ e h'->Q () {s with heap:=h'}):wpAny M A (noteFrame (.ref e) env) Q E s:=by
 have hsz:=(Mr.mp h1).1;unfold noteFrame;simp only[hf];refine K8 (ML he hd h1 ?_);rw[if_neg (by decide)];exact nM Wo hl hf he hd hsz fun g1 ot ts S e1 dt t3=>(lY nf p hl he Xx XN hd hsz h0 S e1 dt t3).elim (k _)
theorem rM(nf:GR φ)(p:DF φ e s.heap)(Wo:A.frames=some (env :: outer))(hl:s.heap.FunFrames base (env :: outer))(hf:env.frame=some L)(ht:s.heap.TracedW base e cls a0)(Xx:base.StaysIn s.heap)(XN:base.get? e=none)
  (k:∀h',U3 base (env :: outer) e cls a0 (rawInt L) s.heap h'->DF φ e h'->Q () {s with heap:=h'}):wpAny M A (noteFrame (.ref e) env) Q E s:=by
 obtain⟨oe,vs,T,oT,ts,he,⟨rfl,h0⟩,hd,h1,nT,Te,hT,dT,h3⟩:=ht;obtain⟨o',q',p⟩:=p;cases he.symm.trans q';have hsz:=(Mr.mp h1).1;unfold noteFrame;simp only[hf];refine K8 (ML he hd h1 ?_);rw[if_pos (by simp)];refine K8 (ML hT dT h3 ?_);rw[if_neg (by simp[rawInt])];refine K8 (OL hT dT (Mr.mp h3).1 ?_);have other:∀b,b≠T->(s.heap.update T (MX (·.setIfInBounds 3 MI))).get? b=s.heap.get? b:=fun b n=>Mw _ _ (Nd n)
 have nr:∀b o,s.heap.get? b=some o->(∀us,o.data≠.fields us)->b≠T:=fun b o q z w=>by
  subst w;cases hT.symm.trans q;exact z ts dT
 have WN:Heap.FunFrames (s.heap.update T (MX (·.setIfInBounds 3 MI))) base (env :: outer):=hl.of_keeps fun b o q z=>⟨o,(other b (nr b o q z)).trans q,rfl⟩
 have he2:=(other e (Nd Te)).trans he;have kb2:base.StaysIn (s.heap.update T (MX (·.setIfInBounds 3 MI))):=fun b o q=>(other b fun z=>by rw[z,nT] at q;cases q).trans (Xx b o q)
 refine nM (s:={s with heap:=s.heap.update T (MX (·.setIfInBounds 3 MI))}) Wo WN hf he2 hd hsz fun g1 ot us S e1 dt t3=>?_
 obtain⟨⟨x1,x2,x3,x4⟩,x5⟩:=lY nf p WN he2 kb2 XN hd hsz h0 S e1 dt t3;exact k _ ⟨x1,x2,x3,fun b o q z=>x4 b o ((other b (nr b o q z)).trans q) z⟩ x5
theorem fS(p:DF φ e s.heap)(Xx:base.StaysIn s.heap)(hl:s.heap.FunFrames base l)(ht:s.heap.TracedAtW base e cls a0 fl)
  (k:∀h',base.StaysIn h'->h'.FunFrames base l->h'.TracedW base e cls a0->s.heap.UpToSlots h'->DF φ e h'->Q () {s with heap:=h'}):wpAny M A (setFlight (.ref e) none) Q E s:=by
 obtain⟨oe,vs,T,oT,ts,he,hc,hd,h1,nT,Te,hT,dT,h3⟩:=ht;obtain⟨o',q',p⟩:=p;cases he.symm.trans q';have hsz:=(Mr.mp h3).1;have other:∀b,b≠T->(s.heap.update T (MX (·.setIfInBounds 3 ((none:Option Addr).elim MI fun f=>rawInt f)))).get? b=s.heap.get? b:=fun b n=>Mw _ _ (Nd n)
 have nr:∀b o,s.heap.get? b=some o->(∀us,o.data≠.fields us)->b≠T:=fun b o q z w=>by
  subst w;cases hT.symm.trans q;exact z ts dT
 unfold setFlight;refine K8 (ML he hd h1 ?_);rw[if_pos (by simp)];refine OL hT dT hsz (k _ (fun b o q=>(other b fun z=>by rw[z,nT] at q;cases q).trans (Xx b o q)) (hl.of_keeps fun b o q z=>⟨o,(other b (nr b o q z)).trans q,rfl⟩) ?_ (fun b o q z=>⟨o.slots,(other b (nr b o q z)).trans q⟩) ⟨_,(other e (Nd Te)).trans he,p⟩);exact⟨oe,vs,T,_,_,(other e (Nd Te)).trans he,hc,hd,h1,nT,Te,MZ _ hT (Oi (NP dT _)),NP dT _,by simp[hsz]⟩
def sO(φ:Obj->Prop)(B:Heap)(l:List Env)(e:Addr)(cls a0:La)(h:Heap):Prop:=Heap.FlyingW B l e cls a0 h/\DF φ e h
theorem jD{h:Heap}{oe:Obj}(nf:GR φ)(p:φ oe)(Wo:A.frames=some (env :: outer))(hl:s.heap.FunFrames base (env :: outer))(hf:env.frame=some L)(he:s.heap.get? e=some oe)(Xx:base.StaysIn s.heap)(XN:base.get? e=none)(hd:oe.data=.fields vs)(h1:vs[1]?=some .none)(h0:vs[0]?=some a0)
  (k:∀h',sO φ base outer e oe.cls a0 h'->s.heap.UpToSlots h'->Q () {s with heap:=h'}):wpAny M A (leaving env (.ref e)) Q E s:=by
 unfold leaving;refine K8 (xk nf p Wo hl hf he Xx XN hd h1 h0 fun g1 ⟨x1,x2,x3,x4⟩ x5=>?_);refine fS (s:={s with heap:=g1}) x5 x1 x2 x3 fun g2 y1 y2 y3 y4 y5=>k g2 ⟨⟨y1,XN,y2.2.2,y3⟩,y5⟩ (SS (h₂:=g1) x4 y4)
theorem xp(nf:GR φ)(Wo:A.frames=some (env :: outer))(hf:env.frame=some L)(fl:sO φ base (env :: outer) e cls a0 s.heap)(k:∀h',sO φ base outer e cls a0 h'->s.heap.UpToSlots h'->Q () {s with heap:=h'}):wpAny M A (leaving env (.ref e)) Q E s:=by
 obtain⟨⟨f1,f2,f3,f4⟩,p⟩:=fl;unfold leaving;refine K8 (rM nf p Wo f3 hf f4 f1 f2 fun g1 ⟨x1,x2,x3,x4⟩ x5=>?_);refine fS (s:={s with heap:=g1}) x5 x1 x2 x3 fun g2 y1 y2 y3 y4 y5=>k g2 ⟨⟨y1,f2,y2.2.2,y3⟩,y5⟩ (SS (h₂:=g1) x4 y4)
theorem zQ(nf:GR φ)(Wo:A.frames=some (env :: outer))(hf:env.frame=some L)(fl:sO φ base (env :: outer) e cls a0 s.heap)(k:∀h',Heap.HeldW base (env :: outer) e cls a0 L h'->DF φ e h'->s.heap.UpToSlots h'->Q () {s with heap:=h'}):wpAny M A (noteFrame (.ref e) env) Q E s:=by
 obtain⟨⟨f1,f2,f3,f4⟩,p⟩:=fl;exact rM nf p Wo f3 hf f4 f1 f2 fun g1 ⟨x1,x2,x3,x4⟩ x5=>k g1 ⟨x1,f2,x2,x3⟩ x5 x4
theorem HP(hh:Heap.HeldW base l e cls a0 L s.heap)(p:DF φ e s.heap)(k:∀h',sO φ base l e cls a0 h'->s.heap.UpToSlots h'->Q () {s with heap:=h'}):wpAny M A (setFlight (.ref e) none) Q E s:=by
 obtain⟨f1,f2,f3,f4⟩:=hh;exact fS p f1 f3 f4 fun g2 y1 y2 y3 y4 y5=>k g2 ⟨⟨y1,f2,y2,y3⟩,y5⟩ y4
theorem rR(fl:sO φ base l e cls a0 s.heap)(k:∀h',sO φ base l e cls a0 h'->s.heap.UpToSlots h'->Q () {s with heap:=h'}):wpAny M A (setFlight (.ref e) none) Q E s:=by
 obtain⟨⟨f1,f2,f3,f4⟩,p⟩:=fl;exact fS p f1 f3 f4.at fun g2 y1 y2 y3 y4 y5=>k g2 ⟨⟨y1,f2,y2,y3⟩,y5⟩ y4
end
structure Jo (P:LB) (w:LQ) (outer:List Env) (H H':Hp) (h B h':Heap):Prop where
 hok:HOk P w H' B
 keep:∀b o,h.get? b=some o->H b=none->b∉frs outer->B.get? b=some o
 slot:∀b o,h.get? b=some o->H b=none->b∈frs outer->∃sl,h'.get? b=some {o with slots:=sl}
 free:∀b o,h.get? b=some o->H b=none->H' b=none
 there:∀b o,h.get? b=some o->b∉frs outer->∃o',B.get? b=some o'
 tups:∀b xs,H b=some (.tup xs)->H' b=some (.tup xs)
 frzs:∀b o u,H b=some (.frz o u)->H' b=some (.frz o u)
 tbls:∀b ps,H b=some (.tbl ps)->∃more,H' b=some (.tbl (ps++more))
def ky(P:LB)(w:LQ):oj:=fun outer H s E e s' =>
 ∃(ea C:Addr) (a0:La) (B:Heap) (H':Hp) (d:Option Addr),e=.ref ea/\sO (fun o=>o.dict=d) B outer ea (.ref C) a0 s'.heap/\Jo P w outer H H' s.heap B s'.heap/\s'.os=s.os/\Qx s'.gens/\E (.ref C) d H'
theorem km{d:Option Addr}:GR fun o=>o.dict=d:=fun o f h=>by
 obtain⟨c,dd,da,sl⟩:=o;cases da <;> exact h
structure jx (X:Cx):Prop where
 stk:X.stack=X.env :: X.outer
 frm:X.env.frame=some X.env.locals
 exs:X.ex=[]
section
variable{X:Cx}{pins:List (Addr×Obj)}{σ:St}{H:Hp}{s:Le}
theorem jx.frs(o:jx X):frs X.stack=X.env.locals :: X.fs:=by
 rw[o.stk];unfold L2.frs;rw[MC,o.frm];rfl
theorem Inv.old_ne(I:Inv X pins σ H s){b:Addr}{o:Obj}(e:X.s₀.heap.get? b=some o):b≠X.env.locals:=LA (LR (Ls e) I.ok.above)
theorem Inv.jm(I:Inv X pins σ H s)(o:jx X){b:Addr}{ob:Obj}(e:X.s₀.heap.get? b=some ob)(h:b∉X.fs):b∉L2.frs X.stack:=by
 rw[o.frs];intro z;rcases Lr.mp z with z|z
 ·exact I.old_ne e z
 ·exact h z
theorem Inv.lV(I:Inv X pins σ H s){b:Addr}{o:Obj}(hb:b∈X.fs)(e:s.heap.get? b=some o):∀vs,o.data≠.fields vs:=by
 obtain⟨_,o',e',d⟩:=I.funs.mem hb;rw[e] at e';cases e';exact d
theorem xq{E:XK}(I:Inv X pins σ H s)(o:jx X)(hx:Heap.MadeExcOf s.heap h2 e (.ref C) args)(hE:E (.ref C) none H) :
  wpAny M X.A (leaving X.env (.ref e)) (fun _ WY=>ky X.prog X.w X.outer X.H₀ X.s₀ E (.ref e) WY) E' {s with heap:=h2}:=by
 have FF:s.heap.FunFrames X.base (X.env :: X.outer):=o.stk ▸ I.stack;have Wo:X.A.frames=some (X.env :: X.outer):=o.stk ▸ I.ok.frames;have YY:∀env∈(X.env :: X.outer),∀b,env.frame=some b->b∈(X.env :: X.outer).filterMap (·.frame):=fun env he b hb=>MS.mpr ⟨env,he,hb⟩
 have eqf:(X.env :: X.outer).filterMap (·.frame)=L2.frs X.stack:=by rw[o.stk];rfl
 have nox:∀b:Addr,b∉X.ex:=fun b z=>by rw[o.exs] at z;cases z
 have WK:∀{b:Addr} {ob:Obj},s.heap.get? b=some ob->b∉L2.frs X.stack->(OW s.heap ((X.env :: X.outer).filterMap (·.frame))).get? b=some ob:=fun {b ob} q n=>Tz _ q (by rw[eqf];exact n)
 obtain⟨t,he,_,_⟩:=hx.there;have WU:Heap.StaysIn (OW s.heap ((X.env :: X.outer).filterMap (·.frame))) h2:=fun b ob q=>hx.keeps b ob (Q4 _ q)
 have ne2:(OW s.heap ((X.env :: X.outer).filterMap (·.frame))).get? e=none:=by
  cases z:(OW s.heap ((X.env :: X.outer).filterMap (·.frame))).get? e with
  |none=>rfl
  |some ob=>have:=Q4 _ z;rw[hx.new] at this;cases this
 refine jD (s:={s with heap:=h2}) (φ:=fun o=>o.dict=none) (base:=OW s.heap ((X.env :: X.outer).filterMap (·.frame))) (h:=s.heap) km rfl Wo ((PySem.W.funFrames_hide FF YY).of_keeps fun b ob q _=>⟨ob,hx.keeps b ob q,rfl⟩) o.frm he WU ne2 rfl rfl rfl fun h' fl up=>?_
 refine⟨e,C,_,_,H,none,rfl,fl,⟨fun a ob q=>?_,fun b ob q n hb=>?_,fun b ob q n hb=>?_,fun b ob q n=>?_,fun b ob q hb=>?_,I.base.tups,I.base.frzs,I.base.tbls⟩,I.os,I.bare,hE⟩
 ·refine(I.hok a ob q).stay (fun b u hb g=>WK g fun z=>?_) (fun _ z=>z) fun _ _ z=>z
  have fz:=I.kH b z;rcases hb with hb|hb
  ·rw[hb,q] at fz;cases fz
  ·rw[hb] at fz;cases fz
 ·exact WK (I.base.keep b ob q n hb (nox b)) (I.jm o q hb)
 ·obtain⟨sl,e1⟩:=I.base.slot b ob q n hb (nox b);obtain⟨W4,e2⟩:=up b _ (hx.keeps b _ e1) (fun vs=>I.lV hb e1 vs);exact⟨W4,e2⟩
 ·exact I.base.free b ob q n (nox b)
 ·obtain⟨o',e1⟩:=I.base.there b ob q (nox b);exact⟨o',WK e1 (I.jm o q hb)⟩
theorem CK(I:Inv X pins σ H s)(o:jx X)(h:ky X.prog X.w X.stack H s E e s') :
  wpAny M X.A (leaving X.env e) (fun _ WY=>ky X.prog X.w X.outer X.H₀ X.s₀ E e WY) E' s':=by
 obtain⟨ea,C,a0,B,H',d,rfl,fl,g,os,bare,hE⟩:=h;have Wo:X.A.frames=some (X.env :: X.outer):=o.stk ▸ I.ok.frames;have nox:∀b:Addr,b∉X.ex:=fun b z=>by rw[o.exs] at z;cases z
 have inS:∀{b:Addr},b∈X.fs->b∈L2.frs X.stack:=fun hb=>by rw[o.frs];exact Lj _ hb
 rw[o.stk] at fl;refine xp km Wo o.frm fl fun h' fl' up=>?_
 refine⟨ea,C,a0,B,H',d,rfl,fl',⟨g.hok,fun b ob q n hb=>?_,fun b ob q n hb=>?_,fun b ob q n=>?_,fun b ob q hb=>?_,fun b xs q=>g.tups b xs (I.base.tups b xs q),fun b ob u q=>g.frzs b ob u (I.base.frzs b ob u q),fun b ps q=>?_⟩,os.trans I.os,bare,hE⟩
 ·exact g.keep b ob (I.base.keep b ob q n hb (nox b)) (I.base.free b ob q n (nox b)) (I.jm o q hb)
 ·obtain⟨sl,e1⟩:=I.base.slot b ob q n hb (nox b);obtain⟨W4,e2⟩:=g.slot b _ e1 (I.base.free b ob q n (nox b)) (inS hb);obtain⟨sl'',e3⟩:=up b _ e2 (fun vs=>I.lV hb e1 vs);exact⟨sl'',e3⟩
 ·obtain⟨o',e1⟩:=I.base.there b ob q (nox b);exact g.free b o' e1 (I.base.free b ob q n (nox b))
 ·obtain⟨o',e1⟩:=I.base.there b ob q (nox b);exact g.there b o' e1 (I.jm o q hb)
 ·obtain⟨m1,e1⟩:=I.base.tbls b ps q;obtain⟨m2,e2⟩:=g.tbls b _ e1;exact⟨m1++m2,by rw[e2,T2]⟩
end
theorem Cw{CX:oj}{K:Fg} :
  jx (fH CX P w K mg base N qual sc f cd A outer s H E):=⟨rfl,rfl,rfl⟩
def Lv(X:Cx)(E:XK):Prop:=jx X/\(∀e s',wpAny (model X.prog X.w) X.A (leaving X.env e) (fun _ WY=>ky X.prog X.w X.outer X.H₀ X.s₀ E e WY) (fun e' WY=>ky X.prog X.w X.outer X.H₀ X.s₀ E e' WY) s'->X.xe e s')
theorem JU{K:Fg} :
  Lv (fH (ky P w) P w K mg base N qual sc f cd A outer s H E) E:=⟨Cw,fun _ _ h=>h⟩
theorem IF{CX:oj}{K:Fg} :
  RN (model P w) (fH CX P w K mg base N qual sc f cd A outer s H E).A (fH CX P w K mg base N qual sc f cd A outer s H E).env (fH CX P w K mg base N qual sc f cd A outer s H E).xe:=RN.leaving
theorem Lv.pass(l:Lv X E):mf (ky X.prog X.w) X E:=fun _ _ _ _ _ _ I h=>l.2 _ _ (CK I l.1 h)
theorem bJ.okE{K:Fg}{st:Stmt}{sp:Sp}(F:bJ K mg x st ps)(S:aU N ps (aB st))(len:∀vs H Q E,sp vs H Q E->vs.length=ps.length)
  (hbody:∀(f:Addr) (pe:La) (A:Mf) (outer:List Env) (s:Le) (H:Hp) (vs:List V) (Q:VK) (E:XK),Room k (A.deeper (envOfC x (aB st) s.heap.objs.size f pe))->sp vs H Q E ->
   ∃t,PSs (fH (ky P w) P w K mg base N x (aB st) f pe A outer s H E) (df st) t/\t {nx:=fun _ H'=>Q .non H',rt:=Q} (start N vs) H):FnC P w K mg base (ky P w) (k+1) x ps sp:=by
 obtain⟨f,fd,G,hm,hb⟩:=F.ex;obtain⟨oc,od,kV,doc,pm,an,pe,ct,Xe,rfl,lk,hcd⟩:=G.ex;exact⟨f,_,IN lk hcd S len fun A outer s H vs Q E hr hsp=>hbody f pe A outer s H vs Q E hr hsp,hm,G.kp,hb⟩
structure Bf (K:Fg) (mg:Str->Option La) (x:Str) (C:Addr) (WB:List La) (newId:String):Prop where
 at_:mg x=some (.ref C)
 ok:PP K C WB newId=true
theorem pZ{K:Fg}(X:K.In h)(ok:PP K C WB newId=true) :
  ∃tl N nm q bs hdct sn sub ab col dd k0 k1 k2 k3 k5 mN,h.get? C=some (excClassObj nm q C N bs tl hdct sn sub ab col dd k0 k1 k2 k3 k5 newId)/\h.Ns N mN/\mN "__init__"=none/\Tu h WB tl:=by
 unfold PP at ok;split at ok
 ·rename_i dd cd sl lk;split at ok
  ·rename_i C1 tl s0 s1 s2 s3 nw s5 em es;simp only[My,beq_iff_eq,Bool.not_eq_true'] at ok;obtain⟨⟨⟨⟨⟨e1,e2⟩,Zw⟩,own⟩,Za⟩,noi⟩:=ok;subst e1 e2;obtain⟨nm,bs,mro,ns,qn,hd,sn,sub,ab,col,Bi⟩:=cd;have em':mro=LZ C1 :: tl:=em;have Yk:Bi=false:=Zw;subst em' Yk;obtain⟨sll⟩:=sl;have Wm:sll=[s0,s1,s2,s3,some (Vw nw),s5]:=es;subst Wm;exact⟨tl,ns,nm,qn,bs,hd,sn,sub,ab,col,dd,s0,s1,s2,s3,s5,_,X _ _ lk,Heap.Ns.of_isNs (PySem.W.isNs_of_in X Za),PySem.W.nsMap_none_of_in X Za noi,PySem.W.tail_of_in X own⟩
  ·exact absurd ok LO
 ·exact absurd ok LO
def fW(E:XK)(C:Addr)(te:TE):TS:=fun _ σ H=>te σ H fun x H1=>[x].length=1/\E (.ref C) none H1
theorem eM{VP pos:Pos}{te:TE}(l:Lv X E)(hc:X.calm=true)(hg:Gl X x)(c:Bf X.K X.mg x C WB newId)(FB:Sa B newId Wl WB)(he:PE X e₀ te)
  (hst:starEach [e₀] X.env=[(false,eval e₀ X.env)]:=by rfl) (hdb:(x == ("__debug__":Str))=false:=by decide) :
  PS X (.Raise (some (.Call (.Name x np) [e₀] [] VP)) none pos) (fW E C te):=by
 intro pins s σ H D I h;obtain⟨tl,N,nm,q,bs,hdct,sn,sub,ab,col,dd,k0,k1,k2,k3,k5,mN,hC,hN,hni,T⟩:=pZ I.mod.kin c.ok
 refine wpAny_Raise_call_subT (C:=C) (nm:=nm) (q:=q) (N:=N) (bs:=bs) (bm:=tl) (hdct:=hdct) (sn:=sn) (sub:=sub) (ab:=ab) (col:=col) (dd:=dd) (k0:=k0) (k1:=k1) (k2:=k2) (k3:=k3) (k5:=k5)
  FB (mN:=mN) (T.hasType FB.hasBase) (I.ok.hd hc) (by rw[hst];rfl) hni (gn I hg c.at_ ⟨rfl,?_⟩ hdb)
 have ha:PA X [e₀] (ao te aA):=af he ak (by rw[hst];rfl);have r:=ha VP pins s σ H (fun vs H1=>vs.length=1/\E (.ref C) none H1) I h;rw[hst] at r ⊢;refine Pi (Mi r (fun us s2 ⟨vs,H1,I2,rv,hl,hE⟩=>⟨rfl,by rw[<- rv.length,hl];decide,I2.bk _ _ hC,hN.keeps I2.bk,T.keeps I2.bk,fun h' e hx=>l.2 _ _ (xq I2 l.1 hx hE)⟩) fun _ _ y=>y)
section
variable{M:Model}{A:Mf}{E:La->Le->Prop}{h:Heap}{g:Array GenState}{d:Drawn}{t:Nat}{os:Tq}
theorem vd{C D:Addr}
  {e:Addr} {oe:Obj} {Q:Bool->Le->Prop}
  (hC:h.get? C=some (excClassObj nm q C N bs tl hd sn su ab co dd k0 k1 k2 k3 k5 nw)) (hD:h.get? D=some (excClassObj nm' q' D N' bs' tl' W9 sn' su' ab' co' Yr j0 j1 j2 j3 j5 nw'))
  (he:h.get? e=some oe) (hc:oe.cls=.ref C) (hb:tl'.contains (.type "BaseException")=true) (hs:(LZ C :: tl).contains (.ref D)=true)
  (hq:Q true ⟨h,g,d,t,os⟩):wpAny M A (excMatches (.ref e) (.ref D)) Q E ⟨h,g,d,t,os⟩:=by
 have hB:(LZ D :: tl').contains (.type "BaseException")=true:=by rw[List.contains_cons,hb,Bool.or_true]
 have nt:=tc_notTuple;unfold excMatches
 repeat (first
  |(with_reducible refine Nz he ?_;rw[hc])
  |with_reducible refine Nz hD ?_
  |with_reducible refine Nz hC ?_
  |(with_reducible refine PF hD ?_;rw[hB])
  |(with_reducible refine PF hC ?_;rw[hs])
  |wp_step)
 exact hq
end
theorem cP.there(x:cP P w H h a o):∃ob,h.get? a=some ob:=by
 cases o with
 |lst xs=>obtain⟨_,_,_,_,e⟩:=x;exact⟨_,e⟩
 |tup xs=>obtain⟨_,_,_,ob,e,_⟩:=x;exact⟨ob,e⟩
 |dK i3=>obtain⟨_,_,_,_,ob,_,_,e,_⟩:=x;exact⟨ob,e⟩
 |dT i3=>obtain⟨_,_,_,_,ob,_,_,e,_⟩:=x;exact⟨ob,e⟩
 |set S n=>obtain⟨ob,_,_,_,e,_⟩:=x;exact⟨ob,e⟩
 |ins C dx fs=>obtain⟨_,_,_,e,_⟩:=x;exact⟨_,e⟩
 |own y=>exact x
 |xd fs=>obtain⟨_,⟨ob,_,_,e,_⟩,_⟩:=x;exact⟨ob,e⟩
 |rng lo hi=>obtain⟨_,_,_,e⟩:=x;exact⟨_,e⟩
 |frz ob u=>obtain⟨e,_⟩:=x;exact⟨_,e⟩
 |tbl ps=>exact⟨_,(show h.get? a=some _ from x)⟩
 |met f y=>exact⟨_,(show h.get? a=some _ from x)⟩
 |ext φ=>obtain⟨_,e,_⟩:=x;exact e
section
variable{X:Cx}{pins:List (Addr×Obj)}{σ:St}{H H':Hp}{s s':Le}
theorem Inv.back(I:Inv X pins σ H s)(o:jx X)(g:Jo X.prog X.w X.stack H H' s.heap B s'.heap)(Xl:s'.os=s.os)(bare:Qx s'.gens)(st:B.StaysIn h5)(up:s'.heap.UpToSlots h5) :
  Inv X pins σ H' {s' with heap:=h5}:=by
 obtain⟨hh,g',d',t',os'⟩:=s';have e:os'=s.os:=Xl;subst e;have inS:∀{b:Addr},b∈X.fs->b∈L2.frs X.stack:=fun hb=>by rw[o.frs];exact Lj _ hb
 have inL:X.env.locals∈L2.frs X.stack:=by rw[o.frs];exact Lg
 have out:∀{b:Addr},b≠X.env.locals->b∉X.fs->b∉L2.frs X.stack:=fun h1 h2 z=>by
  rw[o.frs] at z;rcases Lr.mp z with z|z
  ·exact h1 z
  ·exact h2 z
 have nsL:∀m,s.heap.Ns X.env.locals m->h5.Ns X.env.locals m:=fun m hm=>by
  obtain⟨ob,es,ep,ho,hd,r⟩:=hm;obtain⟨sl,e1⟩:=g.slot _ ob ho I.free inL;obtain⟨W4,e2⟩:=up _ _ e1 (fun vs z=>by have z':ob.data=.fields vs:=z;rw[hd] at z';cases z');exact⟨_,es,ep,e2,hd,r⟩
 suffices r:Inv X pins σ H' {s with heap:=h5,gens:=g',drawn:=d',toks:=t'} from r
 refine I.step (ch:=[]) (fun _ z=>nomatch z) (fun b ob nl nf _ e n=>st b ob (g.keep b ob e n (out nl nf))) (fun b ob nl hb _ e n=>?_) (fun b ob _ e n=>g.free b ob e n) (fun b ob _ e=>?_) g.tups g.frzs g.tbls nsL (g.hok.kept st) bare
 ·obtain⟨sl,e1⟩:=g.slot b ob e n (inS hb);obtain⟨W4,e2⟩:=up b _ e1 (fun vs=>I.lV hb e vs);exact⟨W4,e2⟩
 ·by_cases hb:b∈L2.frs X.stack
  ·have Z8:=hb;rw[o.frs] at Z8;rcases Lr.mp Z8 with z|z
   ·obtain⟨m,hn,_⟩:=I.loc;obtain⟨o',_,_,WV,_⟩:=nsL m hn;exact⟨o',by rw[z];exact WV⟩
   ·obtain⟨sl,e1⟩:=g.slot b ob e (I.kH b hb) hb;obtain⟨W4,e2⟩:=up b _ e1 (fun vs=>I.lV z e vs);exact⟨_,e2⟩
  ·obtain⟨o',e1⟩:=g.there b ob e hb;exact⟨o',st b o' e1⟩
def vf(e C:Addr):HO:=.ext fun h=>∃oe,h.get? e=some oe/\oe.cls=.ref C
theorem Gw{h:Heap}{e:Addr}{oe:Obj}(he:h.get? e=some oe)(hc:oe.cls=.ref C):cP P w H h e (vf e C) :=
 ⟨⟨oe,he,hc⟩,⟨oe,he⟩,fun _ _ ⟨o,h1,h2⟩ k=>⟨o,k o h1,h2⟩⟩
def xx(e C dx:Addr):HO:=.ext fun h=>∃oe,h.get? e=some oe/\oe.cls=.ref C/\oe.dict=some dx/\Q8 oe=true
theorem Gx{h:Heap}{e dx:Addr}{oe:Obj}(he:h.get? e=some oe)(hc:oe.cls=.ref C)(hd:oe.dict=some dx)(hn:Q8 oe=true):cP P w H h e (xx e C dx) :=
 ⟨⟨oe,he,hc,hd,hn⟩,⟨oe,he⟩,fun _ _ ⟨o,h1,h2⟩ k=>⟨o,k o h1,h2⟩⟩
@[reducible] def De (e C:Addr):Option Addr->HO
 |none=>vf e C
 |some dx=>xx e C dx
theorem Dd{h:Heap}{e:Addr}{oe:Obj}{d:Option Addr}(he:h.get? e=some oe)(hc:oe.cls=.ref C)(hd:oe.dict=d)(hn:Q8 oe=true):cP P w H h e (De e C d):=by
 cases d with
 |none=>exact Gw he hc
 |some dx=>exact Gx he hc hd hn
def ExH(H:Hp)(e C:Addr):Prop:=∃d,H e=some (De e C d)
theorem ExH.of(h:H e=some (vf e C)):ExH H e C:=⟨none,h⟩
theorem ExH.ofD(h:H e=some (xx e C dx)):ExH H e C:=⟨some dx,h⟩
theorem Inv.track(I:Inv X pins σ H s)(hn:H e=none)(h0:X.s₀.heap.get? e=none)(hL:e≠X.env.locals)(hc:∀x c,X.env.cells.lookup x=some c->c≠e)(hp:∀p∈X.pn++pins,p.1≠e)
  (ok:cP X.prog X.w (upd H e o) s.heap e o):Inv X pins σ (upd H e o) s:=by
 have ne:∀b u,H b=some u->b≠e:=fun b u q z=>by rw[z,hn] at q;cases q
 refine⟨I.ok,I.os,I.bare,⟨I.base.keep,I.base.slot,fun b ob q n hx=>?_,I.base.there,fun b xs q=>?_,fun b ob u q=>?_,fun b ps q=>?_⟩,I.loc,I.cell,?_,fun x c q=>?_,fun p hq=>?_,fun a u q=>?_,I.len⟩
 ·rw[bf (fun z=>by rw[z,h0] at q;cases q)];exact I.base.free b ob q n hx
 ·have z:=I.base.tups b xs q;rw[bf (ne _ _ z)];exact z
 ·have z:=I.base.frzs b ob u q;rw[bf (ne _ _ z)];exact z
 ·obtain⟨m,z⟩:=I.base.tbls b ps q;exact⟨m,by rw[bf (ne _ _ z)];exact z⟩
 ·rw[bf (Nd hL)];exact I.free
 ·rw[bf (hc x c q)];exact I.freeC x c q
 ·obtain⟨q1,q2,q3⟩:=I.pin p hq;exact⟨q1,by rw[bf (hp p hq)];exact q2,q3⟩
 ·by_cases z:a=e
  ·subst z;rw[aq] at q;cases q;exact ok
  ·rw[bf z] at q;exact(I.hok a u q).stay (fun _ _ _ r=>r) (fun b r=>by rw[bf (ne _ _ r)];exact r) fun b xs r=>by rw[bf (ne _ _ r)];exact r
theorem Bl{i:Nat}{n:Str}{pos:Pos}{Q:Unit->Le->Prop}(I:Inv X pins σ H s)(hN:X.N.Nodup)(hi:X.N[i]?=some n)(hk:X.env.scope.names.lookup n=some .local)
  (h:∀s',Inv X pins (σ.set i none) H s'->Q () s'):wpAny M A (do bindName X.env n .none;unbindBehindTheSuite X.env n pos) Q E s:=by
 have X8:(X.env.scope.kind == .class || (X.env.scope.kind == .module && X.env.locals != X.env.globals))=false:=by rw[I.ok.kind];rfl
 have WM:i<σ.length:=by rw[I.len];exact(K_.mp hi).1
 refine K8 (wpAny_bindName (iI I hN hi (.inl hk) (v:=.non) rfl (fun s1 I1=>?_) (.inr hk)));obtain⟨m,hn,hl⟩:=id I1.loc;obtain⟨u,ru,lu⟩:=hl i n .non hi (by rw[Nu WM]) (.inl hk)
 have hmn:m n=some u:=by
  rcases lu with⟨_,z⟩|⟨z,_⟩
  ·exact z
  ·have k':X.env.kindOf n=some .local:=hk;rcases z with z|z <;> (rw[k'] at z;cases z)
 unfold unbindBehindTheSuite;refine Qz (wpAny_unbindName_local hk hn hmn X8 fun h' v Yv hs=>?_);have cne:=I1.cne;obtain⟨oL,_,_,hoL,_⟩:=id hn
 have tracked:HOk X.prog X.w H h':=fun b ob e=>by
  refine(I1.hok b ob e).stay (fun c w' hc q=>(hs.2 c ?_).trans q) (fun _ q=>q) fun _ _ q=>q
  rintro rfl;have fr:=I1.free;rcases hc with hc|hc
  ·rw[hc] at fr;rw[fr] at e;cases e
  ·rw[fr] at hc;cases hc
 refine h _ ⟨I.ok,I1.os,I1.bare,⟨fun b ob e n hb hx=>?_,fun b ob e n hb hx=>?_,I1.base.free,fun b ob e hx=>?_,I1.base.tups,I1.base.frzs,I1.base.tbls⟩,⟨_,Yv,fun j y v' e1 e2 e3=>?_⟩,fun y c e=>?_,I1.free,I1.freeC,fun p hp=>?_,tracked,by simpa using I.len⟩
 ·exact(hs.2 b (I.old_ne e)).trans (I1.base.keep b ob e n hb hx)
 ·obtain⟨sl,e1⟩:=I1.base.slot b ob e n hb hx;exact⟨sl,(hs.2 b (I.old_ne e)).trans e1⟩
 ·obtain⟨o',e1⟩:=I1.base.there b ob e hx;exact⟨o',(hs.2 b (I.old_ne e)).trans e1⟩
 ·by_cases hj:j=i
  ·subst hj;rw[Nu WM] at e2;cases e2
  ·rw[NW (Nd hj)] at e2;obtain⟨u',r',q⟩:=hl j y v' e1 (by rw[NW (Nd hj)];exact e2) e3;refine⟨u',r',?_⟩;rcases q with⟨k,e⟩|⟨k,c,e,z⟩
   ·refine .inl ⟨k,?_⟩;have ny:y≠n:=fun z=>hj (gT hN e1 (z ▸ hi))
    simp[ny,e]
   ·exact .inr ⟨k,c,e,z.sameBut hs (cne y c e)⟩
 ·obtain⟨w',z⟩:=I1.cell y c e;exact⟨w',z.sameBut hs (cne y c e)⟩
 ·obtain⟨e,n',ne,nf,d⟩:=I1.pin p hp;exact⟨(hs.2 p.1 ne).trans e,n',ne,nf,d⟩
abbrev Cx.marked(X:Cx)(e:Addr):Cx:={X with A:=X.A.mark (some (.ref e)),calm:=false,xe:=fun _ _=>False}
theorem Inv.marked(I:Inv X pins σ H s)(e:Addr):Inv (X.marked e) pins σ H s :=
 ⟨⟨I.ok.mod,I.ok.kind,I.ok.glob,I.ok.blt,I.ok.above,I.ok.inj,I.ok.has,I.ok.cab,fun z=>UM z,I.ok.frames,I.ok.stk,I.ok.exf,I.ok.bs,I.ok.bsz,I.ok.noex,I.ok.exfs,I.ok.funs,I.ok.frf⟩,
  I.os,I.bare,I.base,I.loc,I.cell,I.free,I.freeC,I.pin,I.hok,I.len⟩
theorem Inv.unmarked(I0:X.Ok)(I:Inv (X.marked e) pins σ H s):Inv X pins σ H s:=⟨I0,I.os,I.bare,I.base,I.loc,I.cell,I.free,I.freeC,I.pin,I.hok,I.len⟩
end
structure DD (K:Fg) (mg:Str->Option La) (x:Str) (D:Addr):Prop where
 at_:mg x=some (.ref D)
 ok:∃WB newId,PP K D WB newId=true/\WB.contains (.type "BaseException")=true
def DE(K:Fg)(C:Addr):Prop:=∀h:Heap,K.In h->∃tl N nm q bs hdct sn sub ab col dd k0 k1 k2 k3 k5 newId,h.get? C=some (excClassObj nm q C N bs tl hdct sn sub ab col dd k0 k1 k2 k3 k5 newId)
theorem kr{K:Fg}(ok:PP K C WB newId=true):DE K C:=fun h X=>by
 obtain⟨tl,N,nm,q,bs,hdct,sn,sub,ab,col,dd,k0,k1,k2,k3,k5,mN,hC,_⟩:=pZ X ok;exact⟨tl,N,nm,q,bs,hdct,sn,sub,ab,col,dd,k0,k1,k2,k3,k5,newId,hC⟩
def xE(K:Fg)(C D:Addr):Prop:=DE K C/\TL K C (.ref D)=some true
theorem FU{K:Fg}{C:Addr}(X:K.In h)
  (hC:h.get? C=some (excClassObj nm q C N bs tl hd sn su ab co dd k0 k1 k2 k3 k5 nw)) (e:TL K C (.ref D)=some true):(LZ C :: tl).contains (.ref D)=true:=by
 obtain⟨cd,a,b⟩:=N1.mp e;unfold Vv at a;split at a
 ·rename_i c1 d1 Yq s1 lk;cases a;have z:=(X _ _ lk).symm.trans hC;unfold excClassObj at z;cases z;split at b
  ·cases b
  ·exact LD b
 ·cases a
section
variable{X:Cx}{pins:List (Addr×Obj)}{σ:St}{H:Hp}{s s':Le}
def AY(K:Fg)(Dv:Addr)(n y:Nat)(D:dk)(σ:St):XK:=fun c d H2=>∃C,c=.ref C/\xE K C Dv/\∀e,H2 e=none->D.nx (((σ.set n (some (.ref e))).set y (some (.ref e))).set n none) (upd H2 e (De e C d))
theorem GE{n y:Nat}{xn xy:Str}{D:dk}{p3 pos:Pos}(I:Inv X pins σ H s)(o:jx X)(hg:Gl X v)(V:DD X.K X.mg v Dv)(hN:X.N.Nodup)(hn:X.N[n]?=some xn)(hy:X.N[y]?=some xy)
  (ln:X.env.scope.names.lookup xn=some .local) (ly:X.env.scope.names.lookup xy=some .local) (hnd:(xn == ("__debug__":Str))=false) (Y9:(xn == ("__classdict__":Str))=false)
  (hsw:swapsWith (.Name xn p2) (some (.Name xy p1)) p3.line X.env=pure false)
  (h:ky X.prog X.w X.stack H s (AY X.K Dv n y D σ) e s') (hdb:(v == ("__debug__":Str))=false:=by decide) :
  wpAny (model X.prog X.w) X.A (noteFrame e X.env) (fun _ s₂=>wpAny (model X.prog X.w) X.A (setFlight e none) (fun _ s₃ =>
   wpAny (model X.prog X.w) X.A (handleBy e X.env [.ExceptHandler (some (.Name v vp)) (some xn) [.Assign [.Name xy p1] (.Name xn p2) p3] pos]) (SP X pins D) X.xe s₃) X.xe s₂) X.xe s':=by
 obtain⟨ea,C,a0,B,H',d,rfl,fl,g,Xl,bare,C',eC,⟨okC,mro⟩,k⟩:=h;cases eC;have Wo:X.A.frames=some (X.env :: X.outer):=o.stk ▸ I.ok.frames;rw[o.stk] at fl;have be:B.get? ea=none:=fl.1.2.1;refine zQ km Wo o.frm fl fun h4 YW at4 up4=>?_
 refine HP (s:={s' with heap:=h4}) YW at4 fun h5 fl5 up5=>?_
 have ZX:=up4.trans up5;have I5:Inv X pins σ H' {s' with heap:=h5}:=I.back o g Xl bare fl5.1.1 ZX;obtain⟨oe5,he5,hc5⟩:=fl5.1.there;have I5m:=I5.marked ea;refine wpAny_handleBy_cons (codeAny_handlers_test (gn (X:=X.marked ea) I5m hg V.at_ ?_ hdb)) (by intro q;cases q);obtain⟨tl,N,nm,q,bs,hdct,sn,sub,ab,col,dd,k0,k1,k2,k3,k5,nwC,hC⟩:=okC _ I5.kIn;obtain⟨bmV,nwV,okV,hbV⟩:=V.ok;obtain⟨tl',N',nm',q',bs',hdct',sn',sub',ab',col',Yr,j0,j1,j2,j3,j5,mN',hV,_,_,TV⟩:=pZ I5.kIn okV;refine vd hC hV he5 hc5 (TV.hasType hbV) (FU I5.kIn hC mro) ?_;refine codeAny_handlers_suite_as ?_;refine rR (s:={s' with heap:=h5}) fl5 fun h6 Z2 up6=>?_
 have I6:Inv X pins σ H' {s' with heap:=h6}:=I.back o g Xl bare Z2.1.1 (ZX.trans up6);obtain⟨oe,ws,he,hc,YS,_⟩:=Z2.1.first
 have Xj:oe.dict=d:=by
  obtain⟨o',q1,q2⟩:=Z2.2;cases he.symm.trans q1;exact q2
 have se:s.heap.get? ea=none:=by
  cases z:s.heap.get? ea with
  |none=>rfl
  |some ob =>
   by_cases hb:ea∈L2.frs X.stack
   ·rw[o.stk] at hb;obtain⟨_,o2,ho2,d2⟩:=Z2.1.2.2.1.mem hb;rw[he] at ho2;cases ho2;exact absurd YS (d2 _)
   ·obtain⟨o',e1⟩:=g.there ea ob z hb;rw[be] at e1;cases e1
 have s0e:X.s₀.heap.get? ea=none:=by
  cases z:X.s₀.heap.get? ea with
  |none=>rfl
  |some ob =>
   obtain⟨o',e1⟩:=I.base.there ea ob z (fun q=>by rw[o.exs] at q;cases q);rw[se] at e1;cases e1
 have hL:ea≠X.env.locals:=fun z=>by
  obtain⟨m,⟨ob,_,_,ho,_⟩,_⟩:=I.loc;rw[<- z,se] at ho;cases ho
 have Xu:∀x c,X.env.cells.lookup x=some c->c≠ea:=fun x c q z=>by
  obtain⟨v',ob,ho,_⟩:=I.cell x c q;rw[z,se] at ho;cases ho
 have hpn:∀p∈X.pn++pins,p.1≠ea:=fun p hp z=>by
  have ho:=(I.pin p hp).1;rw[z,se] at ho;cases ho
 have WC:H' ea=none:=by
  cases z:H' ea with
  |none=>rfl
  |some u =>
   obtain⟨ob,e1⟩:=(g.hok ea u z).there;rw[be] at e1;cases e1
 have I7:Inv X pins σ (upd H' ea (De ea C d)) {s' with heap:=h6}:=I6.track WC s0e hL Xu hpn (Dd he hc Xj (by unfold Q8;rw[YS]));refine iI (X:=X.marked ea) (I7.marked ea) hN hn (.inl ln) (v:=.ref ea) rfl (fun s8 I8=>?_) (.inr ln);have ZU:PSs (X.marked ea) [.Assign [.Name xy p1] (.Name xn p2) p3] (aR (ag n) (aO y)):=ar (aJ hN hy (.inl ly) (D3 hn (.inl ln) hnd Y9) hsw (.inr ly));have WM:n<σ.length:=by rw[I.len];exact(K_.mp hn).1
 refine Mi (ZU pins s8 _ _ {nx:=fun σ9 H9=>D.nx (σ9.set n none) H9,rt:=fun _ _=>False} I8 ⟨.ref ea,Nu WM,k ea WC⟩) (fun f s9 q9=>?_) fun _ _ z=>z.elim
 cases f with
 |next =>
  obtain⟨σ9,H9,I9,q⟩:=q9;exact Bl (I9.unmarked I.ok) hN hn ln fun s10 I10=>⟨_,H9,I10,q⟩
 |ret u=>obtain⟨_,_,_,_,_,z⟩:=q9;exact z.elim
 |brk=>obtain⟨_,_,_,z⟩:=q9;exact z.elim
 |cont=>obtain⟨_,_,_,z⟩:=q9;exact z.elim
end
section
variable{X:Cx}{k:Nat}{ps:List Str}{sp:Sp}{fx v xn xy xa:Str}{Dv:Addr}{n y i:Nat}{fp cp ap vp p0 p1 p2 p3 hp pos ep:Pos}{e:Expr}{es:List Expr}{t:TA}
theorem Bq{H:Hp}{D:dk}(F:FnC X.prog X.w X.K X.mg X.base (ky X.prog X.w) k fx ps sp)(hr:Room k X.A)(o:jx X)(hgf:Gl X fx)(ha:PA X.nox (e :: es) t)
  (hg:Gl X v) (V:DD X.K X.mg v Dv) (hN:X.N.Nodup) (hn:X.N[n]?=some xn) (hy:X.N[y]?=some xy) (ln:X.env.scope.names.lookup xn=some .local) (ly:X.env.scope.names.lookup xy=some .local)
  (hnd:(xn == ("__debug__":Str))=false) (Y9:(xn == ("__classdict__":Str))=false) (hsw:swapsWith (.Name xn p2) (some (.Name xy p1)) p3.line X.env=pure false)
  (hvd:(v == ("__debug__":Str))=false) (XO:(fx == ("__debug__":Str))=false) (he:starEach (e :: es) X.env=(false,eval e X.env) :: starEach es X.env) (WF:(backTo cp (starEach es X.env)).any (·.1)=false)
  (I:Inv X pins σ H s) (h:t σ H fun vs H1=>sp (vs++[]) H1 Q (AY X.K Dv n y D σ)) :
  wpAny (model X.prog X.w) X.A (eval (.Call (.Name fx fp) (e :: es) [] cp) X.env) (EP X pins σ Q)
   (fun e' s'=>wpAny (model X.prog X.w) X.A (noteFrame e' X.env) (fun _ s₂=>wpAny (model X.prog X.w) X.A (setFlight e' none) (fun _ s₃ =>
    wpAny (model X.prog X.w) X.A (handleBy e' X.env [.ExceptHandler (some (.Name v vp)) (some xn) [.Assign [.Name xy p1] (.Name xn p2) p3] hp]) (SP X pins D) X.xe s₃) X.xe s₂) X.xe s') s:=by
 obtain⟨f,fd,G,hm,kp,hb⟩:=F.ex;refine Nq (gn I hgf hm ?_ XO);refine T3 (h₀:=X.base) I.ok.mod.kin kp (Mi (ha cp pins s σ H _ (I.wish fun _ _=>False) h) (fun us s1 ⟨vs,H1,I1,r,q⟩=>⟨I1.kIn,?_⟩) fun _ _ z=>z.elim) he WF;have J1:Inv X pins σ H1 s1:=I1.iD;have r2:Vals (vs++[]) (us++[]):=r.append .nil;have hl:(us++[]).length=ps.length:=by rw[<- r2.length];exact G.len _ _ _ _ q
 refine P2 (Pu (G.run X.A X.stack s1 H1 ⟨us,[]⟩ (us++[]) (vs++[]) Q _ hr J1.env0 (hb s1 us J1.kIn hl) r2 q) fun res s' hq=>?_);cases res with
 |error e'=>exact GE J1 o hg V hN hn hy ln ly hnd Y9 hsw hq hvd
 |ok fl =>
  cases fl with
  |ret u=>exact J1.after hq
  |next=>exact Np hq
  |brk=>exact Np hq
  |cont=>exact Np hq
def G_(K:Fg)(sp:Sp)(Dv:Addr)(i n y:Nat)(t:TA):TS:=fun D σ H=>t σ H fun vs H1=>sp (vs++[]) H1 (fun x H2=>D.nx (σ.set i (some x)) H2) (AY K Dv n y D σ)
theorem Fy(F:FnC X.prog X.w X.K X.mg X.base (ky X.prog X.w) k fx ps sp)(hr:Room k X.A)(o:jx X)(hgf:Gl X fx)(ha:PA X.nox (e :: es) t)
  (hg:Gl X v) (V:DD X.K X.mg v Dv) (hN:X.N.Nodup) (hi:X.N[i]?=some xa) (la:X.env.scope.names.lookup xa=some .local) (hn:X.N[n]?=some xn) (hy:X.N[y]?=some xy) (ln:X.env.scope.names.lookup xn=some .local) (ly:X.env.scope.names.lookup xy=some .local)
  (hnd:(xn == ("__debug__":Str))=false:=by decide) (Y9:(xn == ("__classdict__":Str))=false:=by decide) (hsw:swapsWith (.Name xn p2) (some (.Name xy p1)) p3.line X.env=pure false:=by rfl)
  (hvd:(v == ("__debug__":Str))=false:=by decide) (XO:(fx == ("__debug__":Str))=false:=by decide) (he:starEach (e :: es) X.env=(false,eval e X.env) :: starEach es X.env:=by rfl) (WF:(backTo cp (starEach es X.env)).any (·.1)=false:=by rfl)
  (hsa:swapsWith (.Call (.Name fx fp) (e :: es) [] cp) (some (.Name xa p0)) ap.line X.env=pure false:=by rfl) :
  PS X (.Try [.Assign [.Name xa p0] (.Call (.Name fx fp) (e :: es) [] cp) ap] [.ExceptHandler (some (.Name v vp)) (some xn) [.Assign [.Name xy p1] (.Name xn p2) p3] hp] [] [] pos) (G_ X.K sp Dv i n y t):=by
 intro pins s σ H D I h;refine wpAny_Try_except (RM (wpAny_Assign_Name (Mi (Bq (D:=D) F hr o hgf ha hg V hN hn hy ln ly hnd Y9 hsw hvd XO he WF I h) (fun u s1 ⟨x,H2,I2,r,q⟩=>?_) fun _ _ z=>z) hsa));exact iI I2 hN hi (.inl la) r (fun s3 I3=>OX (OX ⟨_,H2,I3,q⟩)) (.inr la)
end
section
variable{P:LB}{w:LQ}{K:Fg}{mg:Str->Option La}{base:Heap}{x:Str}{st:Stmt}{N ps:List Str}{k:Nat}{sp:Sp}
theorem EY:0<=sizeLine:=by decide
theorem ib:1<=sizeLine:=by decide
theorem BB:12<=sizeLine:=by decide
theorem bG:2<=sizeLine:=by decide
theorem dS:3<=sizeLine:=by decide
theorem oV:4<=sizeLine:=by decide
theorem EX:6<=sizeLine:=by decide
theorem cu{N:List Str}{n:Nat}(hN:N.length=n)(vs:List V):L2.start N vs=vs.map some++LG (n-vs.length) none:=by
 subst hN;rfl
theorem bJ.okN(F:bJ K mg x st ps)(S:aU N ps (aB st))(len:∀vs H Q E,sp vs H Q E->vs.length=ps.length)
  (hbody:∀(f:Addr) (pe:La) (A:Mf) (outer:List Env) (s:Le) (H:Hp) (vs:List V) (Q:VK) (E:XK),N.Nodup->Room k (A.deeper (envOfC x (aB st) s.heap.objs.size f pe))->(A.deeper (envOfC x (aB st) s.heap.objs.size f pe)).units+64<cLine->(A.deeper (envOfC x (aB st) s.heap.objs.size f pe)).units+1<cLine->(∀{M:Model} {A:Mf} {env:Env},RN M A env fun _ _=>False)->jx (fH dh P w K mg base N x (aB st) f pe A outer s H E).nox->sp vs H Q E ->
   ∃t,PSs (fH dh P w K mg base N x (aB st) f pe A outer s H E).nox (df st) t/\t {nx:=fun _ H'=>Q .non H',rt:=Q} (start N vs) H):FnC P w K mg base dh (k+1) x ps sp :=
 F.ok S len fun f pe A outer s H vs Q E hr h=>hbody f pe A outer s H vs Q E S.nd hr hr.units (M5 (QV (by decide:1<=64) _) hr.units) PV ⟨rfl,rfl,rfl⟩ h
theorem bJ.okM(F:bJ K mg x st ps)(S:aU N ps (aB st))(len:∀vs H Q E,sp vs H Q E->vs.length=ps.length)
  (hbody:∀(f:Addr) (pe:La) (A:Mf) (outer:List Env) (s:Le) (H:Hp) (vs:List V) (Q:VK) (E:XK),N.Nodup->Room k (A.deeper (envOfC x (aB st) s.heap.objs.size f pe))->(A.deeper (envOfC x (aB st) s.heap.objs.size f pe)).units+64<cLine->(A.deeper (envOfC x (aB st) s.heap.objs.size f pe)).units+1<cLine->RN (model P w) (fH (ky P w) P w K mg base N x (aB st) f pe A outer s H E).A (fH (ky P w) P w K mg base N x (aB st) f pe A outer s H E).env (fH (ky P w) P w K mg base N x (aB st) f pe A outer s H E).xe->Lv (fH (ky P w) P w K mg base N x (aB st) f pe A outer s H E) E->sp vs H Q E ->
   ∃t,PSs (fH (ky P w) P w K mg base N x (aB st) f pe A outer s H E) (df st) t/\t {nx:=fun _ H'=>Q .non H',rt:=Q} (start N vs) H):FnC P w K mg base (ky P w) (k+1) x ps sp :=
 F.okE S len fun f pe A outer s H vs Q E hr h=>hbody f pe A outer s H vs Q E S.nd hr hr.units (M5 (QV (by decide:1<=64) _) hr.units) IF JU h
end
open PySem PySem.Spec PyProof.Rows PySem.W Builtin Builtin.ObjectAttr Builtin.Getset_descriptor
structure mh (K:Fg) (C:Addr):Prop where
 ga:findIn K (.ref C) "__getattribute__"=some (some (.builtin "BaseException.__getattribute__"))
 hk:findIn K (.ref C) "__getattr__"=some none
 cl:findIn K (.ref C) "__class__"=some (some (.builtin "object.__class__"))
 gt:specialIn K (.builtin "object.__class__") "__get__"=some (some (.builtin "getset_descriptor.__get__"))
 tk:takesIn K (.builtin "object.__class__")=some true
 ob:mroIn K C (.type "object")=some true
 be:mroIn K C (.type "BaseException")=some true
section
variable{prog:LB}{w:LQ}{A:Mf}{E:La->Le->Prop}{s:Le}{K:Frag}{x C:Addr}{R:SQ->Le->Prop}
def TyLk(h:Heap)(x C:Addr):Prop:=∃o,h.get? x=some o/\o.cls=.ref C
theorem TyLk.look(i:TyLk h x C)(M:Model):Uq M h (typeOf (.ref x)) (.ref C):=by
 obtain⟨o,h1,h2⟩:=i;exact h2 ▸ (Uq.ld h1).andThen .now
theorem p_{tp:La} (X:K.In s.heap) (i:TyLk s.heap x C) (hm:mroIn K C (.type "object")=some true) (h:R (.ok (.ret (.ref C))) s) :
  codeAny (model prog w) A (.call (.builtin "getset_descriptor.__get__") ⟨[.builtin "object.__class__",.ref x,tp],[]⟩) R s:=by
 obtain⟨hh,g,dr,t,os⟩:=s;have L0:=i.look (model prog w);have L1:=U4 (M:=model prog w) X hm;refine NY KF.slot_gs.plain KF.entry_gs (KF.slot_gs.check _ _ _ _ _ _ _ _ KF.type_class (KF.args_gs _ _ _) ?_);unfold Og.«getset_descriptor.__get__» descrGet;rw[dga_obj];refine K8 (Lh ?_);unfold descrGetter descrCheckInstance descrNameAndClass isInstance;simp only[KF.owner_class]
 repeat lk
 refine⟨P3 _ (by decide +kernel),QM KF.entry_class ?_⟩;unfold Og.«object.__class__» shownTypeOf
 repeat lk
 exact h
end
section
variable{prog:LB}{w:LQ}{A:Mf}{E:La->Le->Prop}{s:Le}{K:Frag}{x C:Addr}
theorem sF{rest:List La} {Q:Unit->Le->Prop} (X:K.In s.heap) (i:TyLk s.heap x C) (hb:mroIn K C (.type "BaseException")=some true) (ha:argsOk "BaseException.__getattribute__" ⟨.ref x :: rest,[]⟩) (hq:Q () s) :
  wpAny M A (checkBuiltinCall "BaseException.__getattribute__" ⟨.ref x :: rest,[]⟩) Q E s:=by
 obtain⟨hh,g,d,t,os⟩:=s;have kd:builtinKind "BaseException.__getattribute__"=some .slot:=by decide +kernel
 have sp:splitId "BaseException.__getattribute__"=some ("BaseException","__getattribute__"):=by decide +kernel
 have LI:Uq M hh (isInstance (.ref x) (.type "BaseException")) true:=(i.look M).andThen (U4 X hb);simp only[checkBuiltinCall,kd,sp];refine K8 (LI.at ?_);simp only[OB,LX,if_false];cases sg:Manifest.signature? "BaseException.__getattribute__" with
 |none=>exact Lh hq
 |some v =>
  simp only[argsOk,sg] at ha;have h2:Vj "BaseException.__getattribute__" v ⟨.ref x :: rest,[]⟩=pure ():=ha;show wpAny M A (Vj "BaseException.__getattribute__" v ⟨.ref x :: rest,[]⟩) Q E _;rw[h2];exact Lh hq
theorem Dc(X:K.In h) (a:mh K C):Uq M h (find (.ref x) (.ref C) "__class__") (.bind (.builtin "getset_descriptor.__get__") (.builtin "object.__class__")):=by
 have L1:=Qi (M:=M) X a.cl;have L2:Uq M h (getOf (some (.builtin "object.__class__"))) (some (.builtin "getset_descriptor.__get__")):=looks_specialIn X a.gt;have L3:=looks_takesIn (M:=M) X a.tk;refine L1.andThen (L2.andThen ?_);exact(show Uq M h (dataDescriptor? (some (.builtin "object.__class__")) (some (.builtin "getset_descriptor.__get__"))) (some (.builtin "getset_descriptor.__get__",.builtin "object.__class__")) from L3.andThen .now).andThen (Uq.tag .now)
theorem IQ{tk:Tok}{Q:Fin->Le->Prop}(X:K.In s.heap)(i:TyLk s.heap x C)(a:mh K C)(h:Q (.done (.ret (.ref C))) s) :
  wpAny (model prog w) A (Og.«object.__getattribute__» ⟨[.ref x,.str "__class__" tk],[]⟩) Q E s:=by
 obtain⟨hh,g,d,t,os⟩:=s;have L0:=i.look (model prog w);have L1:=Dc (M:=model prog w) (x:=x) X a;unfold Og.«object.__getattribute__»
 repeat lk
 refine wpAny_run (p_ X i a.ob ?_)
 repeat lk
 exact h
theorem AJ{Q:Option La->Le->Prop} (X:K.In s.heap) (i:TyLk s.heap x C) (a:mh K C) (h:Q (some (.ref C)) {s with toks:=s.toks+1}):wpAny (model prog w) A (getAttr? (.ref x) "__class__") Q E s:=by
 obtain⟨hh,g,d,t,os⟩:=s;have L0:=i.look (model prog w);have L1:=Qi (M:=model prog w) X a.ga;have L2:=Qi (M:=model prog w) X a.hk;unfold getAttr? getAttrBy? getAttrBy;refine K8 (wpAny_mkText (K8 (O5 (MJ (K8 (L0.at (K8 (L1.at ?_))))))));show wpAny _ _ (getAttrByItsOwn _ _ _ _ _ _) _ _ _;unfold getAttrByItsOwn hookBefore;refine K8 ?_;rw[if_pos (show onTheHeap (LZ C)=true from rfl)];refine L2.at ?_;refine K8 (O5 (MJ ?_));unfold callGetattribute;rw[if_neg (by intro z;cases z)];unfold boundAndCalled;rw[Pk.ga.bind (.ref x)];refine K8 (Lh ?_);refine P2 (NY Pk.ga.plain F.entry_bexc_ga (sF X i a.be (F.args_bexc_ga _ _) (IQ X i a ?_)));show wpAny (model prog w) A (handedOut (.ref C)) _ _ _;rw[handedOut_of (v:=.ref C) rfl];exact Lh (Lh h)
theorem lX(X:K.In h)(a:mh K C):∃c d cd sl,h.get? C=some ⟨c,d,.cls cd,sl⟩:=by
 obtain⟨cd,hc,_⟩:=N1.mp a.ob;unfold clsIn at hc;split at hc
 ·rename_i c1 d1 Yq s1 lk;exact⟨c1,d1,Yq,s1,X _ _ lk⟩
 ·cases hc
theorem we(a:mh K C):KitX K (.ref x) (.ref C) (fun h=>TyLk h x C) where
 ty:=fun M h _ p=>p.look M
 it:=fun M h X _=>by
  obtain⟨c1,d1,Yq,s1,ho⟩:=lX X a;intro A' Q' E' s' k q;unfold isType loadHead;exact K8 (wpAny_loadPart (k _ _ ho) (Lh q))
 ne:=fun h tp dd gV n sl X htp=>by
  obtain⟨c1,d1,Yq,s1,ho⟩:=lX X a;refine O_.mpr fun q=>?_
  have e:C=tp:=Vx (beq_iff_eq.mp q);subst e;have z:=ho.symm.trans htp;cases z
 ca:=fun X p k=>AJ X p a k
end
def vw(K:Frag)(C:Addr)(c:V)(b:Bool):Prop:=match c with
 |.ref D=>kitOne K (.ref C) (.ref D)=some b
 |.ty n=>kitOne K (.ref C) (.type n)=some b
 |_=>False
abbrev Fv(K:Frag):List V->Hp->VK->Prop:=fun xs H Q=>∃e C c b,xs=[.ref e,c]/\ExH H e C/\mh K C/\vw K C c b/\Q (.bl b) H
theorem cg:g8 X (.builtin "isinstance") (Fv X.K):=by
 intro pins s σ H xs us Q I r h;obtain⟨e,C,c,b,rfl,he,a,k,q⟩:=h;obtain⟨u,u',rfl,rx,ry⟩:=vals2 r;obtain rfl:u=LZ e:=rx
 have ty:TyLk s.heap e C:=by
  obtain⟨d,he⟩:=he;cases d with
  |none=>exact(I.hok e _ he).1
  |some dx=>obtain⟨oe,h1,h2,_⟩:=(I.hok e _ he).1;exact⟨oe,h1,h2⟩
 have fin:∀tk,EP X pins σ Q (.bool b) {s with toks:=tk}:=fun tk=>⟨.bl b,H,I.tok tk,rfl,q⟩
 cases c with
 |ref D =>
  obtain rfl:u'=LZ D:=ry;exact kia_one (we a) I.kIn ty k (fun z=>nomatch z) fin
 |ty n =>
  obtain rfl:u'=OP n:=ry;exact kia_one (we a) I.kIn ty k (fun z=>nomatch z) fin
 |non=>exact k.elim
 |bl _=>exact k.elim
 |int _=>exact k.elim
 |str _=>exact k.elim
 |byt _=>exact k.elim
 |flt _=>exact k.elim
theorem F9{K:Frag}  {b:Bool} {cd:O4} (h:mroIn K C (.ref D)=some b) (hs:mroIn K C (.ref C)=some true) (ht:typeIn K (.ref D)=some (.type "type")) (hc:clsIn K D=some cd):vw K C (.ref D) b:=by
 show kitOne K (.ref C) (.ref D)=some b;unfold kitOne;by_cases e:C=D
 ·subst e;rw[hs] at h;cases h;rw[if_pos (beq_self_eq_true _)]
 ·rw[if_neg (fun z=>e (Vx (beq_iff_eq.mp z)))];unfold kitCls;dsimp only;rw[if_pos (show((clsIn K D).isSome && typeIn K (.ref D) == some (.type "type"))=true by rw[hc,ht];rfl)];exact h
theorem F8{K:Frag}{b:Bool}(h:mroIn K C (.type n)=some b)(hm:kitMeta n=true):vw K C (.ty n) b:=by
 show kitOne K (.ref C) (.type n)=some b;unfold kitOne;rw[if_neg (fun z=>by cases beq_iff_eq.mp z)];unfold kitCls;dsimp only;rw[if_pos hm];exact h
section
variable{prog:LB}{w:LQ}{A:Mf}{E:La->Le->Prop}{h:Heap}{g:Array GenState}{d:Drawn}{t:Nat}{os:Tq}
variable{nm q:Str}{C N:Addr}{bs bm WB:List La}{hdct:Bool}{sn:List Str}{sub:List La}{ab:Bool}{col:Option Bool}{dd:Option Addr}{k0 k1 k2 k3 k5:Option La}{B newId Wl:String}
abbrev dZ(C t:Addr)(dx:Option Addr):Obj:={cls:=.ref C,dict:=dx,data:=.fields #[.ref t,.none,.none,.none,.bool false,.none]}
theorem xO{K:Fg}(F:Sa B newId Wl WB)(T:Tu h WB bm){rest:List La}{oI:Obj}{Q:Fin->Le->Prop}(X:K.In h)
  (hC:h.get? C=some (excClassObj nm q C N bs bm hdct sn sub ab col dd k0 k1 k2 k3 k5 newId)) (hi:OJ K (.ref C) "__init__"=some (some (.ref fI))) (hfI:h.get? fI=some oI) (Yu:oI.cls=.type "function")
  (hq:wpAny (model prog w) A (call (.ref fI) (.ref (h.objs.size+1) :: rest)) (fun r s'=>r=.none/\Q (.done (.ret (.ref (h.objs.size+1)))) s') E ⟨(h.push {cls:=.type "tuple",data:=.seq rest.toArray}).push (dZ C h.objs.size none),g,d,t,os⟩) (WS:rest.length<=sizeLine) :
  wpAny (model prog w) A (Og.«type.__call__» ⟨.ref C :: rest,[]⟩) Q E ⟨h,g,d,t,os⟩:=by
 repeat (first|with_reducible refine Nz hC ?_|with_reducible refine wpAny_madeBy_exc hC ?_|wp_step)
 refine codeAny_call_builtin_code (P3 _ F.quiet) (wpAny_check_new_subT F T hC (codeAny_exc_new_subT F T hC (?_:wpAny _ _ _ _ _ _) WS));have up:∀b o,h.get? b=some o->((h.push {cls:=.type "tuple",data:=.seq rest.toArray}).push {cls:=.ref C,data:=.fields #[.ref h.objs.size,.none,.none,.none,.bool false,.none]}).get? b=some o:=fun b o e=>Lb _ (Lb _ e)
 have hC1:=up _ _ hC;have hfI1:=up _ _ hfI;have X1:=X.keeps up;have W_:((h.push {cls:=.type "tuple",data:=.seq rest.toArray}).push {cls:=.ref C,data:=.fields #[.ref h.objs.size,.none,.none,.none,.bool false,.none]}).get? (h.objs.size+1)=some {cls:=.ref C,data:=.fields #[.ref h.objs.size,.none,.none,.none,.bool false,.none]}:=by heap_get
 have hcC:(LZ C :: bm).contains (.ref C)=true:=by simp
 unfold isInstance
 repeat (first|with_reducible refine Nz W_ ?_|(with_reducible refine PF hC1 ?_;rw[hcC])|wp_step)
 refine(?_:wpAny _ _ (typeLookup (.ref C) _) _ _ _);refine PySem.W.Looks.here (PySem.W.looks_findIn X1 hi) ?_;refine MJ (K8 ?_);unfold bindSpecial;refine K8 (Uk (T:="function") ⟨_,hfI1,Yu⟩ ?_);rw[if_pos (by decide)];refine Lh (K8 (Mi hq (fun r s' hr=>?_) fun _ _ x=>x));obtain⟨rfl,hQ⟩:=hr;wp_walk;exact hQ
theorem Dm{K:Fg}(F:Sa B newId Wl WB)(T:Tu h WB bm){rest:List La}{oI:Obj}{Q:La->Le->Prop}(X:K.In h)
  (hC:h.get? C=some (excClassObj nm q C N bs bm hdct sn sub ab col dd k0 k1 k2 k3 k5 newId)) (hi:OJ K (.ref C) "__init__"=some (some (.ref fI))) (hfI:h.get? fI=some oI) (Yu:oI.cls=.type "function")
  (hq:wpAny (model prog w) (A.under (.builtin "type.__call__" ⟨.ref C :: rest,[]⟩)) (call (.ref fI) (.ref (h.objs.size+1) :: rest)) (fun r s'=>r=.none/\Q (.ref (h.objs.size+1)) s') E ⟨(h.push {cls:=.type "tuple",data:=.seq rest.toArray}).push (dZ C h.objs.size none),g,d,t,os⟩) (WS:rest.length<=sizeLine) :
  wpAny (model prog w) A (call (.ref C) rest) Q E ⟨h,g,d,t,os⟩:=by
 have f1:=tc_lookup;have f2:=tc_bind (.ref C);have hT:(⟨h,g,d,t,os⟩:Le).TypeIs (.ref C) "type":=⟨_,hC,rfl⟩
 refine P2 (codeAny_of_tree (?_:wpAny _ _ (callAny (.ref C) _) _ _ _))
 repeat (any_goals (first|assumption|with_reducible refine Nz hC ?_|wp_step))
 exact⟨rfl,codeAny_call_builtin_at (P3 _ (by decide +kernel)) entry_typeCall (wpAny_check_type_call_sub hC (xO F T X hC hi hfI Yu hq WS))⟩
end
open PySem PySem.Spec PyProof.Rows PySem.W
section
variable{prog:LB}{w:LQ}{A:Mf}{E:La->Le->Prop}{h:Heap}{g:Array GenState}{d:Drawn}{t:Nat}{os:Tq}
variable{nm q:Str}{C N:Addr}{bs bm WB:List La}{hdct:Bool}{sn:List Str}{sub:List La}{ab:Bool}{col:Option Bool}{dd:Option Addr}{k0 k1 k2 k3 k5:Option La}{B newId Wl:String}
theorem A9(F:Sa B newId Wl WB)(T:Tu h WB bm){rest:List La}{e:Addr}{Q:La->Le->Prop}
  (hC:h.get? C=some (excClassObj nm q C N bs bm hdct sn sub ab col dd k0 k1 k2 k3 k5 newId)) (he:h.get? e=some (dZ C t0 dx))
  (hq:∀h' t1,(∀b o,b≠e->h.get? b=some o->h'.get? b=some o)->h'.get? e=some (dZ C t1 dx)->Q .none ⟨h',g,d,t,os⟩) (WS:rest.length<=sizeLine) :
  wpAny (model prog w) A (call (.builtin Wl) (.ref e :: rest)) Q E ⟨h,g,d,t,os⟩:=by
 refine P2 (NY F.init.plain F.initEntry (wpAny_check_init_subT F T hC he rfl ?_));wp_walk;have ne:h.objs.size≠e:=NQ (Ls he);refine hq _ h.objs.size (fun b o nb hb=>?_) ?_
 ·rw[Mw _ _ (Nd nb)];exact Lb _ hb
 ·rw[MZ _ (Lb _ he) rfl];rfl
end
section
variable{prog:LB}{w:LQ}{A:Mf}{E:La->Le->Prop}{s:Le}{K:Frag}{x C:Addr}{R:SQ->Le->Prop}{name:Str}{v:La}
structure sP (K:Frag) (C:Addr) (f:Str):Prop where
 sa:findIn K (.ref C) "__setattr__"=some (some (.builtin "object.__setattr__"))
 no:findIn K (.ref C) f=some none
 hd:hasDictIn K C=true
 mro:∃cd tl,clsIn K C=some cd/\cd.mro=tl++[.type "ValueError",.type "Exception",.type "BaseException",.type "object"]/\tl.all (fun|.ref _=>true|_=>false)=true
 ob:mroIn K C (.type "object")=some true
theorem kT(self:La):∀{l r:List La},l.all (fun|.ref _=>true|_=>false)=true->refuseLoop self "__setattr__" r=pure ()->refuseLoop self "__setattr__" (l++r)=pure ()
 |[],_,_,e=>e
 |.ref c :: l,r,a,e=>by rw[RI,refuseLoop_ref];exact kT self (by simpa using a) e
theorem AI{Q:Unit->Le->Prop}(X:K.In s.heap)(hx:s.heap.get? x=some (dZ C t0 none))(a:sP K C name)
  (h:∀h' tk,h'.Ns1 s.heap.objs.size (fun y=>if y=name then some v else none)->h'.get? x=some (dZ C t0 (some s.heap.objs.size))->(∀b o,b≠x->s.heap.get? b=some o->h'.get? b=some o)->Q () {s with heap:=h',toks:=tk}) :
  wpAny (model prog w) A (setAttr (.ref x) name v) Q E s:=by
 have SF:=PySem.F.store_ValueError;obtain⟨cd,tl,hc,hm,htl⟩:=a.mro;have I:InstAt s.heap x (dZ C t0 none) C none:=⟨hx,rfl,rfl,trivial⟩
 refine set_plain X I a.sa ?_;have sub:Uq (model prog w) s.heap (isInstance (.ref x) (.type "object")) true:=I.type.andThen (U4 X a.ob);refine NY SF.slot.plain SF.entry (@check_slot (model prog w) _ _ {s with toks:=s.toks+1} "object.__setattr__" "object" "__setattr__" (.ref x) [.str name s.toks,v] [] _ SF.kind SF.split sub (SF.args (.ref x) (.str name s.toks) v) ?_);have Y7:Uq (model prog w) s.heap (mroOf (.ref C)) cd.mro:=(looks_clsIn X hc).andThen .now;rw[osa_eq,refuse_eq];refine K8 (K8 (Qq (s:={s with toks:=s.toks+1}) I.type (K8 (Qq (s:={s with toks:=s.toks+1}) Y7 ?_))));rw[hm,kT _ htl (SF.passes _)];refine Lh (K8 (Qq (s:={s with toks:=s.toks+1}) I.type (K8 (Qq (s:={s with toks:=s.toks+1}) (Qi X a.no) (K8 (Lh ?_))))));obtain⟨cd',V9,W9⟩:=any_some a.hd;cases hc.symm.trans V9;have xs:x≠s.heap.objs.size:=LA (Ls hx);have hx1:(s.heap.push {cls:=.type "dict",data:=.dict #[]}).get? x=some (dZ C t0 none):=Lb _ hx;refine K8 (Lh (K8 (K8 (wpAny_loadPart hx (K8 (Qq (s:={s with toks:=s.toks+1}) (looks_clsIn X hc) ?_))))));rw[W9];have hx2:((s.heap.push {cls:=.type "dict",data:=.dict #[]}).update x fun o=>{cls:=o.cls,dict:=some s.heap.objs.size,data:=o.data,slots:=o.slots}).get? x=some (dZ C t0 (some s.heap.objs.size)):=MZ _ hx1 rfl;have hgd:((s.heap.push {cls:=.type "dict",data:=.dict #[]}).update x fun o=>{cls:=o.cls,dict:=some s.heap.objs.size,data:=o.data,slots:=o.slots}).get? s.heap.objs.size=some {cls:=.type "dict",data:=.dict #[]}:=(TF _ _ _ _ xs.symm).trans (Heap.get?_push_at rfl rfl);have hnd:((s.heap.push {cls:=.type "dict",data:=.dict #[]}).update x fun o=>{cls:=o.cls,dict:=some s.heap.objs.size,data:=o.data,slots:=o.slots}).Ns s.heap.objs.size (fun _=>none):=⟨_,#[],_,hgd,rfl,fun e he=>absurd he (by simp),fun _=>rfl⟩
 refine K8 (wpAny_alloc' (K8 (wpAny_update' hx1 (Lh (a:=some s.heap.objs.size) ?_))));refine K8 (Lh (K8 (wpAny_nsSet1 (Heap.Ns1.of_empty hnd) fun h' Yv hs=>?_)));obtain⟨oD,esD,epD,hoD,hdD,hcD⟩:=Yv.count (R4.cons name v R4.nil);refine K8 (wpAny_lookBehind hoD (by rw[hdD];exact pastItsLine_dict (Mh hcD (by rw[LS,QL,Rn];walk_at "om"))) ?_);exact Lh (h _ _ Yv ((hs.2 x xs).trans hx2) fun b o nb hb=>(hs.2 b (LA (Ls hb))).trans ((TF _ _ _ _ nb).trans (Lb _ hb)))
theorem Db{dx:Addr}{ox:Obj}{Q:La->Le->Prop}(X:K.In s.heap)(hx:s.heap.get? x=some ox)(hc:ox.cls=.ref C)(hn:notCls ox=true)(Xj:ox.dict=some dx)(n:s.heap.Ns1 dx mA)(a:mh K C)(b:sP K C name)
  (hv:mA name=some v) (hv':handedIn v=true) (h:Q v {s with toks:=s.toks+1}):wpAny (model prog w) A (getAttr (.ref x) name expr) Q E s:=by
 obtain⟨od,ho,hl⟩:=rP n;have I:InstAt s.heap x ox C (some od):=⟨hx,hc,hn,by rw[Xj];exact ho⟩
 have i:TyLk s.heap x C:=⟨ox,hx,hc⟩
 have L0:=i.look (model prog w);have L1:=Qi (M:=model prog w) X a.ga;have L2:=Qi (M:=model prog w) X a.hk;have LF:Uq (model prog w) s.heap (Og.ObjectAttr.find (.ref x) (.ref C) name) (.value v):=looks_find X I (findObj_own b.hd b.no rfl (by rw[hl,hv]));unfold getAttr getAttrBy;refine K8 (wpAny_mkText (MJ (K8 (Qq (s:={s with toks:=s.toks+1}) L0 (K8 (Qq (s:={s with toks:=s.toks+1}) L1 ?_))))));show wpAny _ _ (getAttrByItsOwn _ _ _ _ _ _) _ _ _;unfold getAttrByItsOwn hookBefore;refine K8 ?_;rw[if_pos (show onTheHeap (LZ C)=true from rfl)];refine L2.at ?_;refine K8 (O5 (MJ ?_));unfold callGetattribute;rw[if_neg (by rw[show onTheHeap (Vw "BaseException.__getattribute__")=false from rfl,Qj];decide)];unfold boundAndCalled;rw[Pk.ga.bind (.ref x)];refine K8 (Lh (P2 (NY Pk.ga.plain F.entry_bexc_ga (sF (s:={s with toks:=s.toks+1}) X i a.be (F.args_bexc_ga _ _) ?_))));obtain⟨hh,g,d,t,os⟩:=s;unfold Og.«object.__getattribute__»
 repeat lk
 show wpAny (model prog w) A (handedOut v) Q E _;rw[handedOut_of hv'];exact Lh h
end
abbrev EA:List La:=[.type "ValueError",.type "Exception",.type "BaseException",.type "object"]
structure ExcI (K:Frag) (mg:Str->Option La) (x:Str) (C f:Addr):Prop where
 at_:mg x=some (.ref C)
 sh:∃tl N nm q bs hdct sn sub ab col dd k0 k1 k2 k3 k5,K.lookup C=some (excClassObj nm q C N bs tl hdct sn sub ab col dd k0 k1 k2 k3 k5 "ValueError.__new__")/\∀h:Heap,K.In h->Tu h EA tl
 fi:findIn K (.ref C) "__init__"=some (some (.ref f))
 fn:isFn K (.ref f)=true
 kp:keepIn K (.ref C)=true
theorem ExcI.ob{K:Frag}(i:ExcI K mg x C f):DE K C:=fun h X=>by
 obtain⟨tl,N,nm,q,bs,hdct,sn,sub,ab,col,dd,k0,k1,k2,k3,k5,l,_⟩:=i.sh;exact⟨tl,N,nm,q,bs,hdct,sn,sub,ab,col,dd,k0,k1,k2,k3,k5,_,X _ _ l⟩
def gz(e C:Addr)(d:Option Addr):HO:=.ext fun h=>∃t,h.get? e=some (dZ C t d)
theorem ve{h:Heap}{e:Addr}(he:h.get? e=some (dZ C t d)):cP P w H h e (gz e C d) :=
 ⟨⟨t,he⟩,⟨_,he⟩,fun _ _ ⟨t,h1⟩ k=>⟨t,k _ h1⟩⟩
def Bi(H:Hp)(e:Addr):Hp:=fun b=>if b=e then none else H b
theorem Dj:Bi H e e=none:=by unfold Bi;rw[if_pos rfl]
theorem i0{e b:Addr}(h:b≠e):Bi H e b=H b:=by unfold Bi;rw[if_neg h]
section
variable{X:Cx}{pins:List (Addr×Obj)}{σ:St}{H:Hp}{s:Le}
theorem pO{E:XK}(I:Inv X pins σ H s)(o:jx X)(hx:H e=some (gz e C d))(h0:X.s₀.heap.get? e=none)(hE:E (.ref C) d (Bi H e)) :
  wpAny M X.A (leaving X.env (.ref e)) (fun _ WY=>ky X.prog X.w X.outer X.H₀ X.s₀ E (.ref e) WY) E' s:=by
 obtain⟨t,he⟩:=(I.hok e _ hx).1;have FF:s.heap.FunFrames X.base (X.env :: X.outer):=o.stk ▸ I.stack;have Wo:X.A.frames=some (X.env :: X.outer):=o.stk ▸ I.ok.frames;have eqf:(X.env :: X.outer).filterMap (·.frame)=L2.frs X.stack:=by rw[o.stk];rfl
 have YY:∀env∈(X.env :: X.outer),∀b,env.frame=some b->b∈e :: (X.env :: X.outer).filterMap (·.frame):=fun env he b hb=>Lj _ (MS.mpr ⟨env,he,hb⟩)
 have nox:∀b:Addr,b∉X.ex:=fun b z=>by rw[o.exs] at z;cases z
 have WK:∀{b:Addr} {ob:Obj},s.heap.get? b=some ob->b≠e->b∉L2.frs X.stack->(hideAll s.heap (e :: (X.env :: X.outer).filterMap (·.frame))).get? b=some ob:=fun {b ob} q n1 n2=>hideAll_get _ q (fun z=>by rcases Lr.mp z with z|z;exact n1 z;rw[eqf] at z;exact n2 z)
 have ne0:∀{b:Addr} {ob:Obj},X.s₀.heap.get? b=some ob->b≠e:=fun q z=>by rw[z,h0] at q;cases q
 refine jD (φ:=fun o=>o.dict=d) (base:=hideAll s.heap (e :: (X.env :: X.outer).filterMap (·.frame))) (h:=s.heap) km rfl Wo (funFrames_hide FF YY) o.frm he (fun b ob q=>of_hideAll _ q) (hideAll_none _ Lg) rfl rfl rfl fun h' fl up=>?_
 refine⟨e,C,_,_,Bi H e,d,rfl,fl,⟨fun a ob q=>?_,fun b ob q n hb=>?_,fun b ob q n hb=>?_,fun b ob q n=>?_,fun b ob q hb=>?_,fun b xs q=>?_,fun b ob u q=>?_,fun b ps q=>?_⟩,I.os,I.bare,hE⟩
 ·have na:a≠e:=fun z=>by rw[z,Dj] at q;cases q
  rw[i0 na] at q;refine(I.hok a ob q).stay (fun b u hb g=>WK g (fun z=>?_) fun z=>?_) (fun b z=>?_) fun b xs z=>?_
  ·subst z;rcases hb with hb|hb
   ·exact na hb.symm
   ·rw[hx] at hb;cases hb
  ·have fz:=I.kH b z;rcases hb with hb|hb
   ·rw[hb,q] at fz;cases fz
   ·rw[hb] at fz;cases fz
  ·rw[i0 (fun w=>by rw[w,hx] at z;cases z)];exact z
  ·rw[i0 (fun w=>by rw[w,hx] at z;cases z)];exact z
 ·exact WK (I.base.keep b ob q n hb (nox b)) (ne0 q) (I.jm o q hb)
 ·obtain⟨sl,e1⟩:=I.base.slot b ob q n hb (nox b);obtain⟨W4,e2⟩:=up b _ e1 (fun vs=>I.lV hb e1 vs);exact⟨W4,e2⟩
 ·rw[i0 (ne0 q)];exact I.base.free b ob q n (nox b)
 ·obtain⟨o',e1⟩:=I.base.there b ob q (nox b);exact⟨o',WK e1 (ne0 q) (I.jm o q hb)⟩
 ·have z:=I.base.tups b xs q;rw[i0 (fun w=>by rw[w,hx] at z;cases z)];exact z
 ·have z:=I.base.frzs b ob u q;rw[i0 (fun w=>by rw[w,hx] at z;cases z)];exact z
 ·obtain⟨m,z⟩:=I.base.tbls b ps q;exact⟨m,by rw[i0 (fun w=>by rw[w,hx] at z;cases z)];exact z⟩
end
section
variable{M:Model}{A:Mf}{E:La->Le->Prop}{env:Env}{s:Le}{Q:Flow->Le->Prop}
theorem B9{K:Frag}   (hb:DE K C) (W8:mroIn K C (.type "BaseException")=some true) (hh:A.handled=none)
  (h:wpAny M A x (fun v s1=>∃e t d,v=.ref e/\K.In s1.heap/\s1.heap.get? e=some (dZ C t d)/\E (.ref e) s1) E s):wpAny M A (raiseStmt env (some x) none) Q E s:=by
 unfold raiseStmt;refine K8 (Mi h (fun v s1 h1=>?_) fun _ _ x=>x);obtain⟨e,t,d,rfl,X,he,hE⟩:=h1;obtain⟨tl,N,nm,q,bs,hdct,sn,sub,ab,col,dd,k0,k1,k2,k3,k5,nw,hC⟩:=hb _ X;obtain⟨cd,ce,cm⟩:=N1.mp W8
 have hcB:(LZ C :: tl).contains (.type "BaseException")=true:=by
  unfold clsIn at ce;split at ce
  ·rename_i c1 d1 Yq s2 lk;cases ce;have z:=(X _ _ lk).symm.trans hC;unfold excClassObj at z;cases z;split at cm
   ·cases cm
   ·exact LD cm
  ·cases ce
 obtain⟨hp,g,dr,tk,os⟩:=s1;have he':hp.get? e=some {cls:=.ref C,dict:=d,data:=.fields #[.ref t,.none,.none,.none,.bool false,.none]}:=he
 repeat (first|with_reducible refine Nz he' ?_|with_reducible refine Nz hC ?_|(with_reducible refine PF hC ?_;rw[hcB])|wp_step)
 exact wpAny_raiseNew_none hh hE
end
def oH(E:XK)(C:Addr)(sp:Sp)(te:TE):TS:=fun _ σ H=>te σ H fun x H1=>∀e,H1 e=none->sp [.ref e,x] (upd H1 e (gz e C none)) (fun r H2=>r=.non/\∃d,H2 e=some (gz e C d)/\E (.ref C) d (Bi H2 e)) E0
theorem y8{VP pos:Pos}  {te:TE} (l:Lv X E) (hc:X.calm=true) (hg:Gl X x) (c:ExcI X.K X.mg x C f) (W8:mroIn X.K C (.type "BaseException")=some true)
  (Fk:FnOk X.prog X.w X.K X.mg X.base dh k f fd ps sp) (hr:Room (k+1) X.A) (hb:Binds X.K fd ps []) (hps:ps.length=2) (he:PE X e₀ te)
  (hst:starEach [e₀] X.env=[(false,eval e₀ X.env)]:=by rfl) (hdb:(x == ("__debug__":Str))=false:=by decide) :
  PS X (.Raise (some (.Call (.Name x np) [e₀] [] VP)) none pos) (oH E C sp te):=by
 intro pins s σ H D I h;rw[arm_exec_Raise];simp only[evalOpt,Vk];refine K8 (O1 (B9 (K:=X.K) c.ob W8 (I.ok.hd hc) (K8 (Mi (Q:=fun v s1=>∃e t d,v=.ref e/\X.K.In s1.heap/\s1.heap.get? e=some (dZ C t d)/\X.xe (.ref e) s1) ?_ (fun v s3 h3=>K8 (O1 (Lh h3))) fun _ _ z=>z))));refine Nq (gn I hg c.at_ ?_ hdb);refine callWith_K (h₀:=X.base) I.ok.mod.kin c.kp (bQ ((af he ak (by rw[hst];rfl)) VP pins s σ H (fun vs H1=>∀e,H1 e=none->sp (.ref e :: vs) (upd H1 e (gz e C none)) (fun r H2=>r=.non/\∃d,H2 e=some (gz e C d)/\E (.ref C) d (Bi H2 e)) E0) I h) fun us s1 ⟨vs,H1,I1,r,q⟩=>⟨I1.kIn,?_⟩) (by rw[hst];rfl) rfl;have hq:=q (s1.heap.objs.size+1) (I1.hok.fresh (Pl _));have X1:=I1.kIn;obtain⟨tl,N,nm,qn,bs,hdct,sn,sub,ab,col,dd,k0,k1,k2,k3,k5,lk,ht⟩:=c.sh;obtain⟨oI,lI,cI⟩:=Lu.mp (beq_iff_eq.mp c.fn);have Zq:=Fk.len _ _ _ _ hq;rw[hps] at Zq;have Zp:us.length=1:=by rw[<- r.length];exact NS Zq
 obtain⟨hh,g,dr,tk,os⟩:=s1;have up:∀b o,hh.get? b=some o->((hh.push {cls:=.type "tuple",data:=.seq us.toArray}).push (dZ C hh.objs.size none)).get? b=some o:=fun b o z=>Lb _ (Lb _ z)
 have got:((hh.push {cls:=.type "tuple",data:=.seq us.toArray}).push (dZ C hh.objs.size none)).get? (hh.objs.size+1)=some (dZ C hh.objs.size none):=by heap_get
 have I2:Inv X pins σ (upd H1 (hh.objs.size+1) (gz (hh.objs.size+1) C none)) ⟨(hh.push {cls:=.type "tuple",data:=.seq us.toArray}).push (dZ C hh.objs.size none),g,dr,tk,os⟩ :=
  I1.laid (a:=hh.objs.size+1) (t':=tk) up (Pl _) (ve got)
 have r2:Vals (V.ref (hh.objs.size+1) :: vs) (LZ (hh.objs.size+1) :: us):=.cons rfl r;have hl:(LZ (hh.objs.size+1) :: us++[]).length=ps.length:=by rw[M9,hps,LS,Zp]
 refine Dm SU (ht _ X1) X1 (X1 _ _ lk) c.fi (X1 _ _ lI) cI ?_ (by rw[QI,Zp];decide);have bd:=hb _ (LZ (hh.objs.size+1) :: us) I2.kIn hl;rw[M9] at bd;refine P2 (Pu (Fk.run _ X.stack _ _ ⟨LZ (hh.objs.size+1) :: us,[]⟩ (LZ (hh.objs.size+1) :: us) _ _ E0 (hr.make C us []) (I2.env0.make C us []) bd r2 hq) fun rr s' Y_=>?_);have s0:X.s₀.heap.get? (hh.objs.size+1)=none:=QE (Mh I1.sz (Pl _));cases rr with
 |error e=>exact Y_.elim
 |ok fl =>
  cases fl with
  |ret u =>
   obtain⟨v,H',I3,rv,ev,dx,e3,q3⟩:=I2.after Y_;subst ev;obtain⟨t3,g3⟩:=(I3.hok _ _ e3).1;exact⟨rv,_,t3,dx,rfl,I3.kIn,g3,l.2 _ _ (pO I3 l.1 e3 s0 q3)⟩
  |next=>exact Np Y_
  |brk=>exact Np Y_
  |cont=>exact Np Y_
def xG (K:Frag) (C:Addr):Prop:=∃tl N nm q bs hdct sn sub ab col dd k0 k1 k2 k3 k5,K.lookup C=some (excClassObj nm q C N bs tl hdct sn sub ab col dd k0 k1 k2 k3 k5 "ValueError.__new__")/\∀h:Heap,K.In h->Tu h EA tl
theorem ExcI.shape{K:Frag}(i:ExcI K mg x C f):xG K C:=by
 obtain⟨tl,N,nm,q,bs,hdct,sn,sub,ab,col,dd,k0,k1,k2,k3,k5,l,t⟩:=i.sh;exact⟨tl,N,nm,q,bs,hdct,sn,sub,ab,col,dd,k0,k1,k2,k3,k5,l,t⟩
theorem Bt{K:Frag}{V:Addr}{cd cv:O4}{sub:List La}(xV:excIn K V EA nw=true)(dV:clsIn K V=some cv)(mV:cv.mro=[.ref V]++EA)
  (L:K.lookup C=some (excClassObj nm q C N bs tl hdct sn sub ab col dd k0 k1 k2 k3 k5 n2)) (dC:clsIn K C=some cd) (mC:cd.mro=[.ref C,.ref V]++EA) (h:Heap) (X:K.In h):Tu h EA tl:=by
 have e1:tl=.ref V :: EA:=by
  unfold clsIn at dC;rw[L] at dC;unfold excClassObj at dC;cases dC;exact(MK mC).2
 obtain⟨tV,NV,_,_,_,_,_,_,_,_,_,_,_,_,_,_,mN,hV,hn,hi,T⟩:=pZ X xV
 have e2:tV=EA:=by
  unfold clsIn at dV;split at dV
  ·rename_i c1 d1 Yq s1 lk;cases dV;have z:=(X _ _ lk).symm.trans hV;unfold excClassObj at z;cases z;exact(MK mV).2
  ·cases dV
 rw[e1];rw[e2] at hV T;exact .own hV hn hi T
structure Jp (K:Frag) (mg:Str->Option La) (v:Str) (V:Addr):Prop where
 at_:mg v=some (.ref V)
 sg:specialIn K (.ref V) "__getattribute__"=some (some (.builtin "type.__getattribute__"))
 rd:readsIn K V (.type "type")=true
 fc:findCls K (.ref V) (.type "type") "__init__"=some (.val (.builtin "ValueError.__init__"))
def yf(K:Frag)(t:TA):TE:=fun σ H Q=>t σ H fun vs H2=>∃e C d y,vs=[.ref e,y]/\H2 e=some (gz e C d)/\xG K C/\Q .non H2
section
variable{X:Cx}{o a value:Expr}{es:List Expr}{ta tv:TE}{t:TA}{f v:Str}{V:Addr}{vp apos pos pos':Pos}
theorem Ct{pl:Sem Bool} (hg:Gl X v) (B:Jp X.K X.mg v V) (ha:PA X (a :: es) t) (hdb:(v == ("__debug__":Str))=false:=by decide)
  (hst:starEach (a :: es) X.env=(false,eval a X.env) :: starEach es X.env:=by rfl) (WF:(backTo pos (starEach es X.env)).any (·.1)=false:=by rfl)
  (ht:eval (.Call (.Attribute (.Name v vp) "__init__" apos) (a :: es) [] pos) X.env=(do
   let ov <- eval (.Name v vp) X.env
   standAt apos.atName
   let (f,first) <- holding [ov] (getMethod ov "__init__" pl)
   callWith pos f first (backTo pos (starEach (a :: es) X.env)) (backToKw pos (keywordEach [] X.env))):=by rfl) :
  PE X (.Call (.Attribute (.Name v vp) "__init__" apos) (a :: es) [] pos) (yf X.K t):=by
 intro pins s σ H Q I h;refine methodCall_KW (pl:=pl) (gn I hg B.at_ (method_cls I.kIn B.sg (cls_value I.kIn B.rd B.fc (by decide +kernel) ?_)) hdb) ht;refine NM (bQ (ha pos pins {s with toks:=s.toks+1} σ H _ (I.tok _) h) fun us s2 ⟨vs,H2,I2,r,e,C,d,y,hv,he,hS,q⟩=>?_) hst WF;subst hv;obtain⟨u,u2,rfl,rx,_⟩:=vals2 r;obtain rfl:u=LZ e:=rx;obtain⟨tl,N,nm,qn,bs,hdct,sn,sub,ab,col,dd,k0,k1,k2,k3,k5,lk,ht'⟩:=hS;obtain⟨t0,g⟩:=(I2.hok e _ he).1;obtain⟨hh,gs,dr,tk,os⟩:=s2;refine A9 (rest:=[u2]) SU (ht' _ I2.kIn) (I2.kIn _ _ lk) g (fun h' t1 kp gx=>?_) (show 1<=sizeLine by decide);have I3:Inv X pins σ (upd H2 e (gz e C d)) ⟨h',gs,dr,tk,os⟩:=I2.write (x:=e) (e:=e) (t':=tk) (by rw[he];exact Oc) (.inl rfl) kp ⟨_,gx⟩ (ve gx)
 have eH:upd H2 e (gz e C d)=H2:=funext fun b=>by
  by_cases z:b=e
  ·rw[z,aq,he]
  ·rw[bf z]
 rw[eH] at I3;exact⟨.non,H2,I3,rfl,q⟩
def Hh(K:Frag)(ta tv:TE)(f:Str):TS:=fun D σ H=>tv σ H fun y H1=>ta σ H1 fun x H2=>∃e C,x=.ref e/\H2 e=some (gz e C none)/\sP K C f/\∀dx,H2 dx=none->D.nx σ (upd (upd H2 dx (.xd [(f,y)])) e (gz e C (some dx)))
theorem Fz(ha:PE X o ta)(hv:PE X value tv)(hs:swapsWith value (some (.Attribute o f pos')) pos.line X.env=pure false):PS X (.Assign [.Attribute o f pos'] value pos) (Hh X.K ta tv f):=by
 intro pins s σ H D I h;refine plainObj_wpAny_Assign_Attribute (bQ (hv pins s σ H _ I h) fun u s1 ⟨y,H1,I1,ry,q⟩=>bQ (ha pins s1 σ H1 _ I1 q) fun ov s2 ⟨x,H2,I2,rx,e,C,ex,he,F,q2⟩=>?_) hs;subst ex;obtain rfl:ov=LZ e:=rx;obtain⟨t,g⟩:=(I2.hok e _ he).1;refine AI I2.kIn g F fun h' tk n gx kp=>?_
 have fr:H2 s2.heap.objs.size=none:=I2.hok.fresh (Lf _);have ne:e≠s2.heap.objs.size:=LA (Ls g)
 have hxd:∀H',cP X.prog X.w H' h' s2.heap.objs.size (.xd [(f,y)]):=fun H'=>by
  refine⟨_,n,fun k=>?_⟩;by_cases z:k=f
  ·subst z;simp only[List.lookup,BEq.rfl,if_pos];exact ry
  ·have zb:(k == f)=false:=beq_eq_false_iff_ne.mpr z;simp only[List.lookup,zb,if_neg z];exact Oc
 have I3:Inv X pins σ (upd H2 e (gz e C (some s2.heap.objs.size))) {s2 with heap:=h',toks:=tk}:=I2.write (x:=e) (e:=e) (t':=tk) (by rw[he];exact Oc) (.inl rfl) kp ⟨_,gx⟩ (ve gx)
 have I4:=I3.track (e:=s2.heap.objs.size) (o:=.xd [(f,y)]) (by rw[bf (Nd ne)];exact fr) (QE I2.sz) (NQ I2.lt)
  (fun x c z=>by obtain⟨v',ob,ho,_⟩:=I2.cell x c z;exact LA (Ls ho)) (fun p hp=>LA (Ls (I2.pin p hp).1)) (hxd _)
 refine⟨σ,_,I4,?_⟩
 have sw:upd (upd H2 e (gz e C (some s2.heap.objs.size))) s2.heap.objs.size (.xd [(f,y)])=upd (upd H2 s2.heap.objs.size (.xd [(f,y)])) e (gz e C (some s2.heap.objs.size)):=funext fun b=>by
  unfold upd;by_cases z:b=e
  ·rw[if_pos z,if_neg (fun w=>ne (z.symm.trans w)),if_pos z]
  ·rw[if_neg z,if_neg z]
 rw[sw];exact q2 _ fr
def ES(K:Frag)(ta:TE)(f:Str):TE:=fun σ H Q=>ta σ H fun x H1=>∃e C dx fs v,x=.ref e/\H1 e=some (xx e C dx)/\H1 dx=some (.xd fs)/\mh K C/\sP K C f/\fs.lookup f=some v/\Q v H1
theorem zr(he:PE X a ta)(hb:attributeBase a f X.env (eval a X.env)=eval a X.env):PE X (.Attribute a f pos) (ES X.K ta f):=by
 intro pins s σ H Q I h;refine GI hb (bQ (he pins s σ H _ I h) fun u s1 ⟨x,H1,I1,rx,e,C,dx,fs,v,ex,ee,ed,eA,eF,l,q⟩=>?_);subst ex;obtain rfl:u=LZ e:=rx;obtain⟨oe,h1,h2,h3,h4⟩:=(I1.hok e _ ee).1;obtain⟨mA,n,r⟩:=I1.hok dx _ ed;obtain⟨u',hu,ru⟩:=RelO.some_of (v:=v) (o:=mA f) (by rw[<- l];exact r f);exact Db I1.kIn h1 h2 h4 h3 n eA eF hu (Az ru) ⟨v,H1,I1.tok _,ru,q⟩
end
structure GT (P:LB) (w:LQ) (K:Frag) (mg:Str->Option La) (base:Heap) (k:Nat) (x:Str) (C:Addr) (sp:Sp):Prop where
 ex:∃(f:Addr) (fd:Oq) (ps:List Str),ExcI K mg x C f/\mroIn K C (.type "BaseException")=some true/\FnOk P w K mg base dh k f fd ps sp/\Binds K fd ps []/\ps.length=2
theorem y9{VP pos:Pos}{te:TE}(l:Lv X E)(hc:X.calm=true)(hg:Gl X x)(i:GT X.prog X.w X.K X.mg X.base k x C sp)(hr:Room (k+1) X.A)(he:PE X e₀ te)
  (hst:starEach [e₀] X.env=[(false,eval e₀ X.env)]:=by rfl) (hdb:(x == ("__debug__":Str))=false:=by decide) :
  PS X (.Raise (some (.Call (.Name x np) [e₀] [] VP)) none pos) (oH E C sp te):=by
 obtain⟨f,fd,ps,c,be,Fk,hb,hp⟩:=i.ex;exact y8 l hc hg c be Fk hr hb hp he hst hdb
def ua(K:Frag)(C:Addr)(f:Str):Sp:=fun vs H Q _=>∃(e:Addr) (n:Nat),vs=[.ref e,.int (n:Int)]/\n<1000/\H e=some (gz e C none)/\xG K C/\sP K C f/\∀dx,H dx=none->Q .non (upd (upd H dx (.xd [(f,.int (n:Int))])) e (gz e C (some dx)))
theorem FZ{K:Frag}{a b:Str}(h:ua K C f vs H Q E):vs.length=[a,b].length:=by
 obtain⟨e,y,rfl,_⟩:=h;rfl
theorem CM{K:Frag}{E:XK}{i:Nat}{D:dk}{σ:St}{n:Nat}(s:xG K C)(a:sP K C f)(hv:σ[i]?=some (some (.int (n:Int))))(hn:n<1000)
  (k:∀dx H',Same H H'->H' dx=some (.xd [(f,.int (n:Int))])->E (.ref C) (some dx) H'):oH E C (ua K C f) (ag i) D σ H:=by
 refine⟨_,hv,fun e he=>⟨e,n,rfl,hn,aq,s,a,fun dx Xj=>⟨rfl,some dx,aq,k dx _ ?_ ?_⟩⟩⟩
 ·have ne:dx≠e:=fun z=>by rw[z,aq] at Xj;cases Xj
  have hd1:H dx=none:=by rw[bf ne] at Xj;exact Xj
  intro b o q;have nb:b≠e:=fun z=>by rw[z,he] at q;cases q
  have nd:b≠dx:=fun z=>by rw[z,hd1] at q;cases q
  rw[i0 nb,bf nb,bf nd,bf nb];exact q
 ·have ne:dx≠e:=fun z=>by rw[z,aq] at Xj;cases Xj
  rw[i0 ne,bf ne,aq]
theorem Fun.iniC{K:Frag}         (c:ExcI K mg x C f) (be:mroIn K C (.type "BaseException")=some true) (F:FnOk P w K mg base dh k f fd ps sp) (b:Binds K fd ps []) (l:ps.length=2):GT P w K mg base k x C sp:=⟨⟨f,fd,ps,c,be,F,b,l⟩⟩
open PySem.W (Dat kqdP kqdPs kqdOk)
mutual
inductive Rep (K:Fg) (H:Hp):V->Dat->Prop
 |non:Rep K H .non .none
 |bl (b:Bool):Rep K H (.bl b) (.bool b)
 |int (i:Int):Rep K H (.int i) (.int i)
 |str (x:Str):Rep K H (.str x) (.str x)
 |tup {a:Addr} {xs:List V} {ds:List Dat}:SqT K H a xs->RepL K H xs ds->Rep K H (.ref a) (.tuple ds)
 |lst {a:Addr} {xs:List V} {ds:List Dat}:SqL K H a xs->RepL K H xs ds->Rep K H (.ref a) (.list ds)
inductive RepL (K:Fg) (H:Hp):List V->List Dat->Prop
 |nil:RepL K H [] []
 |cons {v:V} {d:Dat} {vs:List V} {ds:List Dat}:Rep K H v d->RepL K H vs ds->RepL K H (v :: vs) (d :: ds)
end
section
variable{K:Fg}{H H':Hp}
theorem RepL.length:∀{vs:List V} {ds:List Dat},RepL K H vs ds->vs.length=ds.length
 |_,_,.nil=>rfl
 |_,_,.cons _ r=>congrArg (· + 1) (RepL.length r)
theorem RepL.get:∀{vs:List V} {ds:List Dat} {i:Nat} {v:V},RepL K H vs ds->vs[i]?=some v->∃d,ds[i]?=some d/\Rep K H v d
 |_,_,_,_,.nil,e=>by simp at e
 |_,_,0,_,.cons h _,e=>by simp at e;subst e;exact⟨_,rfl,h⟩
 |_,_,i+1,v,.cons _ r,e=>by
  obtain⟨d,h1,h2⟩:=RepL.get (i:=i) (v:=v) r (by simpa using e);exact⟨d,by simpa using h1,h2⟩
theorem RepL.strs:∀ns:List Str,RepL K H (ns.map V.str) (ns.map Mu)
 |[]=>.nil
 |n :: ns=>.cons (.str n) (RepL.strs ns)
end
section
variable{X:Cx}{pins:List (Addr×Obj)}{σ:St}{H:Hp}{s:Le}
mutual
theorem Rep.reads(I:Inv X pins σ H s):∀{v:V} {d:Dat} {u:La},Rep X.K H v d->RelV v u->∃as,Ot s.heap u (kqdP d) as
 |_,_,u,.non,r=>by
  cases (show u=MI from r);exact⟨_,Ot.none⟩
 |_,_,u,.bl b,r=>by
  cases (show u=Q3 b from r);exact⟨_,Ot.bool b⟩
 |_,_,u,.int i,r=>by
  obtain⟨t,e⟩:=(show ∃t,u=RL i t from r)
  cases e;exact⟨_,Ot.int i t⟩
 |_,_,u,.str x,r=>by
  obtain⟨t,e⟩:=(show ∃t,u=Q2 x t from r)
  cases e;exact⟨_,Ot.str x t⟩
 |_,_,u,@Rep.tup _ _ a xs ds h q,r=>by
  cases (show u=LZ a from r);obtain⟨gV,rv,⟨o,e,c,n,dd⟩,_⟩:=I.tuple h;obtain⟨as,p⟩:=RepL.reads I q rv;rw[kqdP];exact⟨_,Ot.tuple e c dd (by simpa using p)⟩
 |_,_,u,@Rep.lst _ _ a xs ds h q,r=>by
  cases (show u=LZ a from r);obtain⟨gV,rv,⟨o,n,e,c,_,dd⟩,_⟩:=I.list h;obtain⟨as,p⟩:=RepL.reads I q rv;rw[kqdP];exact⟨_,Ot.list e c dd (by simpa using p)⟩
theorem RepL.reads(I:Inv X pins σ H s):∀{vs:List V} {ds:List Dat} {us:List La},RepL X.K H vs ds->Vals vs us->∃as,SV s.heap us (kqdPs ds) as
 |_,_,_,.nil,.nil=>by
  rw[kqdPs];exact⟨_,SV.nil⟩
 |_,_,_,.cons h q,.cons r rr=>by
  obtain⟨as,p⟩:=Rep.reads I h r;obtain⟨bs,p'⟩:=RepL.reads I q rr;rw[kqdPs];exact⟨_,SV.cons p p'⟩
end
open Classical in
theorem vg(hd:kqdOk 8 d=true)(he:kqdOk 8 e=true):Sb (kqdP d) (kqdP e)=decide (d=e):=by
 have q:=Su 8 d e 8 hd he;by_cases z:d=e
 ·rw[decide_eq_true z];exact q.mpr z
 ·rw[decide_eq_false z];exact O_.mpr fun y=>z (q.mp y)
theorem iK(h:kqdOk 8 d=true):SeqAt.shaped (kqdP d)=true:=by
 have l:=N5 8 d h;unfold SeqAt.shaped;rw[l.1,N_];exact decide_eq_true (Mh l.2 (by decide))
open Classical in
def uv(K:Fg):R2:=fun x y H Q=>∃d e,Rep K H x d/\Rep K H y e/\kqdOk 8 d=true/\kqdOk 8 e=true/\Q (.bl (decide (d=e))) H
open Classical in
def Cd(K:Fg):R2:=fun x y H Q=>∃d e,Rep K H x d/\Rep K H y e/\kqdOk 8 d=true/\kqdOk 8 e=true/\Q (.bl (!decide (d=e))) H
theorem v0(hu:X.A.units+64<cLine):gW X (compareOp .Eq) (uv X.K):=by
 intro pins s σ H x y v u Q I rx ry h;obtain⟨d,e,hd,he,kd,ke,q⟩:=h;obtain⟨as,ra⟩:=Rep.reads I hd rx;obtain⟨bs,rb⟩:=Rep.reads I he ry;exact eq_dataH ra rb (iK kd) (iK ke) hu ⟨_,H,I,(by rw[vg kd ke];rfl),q⟩
theorem D7(hu:X.A.units+64<cLine):gW X (compareOp .NotEq) (Cd X.K):=by
 intro pins s σ H x y v u Q I rx ry h;obtain⟨d,e,hd,he,kd,ke,q⟩:=h;obtain⟨as,ra⟩:=Rep.reads I hd rx;obtain⟨bs,rb⟩:=Rep.reads I he ry;exact ne_dataH ra rb (iK kd) (iK ke) hu ⟨_,H,I,(by rw[vg kd ke];rfl),q⟩
open Classical in
theorem vq{ds:List Dat}(ha:∀e∈ds,kqdOk 8 e=true)(hd:kqdOk 8 d=true):((kqdPs ds).any fun y=>Sb y (kqdP d))=decide (d∈ds):=by
 by_cases z:d∈ds
 ·rw[decide_eq_true z];exact(U9 ds d ha hd).mpr z
 ·rw[decide_eq_false z];exact O_.mpr fun y=>z ((U9 ds d ha hd).mp y)
open Classical in
def ut(K:Fg)(neg:Bool):R2:=fun x y H Q=>∃d ds,Rep K H x d/\Rep K H y (.list ds)/\(∀e∈ds,kqdOk 8 e=true)/\kqdOk 8 d=true/\Q (.bl (if neg then !decide (d∈ds) else decide (d∈ds))) H
theorem An{A:Mf}(hd:kqdOk 8 d=true)(hu:A.units+64<cLine):A.units+1+min (Sv (kqdPs ds)) (kqdP d).depth<cLine:=by
 have l:=(N5 8 d hd).2
 have:=Qp (Sv (kqdPs ds)) (kqdP d).depth
 walk_at "om"
theorem HC(hu:X.A.units+64<cLine):gW X (compareOp .In) (ut X.K false):=by
 intro pins s σ H x y v u Q I rx ry h;obtain⟨d,ds,hd,he,ka,kd,q⟩:=h;obtain⟨as,ra⟩:=Rep.reads I hd rx;obtain⟨bs,rb⟩:=Rep.reads I he ry;rw[kqdP] at rb;exact SeqAt.in_list_reads rb ra (RU ka).1 (N5 8 d kd).1 (An kd hu) ⟨_,H,I,(by rw[vq ka kd];rfl),q⟩
theorem rB(hu:X.A.units+64<cLine):gW X (compareOp .NotIn) (ut X.K true):=by
 intro pins s σ H x y v u Q I rx ry h;obtain⟨d,ds,hd,he,ka,kd,q⟩:=h;obtain⟨as,ra⟩:=Rep.reads I hd rx;obtain⟨bs,rb⟩:=Rep.reads I he ry;rw[kqdP] at rb;exact SeqAt.notIn_list_reads rb ra (RU ka).1 (N5 8 d kd).1 (An kd hu) ⟨_,H,I,(by rw[vq ka kd];rfl),q⟩
end
def bX(X:Cx)(ys M:List Str)(scope:Scope)(cl:List (Str×Addr))(C:Addr)(s:Le)(H:Hp)(fp:List Addr)(pins:List (Addr×Obj)):Cx where
 prog:=X.prog
 w:=X.w
 K:=X.K
 mg:=X.mg
 base:=X.base
 A:=X.A
 N:=ys++M
 s₀:=s
 H₀:=H
 env:=compEnvC scope cl C X.env
 outer:=X.stack
 stack:=X.stack
 ex:=fp
 fn:=fun _=>false
 calm:=X.calm
 pn:=X.pn++pins
 xe:=fun _ _=>False
structure ms (X:Cx) (ys M:List Str) (scope:Scope) (cl:List (Str×Addr)):Prop where
 kind:scope.kind=.function
 nocell:∀y∈scope.names,y.2≠.cell
 names:∀y∈scope.names,y.2=.local->scope.names.lookup y.1=some .local
 own:∀y∈ys,scope.names.lookup y=some .local
 clos:closureFor scope X.env=pure cl
 nd:(ys++M).Nodup
 len:M.length=X.N.length
 same:∀p∈M.zip X.N,p.1=p.2\/(relabel scope X.env).names.lookup p.1=none
 apart:∀y∈M,(relabel scope X.env).names.lookup y≠some .local
 cells:∀y c,cl.lookup y=some c->X.env.cells.lookup y=some c/\(X.env.scope.names.lookup y=some .cell\/X.env.scope.names.lookup y=some .free)
 has:∀y,((relabel scope X.env).names.lookup y=some .cell\/(relabel scope X.env).names.lookup y=some .free)->∃c,cl.lookup y=some c
section
variable{X:Cx}{ys M:List Str}{scope:Scope}{cl:List (Str×Addr)}{C:Addr}{s:Le}{H:Hp}{fp:List Addr}{pins:List (Addr×Obj)}{σ:St}
theorem wj{h1:Heap}{tk:Nat}(I:Inv X pins σ H s)(c:ms X ys M scope cl)(eC:C=s.heap.objs.size)(Xk:h1.Ns C (fun _=>none))(XA:Pr C (s.heap.push o) h1)
  (fk:∀b∈fp,g7 X pins H b/\∃o,s.heap.get? b=some o):Inv (bX X ys M scope cl C s H fp pins) [] (LG ys.length none ++ σ) H {s with heap:=h1,toks:=tk}:=by
 have keep:∀b u,s.heap.get? b=some u->h1.get? b=some u:=fun b u e=>XA.extBut b u (by rw[eC];exact LA (Ls e)) (Lb _ e)
 have Yj:∀b u,s.heap.get? b=some u->b≠C:=fun b u e=>by rw[eC];exact LA (Ls e)
 have out:∀{b:Addr},b≠X.env.locals->b∉X.fs->b∉frs X.stack:=fun h1 h2 z=>(Lr.mp (I.yh _ z)).elim h1 h2
 refine⟨⟨I.ok.mod,c.kind,I.ok.glob,I.ok.blt,by rw[eC];exact Lf _,fun y z a h1 h2=>I.ok.inj y z a (c.cells y a h1).1 (c.cells z a h2).1,c.has,fun y a z _=>UM z,I.ok.hd,I.ok.frames,.inl rfl,fun b hb=>?_,I.bs,Mh I.ok.bsz I.sz,fun b u e hb=>?_,fun b hb=>?_,I.stack,I.kH⟩,
  rfl,I.bare,Un.kept keep,⟨_,Xk,fun i y v e1 e2 e3=>?_⟩,fun y a e=>?_,I.hok.fresh (by rw[eC];exact Lf _),fun y a e=>I.freeC y a (c.cells y a e).1,fun p hp=>?_,I.hok.kept keep,?_⟩
 ·obtain⟨⟨_,_,_,_,f5,_⟩,u,e⟩:=fk b hb;exact⟨Yj b u e,fun y a q=>f5 y a (c.cells y a q).1⟩
 ·obtain⟨⟨_,_,_,f4,_,_⟩,_⟩:=fk b hb;rcases f4 with z|z
  ·exact I.ok.noex b u e z
  ·exact absurd (LR (Ls (I.ok.bs b u e).1) z) (N9 _)
 ·obtain⟨⟨_,f2,f3,_,_,_⟩,_⟩:=fk b hb;exact out f2 f3
 ·by_cases lt:i<ys.length
  ·have XH:(LG ys.length (none:Option V) ++ σ)[i]?=some (some v):=e2;rw[Mc (by simpa using lt),List.getElem?_replicate_of_lt lt] at XH;cases XH
  ·have e0:M[i-ys.length]?=some y:=by
    have YK:(ys++M)[i]?=some y:=e1
    rwa [L7 (by walk_at "om")] at YK
   have XH:σ[i-ys.length]?=some (some v):=by
    have XH:(LG ys.length (none:Option V) ++ σ)[i]?=some (some v):=e2
    rwa [L7 (by simpa using lt),Me] at XH
   have hy:y∈M:=Li e0
   have vis0:(relabel scope X.env).names.lookup y≠none:=by
    rcases e3 with z|z|z <;> (intro q;have q':=(show(relabel scope X.env).names.lookup y=some _ from z).symm.trans q;cases q')
   have YK:X.N[i-ys.length]?=some y:=by
    have VL:i-ys.length<X.N.length:=by rw[<- c.len];exact(K_.mp e0).1
    have hz:(y,X.N[i-ys.length])∈M.zip X.N:=by
     refine Li (i:=i-ys.length) ?_;rw[PD];exact⟨e0,Ld VL⟩
    rcases c.same _ hz with q|q
    ·rw[Ld VL];exact congrArg some q.symm
    ·exact absurd q vis0
   have e3':(relabel scope X.env).names.lookup y=some .cell\/(relabel scope X.env).names.lookup y=some .free:=by
    rcases e3 with z|z|z
    ·exact absurd z (c.apart y hy)
    ·exact .inl z
    ·exact .inr z
   obtain⟨a,ea⟩:=c.has y e3';obtain⟨q1,q2⟩:=c.cells y a ea;obtain⟨m,_,hl⟩:=I.loc;have vis:Jy X.env.scope y:=.inr q2;obtain⟨u,ru,lu⟩:=hl (i-ys.length) y v YK XH vis;refine⟨u,ru,.inr ⟨e3',a,ea,?_⟩⟩;rcases lu with⟨z,_⟩|⟨_,a',ea',⟨oc,Yw,hd⟩⟩
   ·have z':X.env.scope.names.lookup y=some .local:=z;rcases q2 with q2|q2 <;> (rw[z'] at q2;cases q2)
   ·rw[q1] at ea';cases ea';exact⟨oc,keep _ _ Yw,hd⟩
 ·obtain⟨v,oc,Yw,hd⟩:=I.cell y a (c.cells y a e).1;exact⟨v,oc,keep _ _ Yw,hd⟩
 ·have hp':p∈X.pn++pins:=by simpa[bX] using hp
  obtain⟨q1,q2,q3,q4,q5⟩:=I.pin p hp';exact⟨keep _ _ q1,q2,Yj _ _ q1,out q3 q4,q5⟩
 ·show(LG ys.length none ++ σ).length=(ys++M).length;rw[LU,LU,Me,I.len,c.len]
theorem nF(I:Inv X pins σ H s)(fk:∀b∈fp,g7 X pins H b/\∃o,s.heap.get? b=some o)(I':Inv (bX X ys M scope cl C s H fp pins) Xf σ' H' s1):Inv X pins σ H' s1 :=
 I.call' (ch:=fp) I'.os I'.base I'.hok I'.bare fun b hb=>let ⟨⟨_,f2,_,f4,f5,f6⟩,_⟩:=fk b hb;⟨f4,f2,f5,f6⟩
def Jr(J:It)(n:Nat)(g:TG)(te:TE)(σ:St)(Q:VK)(H1:Hp):Prop:=∀D,H1 D=none->∃W:Nat->Nat->Hp->Prop,(∃m,W 0 m (upd H1 D (.lst [])))/\∀i m H,W i m H ->
 (J.stop i H/\Q (.ref D) H)\/(J.go i H/\∀v H',J.yld i H v H'->∀us:St,us.length=n->g v (us ++ σ) H' fun σ2 H2=>(∃WG:St,WG.length=n/\σ2=WG ++ σ)/\te σ2 H2 fun y H3=>∃xs,H3 D=some (.lst xs)/\xs.length<sizeLine/\∃m',m'<m/\W (i+1) m' (upd H3 D (.lst (xs++[y]))))
def DO(wi:TI)(n:Nat)(g:TG)(te:TE):TE:=fun σ H Q=>wi σ H fun J H1=>Jr J n g te σ Q H1
def eE(J:It)(te:TE)(σ:St)(Q:VK)(H1:Hp):Prop:=∀D,H1 D=none->∃W:Nat->Nat->Hp->Prop,(∃m,W 0 m (upd H1 D (.lst [])))/\∀i m H,W i m H ->
 (J.stop i H/\Q (.ref D) H)\/(J.go i H/\∀v H',J.yld i H v H'->te (some v :: σ) H' fun y H2=>∃xs,H2 D=some (.lst xs)/\xs.length<sizeLine/\∃m',m'<m/\W (i+1) m' (upd H2 D (.lst (xs++[y]))))
def eI(wi:TI)(te:TE):TE:=fun σ H Q=>wi σ H fun J H1=>eE J te σ Q H1
theorem wF{σ:St}{Q:VK}(h:eE J te σ Q H1):Jr J 1 (aO 0) te σ Q H1:=by
 intro D nD;obtain⟨W,h0,hs⟩:=h D nD;refine⟨W,h0,fun i m H w=>?_⟩;rcases hs i m H w with q|⟨go,st⟩
 ·exact .inl q
 ·refine .inr ⟨go,fun v H' y us hu=>?_⟩;obtain⟨u,rfl⟩:∃u,us=[u]:=OR.mp hu;exact⟨⟨[some v],rfl,rfl⟩,st v H' y⟩
theorem AS{R:SQ->Le->Prop}{s:Le}{iter:Expr}{scope:Scope}{pos:Pos}{acc:La}(I:Nat->Le->Prop)
  (turn:∀n s,I n s->wpAny (model prog w) A (pyNext it) (fun r s1=>match r with
   |none=>R (.ok .next) s1
   |some v=>wpAny (model prog w) A (letOwnedTupleGo target it v) (fun _ s2=>wpAny (model prog w) A (assign target env v) (fun _ s3=>wpAny (model prog w) A (eval elt env) (fun x s4 =>
     wpAny (model prog w) A (call (.builtin "list.append") [acc,x]) (fun _ s5=>∃m,m<n/\I m s5) (fun _ _=>False) s4) (fun _ _=>False) s3) (fun _ _=>False) s2) (fun _ _=>False) s1) (fun _ _=>False) s) (n:Nat) (h:I n s) :
  codeAny (model prog w) A (.compLoop (.ListComp elt [⟨target,iter,[],0⟩] scope pos) 0 it acc env) R s:=by
 refine codeAny_loop rfl I (fun k s1 hI=>?_) n h;have no:∀{α:Type} {t:Sem α} {P:α->Le->Prop} {E:La->Le->Prop} {z:Le},wpAny (model prog w) A t P (fun _ _=>False) z->wpAny (model prog w) A t P E z:=fun q=>Mi q (fun _ _ z=>z) fun _ _ z=>z.elim
 show wpAny _ _ ((compTurn (.ListComp elt [⟨target,iter,[],0⟩] scope pos) 0 it acc env).onRaise _) _ _ s1;refine wpAny_noted ?_;rw[compTurn_list1];refine K8 (O1 (K8 (no (Mi (turn k s1 hI) (fun r s2 h2=>?_) fun _ _ z=>z))));cases r with
 |none=>exact Lh h2
 |some v =>
  refine K8 (no (Mi h2 (fun _ s3 h3=>?_) fun _ _ z=>z));refine K8 (no (Mi h3 (fun _ s4 h4=>?_) fun _ _ z=>z));refine K8 (K8 (no (Mi h4 (fun x s5 h5=>?_) fun _ _ z=>z)));exact K8 (no (Mi h5 (fun _ s6 h6=>Lh (Lh ⟨rfl,h6⟩)) fun _ _ z=>z))
theorem sm{iter:Expr}{pos:Pos}{E:La->Le->Prop}{QQ:Addr->Hp->Prop}{RR:La->Addr->SQ->Le->Prop}(I:Inv X pins σ H s)(c:ms X ys M scope cl)(hc:X.calm=true)
  (hg:∀C s₀ H₀ fp pins,PG (bX X ys M scope cl C s₀ H₀ fp pins) tg g) (he:∀C s₀ H₀ fp pins,PE (bX X ys M scope cl C s₀ H₀ fp pins) elt te) (T:qq X.prog X.w X.K tg J fp it tn) (st:tn 0 s.heap) (fk:∀b∈fp,g7 X pins H b)
  (h:∀D,H D=none->∃W:Nat->Nat->Hp->Prop,(∃m,W 0 m (upd H D (.lst [])))/\∀i m H,W i m H ->
   (J.stop i H/\QQ D H)\/(J.go i H/\∀v H',J.yld i H v H'->∀us:St,us.length=ys.length->g v (us ++ σ) H' fun σ2 H2=>(∃WG:St,WG.length=ys.length/\σ2=WG ++ σ)/\te σ2 H2 fun y H3=>∃xs,H3 D=some (.lst xs)/\xs.length<sizeLine/\∃m',m'<m/\W (i+1) m' (upd H3 D (.lst (xs++[y])))))
  (fin:∀D C H' s',s.heap.objs.size<=C->s'.heap.get? C≠none->(∃m,s'.heap.Ns C m)->H' C=none->Inv X pins σ H' s'->QQ D H'->RR (.ref D) C (.ok .next) s') :
  wpAny (model X.prog X.w) X.A (newList []) (fun acc s₃=>wpAny (model X.prog X.w) X.A (newFunctionEnv scope X.env.globals cl [] X.env.qual none .none (some X.env)) (fun W5 s₄ =>
   codeAny (model X.prog X.w) X.A (.compStart (.ListComp elt [⟨tg,iter,[],0⟩] scope pos) 0 (.ref it) acc {W5 with scope:=relabel scope X.env}) (RR acc W5.locals) s₄) E s₃) E s:=by
 refine ME (SW c.nocell (by intro y hy;simp at hy) (fun h1 Xk XA=>?_) c.kind);dsimp only at Xk XA ⊢;have hf:H s.heap.objs.size=none:=I.hok.fresh (Lf _)
 have I3:Inv X pins σ (upd H s.heap.objs.size (.lst [])) {s with heap:=s.heap.push {cls:=.type "list",dict:=none,data:=.seq ([]:List La).toArray}} :=
  I.laid (t':=s.toks) (fun b u e=>Lb _ e) (Lf _) ⟨by decide,[],_,.nil,LJ _ rfl⟩
 have eD:∀b u,s.heap.get? b=some u->b≠s.heap.objs.size:=fun b u e=>LA (Ls e)
 have Xr:∀b∈fp,g7 X pins (upd H s.heap.objs.size (.lst [])) b/\∃o,(s.heap.push {cls:=.type "list",dict:=none,data:=.seq ([]:List La).toArray}).get? b=some o:=fun b hb=>by
  obtain⟨o,eo,_⟩:=T.obj 0 _ st b hb;obtain⟨f1,f2⟩:=fk b hb;exact⟨⟨by rw[bf (eD b o eo)];exact f1,f2⟩,o,Lb _ eo⟩
 have I4:=wj (tk:=s.toks+([]:List (Str×La)).length) I3 c rfl Xk XA Xr;obtain⟨W,⟨m0,w0⟩,turn⟩:=h _ hf
 have ZS:tn 0 h1:=T.keep 0 _ _ st fun b hb o e=>by
  have e2:=Lb {cls:=.type "list",dict:=none,data:=.seq ([]:List La).toArray} e;exact XA.extBut b o (LA (Ls e2)) (Lb _ e2)
 have Wr:∀{H':Hp},(∀b∈fp,H' b=none)->∀b∈fp,g7 (bX X ys M scope cl (s.heap.push {cls:=.type "list",dict:=none,data:=.seq ([]:List La).toArray}).objs.size {s with heap:=s.heap.push {cls:=.type "list",dict:=none,data:=.seq ([]:List La).toArray}} (upd H s.heap.objs.size (.lst [])) fp pins) [] H' b :=
  fun hn b hb=>⟨hn b hb,(I4.ok.exf b hb).1,I4.ok.exfs b hb,.inl hb,(I4.ok.exf b hb).2,fun p hp=>(Xr b hb).1.2.2.2.2.2 p (by simpa[bX] using hp)⟩
 have loop:∀s4:Le,s4 = {s with heap:=h1,toks:=s.toks+([]:List (Str×La)).length} ->
   codeAny (model X.prog X.w) X.A (.compLoop (.ListComp elt [⟨tg,iter,[],0⟩] scope pos) 0 (.ref it) (.ref s.heap.objs.size) (compEnvC scope cl (s.heap.push {cls:=.type "list",dict:=none,data:=.seq ([]:List La).toArray}).objs.size X.env))
    (RR (.ref s.heap.objs.size) (s.heap.push {cls:=.type "list",dict:=none,data:=.seq ([]:List La).toArray}).objs.size) s4:=by
  rintro s4 rfl
  refine AS (fun n s'=>∃(i:Nat) (us:St) (H':Hp),us.length=ys.length/\Inv (bX X ys M scope cl (s.heap.push {cls:=.type "list",dict:=none,data:=.seq ([]:List La).toArray}).objs.size {s with heap:=s.heap.push {cls:=.type "list",dict:=none,data:=.seq ([]:List La).toArray}} (upd H s.heap.objs.size (.lst [])) fp pins) [] (us ++ σ) H' s'/\tn i s'.heap/\(∀b∈fp,H' b=none)/\W i n H')
   ?_ m0 ⟨0,_,_,Me,I4,ZS,fun b hb=>(Xr b hb).1.1,w0⟩
  rintro n s5 ⟨i,us,H5,lu,I5,XD,X6,w5⟩;rcases turn i n H5 w5 with⟨stop,q⟩|⟨go,step⟩
  ·refine bQ (T.done (bX X ys M scope cl _ _ _ _ _) rfl rfl rfl hc i [] s5 _ H5 _ I5 (Wr X6) XD stop) fun r s6 ⟨er,I6⟩=>?_
   subst er;obtain⟨m,Y8,_⟩:=id I6.loc;obtain⟨o6,_,_,ho6,_⟩:=id Y8;exact fin _ _ H5 s6 (by rw[OM];exact Pl _) (fun z=>by have z':=ho6.symm.trans z;cases z') ⟨m,Y8⟩ I6.free (nF I3 Xr I6) q
  ·refine bQ (T.item (bX X ys M scope cl _ _ _ _ _) rfl rfl rfl hc i [] s5 _ H5 _ I5 (Wr X6) XD go) fun r s6 ⟨u,er,h6⟩=>?_
   subst er;refine bQ h6 fun _ s7 ⟨v',H7,I7,r7,y7,XE,fr7⟩=>?_
   have I7':=I7.pinned (Wr fr7) (T.obj _ _ XE);refine Mi (hg _ _ _ _ _ _ s7 _ H7 v' u _ I7' r7 (step v' H7 y7 us lu)) (fun _ s8 ⟨σ8,H8,I8,⟨WG,lu',e8⟩,q8⟩=>?_) fun _ _ z=>z.elim
   refine Mi (he _ _ _ _ _ _ s8 _ H8 _ I8 q8) (fun y s9 ⟨yv,H9,I9,ry,xs,Yx,hlen,m',hm,w9⟩=>?_) fun _ _ z=>z.elim
   refine Mi (a9 (X:=bX X ys M scope cl _ _ _ _ _) _ s9 _ H9 (.ref s.heap.objs.size) [yv] (.ref s.heap.objs.size) [y] (fun _ Xq=>Xq=upd H9 s.heap.objs.size (.lst (xs++[yv]))) I9 rfl (.cons ry .nil) ⟨_,xs,yv,rfl,rfl,Yx,hlen,rfl⟩) (fun _ s10 ⟨z,Xq,I10,rz,Ym⟩=>?_) fun _ _ z=>z.elim
   subst Ym;subst e8;refine⟨m',hm,i+1,WG,_,lu',I10.gL (pins:=[]),T.keep _ _ _ XE fun b hb o e=>(I10.pin (b,o) (LH _ (LH _ (dz hb e)))).1,fun b hb=>?_,w9⟩;obtain⟨o,e,_⟩:=T.obj _ _ XE b hb;exact(I10.pin (b,o) (LH _ (LH _ (dz hb e)))).2.1
 exact Se (loop _ rfl) (T.self _ 0 _ _ _ ZS (loop _ rfl))
end
section
variable{X:Cx}{ys M:List Str}{x:Str}{scope:Scope}{cl:List (Str×Addr)}
theorem Cs{iter:Expr}{pos:Pos}(c:ms X ys M scope cl)(hc:X.calm=true)(hi:PI X tg iter wi)(hg:∀C s₀ H₀ fp pins,PG (bX X ys M scope cl C s₀ H₀ fp pins) tg g)(he:∀C s₀ H₀ fp pins,PE (bX X ys M scope cl C s₀ H₀ fp pins) elt te)
  (hs:∀v,foldedSetIterable iter X.env v=pure v:=by intro _;rfl):PE X (.ListComp elt [⟨tg,iter,[],0⟩] scope pos) (DO wi ys.length g te):=by
 intro pins s σ H Q I h;rw[eval_ListComp];refine OC (use:=none) rfl hs c.clos c.kind c.names (bQ (hi pins s σ H _ I h) fun v s1 h1=>bQ h1 fun Xo s2 h2=>?_);obtain⟨it,fp,tn,J,H2,rfl,I2,T,WU,X5,h3⟩:=h2;refine sm (E:=X.xe) (QQ:=fun D H'=>Q (.ref D) H') I2 c hc hg he T WU X5 h3 fun D C H' s' hC hl ns fr I' q=>?_
 obtain⟨m,hn⟩:=ns;refine⟨m,hn,fun h' Ye=>?_⟩;have sz:=I2.sz;exact⟨.ref D,H',I'.turned (t':=s'.toks) (fun b o hb e=>(Ye.2 b hb).trans e) fr (I2.fpOk hC fr).2.1 (I2.fpOk hC fr).2.2.2.1 (I2.fpOk hC fr).2.2.2.2.1 (I2.fpOk hC fr).2.2.2.2.2,rfl,q⟩
theorem Ch{iter:Expr}{pos sp:Pos}{i:Nat}{y:Str}(hy:X.N[i]?=some y)(ly:X.env.scope.names.lookup y=some .local)(c:ms X ys M scope cl)(hN:X.N.Nodup)(hc:X.calm=true)(hi:PI X tg iter wi)
  (hg:∀C s₀ H₀ fp pins,PG (bX X ys M scope cl C s₀ H₀ fp pins) tg g) (he:∀C s₀ H₀ fp pins,PE (bX X ys M scope cl C s₀ H₀ fp pins) elt te)
  (hsw:swapsWith (.ListComp elt [⟨tg,iter,[],0⟩] scope pos) (some (.Name y py)) sp.line X.env=pure true:=by rfl) (hs:∀v,foldedSetIterable iter X.env v=pure v:=by intro _;rfl) :
  PS X (.Assign [.Name y py] (.ListComp elt [⟨tg,iter,[],0⟩] scope pos) sp) (aR (DO wi ys.length g te) (aO i)):=by
 intro pins s σ H D I h;rw[SD _ _ _ _ hsw];refine K8 (O1 (K8 ?_));show wpAny _ X.A (do let _ <- comprehension (.ListComp elt [⟨tg,iter,[],0⟩] scope pos) scope X.env _ (newList []) false (eval iter X.env) (some (assign (.Name y py) X.env))) _ _ s;refine K8 (Mi (OC (use:=some (assign (.Name y py) X.env)) (Q:=fun _ s'=>SP X pins D .next s') rfl hs c.clos c.kind c.names (bQ (hi pins s σ H _ I h) fun v s1 h1=>bQ h1 fun Xo s2 h2=>?_)) (fun _ s' hq=>Lh (Lh hq)) fun _ _ z=>z);obtain⟨it,fp,tn,J,H2,rfl,I2,T,WU,X5,h3⟩:=h2;refine sm (E:=X.xe) (QQ:=fun Da H'=>D.nx (σ.set i (some (.ref Da))) H') I2 c hc hg he T WU X5 h3 fun Da C H' s' hC hl ns fr I' q=>?_
 obtain⟨m,hn⟩:=ns;refine Rm (kG I' hN hy (.inl ly) (v:=.ref Da) rfl (fun s3 I3 ⟨a,hsa,ha⟩=>?_) (.inr ly))
 have nC:C≠a:=by
  rcases ha with z|z
  ·rw[z];exact(I2.fpOk hC fr).2.1
  ·exact fun w'=>(I2.fpOk hC fr).2.2.2.2.1 y a z w'.symm
 refine⟨m,hn.sameBut hsa nC,fun h' Ye=>⟨_,H',I3.turned (t':=s3.toks) (fun b o hb e=>(Ye.2 b hb).trans e) fr (I2.fpOk hC fr).2.1 (I2.fpOk hC fr).2.2.2.1 (I2.fpOk hC fr).2.2.2.2.1 (I2.fpOk hC fr).2.2.2.2.2,q⟩⟩
theorem D5(c:ms X [x] M scope cl)(C:Addr)(s₀:Le)(H₀:Hp)(fp:List Addr)(pins:List (Addr×Obj)):PG (bX X [x] M scope cl C s₀ H₀ fp pins) (.Name x px) (aO 0):=by
 have hx:(relabel scope X.env).names.lookup x=some .local:=lookup_relabel_local (c.own x (by simp));exact bD (X:=bX X [x] M scope cl C s₀ H₀ fp pins) (i:=0) c.nd rfl (.inl hx) (.inr hx)
end
def E7(scope sc:Scope):List (Str×RP):=scope.names.map fun(n,k)=>if (k == .free && sc.kind == .function && sc.names.lookup n == some .cell) then (n,.cell) else (n,k)
def l_(scope:Scope)(cells:List (Str×Addr)):List (Str×Addr):=((scope.names.filter fun n=>n.2 == .free).map fun n=>(n.1,(cells.lookup n.1).getD 0)).reverse
structure dm (sc:Scope) (N M ys:List Str) (scope:Scope):Prop where
 kind:scope.kind=.function
 nocell:∀y∈scope.names,y.2≠.cell
 names:∀y∈scope.names,y.2=.local->scope.names.lookup y.1=some .local
 own:∀y∈ys,scope.names.lookup y=some .local
 nd:(ys++M).Nodup
 len:M.length=N.length
 same:∀p∈M.zip N,p.1=p.2\/(E7 scope sc).lookup p.1=none
 apart:∀y∈M,(E7 scope sc).lookup y≠some .local
 free:∀n∈scope.names,n.2=.free->sc.names.lookup n.1=some .cell
theorem jC{g:Str->Addr}:∀{l:List (Str×Addr)} {y:Str},(∀n∈l,n.2=g n.1)->∀{c:Addr},l.lookup y=some c->c=g y/\∃n∈l,n.1=y
 |[],_,_,_,h=>by simp at h
 |(n,a) :: r,y,hg,c,h=>by
  by_cases e:y=n
  ·subst e;rw[Oa,beq_self_eq_true] at h;have h':a=c:=LD h;exact⟨by rw[<- h'];exact hg (y,a) Lg,_,Lg,rfl⟩
  ·have e':(y == n)=false:=beq_eq_false_iff_ne.mpr e;rw[Oa,e'] at h;obtain⟨h1,m,hm,h2⟩:=jC (fun n hn=>hg n (Lj _ hn)) h;exact⟨h1,m,Lj _ hm,h2⟩
theorem uS{l:List (Str×Addr)}{y:Str}:(∃n∈l,n.1=y)->∃c,l.lookup y=some c:=by
 induction l with
 |nil=>rintro⟨n,hn,_⟩;cases hn
 |cons a r ih =>
  rintro⟨n,hn,e⟩;obtain⟨m,b⟩:=a;by_cases e':y=m
  ·subst e';exact⟨b,by rw[Oa,beq_self_eq_true]⟩
  ·have e2:(y == m)=false:=beq_eq_false_iff_ne.mpr e';rw[Oa,e2];refine ih ?_;rcases Lr.mp hn with z|z
   ·rw[z] at e;exact absurd e.symm e'
   ·exact⟨n,z,e⟩
theorem qj{n:Str×Addr}:n∈l_ scope cells↔∃m∈scope.names,m.2=.free/\n=(m.1,(cells.lookup m.1).getD 0):=by
 unfold l_;rw[UN,Lm];constructor
 ·rintro⟨m,hm,rfl⟩;rw[M7] at hm;exact⟨m,hm.1,beq_iff_eq.mp hm.2,rfl⟩
 ·rintro⟨m,hm,hk,rfl⟩;exact⟨m,M7.mpr ⟨hm,beq_iff_eq.mpr hk⟩,rfl⟩
theorem nQ{env:Env}:∀(names:List (Str×RP)) (acc:List (Str×Addr)),(∀n∈names,n.2=.free->∃c,env.cells.lookup n.1=some c) ->
  (forIn names acc fun x r=>do
   let (name,kind):=x
   if kind == .free then do
    let c <- cellOf env name
    pure (Sw ((name,c) :: r))
   else pure (Sw r):Sem (List (Str×Addr)))=pure (((names.filter fun n=>n.2 == .free).map fun n=>(n.1,(env.cells.lookup n.1).getD 0)).reverse++acc)
 |[],acc,_=>rfl
 |(n,k) :: r,acc,h=>by
  have ih:=fun acc=>nQ r acc fun m hm=>h m (Lj _ hm)
  rw[PX];by_cases hk:k=.free
  ·subst hk;obtain⟨c,hc⟩:=h (n,.free) Lg rfl;have e1:cellOf env n=pure c:=by unfold cellOf;rw[hc]
   simp only[beq_self_eq_true,if_true,e1,pure_bind,Pw,LP,Rt,MF,List.singleton_append];rw[hc];exact ih _
  ·have hb:(k == Vy)=false:=beq_eq_false_iff_ne.mpr hk;simp only[hb,LX,if_false,pure_bind,Pw];exact ih _
theorem dm.sc{X:Cx}(c:dm X.env.scope X.N M ys scope)(ok:X.Ok):ms X ys M scope (l_ scope X.env.cells):=by
 have Yu:∀n∈scope.names,n.2=.free->∃a,X.env.cells.lookup n.1=some a:=fun n hn hk=>ok.has n.1 (.inl (c.free n hn hk))
 refine⟨c.kind,c.nocell,c.names,c.own,?_,c.nd,c.len,c.same,c.apart,fun y a h=>?_,fun y h=>?_⟩
 ·have z:=nQ (env:=X.env) scope.names [] Yu;rw[M9] at z;exact(congrArg (fun m:Sem (List (Str×Addr))=>m >>= fun cs=>pure cs) z).trans rfl
 ·obtain⟨h1,n,hn,e⟩:=jC (g:=fun z=>(X.env.cells.lookup z).getD 0) (fun n hn=>by obtain⟨m,_,_,rfl⟩:=qj.mp hn;rfl) h;obtain⟨m,hm,hk,e2⟩:=qj.mp hn;have ey:m.1=y:=by rw[<- e,e2]
  obtain⟨a',ha'⟩:=Yu m hm hk;rw[ey] at ha';refine⟨?_,.inl (by rw[<- ey];exact c.free m hm hk)⟩;rw[h1,ha'];rfl
 ·have hm:∃m∈scope.names,m.1=y/\m.2=.free:=by
   have go:∀names:List (Str×RP),(∀z∈names,z.2≠.cell)->((names.map fun(n,k)=>if (k == .free && X.env.scope.kind == .function && X.env.kindOf n == some .cell) then (n,RF) else (n,k)).lookup y=some .cell\/(names.map fun(n,k)=>if (k == .free && X.env.scope.kind == .function && X.env.kindOf n == some .cell) then (n,RF) else (n,k)).lookup y=some .free)->∃m∈names,m.1=y/\m.2=.free:=by
    intro names
    induction names with
    |nil=>intro _ h;simp at h
    |cons a r ih =>
     intro nc h;obtain⟨n,k⟩:=a;by_cases e:y=n
     ·subst e;refine⟨_,Lg,rfl,?_⟩;have nk:k≠.cell:=nc (y,k) Lg;by_cases hk:k=.free
      ·exact hk
      ·have hb:(k == Vy)=false:=beq_eq_false_iff_ne.mpr hk;simp only[LP,hb,Qe,LX,if_false,Oa,beq_self_eq_true] at h;rcases h with z|z
       ·exact absurd (LD z) nk
       ·exact absurd (LD z) hk
     ·have e':(y == n)=false:=beq_eq_false_iff_ne.mpr e
      have h':(r.map fun(n,k)=>if (k == .free && X.env.scope.kind == .function && X.env.kindOf n == some .cell) then (n,RF) else (n,k)).lookup y=some .cell\/(r.map fun(n,k)=>if (k == .free && X.env.scope.kind == .function && X.env.kindOf n == some .cell) then (n,RF) else (n,k)).lookup y=some .free:=by
       by_cases hb:(k == .free && X.env.scope.kind == .function && X.env.kindOf n == some .cell)=true
       ·simpa only[LP,hb,if_true,Oa,e'] using h
       ·simpa only[LP,hb,LX,if_false,Oa,e'] using h
      obtain⟨m,hm,r1⟩:=ih (fun z hz=>nc z (Lj _ hz)) h';exact⟨m,Lj _ hm,r1⟩
   exact go scope.names c.nocell h
  obtain⟨m,hm,e,hk⟩:=hm;exact uS ⟨_,qj.mpr ⟨m,hm,hk,rfl⟩,e⟩
section
variable{X:Cx}{x:Str}{ys M:List Str}{scope:Scope}
theorem gj{iter:Expr}{pos:Pos}(c:dm X.env.scope X.N M [x] scope)(hN:X.N.Nodup)(hc:X.calm=true)(hi:PI X (.Name x px) iter wi)(he:∀C s₀ H₀ fp pins,PE (bX X [x] M scope (l_ scope X.env.cells) C s₀ H₀ fp pins) elt te)
  (hs:∀v,foldedSetIterable iter X.env v=pure v:=by intro _;rfl):PE X (.ListComp elt [⟨.Name x px,iter,[],0⟩] scope pos) (eI wi te):=by
 intro pins s σ H Q I h
 have hi':PI X (.Name x px) iter (fun σ H R=>∃R',(∀J H1,R' J H1->R J H1)/\wi σ H R'):=by
  intro pins s σ H R I ⟨R',hR,hw⟩;refine bQ (hi pins s σ H R' I hw) fun v s1 h1=>bQ h1 fun Xo s2 ⟨it,fp,tn,J,H',e,I',T,t0,fk,r⟩=>⟨it,fp,tn,J,H',e,I',T,t0,fk,hR J H' r⟩
 exact Cs (c.sc I.ok) hc hi' (fun C s₀ H₀ fp pins=>D5 (c.sc I.ok) C s₀ H₀ fp pins) he hs pins s σ H Q I ⟨_,fun J H1 q=>wF q,h⟩
theorem y_{iter:Expr}{pos sp:Pos}{i:Nat}{y:Str}(hN:X.N.Nodup)(hy:X.N[i]?=some y)(ly:X.env.scope.names.lookup y=some .local)(c:dm X.env.scope X.N M [x] scope)(hc:X.calm=true)(hi:PI X (.Name x px) iter wi)(he:∀C s₀ H₀ fp pins,PE (bX X [x] M scope (l_ scope X.env.cells) C s₀ H₀ fp pins) elt te)
  (hsw:swapsWith (.ListComp elt [⟨.Name x px,iter,[],0⟩] scope pos) (some (.Name y py)) sp.line X.env=pure true:=by rfl) (hs:∀v,foldedSetIterable iter X.env v=pure v:=by intro _;rfl) :
  PS X (.Assign [.Name y py] (.ListComp elt [⟨.Name x px,iter,[],0⟩] scope pos) sp) (aR (eI wi te) (aO i)):=by
 intro pins s σ H D I h
 have hi':PI X (.Name x px) iter (fun σ H R=>∃R',(∀J H1,R' J H1->R J H1)/\wi σ H R'):=by
  intro pins s σ H R I ⟨R',hR,hw⟩;refine bQ (hi pins s σ H R' I hw) fun v s1 h1=>bQ h1 fun Xo s2 ⟨it,fp,tn,J,H',e,I',T,t0,fk,r⟩=>⟨it,fp,tn,J,H',e,I',T,t0,fk,hR J H' r⟩
 exact Ch hy ly (c.sc I.ok) hN hc hi' (fun C s₀ H₀ fp pins=>D5 (c.sc I.ok) C s₀ H₀ fp pins) he hsw hs pins s σ H D I ⟨_,fun J H1 q=>wF q,h⟩
end
def Jk(D:Addr)(Pv:Hp->Prop):VK:=fun y H2=>∃xs,H2 D=some (.lst xs)/\xs.length<sizeLine/\Pv (upd H2 D (.lst (xs++[y])))
section
variable{K:Fg}{te:TE}{σ:St}{Q:VK}{H:Hp}
def xH(D:Addr)(n i:Nat)(Pv:Nat->Hp->Prop):VK:=fun y H2=>∃xs,H2 D=some (.lst xs)/\xs.length<sizeLine/\∃m',m'<n-i/\m'=n-(i+1)/\i+1<=n/\Pv (i+1) (upd H2 D (.lst (xs++[y])))
def G5(te:TE)(σ:St)(v:V)(H:Hp)(D:Addr)(n i:Nat)(Pv:Nat->Hp->Prop):Prop:=te (some v :: σ) H (xH D n i Pv)
theorem cw{n i:Nat}{Pv:Nat->Hp->Prop}(hi:i<n)(h:Jk D (Pv (i+1)) y H2):xH D n i Pv y H2:=by
 obtain⟨xs,h1,h2,h3⟩:=h;exact⟨xs,h1,h2,n-(i+1),by walk_at "om",rfl,hi,h3⟩
theorem eR{lo:Int}{n:Nat}(h:∀D,H D=none->∃Pv:Nat->Hp->Prop,Pv 0 (upd H D (.lst []))/\(∀i H2,i<n->Pv i H2->G5 te σ (.int (lo+i)) H2 D n i Pv)/\∀H2,Pv n H2->Q (.ref D) H2):eE (sU lo n) te σ Q H:=by
 intro D nD;obtain⟨Pv,h0,hs,hd⟩:=h D nD;refine⟨fun i m H=>m=n-i/\i<=n/\Pv i H,⟨n,by simp,Ml _,h0⟩,?_⟩;rintro i m H ⟨rfl,hi,p⟩;by_cases VL:i<n
 ·refine .inr ⟨VL,fun v H' y=>?_⟩;obtain⟨e,y⟩:=y;subst e y;exact hs i _ VL p
 ·have e:i=n:=by walk_at "om"
  subst e;exact .inl ⟨Lf _,hd H p⟩
theorem d_{xs:List V}(h:∀D,H D=none->∃Pv:Nat->Hp->Prop,Pv 0 (upd H D (.lst []))/\(∀i H2,i<=xs.length->Pv i H2->SqL K H2 a xs)/\(∀i x H2,xs[i]?=some x->Pv i H2->G5 te σ x H2 D xs.length i Pv)/\∀H2,Pv xs.length H2->Q (.ref D) H2):eE (sN K a) te σ Q H:=by
 intro D nD;obtain⟨Pv,h0,hl,hs,hd⟩:=h D nD;refine⟨fun i m H=>m=xs.length-i/\i<=xs.length/\Pv i H,⟨xs.length,by simp,Ml _,h0⟩,?_⟩;rintro i m H ⟨rfl,hi,p⟩;have q:=hl i H hi p;by_cases VL:i<xs.length
 ·refine .inr ⟨⟨xs,xs[i],q,by simp[VL]⟩,fun v H' y=>?_⟩;obtain⟨e,y⟩:=y;subst e;exact hs i v _ (y xs q) p
 ·have e:i=xs.length:=by walk_at "om"
  subst e;exact .inl ⟨⟨xs,q,Lf _⟩,hd H p⟩
theorem ku{xs:List V}(h:∀D,H D=none->∃Pv:Nat->Hp->Prop,Pv 0 (upd H D (.lst []))/\(∀i H2,i<=xs.length->Pv i H2->SqT K H2 a xs)/\(∀i x H2,xs[i]?=some x->Pv i H2->G5 te σ x H2 D xs.length i Pv)/\∀H2,Pv xs.length H2->Q (.ref D) H2):eE (vx K a) te σ Q H:=by
 intro D nD;obtain⟨Pv,h0,hl,hs,hd⟩:=h D nD;refine⟨fun i m H=>m=xs.length-i/\i<=xs.length/\Pv i H,⟨xs.length,by simp,Ml _,h0⟩,?_⟩;rintro i m H ⟨rfl,hi,p⟩;have q:=hl i H hi p;by_cases VL:i<xs.length
 ·refine .inr ⟨⟨xs,xs[i],q,by simp[VL]⟩,fun v H' y=>?_⟩;obtain⟨e,y⟩:=y;subst e;exact hs i v _ (y xs q) p
 ·have e:i=xs.length:=by walk_at "om"
  subst e;exact .inl ⟨⟨xs,q,Lf _⟩,hd H p⟩
end
open PySem.W (Dat kqdOk)
section
variable{K:Fg}{σ:St}{H:Hp}{Q:VK}{D:dk}{ta tb tc te:TE}{t u:TS}{c:TT}{QB:Bool->Hp->Prop}{QA:List V->Hp->Prop}{QS:St->Hp->Prop}
theorem J6(h:t {D with nx:=u D} σ H):aF t u D σ H:=h
theorem Ii(h:D.nx σ H):bp D σ H:=h
theorem Gg(h:te σ H fun _ H1=>D.nx σ H1):gf te D σ H:=h
theorem J7(h:te σ H D.rt):aY te D σ H:=h
theorem Km(h:c σ H fun b H1=>if b=true then t D σ H1 else u D σ H1):bq c t u D σ H:=h
theorem IA{g:TG}(h:te σ H fun x H1=>g x σ H1 D.nx):aR te g D σ H:=h
theorem gy{v:V}(h:QS (σ.set i (some v)) H):aO i v σ H QS:=h
theorem uY{i:Nat}{v:V}(e:σ[i]?=some (some v))(h:Q v H):ag i σ H Q:=⟨v,e,h⟩
theorem K2(h:Q v H):tC v σ H Q:=h
theorem Kc{r:R2}(h:ta σ H fun x H1=>tb σ H1 fun y H2=>r x y H2 Q):aE r ta tb σ H Q:=h
theorem J0{r:V->Hp->VK->Prop}(h:ta σ H fun x H1=>r x H1 Q):DK r ta σ H Q:=h
theorem Ic{g:Int->V}(h:Q (g i) H):rU g (.int i) H Q:=⟨i,rfl,h⟩
theorem J8{g:Int->Int->V}(h:Q (g i j) H):w_ g (.int i) (.int j) H Q:=⟨i,j,rfl,rfl,h⟩
theorem uZ{C:Int->Int->Prop}{g:Int->Int->V}(hc:C i j)(h:Q (g i j) H):rI C g (.int i) (.int j) H Q:=⟨i,j,rfl,rfl,hc,h⟩
theorem Kr{i j:Int}(h:Q (.bl (decide (i=j))) H):fq (.int i) (.int j) H Q:=⟨rfl,by
 have e:decide (V.int i=V.int j)=decide (i=j):=by
  by_cases z:i=j
  ·subst z;simp
  ·simp[z]
 rw[e];exact h⟩
theorem Kf{i j:Int}(h:Q (.bl (!decide (i=j))) H):w4 (.int i) (.int j) H Q:=⟨rfl,by
 have e:decide (V.int i=V.int j)=decide (i=j):=by
  by_cases z:i=j
  ·subst z;simp
  ·simp[z]
 rw[e];exact h⟩
theorem Kq{i j:Str}(h:Q (.bl (decide (i=j))) H):fq (.str i) (.str j) H Q:=⟨rfl,by
 have e:decide (V.str i=V.str j)=decide (i=j):=by
  by_cases z:i=j
  ·subst z;simp
  ·simp[z]
 rw[e];exact h⟩
theorem Ks{i j:Bool}(h:Q (.bl (decide (i=j))) H):fq (.bl i) (.bl j) H Q:=⟨rfl,by
 have e:decide (V.bl i=V.bl j)=decide (i=j):=by
  by_cases z:i=j
  ·subst z;simp
  ·simp[z]
 rw[e];exact h⟩
theorem Kg{i j:Bool}(h:Q (.bl (!decide (i=j))) H):w4 (.bl i) (.bl j) H Q:=⟨rfl,by
 have e:decide (V.bl i=V.bl j)=decide (i=j):=by
  by_cases z:i=j
  ·subst z;simp
  ·simp[z]
 rw[e];exact h⟩
theorem Kk{x:V}(h:Q (.bl (decide (x=.non))) H):jk x .non H Q:=⟨rfl,h⟩
theorem HX(h:te σ H fun x H'=>∃k,x=.bl k/\QB k H'):bg te σ H QB:=h
theorem J4(h:te σ H fun x H'=>∃k,x=.bl k/\QB k H'):tB te σ H QB:=h
theorem Kw{P:Bool->Prop}(h:P b):∃k,V.bl b=.bl k/\P k:=⟨b,rfl,h⟩
theorem Ih(h:c σ H fun b H1=>QB (!b) H1):gb c σ H QB:=h
theorem Ky{c':TT}(h:c σ H fun b H1=>if b=true then c' σ H1 QB else QB false H1):Bw c c' σ H QB:=h
theorem Kb{c':TT}(h:c σ H fun b H1=>if b=true then QB true H1 else c' σ H1 QB):kF c c' σ H QB:=h
theorem IB(h:ta σ H fun x H1=>∃k,x=.bl k/\if k=true then tb σ H1 Q else Q (.bl false) H1):mF ta tb σ H Q:=h
theorem Ka(h:ta σ H fun x H1=>∃k,x=.bl k/\if k=true then Q (.bl true) H1 else tb σ H1 Q):EN ta tb σ H Q:=h
theorem Ig(h:ta σ H fun x H1=>∃k,x=.bl k/\Q (.bl (!k)) H1):Bv ta σ H Q:=h
theorem Ko(h:c σ H fun b H1=>if b=true then ta σ H1 Q else tb σ H1 Q):JE c ta tb σ H Q:=h
theorem Gi{r r':R2}(h:ta σ H fun x H1=>tb σ H1 fun y H2=>r x y H2 fun z H3=>∃k,z=.bl k/\(if k=true then tc σ H3 fun w' H4=>r' y w' H4 Q else Q (.bl false) H3)):iF r r' ta tb tc σ H Q:=h
theorem Ke(h:QA [] H):aA σ H QA:=h
theorem Ix{tr:TA}(h:ta σ H fun x H1=>tr σ H1 fun xs H2=>QA (x :: xs) H2):ao ta tr σ H QA:=h
theorem Iz{sp:Sp}{W6:List V}{ts:TA}(h:ts σ H fun vs H1=>sp (vs++W6) H1 Q E):bo sp W6 E ts σ H Q:=h
theorem Ku{r:List V->Hp->VK->Prop}{ts:TA}(h:ts σ H fun vs H1=>r vs H1 Q):b_ r ts σ H Q:=h
theorem J3{ts:TA}(h:ts σ H fun xs H1=>xs.length<=sizeLine/\∀p,H1 p=none->Q (.ref p) (upd H1 p (.tup xs))):cV ts σ H Q:=h
theorem Kh{ts:TA}(h:ts σ H fun xs H1=>xs.length<=sizeLine/\∀p,H1 p=none->Q (.ref p) (upd H1 p (.lst xs))):cW ts σ H Q:=h
theorem J5{r:V->Option Int->Option Int->Hp->VK->Prop}{tl th:TO}(h:te σ H fun x H1=>tl σ H1 fun l H2=>th σ H2 fun u H3=>r x l u H3 Q):jb r te tl th σ H Q:=h
theorem CN{QO:Option Int->Hp->Prop}(h:QO none H):bT σ H QO:=h
theorem Ie{QO:Option Int->Hp->Prop}(h:te σ H fun x H1=>∃i,x=.int i/\QO (some i) H1):dA te σ H QO:=h
theorem Kl{P:Int->Prop}(h:P i):∃j,V.int i=.int j/\P j:=⟨i,rfl,h⟩
theorem bZ[Decidable p]{A B:Prop}(h1:p->A)(h2 : ¬ p->B):if decide p=true then A else B:=IC h1 h2
theorem cN[Decidable p]{A B:Prop}(h1 : ¬ p->A)(h2:p->B):if (!decide p)=true then A else B:=by
 by_cases h:p
 ·rw[decide_eq_true h];exact va (h2 h)
 ·rw[decide_eq_false h];exact u_ (h1 h)
theorem Gb{A B:Prop}(h:A):if (!false)=true then A else B:=u_ h
theorem Ga{A B:Prop}(h:B):if (!true)=true then A else B:=va h
def Be(J:It)(g:TG)(tb:TS)(D:dk)(σ:St)(H1:Hp):Prop:=∃W:Nat->Nat->St->Hp->Prop,(∃m,W 0 m σ H1)/\∀i m σ H,W i m σ H ->
 (J.stop i H/\D.nx σ H)\/(J.go i H/\∃N:St->Hp->Prop,(∀σ' H',N σ' H'->∃m',m'<m/\W (i+1) m' σ' H')/\∀x H',J.yld i H x H'->g x σ H' fun σ2 H2=>tb {D with nx:=N,ct:=N,bk:=D.nx} σ2 H2)
theorem Kp{wi:TI}{tb:TS}(h:wi σ H fun J H1=>Be J g tb D σ H1):eW wi g tb D σ H:=h
theorem Iy{wi:TI}(h:wi σ H fun J H1=>eE J te σ Q H1):eI wi te σ H Q:=h
theorem Ib{ts:TA}{R:It->Hp->Prop}(h:ts σ H fun vs H1=>∃j:Int,vs=[.int j]/\-(2 ^ 62)<=j/\j<2 ^ 62/\R (sU 0 j.toNat) H1):fE ts σ H R:=h
theorem Ia{ts:TA}{R:It->Hp->Prop}(h:ts σ H fun vs H1=>∃i j:Int,vs=[.int i,.int j]/\(-(2 ^ 62)<=i/\i<2 ^ 62/\-(2 ^ 62)<=j/\j<2 ^ 62)/\R (sU i (j-i).toNat) H1):Gm ts σ H R:=h
theorem J9{tb:TS}{j:Int}(h0 : -(2 ^ 62)<=j/\j<2 ^ 62)(h:Be (sU 0 j.toNat) g tb D σ H):∃i:Int,[V.int j]=[.int i]/\-(2 ^ 62)<=i/\i<2 ^ 62/\Be (sU 0 i.toNat) g tb D σ H:=⟨j,rfl,h0.1,h0.2,h⟩
theorem J_{j:Int}(h0 : -(2 ^ 62)<=j/\j<2 ^ 62)(h:eE (sU 0 j.toNat) te σ Q H):∃i:Int,[V.int j]=[.int i]/\-(2 ^ 62)<=i/\i<2 ^ 62/\eE (sU 0 i.toNat) te σ Q H:=⟨j,rfl,h0.1,h0.2,h⟩
theorem Ge{R:It->Hp->Prop}(h:te σ H fun x H1=>∃a,x=.ref a/\(∃xs,SqL K H1 a xs)/\R (sN K a) H1):gY K te σ H R:=h
theorem Im{R:It->Hp->Prop}(h:te σ H fun x H1=>∃a,x=.ref a/\(∃xs,SqT K H1 a xs)/\R (vx K a) H1):vc K te σ H R:=h
theorem Ae{tb:TS}(e:SqL K H a xs)(h:Be (sN K a) g tb D σ H):∃b,V.ref a=.ref b/\(∃xs,SqL K H b xs)/\Be (sN K b) g tb D σ H:=⟨a,rfl,⟨xs,e⟩,h⟩
theorem r0(e:SqL K H a xs)(h:eE (sN K a) te σ Q H):∃b,V.ref a=.ref b/\(∃xs,SqL K H b xs)/\eE (sN K b) te σ Q H:=⟨a,rfl,⟨xs,e⟩,h⟩
theorem HZ{tb:TS}(e:SqT K H a xs)(h:Be (vx K a) g tb D σ H):∃b,V.ref a=.ref b/\(∃xs,SqT K H b xs)/\Be (vx K b) g tb D σ H:=⟨a,rfl,⟨xs,e⟩,h⟩
theorem H_(e:SqT K H a xs)(h:eE (vx K a) te σ Q H):∃b,V.ref a=.ref b/\(∃xs,SqT K H b xs)/\eE (vx K b) te σ Q H:=⟨a,rfl,⟨xs,e⟩,h⟩
theorem cO{lo:Int}{n:Nat}{g:TG}{tb:TS}(Pv:Nat->St->Hp->Prop)(h0:Pv 0 σ H)
  (hs:∀i σ H,i<n->Pv i σ H->g (.int (lo+i)) σ H fun σ2 H2=>tb {D with nx:=Pv (i+1),ct:=Pv (i+1),bk:=D.nx} σ2 H2) (hd:∀σ H,Pv n σ H->D.nx σ H):Be (sU lo n) g tb D σ H:=AF Pv h0 hs hd
theorem iZ{xs:List V}{g:TG}{tb:TS}(Pv:Nat->St->Hp->Prop)(h0:Pv 0 σ H)(hl:∀i σ H,i<=xs.length->Pv i σ H->SqL K H a xs)
  (hs:∀i x σ H,xs[i]?=some x->Pv i σ H->g x σ H fun σ2 H2=>tb {D with nx:=Pv (i+1),ct:=Pv (i+1),bk:=D.nx} σ2 H2) (hd:∀σ H,Pv xs.length σ H->D.nx σ H):Be (sN K a) g tb D σ H:=C9 Pv h0 hl hs hd
theorem AH{xs:List V}{g:TG}{tb:TS}(Pv:Nat->St->Hp->Prop)(h0:Pv 0 σ H)(hl:∀i σ H,i<=xs.length->Pv i σ H->SqT K H a xs)
  (hs:∀i x σ H,xs[i]?=some x->Pv i σ H->g x σ H fun σ2 H2=>tb {D with nx:=Pv (i+1),ct:=Pv (i+1),bk:=D.nx} σ2 H2) (hd:∀σ H,Pv xs.length σ H->D.nx σ H):Be (vx K a) g tb D σ H:=Gv Pv h0 hl hs hd
theorem Kt{v:V}{D:Addr}(h:te (some v :: σ) H (xH D n i Pv)):G5 te σ v H D n i Pv:=h
theorem wg{n:Nat}{ts:Dz}(e:SqT K H a xs)(l:xs.length=n)(h:ts xs σ H QS):xu K n ts (.ref a) σ H QS:=⟨a,xs,rfl,e,l,h⟩
theorem Gf{tg:TG}{ts:Dz}(h:tg v σ H fun σ' H'=>ts r σ' H' QS):lU tg ts (v :: r) σ H QS:=⟨v,r,rfl,h⟩
theorem Iq(h:QS σ H):xw [] σ H QS:=⟨rfl,h⟩
theorem cF(e:SqL K H p xs)(h:Q (.int xs.length) H):cM K [.ref p] H Q:=⟨p,xs,rfl,.inl e,h⟩
theorem r9(e:SqT K H p xs)(h:Q (.int xs.length) H):cM K [.ref p] H Q:=⟨p,xs,rfl,.inr e,h⟩
theorem Af{z:Str}(e:z.length<=sizeLine)(h:Q (.int z.length) H):Ce [.str z] H Q:=⟨z,rfl,e,h⟩
theorem cK{v:V}(e:SqL K H p xs)(a:i8 xs i=some v)(h:Q v H):cy K (.ref p) (.int i) H Q:=⟨p,xs,i,v,rfl,rfl,e,a,h⟩
theorem bu{v:V}(e:SqT K H p xs)(a:i8 xs i=some v)(h:Q v H):bt K (.ref p) (.int i) H Q:=⟨p,xs,i,v,rfl,rfl,e,a,h⟩
theorem xt{z:Str}{c:Nat}(e:z.length<=sizeLine)(a:i8 z.cps.toList i=some c)(h:Q (.str ⟨#[c]⟩) H):o_ (.str z) (.int i) H Q:=⟨z,i,c,rfl,rfl,e,a,h⟩
theorem e9(e:SqL K H p xs)(h:∀l,H l=none->Q (.ref l) (upd H l (.tup xs))):dH K [.ref p] H Q:=⟨p,xs,rfl,.inl ⟨e,h⟩⟩
theorem Ac(e:SqT K H p xs)(h:Q (.ref p) H):dH K [.ref p] H Q:=⟨p,xs,rfl,.inr ⟨e,h⟩⟩
theorem F_(e:SqT K H p xs)(h:∀l,H l=none->Q (.ref l) (upd H l (.lst xs))):yX K [.ref p] H Q:=⟨p,xs,rfl,.inr e,h⟩
theorem Kv{r:V->List V->Hp->VK->Prop}{to:TE}{ts:TA}(h:to σ H fun x H1=>G9 K T x H1/\ts σ H1 fun xs H2=>r x xs H2 Q):fX K T r to ts σ H Q:=h
theorem J2(e:H p=some (.lst xs)):G9 K "list" (.ref p) H:=.inl ⟨rfl,xs,SqL.of e⟩
theorem Ik{b:Bool}(h:Q (.int (if b then 1 else 0)) H):ur [.bl b] H Q:=.inr ⟨b,rfl,h⟩
theorem a_{b:Bool}(e:TyOf K H x ty)(k:LN K ty (.type n)=some b)(h:Q (.bl b) H):fL K [x,.ty n] H Q:=⟨x,n,ty,b,rfl,e,k,h⟩
theorem cx{i j:Str}(n:i.length+j.length<=sizeLine)(h:Q (.str (i++j)) H):cZ (.str i) (.str j) H Q:=⟨i,j,rfl,rfl,n,h⟩
end
mutual
inductive Rp (K:Fg) (S:Addr->Prop) (H:Hp):V->Dat->Prop
 |non:Rp K S H .non .none
 |bl (b:Bool):Rp K S H (.bl b) (.bool b)
 |int (i:Int):Rp K S H (.int i) (.int i)
 |str (x:Str):Rp K S H (.str x) (.str x)
 |tup {a:Addr} {xs:List V} {ds:List Dat}:H a=some (.tup xs)->RpL K S H xs ds->Rp K S H (.ref a) (.tuple ds)
 |lst {a:Addr} {xs:List V} {ds:List Dat}:S a->H a=some (.lst xs)->RpL K S H xs ds->Rp K S H (.ref a) (.list ds)
inductive RpL (K:Fg) (S:Addr->Prop) (H:Hp):List V->List Dat->Prop
 |nil:RpL K S H [] []
 |cons {v:V} {d:Dat} {vs:List V} {ds:List Dat}:Rp K S H v d->RpL K S H vs ds->RpL K S H (v :: vs) (d :: ds)
end
structure Agr (S:Addr->Prop) (H H':Hp):Prop where
 tup:∀a xs,H a=some (.tup xs)->H' a=some (.tup xs)
 lst:∀a xs,S a->H a=some (.lst xs)->H' a=some (.lst xs)
section
variable{K:Fg}{S S':Addr->Prop}{H H':Hp}
theorem Agr.of_same(e:Same H H'):Agr S H H':=⟨fun a xs h=>e _ _ h,fun a xs _ h=>e _ _ h⟩
theorem Agr.D9(hl:H l=some (.lst ys))(ns : ¬ S l):Agr S H (upd H l o):=by
 refine⟨fun a xs h=>?_,fun a xs s h=>?_⟩
 ·have ne:a≠l:=by
   rintro rfl;rw[hl] at h;cases h
  rw[bf ne];exact h
 ·have ne:a≠l:=by
   rintro rfl;exact ns s
  rw[bf ne];exact h
mutual
theorem Rp.agr(e:Agr S H H'):∀{v:V} {d:Dat},Rp K S H v d->Rp K S H' v d
 |_,_,.non=>.non
 |_,_,.bl b=>.bl b
 |_,_,.int i=>.int i
 |_,_,.str x=>.str x
 |_,_,.tup h r=>.tup (e.tup _ _ h) (RpL.agr e r)
 |_,_,.lst s h r=>.lst s (e.lst _ _ s h) (RpL.agr e r)
theorem RpL.agr(e:Agr S H H'):∀{vs:List V} {ds:List Dat},RpL K S H vs ds->RpL K S H' vs ds
 |_,_,.nil=>.nil
 |_,_,.cons h r=>.cons (Rp.agr e h) (RpL.agr e r)
end
mutual
theorem Rp.mono(e:∀a,S a->S' a):∀{v:V} {d:Dat},Rp K S H v d->Rp K S' H v d
 |_,_,.non=>.non
 |_,_,.bl b=>.bl b
 |_,_,.int i=>.int i
 |_,_,.str x=>.str x
 |_,_,.tup h r=>.tup h (RpL.mono e r)
 |_,_,.lst s h r=>.lst (e _ s) h (RpL.mono e r)
theorem RpL.mono(e:∀a,S a->S' a):∀{vs:List V} {ds:List Dat},RpL K S H vs ds->RpL K S' H vs ds
 |_,_,.nil=>.nil
 |_,_,.cons h r=>.cons (Rp.mono e h) (RpL.mono e r)
end
mutual
theorem Rp.rep:∀{v:V} {d:Dat},Rp K S H v d->Rep K H v d
 |_,_,.non=>.non
 |_,_,.bl b=>.bl b
 |_,_,.int i=>.int i
 |_,_,.str x=>.str x
 |_,_,.tup h r=>.tup (SqT.of h) (RpL.rep r)
 |_,_,.lst _ h r=>.lst (SqL.of h) (RpL.rep r)
theorem RpL.rep:∀{vs:List V} {ds:List Dat},RpL K S H vs ds->RepL K H vs ds
 |_,_,.nil=>.nil
 |_,_,.cons h r=>.cons (Rp.rep h) (RpL.rep r)
end
theorem Rp.same(e:Same H H')(h:Rp K S H v d):Rp K S H' v d:=h.agr (Agr.of_same e)
theorem RpL.same(e:Same H H')(h:RpL K S H vs ds):RpL K S H' vs ds:=h.agr (Agr.of_same e)
theorem RpL.length:∀{vs:List V} {ds:List Dat},RpL K S H vs ds->vs.length=ds.length
 |_,_,.nil=>rfl
 |_,_,.cons _ r=>congrArg (· + 1) (RpL.length r)
theorem RpL.get:∀{vs:List V} {ds:List Dat} {i:Nat} {v:V},RpL K S H vs ds->vs[i]?=some v->∃d,ds[i]?=some d/\Rp K S H v d
 |_,_,_,_,.nil,e=>by simp at e
 |_,_,0,_,.cons h _,e=>by simp at e;subst e;exact⟨_,rfl,h⟩
 |_,_,i+1,v,.cons _ r,e=>by
  obtain⟨d,h1,h2⟩:=RpL.get (i:=i) (v:=v) r (by simpa using e);exact⟨d,by simpa using h1,h2⟩
theorem RpL.get':∀{vs:List V} {ds:List Dat} {i:Nat} {d:Dat},RpL K S H vs ds->ds[i]?=some d->∃v,vs[i]?=some v/\Rp K S H v d
 |_,_,_,_,.nil,e=>by simp at e
 |_,_,0,_,.cons h _,e=>by simp at e;subst e;exact⟨_,rfl,h⟩
 |_,_,i+1,v,.cons _ r,e=>by
  obtain⟨d,h1,h2⟩:=RpL.get' (i:=i) (d:=v) r (by simpa using e);exact⟨d,by simpa using h1,h2⟩
theorem RpL.append:∀{vs ws:List V} {ds es:List Dat},RpL K S H vs ds->RpL K S H ws es->RpL K S H (vs++ws) (ds++es)
 |_,_,_,_,.nil,s=>s
 |_,_,_,_,.cons h r,s=>.cons h (RpL.append r s)
theorem RpL.ints:∀ns:List Int,RpL K S H (ns.map V.int) (ns.map ND)
 |[]=>.nil
 |n :: ns=>.cons (.int n) (RpL.ints ns)
theorem RpL.strs:∀ns:List Str,RpL K S H (ns.map V.str) (ns.map Mu)
 |[]=>.nil
 |n :: ns=>.cons (.str n) (RpL.strs ns)
theorem RpL.ints_of:∀{vs:List V} {ns:List Int},RpL K S H vs (ns.map ND)->vs=ns.map V.int
 |_,[],.nil=>rfl
 |_,n :: ns,.cons h r=>by cases h;rw[RpL.ints_of r];rfl
theorem RpL.tO:∀{vs:List V} {ns:List Str},RpL K S H vs (ns.map Mu)->vs=ns.map V.str
 |_,[],.nil=>rfl
 |_,n :: ns,.cons h r=>by cases h;rw[RpL.tO r];rfl
theorem Rp.xM(h:Rp K S H v (.tuple ds)):∃a xs,v=.ref a/\SqT K H a xs/\RpL K S H xs ds:=by
 cases h with
 |tup h r=>exact⟨_,_,rfl,SqT.of h,r⟩
theorem Rp.fj(h:Rp K S H v (.tuple ds)):∃a xs,v=.ref a/\H a=some (.tup xs)/\RpL K S H xs ds:=by
 cases h with
 |tup h r=>exact⟨_,_,rfl,h,r⟩
theorem Rp.HK(h:Rp K S H v (.list ds)):∃a xs,v=.ref a/\S a/\SqL K H a xs/\RpL K S H xs ds:=by
 cases h with
 |lst s h r=>exact⟨_,_,rfl,s,SqL.of h,r⟩
theorem Rp.Ec(h:Rp K S H v (.list ds)):∃a xs,v=.ref a/\S a/\H a=some (.lst xs)/\RpL K S H xs ds:=by
 cases h with
 |lst s h r=>exact⟨_,_,rfl,s,h,r⟩
end
def F0:Addr->Prop:=fun _=>False
abbrev Rz(K:Fg)(H:Hp):V->Dat->Prop:=Rp K F0 H
abbrev RzL(K:Fg)(H:Hp):List V->List Dat->Prop:=RpL K F0 H
section
variable{K:Fg}{S:Addr->Prop}{H H':Hp}
theorem RpL.z(h:RzL K H vs ds):RpL K S H vs ds:=h.mono fun _ z=>z.elim
theorem Rz.upd(h:Rz K H v d)(hl:H l=some (.lst ys)):Rz K (L2.upd H l o) v d:=h.agr (Agr.D9 hl fun z=>z)
theorem RzL.upd(h:RzL K H v d)(hl:H l=some (.lst ys)):RzL K (L2.upd H l o) v d:=h.agr (Agr.D9 hl fun z=>z)
end
structure AccZ (K:Fg) (H0:Hp) (l:Addr) (H:Hp) (ds:List Dat):Prop where
 same:Same H0 H
 new:H0 l=none
 at_:∃xs,H l=some (.lst xs)/\RzL K H xs ds
section
variable{K:Fg}{H0 H H':Hp}{l m:Addr}{ds:List Dat}
theorem AccZ.start(e:Same H0 H)(n:H l=none):AccZ K H0 l (upd H l (.lst [])) []:=⟨e.trans (au n _),e.free n,[],aq,.nil⟩
theorem AccZ.on(A:AccZ K H0 l H ds)(e:Same H H'):AccZ K H0 l H' ds:=by
 obtain⟨xs,h1,h2⟩:=A.at_;exact⟨A.same.trans e,A.new,xs,e _ _ h1,h2.same e⟩
theorem AccZ.ref(A:AccZ K H0 l H ds):Rp K (fun a=>H0 a=none) H (.ref l) (.list ds):=by
 obtain⟨xs,h1,h2⟩:=A.at_;exact .lst A.new h1 h2.z
theorem AccZ.rep(A:AccZ K H0 l H ds):Rep K H (.ref l) (.list ds):=A.ref.rep
theorem AccZ.ty(A:AccZ K H0 l H ds):G9 K "list" (.ref l) H:=by
 obtain⟨xs,h1,_⟩:=A.at_;exact J2 h1
theorem AccZ.sq(A:AccZ K H0 l H ds):∃xs,SqL K H l xs/\xs.length=ds.length/\RzL K H xs ds:=by
 obtain⟨xs,h1,h2⟩:=A.at_;exact⟨xs,SqL.of h1,h2.length,h2⟩
theorem AccZ.aq(A:AccZ K H0 l H ds):Same H0 (L2.upd H l o):=fun b u q=>by
 rw[L2.bf (bA q A.new)];exact A.same b u q
theorem AccZ.other(A:AccZ K H0 l H ds)(ne:l≠m)(n:H0 m=none)(h:H m=some (.lst ys)):AccZ K H0 l (upd H m o) ds:=by
 obtain⟨xs,h1,h2⟩:=A.at_;refine⟨fun b u q=>?_,A.new,xs,by rw[bf ne];exact h1,h2.upd h⟩;rw[bf (bA q n)];exact A.same b u q
end
theorem f7{K:Fg}{Q:VK}(A:AccZ K H0 l H ds)(r:Rz K H y d)(n:ds.length<sizeLine)
  (h:∀H2,AccZ K H0 l H2 (ds++[d])->(∀{v:V} {e:Dat},Rz K H v e->Rz K H2 v e)->(∀b,b≠l->H2 b=H b)->(∀{m:Addr} {es:List Dat},m≠l->AccZ K H0 m H es->AccZ K H0 m H2 es)->Q .non H2):di (.ref l) [y] H Q:=by
 obtain⟨xs,h1,h2⟩:=A.at_;refine⟨l,xs,y,rfl,rfl,h1,by rw[h2.length];exact n,h _ ⟨A.aq,A.new,xs++[y],aq,?_⟩ (fun q=>Rz.upd q h1) (fun b nb=>bf nb) fun ne B=>B.other ne A.new h1⟩;exact RzL.upd (h2.append (.cons r .nil)) h1
section
variable{K:Fg}{H:Hp}{Q:VK}{x y:V}{d e:Dat}{ds:List Dat}
open Classical in
theorem wf(hd:Rep K H x d)(he:Rep K H y (.list ds))(ka:∀e∈ds,kqdOk 8 e=true)(kd:kqdOk 8 d=true)(h1:d∉ds->Q (.bl true) H)(h2:d∈ds->Q (.bl false) H):ut K true x y H Q:=by
 refine⟨d,ds,hd,he,ka,kd,?_⟩;by_cases z:d∈ds
 ·have q:=h2 z;simpa[z] using q
 ·have q:=h1 z;simpa[z] using q
open Classical in
theorem Il(hd:Rep K H x d)(he:Rep K H y (.list ds))(ka:∀e∈ds,kqdOk 8 e=true)(kd:kqdOk 8 d=true)(h1:d∈ds->Q (.bl true) H)(h2:d∉ds->Q (.bl false) H):ut K false x y H Q:=by
 refine⟨d,ds,hd,he,ka,kd,?_⟩;by_cases z:d∈ds
 ·have q:=h1 z;simpa[z] using q
 ·have q:=h2 z;simpa[z] using q
open Classical in
theorem CS(hd:Rep K H x d)(he:Rep K H y e)(kd:kqdOk 8 d=true)(ke:kqdOk 8 e=true)(h1:d=e->Q (.bl true) H)(h2:d≠e->Q (.bl false) H):uv K x y H Q:=by
 refine⟨d,e,hd,he,kd,ke,?_⟩;by_cases z:d=e
 ·have q:=h1 z;rw[decide_eq_true z];exact q
 ·have q:=h2 z;rw[decide_eq_false z];exact q
open Classical in
theorem CO(hd:Rep K H x d)(he:Rep K H y e)(kd:kqdOk 8 d=true)(ke:kqdOk 8 e=true)(h1:d≠e->Q (.bl true) H)(h2:d=e->Q (.bl false) H):Cd K x y H Q:=by
 refine⟨d,e,hd,he,kd,ke,?_⟩;by_cases z:d=e
 ·have q:=h2 z;rw[decide_eq_true z];exact q
 ·have q:=h1 z;rw[decide_eq_false z];exact q
end
def C0(n:Nat):Option Int->Nat
 |none=>n
 |some j=>min j.toNat n
def El(l:List Nat):Option Int->List Nat
 |none=>l
 |some j=>l.take j.toNat
theorem Ek(n:Nat)(hi:Option Int):C0 n hi<=n:=by
 cases hi with
 |none=>exact Lf _
 |some j=>exact Qp _ _
def kN(z:Str)(lo hi:Option Int):Str:=⟨((El z.cps.toList hi).drop (lo.getD 0).toNat).toArray⟩
def NN:Option Int->Prop
 |none=>True
 |some i=>0<=i
theorem JF{lo:Option Int}(n:Nat)(hl:NN lo)(hh:NN hi):Ma lo hi 1 n=(Mo (C0 n hi-min (lo.getD 0).toNat n)).map (fun k=>min (lo.getD 0).toNat n+k):=by
 have core:∀(a b:Nat),a<=n->b<=n->sliceRange (a:Int) (b:Int) 1=(Mo (b-a)).map (fun k=>a+k):=by
  intro a b ha hb;simp only[sliceRange,show((1:Int) > 0)=True from by simp,if_true];by_cases VL:(a:Int)<b
  ·have e3:(((b:Int)-a+1-1) / 1).toNat=b-a:=by rw[R6];walk_at "om"
   simp only[VL,if_true,e3];refine QW fun k _=>?_
   walk_at "om"
  ·have:b-a=0:=by walk_at "om"
   simp[VL,this]
 have clip:∀i:Int,0<=i->max (0:Int) (min (if i<0 then i+n else i) n)=((min i.toNat n:Nat):Int):=by
  intro i hi;rw[if_neg (by walk_at "om")];walk_at "om"
 cases lo with
 |none =>
  cases hi with
  |none =>
   have:=core 0 n (by walk_at "om") (by walk_at "om")
   simpa[Ma,C0] using this
  |some j =>
   have:=core 0 (min j.toNat n) (by walk_at "om") (by walk_at "om")
   simp only[Ma,show((1:Int) > 0)=True from by simp,if_true];rw[clip j hh];simpa[C0] using this
 |some i =>
  cases hi with
  |none =>
   have:=core (min i.toNat n) n (by walk_at "om") (by walk_at "om")
   simp only[Ma,show((1:Int) > 0)=True from by simp,if_true];rw[clip i hl];simpa[C0] using this
  |some j =>
   have:=core (min i.toNat n) (min j.toNat n) (by walk_at "om") (by walk_at "om")
   simp only[Ma,show((1:Int) > 0)=True from by simp,if_true];rw[clip i hl,clip j hh];simpa[C0] using this
theorem BH(z:Str){lo:Option Int}(hl:NN lo)(hh:NN hi):Ob z lo hi=kN z lo hi:=by
 have len:z.cps.toList.length=z.length:=by simp[Vh]
 have e:=JF z.length hl hh;have p:=StrLaws.picks z.cps.toList (C0 z.length hi-min (lo.getD 0).toNat z.length) (min (lo.getD 0).toNat z.length) (by have:=Ek z.length hi;rw[len];walk_at "om")
 have q:(z.cps.toList.drop (min (lo.getD 0).toNat z.length)).take (C0 z.length hi-min (lo.getD 0).toNat z.length)=(El z.cps.toList hi).drop (lo.getD 0).toNat:=by
  generalize (lo.getD 0).toNat=a;cases hi with
  |none =>
   show List.take (z.length-min a z.length) (Tv (min a z.length) z.cps.toList)=Tv a z.cps.toList;by_cases ha:a<=z.length
   ·rw[PY ha,Ln (by rw[M_,len];exact Lf _)]
   ·rw[Px (by walk_at "om"),N7 (by rw[len];exact Lf _),N7 (by rw[len];walk_at "om")];simp
  |some j =>
   show List.take (min j.toNat z.length-min a z.length) (Tv (min a z.length) z.cps.toList)=Tv a (z.cps.toList.take j.toNat);rw[List.drop_take];generalize j.toNat=b;by_cases ha:a<=z.length
   ·rw[PY ha];by_cases hb:b<=z.length
    ·rw[PY hb]
    ·rw[Px (by walk_at "om"),Ln (by rw[M_,len];exact Lf _),Ln (by rw[M_,len];walk_at "om")]
   ·rw[Px (by walk_at "om":z.length<=a),N7 (by rw[len];exact Lf _),N7 (by rw[len];walk_at "om")];simp
 have r:(Ma lo hi 1 z.length).filterMap (z.cps[·]?)=(El z.cps.toList hi).drop (lo.getD 0).toNat:=by
  rw[<- q,<- p,e];simp
 unfold Ob kN;split
 ·rename_i c;have c':(Ma lo hi 1 z.length).length=z.length:=by simpa using c
  rw[e,K9,N2] at c'
  have w:(z.cps.toList.drop (min (lo.getD 0).toNat z.length)).take (C0 z.length hi-min (lo.getD 0).toNat z.length)=z.cps.toList:=by
   have b:=Ek z.length hi;by_cases h0:z.length=0
   ·have:z.cps.toList=[]:=MB.mp (by rw[len];exact h0)
    rw[this];simp
   ·have a0:min (lo.getD 0).toNat z.length=0:=by walk_at "om"
    rw[a0,Q9,Ln (by rw[len];walk_at "om")]
  rw[<- q,w]
 ·rw[r]
def Cb:V->Option Int->Option Int->Hp->VK->Prop:=fun x lo hi H Q=>∃z,x=.str z/\z.length<=sizeLine/\NN lo/\NN hi/\Q (.str (kN z lo hi)) H
def uu:V->List V->Hp->VK->Prop:=fun x xs H Q=>∃z y,x=.str z/\xs=[.str y]/\Q (.int (SX z y)) H
def w6:R2:=fun x y H Q=>∃i j,x=.str i/\y=.str j/\Q (.bl (!decide (j.cps.toList<i.cps.toList))) H
def JL:List V->Hp->VK->Prop:=fun xs H Q=>∃i j,xs=[.int i,.int j]/\Q (.int (if j<i then j else i)) H
section
variable{X:Cx}
theorem yC:Jh X Cb:=by
 intro pins s σ H x v vl vu lo hi sl Q I rx hs pl pu h;obtain⟨z,rfl,hz,hl,hh,q⟩:=h;obtain⟨t,rfl⟩:=rx;refine⟨"str",_,T8.lookup,Ph _ _ _,?_⟩
 have fin:∀(l u:Option (Int×Tok)),l.map (·.1)=lo->u.map (·.1)=hi->(sliceMade z t l u none).post (EP X pins σ Q) s:=by
  intro l u el eu
  have e:sliceMade z t l u none=if ((1:Int) == 1 && (Ma lo hi 1 z.length).length == z.length)=true then Made.val (.str z t) else .str ⟨((Ma lo hi 1 z.length).filterMap (z.cps[·]?)).toArray⟩:=by
   unfold sliceMade slicePicked;rw[el,eu];rfl
  rw[e];have lt:=Txt.slice_le z lo hi;have eq:=BH z hl hh;unfold Ob at lt eq;refine post_val_or_str ⟨Mh lt hz,fun t' k=>⟨.str (kN z lo hi),H,I.tok k,⟨t',?_⟩,q⟩⟩;rw[eq]
 cases pl with
 |none =>
  cases pu with
  |none=>exact MN (l:=none) (u:=none) (st:=none) hs rfl (fin none none rfl rfl)
  |int j tj=>exact MN (l:=none) (u:=some (j,tj)) (st:=none) hs rfl (fin none (some (j,tj)) rfl rfl)
 |int i ti =>
  cases pu with
  |none=>exact MN (l:=some (i,ti)) (u:=none) (st:=none) hs rfl (fin (some (i,ti)) none rfl rfl)
  |int j tj=>exact MN (l:=some (i,ti)) (u:=some (j,tj)) (st:=none) hs rfl (fin (some (i,ti)) (some (j,tj)) rfl rfl)
theorem jq:GS X "str.find" uu:=by
 intro pins s σ H x xs v us Q I rx rv h;obtain⟨z,y,rfl,rfl,q⟩:=h;obtain⟨t,rfl⟩:=rx;obtain⟨u,rfl,t',rfl⟩:=vals1 rv;exact SC.find ⟨.int _,H,I.tok _,⟨_,rfl⟩,q⟩
theorem iS:gW X (compareOp .LtE) w6:=by
 intro pins s σ H x y v u Q I rx ry h;obtain⟨i,j,rfl,rfl,q⟩:=h;obtain⟨t,rfl⟩:=rx;obtain⟨t',rfl⟩:=ry;exact PySem.P.le_str (b8 I q rfl)
end
def RawD(h:Heap)(d:Addr)(es:Array RO)(ep:Nat):Prop:=∃o,h.get? d=some o/\o.ExactDict/\o.data=.dict es ep
section
variable{prog:LB}{w:LQ}{A:Mf}{E:La->Le->Prop}{s:Le}{d it:Addr}{es:Array RO}{ep i:Nat}
theorem RawD.ty(m:RawD s.heap d es ep):s.TypeIs (.ref d) "dict":=by
 obtain⟨o,a,b,_⟩:=m;exact⟨o,a,b.1⟩
theorem RawD.at{h':Heap}(m:RawD h d es ep)(k:∀o,h.get? d=some o->h'.get? d=some o):RawD h' d es ep:=by
 obtain⟨o,a,b⟩:=m;exact⟨o,k o a,b⟩
theorem B8{Q:La->Le->Prop} (lo:(d == sysModules)=false) (m:RawD s.heap d es ep) (q:Q (.ref s.heap.objs.size) {s with heap:=s.heap.push {cls:=.type "dict_keyiterator",data:=.fields #[.ref d,.int 0 0,.int es.size 0,.int ep 0]}}) :
  wpAny (model prog w) A (pyIter (.ref d)) Q E s:=by
 have ty:=m.ty;obtain⟨o,ho,_,dt⟩:=m;refine wpAny_pyIter_slot ty UO (NO UO ty F.entry_dict_iter ?_ (F.args_dict_iter_1 _));unfold Og.«dict.__iter__» Og.Dict.dictSlotNone;refine K8 (K8 (wpAny_notOrdered_dict ty ?_));show wpAny _ _ (pure (LZ d)) _ _ s;refine Lh ?_;show wpAny _ _ (SE d >>= _) _ _ s;unfold SE;rw[if_neg (fun z=>by rw[lo] at z;cases z)];refine K8 (Lh (K8 (Ru ho dt (K8 (Sy ho dt ?_)))));refine K8 (ME (Lh ⟨_,rfl,"dict_keyiterator",_,⟨_,LJ _ rfl,rfl⟩,Nm.lookup,?_⟩));simpa[rawInt] using q
theorem vO{Q:Option La->Le->Prop}(ki:s.heap.IsKeyIter it d i es.size ep)(m:RawD s.heap d es ep) :
  (∀e,es[i]?=some e->(∀h',h'.IsKeyIter it d (i+1) es.size ep->Pr it s.heap h'->Q (some e.key) {s with heap:=h'})->wpAny (model prog w) A (pyNext (.ref it)) Q E s) /\
  (A.handled=none->es[i]?=none->(∀h',SY it s.heap h'->Q none {s with heap:=h'})->wpAny (model prog w) A (pyNext (.ref it)) Q E s):=by
 obtain⟨o,ho,oc,od⟩:=id ki;obtain⟨dd,hd,_,dt⟩:=id m;have own:Og.Dict_items.ownsTuple "dict_keyiterator"=false:=by decide
 have nn : ¬ ((LZ d == MI)=true):=LO;constructor
 ·intro e he hq;unfold pyNext;refine K8 (O5 (M3 (name:=OQ "__next__") ki.typeIs Nm (NO Nm ki.typeIs QF ?_ (Qs _))));refine K8 (Lh (K8 (K8 (K8 (NZ ki.typeIs (Lh (K8 (wpAny_fieldsOf ho od ?_))))))));simp only[own,LX,if_false];show wpAny _ _ (if (LZ d == MI)=true then _ else _) _ _ s;rw[if_neg nn];refine K8 (Lh (K8 (Ru hd dt ?_)));rw[if_neg (by simp)];refine K8 (Lh (K8 (Sy hd dt ?_)));rw[if_neg (by simp)];refine Lh ?_;simp only[show ¬ ((i:Int)<0) from by walk_at "om",if_false,Nx,he];refine K8 (K8 (NZ ki.typeIs (Lh (K8 (SG ki.typeIs ?_)))));show wpAny _ _ (setField (.ref it) 1 (rawInt ((i:Int)+1)) >>= _) _ _ s;refine K8 (OL ho od (by simp) ?_);have k2:(s.heap.update it (MX (·.setIfInBounds 1 (rawInt ((i:Int)+1))))).IsKeyIter it d (i+1) es.size ep:=⟨_,MZ _ ho (Oi (NP od _)),(Rs ..).trans oc,by rw[NP od];simp[rawInt]⟩
  refine K8 (MJ (K8 (SG (s:={s with heap:=s.heap.update it (MX (·.setIfInBounds 1 (rawInt ((i:Int)+1))))}) k2.typeIs ?_)));show wpAny _ _ (pure e.key) _ _ _;exact Lh (Lh ⟨_,rfl,Lh (hq _ k2 (OG ..))⟩)
 ·intro hh he hq;unfold pyNext;refine K8 (O5 (M3 (name:=OQ "__next__") ki.typeIs Nm (NO Nm ki.typeIs QF ?_ (Qs _))));refine K8 (Lh (K8 (K8 (K8 (NZ ki.typeIs (Lh (K8 (wpAny_fieldsOf ho od ?_))))))));simp only[own,LX,if_false];show wpAny _ _ (if (LZ d == MI)=true then _ else _) _ _ s;rw[if_neg nn];refine K8 (Lh (K8 (Ru hd dt ?_)));rw[if_neg (by simp)];refine K8 (Lh (K8 (Sy hd dt ?_)));rw[if_neg (by simp)];refine Lh ?_;simp only[show ¬ ((i:Int)<0) from by walk_at "om",if_false,Nx,he];refine K8 (K8 (NZ ki.typeIs (Lh ?_)));show wpAny _ _ (setField (.ref it) 0 .none >>= _) _ _ s;refine K8 (OL ho od (by simp) ?_);show wpAny _ _ (newExc (.type "StopIteration") [] >>= _) _ _ _;refine K8 ?_;simp only[newExc,newTuple];refine K8 (ME ?_ (by size_fits));refine K8 (m:=firstArgMember _ _) (wpAny_of_eq (a:=MI) (by simp only[firstArgMember];rfl) (ME ?_ (by size_fits)));simp only[raiseNew];refine K8 (wpAny_handled ?_);rw[show A.in1.handled=none from hh];refine K8 (Lh (wpAny_throw ?_));refine K8 (RV (T:="StopIteration") (b:=true) ⟨_,LJ _ rfl,rfl⟩ isSubtype_stop ?_);exact Lh (hq _ (((OG ..).extBut.push _).push _))
theorem yU(hh:A.handled=none)(I d:Addr)(ne:d≠I)(es:Array RO)(ep:Nat):Walks prog w A I [I,d] [I] es.size (fun i v=>∃e,es[i]?=some e/\v=e.key) (fun i h=>h.IsKeyIter I d i es.size ep/\RawD h d es ep) where
 sub:=fun b hb=>by rw[Lw.mp hb];simp
 frame:=fun _ _ _ st hk=>⟨st.1.at fun o e=>hk I (by simp) o e,st.2.at fun o e=>hk d (by simp) o e⟩
 item:=fun i s Q E hi st hq=>by
  refine(vO st.1 st.2).1 es[i] (by simp[hi]) fun h' k1 k2=>?_
  exact hq _ h' s.toks ⟨es[i],by simp[hi],rfl⟩ ⟨k1,st.2.at fun o e=>k2.extBut d o ne e⟩ fun b o hb e=>k2.extBut b o (fun z=>hb (by simp[z])) e
 done:=fun s Q E st hq=>(vO st.1 st.2).2 hh (by simp) fun h' k=>hq h' s.toks fun b o hb e=>k b o (fun z=>hb (by simp[z])) e
 self:=fun _ _ _ _ st hq=>wpAny_pyIter_keyiter st.1 hq
theorem Fq(lo:(d == sysModules)=false):PySem.W.KdlSrc prog w "dict" d d es.size (fun i v=>∃e,es[i]?=some e/\v=e.key) (fun h=>RawD h d es ep) where
 type:=fun _ m=>m.ty
 there:=fun _ ⟨_,e,_⟩=>⟨Ls e,Ls e⟩
 keep:=fun _ _ m hk=>m.at fun o e=>hk d (.inl rfl) o e
 notList:=by decide
 notTuple:=by decide
 hint:=fun _ _ _ _ m q=>PySem.W.kdl_hint_dict m.ty q
 iter:=fun _ _ hh m=>⟨_,_,(fun _ _ q=>B8 lo m q),yU hh _ d (by obtain⟨_,e,_⟩:=m;exact LA (Ls e)) es ep,⟨⟨_,LJ _ rfl,rfl,rfl⟩,m.at fun _ e=>Lb _ e⟩⟩
end
theorem qT:∀ys:List (List Key×Addr×La),Vals (ys.map (V.ref∘fun y=>y.2.1)) (ys.map fun y=>LZ y.2.1)
 |[]=>.nil
 |_ :: ys=>.cons rfl (qT ys)
theorem F6(r:KT H i3 ys):Paired (fun(p:List Key×V) b=>H b=some (.tup (p.1.map kV))) i3 (ys.map fun y=>y.2.1):=by
 induction r with
 |nil=>exact .nil
 |cons h t ih=>exact .cons h.2.1 ih
def DW:List V->Hp->VK->Prop:=fun xs H Q=>∃a i3,xs=[.ref a]/\H a=some (.dT i3)/\∀(l:Addr) (bs:List Addr),H l=none->Paired (fun(p:List Key×V) b=>H b=some (.tup (p.1.map kV))) i3 bs->Q (.ref l) (upd H l (.lst (bs.map V.ref)))
theorem xB{X:Cx} (hc:X.calm=true):g8 X (.type "list") DW:=by
 intro pins s σ H xs us Q I r h;obtain⟨a,i3,rfl,ha,q⟩:=h;obtain⟨u,rfl,ru⟩:=vals1 r;cases ru;obtain⟨z,lo,ys,kt,o,es,ep,ho,ex,dt,he,_,_⟩:=IS I.hok ha;have sz:es.size=i3.length:=by rw[<- Mv,he,K9];exact(N8 kt).symm
 refine PySem.W.kdl_call (Fq (es:=es) (ep:=ep) lo) (I.ok.hd hc) ⟨o,ho,ex,dt⟩ (by rw[sz];exact z) fun h' tk acc c kp hl hit=>?_
 have XX:acc.toList=ys.map fun y=>LZ y.2.1:=by
  refine Pa fun j=>?_
  by_cases lt:j<es.size
  ·have hj:j<acc.toList.length:=by rw[Mv];rw[hit.1];exact lt
   have e1:acc.toList[j]?=some acc.toList[j]:=Ld hj;obtain⟨e,ee,ev⟩:=hit.2 j acc.toList[j] (by rw[<- MA];exact e1);rw[e1,ev];rw[<- MA,he,Ll] at ee;obtain⟨y,hy1,hy2⟩:=Lu.mp ee;rw[Ll,hy1,<- hy2];rfl
  ·rw[NG (by rw[Mv,hit.1];walk_at "om"),NG];rw[K9]
   have:=N8 kt
   walk_at "om"
 have vals:Vals ((ys.map fun y=>y.2.1).map V.ref) acc.toList:=by
  rw[XX,Na];exact qT ys
 have prd:Paired (fun(p:List Key×V) b=>H b=some (.tup (p.1.map kV))) i3 (ys.map fun y=>y.2.1):=by
  exact F6 kt
 refine⟨.ref s.heap.objs.size,_,I.laid (t':=tk) kp (Lf _) (show cP X.prog X.w _ h' _ (.lst ((ys.map fun y=>y.2.1).map V.ref)) from⟨?_,acc.toList,c,vals,by rw[Array.toArray_toList];exact hl⟩),rfl,q _ _ (I.hok.fresh (Lf _)) prd⟩;rw[K9,K9,<- N8 kt];exact z
section
variable{X:Cx}{pins:List (Addr×Obj)}{σ:St}{H:Hp}{s:Le}{h':Heap}
theorem Inv.oz{t':Nat}{fp:List Addr}(I:Inv X pins σ H s)(k:∀b o,b∉fp->s.heap.get? b=some o->h'.get? b=some o)(hf:∀b∈fp,g7 X pins H b):Inv X pins σ H {s with heap:=h',toks:=t'}:=by
 have Zt:∀b u,H b=some u->b∉fp:=fun b u e z=>by
  have q:=(hf b z).1;rw[q] at e;cases e
 refine I.step (g':=s.gens) (d':=s.drawn) (ch:=fp) (fun b hb=>⟨(hf b hb).2.2.2.1,(hf b hb).2.1,(hf b hb).2.2.2.2.1,(hf b hb).2.2.2.2.2⟩) (fun b o _ _ hc e _=>k b o hc e) (fun b o _ _ hc e _=>⟨o.slots,k b o hc e⟩) (fun _ _ _ _ n=>n)
  (fun b o hc e=>⟨o,k b o hc e⟩) (fun _ _ e=>e) (fun _ _ _ e=>e) (fun b ps e=>⟨#[],by rw[e,TX]⟩) (fun m hm=>?_) (fun b u e=>?_) I.bare
 ·obtain⟨o,es,ep,ho,r⟩:=hm;exact⟨o,es,ep,k _ o (fun z=>(hf _ z).2.1 rfl) ho,r⟩
 ·refine(I.hok b u e).stay (fun c v hc q=>k c v ?_ q) (fun _ q=>q) fun _ _ q=>q
  rcases hc with z|z
  ·rw[z];exact Zt b u e
  ·exact Zt c _ z
end
structure Jq (prog:LB) (w:LQ) (it l:Addr) (xs:Array La) (St:Nat->Heap->Prop):Prop where
 keep:∀k h h',St k h->(∀b,b=it\/b=l->∀o,h.get? b=some o->h'.get? b=some o)->St k h'
 there:∀k h,St k h->it<h.objs.size/\∃o,h.get? it=some o/\∀v,o.data≠.cell v
 item:∀(A:Mf) (E:La->Le->Prop) (s:Le) (k:Nat) (x:La) (Q:La->Le->Prop),St k s.heap->xs[k]?=some x->(∀h',St (k+1) h'->Pr it s.heap h'->Q x {s with heap:=h'})->wpAny (model prog w) A (MD (.ref it)) Q E s
 fin:∀(A:Mf) (E:La->Le->Prop) (s:Le) (k:Nat) (Q:La->Le->Prop),A.handled=none->St k s.heap->xs[k]?=none ->
  (∀h' e,SY it s.heap h'->(∃o,h'.get? e=some o/\o.cls=.type "StopIteration")->E (.ref e) {s with heap:=h'})->wpAny (model prog w) A (MD (.ref it)) Q E s
section
variable{prog:LB}{w:LQ}{A:Mf}{E:La->Le->Prop}{s:Le}
theorem Dh(it l:Addr)(ne:l≠it)(xs:Array La):Jq prog w it l xs (fun k h=>h.IsListIter it l k/\h.IsList l xs) where
 keep:=fun k h h' st hk=>⟨st.1.at fun o e=>hk it (.inl rfl) o e,st.2.at fun o e=>hk l (.inr rfl) o e⟩
 there:=fun k h ⟨⟨o,e,_,d⟩,_⟩=>⟨Ls e,o,e,fun v z=>by rw[d] at z;cases z⟩
 item:=fun A E s k x Q st hx q=>wpAny_nextOf_list_item st.1 st.2 hx fun h' a b=>q h' ⟨a,st.2.at fun o e=>b.extBut l o ne e⟩ b
 fin:=fun A E s k Q hh st hx q=>wpAny_nextOf_list_end hh st.1 st.2 hx q
theorem GA(it l:Addr)(ne:l≠it)(xs:Array La):Jq prog w it l xs (fun k h=>h.IsTupleIter it l k/\h.IsTuple l xs) where
 keep:=fun k h h' st hk=>⟨st.1.at fun o e=>hk it (.inl rfl) o e,by obtain⟨o,e,r⟩:=st.2;exact⟨o,hk l (.inr rfl) o e,r⟩⟩
 there:=fun k h ⟨⟨o,e,_,d⟩,_⟩=>⟨Ls e,o,e,fun v z=>by rw[d] at z;cases z⟩
 item:=fun A E s k x Q st hx q=>by
  obtain⟨o,ho,oc,od⟩:=id st.1;obtain⟨ol,hl,_,nl,dl⟩:=id st.2;unfold MD;refine K8 (M3 (name:=OQ "__next__") st.1.typeIs Od (NO Od st.1.typeIs QZ ?_ (QN _)));show wpAny _ _ (field (.ref it) 0 >>= _) _ _ s;refine K8 (ML ho od (x:=.ref l) rfl ?_);show wpAny _ _ (if (LZ l == MI)=true then _ else _) _ _ s;rw[if_neg (show ¬ ((LZ l == MI)=true) from LO)];show wpAny _ _ (field (.ref it) 1 >>= _) _ _ s;refine K8 (ML ho od (x:=.int k 0) rfl ?_);show wpAny _ _ (seqItems? (.ref l) >>= _) _ _ s;refine K8 (Ni hl dl ?_);simp only[Nx,hx];have k2:(s.heap.update it (MX (·.setIfInBounds 1 (rawInt ((k:Int)+1))))).IsTupleIter it l (k+1):=⟨_,MZ _ ho (Oi (NP od _)),(Rs ..).trans oc,by rw[NP od];simp[rawInt]⟩
  exact K8 (OL ho od (by simp) (Lh ⟨x,rfl,Lh (q _ ⟨k2,⟨ol,(OG ..).extBut l ol ne hl,by assumption,nl,dl⟩⟩ (OG ..))⟩))
 fin:=fun A E s k Q hh st hx q=>by
  obtain⟨o,ho,oc,od⟩:=id st.1;obtain⟨ol,hl,_,nl,dl⟩:=id st.2;unfold MD;refine K8 (M3 (name:=OQ "__next__") st.1.typeIs Od (NO Od st.1.typeIs QZ ?_ (QN _)));show wpAny _ _ (field (.ref it) 0 >>= _) _ _ s;refine K8 (ML ho od (x:=.ref l) rfl ?_);show wpAny _ _ (if (LZ l == MI)=true then _ else _) _ _ s;rw[if_neg (show ¬ ((LZ l == MI)=true) from LO)];show wpAny _ _ (field (.ref it) 1 >>= _) _ _ s;refine K8 (ML ho od (x:=.int k 0) rfl ?_);show wpAny _ _ (seqItems? (.ref l) >>= _) _ _ s;refine K8 (Ni hl dl ?_);simp only[Nx,hx];refine K8 (wpAny_rule (K8 (OL ho od (by simp) ?_)));show wpAny _ _ (newExc (.type "StopIteration") [] >>= _) _ _ _;refine K8 ?_;simp only[newExc,newTuple];refine K8 (ME ?_ (by size_fits));refine K8 (m:=firstArgMember _ _) (wpAny_of_eq (a:=MI) (by simp only[firstArgMember];rfl) ?_);refine ME ?_ (by size_fits);simp only[raiseNew];refine K8 (wpAny_handled ?_);rw[show A.in1.handled=none from hh];exact K8 (Lh (wpAny_throw (q _ _ (((OG ..).extBut.push _).push _) ⟨_,LJ _ rfl,rfl⟩)))
end
structure KM (z TI TO i1 i2 l1 l2:Addr):Prop where
 a:i1<i2
 b:i2<TI
 c:TI<TO
 d:TO<z
 e:l1<i1
 f:l2<i1
theorem xK{z TI TO i1 i2 l1 l2:Nat}(a:i1<i2)(b:i2<TI)(c:TI<TO)(d:TO<z)(e:l1<i1)(f:l2<i1) :
  i1≠z/\i2≠z/\TO≠i1/\TO≠i2/\TO≠z/\TI≠z/\TI≠TO/\TI≠i1/\TI≠i2/\i1≠i2/\l1≠z/\l1≠TO/\l1≠i2/\l2≠z/\l2≠TO/\l2≠i1:=by
 have iT:=L8 b c;have iz:=L8 iT d;have jI:=L8 a b;have jT:=L8 a iT;have jz:=L8 a iz;have tz:=L8 c d;exact⟨LA jz,LA iz,NQ jT,NQ iT,LA d,LA tz,LA c,NQ jI,NQ b,LA a,LA (L8 e jz),LA (L8 e jT),LA (L8 e a),LA (L8 f jz),LA (L8 f jT),LA f⟩
section
variable{prog:LB}{w:LQ}{A:Mf}{E:La->Le->Prop}{s:Le}{z TI TO i1 i2 l1 l2:Addr}{xs ys:Array La}{S1 S2:Nat->Heap->Prop}{k:Nat}
structure K5 (z TI TO i1 i2:Addr) (S1 S2:Nat->Heap->Prop) (k:Nat) (h:Heap):Prop where
 z:SZ h z TI TO .none
 i:PH h TI (.ref i1) (.ref i2)
 o:∃a b,PH h TO a b
 s1:S1 k h
 s2:S2 k h
theorem sV{Q:Unit->Le->Prop} (hT:PH s.heap T a b) (q:∀h',h'.get? T=some {cls:=.type "tuple",data:=.seq ((#[a,b]:Array La).setIfInBounds j x)}->Pr T s.heap h'->Q () {s with heap:=h'}) :
  wpAny (model prog w) A (updateSeq T (·.setIfInBounds j x)) Q E s:=wpAny_updateSeq_pair hT q
theorem DG(D:KM z TI TO i1 i2 l1 l2)(W1:Jq prog w i1 l1 xs S1)(W2:Jq prog w i2 l2 ys S2)(st:K5 z TI TO i1 i2 S1 S2 k s.heap){Q:Option La->Le->Prop} :
  (∀x y,xs[k]?=some x->ys[k]?=some y->(∀h',SZ h' z TI TO (rawInt s.heap.objs.size)->PH h' TI (.ref i1) (.ref i2)->(∃a b,PH h' TO a b)->S1 (k+1) h'->S2 (k+1) h'->PH h' s.heap.objs.size x y ->
   (∀c o,c∉[z,TI,TO,i1,i2]->s.heap.get? c=some o->h'.get? c=some o)->Q (some (.ref s.heap.objs.size)) {s with heap:=h'})->wpAny (model prog w) A (pyNext (.ref z)) Q E s) /\
  (A.handled=none->(xs[k]?=none\/ys[k]?=none)->(∀h',(∀c o,c∉[z,TI,TO,i1,i2]->s.heap.get? c=some o->h'.get? c=some o)->Q none {s with heap:=h'})->wpAny (model prog w) A (pyNext (.ref z)) Q E s):=by
 obtain⟨d1,d2,d3,d4,d5,d6⟩:=D;obtain⟨hz,hI,⟨a,b,hO⟩,t1,t2⟩:=st;have ty:s.TypeIs (.ref z) "zip":=⟨_,hz,rfl⟩
 obtain⟨n1,n2,nO1,nO2,XS,nIz,nIO,nI1,nI2,n12,q1,q2,q3,q4,q5,q6⟩:=xK d1 d2 d3 d4 d5 d6
 have m1:∀{c h h':_},c∈[z,TO,i2]->SY c h h'->∀k,S1 k h->S1 k h':=fun {c h h'} hc x k t=>W1.keep k h h' t fun b hb o e=>x b o (by
  rcases hb with rfl|rfl <;> (simp only[Lr,L_,or_false] at hc;rcases hc with rfl|rfl|rfl <;> first|assumption|(apply Nd;assumption))) e
 have m2:∀{c h h':_},c∈[z,TO,i1]->SY c h h'->∀k,S2 k h->S2 k h':=fun {c h h'} hc x k t=>W2.keep k h h' t fun b hb o e=>x b o (by
  rcases hb with rfl|rfl <;> (simp only[Lr,L_,or_false] at hc;rcases hc with rfl|rfl|rfl <;> first|assumption|(apply Nd;assumption))) e
 constructor
 ·intro x y hx hy q;unfold pyNext;refine K8 (O5 (M3 (name:=OQ "__next__") ty QP (NO QP ty UP ?_ (Ur _))));show wpAny _ _ (field (.ref z) 2 >>= _) _ _ _;refine K8 (ML hz rfl (x:=.bool false) rfl ?_);show wpAny _ _ (field (.ref z) 3 >>= _) _ _ _;refine K8 (ML hz rfl (x:=.ref TI) rfl (K8 (Ni hI rfl ?_)));show wpAny _ _ (Nj (.ref z) >>= _) _ _ _;refine K8 ?_;unfold Nj;refine K8 (ML hz rfl (x:=.none) rfl (Lh ?_));simp only[if_true];refine K8 (wpAny_rule (K8 (ML hz rfl (x:=.ref TO) rfl (K8 (Oe hz (by simp) fun h1 Xn WW=>?_)))));replace Xn:SZ h1 z TI TO .ellipsis:=Xn;refine K8 ?_;simp only[UQ,U_,PX,Vl];refine K8 (K8 (Qz ?_));show wpAny _ _ (MD (.ref i1) >>= _) _ _ _;refine K8 (W1.item _ _ _ k x _ (m1 (by simp) WW.extBut k t1) hx fun h2 XV hs2=>Lh ?_);have YN:PH h2 TO a b:=hs2.extBut _ _ nO1 (WW.extBut _ _ XS hO);refine K8 (Ni YN rfl (K8 (sV YN fun h3 Z4 WX=>?_)));replace Z4:PH h3 TO x b:=Z4;refine K8 (U5 (Lh (K8 (K8 (Qz ?_)))));show wpAny _ _ (MD (.ref i2) >>= _) _ _ _;refine K8 (W2.item _ _ _ k y _ (m2 (by simp) WX.extBut k (m2 (by simp) hs2.extBut k (m2 (by simp) WW.extBut k t2))) hy fun h4 t24 Xy=>Lh ?_);have hO4:PH h4 TO x b:=Xy.extBut _ _ nO2 Z4;refine K8 (Ni hO4 rfl (K8 (sV hO4 fun h5 Z5 Xz=>?_)));replace Z5:PH h5 TO x y:=Z5;refine K8 (U5 (Lh (Lh (K8 (Ni Z5 rfl (K8 (wpAny_newTuple ?_)))))));have sz:h5.objs.size=s.heap.objs.size:=by rw[Xz.1,Xy.1,WX.1,hs2.1,WW.1]
  have hz5:SZ h5 z TI TO .ellipsis:=Xz.extBut _ _ XS.symm (Xy.extBut _ _ n2.symm (WX.extBut _ _ XS.symm (hs2.extBut _ _ n1.symm Xn)))
  have all5:∀c o,c∉[z,TI,TO,i1,i2]->s.heap.get? c=some o->h5.get? c=some o:=fun c o hc e=>by
   simp only[Lr,L_,or_false,not_or] at hc;exact Xz.extBut _ _ hc.2.2.1 (Xy.extBut _ _ hc.2.2.2.2 (WX.extBut _ _ hc.2.2.1 (hs2.extBut _ _ hc.2.2.2.1 (WW.extBut _ _ hc.1 e))))
  have hI5:PH h5 TI (.ref i1) (.ref i2):=Xz.extBut _ _ nIO (Xy.extBut _ _ nI2 (WX.extBut _ _ nIO (hs2.extBut _ _ nI1 (WW.extBut _ _ nIz hI))));have zlt:z<h5.objs.size:=Ls hz5;show wpAny _ _ (PK (.ref z) (.ref h5.objs.size) >>= _) _ _ _;refine K8 ?_;unfold PK;have hz6:SZ (h5.push {cls:=.type "tuple",data:=.seq #[x,y]}) z TI TO .ellipsis:=Lb _ hz5;refine K8 (Oe hz6 (by simp) fun h7 hz7 hs7=>?_);replace hz7:SZ h7 z TI TO (rawInt h5.objs.size):=hz7;refine Oe hz7 (by simp) fun h8 hz8 hs8=>?_;replace hz8:SZ h8 z TI TO (rawInt h5.objs.size):=hz8
  have up:∀c o,c≠z->h5.get? c=some o->h8.get? c=some o:=fun c o c1 e=>hs8.extBut _ _ c1 (hs7.extBut _ _ c1 (Lb _ e))
  have hT:PH h8 h5.objs.size x y:=hs8.extBut _ _ (NQ zlt) (hs7.extBut _ _ (NQ zlt) (LJ _ rfl));have t1':S1 (k+1) h8:=W1.keep _ _ _ (m1 (by simp) Xz.extBut _ (m1 (by simp) Xy.extBut _ (m1 (by simp) WX.extBut _ XV))) fun c hc o e=>up c o (by rcases hc with rfl|rfl <;> first|assumption|(apply Nd;assumption)) e
  have t2':S2 (k+1) h8:=W2.keep _ _ _ (m2 (by simp) Xz.extBut _ t24) fun c hc o e=>up c o (by rcases hc with rfl|rfl <;> first|assumption|(apply Nd;assumption)) e
  rw[sz] at hz8 hT;refine Lh ⟨_,rfl,?_⟩;show wpAny _ _ (pure (some (LZ h5.objs.size))) _ _ _;rw[sz];exact Lh (q h8 hz8 (up _ _ nIz hI5) ⟨_,_,up _ _ XS Z5⟩ t1' t2' hT fun c o hc e=>up c o (fun x=>hc (by simp[x])) (all5 c o hc e))
 ·intro hh hend q
  have stop:∀(h9:Heap) (e:Addr),(∀c o,c∉[z,TI,TO,i1,i2]->s.heap.get? c=some o->h9.get? c=some o)->(∃o,h9.get? e=some o/\o.cls=.type "StopIteration") ->
    wpAny (model prog w) A (isInstance (.ref e) (.type "StopIteration") >>= fun b=>if b=true then pure none else throw (.ref e)) Q E {s with heap:=h9}:=fun h9 e kp ⟨o,ho,oc⟩ =>
   K8 (RV (T:="StopIteration") (b:=true) ⟨o,ho,oc⟩ isSubtype_stop (Lh (q _ kp)))
  unfold pyNext;refine K8 (O5 (M3 (name:=OQ "__next__") ty QP (NO QP ty UP ?_ (Ur _))));show wpAny _ _ (field (.ref z) 2 >>= _) _ _ _;refine K8 (ML hz rfl (x:=.bool false) rfl ?_);show wpAny _ _ (field (.ref z) 3 >>= _) _ _ _;refine K8 (ML hz rfl (x:=.ref TI) rfl (K8 (Ni hI rfl ?_)));show wpAny _ _ (Nj (.ref z) >>= _) _ _ _;refine K8 ?_;unfold Nj;refine K8 (ML hz rfl (x:=.none) rfl (Lh ?_));simp only[if_true];refine K8 (wpAny_rule (K8 (ML hz rfl (x:=.ref TO) rfl (K8 (Oe hz (by simp) fun h1 Xn WW=>?_)))));replace Xn:SZ h1 z TI TO .ellipsis:=Xn;refine K8 ?_;simp only[UQ,U_,PX,Vl];refine K8 (K8 (Qz ?_));show wpAny _ _ (MD (.ref i1) >>= _) _ _ _;cases hx:xs[k]? with
  |none =>
   refine K8 (W1.fin _ _ _ k _ hh (m1 (by simp) WW.extBut k t1) hx fun h2 e hs2 ⟨oe,Yc,YR⟩=>?_);have hz2:SZ h2 z TI TO .ellipsis:=hs2 _ _ n1.symm Xn;have ez:e≠z:=fun x=>by subst x;rw[hz2] at Yc;cases Yc;simp at YR
   refine Oe hz2 (by simp) fun h3 _ WX=>stop h3 e (fun c o hc u=>?_) ⟨oe,WX.extBut _ _ ez Yc,YR⟩
   simp only[Lr,L_,or_false,not_or] at hc;exact WX.extBut _ _ hc.1 (hs2 _ _ hc.2.2.2.1 (WW.extBut _ _ hc.1 u))
  |some x =>
   have hy:ys[k]?=none:=by rcases hend with u|u;rw[hx] at u;cases u;exact u
   refine K8 (W1.item _ _ _ k x _ (m1 (by simp) WW.extBut k t1) hx fun h2 XV hs2=>Lh ?_);have YN:PH h2 TO a b:=hs2.extBut _ _ nO1 (WW.extBut _ _ XS hO);refine K8 (Ni YN rfl (K8 (sV YN fun h3 Z4 WX=>?_)));refine K8 (U5 (Lh (K8 (K8 (Qz ?_)))));show wpAny _ _ (MD (.ref i2) >>= _) _ _ _;refine K8 (W2.fin _ _ _ k _ hh (m2 (by simp) WX.extBut k (m2 (by simp) hs2.extBut k (m2 (by simp) WW.extBut k t2))) hy fun h4 e Xy ⟨oe,Yc,YR⟩=>?_);have hz4:SZ h4 z TI TO .ellipsis:=Xy _ _ n2.symm (WX.extBut _ _ XS.symm (hs2.extBut _ _ n1.symm Xn));have ez:e≠z:=fun x=>by subst x;rw[hz4] at Yc;cases Yc;simp at YR
   refine Oe hz4 (by simp) fun h5 _ Xz=>stop h5 e (fun c o hc u=>?_) ⟨oe,Xz.extBut _ _ ez Yc,YR⟩
   simp only[Lr,L_,or_false,not_or] at hc;exact Xz.extBut _ _ hc.1 (Xy _ _ hc.2.2.2.2 (WX.extBut _ _ hc.2.2.1 (hs2.extBut _ _ hc.2.2.2.1 (WW.extBut _ _ hc.1 u))))
end
inductive Kn|L|T
def Kn.sq(k:Kn)(K:Fg)(H:Hp)(a:Addr)(xs:List V):Prop:=match k with
 |.L=>SqL K H a xs
 |.T=>SqT K H a xs
def Kn.it(k:Kn)(h:Heap)(i l:Addr)(j:Nat):Prop:=match k with
 |.L=>h.IsListIter i l j
 |.T=>h.IsTupleIter i l j
def Kn.seq(k:Kn)(h:Heap)(l:Addr)(xs:Array La):Prop:=match k with
 |.L=>h.IsList l xs
 |.T=>h.IsTuple l xs
def Kn.obj(k:Kn)(l:Addr):Obj:=match k with
 |.L=>{cls:=.type "list_iterator",data:=.fields #[.ref l,.int 0 0]}
 |.T=>{cls:=.type "tuple_iterator",data:=.fields #[.ref l,.int 0 0]}
section
variable{prog:LB}{w:LQ}{A:Mf}{E:La->Le->Prop}{s:Le}
theorem Kn.drw(k:Kn)(it l:Addr)(ne:l≠it)(xs:Array La):Jq prog w it l xs (fun j h=>k.it h it l j/\k.seq h l xs):=by
 cases k
 ·exact Dh it l ne xs
 ·exact GA it l ne xs
theorem Kn.itAt(k:Kn){h':Heap}{it:Addr}(t:k.it h it l j)(e:∀o,h.get? it=some o->h'.get? it=some o):k.it h' it l j:=by
 cases k
 ·exact Heap.IsListIter.at t e
 ·exact Heap.IsTupleIter.at t e
theorem Kn.CV(k:Kn){it:Addr}(t:k.it h it l j):∃o,h.get? it=some o/\∀v,o.data≠.cell v:=by
 cases k <;> (obtain⟨o,e,_,d⟩:=t;exact⟨o,e,fun v z=>by rw[d] at z;cases z⟩)
theorem Kn.EZ(k:Kn){h':Heap}(t:k.seq h l xs)(e:∀o,h.get? l=some o->h'.get? l=some o):k.seq h' l xs:=by
 cases k
 ·exact S9.at t e
 ·obtain⟨o,a,b⟩:=t;exact⟨o,e o a,b⟩
theorem Kn.lt(k:Kn)(t:k.seq h l xs):l<h.objs.size:=by
 cases k <;> (obtain⟨o,a,_⟩:=t;exact Ls a)
theorem Kn.inv{H:Hp}{s:Le}(k:Kn)(I:Inv X pins σ H s)(q:k.sq X.K H a xs):∃gV:List La,Vals xs gV/\k.seq s.heap a gV.toArray:=by
 cases k
 ·obtain⟨gV,r,p,_⟩:=I.list q;exact⟨gV,r,p.isList⟩
 ·obtain⟨gV,r,p,_⟩:=I.tuple q;exact⟨gV,r,p⟩
theorem Kn.inj{H:Hp}{s:Le}(k:Kn)(I:Inv X pins σ H s)(q:k.sq X.K H a xs)(r:k.sq X.K H a ys):xs=ys:=by
 cases k
 ·exact I.pM q r
 ·exact I.qA q r
theorem Kn.iter(k:Kn){Q:La->Le->Prop}(t:k.seq s.heap l xs)(q:Q (.ref s.heap.objs.size) {s with heap:=s.heap.push (k.obj l)}):wpAny (model prog w) A (pyIter (.ref l)) Q E s:=by
 cases k
 ·exact Nw t q
 ·exact NL t q
theorem Kn.it0(k:Kn)(h:Heap)(l:Addr):k.it (h.push (k.obj l)) h.objs.size l 0:=by
 cases k <;> exact⟨_,LJ _ rfl,rfl,rfl⟩
def zh (h:Heap) (k1 k2:Kn) (l1 l2:Addr):Heap:=(((((h.push (k1.obj l1)).push (k2.obj l2)).push {cls:=.type "tuple",data:=.seq #[.ref h.objs.size,.ref (h.push (k1.obj l1)).objs.size]}).push {cls:=.type "tuple",data:=.seq #[.none,.none]}).push
 {cls:=.type "zip",data:=.fields #[.none,.bool false,.bool false,.ref ((h.push (k1.obj l1)).push (k2.obj l2)).objs.size,.ref (((h.push (k1.obj l1)).push (k2.obj l2)).push {cls:=.type "tuple",data:=.seq #[.ref h.objs.size,.ref (h.push (k1.obj l1)).objs.size]}).objs.size]})
theorem EB(k1 k2:Kn) (l1 l2:Addr) (xs ys:Array La):Meets (Og.«zip.__new__» ⟨[.type "zip",.ref l1,.ref l2],[]⟩) (fun _ R s=>k1.seq s.heap l1 xs/\k2.seq s.heap l2 ys /\
  R (.ok (.ret (.ref ((((s.heap.push (k1.obj l1)).push (k2.obj l2)).push {cls:=.type "tuple",data:=.seq #[.ref s.heap.objs.size,.ref (s.heap.push (k1.obj l1)).objs.size]}).push {cls:=.type "tuple",data:=.seq #[.none,.none]}).objs.size))) {s with heap:=zh s.heap k1 k2 l1 l2}) :=
 .of_wp fun prog w A R s h=>by
  obtain⟨hp,g,d,tk,os⟩:=s;obtain⟨a1,a2,h⟩:=h;have hsub:=sub_zip;have c1:k1.seq (QG ⟨hp,g,d,tk,os⟩) l1 xs:=a1;have c2:k2.seq (QG ⟨hp.push (k1.obj l1),g,d,tk,os⟩) l2 ys:=k2.EZ a2 fun o e=>Lb _ e;wp_walk using Kn.iter k1 c1,Kn.iter k2 c2;exact⟨_,rfl,h⟩
theorem G6{k1 k2:Kn}{Q:La->Le->Prop}(a1:k1.seq s.heap l1 xs)(a2:k2.seq s.heap l2 ys)
  (q:∀h' (z TI TO i1 i2:Addr),KM z TI TO i1 i2 l1 l2->s.heap.objs.size<=i1->SZ h' z TI TO .none->PH h' TI (.ref i1) (.ref i2)->(∃a b,PH h' TO a b)->k1.it h' i1 l1 0->k2.it h' i2 l2 0->(∀c o,s.heap.get? c=some o->h'.get? c=some o)->Q (.ref z) {s with heap:=h'}) :
  wpAny (model prog w) A (call (.type "zip") [.ref l1,.ref l2]) Q E s:=by
 refine callType_new F.called_zip (by decide) (F.typeCall_zip_2 _ _) (F.newCall_zip_2 _ _) (fun obj=>F.args_object_init_3 obj _ _) F.entry_zip_new (EB k1 k2 l1 l2 xs ys) ⟨a1,a2,?_⟩;have lt1:=k1.lt a1;have lt2:=k2.lt a2;have g5:(zh s.heap k1 k2 l1 l2).get? _=some _:=LJ ((((s.heap.push (k1.obj l1)).push (k2.obj l2)).push {cls:=.type "tuple",data:=.seq #[.ref s.heap.objs.size,.ref (s.heap.push (k1.obj l1)).objs.size]}).push {cls:=.type "tuple",data:=.seq #[.none,.none]}) (o:={cls:=.type "zip",data:=.fields #[.none,.bool false,.bool false,.ref ((s.heap.push (k1.obj l1)).push (k2.obj l2)).objs.size,.ref (((s.heap.push (k1.obj l1)).push (k2.obj l2)).push {cls:=.type "tuple",data:=.seq #[.ref s.heap.objs.size,.ref (s.heap.push (k1.obj l1)).objs.size]}).objs.size]}) rfl;have g4:(zh s.heap k1 k2 l1 l2).get? _=some _:=Lb _ (LJ (((s.heap.push (k1.obj l1)).push (k2.obj l2)).push {cls:=.type "tuple",data:=.seq #[.ref s.heap.objs.size,.ref (s.heap.push (k1.obj l1)).objs.size]}) (o:={cls:=.type "tuple",data:=.seq #[.none,.none]}) rfl);have g3:(zh s.heap k1 k2 l1 l2).get? _=some _:=Lb _ (Lb _ (LJ ((s.heap.push (k1.obj l1)).push (k2.obj l2)) (o:={cls:=.type "tuple",data:=.seq #[.ref s.heap.objs.size,.ref (s.heap.push (k1.obj l1)).objs.size]}) rfl));have g2:k2.it (zh s.heap k1 k2 l1 l2) (s.heap.push (k1.obj l1)).objs.size l2 0:=k2.itAt (k2.it0 _ l2) fun o e=>Lb _ (Lb _ (Lb _ e))
 have g1:k1.it (zh s.heap k1 k2 l1 l2) s.heap.objs.size l1 0:=k1.itAt (k1.it0 _ l1) fun o e=>Lb _ (Lb _ (Lb _ (Lb _ e)))
 show _/\_;refine⟨⟨_,g5,rfl⟩,q _ _ _ _ _ _ ⟨?_,?_,?_,?_,lt1,lt2⟩ (Lf _) g5 g3 ⟨_,_,g4⟩ g1 g2 fun c o x=>Lb _ (Lb _ (Lb _ (Lb _ (Lb _ x))))⟩ <;>
 ·simp only[OM];exact Qt _
end
def JB(K:Fg)(k1 k2:Kn)(a b:Addr):It :=
 ⟨fun i H=>∃xs ys,k1.sq K H a xs/\k2.sq K H b ys/\i<xs.length/\i<ys.length,fun i H v H'=>∃T x y,H T=none/\v=.ref T/\H'=upd H T (.tup [x,y])/\(∀xs,k1.sq K H a xs->xs[i]?=some x)/\(∀ys,k2.sq K H b ys->ys[i]?=some y),
  fun i H=>∃xs ys,k1.sq K H a xs/\k2.sq K H b ys/\(xs.length<=i\/ys.length<=i)⟩
theorem Bm{K:Fg}{x1}{pos:Pos}{TI TO:Addr}(D:KM z TI TO i1 i2 a b) :
  qq P w K (.Tuple elts x1 pos) (JB K k1 k2 a b) [z,TI,TO,i1,i2] z (fun i h=>SZ h z TI TO .none/\PH h TI (.ref i1) (.ref i2)/\(∃x y,PH h TO x y)/\k1.it h i1 a i/\k2.it h i2 b i) where
 mem:=by simp
 obj:=fun i h ⟨hz,hI,⟨x,y,hO⟩,t1,t2⟩ c hc=>by
  simp only[Lr,L_,or_false] at hc;rcases hc with rfl|rfl|rfl|rfl|rfl
  ·exact⟨_,hz,fun v q=>by cases (show U1 _=Tt v from q)⟩
  ·exact⟨_,hI,fun v q=>by cases (show VD _ _=Tt v from q)⟩
  ·exact⟨_,hO,fun v q=>by cases (show VD _ _=Tt v from q)⟩
  ·exact k1.CV t1
  ·exact k2.CV t2
 keep:=fun i h h' ⟨hz,hI,⟨x,y,hO⟩,t1,t2⟩ kp=>⟨kp z (by simp) _ hz,kp TI (by simp) _ hI,⟨x,y,kp TO (by simp) _ hO⟩,k1.itAt t1 fun o e=>kp i1 (by simp) o e,k2.itAt t2 fun o e=>kp i2 (by simp) o e⟩
 item:=by
  intro X hP hw hK hc i pins s σ H E I hf ⟨hz,hI,hO,t1,t2⟩ hg;subst hP hw hK;obtain⟨xs,ys,q1,q2,l1,l2⟩:=hg;obtain⟨v1,r1,p1⟩:=k1.inv I q1;obtain⟨v2,r2,p2⟩:=k2.inv I q2;obtain⟨u1,e1,ZL⟩:=r1.get (Ld l1);obtain⟨u2,e2,ru2⟩:=r2.get (Ld l2);obtain⟨n1,n2,nO1,nO2,XS,nIz,nIO,nI1,nI2,n12,c1,c2,c3,c4,c5,c6⟩:=xK D.a D.b D.c D.d D.e D.f;refine(DG D (k1.drw i1 a (LA D.e) v1.toArray) (k2.drw i2 b (LA (L8 D.f D.a)) v2.toArray) ⟨hz,hI,hO,⟨t1,p1⟩,⟨t2,p2⟩⟩).1 u1 u2 (by simpa using e1) (by simpa using e2) fun h' hz' hI' hO' s1' s2' hT all=>⟨_,rfl,?_⟩
  refine wpAny_letOwnedTupleGo_zip hz' fun h2 hz2 sb=>?_
  have nT:∀c∈[z,TI,TO,i1,i2],c≠s.heap.objs.size:=fun c V9=>by
   simp only[Lr,L_,or_false] at V9;rcases V9 with rfl|rfl|rfl|rfl|rfl
   ·exact LA (Ls hz)
   ·exact LA (Ls hI)
   ·obtain⟨_,_,q⟩:=hO;exact LA (Ls q)
   ·obtain⟨_,q,_⟩:=k1.CV t1;exact LA (Ls q)
   ·obtain⟨_,q,_⟩:=k2.CV t2;exact LA (Ls q)
  have Wo:H s.heap.objs.size=none:=I.hok.fresh (Lf _)
  have I1:Inv X pins σ (upd H s.heap.objs.size (.tup [xs[i],ys[i]])) {s with heap:=s.heap.push {cls:=.type "tuple",data:=.seq #[u1,u2]}} :=
   I.laid (t':=s.toks) (fun b u e=>Lb _ e) (Lf _) ⟨bG,[u1,u2],.cons ZL (.cons ru2 .nil),TupD.new _ _⟩
  have zT:s.heap.objs.size≠z:=(nT z (by simp)).symm
  have I2:Inv X pins σ (upd H s.heap.objs.size (.tup [xs[i],ys[i]])) {s with heap:=h2}:=Inv.oz (s:={s with heap:=s.heap.push {cls:=.type "tuple",data:=.seq #[u1,u2]}}) (t':=s.toks) (fp:=[z,TI,TO,i1,i2]) I1 (fun c o V9 e=>by
   have hcz:c≠z:=fun x=>V9 (by simp[x])
   rcases S_ e with⟨ec,eo⟩|e
   ·rw[ec,eo];exact sb.extBut _ _ zT hT
   ·exact sb.extBut _ _ hcz (all c o V9 e)) fun c V9=>⟨by rw[bf (nT c V9)];exact(hf c V9).1,(hf c V9).2⟩
  refine⟨.ref s.heap.objs.size,_,I2,rfl,⟨s.heap.objs.size,xs[i],ys[i],Wo,rfl,rfl,fun zs hz=>?_,fun zs hz=>?_⟩,⟨hz2,sb.extBut _ _ nIz hI',?_,k1.itAt s1'.1 fun o e=>sb.extBut _ _ n1 e,k2.itAt s2'.1 fun o e=>sb.extBut _ _ n2 e⟩,fun c V9=>by rw[bf (nT c V9)];exact(hf c V9).1⟩
  ·rw[k1.inj I hz q1,Ld l1]
  ·rw[k2.inj I hz q2,Ld l2]
  ·obtain⟨x,y,q⟩:=hO';exact⟨x,y,sb.extBut _ _ XS q⟩
 done:=by
  intro X hP hw hK hc i pins s σ H E I hf ⟨hz,hI,hO,t1,t2⟩ hg;subst hP hw hK;obtain⟨xs,ys,q1,q2,le⟩:=hg;obtain⟨v1,r1,p1⟩:=k1.inv I q1;obtain⟨v2,r2,p2⟩:=k2.inv I q2;have e1:=r1.length;have e2:=r2.length
  refine(DG D (k1.drw i1 a (LA D.e) v1.toArray) (k2.drw i2 b (LA (L8 D.f D.a)) v2.toArray) ⟨hz,hI,hO,⟨t1,p1⟩,⟨t2,p2⟩⟩).2 (I.ok.hd hc) (by
   rcases le with q|q
   ·exact .inl (by simp;walk_at "om")
   ·exact .inr (by simp;walk_at "om")) fun h' all=>⟨rfl,I.oz (t':=s.toks) (fun c o V9 e=>all c o V9 e) hf⟩
 self:=fun _ _ _ _ _ st q=>wpAny_pyIter_zip st.1 q
section
variable{X:Cx}
def Gk(K:Fg)(k1 k2:Kn)(ta:TA):TI:=fun σ H R=>ta σ H fun vs H1=>∃a b xs ys,vs=[.ref a,.ref b]/\k1.sq K H1 a xs/\k2.sq K H1 b ys/\R (JB K k1 k2 a b) H1
theorem IY:bootBuiltins "zip"=some (.type "zip"):=by decide +kernel
theorem Hz{x y:Expr} {ta:TA}  {x1} {p pos:Pos} (hg:Gl X "zip") (hm:X.mg "zip"=none) (ha:PA X [x,y] ta) (hs:starEach [x,y] X.env=[(false,eval x X.env),(false,eval y X.env)]:=by rfl) (hs2:starEach [y] X.env=[(false,eval y X.env)]:=by rfl) :
  PI X (.Tuple elts x1 tp) (.Call (.Name "zip" p) [x,y] [] pos) (Gk X.K k1 k2 ta):=by
 intro pins s σ H R I h;refine Call_ (g_ I hg hm IY (M1 (bQ (ha pos pins s σ H _ I h) fun us s1 ⟨vs,H1,I1,r1,q1⟩=>?_) (by rw[hs,hs2]) (by rw[hs2];rfl)));obtain⟨a,b,xs,ys,e,s1q,s2q,q⟩:=q1;subst e;obtain⟨u1,u2,rfl,ra,rb⟩:=vals2 r1;cases ra;cases rb;obtain⟨v1,w1,p1⟩:=k1.inv I1 s1q;obtain⟨v2,w2,p2⟩:=k2.inv I1 s2q;refine G6 p1 p2 fun h' z TI TO i1 i2 D le hz hI hO t1 t2 kp=>?_
 refine wpAny_pyIter_zip (s:={s1 with heap:=h'}) hz ?_;refine⟨z,[z,TI,TO,i1,i2],_,_,H1,rfl,I1.kept (t':=s1.toks) kp,Bm D,⟨hz,hI,hO,t1,t2⟩,fun c hc=>?_,q⟩
 have Zo:s1.heap.objs.size<=c:=by
  have d1:=D.a;have d2:=D.b;have d3:=D.c;have d4:=D.d;simp only[Lr,L_,or_false] at hc;rcases hc with rfl|rfl|rfl|rfl|rfl
  ·exact M0 (M5 le (L8 d1 (L8 d2 (L8 d3 d4))))
  ·exact M0 (M5 le (L8 d1 d2))
  ·exact M0 (M5 le (L8 d1 (L8 d2 d3)))
  ·exact le
  ·exact M0 (M5 le d1)
 exact I1.fpOk Zo (I1.hok.fresh Zo)
end
open PySem.W (Dat kqdOk)
theorem AccZ.fu{K:Fg}(A:AccZ K H0 l H ds)(r:Rz K H y d)(n:ds.length<sizeLine){Pv:Hp->Prop}(h:∀H2,AccZ K H0 l H2 (ds++[d])->Pv H2):Jk l Pv y H:=by
 obtain⟨xs,h1,h2⟩:=A.at_;refine⟨xs,h1,by rw[h2.length];exact n,h _ ⟨A.aq,A.new,xs++[y],L2.aq,?_⟩⟩;exact RzL.upd (h2.append (.cons r .nil)) h1
open PySem
section
variable{K:Fg}{σ:St}{H:Hp}{Q:VK}{te:TE}
theorem JZ{k1 k2:Kn}{ta:TA}{R:It->Hp->Prop}(h:ta σ H fun vs H1=>∃a b xs ys,vs=[.ref a,.ref b]/\k1.sq K H1 a xs/\k2.sq K H1 b ys/\R (JB K k1 k2 a b) H1):Gk K k1 k2 ta σ H R:=h
end
open PySem
section
variable{K:Fg}{σ:St}{H:Hp}{Q:VK}{D:dk}{td ty tv te tk:TE}
theorem Iw(h:tv σ H fun v H1=>td σ H1 fun x H2=>ty σ H2 fun y H3=>∃a H4,x=.ref a/\DPut H3 a y v H4/\D.nx σ H4):yM td ty tv D σ H:=h
end
section
variable{X:Cx}
def uw(K:Fg):List V->Hp->VK->Prop:=fun xs H Q=>∃(a:Addr) (bs:List Bool),xs=[.ref a]/\SqL K H a (bs.map V.bl)/\Q (.bl (bs.all id)) H
def Fw(K:Fg):List V->Hp->VK->Prop:=fun xs H Q=>∃(a:Addr) (bs:List Bool),xs=[.ref a]/\SqL K H a (bs.map V.bl)/\Q (.bl (bs.any id)) H
theorem sA:∀{bs:List Bool} {us:List La},Vals (bs.map V.bl) us->LSm.BoolsAre us bs
 |[],_,.nil=>.nil
 |b :: bs,_,.cons r rr=>by
  cases (show _=Q3 b from r);exact .cons b (sA rr)
theorem mZ{M:Model}{A:Mf}{E:La->Le->Prop}{H:Hp}{bs:List Bool}(d:Bool)(I:Inv X pins σ H s)(q1:SqL X.K H a (bs.map V.bl))(hh:A.handled=none)(hM:M=model X.prog X.w)
  {Qr:Bool->La->Le->Prop} {f:(Nat->Bool)->Nat->Bool} {r:Bool} (hf:f (fun i=>(bs[i]?).getD d) bs.length=r) (q:∀h' tk,Inv X pins σ H {s with heap:=h',toks:=tk}->Qr r (.bool r) {s with heap:=h',toks:=tk}) :
  wpAny M A (pyIter (.ref a)) (fun it s₂=>∃I fp wr n P St tr,it=.ref I/\Walks X.prog X.w A I fp wr n P St/\St 0 s₂.heap/\TruthOf X.prog X.w A P tr/\∀h' tk,(∀b o,b∉wr->s₂.heap.get? b=some o->h'.get? b=some o)->Qr r (.bool (f tr n)) {s₂ with heap:=h',toks:=tk}) E s:=by
 subst hM;obtain⟨gV,rv,p,_⟩:=I.list q1;have hl:s.heap.IsList a gV.toArray:=p.isList;have hb:=sA rv;have VL:a<s.heap.objs.size:=by obtain⟨_,e,_⟩:=hl;exact Ls e
 refine Nw hl ⟨s.heap.objs.size,[s.heap.objs.size,a],[s.heap.objs.size],gV.toArray.size,_,_,fun i=>(bs[i]?).getD d,rfl,Walks.list hh _ a (LA VL) gV.toArray,⟨⟨_,LJ _ rfl,rfl,rfl⟩,hl.push _⟩,fun i v s' Q' E' hP hQ=>?_,fun h' tk hk=>?_⟩
 ·obtain⟨b,e,rfl⟩:=hb.get i v (by simpa using hP);dsimp only at hQ;rw[e] at hQ;exact Nf hQ
 ·rw[LM,hb.length,hf];exact q h' tk (I.kept (t':=tk) fun b o e=>hk b o (fun z=>absurd (Ls e) (by rw[Lw.mp z];exact N9 _)) (Lb _ e))
theorem i7(hc:X.calm=true):g8 X (.builtin "all") (uw X.K):=by
 intro pins s σ H xs us Q I r h;obtain⟨a,bs,rfl,q1,q⟩:=h;obtain⟨u,rfl,ru⟩:=vals1 r;cases ru;refine call_all_walk (mZ (f:=fun tr n=>(Mo n).all tr) (r:=bs.all id) true I q1 (by have:=I.ok.hd hc;simpa using this) rfl (LSm.range_all bs) (Qr:=fun _ v s'=>EP X pins σ Q v s') fun h' tk I2=>⟨.bl _,H,I2,rfl,q⟩)
theorem Do(hc:X.calm=true):g8 X (.builtin "any") (Fw X.K):=by
 intro pins s σ H xs us Q I r h;obtain⟨a,bs,rfl,q1,q⟩:=h;obtain⟨u,rfl,ru⟩:=vals1 r;cases ru;refine call_any_walk (mZ (f:=fun tr n=>(Mo n).any tr) (r:=bs.any id) false I q1 (by have:=I.ok.hd hc;simpa using this) rfl (LSm.range_any bs) (Qr:=fun _ v s'=>EP X pins σ Q v s') fun h' tk I2=>⟨.bl _,H,I2,rfl,q⟩)
theorem sH:bootBuiltins "all"=some (.builtin "all"):=by decide +kernel
theorem Ja:bootBuiltins "any"=some (.builtin "any"):=by decide +kernel
end
def sQ(J:It)(n:Nat)(g:TG)(tc:TT)(te:TE)(σ:St)(Q:VK)(H1:Hp):Prop:=∀D,H1 D=none->∃W:Nat->Nat->Hp->Prop,(∃m,W 0 m (upd H1 D (.lst [])))/\∀i m H,W i m H ->
 (J.stop i H/\Q (.ref D) H)\/(J.go i H/\∀v H',J.yld i H v H'->∀us:St,us.length=n->g v (us ++ σ) H' fun σ2 H2=>(∃WG:St,WG.length=n/\σ2=WG ++ σ)/\tc σ2 H2 fun b H3 =>
  if b=true then te σ2 H3 fun y H4=>∃xs,H4 D=some (.lst xs)/\xs.length<sizeLine/\∃m',m'<m/\W (i+1) m' (upd H4 D (.lst (xs++[y]))) else ∃m',m'<m/\W (i+1) m' H3)
def ni(wi:TI)(n:Nat)(g:TG)(tc:TT)(te:TE):TE:=fun σ H Q=>wi σ H fun J H1=>sQ J n g tc te σ Q H1
section
variable{X:Cx}{ys M:List Str}{scope:Scope}{cl:List (Str×Addr)}{C:Addr}{s:Le}{H:Hp}{fp:List Addr}{pins:List (Addr×Obj)}{σ:St}
theorem xz{R:SQ->Le->Prop}{s:Le}{iter:Expr}{scope:Scope}{pos:Pos}{acc:La}(I:Nat->Le->Prop)
  (turn:∀n s,I n s->wpAny (model prog w) A (pyNext it) (fun r s1=>match r with
   |none=>R (.ok .next) s1
   |some v=>wpAny (model prog w) A (letOwnedTupleGo target it v) (fun _ s2=>wpAny (model prog w) A (assign target env v) (fun _ s3=>wpAny (model prog w) A (isTrue c env (eval c env)) (fun ok s4 =>
     if ok=true then wpAny (model prog w) A (eval elt env) (fun x s5=>wpAny (model prog w) A (call (.builtin "list.append") [acc,x]) (fun _ s6=>∃m,m<n/\I m s6) (fun _ _=>False) s5) (fun _ _=>False) s4
     else ∃m,m<n/\I m s4) (fun _ _=>False) s3) (fun _ _=>False) s2) (fun _ _=>False) s1) (fun _ _=>False) s) (n:Nat) (h:I n s) :
  codeAny (model prog w) A (.compLoop (.ListComp elt [⟨target,iter,[c],0⟩] scope pos) 0 it acc env) R s:=by
 refine codeAny_loop rfl I (fun k s1 hI=>?_) n h;have no:∀{α:Type} {t:Sem α} {P:α->Le->Prop} {E:La->Le->Prop} {z:Le},wpAny (model prog w) A t P (fun _ _=>False) z->wpAny (model prog w) A t P E z:=fun q=>Mi q (fun _ _ z=>z) fun _ _ z=>z.elim
 show wpAny _ _ ((compTurn (.ListComp elt [⟨target,iter,[c],0⟩] scope pos) 0 it acc env).onRaise _) _ _ s1;refine wpAny_noted ?_;rw[compTurn_list];refine K8 (O1 (K8 (no (Mi (turn k s1 hI) (fun r s2 h2=>?_) fun _ _ z=>z))));cases r with
 |none=>exact Lh h2
 |some v =>
  refine K8 (no (Mi h2 (fun _ s3 h3=>?_) fun _ _ z=>z));refine K8 (no (Mi h3 (fun _ s4 h4=>?_) fun _ _ z=>z));refine K8 (wpAny_tests_one (no (Mi h4 (fun ok s5 h5=>?_) fun _ _ z=>z)));cases ok with
  |true =>
   rw[if_pos rfl] at h5;refine K8 (K8 (no (Mi h5 (fun x s6 h6=>?_) fun _ _ z=>z)));exact K8 (no (Mi h6 (fun _ s7 h7=>Lh (Lh ⟨rfl,h7⟩)) fun _ _ z=>z))
  |false =>
   rw[if_neg LO] at h5;exact Lh ⟨rfl,h5⟩
theorem nN{iter:Expr}{pos:Pos}{E:La->Le->Prop}{QQ:Addr->Hp->Prop}{RR:La->Addr->SQ->Le->Prop}(I:Inv X pins σ H s)(c:ms X ys M scope cl)(hc:X.calm=true)
  (hg:∀C s₀ H₀ fp pins,PG (bX X ys M scope cl C s₀ H₀ fp pins) tg g) (ht:∀C s₀ H₀ fp pins,PT (bX X ys M scope cl C s₀ H₀ fp pins) cn tc) (he:∀C s₀ H₀ fp pins,PE (bX X ys M scope cl C s₀ H₀ fp pins) elt te) (T:qq X.prog X.w X.K tg J fp it tn) (st:tn 0 s.heap) (fk:∀b∈fp,g7 X pins H b)
  (h:sQ J ys.length g tc te σ (fun v H'=>∃D,v=.ref D/\QQ D H') H)
  (fin:∀D C H' s',s.heap.objs.size<=C->s'.heap.get? C≠none->(∃m,s'.heap.Ns C m)->H' C=none->Inv X pins σ H' s'->QQ D H'->RR (.ref D) C (.ok .next) s') :
  wpAny (model X.prog X.w) X.A (newList []) (fun acc s₃=>wpAny (model X.prog X.w) X.A (newFunctionEnv scope X.env.globals cl [] X.env.qual none .none (some X.env)) (fun W5 s₄ =>
   codeAny (model X.prog X.w) X.A (.compStart (.ListComp elt [⟨tg,iter,[cn],0⟩] scope pos) 0 (.ref it) acc {W5 with scope:=relabel scope X.env}) (RR acc W5.locals) s₄) E s₃) E s:=by
 refine ME (SW c.nocell (by intro y hy;simp at hy) (fun h1 Xk XA=>?_) c.kind);dsimp only at Xk XA ⊢;have hf:H s.heap.objs.size=none:=I.hok.fresh (Lf _)
 have I3:Inv X pins σ (upd H s.heap.objs.size (.lst [])) {s with heap:=s.heap.push {cls:=.type "list",dict:=none,data:=.seq ([]:List La).toArray}} :=
  I.laid (t':=s.toks) (fun b u e=>Lb _ e) (Lf _) ⟨by decide,[],_,.nil,LJ _ rfl⟩
 have eD:∀b u,s.heap.get? b=some u->b≠s.heap.objs.size:=fun b u e=>LA (Ls e)
 have Xr:∀b∈fp,g7 X pins (upd H s.heap.objs.size (.lst [])) b/\∃o,(s.heap.push {cls:=.type "list",dict:=none,data:=.seq ([]:List La).toArray}).get? b=some o:=fun b hb=>by
  obtain⟨o,eo,_⟩:=T.obj 0 _ st b hb;obtain⟨f1,f2⟩:=fk b hb;exact⟨⟨by rw[bf (eD b o eo)];exact f1,f2⟩,o,Lb _ eo⟩
 have I4:=wj (tk:=s.toks+([]:List (Str×La)).length) I3 c rfl Xk XA Xr;obtain⟨W,⟨m0,w0⟩,turn⟩:=h _ hf
 have ZS:tn 0 h1:=T.keep 0 _ _ st fun b hb o e=>by
  have e2:=Lb {cls:=.type "list",dict:=none,data:=.seq ([]:List La).toArray} e;exact XA.extBut b o (LA (Ls e2)) (Lb _ e2)
 have Wr:∀{H':Hp},(∀b∈fp,H' b=none)->∀b∈fp,g7 (bX X ys M scope cl (s.heap.push {cls:=.type "list",dict:=none,data:=.seq ([]:List La).toArray}).objs.size {s with heap:=s.heap.push {cls:=.type "list",dict:=none,data:=.seq ([]:List La).toArray}} (upd H s.heap.objs.size (.lst [])) fp pins) [] H' b :=
  fun hn b hb=>⟨hn b hb,(I4.ok.exf b hb).1,I4.ok.exfs b hb,.inl hb,(I4.ok.exf b hb).2,fun p hp=>(Xr b hb).1.2.2.2.2.2 p (by simpa[bX] using hp)⟩
 have loop:∀s4:Le,s4 = {s with heap:=h1,toks:=s.toks+([]:List (Str×La)).length} ->
   codeAny (model X.prog X.w) X.A (.compLoop (.ListComp elt [⟨tg,iter,[cn],0⟩] scope pos) 0 (.ref it) (.ref s.heap.objs.size) (compEnvC scope cl (s.heap.push {cls:=.type "list",dict:=none,data:=.seq ([]:List La).toArray}).objs.size X.env))
    (RR (.ref s.heap.objs.size) (s.heap.push {cls:=.type "list",dict:=none,data:=.seq ([]:List La).toArray}).objs.size) s4:=by
  rintro s4 rfl
  refine xz (fun n s'=>∃(i:Nat) (us:St) (H':Hp),us.length=ys.length/\Inv (bX X ys M scope cl (s.heap.push {cls:=.type "list",dict:=none,data:=.seq ([]:List La).toArray}).objs.size {s with heap:=s.heap.push {cls:=.type "list",dict:=none,data:=.seq ([]:List La).toArray}} (upd H s.heap.objs.size (.lst [])) fp pins) [] (us ++ σ) H' s'/\tn i s'.heap/\(∀b∈fp,H' b=none)/\W i n H')
   ?_ m0 ⟨0,_,_,Me,I4,ZS,fun b hb=>(Xr b hb).1.1,w0⟩
  rintro n s5 ⟨i,us,H5,lu,I5,XD,X6,w5⟩;rcases turn i n H5 w5 with⟨stop,Dq,eDq,q⟩|⟨go,step⟩
  ·cases eDq;refine bQ (T.done (bX X ys M scope cl _ _ _ _ _) rfl rfl rfl hc i [] s5 _ H5 _ I5 (Wr X6) XD stop) fun r s6 ⟨er,I6⟩=>?_
   subst er;obtain⟨m,Y8,_⟩:=id I6.loc;obtain⟨o6,_,_,ho6,_⟩:=id Y8;exact fin _ _ H5 s6 (by rw[OM];exact Pl _) (fun z=>by have z':=ho6.symm.trans z;cases z') ⟨m,Y8⟩ I6.free (nF I3 Xr I6) q
  ·refine bQ (T.item (bX X ys M scope cl _ _ _ _ _) rfl rfl rfl hc i [] s5 _ H5 _ I5 (Wr X6) XD go) fun r s6 ⟨u,er,h6⟩=>?_
   subst er;refine bQ h6 fun _ s7 ⟨v',H7,I7,r7,y7,XE,fr7⟩=>?_
   have I7':=I7.pinned (Wr fr7) (T.obj _ _ XE);refine Mi (hg _ _ _ _ _ _ s7 _ H7 v' u _ I7' r7 (step v' H7 y7 us lu)) (fun _ s8 ⟨σ8,H8,I8,⟨WG,lu',e8⟩,q8⟩=>?_) fun _ _ z=>z.elim
   refine Mi (ht _ _ _ _ _ _ s8 _ H8 _ I8 q8) (fun ok s9 ⟨H9,I9,q9⟩=>?_) fun _ _ z=>z.elim
   subst e8;cases ok with
   |true =>
    rw[if_pos rfl] at q9 ⊢;refine Mi (he _ _ _ _ _ _ s9 _ H9 _ I9 q9) (fun y s10 ⟨yv,Xq,I10,ry,xs,Yx,hlen,m',hm,w10⟩=>?_) fun _ _ z=>z.elim
    refine Mi (a9 (X:=bX X ys M scope cl _ _ _ _ _) _ s10 _ Xq (.ref s.heap.objs.size) [yv] (.ref s.heap.objs.size) [y] (fun _ YA=>YA=upd Xq s.heap.objs.size (.lst (xs++[yv]))) I10 rfl (.cons ry .nil) ⟨_,xs,yv,rfl,rfl,Yx,hlen,rfl⟩) (fun _ s11 ⟨z,YA,I11,rz,Yn⟩=>?_) fun _ _ z=>z.elim
    subst Yn;refine⟨m',hm,i+1,WG,_,lu',I11.gL (pins:=[]),T.keep _ _ _ XE fun b hb o e=>(I11.pin (b,o) (LH _ (LH _ (dz hb e)))).1,fun b hb=>?_,w10⟩;obtain⟨o,e,_⟩:=T.obj _ _ XE b hb;exact(I11.pin (b,o) (LH _ (LH _ (dz hb e)))).2.1
   |false =>
    rw[if_neg LO] at q9 ⊢;obtain⟨m',hm,w9⟩:=q9;refine⟨m',hm,i+1,WG,_,lu',I9.gL (pins:=[]),T.keep _ _ _ XE fun b hb o e=>(I9.pin (b,o) (LH _ (LH _ (dz hb e)))).1,fun b hb=>?_,w9⟩;obtain⟨o,e,_⟩:=T.obj _ _ XE b hb;exact(I9.pin (b,o) (LH _ (LH _ (dz hb e)))).2.1
 exact Se (loop _ rfl) (T.self _ 0 _ _ _ ZS (loop _ rfl))
theorem D4{iter:Expr}{pos:Pos}{n:Nat}(ys M:List Str)(c0:dm X.env.scope X.N M ys scope)(hc:X.calm=true)(hi:PI X tg iter wi)(hg:∀C s₀ H₀ fp pins,PG (bX X ys M scope (l_ scope X.env.cells) C s₀ H₀ fp pins) tg g)
  (ht:∀C s₀ H₀ fp pins,PT (bX X ys M scope (l_ scope X.env.cells) C s₀ H₀ fp pins) cn tc) (he:∀C s₀ H₀ fp pins,PE (bX X ys M scope (l_ scope X.env.cells) C s₀ H₀ fp pins) elt te)
  (hn:ys.length=n:=by rfl) (hs:∀v,foldedSetIterable iter X.env v=pure v:=by intro _;rfl):PE X (.ListComp elt [⟨tg,iter,[cn],0⟩] scope pos) (ni wi n g tc te):=by
 subst hn;intro pins s σ H Q I h;have c:=c0.sc I.ok
 have hi':PI X tg iter (fun σ H R=>∃R',(∀J H1,R' J H1->R J H1)/\wi σ H R'):=by
  intro pins s σ H R I ⟨R',hR,hw⟩;refine bQ (hi pins s σ H R' I hw) fun v s1 h1=>bQ h1 fun Xo s2 ⟨it,fp,tn,J,H',e,I',T,t0,fk,r⟩=>⟨it,fp,tn,J,H',e,I',T,t0,fk,hR J H' r⟩
 rw[eval_ListComp];refine OC (use:=none) rfl hs c.clos c.kind c.names (bQ (hi' pins s σ H (fun J H1=>sQ J ys.length g tc te σ (fun v H'=>∃D,v=.ref D/\Q (.ref D) H') H1) I ⟨_,fun J H1 q D nD=>?_,h⟩) fun v s1 h1=>bQ h1 fun Xo s2 h2=>?_)
 ·obtain⟨W,w0,t⟩:=q D nD;exact⟨W,w0,fun i m H w=>(t i m H w).imp (fun z=>⟨z.1,D,rfl,z.2⟩) id⟩
 obtain⟨it,fp,tn,J,H2,rfl,I2,T,WU,X5,h3⟩:=h2;refine nN (E:=X.xe) (QQ:=fun D H'=>Q (.ref D) H') I2 c hc hg ht he T WU X5 h3 fun D C H' s' hC hl ns fr I' q=>?_
 obtain⟨m,hn⟩:=ns;refine⟨m,hn,fun h' Ye=>?_⟩;have sz:=I2.sz;exact⟨.ref D,H',I'.turned (t':=s'.toks) (fun b o hb e=>(Ye.2 b hb).trans e) fr (I2.fpOk hC fr).2.1 (I2.fpOk hC fr).2.2.2.1 (I2.fpOk hC fr).2.2.2.2.1 (I2.fpOk hC fr).2.2.2.2.2,rfl,q⟩
theorem Hx{iter:Expr}{pos sp:Pos}{i n:Nat}{y:Str}(ys M:List Str)(hN:X.N.Nodup)(hy:X.N[i]?=some y)(ly:X.env.scope.names.lookup y=some .local)(c0:dm X.env.scope X.N M ys scope)(hc:X.calm=true)(hi:PI X tg iter wi)
  (hg:∀C s₀ H₀ fp pins,PG (bX X ys M scope (l_ scope X.env.cells) C s₀ H₀ fp pins) tg g) (ht:∀C s₀ H₀ fp pins,PT (bX X ys M scope (l_ scope X.env.cells) C s₀ H₀ fp pins) cn tc) (he:∀C s₀ H₀ fp pins,PE (bX X ys M scope (l_ scope X.env.cells) C s₀ H₀ fp pins) elt te) (hn:ys.length=n:=by rfl)
  (hsw:swapsWith (.ListComp elt [⟨tg,iter,[cn],0⟩] scope pos) (some (.Name y py)) sp.line X.env=pure true:=by rfl) (hs:∀v,foldedSetIterable iter X.env v=pure v:=by intro _;rfl) :
  PS X (.Assign [.Name y py] (.ListComp elt [⟨tg,iter,[cn],0⟩] scope pos) sp) (aR (ni wi n g tc te) (aO i)):=by
 subst hn;intro pins s σ H D I h;have c:=c0.sc I.ok
 have hi':PI X tg iter (fun σ H R=>∃R',(∀J H1,R' J H1->R J H1)/\wi σ H R'):=by
  intro pins s σ H R I ⟨R',hR,hw⟩;refine bQ (hi pins s σ H R' I hw) fun v s1 h1=>bQ h1 fun Xo s2 ⟨it,fp,tn,J,H',e,I',T,t0,fk,r⟩=>⟨it,fp,tn,J,H',e,I',T,t0,fk,hR J H' r⟩
 rw[SD _ _ _ _ hsw];refine K8 (O1 (K8 ?_));show wpAny _ X.A (do let _ <- comprehension (.ListComp elt [⟨tg,iter,[cn],0⟩] scope pos) scope X.env _ (newList []) false (eval iter X.env) (some (assign (.Name y py) X.env))) _ _ s;refine K8 (Mi (OC (use:=some (assign (.Name y py) X.env)) (Q:=fun _ s'=>SP X pins D .next s') rfl hs c.clos c.kind c.names (bQ (hi' pins s σ H (fun J H1=>sQ J ys.length g tc te σ (fun v H'=>∃Da,v=.ref Da/\D.nx (σ.set i (some (.ref Da))) H') H1) I ⟨_,fun J H1 q Da nD=>?_,h⟩) fun v s1 h1=>bQ h1 fun Xo s2 h2=>?_)) (fun _ s' hq=>Lh (Lh hq)) fun _ _ z=>z)
 ·obtain⟨W,w0,t⟩:=q Da nD;exact⟨W,w0,fun i m H w=>(t i m H w).imp (fun z=>⟨z.1,Da,rfl,z.2⟩) id⟩
 obtain⟨it,fp,tn,J,H2,rfl,I2,T,WU,X5,h3⟩:=h2;refine nN (E:=X.xe) (QQ:=fun Da H'=>D.nx (σ.set i (some (.ref Da))) H') I2 c hc hg ht he T WU X5 h3 fun Da C H' s' hC hl ns fr I' q=>?_
 obtain⟨m,hn⟩:=ns;refine Rm (kG I' hN hy (.inl ly) (v:=.ref Da) rfl (fun s3 I3 ⟨a,hsa,ha⟩=>?_) (.inr ly))
 have nC:C≠a:=by
  rcases ha with z|z
  ·rw[z];exact(I2.fpOk hC fr).2.1
  ·exact fun w'=>(I2.fpOk hC fr).2.2.2.2.1 y a z w'.symm
 refine⟨m,hn.sameBut hsa nC,fun h' Ye=>⟨_,H',I3.turned (t':=s3.toks) (fun b o hb e=>(Ye.2 b hb).trans e) fr (I2.fpOk hC fr).2.1 (I2.fpOk hC fr).2.2.2.1 (I2.fpOk hC fr).2.2.2.2.1 (I2.fpOk hC fr).2.2.2.2.2,q⟩⟩
end
section
variable{K:Fg}{tc:TT}{te:TE}{σ:St}{Q:VK}{H:Hp}
theorem Gh{wi:TI}(h:wi σ H fun J H1=>sQ J n g tc te σ Q H1):ni wi n g tc te σ H Q:=h
def KW(n i:Nat)(Pv:Nat->Hp->Prop):Hp->Prop:=fun H2=>∃m',m'<n-i/\m'=n-(i+1)/\i+1<=n/\Pv (i+1) H2
def GW(g:TG)(n:Nat)(tc:TT)(te:TE)(σ:St)(v:V)(H:Hp)(D:Addr)(m i:Nat)(Pv:Nat->Hp->Prop):Prop:=∀us:St,us.length=n->g v (us ++ σ) H fun σ2 H2=>(∃WG:St,WG.length=n/\σ2=WG ++ σ)/\tc σ2 H2 fun b H3=>if b=true then te σ2 H3 (xH D m i Pv) else KW m i Pv H3
theorem oU{n i:Nat}{Pv:Nat->Hp->Prop}(hi:i<n)(h:Pv (i+1) H2):KW n i Pv H2:=⟨n-(i+1),by walk_at "om",rfl,hi,h⟩
theorem AT{k1 k2:Kn}{xs ys:List V}(h:∀D,H D=none->∃Pv:Nat->Hp->Prop,Pv 0 (upd H D (.lst []))/\(∀i H2,i<=min xs.length ys.length->Pv i H2->k1.sq K H2 a xs/\k2.sq K H2 b ys) /\
  (∀i x y H2 T,xs[i]?=some x->ys[i]?=some y->Pv i H2->H2 T=none->GW g n tc te σ (.ref T) (upd H2 T (.tup [x,y])) D (min xs.length ys.length) i Pv)/\∀H2,Pv (min xs.length ys.length) H2->Q (.ref D) H2):sQ (JB K k1 k2 a b) n g tc te σ Q H:=by
 intro D nD;obtain⟨Pv,h0,hl,hs,hd⟩:=h D nD;refine⟨fun i m H=>m=min xs.length ys.length-i/\i<=min xs.length ys.length/\Pv i H,⟨_,rfl,Ml _,h0⟩,?_⟩;rintro i m H ⟨rfl,hi,p⟩;obtain⟨q1,q2⟩:=hl i H hi p;by_cases VL:i<min xs.length ys.length
 ·refine .inr ⟨⟨xs,ys,q1,q2,by walk_at "om",by walk_at "om"⟩,fun v H' y us hu=>?_⟩;obtain⟨T,x,y,nT,rfl,rfl,z1,z2⟩:=y;exact hs i x y H T (z1 xs q1) (z2 ys q2) p nT us hu
 ·have e:i=min xs.length ys.length:=by walk_at "om"
  subst e;refine .inl ⟨⟨xs,ys,q1,q2,?_⟩,hd H p⟩;rcases Nat.le_total xs.length ys.length with q|q
  ·exact .inl (by rw[PY q];exact Lf _)
  ·exact .inr (by rw[Px q];exact Lf _)
end
def bO(i:Int):Str:=toString i
def wP(te:TE):TE:=fun σ H Q=>te σ H fun x H1=>∃z,x=.str z/\z.length<=sizeLine/\Q (.str z) H1
def tN(te:TE):TE:=fun σ H Q=>te σ H fun x H1=>∃i,x=.int i/\i.natAbs.log2<1920/\Q (.str (bO i)) H1
def xI:List TE->Str->TE
 |[],acc=>fun _ H Q=>Q (.str acc) H
 |t :: r,acc=>fun σ H Q=>t σ H fun x H1=>∃y,x=.str y/\(acc++y).length<=sizeLine/\xI r (acc++y) σ H1 Q
def B_:List V->Hp->VK->Prop:=fun xs H Q=>∃i,xs=[.int i]/\i.natAbs.log2<1920/\Q (.str (bO i)) H
def kW(K:Fg):V->List V->Hp->VK->Prop:=fun x xs H Q=>∃(z:Str) (a:Addr) (ws:List Str),x=.str z/\xs=[.ref a]/\SqL K H a (ws.map V.str)/\(ws.map (·.length)).sum+ws.length*z.length<=16777216/\Q (.str (Ut z ws)) H
section
variable{X:Cx}{pos:Pos}
theorem pA(h:PE X e te):PE X (.FormattedValue e (-1) none pos) (wP te):=by
 intro pins s σ H Q I q;refine Ta (bQ (h pins s σ H _ I q) fun v s1 ⟨x,H1,I1,r1,z,e1,lz,q1⟩=>?_);subst e1;obtain⟨t,rfl⟩:=r1;exact formatField_str (fun t' tk=>⟨.str z,H1,I1.tok tk,⟨t',rfl⟩,q1⟩) lz
theorem k7(h:PE X e te):PE X (.FormattedValue e (-1) none pos) (tN te):=by
 intro pins s σ H Q I q;refine Ta (bQ (h pins s σ H _ I q) fun v s1 ⟨x,H1,I1,r1,i,e1,li,q1⟩=>?_);subst e1;obtain⟨t,rfl⟩:=r1;exact formatField_int_small li ⟨.str (bO i),H1,I1.tok _,⟨_,rfl⟩,q1⟩
inductive PJ (X:Cx):List Expr->List TE->Prop
 |nil:PJ X [] []
 |cons {e:Expr} {es:List Expr} {t:TE} {ts:List TE}:PE X e t->PJ X es ts->PJ X (e :: es) (t :: ts)
theorem PJ.run:∀{es:List Expr} {ts:List TE},PJ X es ts->∀(acc:Str) (pins:List (Addr×Obj)) (s:Le) (σ:St) (H:Hp) (Q:VK),acc.length<=sizeLine->Inv X pins σ H s->xI ts acc σ H Q ->
  wpAny (model X.prog X.w) X.A (joinParts acc (evalEach es X.env)) (EP X pins σ Q) X.xe s
 |_,_,.nil,acc,pins,s,σ,H,Q,la,I,q=>joinParts_nil ⟨.str acc,H,I.tok _,⟨_,rfl⟩,q⟩ la
 |_,_,.cons he r,acc,pins,s,σ,H,Q,la,I,q=>by
  refine joinParts_cons (bQ (he pins s σ H _ I q) fun v s1 ⟨x,H1,I1,r1,y,e1,ly,q1⟩=>?_);subst e1;obtain⟨t,rfl⟩:=r1;exact⟨ly,r.run (acc++y) pins s1 σ H1 Q ly I1 q1⟩
theorem HA(h:PE X e te):PE X (.JoinedStr [e] pos) te:=fun pins s σ H Q I q=>JoinedStr_one (h pins s σ H Q I q)
theorem Ck{e e2:Expr}{es:List Expr}(h:PJ X (e :: e2 :: es) ts):PE X (.JoinedStr (e :: e2 :: es) pos) (xI ts Mm):=fun pins s σ H Q I q=>JoinedStr_many (h.run Mm pins s σ H Q (by decide) I q)
theorem sv:g8 X (.type "str") B_:=by
 intro pins s σ H xs us Q I r h;obtain⟨i,rfl,li,q⟩:=h;obtain⟨u,rfl,ru⟩:=vals1 r;obtain⟨t,rfl⟩:=ru;exact P.str_of_int li ⟨.str (bO i),H,I.tok _,⟨_,rfl⟩,q⟩
theorem vF:∀{ws:List Str} {us:List La},Vals (ws.map V.str) us->StrsAre us ws
 |[],_,.nil=>.nil
 |w :: ws,_,.cons r rr=>by
  obtain⟨t,rfl⟩:=r;exact .cons w t (vF rr)
theorem pJ:GS X "str.join" (kW X.K):=by
 intro pins s σ H x xs v us Q I rx rv h;obtain⟨z,a,ws,rfl,rfl,sq,le,q⟩:=h;obtain⟨t,rfl⟩:=rx;obtain⟨u,rfl,ru⟩:=vals1 rv;cases ru;obtain⟨gV,rvs,p,_⟩:=I.list sq;exact join_list (items:=gV.toArray) p.isList (vF rvs) le fun t' k=>⟨.str _,H,I.tok k,⟨t',rfl⟩,q⟩
end
section
variable{K:Fg}{σ:St}{H:Hp}{Q:VK}{te:TE}
theorem Ir(h:te σ H fun x H1=>∃z,x=.str z/\z.length<=sizeLine/\Q (.str z) H1):wP te σ H Q:=h
theorem Iu(h:te σ H fun x H1=>∃i,x=.int i/\i.natAbs.log2<1920/\Q (.str (bO i)) H1):tN te σ H Q:=h
theorem Ki(h:Q (.str acc) H):xI [] acc σ H Q:=h
theorem Kj{t:TE}{acc:Str}(h:t σ H fun x H1=>∃y,x=.str y/\(acc++y).length<=sizeLine/\xI r (acc++y) σ H1 Q):xI (t :: r) acc σ H Q:=h
theorem jt{acc y:Str}(n:(acc++y).length<=sizeLine)(h:xI r (acc++y) σ H Q):∃z,V.str y=.str z/\(acc++z).length<=sizeLine/\xI r (acc++z) σ H Q:=⟨y,rfl,n,h⟩
theorem CQ{y:Str}{P:Str->Prop}(n:y.length<=sizeLine)(h:P y):∃z,V.str y=.str z/\z.length<=sizeLine/\P z:=⟨y,rfl,n,h⟩
theorem Ef{i:Int}(n:i.natAbs.log2<1920)(h:Q (.str (bO i)) H):B_ [.int i] H Q:=⟨i,rfl,n,h⟩
theorem Ag{z:Str}{ws:List Str}(sq:SqL K H a (ws.map V.str))(le:(ws.map (·.length)).sum+ws.length*z.length<=16777216)(h:Q (.str (Ut z ws)) H):kW K (.str z) [.ref a] H Q:=⟨z,a,ws,rfl,rfl,sq,le,h⟩
end
def Jn(z:Str):It:=⟨fun i _=>i<z.cps.size,fun i H x H'=>H'=H/\∃c,z.cps[i]?=some c/\x=.str ⟨#[c]⟩,fun i _=>z.cps.size<=i⟩
theorem Bn{K:Fg}  (z:Str) (t:Tok) (it:Addr):qq P w K tg (Jn z) [it] it (fun i h=>h.IsStrIter it "str_ascii_iterator" z t i) where
 mem:=Lw.mpr rfl
 obj:=fun i h ⟨o,e,c,d⟩ b hb=>by cases Lw.mp hb;exact⟨o,e,fun v q=>by rw[d] at q;cases q⟩
 keep:=fun i h h' ⟨o,e,r⟩ k=>⟨o,k it (Lw.mpr rfl) o e,r⟩
 item:=fun X hP hw hK hc i pins s σ H E I hf st hg=>by
  subst hP hw hK;have hg':i<z.cps.size:=hg;obtain⟨f0,f1,f2,f3,f4,f5⟩:=hf it (Lw.mpr rfl);refine wpAny_pyNext_ascii_item st (c:=z.cps[i]) (MR hg') fun h' Xh sb=>?_
  have I1:Inv X pins σ H {s with heap:=h',toks:=s.toks+1}:=I.turned (t':=s.toks+1) (fun b o hb e=>(sb.2 b hb).trans e) f0 f1 f3 f4 f5;obtain⟨o,e,c,d⟩:=id Xh;exact⟨_,rfl,C5 (s:={s with heap:=h',toks:=s.toks+1}) e c d (by decide) ⟨.str ⟨#[z.cps[i]]⟩,H,I1,⟨_,rfl⟩,⟨rfl,_,MR hg',rfl⟩,Xh,fun b hb=>(hf b hb).1⟩⟩
 done:=fun X hP hw hK hc i pins s σ H E I hf st hg=>by
  subst hP hw hK;obtain⟨f0,f1,f2,f3,f4,f5⟩:=hf it (Lw.mpr rfl);exact wpAny_pyNext_ascii_end (I.ok.hd hc) st (Sg hg) fun h' eb=>⟨rfl,I.turned (t':=s.toks) (fun b o hb e=>eb b o hb e) f0 f1 f3 f4 f5⟩
 self:=fun _ _ _ _ _ st h=>wpAny_pyIter_striter_ascii st h
def Ap(tl:TE):TI:=fun σ H R=>tl σ H fun x H1=>∃z:Str,x=.str z/\z.cps.all (· < 128)=true/\R (Jn z) H1
section
variable{X:Cx}{tg:Expr}
theorem zo(hl:PE X l tl):PI X tg l (Ap tl):=by
 intro pins s σ H R I h;refine bQ (hl pins s σ H _ I h) fun v s1 ⟨x,H1,I1,r1,z,e,ha,q⟩=>?_
 subst e;obtain⟨t,rfl⟩:=r1;refine wpAny_pyIter_ascii ha ⟨s1.heap.objs.size,[s1.heap.objs.size],_,_,H1,rfl,I1.kept (t':=s1.toks) fun b o e=>Lb _ e,Bn z t _,⟨_,LJ _ rfl,rfl,rfl⟩,fun b hb=>?_,q⟩;cases Lw.mp hb;exact I1.fpOk (Lf _) (I1.hok.fresh (Lf _))
theorem Io{H:Hp}{te:TE}{R:It->Hp->Prop}(h:te σ H fun x H1=>∃z:Str,x=.str z/\z.cps.all (· < 128)=true/\R (Jn z) H1):Ap te σ H R:=h
theorem wD{z:Str}{Q:VK}{H:Hp}(h:∀D,H D=none->∃Pv:Nat->Hp->Prop,Pv 0 (upd H D (.lst []))/\(∀i c H2,z.cps[i]?=some c->Pv i H2->G5 te σ (.str ⟨#[c]⟩) H2 D z.cps.size i Pv)/\∀H2,Pv z.cps.size H2->Q (.ref D) H2):eE (Jn z) te σ Q H:=by
 intro D nD;obtain⟨Pv,h0,hs,hd⟩:=h D nD;refine⟨fun i m H=>m=z.cps.size-i/\i<=z.cps.size/\Pv i H,⟨z.cps.size,by simp,Ml _,h0⟩,?_⟩;rintro i m H ⟨rfl,hi,p⟩;by_cases VL:i<z.cps.size
 ·refine .inr ⟨VL,fun v H' y=>?_⟩;obtain⟨e,c,hc,e2⟩:=y;subst e e2;exact hs i c _ hc p
 ·have e:i=z.cps.size:=by walk_at "om"
  subst e;exact .inl ⟨Lf _,hd H p⟩
def ER(K:Fg)(te:TE):TE:=fun σ H Q=>te σ H fun x H1=>∃a,x=.ref a/\((∃xs,SqL K H1 a xs)\/∃xs,SqT K H1 a xs)/\Q (.bl true) H1
theorem Dw:AnswersAll (fun s=>s.TypeIs (.ref a) "list") (.ref a) [.type "list",.type "tuple"] [true,false] :=
 .cons (.of_true (by rfl) F.sub_list_list) (.cons (.of_false_list (by decide) (by rfl) F.sub_list_tuple) .nil)
theorem GL:AnswersAll (fun s=>s.TypeIs (.ref a) "tuple") (.ref a) [.type "list",.type "tuple"] [false,true] :=
 .cons (.of_false_tuple (by decide) (by rfl) F.sub_tuple_list) (.cons (.of_true (by rfl) F.sub_tuple_tuple) .nil)
theorem FE{p p1 p2 pos:Pos} {x1} (hgi:Gl X "isinstance") (hmi:X.mg "isinstance"=none) (hgl:Gl X "list") (hml:X.mg "list"=none) (hgt:Gl X "tuple") (hmt:X.mg "tuple"=none) (he:PE X e te)
  (hs:starEach [e,.Tuple [.Name "list" p1,.Name "tuple" p2] x1 tp] X.env=[(false,eval e X.env),(false,eval (.Tuple [.Name "list" p1,.Name "tuple" p2] x1 tp) X.env)]:=by rfl)
  (hs2:starEach [.Tuple [.Name "list" p1,.Name "tuple" p2] x1 tp] X.env=[(false,eval (.Tuple [.Name "list" p1,.Name "tuple" p2] x1 tp) X.env)]:=by rfl) :
  PE X (.Call (.Name "isinstance" p) [e,.Tuple [.Name "list" p1,.Name "tuple" p2] x1 tp] [] pos) (ER X.K te):=by
 intro pins s σ H Q I h;refine Nq (g_ I hgi hmi aD ?_);refine NM ?_ (by rw[hs,hs2]) (by rw[hs2];rfl);rw[hs];refine(show wpAny _ _ (spliced (backTo pos [(false,eval e X.env),(false,eval (.Tuple [.Name "list" p1,.Name "tuple" p2] x1 tp) X.env)])) _ _ s from M4 (bQ (he pins s σ H _ I h) fun u s1 ⟨x,H1,I1,r1,a,ex,hq,q⟩=>M4 ?_));subst ex;cases r1;have ha:PA X [.Name "list" p1,.Name "tuple" p2] (ao (tC (.ty "list")) (ao (tC (.ty "tuple")) aA)):=af (bE hgl hml iw rfl) (af (bE hgt hmt bS rfl) ak);refine TB (x1:=x1) (bQ (ha tp pins s1 σ H1 (fun vs H2=>vs=[.ty "list",.ty "tuple"]/\H2=H1) I1 ⟨rfl,rfl⟩) fun us s2 ⟨xs,H2,I2,r2,e2,e3⟩=>?_);subst e2 e3;obtain⟨u1,u2,rfl,ZL,ru2⟩:=vals2 r2;obtain rfl:u1=OP "list":=ZL;obtain rfl:u2=OP "tuple":=ru2;refine⟨bG,Op ?_⟩;have I3:Inv X pins σ H2 {s2 with heap:=s2.heap.push {cls:=.type "tuple",dict:=none,data:=.seq ([.type "list",.type "tuple"]:List La).toArray}}:=I2.kept (t':=s2.toks) fun b o e=>Lb _ e
 rcases hq with⟨xs,q1⟩|⟨xs,q1⟩
 ·obtain⟨gV,_,p,_⟩:=I3.list q1;obtain⟨o,ho,hc,_⟩:=p.isList;exact UR (b:=true) Dw ⟨o,ho,hc⟩ (LJ _ rfl) rfl fun tk=>⟨.bl true,H2,I3.tok tk,rfl,q⟩
 ·obtain⟨gV,_,p,_⟩:=I3.tuple q1;obtain⟨o,ho,hc,_⟩:=id p;exact UR (b:=true) GL ⟨o,ho,hc⟩ (LJ _ rfl) rfl fun tk=>⟨.bl true,H2,I3.tok tk,rfl,q⟩
theorem Ij{K:Fg}{H:Hp}{Q:VK}{te:TE}(h:te σ H fun x H1=>∃a,x=.ref a/\((∃xs,SqL K H1 a xs)\/∃xs,SqT K H1 a xs)/\Q (.bl true) H1):ER K te σ H Q:=h
end
def CY(K:Fg)(tl:TE):TI:=fun σ H R=>tl σ H fun x H1=>∃a,x=.ref a/\(((∃xs,SqL K H1 a xs)/\R (sN K a) H1)\/((∃xs,SqT K H1 a xs)/\R (vx K a) H1))
section
variable{X:Cx}{tg:Expr}
theorem iP{pos:Pos} (hg:Gl X x) (hm:∃t,X.mg x=some (.int i t)) (hd:(x == ("__debug__":Str))=false:=by decide):PE X (.Name x pos) (tC (.int i)):=by
 obtain⟨t,e⟩:=hm;exact c_ hg e ⟨t,rfl⟩ hd
theorem DZ(hl:PE X l tl):PI X tg l (CY X.K tl):=by
 intro pins s σ H R I h;refine bQ (hl pins s σ H _ I h) fun v s1 ⟨x,H1,I1,r1,a,e,q1⟩=>?_
 subst e;cases r1;have own:∀b∈[s1.heap.objs.size],g7 X pins H1 b:=fun b hb=>by cases Lw.mp hb;exact I1.fpOk (Lf _) (I1.hok.fresh (Lf _))
 rcases q1 with⟨⟨xs,hq⟩,q⟩|⟨⟨xs,hq⟩,q⟩
 ·obtain⟨gV,_,p,_⟩:=I1.list hq;exact Nw p.isList ⟨_,[_],_,_,H1,rfl,I1.kept (t':=s1.toks) fun b o e=>Lb _ e,qz a _,⟨_,LJ _ rfl,rfl,rfl⟩,own,q⟩
 ·obtain⟨gV,_,p,_⟩:=I1.tuple hq;exact NL (show s1.heap.IsTuple a gV.toArray from p) ⟨_,[_],_,_,H1,rfl,I1.kept (t':=s1.toks) fun b o e=>Lb _ e,nh a _,⟨_,LJ _ rfl,rfl,rfl⟩,own,q⟩
end
section
variable{K:Fg}{te:TE}{σ:St}{Q:VK}{H:Hp}
theorem Ip{R:It->Hp->Prop}(h:te σ H fun x H1=>∃a,x=.ref a/\(((∃xs,SqL K H1 a xs)/\R (sN K a) H1)\/((∃xs,SqT K H1 a xs)/\R (vx K a) H1))):CY K te σ H R:=h
theorem wE(e:SqL K H a xs\/SqT K H a xs)(h:∀D,H D=none->∃Pv:Nat->Hp->Prop,Pv 0 (upd H D (.lst []))/\(∀i H2,Pv i H2->Same H H2)/\(∀i x H2,xs[i]?=some x->Pv i H2->G5 te σ x H2 D xs.length i Pv)/\∀H2,Pv xs.length H2->Q (.ref D) H2) :
  ∃b,V.ref a=.ref b/\(((∃xs,SqL K H b xs)/\eE (sN K b) te σ Q H)\/((∃xs,SqT K H b xs)/\eE (vx K b) te σ Q H)):=by
 refine⟨a,rfl,?_⟩;rcases e with e|e
 ·refine .inl ⟨⟨xs,e⟩,d_ (xs:=xs) fun D nD=>?_⟩;obtain⟨Pv,h0,h1,h2,h3⟩:=h D nD;exact⟨Pv,h0,fun i H2 _ p=>(h1 i H2 p).seq e,h2,h3⟩
 ·refine .inr ⟨⟨xs,e⟩,ku (xs:=xs) fun D nD=>?_⟩;obtain⟨Pv,h0,h1,h2,h3⟩:=h D nD;exact⟨Pv,h0,fun i H2 _ p=>(h1 i H2 p).seqT e,h2,h3⟩
theorem HY{lo:Option Int}(e:SqT K H a xs)(n : ¬ (HT.sIx xs.length 0 lo=0/\HT.sIx xs.length xs.length hi=xs.length))(h:∀p,H p=none->Q (.ref p) (upd H p (.tup (g6 xs lo hi)))):Ca K (.ref a) lo hi H Q:=⟨a,xs,rfl,e,n,h⟩
theorem r_{bs:List Bool}(e:SqL K H a (bs.map V.bl))(h:Q (.bl (bs.all id)) H):uw K [.ref a] H Q:=⟨a,bs,rfl,e,h⟩
theorem Kx{bs:List Bool}(e:SqL K H a (bs.map V.bl))(h:Q (.bl (bs.any id)) H):Fw K [.ref a] H Q:=⟨a,bs,rfl,e,h⟩
theorem AccZ.bls{bs:List Bool}(A:AccZ K H0 l H (bs.map US)):SqL K H l (bs.map V.bl):=by
 obtain⟨xs,h1,h2⟩:=A.at_
 have:∀{vs:List V} {bs:List Bool},RzL K H vs (bs.map US)->vs=bs.map V.bl:=by
  intro vs bs
  induction bs generalizing vs with
  |nil=>intro h;cases h;rfl
  |cons b bs ih =>
   intro h;cases h with
   |cons h1 h2 =>
    cases h1;rw[ih h2];rfl
 rw[this h2] at h1;exact SqL.of h1
end
end L2
namespace Gd
def gd(a b:Int):Int:=(Int.gcd a b:Nat)
theorem Gq(a b:Int):gd b (Uu a b)=gd a b:=by
 unfold gd
 have e:Uu a b=a+b*(-(Tb a b)):=by
  rw[Uv,Int.mul_neg];walk_at "om"
 rw[e,Int.gcd_add_mul_left_right,Int.gcd_comm]
theorem Gr{b:Int}(h:b≠0):(Uu a b).natAbs<b.natAbs:=by
 rcases (by walk_at "om":0<b\/b<0) with p|p
 ·have h1:=Sh a p;have h2:=T9 a p;walk_at "om"
 ·have e:Uu a b = -(Uu (-a) (-b)):=by
   rw[Uv,Uv,Int.neg_fdiv_neg];rw[Int.neg_mul];walk_at "om"
  have h1:=Sh (-a) (b:=-b) (by walk_at "om");have h2:=T9 (-a) (b:=-b) (by walk_at "om");walk_at "om"
theorem Gp(a:Int):gd a 0=(a.natAbs:Int):=by
 unfold gd;rw[Int.gcd_zero_right]
theorem IJ(a:Int):(if a<0 then -a else a)=gd a 0:=by
 rw[Gp];split <;> walk_at "om"
theorem nJ{b:Int}(h:b≠0):0<gd a b:=by
 unfold gd
 have:Int.gcd a b≠0:=fun e=>h (Int.gcd_eq_zero_iff.mp e).2
 walk_at "om"
theorem IK{b:Int}(h:b≠0):gd a b<=(b.natAbs:Int):=by
 unfold gd
 have:=Int.gcd_le_natAbs_right a h
 walk_at "om"
structure Low (top XY q p:Int):Prop where
 pos:0<p
 low:gd q p=1
 worth:q*XY=top*p
theorem zP{b d:Int}(hb:b≠0)(hd:d=gd t b/\0<b\/d = - gd t b/\b<0):Low t b (Tb t d) (Tb b d):=by
 have gp:=nJ (a:=t) hb;have d1:gd t b∣t:=RW t b;have d2:gd t b∣b:=Rv t b;have e1:d∣t:=by rcases hd with⟨e,_⟩|⟨e,_⟩ <;> rw[e];exact d1;exact Tc.mpr d1
 have e2:d∣b:=by rcases hd with⟨e,_⟩|⟨e,_⟩ <;> rw[e];exact d2;exact Tc.mpr d2
 have d0:d≠0:=by rcases hd with⟨e,_⟩|⟨e,_⟩ <;> walk_at "om"
 obtain⟨q,rfl⟩:=e1;obtain⟨p,rfl⟩:=e2;rw[PQ _ d0,PQ _ d0];refine⟨?_,?_,?_⟩
 ·rcases hd with⟨e,z⟩|⟨e,z⟩
  ·exact RG z (by walk_at "om") |> fun h=>h
  ·have z':0<(-d)*p:=by rw[Int.neg_mul];walk_at "om"
   exact RG z' (by walk_at "om")
 ·have m:gd (d*q) (d*p)=(d.natAbs:Int)*gd q p:=by
   unfold gd;rw[Int.gcd_mul_left];simp
  have n:gd (d*q) (d*p)=(d.natAbs:Int):=by
   rcases hd with⟨e,z⟩|⟨e,z⟩ <;> walk_at "om"
  rw[n] at m;have k:(d.natAbs:Int)*gd q p=(d.natAbs:Int)*1:=by walk_at "om"
  exact Int.eq_of_mul_eq_mul_left (by walk_at "om") k
 ·rw[<- Int.mul_assoc,Int.mul_comm q d]
theorem wB{t d:Int}(h:d≠0)(hd:d∣t):(Tb t d).natAbs<=t.natAbs:=by
 obtain⟨q,rfl⟩:=hd;rw[PQ _ h,Int.natAbs_mul];exact Nat.le_mul_of_pos_left _ (by walk_at "om")
theorem FX{b d:Int}(hb:b≠0)(hd:d=gd t b/\0<b\/d = - gd t b/\b<0):(Tb t d).natAbs<=t.natAbs/\(Tb b d).natAbs<=b.natAbs:=by
 have gp:=nJ (a:=t) hb;have d1:gd t b∣t:=RW t b;have d2:gd t b∣b:=Rv t b;have d0:d≠0:=by rcases hd with⟨e,_⟩|⟨e,_⟩ <;> walk_at "om"
 refine⟨wB d0 ?_,wB d0 ?_⟩
 ·rcases hd with⟨e,_⟩|⟨e,_⟩ <;> rw[e];exact d1;exact Tc.mpr d1
 ·rcases hd with⟨e,_⟩|⟨e,_⟩ <;> rw[e];exact d2;exact Tc.mpr d2
theorem wide{i:Int}(h:i.natAbs<10000000000000000000000000000000000000001):i.natAbs<2 ^ 9000 :=
 LR h (by
  have:10000000000000000000000000000000000000001<=2 ^ 133:=by decide
  exact Mh this (Ov (by decide) (by decide)))
end Gd
namespace Fr
open PySem L2
def yx:Sp:=fun vs H Q _=>∃a b:Int,vs=[.int a,.int b]/\Q (.int (Gd.gd a b)) H
def ET:TS:=(aF (yc (bg (aE w4 (ag 1) (tC (.int 0))))
 (aF (aR (aE JK (ag 0) (ag 1)) (aO 2))
 (aF (aR (ag 1) (aO 0))
 (aR (ag 2) (aO 1)))))
 (aY (b_ JM (ao (ag 0) aA))))
theorem DV(a b:Int)(H:Hp)(D:dk)(k:D.rt (.int (Gd.gd a b)) H):ET D [some (.int a),some (.int b),none] H:=by
 refine Bk (fun σ H'=>H'=H/\∃(i j:Int) (v:Option V),σ=[some (.int i),some (.int j),v]/\Gd.gd i j=Gd.gd a b)
  (fun σ _=>match σ with | [_,some (.int j),_]=>j.natAbs|_=>0) ⟨rfl,a,b,none,rfl,rfl⟩ ?_ ?_
 ·rintro σ H' ⟨rfl,i,j,v,rfl,e⟩;refine⟨_,rfl,rfl,_,rfl,Kz (fun hj=>?_) (fun hj=>?_)⟩
  ·refine⟨_,rfl,_,rfl,_,_,rfl,rfl,hj,_,rfl,_,rfl,⟨rfl,j,i.fmod j,_,rfl,(Gd.Gq i j).trans e⟩,?_⟩;exact Gd.Gr hj
  ·subst hj;refine⟨_,rfl,_,rfl,?_⟩;rw[Gd.IJ,e];exact k
 ·rintro σ H' R R' h ⟨v,e,sc,c,ec,q⟩;exact⟨v,e,sc,c,ec,h _ _ q⟩
def Ha:TS:=(aF (aR (bo yx [] E0 (ao (ag 0) (ao (ag 1) aA))) (aO 2))
 (aY (cV (ao (aE xb (ag 0) (ag 2)) (ao (aE xb (ag 1) (ag 2)) aA)))))
def EO:TS:=(aF (bq (bg (aE uq (ag 1) (tC (.int 0)))) qC bp)
 (aF (bq (bg (aE fq (ag 1) (tC (.int 0)))) (aR (tC (.int 1)) (aO 1)) bp) Ha))
open PySem.W (Dat kqdOk)
def cellOf(ns:List Int)(k:Int):Int:=(ns[k.toNat]?).getD 0
def fo(K:Fg):Sp:=fun vs H Q _=>∃(a:Addr) (ns:List Int) (k:Int),vs=[.ref a,.int k]/\SqL K H a (ns.map V.int)/\0<=k/\Q (.int (cellOf ns k)) H
def Hb(K:Fg):TS:=(aF (bq (bg (aE uq (ag 1) (b_ (cM K) (ao (ag 0) aA))))
 (aY (aE (cy K) (ag 0) (ag 1)))
 bp)
 (aY (tC (.int 0))))
theorem Fn{K:Fg}{ns:List Int}{k:Int}{D:dk}(hS:SqL K H a (ns.map V.int))(h0:0<=k)(q:D.rt (.int (cellOf ns k)) H):Hb K D [some (.ref a),some (.int k)] H:=by
 have el:(ns.map V.int).length=ns.length:=K9 _;refine⟨_,rfl,_,rfl,a,_,rfl,.inl hS,_,_,rfl,rfl,_,rfl,IC (fun c=>?_) (fun c=>?_)⟩
 ·rw[el] at c;have hk:k.toNat<ns.length:=by walk_at "om"
  have e:k=((k.toNat:Nat):Int):=by walk_at "om"
  have z:cellOf ns k=ns[k.toNat]:=by
   unfold cellOf;rw[Ld hk];rfl
  have w:i8 (ns.map V.int) ((k.toNat:Nat):Int)=some (.int ns[k.toNat]):=ba (by rw[Ll];simp[hk]);rw[<- e] at w;rw[z] at q;exact⟨_,rfl,_,rfl,a,_,_,_,rfl,rfl,hS,w,q⟩
 ·rw[el] at c
  have z:cellOf ns k=0:=by
   unfold cellOf;rw[NG (by walk_at "om")];rfl
  rw[z] at q;exact q
def je:Sp:=fun vs H Q _=>∃i:Int,vs=[.int i]/\Q (.bl true) H
def yb (K:Fg):TS:=(aY (mF (b_ (fL K) (ao (ag 0) (ao (tC (.ty "int")) aA))) (Bv (b_ (fL K) (ao (ag 0) (ao (tC (.ty "bool")) aA))))))
theorem vK{K:Fg}{D:dk}(q:D.rt (.bl true) H):yb K D [some (.int i)] H :=
 ⟨_,rfl,_,_,_,_,rfl,TyOf.int i,HQ,_,rfl,u_ ⟨_,rfl,_,_,_,_,rfl,TyOf.int i,HR,_,rfl,q⟩⟩
end Fr
namespace Kd
open PySem L2
def gc(K:Fg)(c:V)(nm:Str):TS:=(bq (tB (b_ (Fv K) (ao (ag 0) (ao (tC c) aA))))
 (gf (fX K "list" di (ag 1) (ao (tC (.str nm)) aA)))
 bp)
theorem JG{K:Fg}{D:dk}(he:ExH H e C)(a:mh K C)(k:vw K C c false)(q:D.nx [some (.ref e),some (.ref l)] H) :
  gc K c nm D [some (.ref e),some (.ref l)] H:=⟨_,rfl,e,C,c,false,rfl,he,a,k,_,rfl,va q⟩
theorem Hn{K:Fg}{D:dk}(he:ExH H e C)(a:mh K C)(k:vw K C c true)(hl:H l=some (.lst []))(q:D.nx [some (.ref e),some (.ref l)] (upd H l (.lst [.str nm]))) :
  gc K c nm D [some (.ref e),some (.ref l)] H :=
 ⟨_,rfl,e,C,c,true,rfl,he,a,k,_,rfl,u_ ⟨_,rfl,.inl ⟨rfl,_,SqL.of hl⟩,l,_,_,rfl,rfl,hl,(by show 0<sizeLine;decide),q⟩⟩
end Kd
namespace Ex0
open PySem L2 Fr Kd
structure Ad where
 V:Addr
 c0:Addr
 c1:Addr
 c2:Addr
 c3:Addr
 c4:Addr
 c5:Addr
 c6:Addr
 c7:Addr
 c8:Addr
 c9:Addr
 c10:Addr
 c11:Addr
 c12:Addr
 c13:Addr
def ye(K:Fg)(x:Ad):TS:=(aF (aR (cW aA) (aO 1))
 (aF (gc K (.ref x.c0) "NoFraction")
 (aF (gc K (.ref x.c1) "NoStuffs")
 (aF (gc K (.ref x.c2) "NoHeap")
 (aF (gc K (.ref x.c3) "NoPace")
 (aF (gc K (.ref x.c4) "NoTurnings")
 (aF (gc K (.ref x.c5) "NoTurning")
 (aF (gc K (.ref x.c6) "NoText")
 (aF (gc K (.ref x.c7) "NotNow")
 (aF (gc K (.ref x.c8) "TooMany")
 (aF (gc K (.ref x.c9) "NoDrain")
 (aF (gc K (.ref x.c10) "NotEven")
 (aF (gc K (.ref x.c11) "NoStuff")
 (aF (gc K (.ref x.c12) "NoPieces")
 (aF (gc K (.ref x.c13) "NoDeed")
 (aF (bq (gb (tB (b_ (Fv K) (ao (ag 0) (ao (tC (.ty "ValueError")) aA)))))
 (gf (fX K "list" di (ag 1) (ao (tC (.str "other")) aA)))
 bp)
 (aY (ag 1))))))))))))))))))
open PySem.W (mroIn clsIn typeIn findIn specialIn takesIn)
abbrev BX:List La:=[.type "ValueError",.type "Exception",.type "BaseException",.type "object"]
def Ad.l(x:Ad):List Addr:=[x.V,x.c0,x.c1,x.c2,x.c3,x.c4,x.c5,x.c6,x.c7,x.c8,x.c9,x.c10,x.c11,x.c12,x.c13]
def Ad.ca(x:Ad)(i:Nat):Addr:=x.l.getD (i+1) 0
def HG (i:Nat):Str:=(["NoFraction","NoStuffs","NoHeap","NoPace","NoTurnings","NoTurning","NoText","NotNow","TooMany","NoDrain","NotEven","NoStuff","NoPieces","NoDeed"]:List Str).getD i ""
def sM (K:Fg) (x:Ad) (C:Addr) (r:Nat):Prop:=mh K C/\(∀i,i<14->vw K C (.ref (x.ca i)) (i == r))/\vw K C (.ty "ValueError") true
theorem eY{K:Fg}{i:Nat}{H:Hp}{D:dk}(T:sM K x C r)(nl:H l=none)(hi:i<14)(he:ExH Hi e C)(hl:Hi l=some (.lst (if r<i then [.str (HG r)] else [])))(S:Same H Hi)
  (q:∀Hj,ExH Hj e C->Hj l=some (.lst (if r<i+1 then [.str (HG r)] else []))->Same H Hj->D.nx [some (.ref e),some (.ref l)] Hj):gc K (.ref (x.ca i)) (HG i) D [some (.ref e),some (.ref l)] Hi:=by
 by_cases z:r=i
 ·subst z;rw[if_neg (N9 _)] at hl;have k:=T.2.1 r hi;rw[beq_self_eq_true] at k;obtain⟨d,he⟩:=he;have ne:e≠l:=fun y=>by rw[y,hl] at he;cases d <;> cases he
  refine Hn ⟨d,he⟩ T.1 k hl (q _ ⟨d,by rw[bf ne];exact he⟩ ?_ fun b o y=>?_)
  ·rw[if_pos (by walk_at "om"),aq]
  ·rw[bf (bA y nl)];exact S _ _ y
 ·have k:=T.2.1 i hi;rw[show(i == r)=false from beq_false_of_ne fun y=>z y.symm] at k;refine JG he T.1 k (q Hi he ?_ S);rw[hl];by_cases y:r<i
  ·rw[if_pos y,if_pos (by walk_at "om")]
  ·rw[if_neg y,if_neg (by walk_at "om")]
theorem iL{K:Fg}{D:dk}(T:sM K x C r)(hr:r<14)(he:ExH H e C)(k:∀(p:Addr) (H':Hp),Same H H'->H' p=some (.lst [.str (HG r)])->D.rt (.ref p) H'):ye K x D [some (.ref e),none] H:=by
 refine⟨EY,fun l nl=>?_⟩;obtain⟨d,he⟩:=he;have ne:e≠l:=bA he nl;have h1:ExH (upd H l (.lst [])) e C:=⟨d,by rw[bf ne];exact he⟩
 have h2:upd H l (.lst []) l=some (.lst (if r<0 then [.str (HG r)] else [])):=by rw[if_neg (QR _)];exact aq
 have h3:=au nl (.lst []);generalize upd H l (.lst [])=H1 at h1 h2 h3 ⊢;refine eY (i:=0) T nl (by decide) h1 h2 h3 fun H1 h1 h2 h3=>?_
 refine eY (i:=1) T nl (by decide) h1 h2 h3 fun H1 h1 h2 h3=>?_
 refine eY (i:=2) T nl (by decide) h1 h2 h3 fun H1 h1 h2 h3=>?_
 refine eY (i:=3) T nl (by decide) h1 h2 h3 fun H1 h1 h2 h3=>?_
 refine eY (i:=4) T nl (by decide) h1 h2 h3 fun H1 h1 h2 h3=>?_
 refine eY (i:=5) T nl (by decide) h1 h2 h3 fun H1 h1 h2 h3=>?_
 refine eY (i:=6) T nl (by decide) h1 h2 h3 fun H1 h1 h2 h3=>?_
 refine eY (i:=7) T nl (by decide) h1 h2 h3 fun H1 h1 h2 h3=>?_
 refine eY (i:=8) T nl (by decide) h1 h2 h3 fun H1 h1 h2 h3=>?_
 refine eY (i:=9) T nl (by decide) h1 h2 h3 fun H1 h1 h2 h3=>?_
 refine eY (i:=10) T nl (by decide) h1 h2 h3 fun H1 h1 h2 h3=>?_
 refine eY (i:=11) T nl (by decide) h1 h2 h3 fun H1 h1 h2 h3=>?_
 refine eY (i:=12) T nl (by decide) h1 h2 h3 fun H1 h1 h2 h3=>?_
 refine eY (i:=13) T nl (by decide) h1 h2 h3 fun H1 h1 h2 h3=>?_
 rw[if_pos hr] at h2;refine⟨_,rfl,e,C,_,true,rfl,h1,T.1,T.2.2,_,rfl,va ?_⟩;exact⟨_,rfl,k l H1 h3 h2⟩
theorem wb{K:Fg}{V:Addr}{d:O4}(c:clsIn K q=some d)(m:d.mro=[.ref q,.ref V]++BX)(t:La):mroIn K q t=some (([LZ q,.ref V]++BX).contains t):=by
 unfold mroIn;rw[c];show(if d.mro.isEmpty then none else some (d.mro.contains t))=_;rw[m];rfl
theorem zI{K:Fg}{V:Addr}{d:O4}(c:clsIn K q=some d)(m:d.mro=[.ref q,.ref V]++BX):mroIn K q (.ref V)=some true:=by
 rw[wb c m];exact congrArg some (NH.mpr (by simp))
theorem rO{K:Fg}{V:Addr}{d:O4}(c:clsIn K q=some d)(m:d.mro=[.ref q,.ref V]++BX)(h:BX.contains t=true):mroIn K q t=some true:=by
 rw[wb c m];exact congrArg some (NH.mpr (LH _ (NH.mp h)))
theorem JD{K:Fg} {x:Ad} {n0 n1 n2 n3 n4 n5 n6 n7 n8 n9 n10 n11 n12 n13:Str} {d0 d1 d2 d3 d4 d5 d6 d7 d8 d9 d10 d11 d12 d13:O4} (h:GX K [(n0,x.c0,d0),(n1,x.c1,d1),(n2,x.c2,d2),(n3,x.c3,d3),(n4,x.c4,d4),(n5,x.c5,d5),(n6,x.c6,d6),(n7,x.c7,d7),(n8,x.c8,d8),(n9,x.c9,d9),(n10,x.c10,d10),(n11,x.c11,d11),(n12,x.c12,d12),(n13,x.c13,d13)]):∀i,i<14->typeIn K (.ref (x.ca i))=some (.type "type")/\∃cd,clsIn K (x.ca i)=some cd:=by
 obtain⟨c0,c1,c2,c3,c4,c5,c6,c7,c8,c9,c10,c11,c12,c13,_⟩:=h
 exact fun i hi=>match i,hi with
  |0,_=>⟨c0.2.1,_,c0.2.2⟩
  |1,_=>⟨c1.2.1,_,c1.2.2⟩
  |2,_=>⟨c2.2.1,_,c2.2.2⟩
  |3,_=>⟨c3.2.1,_,c3.2.2⟩
  |4,_=>⟨c4.2.1,_,c4.2.2⟩
  |5,_=>⟨c5.2.1,_,c5.2.2⟩
  |6,_=>⟨c6.2.1,_,c6.2.2⟩
  |7,_=>⟨c7.2.1,_,c7.2.2⟩
  |8,_=>⟨c8.2.1,_,c8.2.2⟩
  |9,_=>⟨c9.2.1,_,c9.2.2⟩
  |10,_=>⟨c10.2.1,_,c10.2.2⟩
  |11,_=>⟨c11.2.1,_,c11.2.2⟩
  |12,_=>⟨c12.2.1,_,c12.2.2⟩
  |13,_=>⟨c13.2.1,_,c13.2.2⟩
theorem lN{K:Fg} {x:Ad} {r:Nat} {d:O4} (tc:∀i,i<14->typeIn K (.ref (x.ca i))=some (.type "type")/\∃cd,clsIn K (x.ca i)=some cd) (nd:x.l.Nodup) (hr:r<14) (c:clsIn K (x.ca r)=some d) (m:d.mro=[LZ (x.ca r),.ref x.V]++BX) (f:GU K (x.ca r))
  (gt:specialIn K (.builtin "object.__class__") "__get__"=some (some (.builtin "getset_descriptor.__get__"))) (tk:takesIn K (.builtin "object.__class__")=some true):sM K x (x.ca r) r:=by
 have atl:∀i,i<14->x.l[i+1]?=some (x.ca i):=fun i hi=>by
  have h:i+1<x.l.length:=by show i+1<15;walk_at "om"
  unfold Ad.ca;rw[Mz,Ld h];rfl
 refine⟨⟨f.1,f.2.1,f.2.2,gt,tk,rO c m (by decide +kernel),rO c m (by decide +kernel)⟩,fun i hi=>?_,F8 (rO c m (by decide +kernel)) (by decide +kernel)⟩;obtain⟨ti,cd,ci⟩:=tc i hi;refine F9 ?_ ?_ ti ci
 ·rw[wb c m];refine congrArg some ?_;by_cases z:i=r
  ·subst z;rw[beq_self_eq_true];exact NH.mpr Lg
  ·rw[beq_false_of_ne z];refine O_.mpr fun y=>?_
   rcases Lr.mp (NH.mp y) with y|y
   ·injection y with y
    have e:=(Uw (show i+1<x.l.length by show i+1<15;walk_at "om") nd).mp ((atl i hi).trans ((congrArg some y).trans (atl r hr).symm));walk_at "om"
   rcases Lr.mp y with y|y
   ·injection y with y
    have e:=(Uw (show i+1<x.l.length by show i+1<15;walk_at "om") nd).mp ((atl i hi).trans (congrArg some y):x.l[i+1]? = x.l[0]?);walk_at "om"
   ·simp at y
 ·rw[wb c m];exact congrArg some (NH.mpr Lg)
end Ex0
namespace L2
open PySem PySem.SetTable
def KP(m:Nat):MG:={mask:=m,place:=#[],dummies:=#[],finger:=0,led:=true,moves:=0,plain:=true}
def qt(m:Nat)(p:Probe):Probe:=(KP m).advance p
def st(m:Nat)(h:Int):Probe:=(KP m).probeStart h
def dM(m:Nat):Nat->Probe->Probe
 |0,p=>p
 |n+1,p=>dM m n (qt m p)
theorem fg(m:Nat):∀(a b:Nat) (p:Probe),dM m (a+b) p=dM m b (dM m a p)
 |0,b,p=>by rw[Pp];rfl
 |a+1,b,p=>by rw[show a+1+b=(a+b)+1 by walk_at "om"];exact fg m a b (qt m p)
theorem Bj(m n:Nat)(p:Probe):dM m (n+1) p=qt m (dM m n p):=by rw[fg m n 1 p];rfl
theorem sJ(m:Nat)(p:Probe):(qt m p).dummy=p.dummy:=by unfold qt Py;split <;> rfl
theorem qw(m:Nat):∀(n:Nat) (p:Probe),(dM m n p).dummy=p.dummy
 |0,_=>rfl
 |n+1,p=>by rw[dM,qw m n,sJ]
theorem qS(m i:Nat):runEnd m i-i<=9:=by unfold runEnd;split <;> walk_at "om"
theorem Dx{p:Probe}(h:p.more<=9):(qt m p).more<=9:=by
 unfold qt Py;split
 ·show p.more-1<=9;walk_at "om"
 ·exact qS _ _
theorem oy(m:Nat):∀(n:Nat) {p:Probe},p.more<=9->(dM m n p).more<=9
 |0,_,h=>h
 |n+1,_,h=>oy m n (Dx h)
theorem yj(m:Nat)(h:Int):(st m h).more<=9:=qS _ _
def lp(m:Nat)(x:Nat×Nat):Nat×Nat:=leap m x.1 x.2
def js(m:Nat):Nat->Nat×Nat->Nat×Nat
 |0,x=>x
 |n+1,x=>js m n (lp m x)
theorem gE{p:Probe}(h:0<p.more):qt m p = {p with j:=p.j+1,more:=p.more-1}:=by unfold qt Py;rw[if_pos h]
theorem dL{p:Probe}(h:p.more=0):qt m p = {p with j:=(lp m (p.i,p.perturb)).1,more:=runEnd m (lp m (p.i,p.perturb)).1-(lp m (p.i,p.perturb)).1,i:=(lp m (p.i,p.perturb)).1,perturb:=(lp m (p.i,p.perturb)).2}:=by
 unfold qt Py;rw[if_neg (by walk_at "om")];rfl
theorem sW(m:Nat):∀(r:Nat) (p:Probe),p.more=r->∃q,dM m (r+1) p=q/\q.j=(lp m (p.i,p.perturb)).1/\q.i=(lp m (p.i,p.perturb)).1/\q.perturb=(lp m (p.i,p.perturb)).2
 |0,p,h=>⟨_,rfl,by rw[dM,dM,dL h],by rw[dM,dM,dL h],by rw[dM,dM,dL h]⟩
 |r+1,p,h=>by
  have e:dM m (r+1+1) p=dM m (r+1) {p with j:=p.j+1,more:=p.more-1}:=by rw[dM,gE (by walk_at "om")]
  obtain⟨q,h1,h2,h3,h4⟩:=sW m r {p with j:=p.j+1,more:=p.more-1} (by show p.more-1=r;walk_at "om");exact⟨q,e.trans h1,h2,h3,h4⟩
theorem vD(m:Nat):∀(k:Nat) (p:Probe),p.more<=9->∃n,n<=10*(k+1)/\(dM m n p).j=(js m (k+1) (p.i,p.perturb)).1/\(dM m n p).i=(js m (k+1) (p.i,p.perturb)).1/\(dM m n p).perturb=(js m (k+1) (p.i,p.perturb)).2
 |0,p,h=>by
  obtain⟨q,h1,h2,h3,h4⟩:=sW m p.more p rfl;exact⟨p.more+1,by walk_at "om",by rw[h1];exact h2,by rw[h1];exact h3,by rw[h1];exact h4⟩
 |k+1,p,h=>by
  obtain⟨q,h1,h2,h3,h4⟩:=sW m p.more p rfl;have hq:q.more<=9:=h1 ▸ oy m _ h;obtain⟨n,g1,g2,g3,g4⟩:=vD m k q hq;have e:js m (k+1) (q.i,q.perturb)=js m (k+1+1) (p.i,p.perturb):=by rw[h3,h4];rfl
  rw[e] at g2 g3 g4;exact⟨p.more+1+n,by walk_at "om",by rw[fg,h1];exact g2,by rw[fg,h1];exact g3,by rw[fg,h1];exact g4⟩
theorem uP(m:Nat):∀(a b:Nat) (x:Nat×Nat),js m (a+b) x=js m b (js m a x)
 |0,b,x=>by rw[Pp];rfl
 |a+1,b,x=>by rw[show a+1+b=(a+b)+1 by walk_at "om"];exact uP m a b (lp m x)
theorem ip(m:Nat):∀(a:Nat) (x:Nat×Nat),(js m a x).2=x.2 / 32 ^ a
 |0,x=>by simp[js]
 |a+1,x=>by
  rw[js,ip m a];show x.2 / 32 / 32 ^ a=x.2 / 32 ^ (a+1);rw[Nat.div_div_eq_div_mul,Nat.pow_succ,R9]
theorem zM(m:Nat):∀(a:Nat) (x:Nat×Nat),(js m (a+1) x).1<m+1
 |0,x=>Si _ (Sj _)
 |a+1,x=>zM m a (lp m x)
def lc(m:Nat):Nat->Nat->Nat
 |0,i=>i
 |n+1,i=>lc m n ((i*5+1) % (m+1))
theorem pL(m:Nat):∀(a i:Nat),(js m a (i,0)).1=lc m a i
 |0,_=>rfl
 |a+1,i=>by
  have e:lp m (i,0)=((i*5+1) % (m+1),0):=by unfold lp leap;simp
  rw[js,e,pL m a];rfl
def j4(m:Nat):Prop:=∀i,i<m+1->∀j,j<m+1->∃k,k<m+1/\lc m k i=j
def KB(m:Nat):Bool:=(Mo (m+1)).all fun i=>(Mo (m+1)).all fun j=>(Mo (m+1)).any fun k=>lc m k i == j
theorem AC(h:KB m=true):j4 m:=by
 intro i hi j hj;have h1:=Mp.mp h i (Nt.mpr hi);have h2:=Mp.mp h1 j (Nt.mpr hj);obtain⟨k,h3,h4⟩:=RX.mp h2;exact⟨k,Nt.mp h3,by simpa using h4⟩
theorem KC:j4 7:=AC (by decide +kernel)
theorem IM:j4 31:=AC (by decide +kernel)
theorem IG(F:j4 m){p:Probe}(h1:p.more<=9)(h2:p.perturb<2 ^ 64){j:Nat}(hj:j<m+1):∃n,n<10*turns m/\(dM m n p).j=j:=by
 obtain⟨k,hk,ek⟩:=F (js m 13 (p.i,p.perturb)).1 (zM m 12 _) j hj
 have z:(js m 13 (p.i,p.perturb)).2=0:=by
  rw[ip];exact UT (LR h2 (by decide))
 have e:(js m (12+k+1) (p.i,p.perturb)).1=j:=by
  rw[show 12+k+1=13+k by walk_at "om",uP];have e2:js m 13 (p.i,p.perturb)=((js m 13 (p.i,p.perturb)).1,0):=OV rfl z;rw[e2,pL];exact ek
 obtain⟨n,g1,g2,_⟩:=vD m (12+k) p h1;exact⟨n,by unfold turns;walk_at "om",g2.trans e⟩
theorem GF(h:Int):bits h<2 ^ 64:=by unfold bits;walk_at "om"
theorem jd(m:Nat)(h:Int):(st m h).perturb<2 ^ 64:=GF h
theorem vt{p:Probe}(h:p.perturb<2 ^ 64):(qt m p).perturb<2 ^ 64:=by
 unfold qt Py;split
 ·exact h
 ·show p.perturb / 32<2 ^ 64;walk_at "om"
theorem kB(m:Nat):∀(n:Nat) {p:Probe},p.perturb<2 ^ 64->(dM m n p).perturb<2 ^ 64
 |0,_,h=>h
 |n+1,_,h=>kB m n (vt h)
theorem vT{t:MG} (hd : ∀ j, t.slot j ≠ .dummy) (hashAt:Nat->Int) (h:Int) : ∀ (fuel:Nat) (p:Probe), (∃ n, n<fuel/\t.slot (dM t.mask n p).j=.empty) ->
    ∃ n, n<fuel/\(∀ k, k<n -> ∃ i, t.slot (dM t.mask k p).j=.live i/\hashAt i≠h) /\
      ((t.slot (dM t.mask n p).j=.empty/\N3 t hashAt h fuel p=some (.empty (dM t.mask n p).j p.dummy)) \/
       (∃ i, t.slot (dM t.mask n p).j=.live i/\hashAt i=h/\N3 t hashAt h fuel p=some (.candidate (dM t.mask n p).j i (dM t.mask (n + 1) p))))
  |0, _, ⟨_, h0, _⟩ => absurd h0 (by walk_at "om")
  |fuel + 1, p, ⟨n, h0, h1⟩ => by
    cases hs:t.slot p.j with
    |empty => exact⟨0, by walk_at "om", fun k hk => absurd hk (by walk_at "om"), .inl ⟨hs, by rw[N3, hs]; rfl⟩⟩
    |dummy => exact absurd hs (hd _)
    |live i =>
      by_cases e:hashAt i=h
      · refine⟨0, by walk_at "om", fun k hk => absurd hk (by walk_at "om"), .inr ⟨i, hs, e, ?_⟩⟩
        rw[N3, hs];show(if hashAt i == h then _ else _)=_;rw[if_pos (by simpa using e)]; rfl
      · have hn : ∃ n, n<fuel/\t.slot (dM t.mask n (qt t.mask p)).j=.empty := by
          cases n with
          |zero => rw[dM, hs] at h1; exact absurd h1 (by simp)
          |succ n => exact⟨n, by walk_at "om", h1⟩
        obtain⟨n', g0, g1, g2⟩ := vT hd hashAt h fuel (qt t.mask p) hn
        have ego:N3 t hashAt h (fuel + 1) p=N3 t hashAt h fuel (qt t.mask p) := by
          rw[N3, hs];show(if hashAt i == h then _ else _)=_;rw[if_neg (by simpa using e)]; rfl
        refine⟨n' + 1, by walk_at "om", ?_, ?_⟩
        · intro k hk
          cases k with
          |zero => exact⟨i, hs, e⟩
          |succ k => exact g1 k (by walk_at "om")
        · rw[ego]
          rcases g2 with⟨a, b⟩|⟨i', a, b, c⟩
          · exact .inl ⟨a, by rw[b, sJ]; rfl⟩
          · exact .inr ⟨i', a, b, c⟩
theorem wc(m:Nat):∀(a b i:Nat),lc m (a+b) i=lc m b (lc m a i)
 |0,b,i=>by rw[Pp];rfl
 |a+1,b,i=>by rw[show a+1+b=(a+b)+1 by walk_at "om"];exact wc m a b _
theorem ql(xs:Array Nat)(j:Nat)(hs:∀a b,a<b->b<xs.size->xs.getD a j<xs.getD b j):∀(fuel lo hi:Nat),lo<=hi->hi<=xs.size->hi-lo<=fuel->(∀k,k<lo->xs.getD k j<j)->(∀k,hi<=k->k<xs.size->¬ xs.getD k j<j) ->
  lo<=below.go xs j fuel lo hi/\below.go xs j fuel lo hi<=xs.size/\(∀k,k<below.go xs j fuel lo hi->xs.getD k j<j)/\(∀k,below.go xs j fuel lo hi<=k->k<xs.size->¬ xs.getD k j<j)
 |0,lo,hi,h1,h2,h3,h4,h5=>by
  have:lo=hi:=by walk_at "om"
  subst this;exact⟨Lf _,h2,h4,h5⟩
 |fuel+1,lo,hi,h1,h2,h3,h4,h5=>by
  unfold below.go;by_cases hl:lo<hi
  ·rw[if_pos hl];show lo<=(if xs.getD ((lo+hi) / 2) j<j then _ else _)/\_;by_cases hm:xs.getD ((lo+hi) / 2) j<j
   ·rw[if_pos hm]
    have:=ql xs j hs fuel ((lo+hi) / 2+1) hi (by walk_at "om") h2 (by walk_at "om") (fun k hk=>by
     rcases Nn k ((lo+hi) / 2) with g|g
     ·exact L8 (hs k _ g (by walk_at "om")) hm
     ·have:k=(lo+hi) / 2:=by walk_at "om"
      rw[this];exact hm) h5
    exact⟨by walk_at "om",this.2⟩
   ·rw[if_neg hm]
    exact ql xs j hs fuel lo ((lo+hi) / 2) (by walk_at "om") (by walk_at "om") (by walk_at "om") h4 (fun k h6 h7 h8=>by
     rcases Nn ((lo+hi) / 2) k with g|g
     ·exact hm (L8 (hs _ k g h7) h8)
     ·have:k=(lo+hi) / 2:=by walk_at "om"
      rw[this] at h8;exact hm h8)
  ·rw[if_neg hl]
   have:lo=hi:=by walk_at "om"
   subst this;exact⟨Lf _,h2,h4,h5⟩
def xF(l:List Nat):Prop:=l.Pairwise (· < ·)
theorem BA(h:xF l)(d:Nat):∀a b,a<b->b<l.toArray.size->l.toArray.getD a d<l.toArray.getD b d:=by
 intro a b h1 h2;have h3:b<l.length:=by simpa using h2
 have:=NE.mp h a b (by walk_at "om") h3 h1
 simpa[Q_,h3,show a<l.length by walk_at "om"] using this
theorem jw(h:xF l)(j:Nat):below l.toArray j<=l.length/\(∀k x,k<below l.toArray j->l[k]?=some x->x<j)/\(∀k x,below l.toArray j<=k->l[k]?=some x->j<=x):=by
 have:=ql l.toArray j (BA h j) l.toArray.size 0 l.toArray.size (by walk_at "om") (Lf _) (by walk_at "om") (fun k hk=>absurd hk (by walk_at "om")) (fun k h1 h2=>absurd h2 (by walk_at "om"))
 obtain⟨_,h2,h3,h4⟩:=this
 have gd:∀k x,l[k]?=some x->k<l.length/\l.toArray.getD k j=x:=by
  intro k x hx;obtain⟨hk,e⟩:=K_.mp hx;exact⟨hk,by simp[Q_,hk,e]⟩
 refine⟨by unfold below;simpa using h2,?_,?_⟩
 ·intro k x hk hx
  have:=h3 k hk
  rw[(gd k x hx).2] at this;exact this
 ·intro k x hk hx
  have:=h4 k hk (by simpa using(gd k x hx).1)
  rw[(gd k x hx).2] at this;walk_at "om"
theorem gC(h:xF l){j i:Nat}(hi:l[i]?=some j):below l.toArray j=i:=by
 obtain⟨h1,h2,h3⟩:=jw h j;rcases NA i (below l.toArray j) with g|g|g
 ·exact absurd (h2 i j g hi) (by walk_at "om")
 ·exact g.symm
 ·obtain⟨hk,e⟩:=K_.mp hi;have hb:below l.toArray j<l.length:=by walk_at "om"
  have h4:=h3 (below l.toArray j) _ (Lf _) (Ld hb);have h5:=NE.mp h (below l.toArray j) i hb hk g;walk_at "om"
theorem EV(h:xF l){j:Nat}(hj:j∉l):xF (l.take (below l.toArray j)++j :: l.drop (below l.toArray j)):=by
 obtain⟨h1,h2,h3⟩:=jw h j
 have ht:∀x∈l.take (below l.toArray j),x<j:=by
  intro x hx;obtain⟨k,hk,e⟩:=List.mem_take_iff_getElem.mp hx;exact h2 k x (by walk_at "om") (by rw[<- e];exact Ld _)
 have hd:∀x∈l.drop (below l.toArray j),j<x:=by
  intro x hx;obtain⟨k,hk,e⟩:=List.mem_drop_iff_getElem.mp hx
  have:=h3 (below l.toArray j+k) x (by walk_at "om") (by rw[<- e];exact Ld _)
  have WO:x≠j:=fun e2=>hj (e2 ▸ Ow hx)
  walk_at "om"
 unfold xF;rw[List.pairwise_append];refine⟨SH (Rq _ _) h,?_,?_⟩
 ·rw[P4];exact⟨hd,SH (Ux _ _) h⟩
 ·intro a ha b hb;rcases Lr.mp hb with rfl|hb
  ·exact ht a ha
  ·exact L8 (ht a ha) (hd b hb)
theorem iX{α:Type}(l:List α)(p:Nat)(x:α)(_hp:p<=l.length):insertAt l.toArray p x=(l.take p++x :: l.drop p).toArray:=by
 unfold insertAt;apply Array.ext';simp[List.extract_eq_take_drop];rw[Ln (by simp)]
theorem gi{t:MG}{l:List Nat}(hp:t.place=l.toArray)(hs:xF l){i j:Nat}(h:l[i]?=some j):t.slot j=.live i:=by
 unfold Vz;rw[hp];show(if l.toArray[below l.toArray j]? == some j then _ else _)=_;rw[gC hs h,if_pos (by simpa using h)]
theorem jf{t:MG}{l:List Nat}(hp:t.place=l.toArray)(hd:t.dummies = #[]){j:Nat}(h:j∉l):t.slot j=.empty:=by
 unfold Vz;rw[hp,hd];show(if l.toArray[below l.toArray j]? == some j then _ else _)=_;rw[if_neg,if_neg]
 ·simp[has,below,below.go]
 ·intro e;exact h (Li (by simpa using e))
theorem jB{t:MG}{l:List Nat}(hp:t.place=l.toArray)(hd:t.dummies = #[])(hs:xF l)(h:t.slot j=.live i):l[i]?=some j:=by
 by_cases hj:j∈l
 ·obtain⟨i',hi⟩:=NI.mp hj;rw[gi hp hs hi] at h;cases h;exact hi
 ·rw[jf hp hd hj] at h;cases h
theorem mG{t:MG}{l:List Nat}(hp:t.place=l.toArray)(hd:t.dummies = #[])(hs:xF l)(j:Nat):t.slot j≠.dummy:=by
 by_cases hj:j∈l
 ·obtain⟨i',hi⟩:=NI.mp hj;rw[gi hp hs hi];simp
 ·rw[jf hp hd hj];simp
theorem oR{t:MG}{l:List Nat}(hp:t.place=l.toArray)(hs:xF l)(h:t.slot j=.empty):j∉l:=by
 intro hj;obtain⟨i',hi⟩:=NI.mp hj;rw[gi hp hs hi] at h;cases h
theorem Jf{m:Nat}{p:Probe}(h:p.j+p.more<=m):(qt m p).j+(qt m p).more<=m:=by
 by_cases g:0<p.more
 ·rw[gE g];show p.j+1+(p.more-1)<=m;walk_at "om"
 ·rw[dL (by walk_at "om")];have hl:(lp m (p.i,p.perturb)).1<m+1:=Si _ (Sj _);show(lp m (p.i,p.perturb)).1+(runEnd m (lp m (p.i,p.perturb)).1-(lp m (p.i,p.perturb)).1)<=m;unfold runEnd;split <;> walk_at "om"
theorem DH(m:Nat):∀(n:Nat) {p:Probe},p.j+p.more<=m->(dM m n p).j+(dM m n p).more<=m
 |0,_,h=>h
 |n+1,_,h=>DH m n (Jf h)
theorem Hc(m:Nat)(h:Int):(st m h).j+(st m h).more<=m:=by
 have hl:bits h % (m+1)<m+1:=Si _ (Sj _);show bits h % (m+1)+(runEnd m (bits h % (m+1))-bits h % (m+1))<=m;unfold runEnd;split <;> walk_at "om"
def at_(m:Nat)(h:Int)(n:Nat):Nat:=(dM m n (st m h)).j
theorem Jd(m:Nat)(h:Int)(n:Nat):at_ m h n<=m:=by have:=DH m n (Hc m h);unfold at_;walk_at "om"
structure Lain (t:MG) (l:List Nat) (hs:List Int):Prop where
 full:j4 t.mask
 place:t.place=l.toArray
 nodum:t.dummies = #[]
 size:l.length=hs.length
 srt:xF l
 le:∀j∈l,j<=t.mask
 fill:l.length<=t.mask
 met:∀(i j:Nat) (h:Int),l[i]?=some j->hs[i]?=some h->∃n,at_ t.mask h n=j/\∀k,k<n->at_ t.mask h k∈l
theorem qZ:∀(n:Nat) (l:List Nat),(∀j,j<n->j∈l)->n<=l.length
 |0,_,_=>Ml _
 |n+1,l,h=>by
  have h1:=qZ n (l.erase n) (fun j hj=>(Td (by walk_at "om")).mpr (h j (by walk_at "om")));have h2:=h n (by walk_at "om");rw[RH h2] at h1;have h3:=Sk h2;walk_at "om"
theorem qH{l:List Nat}{m:Nat}(h:l.length<=m):∃j,j<m+1/\j∉l:=by
 by_cases hx:∃j,j<m+1/\j∉l
 ·exact hx
 ·exfalso;have V2:∀j,j<m+1->j∈l:=fun j hj=>NF fun hn=>hx ⟨j,hj,hn⟩
  have:=qZ (m+1) l V2
  walk_at "om"
theorem Lain.search{t:MG}   (L:Lain t l hs) (hashAt:Nat->Int) (ha : ∀ (i:Nat) (h:Int), hs[i]?=some h->hashAt i=h) (h:Int) (n0:Nat) :
    ∃ n, n0<=n/\(∀ k, n0<=k->k<n -> ∃ i:Nat, l[i]?=some (at_ t.mask h k)/\hs[i]? ≠ some h) /\
      ((at_ t.mask h n ∉ l/\t.probe hashAt h (dM t.mask n0 (st t.mask h))=some (.empty (at_ t.mask h n) none)) \/
       (∃ i:Nat, l[i]?=some (at_ t.mask h n)/\hs[i]?=some h/\t.probe hashAt h (dM t.mask n0 (st t.mask h))=some (.candidate (at_ t.mask h n) i (dM t.mask (n + 1) (st t.mask h))))) := by
  obtain⟨j, hj, hjl⟩ := qH L.fill;obtain⟨nf, hf, ef⟩ := IG L.full (p := dM t.mask n0 (st t.mask h)) (oy _ _ (yj _ _)) (kB _ _ (jd _ _)) hj;obtain⟨n, _, h1, h2⟩ := vT (t := t) (mG L.place L.nodum L.srt) hashAt h (10 * turns t.mask) (dM t.mask n0 (st t.mask h)) ⟨nf, hf, by rw[ef]; exact jf L.place L.nodum hjl⟩;have ew : ∀ k, (dM t.mask k (dM t.mask n0 (st t.mask h))).j=at_ t.mask h (n0 + k) := fun k => by unfold at_; rw[fg]
  refine⟨n0 + n, by walk_at "om", ?_, ?_⟩
  · intro k hk1 hk2
    obtain⟨i, g1, g2⟩ := h1 (k-n0) (by walk_at "om");rw[ew, show n0 + (k-n0)=k by walk_at "om"] at g1;exact⟨i, jB L.place L.nodum L.srt g1, fun e => g2 (ha i h e)⟩
  · rcases h2 with⟨a, b⟩|⟨i, a, b, c⟩
    · rw[ew] at a b
      exact .inl ⟨oR L.place L.srt a, by rw[Vm, b, qw]; rfl⟩
    · rw[ew] at a c
      have hi := jB L.place L.nodum L.srt a;refine .inr ⟨i, hi, ?_, ?_⟩
      · have VL:i<hs.length := by rw[<- L.size]; exact(K_.mp hi).1
        have e := ha i _ (Ld VL);rw[Ld VL, <- e, b]
      · rw[Vm, c, <- fg, show n0 + (n + 1)=n0 + n + 1 by walk_at "om"]
theorem Lain.ahead{t:MG}(L:Lain t l hs)(hn:at_ t.mask h n∉l){i:Nat}(hi:hs[i]?=some h):∃k,k<n/\l[i]?=some (at_ t.mask h k):=by
 have VL:i<l.length:=by rw[L.size];exact(K_.mp hi).1
 obtain⟨k,h1,h2⟩:=L.met i _ h (Ld VL) hi;refine⟨k,?_,by rw[h1];exact Ld VL⟩;rcases NA k n with g|g|g
 ·exact g
 ·subst g;exact absurd (h1 ▸ Nb VL) hn
 ·exact absurd (h2 n g) hn
theorem lF{α:Type}{l:List α}{x y:α}:y∈l.take p++x :: l.drop p↔y=x\/y∈l:=by
 rw[L5,Lr];constructor
 ·rintro(h|h|h)
  ·exact .inr (Ox h)
  ·exact .inl h
  ·exact .inr (Ow h)
 ·rintro(h|h)
  ·exact .inr (.inl h)
  ·rw[<- O6 p l,L5] at h;rcases h with h|h
   ·exact .inl h
   ·exact .inr (.inr h)
theorem ww{α:Type}{l:List α}{p:Nat}(hp:p<=l.length)(x:α)(i:Nat):(l.take p++x :: l.drop p)[i]? = if i<p then l[i]? else if i=p then some x else l[i-1]?:=by
 have ht:(l.take p).length=p:=by rw[LK];walk_at "om"
 by_cases h1:i<p
 ·rw[if_pos h1,Mc (by walk_at "om"),List.getElem?_take,if_pos h1]
 ·rw[if_neg h1,L7 (by walk_at "om"),ht];by_cases h2:i=p
  ·rw[if_pos h2,h2,Uy];rfl
  ·rw[if_neg h2,show i-p=(i-p-1)+1 by walk_at "om",P_,OS];congr 1;walk_at "om"
theorem Lain.put{t:MG}(L:Lain t l hs)(hn:at_ t.mask h n∉l)(hk:∀k,k<n->at_ t.mask h k∈l)(hm:l.length+1<=t.mask) :
  ∃p,p<=l.length/\(t.put (at_ t.mask h n)).2=p/\Lain (t.put (at_ t.mask h n)).1 (l.take p++at_ t.mask h n :: l.drop p) (hs.take p++h :: hs.drop p)/\(t.put (at_ t.mask h n)).1.mask=t.mask/\(t.put (at_ t.mask h n)).1.led=t.led/\(t.put (at_ t.mask h n)).1.plain=t.plain/\(t.put (at_ t.mask h n)).1.moves=t.moves:=by
 have hb:=(jw L.srt (at_ t.mask h n)).1;have iY:(t.put (at_ t.mask h n)).2=below l.toArray (at_ t.mask h n):=by unfold MG.put;rw[L.place]
 have mU:(t.put (at_ t.mask h n)).1 = {t with place:=(l.take (below l.toArray (at_ t.mask h n))++at_ t.mask h n :: l.drop (below l.toArray (at_ t.mask h n))).toArray}:=by
  unfold MG.put;show({t with place:=_,dummies:=_}:MG)=_;rw[L.place,L.nodum,iX _ _ _ hb,if_neg (by simp[has,below,below.go])]
 refine⟨below l.toArray (at_ t.mask h n),hb,iY,?_,by rw[mU],by rw[mU],by rw[mU],by rw[mU]⟩;rw[mU];have hbh:below l.toArray (at_ t.mask h n)<=hs.length:=by rw[<- L.size];exact hb
 refine⟨L.full,rfl,L.nodum,?_,EV L.srt hn,?_,?_,?_⟩
 ·simp only[LU,LS,LK,M_,L.size]
 ·intro j hj;rcases lF.mp hj with rfl|hj
  ·exact Jd _ _ _
  ·exact L.le j hj
 ·simp only[LU,LS,LK,M_];show _<=t.mask;walk_at "om"
 ·intro i j h' hi hj;rw[ww hb] at hi;rw[ww hbh] at hj;by_cases g1:i<below l.toArray (at_ t.mask h n)
  ·rw[if_pos g1] at hi hj;obtain⟨m,h1,h2⟩:=L.met i j h' hi hj;exact⟨m,h1,fun k hk=>lF.mpr (.inr (h2 k hk))⟩
  ·rw[if_neg g1] at hi hj;by_cases g2:i=below l.toArray (at_ t.mask h n)
   ·rw[if_pos g2] at hi hj;cases hi;cases hj;exact⟨n,rfl,fun k Xw=>lF.mpr (.inr (hk k Xw))⟩
   ·rw[if_neg g2] at hi hj;obtain⟨m,h1,h2⟩:=L.met (i-1) j h' hi hj;exact⟨m,h1,fun k hk=>lF.mpr (.inr (h2 k hk))⟩
theorem Lain.plain{t:MG}(L:Lain t l hs)(b:Bool):Lain {t with plain:=b} l hs:=⟨L.full,L.place,L.nodum,L.size,L.srt,L.le,L.fill,L.met⟩
theorem Lain.fresh(f m:Nat)(b:Bool):Lain (.fresh f m b) [] []:=⟨KC,rfl,rfl,rfl,Um,fun j h=>absurd h (by simp),Ml _,fun i j h hi=>absurd hi (by simp)⟩
theorem vJ(m:Nat):∀(k:Nat) (p:Probe),k<=p.more->(dM m k p).j=p.j+k/\(dM m k p).more=p.more-k/\(dM m k p).i=p.i/\(dM m k p).perturb=p.perturb
 |0,p,_=>⟨rfl,rfl,rfl,rfl⟩
 |k+1,p,h=>by
  rw[dM,gE (by walk_at "om")];obtain⟨h1,h2,h3,h4⟩:=vJ m k {p with j:=p.j+1,more:=p.more-1} (by show k<=p.more-1;walk_at "om");refine⟨h1.trans ?_,h2.trans ?_,h3,h4⟩
  ·show p.j+1+k=p.j+(k+1);walk_at "om"
  ·show p.more-1-k=p.more-(k+1);walk_at "om"
theorem AD(m:Nat)(owner:Array (Option Nat))(ho:owner.size=m+1):∀(fuel:Nat) (p:Probe),p.j=p.i->p.more=runEnd m p.i-p.i->p.j+p.more<=m ->
  (∃a,a<fuel/\owner[(js m a (p.i,p.perturb)).1]?=some none) ->
  ∃n,layClean.free m owner fuel p.i p.perturb=some (dM m n p).j/\owner[(dM m n p).j]?=some none/\∀k,k<n->∃w,owner[(dM m k p).j]?=some (some w)
 |0,_,_,_,_,⟨_,h,_⟩=>absurd h (by walk_at "om")
 |fuel+1,p,hj,Y6,hle,⟨a,ha,hf⟩=>by
  have hlen:runEnd m p.i+1-p.i=p.more+1:=by rw[Y6];unfold runEnd;split <;> walk_at "om"
  unfold layClean.free;rw[hlen]
  have W_:∀k,k<=p.more->∃w,owner[(dM m k p).j]?=some w/\owner.getD (p.i+k) (some 0)=w:=by
   intro k hk;obtain⟨e1,_⟩:=vJ m k p hk;have VL:p.i+k<owner.size:=by rw[ho];walk_at "om"
   refine⟨owner[p.i+k],?_,?_⟩
   ·rw[e1,hj];exact MR VL
   ·simp[Q_,VL]
  cases XO:(Mo (p.more+1)).find? (fun k=>(owner.getD (p.i+k) (some 0)).isNone) with
  |some k =>
   rw[List.find?_range_eq_some] at XO;obtain⟨h1,h2,h3⟩:=XO;have hk:k<=p.more:=by have:=Nt.mp h2;walk_at "om"
   refine⟨k,?_,?_,?_⟩
   ·obtain⟨e1,_⟩:=vJ m k p hk;show some (p.i+k)=_;rw[e1,hj]
   ·obtain⟨w,g1,g2⟩:=W_ k hk;rw[g1];rw[g2] at h1;cases w with
    |none=>rfl
    |some w=>cases h1
   ·intro k' Xw;obtain⟨w,g1,g2⟩:=W_ k' (by walk_at "om")
    have:=h3 k' Xw
    rw[g2] at this;cases w with
    |none=>simp at this
    |some w=>exact⟨w,g1⟩
  |none =>
   rw[List.find?_eq_none] at XO
   have V2:∀k,k<=p.more->∃w,owner[(dM m k p).j]?=some (some w):=by
    intro k hk;obtain⟨w,g1,g2⟩:=W_ k hk
    have:=XO k (Nt.mpr (by walk_at "om"))
    rw[g2] at this;cases w with
    |none=>simp at this
    |some w=>exact⟨w,g1⟩
   have hq:∃q,dM m (p.more+1) p=q/\q.i=(lp m (p.i,p.perturb)).1/\q.perturb=(lp m (p.i,p.perturb)).2/\q.j=q.i/\q.more=runEnd m q.i-q.i/\q.j+q.more<=m:=by
    obtain⟨e1,e2,e3,e4⟩:=vJ m p.more p (Lf _);refine⟨_,rfl,?_⟩;rw[Bj,dL (by walk_at "om"),e3,e4];refine⟨rfl,rfl,rfl,rfl,?_⟩;have hl:(lp m (p.i,p.perturb)).1<m+1:=Si _ (Sj _);show(lp m (p.i,p.perturb)).1+(runEnd m (lp m (p.i,p.perturb)).1-(lp m (p.i,p.perturb)).1)<=m;unfold runEnd;split <;> walk_at "om"
   obtain⟨q,hq0,hq1,hq2,hq3,hq4,hq5⟩:=hq
   have WO:a≠0:=by
    intro e;subst e;obtain⟨w,hw⟩:=V2 0 (Ml _);have e2:(dM m 0 p).j=(js m 0 (p.i,p.perturb)).1:=hj;rw[e2,hf] at hw;cases hw
   obtain⟨a',rfl⟩:∃a',a=a'+1:=⟨a-1,by walk_at "om"⟩
   obtain⟨n,g1,g2,g3⟩:=AD m owner ho fuel q hq3 hq4 hq5 ⟨a',by walk_at "om",by rw[hq1,hq2];exact hf⟩;refine⟨p.more+1+n,?_,?_,?_⟩
   ·rw[fg,hq0,<- g1,hq1,hq2];rfl
   ·rw[fg,hq0];exact g2
   ·intro k hk;by_cases g:k<=p.more
    ·exact V2 k g
    ·obtain⟨w,hw⟩:=g3 (k-(p.more+1)) (by walk_at "om");refine⟨w,?_⟩;rw[<- hw,<- hq0,<- fg,show p.more+1+(k-(p.more+1))=k by walk_at "om"]
structure Own (m:Nat) (H:List Int) (owner:Array (Option Nat)) (k:Nat):Prop where
 size:owner.size=m+1
 met:∀(j w:Nat),owner[j]?=some (some w)->w<k/\∃h,H[w]?=some h/\∃n,at_ m h n=j/\∀k',k'<n->∃w',owner[at_ m h k']?=some (some w')
 all:∀w,w<k->∃j:Nat,owner[j]?=some (some w)
 cnt:owner.toList.countP TQ=k
theorem Own.zero(m:Nat)(H:List Int):Own m H (Array.replicate (m+1) none) 0:=by
 refine⟨by simp,?_,fun w hw=>absurd hw (by walk_at "om"),?_⟩
 ·intro j w h;rw[Array.getElem?_replicate] at h;split at h <;> simp at h
 ·simp[List.countP_replicate]
theorem Own.free(O:Own m H owner k)(hk:k<m+1):∃j,j<m+1/\owner[j]?=some none:=by
 by_cases hx:∃j,j<m+1/\owner[j]?=some none
 ·exact hx
 ·exfalso
  have V2:∀x∈owner.toList,TQ x=true:=by
   intro x hx';obtain⟨j,hj,e⟩:=Tf.mp hx';cases x with
   |some w=>rfl
   |none =>
    have hj':j<owner.size:=by simpa using hj
    exact absurd ⟨j,by rw[<- O.size];exact hj',by rw[MR hj'];simpa using e⟩ hx
  have h1:=Ql.mpr V2;rw[O.cnt,Mv,O.size] at h1;walk_at "om"
theorem Own.step(F:j4 m)(O:Own m H owner k)(hk:k<m+1){h:Int}(hh:H[k]?=some h) :
  ∃j,layClean.free m owner (turns m) (bits h % (m+1)) (bits h)=some j/\Own m H (owner.setIfInBounds j (some k)) (k+1):=by
 obtain⟨j,hj,hf⟩:=O.free hk;obtain⟨c,hc,ec⟩:=F (js m 13 ((st m h).i,(st m h).perturb)).1 (zM m 12 _) j hj
 have z:(js m 13 ((st m h).i,(st m h).perturb)).2=0:=by
  rw[ip];exact UT (LR (jd m h) (by decide))
 have e:(js m (13+c) ((st m h).i,(st m h).perturb)).1=j:=by
  rw[uP];have e2:js m 13 ((st m h).i,(st m h).perturb)=((js m 13 ((st m h).i,(st m h).perturb)).1,0):=OV rfl z;rw[e2,pL];exact ec
 obtain⟨n,g1,g2,g3⟩:=AD m owner O.size (turns m) (st m h) rfl rfl (Hc m h) ⟨13+c,by unfold turns;walk_at "om",by rw[e];exact hf⟩;have hb:at_ m h n<owner.size:=by rw[O.size];have:=Jd m h n;walk_at "om"
 have keep:∀(i w:Nat),owner[i]?=some (some w)->(owner.setIfInBounds (at_ m h n) (some k))[i]?=some (some w):=by
  intro i w hi;rw[OZ];split
  ·rename_i e2;subst e2;exact absurd (hi.symm.trans g2) (by simp)
  ·exact hi
 have new:(owner.setIfInBounds (at_ m h n) (some k))[at_ m h n]?=some (some k):=by rw[OZ];simp[hb]
 refine⟨at_ m h n,g1,by simp[O.size],?_,?_,?_⟩
 ·intro i w hi;rw[OZ] at hi;split at hi
  ·rename_i e2;subst e2;cases hi;exact⟨by walk_at "om",h,hh,n,rfl,fun k' Xw=>(g3 k' Xw).elim fun w' XQ=>⟨w',keep _ _ XQ⟩⟩
  ·obtain⟨h1,h',h2,n',h3,h4⟩:=O.met i w hi;exact⟨by walk_at "om",h',h2,n',h3,fun k' Xw=>(h4 k' Xw).elim fun w' XQ=>⟨w',keep _ _ XQ⟩⟩
 ·intro w hw;by_cases g:w=k
  ·exact⟨at_ m h n,by rw[g];exact new⟩
  ·obtain⟨i,hi⟩:=O.all w (by walk_at "om");exact⟨i,keep i w hi⟩
 ·rw[Array.toList_setIfInBounds,List.countP_set (by simpa using hb),O.cnt]
  have e3:owner.toList[at_ m h n]'(by simpa using hb)=none:=by
   have:=(MR hb).symm.trans g2
   simpa using this
  rw[e3];simp
theorem Own.fold{m:Nat}(F:j4 m){H:List Int}:∀(rest:List Int) (owner:Array (Option Nat)) (k:Nat),Own m H owner k->H.drop k=rest->H.length<=m+1->k<=H.length ->
  ∃Wy,rest.foldl (fun(acc:Option (Array (Option Nat)×Nat)) h=>do
   let (owner,k) <- acc
   let j <- layClean.free m owner (turns m) (bits h % (m+1)) (bits h)
   pure (owner.setIfInBounds j (some k),k+1)) (some (owner,k))=some (Wy,H.length)/\Own m H Wy H.length
 |[],owner,k,O,hd,_,hk=>by
  have:H.length<=k:=by simpa using hd
  have e:k=H.length:=by walk_at "om"
  subst e;exact⟨owner,rfl,O⟩
 |h :: rest,owner,k,O,hd,hl,hk=>by
  have hh:H[k]?=some h:=by
   have:=congrArg (·[0]?) hd
   simpa using this
  have VL:k<H.length:=(K_.mp hh).1;obtain⟨j,e1,O2⟩:=O.step F (by walk_at "om") hh;obtain⟨Wy,e2,O3⟩:=Own.fold F rest _ (k+1) O2 (by rw[<- Vn,hd];rfl) hl (by walk_at "om");refine⟨Wy,?_,O3⟩;rw[QJ,<- e2];congr 1;show(layClean.free m owner (turns m) (bits h % (m+1)) (bits h)).bind _=_;rw[e1];rfl
theorem zU(F:j4 m)(H:List Int)(hl:H.length<=m)(f mv:Nat)(led plain:Bool) :
  ∃(t:MG) (l ws:List Nat),VA m f mv led plain H.toArray=some (t,ws.toArray)/\Lain t l (ws.map (H.getD · 0))/\(∀w∈ws,w<H.length)/\(∀w,w<H.length->w∈ws)/\ws.length=H.length/\t.mask=m/\t.led=led/\t.plain=plain:=by
 obtain⟨owner,e,O⟩:=Own.fold F H _ 0 (Own.zero m H) rfl (by walk_at "om") (Ml _)
 have ec:layClean m H.toArray=some owner:=by
  unfold layClean;rw[<- Array.foldl_toList];show Vk _ (T6 _ _ H)=_;exact(congrArg (Vk (·.1)) e).trans rfl
 let live:=(Mo (m+1)).filterMap fun j=>(owner.getD j none).map (j,·)
 have gd:∀(j w:Nat),owner.getD j none=some w↔owner[j]?=some (some w):=by
  intro j w;by_cases hj:j<owner.size
  ·rw[MR hj];simp[Q_,hj]
  ·rw[Sg (by walk_at "om")];simp[Q_,hj]
 have Xa:∀(j w:Nat),(j,w)∈live↔owner[j]?=some (some w):=by
  intro j w;show(j,w)∈(Mo (m+1)).filterMap _↔_;rw[MS];constructor
  ·rintro⟨j',_,h2⟩;obtain⟨w',h3,h4⟩:=Lu.mp h2;cases h4;exact(gd _ _).mp h3
  ·intro h;refine⟨j,Nt.mpr ?_,by rw[(gd j w).mpr h];rfl⟩
   have:=(Mr.mp h).1
   rw[O.size] at this;exact this
 have hsrt:xF (live.map (·.1)):=by
  unfold xF;rw[Uz];refine RC.filterMap _ ?_ Qk;intro a a' haa b hb b' Z8;obtain⟨_,_,h3⟩:=Lu.mp hb;obtain⟨_,_,h4⟩:=Lu.mp Z8;rw[<- h3,<- h4];exact haa
 have hlen:live.length=H.length:=by
  have gen:∀(xs:List Nat),(xs.filterMap fun j=>(owner.getD j none).map (j,·)).length=(xs.map fun j=>owner.getD j none).countP TQ:=by
   intro xs
   induction xs with
   |nil=>rfl
   |cons x xs ih =>
    rw[MC,LP,List.countP_cons];cases owner.getD x none with
    |none=>simpa using ih
    |some w=>simpa using ih
  have el:(Mo (m+1)).map (fun j=>owner.getD j none)=owner.toList:=by
   apply Pa;intro i;by_cases hi:i<m+1
   ·have hi':i<owner.size:=by rw[O.size];exact hi
    rw[Ll,QX hi];simp[Q_,hi']
   ·rw[NG (by simp;walk_at "om"),NG (by simp[O.size];walk_at "om")]
  show((Mo (m+1)).filterMap _).length=_;rw[gen,el,O.cnt]
 refine⟨{mask:=m,place:=(live.map (·.1)).toArray,dummies:=#[],finger:=f,led:=led,moves:=mv,plain:=plain},live.map (·.1),live.map (·.2),?_,?_,?_,?_,?_,rfl,rfl,rfl⟩
 ·unfold VA;rw[ec];rfl
 ·refine⟨F,rfl,rfl,by simp,hsrt,?_,?_,?_⟩
  ·intro j hj;obtain⟨⟨j',w⟩,h1,h2⟩:=Lm.mp hj;cases h2
   have:=(Mr.mp ((Xa _ _).mp h1)).1
   rw[O.size] at this;show j'<=m;walk_at "om"
  ·show(live.map (·.1)).length<=m;rw[K9,hlen];exact hl
  ·intro i j h hi hj;rw[Ll] at hi;rw[Na,Ll] at hj;cases hx:live[i]? with
   |none=>rw[hx] at hi;cases hi
   |some x =>
    rw[hx] at hi hj;obtain⟨j',w⟩:=x;cases hi;obtain⟨h1,h',h2,n,h3,h4⟩:=O.met j' w ((Xa _ _).mp (Li hx))
    have eh:h=h':=by
     have e5:H.getD w 0=h:=by simpa using hj
     rw[Mz,h2] at e5;exact e5.symm
    subst eh;refine⟨n,h3,fun k hk=>?_⟩;obtain⟨w',XQ⟩:=h4 k hk;exact Lm.mpr ⟨(_,w'),(Xa _ _).mpr XQ,rfl⟩
 ·intro w hw;obtain⟨⟨j',w'⟩,h1,h2⟩:=Lm.mp hw;cases h2;exact(O.met j' w' ((Xa _ _).mp h1)).1
 ·intro w hw;obtain⟨j,hj⟩:=O.all w hw;exact Lm.mpr ⟨(j,w),(Xa _ _).mpr hj,rfl⟩
 ·rw[K9,hlen]
open PySem PySem.Spec PyProof.Rows
mutual
def iu:Nat->RE->Bool
 |_,.int _=>true
 |_,.str _=>true
 |0,.tuple _=>false
 |n+1,.tuple xs=>gZ n xs
 |_,_=>false
def gZ:Nat->List RE->Bool
 |_,[]=>true
 |n,x :: xs=>iu n x && gZ n xs
end
mutual
def cD(w:LQ):RE->Int
 |.int i=>hashInt i
 |.str x=>hashStr w x
 |.tuple xs=>reduceHash (Rh (sk w xs))
 |_=>0
def sk(w:LQ):List RE->List Int
 |[]=>[]
 |x :: xs=>cD w x :: sk w xs
end
section
variable{prog:LB}{w:LQ}{E:La->Le->Prop}
set_option maxRecDepth 100000 in
mutual
theorem Ay:∀(n:Nat) (d:RE) (v:La) (A:Mf) (s:Le) (Q:Int->Le->Prop) (as:List Addr),iu n d=true->Ot s.heap v d as->A.units+n<cLine->(∀tk,Q (cD w d) {s with toks:=tk})->wpAny (model prog w) A (pyHash v) Q E s
 |n,.int i,v,A,s,Q,as,_,r,hu,h=>by
  cases r;exact wpAny_pyHash_int (by rw[cD] at h;exact h _)
 |n,.str y,v,A,s,Q,as,_,r,hu,h=>by
  cases r;exact wpAny_pyHash_str (by rw[cD] at h;exact h _)
 |n+1,.tuple xs,v,A,s,Q,as,hk,r,hu,h=>by
  cases r with
  |@tuple a o vs m _ _ ho hc hd ra =>
   refine PySem.W.pyHash_slot (T:="tuple") ⟨_,ho,hc⟩ UA F.entry_tuple_hash (F.args_tuple_hash_1 _) (beq_builtin_none _) (.inr (by walk_at "om")) ?_;refine K8 (m:=Q7 (.ref a)) (wpAny_tupleItemsOf ho hd (K8 ?_));rw[<- P5];refine wu n xs vs.toList A.in1 s #[] _ _ (by rw[iu] at hk;exact hk) ra (by rw[Mf.in1_units];walk_at "om") fun tk b hb=>?_
   refine(show wpAny _ _ (retInt (Rh b.toList)) _ _ _ from ?_);rw[hb];rw[cD] at h;exact K8 (wpAny_mkInt (Lh ⟨_,_,rfl,h _⟩))
 |0,.tuple xs,v,A,s,Q,as,hk,r,hu,h=>by rw[iu] at hk;cases hk
 |n,.none,v,A,s,Q,as,hk,r,hu,h=>by cases n <;> (rw[iu] at hk;cases hk;all_goals simp)
 |n,.bool _,v,A,s,Q,as,hk,r,hu,h=>by cases n <;> (rw[iu] at hk;cases hk;all_goals simp)
 |n,.list _,v,A,s,Q,as,hk,r,hu,h=>by cases n <;> (rw[iu] at hk;cases hk;all_goals simp)
 |n,.dict _,v,A,s,Q,as,hk,r,hu,h=>by cases n <;> (rw[iu] at hk;cases hk;all_goals simp)
theorem wu:∀(n:Nat) (ds:List RE) (vs:List La) (A:Mf) (s:Le) (b:Array Int) (Q:Array Int->Le->Prop) (as:List Addr),gZ n ds=true->SV s.heap vs ds as->A.units+n<cLine ->
  (∀tk b',b'.toList=b.toList++sk w ds->Q b' {s with toks:=tk})->wpAny (model prog w) A (forIn vs b fun x r=>do let h <- pyHash x;pure PUnit.unit;pure (Sw (r.push h))) Q E s
 |n,[],_,A,s,b,Q,_,_,.nil,_,h=>Lh (h s.toks b (by rw[sk,M9]))
 |n,d :: ds,_,A,s,b,Q,_,hk,.cons r rr,hu,h=>by
  rw[gZ,My] at hk;rw[PX];refine K8 (K8 (Ay n d _ A s _ _ hk.1 r hu fun tk=>?_));refine K8 (Lh (Lh ?_));exact wu n ds _ A _ _ Q _ hk.2 rr hu fun ZV b' hb=>h ZV b' (by rw[hb,sk];simp)
end
end
section
variable{prog:LB}{w:LQ}{A:Mf}{E:La->Le->Prop}
theorem nG(hk:iu n d=true) (r:Ot h v d as):carriedByValue v=true\/∃a o vs m xs k,v=.ref a/\n=k+1/\d=.tuple xs/\h.get? a=some o/\o.cls=.type "tuple"/\o.data=.seq vs m/\SV h vs.toList xs as/\gZ k xs=true:=by
 cases r with
 |int i t=>exact .inl rfl
 |str x t=>exact .inl rfl
 |none=>exact .inl rfl
 |bool b=>exact .inl rfl
 |tuple ho hc hd ra =>
  cases n with
  |zero=>rw[iu] at hk;cases hk
  |succ k=>exact .inr ⟨_,_,_,_,_,k,rfl,rfl,rfl,ho,hc,hd,ra,by rw[iu] at hk;exact hk⟩
 |list ho hc hd ra=>exfalso;cases n <;> simp[iu] at hk
 |dict ho hc hd ra rb=>exfalso;cases n <;> simp[iu] at hk
inductive vA (p:La->Prop):List La->Prop
 |nil:vA p []
 |cons {v:La} {vs:List La}:p v->vA p vs->vA p (v :: vs)
theorem o8{h:Heap}{n:Nat}:∀{vs:List La} {ds:List RE} {as:List Addr},SV h vs ds as->gZ n ds=true->vA (fun v=>∃d bs,iu n d=true/\Ot h v d bs) vs
 |_,_,_,.nil,_=>.nil
 |_,_,_,.cons r rr,hk=>by
  rw[gZ,My] at hk;exact .cons ⟨_,_,hk.1,r⟩ (o8 rr hk.2)
theorem vQ:∀(n:Nat) {d:RE} {v:La} {s:Le} {Q:Bool->Le->Prop} {as:List Addr},iu n d=true->Ot s.heap v d as->Q true s->wpAny (model prog w) A (eqIsQuiet n v) Q E s:=by
 intro n
 induction n with
 |zero =>
  intro d v s Q as hk r q;rcases nG hk r with hv|⟨_,_,_,_,_,k,_,e,_⟩
  ·rw[eqIsQuiet_byValue _ hv];exact Lh q
  ·cases e
 |succ n ih =>
  intro d v s Q as hk r q;rcases nG hk r with hv|⟨a,o,vs,m,xs,k,rfl,e,rfl,ho,hc,hd,ra,Y0⟩
  ·rw[eqIsQuiet_byValue _ hv];exact Lh q
  ·cases e;have ty:s.TypeIs (.ref a) "tuple":=⟨o,ho,hc⟩
   unfold eqIsQuiet;refine K8 (wpAny_specialOf ty F.slot_tuple_eq.lookup ?_);refine(show wpAny _ _ (isInstance (.ref a) (.type "tuple") >>= _) _ _ s from K8 (RV ty isSubtype_tuple_tuple ?_));simp only[OB,LX,if_false];refine K8 (Ni ho hd (K8 ?_));rw[UU,<- P5];refine Qu _ (fun rest z s'=>z.1=none/\s'=s/\vA (fun v=>∃d bs,iu n d=true/\Ot s.heap v d bs) rest) _ ?_ ?_ _ _ ⟨rfl,rfl,o8 ra Y0⟩
   ·rintro v rest z s' ⟨_,rfl,al⟩;cases al with
    |cons p al =>
     obtain⟨d',bs,p1,p2⟩:=p;refine K8 (ih p1 p2 ?_);simp only[OB,LX,if_false];exact Lh ⟨rfl,rfl,al⟩
   ·rintro⟨z1,z2⟩ s' ⟨hz,rfl,_⟩;cases (show z1=none from hz);exact Lh q
theorem ma(n:Nat)(h:carriedByValue v=true):∃b,hashByValue n v=pure b:=by
 cases v with
 |ref a=>cases h
 |_=>exact⟨_,by cases n <;> (unfold hashByValue;rfl)⟩
theorem IH:∀(n m:Nat) {d:RE} {v:La} {s:Le} {Q:Bool->Le->Prop} {as:List Addr},iu n d=true->n<=m->Ot s.heap v d as->(∀b,Q b s)->wpAny (model prog w) A (hashByValue m v) Q E s:=by
 intro n
 induction n with
 |zero =>
  intro m d v s Q as hk _ r q;rcases nG hk r with hv|⟨_,_,_,_,_,k,_,e,_⟩
  ·obtain⟨b,e⟩:=ma m hv;rw[e];exact Lh (q b)
  ·cases e
 |succ n ih =>
  intro m d v s Q as hk hm r q;rcases nG hk r with hv|⟨a,o,vs,m',xs,k,rfl,e,rfl,ho,hc,hd,ra,Y0⟩
  ·obtain⟨b,e⟩:=ma m hv;rw[e];exact Lh (q b)
  ·cases e;obtain⟨m,rfl⟩:∃k,m=k+1:=⟨m-1,by walk_at "om"⟩
   have ty:s.TypeIs (.ref a) "tuple":=⟨o,ho,hc⟩
   unfold hashByValue;refine K8 (wpAny_specialOf ty UA.lookup ?_);refine(show wpAny _ _ (seqItems? (.ref a) >>= _) _ _ s from K8 (Ni ho hd (K8 ?_)));rw[UU,<- P5];refine Qu _ (fun rest z s'=>z.1=none/\s'=s/\vA (fun v=>∃d bs,iu n d=true/\Ot s.heap v d bs) rest) _ ?_ ?_ _ _ ⟨rfl,rfl,o8 ra Y0⟩
   ·rintro v rest z s' ⟨_,rfl,al⟩;cases al with
    |cons p al =>
     obtain⟨d',bs,p1,p2⟩:=p;refine K8 (ih m p1 (by walk_at "om") p2 fun b=>?_);cases b with
     |true =>
      simp only[OB,LX,if_false];exact Lh ⟨rfl,rfl,al⟩
     |false =>
      simp only[Th,if_true];exact Lh (Lh (q _))
   ·rintro⟨z1,z2⟩ s' ⟨hz,rfl,_⟩;cases (show z1=none from hz);exact Lh (q _)
theorem lD(n:Nat)(h:carriedByValue v=true):ofAClassStatement n v=pure false:=by
 cases v with
 |ref a=>cases h
 |_=>unfold ofAClassStatement;rfl
theorem D_:∀(n:Nat) {d:RE} {v:La} {s:Le} {Q:Bool->Le->Prop} {as:List Addr},iu n d=true->Ot s.heap v d as->Q false s->wpAny (model prog w) A (ofAClassStatement n v) Q E s:=by
 intro n
 induction n with
 |zero =>
  intro d v s Q as hk r q;rcases nG hk r with hv|⟨_,_,_,_,_,k,_,e,_⟩
  ·rw[lD _ hv];exact Lh q
  ·cases e
 |succ n ih =>
  intro d v s Q as hk r q;rcases nG hk r with hv|⟨a,o,vs,m,xs,k,rfl,e,rfl,ho,hc,hd,ra,Y0⟩
  ·rw[lD _ hv];exact Lh q
  ·cases e;have ty:s.TypeIs (.ref a) "tuple":=⟨o,ho,hc⟩
   unfold ofAClassStatement;refine K8 (Uk ty ?_);dsimp only;rw[if_pos (by decide)];refine K8 (Lh ?_);simp only[OB,LX,if_false];refine K8 (Ni ho hd (K8 ?_));rw[<- P5];refine Qu _ (fun rest z s'=>z.1=none/\s'=s/\vA (fun v=>∃d bs,iu n d=true/\Ot s.heap v d bs) rest) _ ?_ ?_ _ _ ⟨rfl,rfl,o8 ra Y0⟩
   ·rintro v rest z s' ⟨_,rfl,al⟩;cases al with
    |cons p al =>
     obtain⟨d',bs,p1,p2⟩:=p;refine K8 (ih p1 p2 ?_);simp only[LX,if_false];exact Lh ⟨rfl,rfl,al⟩
   ·rintro⟨z1,z2⟩ s' ⟨hz,rfl,_⟩;cases (show z1=none from hz);exact Lh q
theorem seen_rd{s:Le}  {Q:Bool->Le->Prop} (hx:iu 8 dx=true) (rx:Ot s.heap x dx as) {ys:List La} (hy : ∀ y∈ys, ∃ d bs, iu 8 d=true/\Ot s.heap y d bs) (q:Q false s):wpAny (model prog w) A (searchCouldBeSeen x ys) Q E s := by
  unfold searchCouldBeSeen;refine K8 (Qu _ (fun rest z s' => z.1=none/\s'=s /\ ∀ y∈rest, ∃ d bs, iu 8 d=true/\Ot s.heap y d bs) _ ?_ ?_ _ _ ⟨rfl, rfl, hy⟩)
  · rintro y rest z s' ⟨_, rfl, al⟩
    obtain⟨d', bs, p1, p2⟩ := al y Lg;have al' : ∀ y∈rest, ∃ d bs, iu 8 d=true/\Ot s'.heap y d bs := fun u hu => al u (Lj _ hu)
    dsimp only;split
    all_goals split
    all_goals first
      |exact Lh ⟨rfl, rfl, al'⟩
      | (refine K8 (vQ 8 hx rx ?_); simp only[OB, LX, if_false]
         refine K8 (vQ 8 p1 p2 ?_); simp only[OB, LX, if_false]
         refine K8 (D_ 8 hx rx ?_); simp only[LX, if_false]
         refine K8 (D_ 8 p1 p2 ?_); simp only[LX, if_false]
         exact Lh ⟨rfl, rfl, al'⟩)
  · rintro⟨z1, z2⟩ s' ⟨hz, rfl, _⟩
    cases (show z1=none from hz);exact Lh q
end
open PySem.W (Dat kqdP kqdOk)
theorem Lain.E3{t:MG}   (L:Lain t l hs) {hashAt:Nat->Int}    {r:Option MG.Met} (hr:t.probe hashAt h p=r) (hp:p=dM t.mask n0 (st t.mask h)) (ha : ∀ (i:Nat) (h:Int), hs[i]?=some h->hashAt i=h) :
    ∃ n, n0<=n/\(∀ k, n0<=k->k<n -> ∃ i:Nat, l[i]?=some (at_ t.mask h k)/\hs[i]? ≠ some h) /\
      ((at_ t.mask h n ∉ l/\r=some (.empty (at_ t.mask h n) none)) \/
       (∃ i:Nat, l[i]?=some (at_ t.mask h n)/\hs[i]?=some h/\r=some (.candidate (at_ t.mask h n) i (dM t.mask (n + 1) (st t.mask h))))) := by
  subst hp; subst hr;exact L.search hashAt ha h n0
theorem Lain.fits{t:MG}(L:Lain t l hs){n:Nat}(e:hs.length=n):t.fits n=true:=by
 have h1:t.place.size=n:=by rw[L.place,<- e,<- L.size];simp
 have h2:t.fill<=t.mask:=by
  unfold TR;rw[L.place,L.nodum]
  have:=L.fill
  simpa using this
 simp[MG.fits,h1,h2]
def Good(d:Dat):Prop:=kqdOk 8 d=true/\iu 8 (kqdP d)=true/\∃xs,kqdP d=.tuple xs
section
variable{prog:LB}{w:LQ}{A:Mf}{E:La->Le->Prop}{s:Le}
open Classical in
theorem IR{Q:Bool->Le->Prop}(gd:Good d)(ge:Good e)(rx:Ot s.heap x (kqdP d) as)(ry:Ot s.heap y (kqdP e) bs)(hu:A.units+16<cLine)(q:Q (decide (d=e)) s):wpAny (model prog w) A (eqBool x y) Q E s:=by
 have l1:=N5 8 d gd.1;have l2:=N5 8 e ge.1;refine SeqAt.eqBoolOverData prog w A E s x y _ _ as bs Q rx ry l1.1 l2.1 ?_ (by rw[vg gd.1 ge.1];exact q)
 have:=Nat.min_le_left (kqdP d).depth (kqdP e).depth
 walk_at "om"
theorem uo(gd:Good d)(ge:Good e)(rx:Ot h x (kqdP d) as)(ry:Ot h x (kqdP e) bs):d=e:=by
 have q:=(Ot.unique rx _ _ ry).1;exact(Su 8 d e 8 gd.1 ge.1).mp (by rw[<- q];exact(Su 8 d d 8 gd.1 gd.1).mpr rfl)
def Mb(w:LQ)(h:Heap)(e:Int×La)(d:Dat):Prop:=Good d/\(∃as,Ot h e.2 (kqdP d) as)/\e.1=cD w (kqdP d)
open Classical in
theorem yI{S:Addr}{o:Obj}{d:Dat}{Q:SetFound->Le->Prop}(ho:s.heap.get? S=some o)(hd:o.data=.set es ep t)
  (L:Lain t l (es.toList.map (·.1))) (hm:∀e∈es.toList,∃d,Mb w s.heap e d) (hg:t.gaveWay=false) (gx:Good d)  (rx:Ot s.heap x (kqdP d) as) (hu:A.units+16<cLine)
  (hE:at_ t.mask (cD w (kqdP d)) nE∉l) (q1:(∃e∈es.toList,Mb w s.heap e d)->Q (.there none) s)
  (q2:∀n,at_ t.mask (cD w (kqdP d)) n∉l->(∀k,k<n->at_ t.mask (cD w (kqdP d)) k∈l)->(∀e∈es.toList,¬ Mb w s.heap e d)->Q (.free (at_ t.mask (cD w (kqdP d)) n) false) s) :
  ∀(k n0 fuel:Nat) (WD:Option MG.Probe),nE-n0=k->n0<=nE->k<fuel->WD.getD (t.probeStart (cD w (kqdP d)))=dM t.mask n0 (st t.mask (cD w (kqdP d)))->(∀j,j<n0->at_ t.mask (cD w (kqdP d)) j∈l) ->
   (∀(j i:Nat) (e:Int×La),j<n0->l[i]?=some (at_ t.mask (cD w (kqdP d)) j)->es.toList[i]?=some e->¬ Mb w s.heap e d) ->
   wpAny (model prog w) A (setSearchFrom S x (cD w (kqdP d)) true fuel WD) Q E s:=by
 have hf:t.fits es.size=true:=L.fits (by simp);intro k
 induction k using QT with
 |_ k ih =>
 intro n0 fuel WD hk hn hfu hst YY WO;obtain⟨fuel,rfl⟩:∃f,fuel=f+1:=⟨fuel-1,by walk_at "om"⟩
 unfold setSearchFrom;refine K8 (Oy ho hd hf ?_);dsimp only;rw[hg];simp only[LX,if_false];have go:=fun(f:Nat->Int) (r:Option MG.Met) (hr:t.probe f (cD w (kqdP d)) (WD.getD (t.probeStart (cD w (kqdP d))))=r)=>L.E3 (n0:=n0) hr hst
 split
 ·rename_i met hpr
  obtain⟨n,g1,g2,g3⟩:=go _ _ hpr (fun i h' e=>by
   show(es[i]?.map (·.1)).getD 0=h'
   rw[Ll,MA] at e
   rw[e];rfl)
  have hnE:n<=nE:=by
   rcases Nn nE n with z|z
   ·obtain⟨i,z1,_⟩:=g2 nE hn z;exact absurd (Li z1) hE
   ·exact z
  have X9:∀j,j<n->at_ t.mask (cD w (kqdP d)) j∈l:=by
   intro j hj;rcases Nn j n0 with z|z
   ·exact YY j z
   ·obtain⟨i,z1,_⟩:=g2 j z hj;exact Li z1
  have X_:∀(j i:Nat) (e:Int×La),j<n->l[i]?=some (at_ t.mask (cD w (kqdP d)) j)->es.toList[i]?=some e->¬ Mb w s.heap e d:=by
   intro j i e hj hi he;rcases Nn j n0 with z|z
   ·exact WO j i e z hi he
   ·obtain⟨i',z1,z2⟩:=g2 j z hj;intro mb
    have YX:i'=i:=by
     rcases NA i' i with y|y|y
     ·have:=NE.mp L.srt i' i (K_.mp z1).1 (K_.mp hi).1 y
      rw[(K_.mp z1).2,(K_.mp hi).2] at this;walk_at "om"
     ·exact y
     ·have:=NE.mp L.srt i i' (K_.mp hi).1 (K_.mp z1).1 y
      rw[(K_.mp z1).2,(K_.mp hi).2] at this;walk_at "om"
    subst YX;exact z2 (by rw[Ll,he,<- mb.2.2];rfl)
  rcases g3 with⟨y1,y2⟩|⟨i,y1,y2,y3⟩
  ·cases y2;dsimp only;refine Lh (q2 n y1 X9 fun e he mb=>?_);obtain⟨i,hi⟩:=NI.mp he;obtain⟨j,z1,z2⟩:=L.ahead y1 (i:=i) (by rw[Ll,hi,<- mb.2.2];rfl);exact X_ j i e z1 z2 hi mb
  ·cases y3;dsimp only
   obtain⟨e,he⟩:∃e,es.toList[i]?=some e:=by
    rw[Ll] at y2;cases hq:es.toList[i]? with
    |none=>rw[hq] at y2;cases y2
    |some e=>exact⟨e,rfl⟩
   have hea:es[i]?=some e:=by rw[<- MA];exact he
   obtain⟨de,mb⟩:=hm e (Li he);obtain⟨ge,⟨bs,re⟩,hh⟩:=id mb
   have seen:∀{Q':Bool->Le->Prop},Q' false s->wpAny (model prog w) A (searchCouldBeSeen x ((es.filter (·.1 == cD w (kqdP d))).toList.map (·.2))) Q' E s:=fun {Q'} q'=>by
    refine seen_rd gx.2.1 rx (fun y hy=>?_) q';obtain⟨e',h1,h2⟩:=Lm.mp hy
    obtain⟨d',m1,⟨cs,m2⟩,_⟩:=hm e' (by
     have:=Pf.mp h1
     exact Pf.mpr (Array.mem_filter.mp this).1)
    exact⟨_,cs,m1.2.1,by rw[<- h2];exact m2⟩
   obtain⟨e1,e2⟩:=e
   obtain⟨a,ea⟩:∃a,e2=.ref a:=by
    obtain⟨xs,ex⟩:=ge.2.2;have re':Ot s.heap e2 (kqdP de) bs:=re;rw[ex] at re';cases re' with
    |tuple _ _ _ _=>exact⟨_,rfl⟩
   cases ea;by_cases hl:t.led=true
   all_goals simp only[hl,OB,Th,LX,if_false,if_true]
   ·skip
    rw[hea];dsimp only;refine K8 (MJ (IR ge gx re rx hu (K8 (Oy ho hd hf ?_))));dsimp only;by_cases Xv:de=d
    ·rw[decide_eq_true Xv];exact Lh (q1 ⟨_,Li he,Xv ▸ mb⟩)
    ·rw[decide_eq_false Xv];simp only[Qj,LX,if_false];rw[show t.sameMemory t.moves t.mask=some true by simp[TH]];dsimp only;rw[if_pos rfl,gi L.place L.srt y1];dsimp only;rw[hea];dsimp only;refine K8 (SI (K8 (Lh ?_)));rw[if_pos rfl];dsimp only
     have hnn:n<nE:=by
      rcases Nn n nE with z|z
      ·exact z
      ·have:n=nE:=by walk_at "om"
       subst this;exact absurd (Li y1) hE
     refine ih (nE-(n+1)) (by walk_at "om") (n+1) fuel _ rfl hnn (by walk_at "om") rfl ?_ ?_
     ·intro j hj;rcases Nn j n with z|z
      ·exact X9 j z
      ·have:j=n:=by walk_at "om"
       subst this;exact Li y1
     ·intro j i' e' hj hi he' Zr;rcases Nn j n with z|z
      ·exact X_ j i' e' z hi he' Zr
      ·have:j=n:=by walk_at "om"
       subst this;have YX:i'=i:=by have a1:=gC L.srt hi;have a2:=gC L.srt y1;walk_at "om"
       subst YX;rw[he] at he';cases he';obtain⟨_,⟨cs,c2⟩,_⟩:=Zr;exact Xv (uo ge gx re c2)
   ·refine K8 (seen ?_);simp only[LX,if_false];rw[hea];dsimp only;refine K8 (MJ (IR ge gx re rx hu (K8 (Oy ho hd hf ?_))));dsimp only;by_cases Xv:de=d
    ·rw[decide_eq_true Xv];exact Lh (q1 ⟨_,Li he,Xv ▸ mb⟩)
    ·rw[decide_eq_false Xv];simp only[Qj,LX,if_false];rw[show t.sameMemory t.moves t.mask=some true by simp[TH]];dsimp only;rw[if_pos rfl,gi L.place L.srt y1];dsimp only;rw[hea];dsimp only;refine K8 (SI (K8 (Lh ?_)));rw[if_pos rfl];dsimp only
     have hnn:n<nE:=by
      rcases Nn n nE with z|z
      ·exact z
      ·have:n=nE:=by walk_at "om"
       subst this;exact absurd (Li y1) hE
     refine ih (nE-(n+1)) (by walk_at "om") (n+1) fuel _ rfl hnn (by walk_at "om") rfl ?_ ?_
     ·intro j hj;rcases Nn j n with z|z
      ·exact X9 j z
      ·have:j=n:=by walk_at "om"
       subst this;exact Li y1
     ·intro j i' e' hj hi he' Zr;rcases Nn j n with z|z
      ·exact X_ j i' e' z hi he' Zr
      ·have:j=n:=by walk_at "om"
       subst this;have YX:i'=i:=by have a1:=gC L.srt hi;have a2:=gC L.srt y1;walk_at "om"
       subst YX;rw[he] at he';cases he';obtain⟨_,⟨cs,c2⟩,_⟩:=Zr;exact Xv (uo ge gx re c2)
 ·rename_i hpr;exfalso;cases hq:t.probe (fun i=>(es[i]?.map (·.1)).getD 0) (cD w (kqdP d)) (WD.getD (t.probeStart (cD w (kqdP d)))) with
  |some met=>exact hpr met hq
  |none =>
   obtain⟨n,_,_,g3⟩:=go _ _ hq (fun i h' e=>by
    rw[Ll,MA] at e
    show(es[i]?.map (·.1)).getD 0=h';rw[e];rfl)
   rcases g3 with⟨_,y⟩|⟨_,_,_,y⟩ <;> cases y
end
open PySem.W (Dat kqdP kqdOk)
open Classical in
noncomputable def l7:List Dat->Nat
 |[]=>0
 |d :: ds=>l7 ds+if d∈ds then 0 else 1
noncomputable def cnt (ds:List Dat):Nat:=l7 ds.reverse
open Classical in
theorem kx(ds:List Dat)(d:Dat):cnt (ds++[d])=cnt ds+if d∈ds then 0 else 1:=by
 unfold cnt;rw[List.reverse_append];show l7 (d :: ds.reverse)=_;rw[l7];simp
theorem vj:∀ds:List Dat,l7 ds<=ds.length
 |[]=>Lf _
 |d :: ds=>by
  have:=vj ds
  rw[l7,LS];split <;> walk_at "om"
theorem l6(ds:List Dat):cnt ds<=ds.length:=by have:=vj ds.reverse;simpa[cnt] using this
theorem nP:∀ds:List Dat,l7 ds=ds.length↔ds.Nodup
 |[]=>by simp[l7]
 |d :: ds=>by
  have h1:=vj ds;have h2:=nP ds;rw[l7,LS,Mg];split
  ·rename_i h;constructor
   ·intro e;walk_at "om"
   ·intro e;exact absurd h e.1
  ·rename_i h;rw[<- h2];constructor
   ·intro e;exact⟨h,by walk_at "om"⟩
   ·intro e;walk_at "om"
theorem AV(ds:List Dat):cnt ds=ds.length↔ds.Nodup:=by
 have:=nP ds.reverse
 rw[PL,(List.reverse_perm ds).nodup_iff] at this;exact this
theorem Mb.at{h':Heap}(m:Mb w h e d)(k:∀b o,h.get? b=some o->h'.get? b=some o):Mb w h' e d:=by
 obtain⟨g,⟨as,r⟩,x⟩:=m;exact⟨g,⟨as,Tj k r⟩,x⟩
theorem Mb.uniq(m:Mb w h e d)(m':Mb w h e d'):d=d':=by
 obtain⟨g,⟨as,r⟩,_⟩:=m;obtain⟨g',⟨as',r'⟩,_⟩:=m';exact uo g g' r r'
section
variable{prog:LB}{w:LQ}{A:Mf}{E:La->Le->Prop}{s:Le}
theorem DX{h:Heap}{S:Addr}{o:Obj}(Wm:Array (Int×La))(t':MG)(e:h.get? S=some o)(hd:o.data=.set es ep t)(x:o.ExactSet) :
  ∃o',(h.update S (Rb Wm t')).get? S=some o'/\o'.ExactSet/\o'.data=.set Wm (ep+1) t':=by
 have z:Rb Wm t' o = {o with data:=.set Wm (ep+1) t'}:=putSet_of Wm t' hd;refine⟨_,MZ (Rb Wm t') e (by rw[z];rfl),?_,by rw[z]⟩;rw[z];exact x
end
open PySem.W (Dat kqdP kqdOk)
section
variable{prog:LB}{w:LQ}{A:Mf}{R:SQ->Le->Prop}{I:Addr}{fp wr:List Addr}{n:Nat}{P:Nat->La->Prop}{St:Nat->Heap->Prop}
theorem BC(W:Walks prog w A.in1 I fp wr n P St)(S:Addr)(nS:S∉fp)(Z:Nat->Heap->Prop)(zk:∀i h h',Z i h->(∀b o,b∉wr->h.get? b=some o->h'.get? b=some o)->Z i h')
  (za:∀i v (s:Le) (Q:Bool->Le->Prop) (E:La->Le->Prop),i<n->P i v->Z i s.heap->(∀r h' tk,Z (i+1) h'->(∀b,b≠S->h'.get? b=s.heap.get? b)->Q r {s with heap:=h',toks:=tk})->wpAny (model prog w) A.in1 (setAdd S v) Q E s) :
  ∀(k i:Nat) (s:Le),n-i=k->i<=n->St i s.heap->Z i s.heap->(∀h' tk,Z n h'->(∀b o,b∉S :: wr->s.heap.get? b=some o->h'.get? b=some o)->R (.ok (.ret .none)) {s with heap:=h',toks:=tk}) ->
   codeAny (model prog w) A (.builtin "set.update.loop" ⟨[.ref S,.ref I],[]⟩) R s:=by
 have nw:S∉wr:=fun h=>nS (W.sub _ h)
 intro k
 induction k with
 |zero =>
  intro i s hk hi hst hz hR;obtain rfl:i=n:=by walk_at "om"
  refine QM RY ?_;rw[Tk Qa _];refine(show wpAny _ A.in1 (pyNext (.ref I) >>= _) _ _ s from K8 (W.done s _ _ hst fun h' tk hm=>?_));refine(show wpAny _ A.in1 (ret MI) _ _ _ from Lh (hR h' tk (zk _ _ _ hz hm) fun b o hb e=>hm b o (fun z=>hb (Lj _ z)) e))
 |succ k ih =>
  intro i s hk hi hst hz hR;have VL:i<n:=by walk_at "om"
  refine QM RY ?_;rw[Tk Qa _];refine(show wpAny _ A.in1 (pyNext (.ref I) >>= _) _ _ s from K8 (W.item i s _ _ VL hst fun v h' tk hP hst' hm=>?_));refine(show wpAny _ A.in1 (holding [v] (setAdd S v) >>= _) _ _ _ from K8 (MJ (za i v _ _ _ VL hP (zk _ _ _ hz hm) fun r h2 tk2 z2 k2=>?_)));refine Lh ⟨plainId_quiet Qa _,ih (i+1) _ (by walk_at "om") VL (W.frame _ _ _ hst' fun b hb o e=>?_) z2 fun h3 tk3 z3 k3=>hR h3 tk3 z3 fun b o hb e=>?_⟩
  ·exact(k2 b fun z=>nS (z ▸ hb)).trans e
  ·refine k3 b o hb ((k2 b fun z=>hb (z ▸ Lg)).trans (hm b o (fun z=>hb (Lj _ z)) e))
end
namespace F
theorem sub_tuple_set:isSubtype (.type "tuple") (.type "set")=pure false:=by rw[isSubtype_type];kernel_rfl
theorem sub_tuple_frozenset:isSubtype (.type "tuple") (.type "frozenset")=pure false:=by rw[isSubtype_type];kernel_rfl
end F
section
variable{prog:LB}{w:LQ}{A:Mf}{E:La->Le->Prop}{s:Le}
theorem Kn.walks(k:Kn)(hh:A.handled=none)(I ax:Addr)(WO:ax≠I)(items:Array La):Walks prog w A I [I,ax] [I] items.size (fun i v=>items[i]?=some v) (fun i h=>k.it h I ax i/\k.seq h ax items):=by
 cases k
 ·exact Walks.list hh I ax WO items
 ·exact Walks.tuple hh I ax WO items
def xJ (led:Bool):Obj:={cls:=.type "set",dict:=none,data:=.set #[] 0 (.fresh 0 0 led)}
set_option maxRecDepth 100000 in
set_option maxHeartbeats 3200000 in
theorem vI(k:Kn){Q:La->Le->Prop}(hh:A.handled=none)(hl:k.seq s.heap l items)(Z:Nat->Heap->Prop)
  (z0:∀led h,h.get? s.heap.objs.size=some (xJ led)->(∀b o,s.heap.get? b=some o->h.get? b=some o)->Z 0 h) (zk:∀i h h',Z i h->(∀b o,b≠s.heap.objs.size+1->h.get? b=some o->h'.get? b=some o)->Z i h')
  (za:∀(A':Mf) i v (s':Le) (Q:Bool->Le->Prop) (E:La->Le->Prop),A'.units<=A.units+8->i<items.size->items[i]?=some v->Z i s'.heap->(∀r h' tk,Z (i+1) h'->(∀b,b≠s.heap.objs.size->h'.get? b=s'.heap.get? b)->Q r {s' with heap:=h',toks:=tk})->wpAny (model prog w) A' (setAdd s.heap.objs.size v) Q E s')
  (q:∀h' tk,Z items.size h'->(∀b o,b<s.heap.objs.size->s.heap.get? b=some o->h'.get? b=some o)->Q (.ref s.heap.objs.size) {s with heap:=h',toks:=tk}):wpAny (model prog w) A (call (.type "set") [.ref l]) Q E s:=by
 obtain⟨c,tl,Y7⟩:=OT.mro;have hmade:=OT.made;have hsub:=OT.sub;refine P2 (codeAny_of_tree ?_);show wpAny _ _ (callAny (.type "set") _) _ _ _;refine Lh ⟨P3 _ (by decide +kernel),QM F.entry_type_call ?_⟩;rw[Mf.under_plain (weight_type_call_type "set" [.ref l] []) rfl];have h1:=OT.notType;have h2:=OT.canCreate;have hct:=F.typeCall_set_1 (.ref l)
 repeat (any_goals (first|assumption|wp_step))
 refine Pu (code_set_new_1 (.ref l) (E:=E) (Q₁:=fun obj s₁=>∃led:Bool,obj=.ref s.heap.objs.size/\s₁ = {s with heap:=s.heap.push (xJ led)}) fun led=>⟨led,rfl,rfl⟩) fun r s₁ hr=>?_
 cases r with
 |error e=>exact hr
 |ok fl =>
  cases fl with
  |ret obj =>
   obtain⟨led,rfl,rfl⟩:=hr;have hS:(s.heap.push (xJ led)).get? s.heap.objs.size=some (xJ led):=LJ _ rfl;have hT:Le.TypeIs {s with heap:=s.heap.push (xJ led)} (.ref s.heap.objs.size) "set":=⟨_,hS,rfl⟩
   have hli:=OT.init.lookup;have hbi:=OT.init.bind (.ref s.heap.objs.size)
   repeat (any_goals (first|assumption|wp_step))
   refine Pu (NY (R:=wants (fun r s₂=>r=.none/\∃h' tk,s₂ = {s with heap:=h',toks:=tk}/\Z items.size h'/\(∀b o,b<s.heap.objs.size->s.heap.get? b=some o->h'.get? b=some o)) E) OT.init.plain F.entry_set_init (check_set_init_1 hT ?_)) fun r₂ s₂ Xb=>?_
   ·have VL:l<s.heap.objs.size:=k.lt hl;have Y1:k.seq (s.heap.push (xJ led)) l items:=k.EZ hl fun o e=>Lb _ e
    have nI:l≠(s.heap.push (xJ led)).objs.size:=by rw[OM];exact LA (UB VL)
    have nS:s.heap.objs.size∉[(s.heap.push (xJ led)).objs.size,l]:=by
     rw[OM];simp only[Lr,L_,or_false,not_or];exact⟨LA (Qt _),NQ VL⟩
    have fin:∀(A':Mf) (R':SQ->Le->Prop),A'.in1.handled=none->A'.in1.units<=A.units+8->(∀h' tk,Z items.size h'->(∀b o,b<s.heap.objs.size->s.heap.get? b=some o->h'.get? b=some o)->R' (.ok (.ret .none)) {s with heap:=h',toks:=tk}) ->
      codeAny (model prog w) A' (.builtin "set.update.loop" ⟨[.ref s.heap.objs.size,.ref (s.heap.push (xJ led)).objs.size],[]⟩) R' {s with heap:=(s.heap.push (xJ led)).push (k.obj l)}:=by
     intro A' R' ha hu hR;refine BC (k.walks ha _ l nI items) s.heap.objs.size nS Z (fun i h h' z kp=>zk i h h' z fun b o hb e=>kp b o (by rw[OM];simpa using hb) e) (fun i v s' Q' E' hi hv hz hq=>za _ i v s' Q' E' hu hi hv hz hq) (items.size-0) 0 _ rfl (Ml _) ⟨k.it0 _ l,k.EZ Y1 fun o e=>Lb _ e⟩ (z0 led _ (Lb _ hS) fun b o e=>Lb _ (Lb _ e)) fun h' tk z kp=>hR h' tk z fun b o hb e=>kp b o ?_ (Lb _ (Lb _ e))
     rw[OM];simp only[Lr,L_,or_false,not_or];exact⟨LA hb,LA (UB hb)⟩
    cases k
    ·have WN:(s.heap.push (xJ led)).IsList l items:=Y1;obtain⟨ol,hol,Xu,nl,YV⟩:=Y1;obtain⟨ocls,ZB,Zz,Yl⟩:=ol;simp only at Xu YV;subst Xu;subst YV;have hsls:=F.sub_list_set;have hslf:=F.sub_list_frozenset;have WO:(OP "list" == OP "dict")=false:=by decide
     unfold Og.«set.__init__» noKeywords QU;generalize hPI:pyIter=PI;wp_walk;subst hPI;refine Kn.iter .L WN (K8 (wpAny_runValue (fin _ _ (by simp[hh]) (by simp) fun h' tk z kp=>?_)));refine(show wpAny _ _ _ _ _ _ from Lh (show wpAny _ _ (ret MI) _ _ _ from Lh ⟨rfl,h',tk,rfl,z,kp⟩))
    ·have WN:(s.heap.push (xJ led)).IsTuple l items:=Y1;obtain⟨ol,hol,Xu,nl,YV⟩:=Y1;obtain⟨ocls,ZB,Zz,Yl⟩:=ol;simp only at Xu YV;subst Xu;subst YV;have hsls:=F.sub_tuple_set;have hslf:=F.sub_tuple_frozenset;have WO:(OP "tuple" == OP "dict")=false:=by decide
     unfold Og.«set.__init__» noKeywords QU;generalize hPI:pyIter=PI;wp_walk;subst hPI;refine Kn.iter .T WN (K8 (wpAny_runValue (fin _ _ (by simp[hh]) (by simp) fun h' tk z kp=>?_)));refine(show wpAny _ _ _ _ _ _ from Lh (show wpAny _ _ (ret MI) _ _ _ from Lh ⟨rfl,h',tk,rfl,z,kp⟩))
   ·cases r₂ with
    |error e=>exact Xb
    |ok YL =>
     cases YL with
     |ret r =>
      obtain⟨rfl,h',tk,rfl,hz,Xw⟩:=Xb
      repeat (any_goals (first|assumption|wp_step))
      exact q _ _ hz Xw
     |_=>exact Xb.elim
  |_=>exact hr.elim
end
open PySem.W (Dat kqdP kqdOk)
def Ji(h:Heap)(S:Addr)(n:Nat):Prop:=∃o es ep t,h.get? S=some o/\o.ExactSet/\o.data=.set es ep t/\t.fits es.size=true/\es.size=n
def GO(X:Cx)(r:V->Hp->(Nat->Hp->Prop)->Prop):Prop :=
 ∀(pins:List (Addr×Obj)) (s:Le) (σ:St) (H:Hp) (x:V) (u:La) (Q:Nat->Hp->Prop),Inv X pins σ H s->RelV x u->r x H Q ->
  wpAny (model X.prog X.w) X.A (call (.type "set") [u]) (fun v s'=>∃S n,v=.ref S/\Ji s'.heap S n/\Inv X pins σ H s'/\Q n H) X.xe s
theorem FN(h:Heap):h.get? h.objs.size=none:=by
 cases e:h.get? h.objs.size with
 |none=>rfl
 |some o=>exact absurd (Ls e) (N9 _)
def Ht(K:Fg):V->Hp->(Nat->Hp->Prop)->Prop:=fun x H Q=>∃(k:Kn) (a:Addr) (ns:List Str),x=.ref a/\Kn.sq k K H a (ns.map V.str)/\ns.length<4000/\Q (cnt (ns.map Mu)) H
theorem yD{X:Cx}(hc:X.calm=true):GO X (Ht X.K):=by
 intro pins s σ H x u Q I r h;obtain⟨k,a,ns,rfl,q1,hl,q⟩:=h;cases r;obtain⟨gV,rv,sq⟩:=k.inv I q1;have Yh:gV.length=ns.length:=by have:=N8 rv;simpa using this.symm
 have rd:∀(i:Nat) (v:La),gV.toArray[i]?=some v->∃y t,ns[i]?=some y/\v=.str y t:=by
  intro i v hv;rw[SJ] at hv;obtain⟨hi,e⟩:=K_.mp hv;have hx:i<ns.length:=by walk_at "om"
  obtain⟨v',e1,rl⟩:=rv.get (i:=i) (x:=.str ns[i]) (by rw[Ll,Ld hx];rfl);rw[hv] at e1;cases e1;obtain⟨t,et⟩:=(show ∃t,v=Q2 ns[i] t from rl)
  exact⟨_,t,Ld hx,et⟩
 refine vI k (I.ok.hd hc) sq (fun i h=>(∀b o,s.heap.get? b=some o->h.get? b=some o)/\h.SetOf (strKind X.prog X.w) s.heap.objs.size (fun y=>decide (y∈ns.take i)) (cnt ((ns.take i).map Mu))) ?_ ?_ ?_ ?_
 ·intro led h g kp;refine⟨kp,_,#[],0,.fresh 0 0 led,g,⟨rfl,rfl,rfl⟩,rfl,fun e he=>absurd he (by simp),fun y=>?_,by decide,by rfl,?_⟩
  ·simp
  ·simp[cnt,l7]
 ·rintro i h h' ⟨k0,o,es,ep,t,ho,rest⟩ kp;refine⟨fun b ob hb=>kp b ob (fun z=>?_) (k0 b ob hb),o,es,ep,t,kp _ _ (LA (Qt _)) ho,rest⟩
  have:=Ls hb
  rw[z] at this;exact absurd this (Nat.not_lt.mpr (Pl _))
 ·intro A' i v s' Q' E' hA hi hv hz hq;obtain⟨y,t,d1,rfl⟩:=rd i v hv;have ht:ns.take (i+1)=ns.take i++[y]:=by rw[LV,d1];rfl
  have his:(strKind X.prog X.w).is y (.str y t)=true:=strKind_is X.prog X.w y t;unfold setAdd;refine MJ (K8 ((strKind X.prog X.w).pyHash (k:=y) his ?_));have Xu:=l6 ((ns.take i).map Mu);rw[K9,LK] at Xu;refine wpAny_setAddHashed_of (knd:=strKind X.prog X.w) (s:={s' with toks:=s'.toks+1}) his rfl hz.2 (by unfold scanBound;walk_at "om") fun h' sb z=>hq _ h' _ ⟨fun b o e=>?_,?_⟩ fun b hb=>sb.2 b hb
  ·have hb:b≠s.heap.objs.size:=LA (Ls e);rw[sb.2 b hb];exact hz.1 b o e
  ·refine SetOf_congr z (fun y'=>?_) ?_
   ·rw[ht];simp[L5]
   ·rw[ht,Lq,LP,Os,kx];have hm:(Mu y∈(ns.take i).map Mu)↔y∈ns.take i:=⟨fun z=>by obtain⟨y',h1,h2⟩:=Lm.mp z;cases h2;exact h1,fun z=>Lm.mpr ⟨y,z,rfl⟩⟩
    by_cases g:y∈ns.take i
    ·rw[if_pos (hm.mpr g),decide_eq_true g];rfl
    ·rw[if_neg (fun z=>g (hm.mp z)),decide_eq_false g];rfl
 ·intro h' tk z kp;have ez:ns.take gV.toArray.size=ns:=by rw[LM,Yh,PB]
  rw[ez] at z;obtain⟨k0,o,es,ep,t,ho,hx,hd,_,_,_,hf,c⟩:=z;exact⟨_,_,rfl,⟨o,es,ep,t,ho,hx,hd,hf,c⟩,I.kept (t':=tk) k0,q⟩
def jc(r:V->Hp->(Nat->Hp->Prop)->Prop)(te:TE):TE:=fun σ H Q=>te σ H fun x H1=>r x H1 fun n H2=>(n:Int)<2 ^ 63/\Q (.int n) H2
theorem IZ:bootBuiltins "set"=some (.type "set"):=by decide +kernel
theorem iO{p p2 pos Xg:Pos} (hr:GO X r) (hgl:Gl X "len") (hml:X.mg "len"=none) (hgs:Gl X "set") (hms:X.mg "set"=none) (he:PE X e te)
  (hs:starEach [e] X.env=[(false,eval e X.env)]:=by rfl) (hs2:starEach [Expr.Call (.Name "set" p2) [e] [] Xg] X.env=[(false,eval (.Call (.Name "set" p2) [e] [] Xg) X.env)]:=by rfl) :
  PE X (.Call (.Name "len" p) [.Call (.Name "set" p2) [e] [] Xg] [] pos) (jc r te):=by
 intro pins s σ H Q I h;refine Nq (g_ I hgl hml bL ?_);refine NM ?_ hs2 rfl;rw[hs2];refine(show wpAny _ _ (spliced ((false,eval (.Call (.Name "set" p2) [e] [] Xg) X.env) :: backTo pos [])) _ _ s from M4 ?_);refine Nq (g_ I hgs hms IZ ?_);refine M1 ?_ hs rfl;rw[hs];refine(show wpAny _ _ (spliced ((false,eval e X.env) :: backTo Xg [])) _ _ s from M4 (bQ (he pins s σ H _ I h) fun u s1 ⟨x,H1,I1,r1,q1⟩=>Op ?_));refine bQ (hr pins s1 σ H1 x u _ I1 r1 q1) fun v s2 ⟨S,n,ev,sz,I2,z,q2⟩=>Op ?_
 obtain⟨o,es,ep,t,ho,hx,hd,hf,c⟩:=sz;cases ev;refine PySem.call_len_set ho hx hd hf (by rw[c];exact z) ⟨.int n,H1,I2.kept (t':=s2.toks+1+1) (fun _ _ z=>z),⟨_,by rw[c]⟩,q2⟩
open PySem PySem.Spec PyProof.Rows PySem.SetTable
open PySem.W (Dat kqdP kqdOk)
def Jx(m:Nat):Nat->Nat->List Nat
 |0,_=>[]
 |n+1,i=>i :: Jx m n ((i*5+1) % (m+1))
theorem Ed(m:Nat):∀(n i k:Nat),k<n->(Jx m n i)[k]?=some (lc m k i)
 |0,_,_,h=>absurd h (QR _)
 |n+1,i,0,_=>rfl
 |n+1,i,k+1,h=>Ed m n _ k (by walk_at "om")
theorem zL(m:Nat):∀(n i:Nat),(Jx m n i).length=n
 |0,_=>rfl
 |n+1,i=>congrArg Nat.succ (zL m n _)
theorem C8{m:Nat}(h:((Mo (m+1)).all fun j=>(Jx m (m+1) 0).contains j)=true)(h0:lc m (m+1) 0=0):j4 m:=by
 have hit:∀j,j<m+1->∃a,a<m+1/\lc m a 0=j:=fun j hj=>by
  have q:=Mp.mp h j (Nt.mpr hj);obtain⟨a,ha⟩:=NI.mp (List.elem_iff.mp q);have la:a<m+1:=by have:=(K_.mp ha).1;rw[zL] at this;exact this
  rw[Ed m _ _ _ la] at ha;exact⟨a,la,LD ha⟩
 intro i hi j hj;obtain⟨a,la,ea⟩:=hit i hi;obtain⟨b,lb,eb⟩:=hit j hj;by_cases z:a<=b
 ·exact⟨b-a,by walk_at "om",by rw[<- ea,<- wc,show a+(b-a)=b by walk_at "om"];exact eb⟩
 ·exact⟨m+1+b-a,by walk_at "om",by rw[<- ea,<- wc,show a+(m+1+b-a)=m+1+b by walk_at "om",wc,h0];exact eb⟩
theorem Gs:j4 127:=C8 (by decide +kernel) (by decide +kernel)
def Ex(t:MG)(n:Nat):Prop:=(t.mask=7/\n<=4)\/(t.mask=31/\n<=18)\/(t.mask=127/\n<=76)
def GN(w:LQ)(h0:Heap)(S:Addr)(ds:List Dat)(h:Heap):Prop:=(∀b o,h0.get? b=some o->h.get? b=some o)/\h0.get? S=none/\∃o es ep t l,h.get? S=some o/\o.ExactSet/\o.data=.set es ep t/\Lain t l (es.toList.map (·.1))/\Ex t l.length /\
 (∀e∈es.toList,∃d∈ds,Mb w h0 e d)/\(∀d∈ds,∃e∈es.toList,Mb w h0 e d)/\es.size=cnt ds
section
variable{prog:LB}{w:LQ}{A:Mf}{E:La->Le->Prop}{s:Le}
theorem yO{S:Addr}{o:Obj}{Q:Unit->Le->Prop}(ho:s.heap.get? S=some o)(hd:o.data=.set es ep t)(L:Lain t l (es.toList.map (·.1))){mk:Nat}(hn:P6 n-1=mk)(hsz:P6 n<=128)(hF:j4 mk)(he:es.size<mk)
  (q:∀Wm t' l',Lain t' l' (Wm.toList.map (·.1))->t'.mask=mk->Wm.size=es.size->(∀e,e∈Wm.toList↔e∈es.toList)->Q () {s with heap:=s.heap.update S (Rb Wm t')}) :
  wpAny (model prog w) A (setRelay S n) Q E s:=by
 have hf:t.fits es.size=true:=L.fits (by simp);unfold setRelay;refine K8 (Oy ho hd hf ?_);dsimp only;rw[if_neg (by rw[Rn];walk_at "om")];obtain⟨t',l',ws,e1,L',w1,w2,w3,e2,_,_⟩:=zU hF (es.toList.map (·.1)) (by simp;walk_at "om") t.finger (t.movedTo mk) t.led t.plain
 have e3:t.relaid (es.map (·.1)) n=some (t',ws.toArray):=by
  unfold MG.relaid;rw[hn,<- e1];congr 1;apply Array.ext';simp
 rw[e3];have ef:(ws.toArray.filterMap (es[·]?)).toList=ws.filterMap (es.toList[·]?):=by simp
 have len:(ws.filterMap (es.toList[·]?)).length=ws.length:=by
  clear e1 L' w2 w3 e3 ef
  induction ws with
  |nil=>rfl
  |cons v ws ih =>
   have hv:=w1 v Lg;rw[K9] at hv;rw[MC,Ld hv];simp only[LS];rw[ih fun u hu=>w1 u (Lj _ hu)]
 have maps:(ws.filterMap (es.toList[·]?)).map (·.1)=ws.map ((es.toList.map (·.1)).getD · 0):=by
  clear e1 L' w2 w3 e3 ef len
  induction ws with
  |nil=>rfl
  |cons v ws ih =>
   have hv:=w1 v Lg;rw[K9] at hv;rw[MC,Ld hv];simp only[LP];rw[ih fun u hu=>w1 u (Lj _ hu)];congr 1;rw[Mz,Ll,Ld hv];rfl
 have sz:(ws.toArray.filterMap (es[·]?)).size=es.size:=by
  rw[<- Mv,ef,len,w3];simp
 refine K8 ?_;show wpAny _ _ (if ((ws.toArray.filterMap (es[·]?)).size != es.size)=true then _ else pure (ws.toArray.filterMap (es[·]?),t')) _ _ _;rw[if_neg (by rw[sz];simp)];refine Lh ?_;refine wpAny_storeSet_of ho hd ?_ (by rw[sz,Rn];walk_at "om");refine q _ t' l' (by rw[ef,maps];exact L') e2 sz fun e=>?_
 rw[ef,MS];constructor
 ·rintro⟨v,_,h2⟩;exact Li h2
 ·intro h;obtain⟨v,hv⟩:=NI.mp h;refine⟨v,w2 v ?_,hv⟩;rw[K9];exact(K_.mp hv).1
open Classical in
theorem GM{Q:Bool->Le->Prop}(Z:GN w h0 S ds s.heap)(gx:Good d)(rx:Ot h0 x (kqdP d) as)(hu:A.units+16<cLine)(hn:ds.length<76)
  (q:∀b h' tk,GN w h0 S (ds++[d]) h'->(∀b,b≠S->h'.get? b=s.heap.get? b)->Q b {s with heap:=h',toks:=tk}) :
  wpAny (model prog w) A (setAdd S x) Q E s:=by
 obtain⟨k0,YO,o,es,ep,t,l,ho,hx,hd,L,R,m1,m2,c⟩:=Z;have hl:l.length=es.size:=by rw[L.size];simp
 have hle:es.size<=ds.length:=by rw[c];exact l6 ds
 unfold setAdd;refine MJ (K8 (Ay 8 _ x A s _ as gx.2.1 (Tj k0 rx) (by walk_at "om") fun tk=>?_));unfold setAddHashed;refine MJ ?_;unfold setAddHashedIn;have hf:t.fits es.size=true:=L.fits (by simp);refine K8 (Oy (s:={s with toks:=tk}) ho hd hf ?_);dsimp only
 have nos:byScan x es=false:=by
  obtain⟨xs,ex⟩:=gx.2.2;rw[ex] at rx;cases rx with
  |tuple _ _ _ _=>rfl
 rw[nos];simp only[LX,if_false]
 have hg:t.gaveWay=false:=by
  unfold MG.gaveWay;rcases R with⟨e,_⟩|⟨e,_⟩|⟨e,_⟩ <;> rw[e] <;> decide
 obtain⟨j,hj,hjl⟩:=qH L.fill;obtain⟨nE,hE1,hE2⟩:=IG L.full (p:=st t.mask (cD w (kqdP d))) (yj _ _) (jd _ _) hj;have hE:at_ t.mask (cD w (kqdP d)) nE∉l:=by unfold at_;rw[hE2];exact hjl
 have hmask:t.mask<=127:=by rcases R with⟨e,_⟩|⟨e,_⟩|⟨e,_⟩ <;> walk_at "om"
 have mbs:∀e∈es.toList,∃d,Mb w ({s with toks:=tk}:Le).heap e d:=fun e he=>by
  obtain⟨d',_,m⟩:=m1 e he;exact⟨d',m.at k0⟩
 have new:∀{e:Int×La},e∈es.toList->(Mb w s.heap e d↔Mb w h0 e d):=fun {e} he=>by
  obtain⟨d',_,m⟩:=m1 e he;constructor
  ·intro z
   have:=z.uniq (m.at k0)
   rw[this];exact m
  ·intro z;exact z.at k0
 unfold setSearch;refine K8 (yI (s:={s with toks:=tk}) ho hd L mbs hg gx (Tj k0 rx) hu hE ?_ ?_ (nE-0) 0 100000 none rfl (Ml _) (by unfold MG.turns at hE1;walk_at "om") rfl (fun j hj=>absurd hj (by walk_at "om")) (fun j i e hj=>absurd hj (by walk_at "om")))
 ·rintro⟨e,he,mb⟩;dsimp only;refine Lh (q _ s.heap tk ⟨k0,YO,o,es,ep,t,l,ho,hx,hd,L,R,?_,?_,?_⟩ fun _ _=>rfl)
  ·intro e' he';obtain⟨d',h1,h2⟩:=m1 e' he';exact⟨d',MP _ h1,h2⟩
  ·intro d' W9;rcases L5.mp W9 with h1|h1
   ·exact m2 d' h1
   ·cases Lw.mp h1;exact⟨e,he,(new he).mp mb⟩
  ·obtain⟨d',h1,h2⟩:=m1 e he
   have:d'=d:=h2.uniq ((new he).mp mb)
   subst this;rw[kx,if_pos h1,c];rfl
 ·intro n n1 n2 n3;dsimp only;refine K8 (Oy (s:={s with toks:=tk}) ho hd hf ?_);dsimp only;obtain⟨p,p1,p2,L2',p3,p4,p5,p6⟩:=L.put n1 n2 (by rcases R with⟨e,_⟩|⟨e,_⟩|⟨e,_⟩ <;> walk_at "om")
  have dn:d∉ds:=fun z=>by
   obtain⟨e,he,mb⟩:=m2 d z;exact n3 e he ((new he).mpr mb)
  have hsr:∀(h':Heap) (Wm:Array (Int×La)) (t':MG) (l':List Nat) (o':Obj) (X2 ZV:Nat),(∀b,b≠S->h'.get? b=s.heap.get? b)->h'.get? S=some o'->o'.ExactSet->o'.data=.set Wm X2 t'->Lain t' l' (Wm.toList.map (·.1))->Ex t' l'.length->Wm.size=es.size+1 ->
    (∀e,e∈Wm.toList↔e=(cD w (kqdP d),x)\/e∈es.toList)->Q true {s with heap:=h',toks:=ZV}:=by
   intro h' Wm t' l' o' X2 ZV r1 r2 r3 r4 r5 r6 r7 r8;refine q _ h' ZV ⟨fun b ob hb=>?_,YO,o',Wm,X2,t',l',r2,r3,r4,r5,r6,?_,?_,?_⟩ r1
   ·rw[r1 b (fun z=>by rw[z,YO] at hb;cases hb)];exact k0 b ob hb
   ·intro e he;rcases (r8 e).mp he with rfl|he
    ·exact⟨d,LH _ Lg,gx,⟨as,rx⟩,rfl⟩
    ·obtain⟨d',h1,h2⟩:=m1 e he;exact⟨d',MP _ h1,h2⟩
   ·intro d' W9;rcases L5.mp W9 with h1|h1
    ·obtain⟨e,he,mb⟩:=m2 d' h1;exact⟨e,(r8 e).mpr (.inr he),mb⟩
    ·cases Lw.mp h1;exact⟨_,(r8 _).mpr (.inl rfl),gx,⟨as,rx⟩,rfl⟩
   ·rw[kx,if_neg dn,r7,c]
  have esl:NB es p (cD w (kqdP d),x)=(es.toList.take p++(cD w (kqdP d),x) :: es.toList.drop p).toArray:=by
   have:=iX es.toList p (cD w (kqdP d),x) (by simp;walk_at "om")
   simpa using this
  have tail:∀(t1:MG),Lain t1 (l.take p++at_ t.mask (cD w (kqdP d)) n :: l.drop p) ((es.toList.map (·.1)).take p++cD w (kqdP d) :: (es.toList.map (·.1)).drop p)->t1.mask=t.mask ->
    wpAny (model prog w) A (do
     storeSet S (NB es p (cD w (kqdP d),x)) t1
     if (!false && t1.tooFull)=true then do
      setRelay S (Rc (es.size+1))
      pure true
     else pure true) Q E {s with toks:=tk}:=by
   intro t1 L1 Y5;have L1':Lain t1 (l.take p++at_ t.mask (cD w (kqdP d)) n :: l.drop p) ((NB es p (cD w (kqdP d),x)).toList.map (·.1)):=by rw[esl];simpa using L1
   have szi:(NB es p (cD w (kqdP d),x)).size=es.size+1:=by rw[esl];simp;walk_at "om"
   have mem:∀e,e∈(NB es p (cD w (kqdP d),x)).toList↔e=(cD w (kqdP d),x)\/e∈es.toList:=fun e=>by rw[esl];exact lF
   have ll:(l.take p++at_ t.mask (cD w (kqdP d)) n :: l.drop p).length=es.size+1:=by simp;walk_at "om"
   obtain⟨o1,u1,u2,u3⟩:=DX (NB es p (cD w (kqdP d),x)) t1 ho hd hx;refine K8 (wpAny_storeSet_of (s:={s with toks:=tk}) ho hd ?_ (by rw[szi,Rn];walk_at "om"));by_cases tf:t1.tooFull=true
   ·rw[tf];simp only[Th,Bool.and_self,if_true]
    have h5:es.size=4\/es.size=18:=by
     unfold UV TR at tf;rw[L1'.place,L1'.nodum,Y5] at tf;have Yp:=of_decide_eq_true tf;rw[LM,ll] at Yp;rcases R with⟨e,e'⟩|⟨e,e'⟩|⟨e,e'⟩
     ·rw[e] at Yp;simp at Yp;exact .inl (by walk_at "om")
     ·rw[e] at Yp;simp at Yp;exact .inr (by walk_at "om")
     ·rw[e] at Yp;simp at Yp;walk_at "om"
    have go:∀mk,P6 (Rc (es.size+1))-1=mk->P6 (Rc (es.size+1))<=128->j4 mk->es.size+1<mk->((mk=31/\es.size+1<=18)\/(mk=127/\es.size+1<=76))->wpAny (model prog w) A (do
      setRelay S (Rc (es.size+1))
      pure true) Q E {s with toks:=tk,heap:=s.heap.update S (Rb (NB es p (cD w (kqdP d),x)) t1)}:=by
     intro mk e1 e2 e3 e4 e5;refine K8 (yO (s:={s with toks:=tk,heap:=s.heap.update S (Rb (NB es p (cD w (kqdP d),x)) t1)}) u1 u3 L1' e1 e2 e3 (by rw[szi];exact e4) fun es2 t2 l2 L2 v1 v2 v3=>?_);obtain⟨o2,w1,w2,w3⟩:=DX es2 t2 u1 u3 u2;refine Lh (hsr _ es2 t2 l2 o2 _ tk (fun b hb=>?_) w1 w2 w3 L2 (.inr ?_) (by rw[v2,szi]) fun e=>(v3 e).trans (mem e))
     ·rw[Mw _ _ (Nd hb),Mw _ _ (Nd hb)]
     ·have:l2.length=es.size+1:=by rw[L2.size];simp;walk_at "om"
      rw[this,v1];exact e5
    rcases h5 with h5|h5
    ·exact go 31 (by rw[h5];decide) (by rw[h5];decide) IM (by walk_at "om") (.inl ⟨rfl,by walk_at "om"⟩)
    ·exact go 127 (by rw[h5];decide) (by rw[h5];decide) Gs (by walk_at "om") (.inr ⟨rfl,by walk_at "om"⟩)
   ·rw[O_.mpr tf];simp only[Qj,LX,if_false];refine Lh (hsr _ _ t1 _ o1 _ tk (fun b hb=>Mw _ _ (Nd hb)) u1 u2 u3 L1' ?_ szi mem);rw[ll];unfold UV TR at tf;rw[L1'.place,L1'.nodum,Y5,LM,ll] at tf;rcases R with⟨e,e'⟩|⟨e,e'⟩|⟨e,e'⟩
    ·refine .inl ⟨Y5.trans e,?_⟩;rw[e] at tf;simp at tf;walk_at "om"
    ·refine .inr (.inl ⟨Y5.trans e,?_⟩);rw[e] at tf;simp at tf;walk_at "om"
    ·exact .inr (.inr ⟨Y5.trans e,by walk_at "om"⟩)
  rw[p2];split
  ·refine K8 (IH 8 8 (s:={s with toks:=tk}) gx.2.1 (Lf _) (Tj k0 rx) fun b=>?_);cases b
   ·exact tail _ (L2'.plain false) p3
   ·exact tail _ L2' p3
  ·exact K8 (Lh (tail _ L2' p3))
end
def Cc(K:Fg):V->Hp->(Nat->Hp->Prop)->Prop:=fun x H Q=>∃k a xs ds,x=.ref a/\Kn.sq k K H a xs/\RepL K H xs ds/\(∀d∈ds,Good d)/\ds.length<76/\Q (cnt ds) H
theorem ic{X:Cx}(hc:X.calm=true)(hu:X.A.units+64<cLine):GO X (Cc X.K):=by
 intro pins s σ H x u Q I r h;obtain⟨k,a,xs,ds,rfl,q1,q2,gd,hl,q⟩:=h;cases r;obtain⟨gV,rv,sq⟩:=k.inv I q1;have Yh:gV.length=ds.length:=by rw[<- N8 rv];exact q2.length
 have rd:∀(i:Nat) (v:La),gV.toArray[i]?=some v->∃d as,ds[i]?=some d/\Ot s.heap v (kqdP d) as:=by
  intro i v hv;rw[SJ] at hv;obtain⟨hi,e⟩:=K_.mp hv;have hx:i<xs.length:=by rw[N8 rv];exact hi
  obtain⟨v',e1,rl⟩:=rv.get (Ld hx);obtain⟨d,d1,d2⟩:=RepL.get q2 (Ld hx);obtain⟨as,p⟩:=Rep.reads I d2 rl;rw[hv] at e1;cases e1;exact⟨d,as,d1,p⟩
 have YO:=FN s.heap;refine vI k (I.ok.hd hc) sq (fun i h=>GN X.w s.heap s.heap.objs.size (ds.take i) h) ?_ ?_ ?_ ?_
 ·intro led h g kp;refine⟨kp,YO,_,#[],0,.fresh 0 0 led,[],g,⟨rfl,rfl,rfl⟩,rfl,Lain.fresh 0 0 led,.inl ⟨rfl,Ml _⟩,fun e he=>absurd he (by simp),fun d hd=>absurd hd (by simp),?_⟩;simp[cnt,l7]
 ·rintro i h h' ⟨k0,k1,o,es,ep,t,l,ho,rest⟩ kp;refine⟨fun b ob hb=>kp b ob (fun z=>?_) (k0 b ob hb),k1,o,es,ep,t,l,kp _ _ (LA (Qt _)) ho,rest⟩
  have:=Ls hb
  rw[z] at this;exact absurd this (Nat.not_lt.mpr (Pl _))
 ·intro A' i v s' Q' E' hA hi hv hz hq;obtain⟨d,as,d1,d2⟩:=rd i v hv;have ht:ds.take (i+1)=ds.take i++[d]:=by rw[LV,d1];rfl
  refine GM (prog:=X.prog) hz (gd d (Li d1)) d2 (by walk_at "om") (by rw[LK];walk_at "om") fun b h' tk z kp=>hq b h' tk (by rw[ht];exact z) kp
 ·intro h' tk z kp;have ez:ds.take gV.toArray.size=ds:=by rw[LM,Yh,PB]
  rw[ez] at z;obtain⟨k0,_,o,es,ep,t,l,ho,hx,hd,L,_,_,_,c⟩:=z;exact⟨_,cnt ds,rfl,⟨o,es,ep,t,ho,hx,hd,L.fits (by simp),c⟩,I.kept (t':=tk) k0,q⟩
def JC(K:Fg)(a:Addr):It :=
 ⟨fun i H=>∃xs,SqL K H a xs/\i<xs.length,fun i H v H'=>∃T x,H T=none/\v=.ref T/\H'=upd H T (.tup [.int i,x])/\∀xs,SqL K H a xs->xs[i]?=some x,fun i H=>∃xs,SqL K H a xs/\xs.length<=i⟩
theorem xL{K:Fg}{x1}{pos:Pos}{a e it:Addr}(n1:e≠it)(n2:a≠it) :
  qq P w K (.Tuple elts x1 pos) (JC K a) [e,it] e (fun i h=>(∃old,IsEnum h e it (i:Int) old)/\h.IsListIter it a i) where
 mem:=by simp
 obj:=fun i h ⟨⟨old,he⟩,t⟩ c hc=>by
  simp only[Lr,L_,or_false] at hc;rcases hc with rfl|rfl
  ·exact⟨_,he,fun v q=>by cases (show U1 _=Tt v from q)⟩
  ·obtain⟨o,ho,_,d⟩:=t;exact⟨o,ho,fun v q=>by rw[d] at q;cases q⟩
 keep:=fun i h h' ⟨⟨old,he⟩,t⟩ kp=>⟨⟨old,kp e (by simp) _ he⟩,t.at fun o z=>kp it (by simp) o z⟩
 item:=by
  intro X hP hw hK hc i pins s σ H E I hf ⟨⟨old,he⟩,t⟩ hg;subst hP hw hK;obtain⟨xs,q1,l1⟩:=hg;obtain⟨gV,r1,p,_⟩:=I.list q1;obtain⟨u1,e1,ZL⟩:=r1.get (Ld l1);refine wpAny_pyNext_enum_item he t p.isList (x:=u1) (by simpa using e1) n1 fun h' he' t' hT sz all=>⟨_,rfl,?_⟩
  refine wpAny_letOwnedTupleGo_enum (s:={s with heap:=h',toks:=s.toks+1}) he' fun h2 he2 sb=>?_
  have Wo:H s.heap.objs.size=none:=I.hok.fresh (Lf _)
  have nT:∀c∈[e,it],c≠s.heap.objs.size:=fun c V9=>by
   simp only[Lr,L_,or_false] at V9;rcases V9 with rfl|rfl
   ·exact LA (Ls he)
   ·obtain⟨o,ho,_⟩:=t;exact LA (Ls ho)
  have I1:Inv X pins σ (upd H s.heap.objs.size (.tup [.int i,xs[i]])) {s with heap:=s.heap.push {cls:=.type "tuple",data:=.seq #[.int i s.toks,u1]}} :=
   I.laid (t':=s.toks) (fun b u z=>Lb _ z) (Lf _) ⟨bG,[.int i s.toks,u1],.cons ⟨_,rfl⟩ (.cons ZL .nil),TupD.new _ _⟩
  have I2:Inv X pins σ (upd H s.heap.objs.size (.tup [.int i,xs[i]])) {s with heap:=h2,toks:=s.toks+1}:=Inv.oz (s:={s with heap:=s.heap.push {cls:=.type "tuple",data:=.seq #[.int i s.toks,u1]}}) (t':=s.toks+1) (fp:=[e,it]) I1 (fun c o V9 z=>by
   have c1:c≠e:=fun x=>V9 (by simp[x])
   have c2:c≠it:=fun x=>V9 (by simp[x])
   rcases S_ z with⟨ec,eo⟩|z
   ·rw[ec,eo];exact sb.extBut _ _ (nT e (by simp)).symm hT
   ·exact sb.extBut _ _ c1 (all c o c1 c2 z)) fun c V9=>⟨by rw[bf (nT c V9)];exact(hf c V9).1,(hf c V9).2⟩
  exact⟨.ref s.heap.objs.size,_,I2,rfl,⟨s.heap.objs.size,xs[i],Wo,rfl,rfl,fun zs hz=>by rw[I.pM hz q1,Ld l1]⟩,⟨⟨_,he2⟩,t'.at fun o z=>sb.extBut _ _ n1.symm z⟩,fun c V9=>by rw[bf (nT c V9)];exact(hf c V9).1⟩
 done:=by
  intro X hP hw hK hc i pins s σ H E I hf ⟨⟨old,he⟩,t⟩ hg;subst hP hw hK;obtain⟨xs,q1,le⟩:=hg;obtain⟨gV,r1,p,_⟩:=I.list q1;have e1:=r1.length;exact wpAny_pyNext_enum_end (I.ok.hd hc) he t p.isList (by simp;walk_at "om") fun h' all=>⟨rfl,I.oz (t':=s.toks) (fun c o V9 z=>all c o (fun x=>V9 (by simp[x])) z) hf⟩
 self:=fun _ _ _ _ _ st q=>let ⟨⟨_,he⟩,_⟩:=st;wpAny_pyIter_enum he q
def Gn(K:Fg)(ta:TA):TI:=fun σ H R=>ta σ H fun vs H1=>∃a xs,vs=[.ref a]/\SqL K H1 a xs/\R (JC K a) H1
theorem sG:bootBuiltins "enumerate"=some (.type "enumerate"):=by decide +kernel
section
variable{X:Cx}
theorem FC{x:Expr} {ta:TA}  {x1} {p pos:Pos} (hg:Gl X "enumerate") (hm:X.mg "enumerate"=none) (ha:PA X [x] ta) (hs:starEach [x] X.env=[(false,eval x X.env)]:=by rfl) :
  PI X (.Tuple elts x1 tp) (.Call (.Name "enumerate" p) [x] [] pos) (Gn X.K ta):=by
 intro pins s σ H R I h;refine Call_ (g_ I hg hm sG (M1 (bQ (ha pos pins s σ H _ I h) fun us s1 ⟨vs,H1,I1,r1,q1⟩=>?_) (by rw[hs];rfl) (by rfl)));obtain⟨a,xs,e,sq,q⟩:=q1;subst e;obtain⟨u1,rfl,ra⟩:=vals1 r1;cases ra;obtain⟨gV,rv,p1,_⟩:=I1.list sq;have lt:a<s1.heap.objs.size:=by obtain⟨_,z,_⟩:=p1.isList;exact Ls z
 refine call_enumerate_list p1.isList fun h' he t sz kp=>?_
 refine wpAny_pyIter_enum (s:={s1 with heap:=h'}) he ?_;refine⟨s1.heap.objs.size+1,[s1.heap.objs.size+1,s1.heap.objs.size],_,_,H1,rfl,I1.kept (t':=s1.toks) kp,xL (Nat.succ_ne_self _) (LA lt),⟨⟨_,he⟩,t⟩,fun c hc=>?_,q⟩
 have Zo:s1.heap.objs.size<=c:=by
  simp only[Lr,L_,or_false] at hc;rcases hc with rfl|rfl
  ·exact Pl _
  ·exact Lf _
 exact I1.fpOk Zo (I1.hok.fresh Zo)
end
section
variable{K:Fg}{te:TE}{tc:TT}{σ:St}{Q:VK}{H:Hp}{D:dk}
theorem Iv{ta:TA}{R:It->Hp->Prop}(h:ta σ H fun vs H1=>∃a xs,vs=[.ref a]/\SqL K H1 a xs/\R (JC K a) H1):Gn K ta σ H R:=h
theorem C_{xs:List V}{g:TG}{tb:TS}(Pv:Nat->St->Hp->Prop)(h0:Pv 0 σ H)(hl:∀i σ H,i<=xs.length->Pv i σ H->SqL K H a xs)
  (hs:∀i x σ H T,xs[i]?=some x->Pv i σ H->H T=none->g (.ref T) σ (upd H T (.tup [.int i,x])) fun σ2 H2=>tb {D with nx:=Pv (i+1),ct:=Pv (i+1),bk:=D.nx} σ2 H2) (hd:∀σ H,Pv xs.length σ H->D.nx σ H):Be (JC K a) g tb D σ H:=by
 refine⟨fun i m σ H=>m=xs.length-i/\i<=xs.length/\Pv i σ H,⟨_,rfl,Ml _,h0⟩,?_⟩;rintro i m σ H ⟨rfl,hi,p⟩;have q:=hl i σ H hi p;by_cases VL:i<xs.length
 ·refine .inr ⟨⟨xs,q,VL⟩,Pv (i+1),fun σ' H' p'=>⟨xs.length-(i+1),by walk_at "om",rfl,VL,p'⟩,fun v H' y=>?_⟩;obtain⟨T,x,nT,rfl,rfl,z⟩:=y;exact hs i x σ H T (z xs q) p nT
 ·have e:i=xs.length:=by walk_at "om"
  subst e;exact .inl ⟨⟨xs,q,Lf _⟩,hd σ H p⟩
end
open PySem.W (Dat kqdOk kqdP kqdPs)
def yZ(K:Fg):V->List V->Hp->VK->Prop:=fun x xs H Q=>∃(a:Addr) (y:V) (ds:List Dat) (d:Dat) (j:Nat),x=.ref a/\xs=[y]/\Rep K H y d/\Rep K H (.ref a) (.list ds)/\(∀e∈ds,kqdOk 8 e=true)/\kqdOk 8 d=true/\ds[j]?=some d/\(∀m,m<j->ds[m]?≠some d)/\ds.length<=1000/\Q (.int j) H
open Classical in
theorem Df(he:kqdOk 8 e=true)(hd:kqdOk 8 d=true):Sb (kqdP e) (kqdP d)=decide (d=e):=by
 have h:=vq (ds:=[e]) (d:=d) (fun x hx=>by rw[Lw.mp hx];exact he) hd;rw[kqdPs,kqdPs,RD,List.any_nil,Vu] at h;rw[h];by_cases z:d=e
 ·simp[z]
 ·simp[z]
theorem rV:∀{ds:List Dat} {i:Nat},(kqdPs ds)[i]? = (ds[i]?).map kqdP
 |[],i=>by rw[kqdPs];simp
 |d :: ds,0=>by rw[kqdPs];rfl
 |d :: ds,i+1=>by rw[kqdPs,P_,P_,rV]
theorem rT:∀ds:List Dat,(kqdPs ds).length=ds.length
 |[]=>by rw[kqdPs];rfl
 |d :: ds=>by rw[kqdPs,LS,LS,rT]
open Classical in
theorem CH{X:Cx} (hu:X.A.units+64<cLine):GS X "list.index" (yZ X.K):=by
 intro pins s σ H x xs v us Q I rx rv h;obtain⟨a,y,ds,d,j,rfl,rfl,hd,he,ka,kd,e1,e2,ln,q⟩:=h;obtain⟨u,rfl,ru⟩:=vals1 rv;obtain⟨as,ra⟩:=Rep.reads I hd ru;obtain⟨bs,rb⟩:=Rep.reads I he rx;rw[kqdP] at rb;cases rx;generalize hp:kqdPs ds=ps at rb;cases rb with
 |@list _ o gV n _ _ h1 h2 h3 h4 =>
  obtain⟨c,dct,dt,sl⟩:=o;replace h2:c=.type "list":=h2;replace h3:dt=.seq gV n:=h3;subst h2 h3;have Yx:RE.canLayAll0 ps=true:=by rw[<- hp];exact(RU ka).1
  have Y3:=SeqAt.readsAll_map ps _ _ Yx h4;have lj:j<ds.length:=(K_.mp e1).1
  have at_:∀m (hm:m<gV.size),Sb (Sn s.heap gV[m]) (kqdP d)=decide (ds[m]?=some d):=by
   intro m hm;have g:(gV.toList.map (Sn s.heap))[m]?=some (Sn s.heap gV[m]):=by rw[Ll,MA,MR hm];rfl
   rw[Y3,<- hp,rV] at g;obtain⟨e,ge,gp⟩:=Lu.mp g;rw[<- gp,Df (ka e (Li ge)) kd,ge];by_cases z:d=e
   ·simp[z]
   ·have:e≠d:=fun w=>z w.symm
    simp[z,this]
  have szl:gV.size=ds.length:=by
   have:=congrArg Oo Y3
   rw[K9,Mv,<- hp] at this;rw[this,rT]
  have hm:wpAny (model X.prog X.w) X.A (call (.builtin "list.index") [.ref a,u]) (EP X pins σ Q) X.xe s:=by
   refine Pj F.slot_list_index ⟨_,h1,rfl⟩ F.entry_list_index (F.args_list_index_2 _ _) (SeqAt.list_indexAt a gV n dct sl u (fun y=>Sb (Sn s.heap y) (kqdP d)) j (by walk_at "om") (by walk_at "om") ?_ ?_) ⟨h1,SeqAt.items_eqAt h4 ra Yx (N5 8 d kd).1 ?_,⟨.int j,H,I.tok _,⟨_,rfl⟩,q⟩⟩
   ·rw[at_ j (by walk_at "om"),e1];simp
   ·intro m hm hmj;rw[at_ m hm];exact decide_eq_false (e2 m hmj)
   ·have l:=(N5 8 d kd).2
    have:=Qp (Sv ps) (kqdP d).depth
    walk_at "om"
  exact hm
theorem Gc{K:Fg}{Q:VK}{j:Nat}(hd:Rep K H y d)(he:Rep K H (.ref a) (.list ds))(ka:∀e∈ds,kqdOk 8 e=true)(kd:kqdOk 8 d=true)(e1:ds[j]?=some d)(e2:∀m,m<j->ds[m]?≠some d)(l:ds.length<=1000)(q:Q (.int j) H):yZ K (.ref a) [y] H Q :=
 ⟨a,y,ds,d,j,rfl,rfl,hd,he,ka,kd,e1,e2,l,q⟩
open PySem.W (Dat kqdOk kqdP kqdPs)
section
variable{K:Fg}{te:TE}{tc:TT}{σ:St}{Q:VK}{H:Hp}
theorem xA{xs:List V}(h:∀D,H D=none->∃Pv:Nat->Hp->Prop,Pv 0 (upd H D (.lst []))/\(∀i H2,i<=xs.length->Pv i H2->SqL K H2 a xs)/\(∀i x H2,xs[i]?=some x->Pv i H2->GW g n tc te σ x H2 D xs.length i Pv)/\∀H2,Pv xs.length H2->Q (.ref D) H2):sQ (sN K a) n g tc te σ Q H:=by
 intro D nD;obtain⟨Pv,h0,hl,hs,hd⟩:=h D nD;refine⟨fun i m H=>m=xs.length-i/\i<=xs.length/\Pv i H,⟨_,rfl,Ml _,h0⟩,?_⟩;rintro i m H ⟨rfl,hi,p⟩;have q:=hl i H hi p;by_cases VL:i<xs.length
 ·refine .inr ⟨⟨xs,xs[i],q,Ld VL⟩,fun v H' y us hu=>?_⟩;obtain⟨rfl,z⟩:=y;exact hs i v _ (z xs q) p us hu
 ·have e:i=xs.length:=by walk_at "om"
  subst e;exact .inl ⟨⟨xs,q,Lf _⟩,hd H p⟩
end
def Hm(scope sc:Scope):Scope:={scope with names:=E7 scope sc}
end L2
namespace Rk
end Rk
namespace Dn
end Dn
namespace L2
open PySem PySem.Spec PyProof.Rows
namespace F7
end F7
open PySem.W (Dat)
open PySem.Builtin.Str (occurrences lastOccurrence strSub subAt partsBetween)
def eX(z y:Str)(i:Nat):Prop:=i+y.length<=z.length/\subAt z y i=true
def yW:V->List V->Hp->VK->Prop := fun x xs H Q => ∃ z y, x=.str z/\xs=[.str y] /\ y.length≠0/\z.length<=sizeLine /\
  ((∃ i, eX z y i/\(∀ k, k<i->¬ eX z y k) /\ ∀ p, H p=none->Q (.ref p) (upd H p (.tup [.str (strSub z 0 i), .str y, .str (strSub z (i + y.length) z.length)]))) \/
   ((∀ i, ¬ eX z y i) /\ ∀ p, H p=none->Q (.ref p) (upd H p (.tup [.str z, .str Mm, .str Mm]))))
section
variable{X:Cx}
theorem gm:GS X "str.partition" yW:=by
 intro pins s σ H x xs v us Q I rx rv h;obtain⟨z,y,rfl,rfl,hy,hz,h⟩:=h;obtain⟨t,rfl⟩:=rx;obtain⟨u,rfl,t',rfl⟩:=vals1 rv;refine Pj Of (Ph _ _ _) PySem.F.entry_str_partition (PySem.F.args_str_partition_2 _ _) (meets_str_partition z y t t' (by simpa using hy) hz) ?_
 have new:∀(a b c:Str) (ta tb tc:Tok) (k:Nat),(∀p,H p=none->Q (.ref p) (upd H p (.tup [.str a,.str b,.str c])))->EP X pins σ Q (.ref s.heap.objs.size) {s with toks:=k,heap:=s.heap.push {cls:=.type "tuple",data:=.seq [.str a ta,.str b tb,.str c tc].toArray}}:=by
  intro a b c ta tb tc k q;refine⟨.ref s.heap.objs.size,_,I.laid (t':=k) (o:=.tup [.str a,.str b,.str c]) (fun b ob q=>Lb _ q) (Lf _) ?_,rfl,q _ (I.hok.fresh (Lf _))⟩;exact⟨dS,_,.cons ⟨ta,rfl⟩ (.cons ⟨tb,rfl⟩ (.cons ⟨tc,rfl⟩ .nil)),TupD.new _ _⟩
 rcases h with⟨i,hi,mi,q⟩|⟨no,q⟩
 ·rcases RZ z y 1 (Lf _) with⟨_,n⟩|⟨j,r,e,hj,mj⟩
  ·exact absurd hi (n i)
  ·have:j=i:=by
    rcases NA j i with l|l|l
    ·exact absurd hj (mi j l)
    ·exact l
    ·exact absurd hi (mj i l)
   subst this;show wants _ _ _ (match occurrences z y 0 z.length 1 with|i :: _=>_ | []=>_);rw[e];exact new _ _ _ _ _ _ _ q
 ·rcases RZ z y 1 (Lf _) with⟨e,_⟩|⟨j,r,e,hj,mj⟩
  ·show wants _ _ _ (match occurrences z y 0 z.length 1 with|i :: _=>_ | []=>_);rw[e];exact new _ _ _ _ _ _ _ q
  ·exact absurd hj (no j)
end
def yV:V->List V->Hp->VK->Prop := fun x xs H Q => ∃ z y, x=.str z/\xs=[.str y] /\ y.length≠0/\z.length<=sizeLine /\
  ((∃ i, eX z y i/\(∀ k, i<k->¬ eX z y k) /\ ∀ p, H p=none->Q (.ref p) (upd H p (.tup [.str (strSub z 0 i), .str y, .str (strSub z (i + y.length) z.length)]))) \/
   ((∀ i, ¬ eX z y i) /\ ∀ p, H p=none->Q (.ref p) (upd H p (.tup [.str Mm, .str Mm, .str z]))))
def uJ(z y:Str):List Nat:=(Mo (z.length+1)).filter fun i=>decide (i+y.length<=z.length) && subAt z y i
theorem pK{i:Nat}:i∈uJ z y↔eX z y i:=by
 unfold uJ eX;rw[M7,Nt,My,decide_eq_true_iff];exact⟨fun h=>h.2,fun h=>⟨by have:=h.1;walk_at "om",h⟩⟩
def Apart(z y:Str):Prop:=∀i j,eX z y i->eX z y j->i<j->i+y.length<=j
theorem uK{z y:Str}{lim:Nat}(ap:Apart z y)(hy:y.length≠0):∀(n a:Nat) (arr:Array Nat) (fr:Nat),(∀i,eX z y i->a<=i->fr<=i)->arr.size+n<=lim ->
  (forIn (List.range' a n) (arr,fr) (Va z y z.length lim)).run.fst.toList=arr.toList++(List.range' a n).filter fun i=>decide (i+y.length<=z.length) && subAt z y i
 |0,a,arr,fr,_,_=>by simp
 |n+1,a,arr,fr,hf,hl=>by
  rw[List.range'_succ,PX,Pw];unfold Va;by_cases h:eX z y a
  ·have c:((arr.size<lim/\fr<=a)/\a+y.length<=z.length)/\subAt z y a=true:=⟨⟨⟨by walk_at "om",hf a h (Lf _)⟩,h.1⟩,h.2⟩
   rw[if_pos c,if_pos (by rw[My,decide_eq_true_iff];exact h)];have ih:=uK (lim:=lim) ap hy n (a+1) (arr.push a) (a+y.length) (fun i hi l=>ap a i h hi (by walk_at "om")) (by rw[Array.size_push];walk_at "om");rw[Array.toList_push,MF] at ih;exact ih
  ·have c : ¬ (((arr.size<lim/\fr<=a)/\a+y.length<=z.length)/\subAt z y a=true):=fun q=>h ⟨q.1.2,q.2⟩
   rw[if_neg c,if_neg (by rw[My,decide_eq_true_iff];exact h)];exact uK (lim:=lim) ap hy n (a+1) arr fr (fun i hi l=>hf i hi (by walk_at "om")) (by walk_at "om")
theorem uM(ap:Apart z y)(hy:y.length≠0):occurrences z y 0 z.length (z.length+1)=uJ z y:=by
 rw[StrLaws.occ_eq]
 have:=uK (lim:=z.length+1) ap hy (z.length+1) 0 #[] 0 (fun _ _ _=>Ml _) (by simp)
 rw[show z.length+1-0=z.length+1 from rfl,this];unfold uJ;rw[List.range_eq_range'];rfl
theorem iR(z:Str)(w:Nat):∀(a:Nat) (cs:List Nat),(LW z w a cs).length=cs.length+1
 |_,[]=>rfl
 |_,c :: cs=>by
  show(LW z w (c+w) cs).length+1=_;rw[iR z w _ cs];rfl
theorem qD:∀(tk:Nat) (xs:List Str),Vals (xs.map V.str) (strsFrom tk xs)
 |_,[]=>.nil
 |tk,x :: xs=>.cons ⟨tk,rfl⟩ (qD (tk+1) xs)
section
variable{X:Cx}
theorem pI:GS X "str.rpartition" yV:=by
 intro pins s σ H x xs v us Q I rx rv h;obtain⟨z,y,rfl,rfl,hy,hz,h⟩:=h;obtain⟨t,rfl⟩:=rx;obtain⟨u,rfl,t',rfl⟩:=vals1 rv;refine Pj Q0 (Ph _ _ _) PySem.F.entry_str_rpartition (PySem.F.args_str_rpartition_2 _ _) (meets_str_rpartition z y t t' (by simpa using hy) hz) ?_
 have new:∀(a b c:Str) (ta tb tc:Tok) (k:Nat),(∀p,H p=none->Q (.ref p) (upd H p (.tup [.str a,.str b,.str c])))->EP X pins σ Q (.ref s.heap.objs.size) {s with toks:=k,heap:=s.heap.push {cls:=.type "tuple",data:=.seq [.str a ta,.str b tb,.str c tc].toArray}}:=by
  intro a b c ta tb tc k q;refine⟨.ref s.heap.objs.size,_,I.laid (t':=k) (o:=.tup [.str a,.str b,.str c]) (fun b ob q=>Lb _ q) (Lf _) ?_,rfl,q _ (I.hok.fresh (Lf _))⟩;exact⟨dS,_,.cons ⟨ta,rfl⟩ (.cons ⟨tb,rfl⟩ (.cons ⟨tc,rfl⟩ .nil)),TupD.new _ _⟩
 rcases h with⟨i,hi,mi,q⟩|⟨no,q⟩
 ·rcases UC z y with⟨_,n⟩|⟨j,e,hj,mj⟩
  ·exact absurd hi (n i)
  ·have:j=i:=by
    rcases NA j i with l|l|l
    ·exact absurd hi (mj i l)
    ·exact l
    ·exact absurd hj (mi j l)
   subst this;show wants _ _ _ (match lastOccurrence z y 0 z.length with|some i=>_|none=>_);rw[e];exact new _ _ _ _ _ _ _ q
 ·rcases UC z y with⟨e,_⟩|⟨j,e,hj,mj⟩
  ·show wants _ _ _ (match lastOccurrence z y 0 z.length with|some i=>_|none=>_);rw[e];exact new _ _ _ _ _ _ _ q
  ·exact absurd hj (no j)
end
open PySem PySem.Spec PyProof.Rows PySem.W
abbrev yY:List V->Hp->VK->Prop:=fun xs H Q=>∃z i,xs=[.str z]/\Vo z=some i/\z.length<=640/\Q (.int i) H
theorem i5:g8 X (.type "int") yY:=by
 intro pins s σ H xs us Q I r h;obtain⟨z,i,rfl,hi,hz,q⟩:=h;obtain⟨u,rfl,t,rfl⟩:=vals1 r;exact KIN.call_text hi hz ⟨.int i,H,I.tok _,⟨_,rfl⟩,q⟩
structure KD (P:LB) (w:LQ) (K:Frag) (mg:Str->Option La) (x:Str) (D:Addr) (i3:List (Key×V)):Prop where
 at_:mg x=some (.ref D)
 ns:(D == sysModules)=false
 dd:∀h:Heap,K.In h->∃vs,KV i3 vs/\h.DictOf (cS P w) D vs
def EQ(i3:List (Key×V))(ty tx:TE):TE:=fun σ H Q=>ty σ H fun y H2=>tx σ H2 fun z H3=>∃k,y=kV k/\Q ((cG i3 k).getD z) H3
theorem FD{apos:Pos}  (hg:Gl X x) (d:KD X.prog X.w X.K X.mg x D i3) (he:PE X e ty) (hf:PE X f tx) (m:M2 X (.Name x np) "get" apos e f VP) (hdb:(x == ("__debug__":Str))=false:=by decide) :
  PE X (.Call (.Attribute (.Name x np) "get" apos) [e,f] [] VP) (EQ i3 ty tx):=by
 intro pins s σ H Q I h;refine wpAny_Call_method m.base m.few m.line RQ Oh SA (gn I hg d.at_ ?_ hdb);obtain⟨vs,rel,dd⟩:=d.dd _ I.kIn;refine⟨dd.typeIs,fun b q=>?_,?_⟩
 ·cases q;obtain⟨ob,_,_,h1,h2,_⟩:=dd;exact⟨ob,h1,h2.2.1⟩
 rw[m.trees]
 refine Qf rfl (Pi (M4 (bQ (he pins s σ H _ I h) fun iv s2 ⟨y,H2,I2,ry,q2⟩ =>
  M4 (bQ (hf pins s2 σ H2 _ I2 q2) fun fv s3 ⟨z,H3,I3,rz,k,ey,q3⟩=>Op ?_))))
 subst ey;obtain⟨vs3,rel3,dd3⟩:=d.dd _ I3.kIn;refine Up Oh dd3.typeIs Qh (P9 _ _ _) (R_ (cS X.prog X.w) D (CT ry) d.ns fv) ⟨_,dd3.mapOf,?_⟩;exact⟨_,H3,I3.tok _,(rel3.val k).getD rz,q3⟩
section
variable{X:Cx}{e k:Expr}{te tk:TE}{p2 pos:Pos}
def yd(K:Frag)(te tk:TE):TE:=fun σ H Q=>te σ H fun x H1=>tk σ H1 fun i H2=>∃a xs,x=.ref a/\i=.int (-1)/\SqL K H2 a xs/\∀p,H2 p=none->Q (.ref p) (upd H2 p (.lst xs.reverse))
theorem zq(he:PE X e te)(hk:PE X k tk):PE X (.Subscript e (.Slice none none (some k) p2) pos) (yd X.K te tk):=by
 intro pins s σ H Q I h;refine Subscript_ (bQ (he pins s σ H _ I h) fun v s1 ⟨x,H1,I1,r1,q1⟩=>wpAny_Slice ?_);rw[TM];refine Lh (Lh (bQ (hk pins s1 σ H1 _ I1 q1) fun u s2 ⟨y,H2,I2,r2,a,xs,ex,ey,sq,q⟩=>?_));subst ex ey;cases r1;obtain⟨t,rfl⟩:=r2;have I3:Inv X pins σ H2 {s2 with heap:=s2.heap.push {cls:=.type "slice",data:=.fields #[.none,.none,.int (-1) t]}}:=I2.kept (t':=s2.toks) fun b ob q=>Lb _ q
 obtain⟨gV,rv,Xm,hz⟩:=I3.list sq;have hlen:=rv.length;show wpAny (model X.prog X.w) X.A (subscriptTail e (.Slice none none (some k) p2) (.ref a) (.ref s2.heap.objs.size)) (EP X pins σ Q) X.xe {s2 with heap:=s2.heap.push {cls:=.type "slice",data:=.fields #[.none,.none,.int (-1) t]}};refine tail_any (ops:=[.ref a,.ref s2.heap.objs.size]) Xm.isList.typeIs Rr.lookup (RB Xm.isList (T5 ..) .none .none (.int (-1) t) (by simp) ?_ (by rw[LM];walk_at "om")) (by with_unfolding_all rfl);rw[krv_pick]
 have vr:Vals xs.reverse gV.reverse:=by
  clear q hz Xm sq I3 hlen
  induction rv with
  |nil=>exact .nil
  |cons a b ih=>rw[Rt,Rt];exact ih.append (.cons a .nil)
 refine⟨.ref _,_,I3.laid (t':=s2.toks) (o:=.lst xs.reverse) (fun b ob q=>Lb _ q) (Lf _) ?_,rfl,q _ (I3.hok.fresh (Lf _))⟩;exact⟨by rw[PL];exact hz,gV.reverse,0,vr,LJ _ rfl⟩
end
end L2
namespace L2
open PySem PySem.Spec PyProof.Rows
open PySem.Builtin.Str (strSub subAt occurrences)
abbrev eQ(z y:Str):List Nat:=occurrences z y 0 z.length (z.length+1)
def fK:V->List V->Hp->VK->Prop:=fun x xs H Q=>∃z y,x=.str z/\xs=[.str y]/\y.length≠0/\z.length<=1900/\z.cps.all (· < 128)=true/\y.cps.all (· < 128)=true/\∀p,H p=none->Q (.ref p) (upd H p (.lst ((LW z y.length 0 (eQ z y)).map V.str)))
theorem sr{z y:Str}{hi:Nat}(hy:y.length≠0):∀{cs:List Nat} {a f:Nat},PZ z y hi a cs f->cs.length+a<=f
 |[],a,f,h=>by have e:f=a:=h;show 0+a<=f;walk_at "om"
 |c :: cs,a,f,h=>by
  have h':a<=c/\Vp z y hi c/\PZ z y hi (c+y.length) cs f:=h
  have:=sr hy h'.2.2
  rw[LS];walk_at "om"
theorem wI{z y:Str}{hi:Nat}:∀{cs:List Nat} {a f:Nat},PZ z y hi a cs f->a<=hi->f<=hi
 |[],a,f,h,l=>by have e:f=a:=h;walk_at "om"
 |c :: cs,a,f,h,l=>by
  have h':a<=c/\Vp z y hi c/\PZ z y hi (c+y.length) cs f:=h;exact wI h'.2.2 h'.2.1.1
theorem qf{y:Str}(hy:y.length≠0):(eQ z y).length<=z.length+1:=by
 obtain⟨f,c⟩:=Rx z y (z.length+1);have h1:=sr hy c;have h2:=wI c (Ml _);show(occurrences z y 0 z.length (z.length+1)).length<=_;walk_at "om"
theorem AR{z y:Str}(h:z.length<y.length):eQ z y=[]:=by
 obtain⟨f,c⟩:=Rx z y (z.length+1);cases e:eQ z y with
 |nil=>rfl
 |cons i r =>
  rw[show occurrences z y 0 z.length (z.length+1)=_ from e] at c;have h':0<=i/\Vp z y z.length i/\PZ z y z.length (i+y.length) r f:=c
  have:=h'.2.1.1
  walk_at "om"
section
variable{X:Cx}
theorem dY:GS X "str.split" fK:=by
 intro pins s σ H x xs v us Q I rx rv h;obtain⟨z,y,rfl,rfl,hy,hz,az,ay,q⟩:=h;obtain⟨t,rfl⟩:=rx;obtain⟨u,rfl,t',rfl⟩:=vals1 rv;have hyb:(y.length == 0)=false:=by simpa using hy
 have kz:∀{w:Str},w.cps.all (· < 128)=true->Om w=1:=fun {w} h=>by
  unfold Om;rw[if_pos];rw[MH] at h ⊢;intro c hc
  have:=of_decide_eq_true (h c hc)
  exact decide_eq_true (by walk_at "om")
 have new:∀(ps:List Str) (vs:List La) (k:Nat),Vals (ps.map V.str) vs->ps.length<=2000->(∀p,H p=none->Q (.ref p) (upd H p (.lst (ps.map V.str))))->EP X pins σ Q (.ref s.heap.objs.size) {s with toks:=k,heap:=s.heap.push {cls:=.type "list",data:=.seq vs.toArray}}:=by
  intro ps vs k rv lp q;refine⟨.ref s.heap.objs.size,_,I.laid (t':=k) (o:=.lst (ps.map V.str)) (fun b ob q=>Lb _ q) (Lf _) ?_,rfl,q _ (I.hok.fresh (Lf _))⟩;exact⟨by rw[K9];exact Mh lp (by decide),vs,0,rv,LJ _ rfl⟩
 have lo:=qf (z:=z) (y:=y) hy;by_cases h1:z.length<y.length
 ·have e0:eQ z y=[]:=AR h1;rw[e0] at q
  have q':∀p,H p=none->Q (.ref p) (upd H p (.lst ([z].map V.str))):=fun p np=>by
   have:=q p np
   rw[show LW z y.length 0 []=[strSub z 0 z.length] from rfl,Pb] at this;exact this
  exact Pj Mq (Ph _ _ _) Qb (PR _ _) (meets_str_split_cannot_occur z y t t' (by rw[decide_eq_true h1];rfl)) (new [z] _ _ (.cons ⟨t,rfl⟩ .nil) (show 1<=2000 by decide) q')
 ·have hk:(decide (z.length<y.length) || decide (Om z<Om y))=false:=by
   rw[decide_eq_false h1,kz az,kz ay];rfl
  cases ec:eQ z y with
  |nil =>
   rw[ec] at q
   have q':∀p,H p=none->Q (.ref p) (upd H p (.lst ([z].map V.str))):=fun p np=>by
    have:=q p np
    rw[show LW z y.length 0 []=[strSub z 0 z.length] from rfl,Pb] at this;exact this
   exact Pj Mq (Ph _ _ _) Qb (PR _ _) (meets_str_split_not_found z y t t' hk hyb (by rw[show occurrences z y 0 z.length (z.length+1)=_ from ec];rfl)) (new [z] _ _ (.cons ⟨t,rfl⟩ .nil) (show 1<=2000 by decide) q')
  |cons c cs =>
   have lp:(LW z y.length 0 (eQ z y)).length<=2000:=by rw[iR];walk_at "om"
   refine Pj Mq (Ph _ _ _) Qb (PR _ _) (meets_str_split_sep z y t t' hk hyb (by rw[show occurrences z y 0 z.length (z.length+1)=_ from ec];rfl) (Mh hz (by decide)) (by rw[R0];exact Mh lp (by decide))) ?_;show wants _ _ _ _;rw[R0];exact new _ _ _ (qD _ _) lp q
end
end L2
set_option Elab.async false
set_option linter.all false
set_option maxRecDepth 100000
set_option maxHeartbeats 4000000
open L2
local macro_rules | `(tactic| fail "s")=>`(tactic| first
 |(show(0:Int)<_;omega)
 |(unfold GY;omega)
 |(unfold CMul;omega)
 |exact⟨by decide,by decide,by decide⟩)
local macro_rules | `(tactic| fail "1")=>`(tactic| first
 |with_reducible refine J6 ?_
 |with_reducible refine IA ?_
 |with_reducible refine gy ?_
 |((with_reducible refine' uY ?k1 ?_);(case k1=>exact rfl))
 |with_reducible refine K2 ?_
 |with_reducible refine Kc ?_
 |with_reducible refine J8 ?_
 |with_reducible refine Kr ?_
 |with_reducible refine Kf ?_
 |with_reducible refine Kq ?_
 |with_reducible refine Ks ?_
 |with_reducible refine Kg ?_
 |with_reducible refine Km ?_
 |with_reducible refine HX ?_
 |with_reducible refine J4 ?_
 |with_reducible refine Kw ?_
 |with_reducible refine J7 ?_
 |with_reducible refine Ii ?_
 |with_reducible refine Gg ?_
 |with_reducible refine Ih ?_
 |with_reducible refine Ky ?_
 |with_reducible refine Kb ?_
 |with_reducible refine IB ?_
 |with_reducible refine Ka ?_
 |with_reducible refine Ig ?_
 |with_reducible refine Ko ?_
 |with_reducible refine Gi ?_
 |with_reducible refine Ke ?_
 |with_reducible refine Ix ?_
 |with_reducible refine Iz ?_
 |with_reducible refine Ku ?_
 |with_reducible refine J3 ?_
 |with_reducible refine Kh ?_
 |with_reducible refine J0 ?_
 |with_reducible refine Ic ?_
 |with_reducible refine J5 ?_
 |with_reducible refine CN ?_
 |with_reducible refine Ie ?_
 |with_reducible refine Kl ?_
 |with_reducible refine k_retN ?_
 |with_reducible refine Iw ?_
 |with_reducible refine k_revT ?_
 |with_reducible refine k_compG ?_
 |with_reducible refine Gh ?_
 |with_reducible refine Io ?_
 |with_reducible refine Ip ?_
 |with_reducible refine Ij ?_
 |with_reducible refine Iv ?_
 |with_reducible refine k_rev ?_
 |with_reducible refine k_dget ?_
 |with_reducible refine Zd ?_
 |with_reducible refine k_dget1 ?_
 |with_reducible refine k_par ?_
 |with_reducible refine Ir ?_
 |with_reducible refine Iu ?_
 |with_reducible refine Kj ?_
 |with_reducible refine Ki ?_
 |with_reducible refine JZ ?_
 |with_reducible refine Kk ?_
 |with_reducible refine k_notN ?_
 |with_reducible refine Kp ?_
 |with_reducible refine Iy ?_
 |with_reducible refine Ib ?_
 |with_reducible refine Ia ?_
 |with_reducible refine Ge ?_
 |with_reducible refine Im ?_
 |with_reducible refine Kv ?_
 |with_reducible refine k_bm0 ?_
 |with_reducible refine Kt ?_
 |with_reducible refine Gf ?_
 |with_reducible refine Iq ?_
 |with_reducible refine k_break ?_
 |with_reducible refine k_cont ?_
 |with_reducible refine k_int1 ?_
 |with_reducible refine Ik ?_
 |with_reducible refine k_abs ?_
 |with_reducible refine u_ ?_
 |with_reducible refine va ?_
 |with_reducible refine Ga ?_
 |with_reducible refine Gb ?_
 |with_reducible refine Zf ?_
 |with_reducible refine Ze ?_
 |((with_reducible refine' uZ ?k1 ?_);(case k1=>fail "s"))
 |((with_reducible refine' J9 ?k1 ?_);(case k1=>(constructor <;> omega)))
 |((with_reducible refine' J_ ?k1 ?_);(case k1=>(constructor <;> omega))))
local macro_rules | `(tactic| walk_at "")=>`(tactic| repeat fail "1")
namespace G1
open PySem L2 Fr
open PySem.W (Dat kqdOk)
abbrev ends(Q:VK):dk:={nx:=fun _ H'=>Q .non H',rt:=Q}
def Mx(n:Int):Prop:=0<=n/\n<2147483647
def oN(K:Fg):Sp:=fun vs H Q _=>∃c m:Int,vs=[.int c,.int m]/\0<=m/\m<=100/\∀(p:Addr) (H':Hp) (ns:List Int),AccZ K H p H' (ns.map ND)->ns.length=m.toNat->(∀n∈ns,Mx n)->Q (.ref p) H'
def tH(K:Fg):TS:=(aF (aR (cW aA) (aO 2))
 (aF (aR (aE ft (ag 0) (tC (.int 2))) (aO 3))
 (aF (bq (bg (aE fq (aE bB (ag 0) (tC (.int 2))) (tC (.int 1))))
 (aF (eW (fE (ao (ag 1) aA)) (aO 4)
 (aF (gf (fX K "list" di (ag 2) (ao (aE bB (ag 3) (tC (.int 5040))) aA)))
 (aR (aE ft (ag 3) (tC (.int 5040))) (aO 3))))
 (aY (ag 2)))
 bp)
 (aF (aR (aE bB (aE bW (aE (rI CMul fun i j=>.int (i*j)) (aE bB (ag 3) (tC (.int 2147483647))) (tC (.int 16807))) (tC (.int 11))) (tC (.int 2147483647))) (aO 3))
 (aF (eW (fE (ao (ag 1) aA)) (aO 4)
 (aF (aR (aE bB (aE bW (aE bW (aE bW (aE (rI CMul fun i j=>.int (i*j)) (ag 3) (ag 3)) (aE (rI CMul fun i j=>.int (i*j)) (tC (.int 48271)) (ag 3))) (ag 4)) (tC (.int 1))) (tC (.int 2147483647))) (aO 3))
 (gf (fX K "list" di (ag 2) (ao (ag 3) aA)))))
 (aY (ag 2)))))))
theorem BW{K:Fg}{N:List Str}(hN:N.length=5)(h:oN K vs H Q E):tH K (ends Q) (L2.start N vs) H:=by
 obtain⟨c,m,rfl,h0,h1,k⟩:=h;rw[L2.cu hN];walk_at "t";unfold tH;walk_at "";refine⟨by decide,fun l nl=>?_⟩;walk_at "";refine bZ (fun _=>?_) (fun _=>?_)
 ·walk_at "";refine cO (fun i σ H2=>∃(ns:List Int) (z:Int) (v:Option V),σ=[some (.int c),some (.int m),some (.ref l),some (.int z),v]/\AccZ K H l H2 (ns.map ND)/\ns.length=i/\∀n∈ns,Mx n) ⟨[],_,none,rfl,AccZ.start (Same.refl _) nl,rfl,by simp⟩ ?_ ?_
  ·rintro i σ H2 hi ⟨ns,z,v,rfl,A,hl,hb⟩;walk_at "";refine⟨A.ty,?_⟩;walk_at "";refine f7 A (.int _) (bh (by rw[K9];walk_at "om")) fun H3 A3 _ _ _=>?_
   walk_at "";refine⟨ns++[z % 5040],_,_,rfl,by simpa using A3,by simp[hl],fun n hn=>?_⟩;rcases L5.mp hn with q|q
   ·exact hb n q
   ·rw[Lw.mp q];exact⟨by walk_at "om",by walk_at "om"⟩
  ·rintro σ H2 ⟨ns,z,v,rfl,A,hl,hb⟩;walk_at "";exact k l H2 ns A hl hb
 ·walk_at "";refine cO (fun i σ H2=>∃(ns:List Int) (z:Int) (v:Option V),σ=[some (.int c),some (.int m),some (.ref l),some (.int z),v]/\Mx z/\AccZ K H l H2 (ns.map ND)/\ns.length=i/\∀n∈ns,Mx n) ⟨[],_,none,rfl,⟨by walk_at "om",by walk_at "om"⟩,AccZ.start (Same.refl _) nl,rfl,by simp⟩ ?_ ?_
  ·rintro i σ H2 hi ⟨ns,z,v,rfl,⟨hz0,Xn⟩,A,hl,hb⟩;walk_at "";refine⟨A.ty,?_⟩;walk_at "";refine f7 A (.int _) (bh (by rw[K9];walk_at "om")) fun H3 A3 _ _ _=>?_
   have w:Mx ((z*z+48271*z+(0+(i:Int))+1) % 2147483647):=⟨by walk_at "om",by walk_at "om"⟩
   walk_at "";refine⟨ns++[(z*z+48271*z+(0+(i:Int))+1) % 2147483647],_,_,rfl,w,by rw[Lq];exact A3,by simp[hl],fun n hn=>?_⟩;rcases L5.mp hn with q|q
   ·exact hb n q
   ·rw[Lw.mp q];exact w
  ·rintro σ H2 ⟨ns,z,v,rfl,_,A,hl,hb⟩;walk_at "";exact k l H2 ns A hl hb
def bv(n:Nat)(hs:List Int):Prop:=hs.length=n/\∀x∈hs,0<=x/\x<=3
abbrev dI(ns:List Int):Dat:=.tuple (ns.map ND)
def yr(K:Fg):Sp:=fun vs H Q _=>∃n m t:Int,vs=[.int n,.int m,.int t]/\0<=m/\m<=100/\0<=t/\t<=3/\∀(p:Addr) (H':Hp) (hs:List Int),Same H H'->bv m.toNat hs->Rz K H' (.ref p) (dI hs)->Q (.ref p) H'
theorem AccZ.ints{K:Fg}{ns:List Int}(A:AccZ K H0 l H (ns.map ND)):H l=some (.lst (ns.map V.int)):=by
 obtain⟨xs,h1,h2⟩:=A.at_;rw[RpL.ints_of h2] at h1;exact h1
theorem AccZ.strs{K:Fg}{ns:List Str}(A:AccZ K H0 l H (ns.map Mu)):H l=some (.lst (ns.map V.str)):=by
 obtain⟨xs,h1,h2⟩:=A.at_;rw[RpL.tO h2] at h1;exact h1
def x6(K:Fg):TS:=(aF (aR (cW aA) (aO 3))
 (aF (eW (fE (ao (ag 1) aA)) (aO 4)
 (aF (gf (fX K "list" di (ag 3) (ao (aE bB (ag 0) (aE bW (ag 2) (tC (.int 1)))) aA)))
 (aR (aE ft (ag 0) (aE bW (ag 2) (tC (.int 1)))) (aO 0))))
 (aY (b_ (dH K) (ao (ag 3) aA)))))
theorem Fj{K:Fg}{N:List Str}(hN:N.length=5)(h:yr K vs H Q E):x6 K (ends Q) (L2.start N vs) H:=by
 obtain⟨n0,m,t,rfl,h0,h1,t0,t1,k⟩:=h;rw[L2.cu hN];walk_at "t";unfold x6;walk_at "";refine⟨by decide,fun l nl=>?_⟩;walk_at "";refine cO (fun i σ H2=>∃(ns:List Int) (z:Int) (v:Option V),σ=[some (.int z),some (.int m),some (.int t),some (.ref l),v]/\AccZ K H l H2 (ns.map ND)/\bv i ns) ⟨[],_,none,rfl,AccZ.start (Same.refl _) nl,rfl,by simp⟩ ?_ ?_
 ·rintro i σ H2 hi ⟨ns,z,v,rfl,A,hl,hb⟩;walk_at "";refine⟨A.ty,?_⟩;walk_at "";refine f7 A (.int _) (bh (by rw[K9];walk_at "om")) fun H3 A3 _ _ _=>?_
  walk_at "";refine⟨ns++[_],_,_,rfl,by simpa using A3,by simp[hl],fun n hn=>?_⟩;rcases L5.mp hn with q|q
  ·exact hb n q
  ·rw[Lw.mp q];have e1:=No z (b:=t+1) (by walk_at "om");have e2:=MT z (b:=t+1) (by walk_at "om");exact⟨by walk_at "om",by walk_at "om"⟩
 ·rintro σ H2 ⟨ns,z,v,rfl,A,hh⟩;walk_at "";have e:=AccZ.ints A;refine e9 (SqL.of e) fun p np=>?_
  exact k p _ ns (A.same.trans (au np _)) hh (.tup aq (RpL.ints ns))
abbrev az:Str:="abcdefghijklmnopqrstuvwxyz"
theorem KJ:∀j:Nat,j<26->az.cps.toList[j]?=some (97+j):=by decide +kernel
theorem GH:∀j:Nat,j<26->SX az ⟨#[97+j]⟩=(j:Int):=by decide +kernel
theorem Et:az.length<=sizeLine:=by decide +kernel
theorem Jb{i:Int}(h0:0<=i)(h1:i<26):i8 az.cps.toList i=some (97+i.toNat):=by
 have e:i=((i.toNat:Nat):Int):=by walk_at "om"
 have q:=ba (KJ i.toNat (by walk_at "om"));rw[<- e] at q;exact q
def Low(z:Str):Prop:=∀x∈z.cps.toList,97<=x/\x<=122
theorem bY(z:Str):z.cps.toList.length=z.length:=by simp[Vh]
theorem zO{c:Nat}(h0:97<=c)(h1:c<=122):Low ⟨#[c]⟩:=fun x hx=>by
 have:x=c:=by simpa using hx
 walk_at "om"
theorem uR(ha:Low a)(hb:Low b):Low (a++b):=fun x hx=>by
 rw[Tl,PM] at hx;rcases L5.mp hx with q|q
 ·exact ha x q
 ·exact hb x q
theorem uQ{lo:Option Int}(h:Low z):Low (kN z lo hi):=fun x hx=>by
 have q:x∈(El z.cps.toList hi).drop (lo.getD 0).toNat:=by simpa[kN] using hx
 have q2:=Ow q;cases hi with
 |none=>exact h x q2
 |some j=>exact h x (Ox q2)
theorem oW(z:Str)(lo hi:Option Int):(kN z lo hi).length=(El z.cps.toList hi).length-(lo.getD 0).toNat:=by
 show(Tv (lo.getD 0).toNat (El z.cps.toList hi)).toArray.size=_;rw[LM,M_]
def yz:Sp:=fun vs H Q _=>∃c m:Int,vs=[.int c,.int m]/\0<=m/\m<=100/\∀z:Str,z.length=m.toNat->Low z->Q (.str z) H
def ya(K:Fg):TS:=(aF (aR (aE bB (aE bW (aE (rI CMul fun i j=>.int (i*j)) (aE bB (ag 0) (tC (.int 2147483647))) (tC (.int 16807))) (tC (.int 11))) (tC (.int 2147483647))) (aO 2))
 (aF (aR (tC (.str "")) (aO 3))
 (aF (eW (fE (ao (ag 1) aA)) (aO 4)
 (aF (aR (aE bB (aE bW (aE bW (aE bW (aE (rI CMul fun i j=>.int (i*j)) (ag 2) (ag 2)) (aE (rI CMul fun i j=>.int (i*j)) (tC (.int 48271)) (ag 2))) (ag 4)) (tC (.int 1))) (tC (.int 2147483647))) (aO 2))
 (aR (aE cZ (ag 3) (aE o_ (tC (.str "abcdefghijklmnopqrstuvwxyz")) (aE bB (ag 2) (tC (.int 26))))) (aO 3))))
 (aY (ag 3)))))
theorem Fp{K:Fg}{N:List Str}(hN:N.length=5)(h:yz vs H Q E):ya K (ends Q) (L2.start N vs) H:=by
 obtain⟨c,m,rfl,h0,h1,k⟩:=h;rw[L2.cu hN];walk_at "t";unfold ya;walk_at "";refine cO (fun i σ H2=>∃(z:Int) (w:Str) (v:Option V),σ=[some (.int c),some (.int m),some (.int z),some (.str w),v]/\Mx z/\H2=H/\w.length=i/\Low w) ⟨_,"",none,rfl,⟨by walk_at "om",by walk_at "om"⟩,rfl,rfl,by intro x hx;exact absurd hx (by decide +revert)⟩ ?_ ?_
 ·rintro i σ H2 hi ⟨z,w,v,rfl,⟨hz0,Xn⟩,rfl,hl,hw⟩;walk_at "";refine xt Et (Jb (by walk_at "om") (by walk_at "om")) ?_;refine cx ?_ ?_
  ·rw[hl];exact M0 (bh (by show i+1<=1000;walk_at "om"))
  walk_at "";refine⟨_,_,_,rfl,⟨by walk_at "om",by walk_at "om"⟩,rfl,?_,uR hw (zO (by walk_at "om") (by walk_at "om"))⟩;rw[Mn,hl];rfl
 ·rintro σ H2 ⟨z,w,v,rfl,_,rfl,hl,hw⟩;walk_at "";exact k w hl hw
def yk:Sp:=fun vs H Q _=>∃(b:Str) (p s k:Int),vs=[.str b,.int p,.int s,.int k]/\b.length=8/\Low b/\0<=p/\p<s/\s<=8/\0<=k/\k<=100 /\
 ∀(w:Str) (c:Nat),w.length=s.toNat->Low w->b.cps.toList[p.toNat]?=some c->w.cps.toList[p.toNat]?=some (97+(((c:Int)-97+3*k) % 26).toNat)->Q (.str w) H
def xP (K:Fg):TS:=(aF (aR (tC (.str "abcdefghijklmnopqrstuvwxyz")) (aO 4))
 (aF (aR (aE o_ (ag 4) (aE bB (aE bW (fX K "str" uu (ag 4) (ao (aE o_ (ag 0) (ag 1)) aA)) (aE (rI CMul fun i j=>.int (i*j)) (tC (.int 3)) (ag 3))) (tC (.int 26)))) (aO 5))
 (aY (aE cZ (aE cZ (jb Cb (ag 0) bT (dA (ag 1))) (ag 5)) (jb Cb (ag 0) (dA (aE bW (ag 1) (tC (.int 1)))) (dA (ag 2)))))))
theorem E8{K:Fg}{N:List Str}(hN:N.length=6)(h:yk vs H Q E):xP K (ends Q) (L2.start N vs) H:=by
 obtain⟨b,p,s,k,rfl,hb,lb,p0,p1,s8,k0,k1,q⟩:=h;rw[L2.cu hN];walk_at "t";unfold xP;have hp:p.toNat<b.cps.toList.length:=by rw[bY];walk_at "om"
 have hc:=lb _ (Nb hp);have e1:b.cps.toList[p.toNat]?=some b.cps.toList[p.toNat]:=Ld hp;generalize b.cps.toList[p.toNat]=c at hc e1
 have e2:i8 b.cps.toList p=some c:=by
  have e:p=((p.toNat:Nat):Int):=by walk_at "om"
  have q:=ba e1;rw[<- e] at q;exact q
 have bl:b.length<=sizeLine:=by rw[hb];decide
 walk_at "";refine⟨rfl,?_⟩;walk_at "";refine xt bl e2 ?_;refine⟨_,_,rfl,rfl,?_⟩
 have ec:(⟨#[c]⟩:Str)=⟨#[97+(c-97)]⟩:=by
  have:c=97+(c-97):=by walk_at "om"
  rw[<- this]
 rw[ec,GH (c-97) (by walk_at "om")];walk_at "";have ej:(((c-97:Nat):Int)+3*k) % 26=((c:Int)-97+3*k) % 26:=by congr 1;walk_at "om"
 rw[ej];refine xt Et (Jb (by walk_at "om") (by walk_at "om")) ?_;walk_at "";refine⟨_,rfl,bl,trivial,p0,?_⟩;have n1:=oW b none (some p);have n2:=oW b (some (p+1)) (some s);simp only[El,LK,bY,hb,Option.getD] at n1 n2
 have Yi:(kN b none (some p)).length=p.toNat:=by
  rw[n1]
  have:(0:Int).toNat=0:=rfl
  walk_at "om"
 have n2':(kN b (some (p+1)) (some s)).length=s.toNat-(p.toNat+1):=by
  rw[n2];walk_at "om"
 walk_at "";refine cx ?_ ?_
 ·rw[Yi];exact M0 (bh (by show p.toNat+1<=1000;walk_at "om"))
 walk_at "";refine⟨_,rfl,bl,(by show 0<=p+1;walk_at "om"),(by show 0<=s;walk_at "om"),?_⟩;refine cx ?_ ?_
 ·rw[Mn,Yi,n2'];exact M0 (bh (by show p.toNat+1+_<=1000;walk_at "om"))
 refine q _ c ?_ (uR (uR (uQ lb) (zO (by walk_at "om") (by walk_at "om"))) (uQ lb)) e1 ?_
 ·rw[Mn,Mn,Yi,n2'];show p.toNat+1+_=_;walk_at "om"
 ·rw[Tl,Tl,PM,PM,MF,L7 (by rw[bY,Yi];exact Lf _),bY,Yi,Uy];rfl
def Bc(w:Str):Prop:=1<=w.length/\w.length<=8/\Low w
def qp(ws:List Str):Prop:=ws.Nodup/\∀w∈ws,Bc w
def tQ(K:Fg):Sp:=fun vs H Q _=>∃(a:Addr) (ns:List Int) (t m:Int),vs=[.ref a,.int t,.int m]/\SqL K H a (ns.map V.int)/\0<=t/\1<=m/\m<=5 /\
 ∀(p:Addr) (H':Hp) (ws:List Str),AccZ K H p H' (ws.map Mu)->qp ws->ws.length=m.toNat->Q (.ref p) H'
theorem fC{α:Type}{xs:List α}{x:α}(h:xs.Nodup)(n:x∉xs):(xs++[x]).Nodup:=by
 rw[UD];refine⟨h,by simp,?_⟩;intro a ha b hb e;rw[Lw.mp hb] at e;exact n (e ▸ ha)
theorem gU{α:Type}{P:α->Prop}{xs:List α}{x:α}(h:∀y∈xs,P y)(n:P x):∀y∈xs++[x],P y:=fun y hy=>by
 rcases L5.mp hy with q|q
 ·exact h y q
 ·rw[Lw.mp q];exact n
def sX(K:Fg):TS:=(aF (aR (bo (fo K) [] E0 (ao (ag 0) (ao (ag 1) aA))) (aO 3))
 (aF (aR (aE bW (tC (.int 1)) (aE bB (ag 3) (tC (.int 8)))) (aO 4))
 (aF (aR (bo yz [] E0 (ao (bo (fo K) [] E0 (ao (ag 0) (ao (aE bW (ag 1) (tC (.int 1))) aA))) (ao (tC (.int 8)) aA))) (aO 5))
 (aF (aR (cW aA) (aO 6))
 (aF (eW (fE (ao (ag 2) aA)) (aO 7)
 (aF (aR (bo yk [] E0 (ao (ag 5) (ao (aE bB (aE ft (ag 3) (tC (.int 32))) (ag 4)) (ao (ag 4) (ao (ag 7) aA))))) (aO 8))
 (aF (bq (bg (aE fq (aE bB (aE ft (ag 3) (tC (.int 8))) (tC (.int 4))) (tC (.int 1))))
 (aR (jb Cb (ag 5) bT (dA (aE bW (ag 7) (tC (.int 1))))) (aO 8))
 bp)
 (gf (fX K "list" di (ag 6) (ao (ag 8) aA))))))
 (aY (ag 6)))))))
theorem BL{K:Fg}{N:List Str}(hN:N.length=9)(h:tQ K vs H Q E):sX K (ends Q) (L2.start N vs) H:=by
 obtain⟨a,ns,t,m,rfl,hS,t0,m1,m5,k⟩:=h;rw[L2.cu hN];walk_at "t";unfold sX;walk_at "";refine⟨a,ns,t,rfl,hS,t0,?_⟩;generalize cellOf ns t=c;walk_at "";refine⟨a,ns,t+1,rfl,hS,by walk_at "om",?_⟩;generalize cellOf ns (t+1)=c2;walk_at "";refine⟨c2,8,rfl,by decide,by decide,fun b hb lb=>?_⟩;walk_at "";refine⟨by decide,fun l nl=>?_⟩;walk_at "";have sp:0<1+c % 8:=by walk_at "om"
 refine cO (fun i σ H2=>∃(ws:List Str) (v7 v8:Option V),σ=[some (.ref a),some (.int t),some (.int m),some (.int c),some (.int (1+c % 8)),some (.str b),some (.ref l),v7,v8]/\AccZ K H l H2 (ws.map Mu)/\ws.length=i/\qp ws /\
   ∀(j:Nat) (w:Str),ws[j]?=some w->(c / 8 % 4=1->w.length=j+1)/\(c / 8 % 4≠1->∃e:Nat,b.cps.toList[(c / 32 % (1+c % 8)).toNat]?=some e/\w.cps.toList[(c / 32 % (1+c % 8)).toNat]?=some (97+(((e:Int)-97+3*(j:Int)) % 26).toNat)))
  ⟨[],none,none,rfl,AccZ.start (Same.refl _) nl,rfl,⟨MV,by simp⟩,by simp⟩ ?_ ?_
 ·rintro i σ H2 hi ⟨ws,v7,v8,rfl,A,hl,hw,hj⟩;have pm0:=No (c / 32) (b:=1+c % 8) (by walk_at "om");have pm1:=MT (c / 32) sp;walk_at "";refine⟨b,c / 32 % (1+c % 8),1+c % 8,0+(i:Int),rfl,hb,lb,pm0,pm1,by walk_at "om",by walk_at "om",by walk_at "om",fun w e n1 n2 e1 e2=>?_⟩
  have fin:∀x:Str,Bc x->((c / 8 % 4=1->x.length=i+1)/\(c / 8 % 4≠1->∃e:Nat,b.cps.toList[(c / 32 % (1+c % 8)).toNat]?=some e/\x.cps.toList[(c / 32 % (1+c % 8)).toNat]?=some (97+(((e:Int)-97+3*(i:Int)) % 26).toNat))) ->
    qp (ws++[x])/\∀(j:Nat) (w:Str),(ws++[x])[j]?=some w->(c / 8 % 4=1->w.length=j+1)/\(c / 8 % 4≠1->∃e:Nat,b.cps.toList[(c / 32 % (1+c % 8)).toNat]?=some e/\w.cps.toList[(c / 32 % (1+c % 8)).toNat]?=some (97+(((e:Int)-97+3*(j:Int)) % 26).toNat)):=by
   intro x ox px;refine⟨⟨fC hw.1 fun hx=>?_,gU hw.2 ox⟩,fun j w e=>?_⟩
   ·obtain⟨j,hj1,hj2⟩:=Tf.mp hx;have g:ws[j]?=some x:=by rw[Ld hj1,hj2]
    obtain⟨q1,q2⟩:=hj j x g;by_cases f:c / 8 % 4=1
    ·have:=q1 f
     have:=px.1 f
     walk_at "om"
    ·obtain⟨e',g1,g2⟩:=q2 f;obtain⟨e'',g3,g4⟩:=px.2 f;rw[g1] at g3;cases g3;rw[g2] at g4;have g5:=LD g4;walk_at "om"
   ·by_cases lt:j<ws.length
    ·rw[Mc lt] at e;exact hj j w e
    ·rw[L7 (by walk_at "om")] at e
     have z:j-ws.length=0:=by
      rcases Nat.eq_zero_or_pos (j-ws.length) with z|z
      ·exact z
      ·rw[NG (by simp;walk_at "om")] at e;cases e
     rw[z] at e;have e':x=w:=by simpa using e
     have ej:j=i:=by walk_at "om"
     rw[<- e',ej];exact px
  walk_at "";refine bZ (fun f=>?_) (fun f=>?_)
  ·walk_at "";refine⟨_,rfl,by rw[hb];decide,trivial,(by show 0<=0+(i:Int)+1;walk_at "om"),?_⟩;have sl:=oW b none (some (0+(i:Int)+1));simp only[El,LK,bY,hb,Option.getD] at sl
   have W4:(kN b none (some (0+(i:Int)+1))).length=i+1:=by
    rw[sl]
    have:(0:Int).toNat=0:=rfl
    have:(8:Int).toNat=8:=rfl
    walk_at "om"
   walk_at "";refine⟨A.ty,?_⟩;walk_at "";refine f7 A (.str _) (bh (by rw[K9];walk_at "om")) fun H3 A3 _ _ _=>?_
   walk_at "";obtain⟨r1,r2⟩:=fin (kN b none (some (0+(i:Int)+1))) ⟨by walk_at "om",by walk_at "om",uQ lb⟩ ⟨fun _=>W4,fun z=>absurd f z⟩;exact⟨ws++[_],_,_,rfl,by rw[Lq];exact A3,by simp[hl],r1,r2⟩
  ·walk_at "";refine⟨A.ty,?_⟩;walk_at "";refine f7 A (.str _) (bh (by rw[K9];walk_at "om")) fun H3 A3 _ _ _=>?_
   walk_at "";have ei:(0:Int)+(i:Int)=(i:Int):=by walk_at "om"
   rw[ei] at e2;obtain⟨r1,r2⟩:=fin w ⟨by walk_at "om",by walk_at "om",n2⟩ ⟨fun z=>absurd z f,fun _=>⟨e,e1,e2⟩⟩;exact⟨ws++[w],_,_,rfl,by rw[Lq];exact A3,by simp[hl],r1,r2⟩
 ·rintro σ H2 ⟨ws,v7,v8,rfl,A,hl,hw,hj⟩;walk_at "";exact k l H2 ws A hw hl
def jH(q d:Int):Prop:=0<q/\0<d/\Gd.gd q d=1/\q<=10000000000/\d<=10000000000
def qG(K:Fg):Sp:=fun vs H Q _=>∃t b:Int,vs=[.int t,.int b]/\0<t/\0<b/\t<=10000000000/\b<=10000000000/\∀(p:Addr) (q d:Int) (H':Hp),Same H H'->jH q d->Rz K H' (.ref p) (dI [q,d])->Q (.ref p) H'
def yp(K:Fg):Sp:=fun vs H Q _=>∃(a b:Int) (g:Bool),vs=[.int a,.int b,.bl g]/\Mx a/\Mx b/\∀(p:Addr) (q d:Int) (H':Hp),Same H H'->jH q d->Rz K H' (.ref p) (dI [q,d])->Q (.ref p) H'
def xW(K:Fg):TS:=(aF (bq (tB (ag 2))
 (aY (bo (qG K) [] E0 (ao (aE bW (tC (.int 1)) (aE bB (aE (rI CMul fun i j=>.int (i*j)) (ag 0) (tC (.int 9))) (aE xc (aE Hv (tC (.int 10)) (tC (.int 10))) (tC (.int 1))))) (ao (aE bW (tC (.int 1)) (aE bB (aE (rI CMul fun i j=>.int (i*j)) (ag 1) (tC (.int 7))) (aE xc (aE Hv (tC (.int 10)) (tC (.int 10))) (tC (.int 1))))) aA))))
 bp)
 (aY (bo (qG K) [] E0 (ao (aE bW (tC (.int 1)) (aE bB (ag 0) (tC (.int 9)))) (ao (aE bW (tC (.int 1)) (aE bB (ag 1) (tC (.int 4)))) aA)))))
theorem Jw:(10:Int) ^ (10:Int).toNat=10000000000:=by decide +kernel
theorem Fc{K:Fg}{N:List Str}(hN:N.length=3)(h:yp K vs H Q E):xW K (ends Q) (L2.start N vs) H:=by
 obtain⟨a,b,g,rfl,⟨a0,a1⟩,⟨b0,b1⟩,k⟩:=h;rw[L2.cu hN];walk_at "t";unfold xW;walk_at "";cases g
 ·walk_at "";exact⟨_,_,rfl,by walk_at "om",by walk_at "om",by walk_at "om",by walk_at "om",k⟩
 ·walk_at "";rw[Jw];walk_at "";rw[Jw];walk_at "";exact⟨_,_,rfl,by walk_at "om",by walk_at "om",by walk_at "om",by walk_at "om",k⟩
theorem io(ns:List Int)(n:Nat):kqdOk (n+1) (dI ns)=true:=by
 show((ns.map ND).all (kqdOk n))=true;rw[Mp];intro x hx;obtain⟨i,_,rfl⟩:=Lm.mp hx;cases n <;> rfl
theorem jF(h:dI a=dI b):a=b:=by
 have:=TU h
 exact(T_ (fun x y e=>ND.inj e)).mp this
theorem HJ{hs:List (List Int)}:dI a∈hs.map dI↔a∈hs:=by
 rw[Lm];constructor
 ·rintro⟨b,hb,e⟩;rw[<- jF e];exact hb
 ·intro h;exact⟨a,h,rfl⟩
def Bd(n:Nat)(hs:List (List Int)):Prop:=hs.Nodup/\∀h∈hs,bv n h
def yn(K:Fg):Sp:=fun vs H Q _=>∃(a:Addr) (ns:List Int) (t m:Int),vs=[.ref a,.int t,.int m]/\SqL K H a (ns.map V.int)/\0<=t/\1<=m/\m<=5 /\
 ∀(p:Addr) (H':Hp) (hs:List (List Int)),AccZ K H p H' (hs.map dI)->Bd m.toNat hs->2<=hs.length->hs.length<=8->Q (.ref p) H'
def xT(K:Fg):TS:=(aF (aR (bo (fo K) [] E0 (ao (ag 0) (ao (ag 1) aA))) (aO 3))
 (aF (aR (aE (cy K) (cW (ao (tC (.int 1)) (ao (tC (.int 2)) (ao (tC (.int 3)) (ao (tC (.int 1)) aA))))) (aE bB (ag 3) (tC (.int 4)))) (aO 4))
 (aF (aR (cW aA) (aO 5))
 (aF (eW (fE (ao (aE bW (tC (.int 2)) (aE bB (aE ft (ag 3) (tC (.int 4))) (tC (.int 7)))) aA)) (aO 6)
 (aF (aR (bo (yr K) [] E0 (ao (aE (cy K) (bo (oN K) [] E0 (ao (bo (fo K) [] E0 (ao (ag 0) (ao (aE bW (aE bW (ag 1) (tC (.int 1))) (ag 6)) aA))) (ao (tC (.int 1)) aA))) (tC (.int 0))) (ao (ag 2) (ao (ag 4) aA)))) (aO 7))
 (bq (bg (aE (ut K true) (ag 7) (ag 5)))
 (gf (fX K "list" di (ag 5) (ao (ag 7) aA)))
 bp)))
 (aF (bq (bg (aE uq (b_ (cM K) (ao (ag 5) aA)) (tC (.int 2))))
 (gf (fX K "list" di (ag 5) (ao (b_ (dH K) (ao (aE mL (cW (ao (b_ ur (ao (aE fq (aE (bt K) (aE (cy K) (ag 5) (tC (.int 0))) (tC (.int 0))) (tC (.int 0))) aA)) aA)) (eI (fE (ao (aE xc (ag 2) (tC (.int 1))) aA)) (tC (.int 0)))) aA)) aA)))
 bp)
 (aY (ag 5)))))))
theorem KE(i:Int)(h0:0<=i)(h1:i<4):∃j:Int,i8 [V.int 1,.int 2,.int 3,.int 1] i=some (.int j)/\0<=j/\j<=3:=by
 rcases (by walk_at "om":i=0\/i=1\/i=2\/i=3) with rfl|rfl|rfl|rfl
 ·exact⟨1,rfl,by decide,by decide⟩
 ·exact⟨2,rfl,by decide,by decide⟩
 ·exact⟨3,rfl,by decide,by decide⟩
 ·exact⟨1,rfl,by decide,by decide⟩
theorem Fb{K:Fg}{N:List Str}(hN:N.length=8)(h:yn K vs H Q E):xT K (ends Q) (L2.start N vs) H:=by
 obtain⟨a,ns,t,m,rfl,hS,t0,m1,m5,k⟩:=h;rw[L2.cu hN];walk_at "t";unfold xT;walk_at "";refine⟨a,ns,t,rfl,hS,t0,?_⟩;generalize cellOf ns t=c;walk_at "";refine⟨oV,fun l4 n4=>?_⟩;have S4:=au n4 (.lst [V.int 1,.int 2,.int 3,.int 1]);obtain⟨mo,e4,mo0,mo3⟩:=KE (c % 4) (by walk_at "om") (by walk_at "om");walk_at "";refine cK (SqL.of aq) e4 ?_;generalize hH1:upd H l4 (.lst [V.int 1,.int 2,.int 3,.int 1])=H1 at S4 ⊢;walk_at "";refine⟨by decide,fun l nl=>?_⟩;walk_at ""
 refine cO (fun i σ H2=>∃(hs:List (List Int)) (v6 v7:Option V),σ=[some (.ref a),some (.int t),some (.int m),some (.int c),some (.int mo),some (.ref l),v6,v7]/\AccZ K H l H2 (hs.map dI)/\hs.length<=i/\Bd m.toNat hs/\(0<i->hs≠[]))
  ⟨[],none,none,rfl,AccZ.start S4 nl,Lf _,⟨MV,by simp⟩,by simp⟩ ?_ ?_
 ·rintro i σ H2 hi ⟨hs,v6,v7,rfl,A,hl,hp,_⟩;walk_at "";refine⟨a,ns,t+1+(0+(i:Int)),rfl,A.same.seq hS,by walk_at "om",?_⟩;generalize cellOf ns (t+1+(0+(i:Int)))=c1;walk_at "";refine⟨c1,1,rfl,by decide,by decide,fun px H3 xs X3 lx bx=>?_⟩;obtain⟨x,rfl⟩:∃x,xs=[x]:=OR.mp lx;have S3:=X3.same;have sx:SqL K H3 px ([x].map V.int):=SqL.of (AccZ.ints X3);walk_at "";refine cK sx (v:=.int x) rfl ?_;walk_at "";refine⟨x,m,mo,rfl,by walk_at "om",by walk_at "om",mo0,mo3,fun ph H4 h YC oh rh=>?_⟩;have A4:=(A.on S3).on YC;walk_at "";refine wf rh.rep A4.rep (fun e he=>by obtain⟨b,_,rfl⟩:=Lm.mp he;exact io b 7) (io h 7) (fun nm=>?_) (fun mm=>?_)
  ·walk_at "";refine⟨A4.ty,?_⟩;walk_at "";refine f7 A4 rh (bh (by rw[K9];walk_at "om")) fun H5 A5 _ _ _=>?_
   walk_at "";exact⟨hs++[h],_,_,rfl,by rw[Lq];exact A5,by simp;walk_at "om",⟨fC hp.1 fun z=>nm (HJ.mpr z),gU hp.2 oh⟩,by simp⟩
  ·walk_at "";exact⟨hs,_,_,rfl,A4,by walk_at "om",hp,fun _ z=>by rw[z] at mm;cases mm⟩
 ·rintro σ H2 ⟨hs,v6,v7,rfl,A,hl,hp,WO⟩;have ne:=WO (by walk_at "om");obtain⟨xs,sx,lx,rx⟩:=A.sq;rw[K9] at lx;walk_at "";refine cF sx ?_;walk_at "";refine bZ (fun few=>?_) (fun few=>?_)
  ·have l1:hs.length=1:=by
    have:=OH.mpr ne
    walk_at "om"
   obtain⟨h,rfl⟩:∃x,hs=[x]:=OR.mp l1;have oh:=hp.2 h (by simp);obtain⟨h1,hr,eh⟩:∃h1 hr,h=h1 :: hr:=List.exists_cons_of_length_pos (by have:=oh.1;walk_at "om");obtain⟨v,ev,rv⟩:=RpL.get' (i:=0) rx (d:=dI h) rfl;obtain⟨ah,ys,e1,sh,rh⟩:=rv.xM;cases e1;cases RpL.ints_of rh;walk_at "";refine⟨A.ty,?_⟩;walk_at "";refine cK sx (ba (j:=0) ev) ?_;walk_at "";refine bu sh (v:=.int h1) (ba (j:=0) (by rw[eh];rfl)) ?_;walk_at "";refine⟨ib,fun q1 nq1=>?_⟩;have Sq1:=au nq1 (.lst [V.int (if decide (h1=0)=true then 1 else 0)]);have eq1:upd H2 q1 (.lst [V.int (if decide (h1=0)=true then 1 else 0)]) q1=some (.lst [V.int (if decide (h1=0)=true then 1 else 0)]):=aq;generalize upd H2 q1 (.lst [V.int (if decide (h1=0)=true then 1 else 0)])=H3 at Sq1 eq1 ⊢;walk_at "";refine eR fun Dl nD=>⟨fun j H4=>AccZ K H3 Dl H4 ((LG j (0:Int)).map ND),AccZ.start (Same.refl _) nD,?_,?_⟩
   ·intro j H4 hj B;walk_at "";refine cw hj ?_;obtain⟨zs,z1,z2⟩:=B.at_;refine⟨zs,z1,?_,⟨B.aq,B.new,_,aq,?_⟩⟩
    ·rw[z2.length,K9,Me];exact bh (by walk_at "om")
    ·have w:=RzL.upd (K:=K) (o:=.lst (zs++[.int 0])) (z2.append (.cons (.int 0) .nil)) z1;rw[QH,Lq];exact w
   ·intro H4 B
    have eB:H4 Dl=some (.lst ((LG (m-1).toNat (0:Int)).map V.int)):=by
     obtain⟨zs,z1,z2⟩:=B.at_;rw[RpL.ints_of z2] at z1;exact z1
    have Sc:=B.same;walk_at "";refine⟨q1,Dl,_,_,rfl,rfl,Sc _ _ eq1,eB,?_,fun q2 XC=>?_⟩
    ·rw[K9,Me];exact M0 (bh (by show 1+_<=1000;walk_at "om"))
    have Sq2:=au XC (.lst ([V.int (if decide (h1=0)=true then 1 else 0)]++(LG (m-1).toNat (0:Int)).map V.int));have eq2:upd H4 q2 (.lst ([V.int (if decide (h1=0)=true then 1 else 0)]++(LG (m-1).toNat (0:Int)).map V.int)) q2=some (.lst (((if decide (h1=0)=true then (1:Int) else 0) :: LG (m-1).toNat (0:Int)).map V.int)):=aq;generalize upd H4 q2 (.lst ([V.int (if decide (h1=0)=true then 1 else 0)]++(LG (m-1).toNat (0:Int)).map V.int))=H5 at Sq2 eq2 ⊢;walk_at "";refine e9 (SqL.of eq2) fun p np=>?_
    walk_at "";have Sp:=au np (.tup (((if decide (h1=0)=true then (1:Int) else 0) :: LG (m-1).toNat (0:Int)).map V.int));have A5:=((((A.on Sq1).on Sc).on Sq2).on Sp)
    refine f7 A5 (d:=dI ((if decide (h1=0)=true then (1:Int) else 0) :: LG (m-1).toNat (0:Int))) (.tup aq (RpL.ints _)) (bh (by simp)) fun H6 A6 _ _ _=>?_
    walk_at "";refine k l H6 ([h]++[_]) (by rw[Lq];exact A6) ⟨fC hp.1 fun z=>?_,gU hp.2 ⟨?_,fun x hx=>?_⟩⟩ (by simp) (by simp)
    ·have z':=Lw.mp z;rw[eh] at z';have z2:=(MK z').1;by_cases YM:h1=0
     ·rw[decide_eq_true YM] at z2;simp at z2;walk_at "om"
     ·rw[decide_eq_false YM] at z2;simp at z2;walk_at "om"
    ·simp;walk_at "om"
    ·rcases Lr.mp hx with e|e
     ·rw[e];by_cases YM:h1=0
      ·rw[decide_eq_true YM];simp
      ·rw[decide_eq_false YM];simp
     ·rw[(Re.mp e).2];decide
  ·walk_at "";exact k l H2 hs A hp (by walk_at "om") (by walk_at "om")
end G1
namespace L2
open PySem PySem.W
mutual
def Ea:Dat->Bool
 |.list _=>false
 |.tuple ds=>uN ds
 |_=>true
def uN:List Dat->Bool
 |[]=>true
 |d :: ds=>Ea d && uN ds
end
mutual
theorem Rp.toZ{K:Frag}{S:Addr->Prop}{H:Hp}:∀{v:V} {d:Dat},Ea d=true->Rp K S H v d->Rz K H v d
 |_,_,_,.non=>.non
 |_,_,_,.bl b=>.bl b
 |_,_,_,.int i=>.int i
 |_,_,_,.str x=>.str x
 |_,_,h,.tup e r=>.tup e (RpL.toZ (by simpa[Ea] using h) r)
 |_,_,h,.lst _ _ _=>by simp[Ea] at h
theorem RpL.toZ{K:Frag}{S:Addr->Prop}{H:Hp}:∀{vs:List V} {ds:List Dat},uN ds=true->RpL K S H vs ds->RzL K H vs ds
 |_,_,_,.nil=>.nil
 |_,d :: ds,h,.cons a r=>by
  have h':Ea d=true/\uN ds=true:=by simpa[uN] using h
  exact .cons (Rp.toZ h'.1 a) (RpL.toZ h'.2 r)
end
theorem pH{α:Type}{f:α->Dat}(h:∀a,Ea (f a)=true):∀xs:List α,uN (xs.map f)=true
 |[]=>rfl
 |x :: xs=>by
  show(Ea (f x) && uN (xs.map f))=true;rw[h x,pH h xs];rfl
end L2
namespace G1
open PySem L2 Fr
open PySem.W (Dat kqdOk)
theorem HF(ns:List Int):Ea (dI ns)=true:=pH (fun _=>rfl) ns
structure Tn where
 fr:List Int
 to:List Int
 q:Int
 d:Int
def dT(t:Tn):Dat:=.tuple [dI t.fr,dI t.to,dI [t.q,t.d]]
def TurnOk(hs:List (List Int))(t:Tn):Prop:=t.fr∈hs/\t.to∈hs/\t.fr≠t.to/\jH t.q t.d
def qc(t:Tn):List Int×List Int:=(t.fr,t.to)
structure vv (hs:List (List Int)) (ts:List Tn):Prop where
 ne:ts≠[]
 le:ts.length<=8
 nd:(ts.map qc).Nodup
 ok:∀t∈ts,TurnOk hs t
def dP(p:Nat×Nat):Dat:=dI [(p.1:Int),(p.2:Int)]
theorem IW(h:dP a=dP b):a=b:=by
 have e:=jF h;have e1:(a.1:Int)=b.1:=(MK e).1;have e2:(a.2:Int)=b.2:=(MK (MK e).2).1;obtain⟨a1,a2⟩:=a;obtain⟨b1,b2⟩:=b;have YK:a1=b1:=VB e1;have XH:a2=b2:=VB e2;rw[YK,XH]
theorem HI{ps:List (Nat×Nat)}:dP a∈ps.map dP↔a∈ps:=by
 rw[Lm];constructor
 ·rintro⟨b,hb,e⟩;rw[<- IW e];exact hb
 ·intro h;exact⟨a,h,rfl⟩
def sL(n:Nat)(p:Nat×Nat):Prop:=p.1<n/\p.2<n/\p.1≠p.2
def two(hs:List (List Int))(p:Nat×Nat):List Int×List Int:=(hs.getD p.1 [],hs.getD p.2 [])
structure Good (hs:List (List Int)) (ps:List (Nat×Nat)) (ts:List Tn):Prop where
 nd:ps.Nodup
 le:ps.length<=8
 eq:ts.map qc=ps.map (two hs)
 ok:∀p∈ps,sL hs.length p
 pc:∀t∈ts,jH t.q t.d
theorem Good.nil(hs:List (List Int)):Good hs [] []:=⟨MV,by simp,rfl,by simp,by simp⟩
theorem Good.push(g:Good hs ps ts){p:Nat×Nat}(n:p∉ps)(l:ps.length<8)(o:sL hs.length p)(c:jH q d):Good hs (ps++[p]) (ts++[⟨hs.getD p.1 [],hs.getD p.2 [],q,d⟩]) :=
 ⟨fC g.nd n,by simp;walk_at "om",by rw[Lq,Lq,g.eq];rfl,gU g.ok o,gU g.pc c⟩
theorem getD_mem{hs:List (List Int)}{i:Nat}(h:i<hs.length):hs.getD i []∈hs:=by
 rw[Mz,Ld h];exact Nb h
theorem lT{hs:List (List Int)}(nd:hs.Nodup){i j:Nat}(hi:i<hs.length)(hj:j<hs.length)(e:hs.getD i []=hs.getD j []):i=j:=by
 rw[Mz,Ld hi,Mz,Ld hj] at e;have e':hs[i]=hs[j]:=e;have pw:=NE.mp nd;rcases NA i j with z|z|z
 ·exact absurd e' (pw i j hi hj z)
 ·exact z
 ·exact absurd e'.symm (pw j i hj hi z)
theorem nodup_map_on{α β:Type}{f:α->β}:∀{xs:List α},xs.Nodup->(∀a∈xs,∀b∈xs,f a=f b->a=b)->(xs.map f).Nodup
 |[],_,_=>MV
 |x :: xs,h,hf=>by
  rw[LP,Mg];refine⟨fun hm=>?_,nodup_map_on (Mg.mp h).2 fun a ha b hb=>hf a (Lj _ ha) b (Lj _ hb)⟩;obtain⟨y,hy,e⟩:=Lm.mp hm;rw[<- hf y (Lj _ hy) x Lg e] at h;exact(Mg.mp h).1 hy
theorem Good.turns(g:Good hs ps ts)(nd:hs.Nodup)(ne:ps≠[]):vv hs ts:=by
 have len:ts.length=ps.length:=by have:=congrArg Oo g.eq;simpa using this
 refine⟨fun z=>?_,by rw[len];exact g.le,?_,fun t ht=>?_⟩
 ·rw[z] at len;exact ne (MB.mp len.symm)
 ·rw[g.eq];refine nodup_map_on g.nd fun a ha b hb e=>?_
  have oa:=g.ok a ha;have ob:=g.ok b hb;have e1:=lT nd oa.1 ob.1 (congrArg VE e);have e2:=lT nd oa.2.1 ob.2.1 (congrArg VF e);obtain⟨a1,a2⟩:=a;obtain⟨b1,b2⟩:=b;simp only at e1 e2;rw[e1,e2]
 ·have hm:qc t∈ps.map (two hs):=by rw[<- g.eq];exact Lm.mpr ⟨t,ht,rfl⟩
  obtain⟨p,hp,e⟩:=Lm.mp hm;have op:=g.ok p hp;have e1:hs.getD p.1 []=t.fr:=congrArg VE e;have e2:hs.getD p.2 []=t.to:=congrArg VF e;refine⟨e1 ▸ getD_mem op.1,e2 ▸ getD_mem op.2.1,fun z=>op.2.2 ?_,g.pc t ht⟩;rw[<- e1,<- e2] at z;exact lT nd op.1 op.2.1 z
def yl(K:Fg):Sp:=fun vs H Q _=>∃(a pl:Addr) (ns:List Int) (t:Int) (S:Addr->Prop) (hs:List (List Int)),vs=[.ref a,.int t,.ref pl]/\SqL K H a (ns.map V.int)/\0<=t/\Rp K S H (.ref pl) (.list (hs.map dI))/\hs.Nodup/\2<=hs.length/\hs.length<=8 /\
 ∀(p:Addr) (H':Hp) (ts:List Tn),AccZ K H p H' (ts.map dT)->vv hs ts->Q (.ref p) H'
def oB(K:Fg):TS:=(eW (gY K (jb (o9 K) (cW (ao (cV (ao (ag 8) (ao (ag 9) aA))) (ao (cV (ao (ag 9) (ao (ag 8) aA))) aA))) bT (dA (aE bW (tC (.int 1)) (b_ ur (ao (aE fq (aE bB (ag 3) (tC (.int 4))) (tC (.int 2))) aA)))))) (aO 10)
 (bq (Bw (bg (aE (ut K true) (ag 10) (ag 4))) (bg (aE uq (b_ (cM K) (ao (ag 4) aA)) (tC (.int 8)))))
 (aF (gf (fX K "list" di (ag 4) (ao (ag 10) aA)))
 (aF (aR (bo (yp K) [] E0 (ao (aE (cy K) (ag 7) (aE bW (tC (.int 2)) (aE bB (aE (bt K) (ag 10) (tC (.int 0))) (tC (.int 2))))) (ao (aE (cy K) (ag 7) (aE bW (tC (.int 4)) (aE bB (aE (bt K) (ag 10) (tC (.int 0))) (tC (.int 2))))) (ao (aE fq (aE bB (aE ft (ag 3) (tC (.int 32))) (tC (.int 4))) (tC (.int 1))) aA)))) (aO 11))
 (gf (fX K "list" di (ag 5) (ao (cV (ao (aE (cy K) (ag 2) (aE (bt K) (ag 10) (tC (.int 0)))) (ao (aE (cy K) (ag 2) (aE (bt K) (ag 10) (tC (.int 1)))) (ao (ag 11) aA)))) aA)))))
 bp))
def xQ(K:Fg):TS:=(aF (aR (bo (fo K) [] E0 (ao (ag 0) (ao (ag 1) aA))) (aO 3))
 (aF (aR (cW aA) (aO 4))
 (aF (aR (cW aA) (aO 5))
 (aF (eW (fE (ao (aE bW (tC (.int 1)) (aE bB (aE ft (ag 3) (tC (.int 4))) (tC (.int 8)))) aA)) (aO 6)
 (aF (aR (bo (oN K) [] E0 (ao (bo (fo K) [] E0 (ao (ag 0) (ao (aE bW (aE bW (ag 1) (tC (.int 1))) (ag 6)) aA))) (ao (tC (.int 6)) aA))) (aO 7))
 (aF (aR (aE bB (aE (cy K) (ag 7) (tC (.int 0))) (b_ (cM K) (ao (ag 2) aA))) (aO 8))
 (aF (aR (aE bB (aE bW (aE bW (ag 8) (tC (.int 1))) (aE bB (aE (cy K) (ag 7) (tC (.int 1))) (aE xc (b_ (cM K) (ao (ag 2) aA)) (tC (.int 1))))) (b_ (cM K) (ao (ag 2) aA))) (aO 9))
 (aF (bq (bg (aE fq (aE bB (ag 3) (tC (.int 4))) (tC (.int 1))))
 (aF (aR (aE bB (ag 6) (b_ (cM K) (ao (ag 2) aA))) (aO 8))
 (aR (aE bB (aE bW (ag 6) (tC (.int 1))) (b_ (cM K) (ao (ag 2) aA))) (aO 9)))
 bp)
 (oB K))))))
 (aY (ag 5))))))
theorem Jv{ns:List Int}(h:ns.length=6)(j:Nat)(hj:j<6)(hb:∀n∈ns,Mx n):∃n,Mx n/\i8 (ns.map V.int) (j:Int)=some (.int n):=by
 have hj':j<ns.length:=by walk_at "om"
 exact⟨ns[j],hb _ (Nb hj'),ba (by rw[Ll,Ld hj'] <;> rfl)⟩
theorem qU{K:Fg}{D:dk}{ps:List (Nat×Nat)}{ts:List Tn}{ys:List Int}{o w:Nat}{u0 u1 u6 v10 v11:Option V}
  (A1:AccZ K H l1 H4 (ps.map dP)) (A2:AccZ K H l2 H4 (ts.map dT)) (g:Good hs ps ts) (Xd:l1≠l2) (sp:SqL K H pl xs) (rz:RzL K H xs (hs.map dI)) (sx:H4 lx=some (.lst (ys.map V.int))) (ly:ys.length=6) (XZ:∀n∈ys,Mx n)
  (nx1:lx≠l1) (nx2:lx≠l2) (po:sL hs.length (o,w))
  (fin:∀(Wz:List (Nat×Nat)) (WE:List Tn) (H5:Hp) (Ws Wt:Option V),AccZ K H l1 H5 (Wz.map dP)->AccZ K H l2 H5 (WE.map dT)->Good hs Wz WE->Wz≠[] ->
   D.nx [u0,u1,some (.ref pl),some (.int c),some (.ref l1),some (.ref l2),u6,some (.ref lx),some (.int (o:Int)),some (.int (w:Int)),Ws,Wt] H5) :
  oB K D [u0,u1,some (.ref pl),some (.int c),some (.ref l1),some (.ref l2),u6,some (.ref lx),some (.int (o:Int)),some (.int (w:Int)),v10,v11] H4:=by
 unfold oB;walk_at "";refine⟨bG,fun p1 np1=>?_⟩;have Sp1:=au np1 (.tup [V.int (o:Int),.int (w:Int)]);have rp1:Rz K (upd H4 p1 (.tup [V.int (o:Int),.int (w:Int)])) (.ref p1) (dP (o,w)):=.tup aq (RpL.ints [_,_]);generalize upd H4 p1 (.tup [V.int (o:Int),.int (w:Int)])=H5 at Sp1 rp1 ⊢;walk_at "";refine⟨bG,fun p2 WQ=>?_⟩;have Sp2:=au WQ (.tup [V.int (w:Int),.int (o:Int)]);have rp2:Rz K (upd H5 p2 (.tup [V.int (w:Int),.int (o:Int)])) (.ref p2) (dP (w,o)):=.tup aq (RpL.ints [_,_]);generalize upd H5 p2 (.tup [V.int (w:Int),.int (o:Int)])=H6 at Sp2 rp2 ⊢;walk_at "";refine⟨bG,fun p3 XB=>?_⟩;have Z0:=au XB (.lst [V.ref p1,.ref p2]);have rp3:upd H6 p3 (.lst [V.ref p1,.ref p2]) p3=some (.lst [V.ref p1,.ref p2]):=aq;generalize upd H6 p3 (.lst [V.ref p1,.ref p2])=H7 at Z0 rp3 ⊢;walk_at ""
 obtain⟨qs,cs,ec,rc,qn,qo⟩:∃(qs:List (Nat×Nat)) (cs:List V),g6 [V.ref p1,.ref p2] none (some (1+(if decide (c % 4=2)=true then 1 else 0)))=cs/\RzL K H7 cs (qs.map dP)/\qs≠[]/\∀q∈qs,sL hs.length q:=by
  have r1:Rz K H7 (.ref p1) (dP (o,w)):=(rp1.same Sp2).same Z0;have r2:Rz K H7 (.ref p2) (dP (w,o)):=rp2.same Z0;have po':sL hs.length (w,o):=⟨po.2.1,po.1,fun z=>po.2.2 z.symm⟩
  by_cases z:c % 4=2
  ·rw[decide_eq_true z];refine⟨[(o,w),(w,o)],_,rfl,.cons r1 (.cons r2 .nil),by simp,fun q hq=>?_⟩;rcases Lr.mp hq with e|e
   ·rw[e];exact po
   ·rw[Lw.mp e];exact po'
  ·rw[decide_eq_false z];refine⟨[(o,w)],_,rfl,.cons r1 .nil,by simp,fun q hq=>?_⟩;rw[Lw.mp hq];exact po
 refine⟨p3,_,rfl,SqL.of rp3,fun lp nlp=>?_⟩;rw[ec];have Sp4:=au nlp (.lst cs);have rp4:upd H7 lp (.lst cs) lp=some (.lst cs):=aq;have S47:Same H4 H7:=Sp1.trans (Sp2.trans Z0)
 have nl1:lp≠l1:=by
  obtain⟨_,z,_⟩:=A1.at_;exact(bA (S47 _ _ z) nlp).symm
 have nl2:lp≠l2:=by
  obtain⟨_,z,_⟩:=A2.at_;exact(bA (S47 _ _ z) nlp).symm
 have rc8:=rc.same Sp4;generalize upd H7 lp (.lst cs)=H8 at Sp4 rp4 rc8 ⊢;have S48:=S47.trans Sp4;have C1:=A1.on S48;have C2:=A2.on S48;have sx8:=S48 _ _ sx;refine Ae (SqL.of rp4) ?_;have lc:cs.length=qs.length:=by rw[rc.length,K9]
 refine iZ (xs:=cs) (fun j σ H9=>∃(Wz:List (Nat×Nat)) (WE:List Tn) (Ws Wt:Option V),σ=[u0,u1,some (.ref pl),some (.int c),some (.ref l1),some (.ref l2),u6,some (.ref lx),some (.int (o:Int)),some (.int (w:Int)),Ws,Wt] /\
   AccZ K H l1 H9 (Wz.map dP)/\AccZ K H l2 H9 (WE.map dT)/\Good hs Wz WE/\(0<j->Wz≠[])/\H9 lp=some (.lst cs)/\RzL K H9 cs (qs.map dP)/\H9 lx=some (.lst (ys.map V.int)))
  ⟨ps,ts,v10,v11,rfl,C1,C2,g,by simp,rp4,rc8,sx8⟩ ?_ ?_ ?_
 ·rintro j σ H9 _ ⟨_,_,_,_,_,_,_,_,_,e,_⟩;exact SqL.of e
 ·rintro j z σ H9 hz ⟨Wz,WE,Ws,Wt,rfl,B1,B2,g',_,el,rl,ex⟩;obtain⟨dq,eq,rq⟩:=rl.get hz;rw[Ll] at eq;obtain⟨q,eq1,eq2⟩:=Lu.mp eq;subst eq2;have oq:=qo q (Li eq1);obtain⟨tz,zs,e1,st,rt⟩:=rq.xM;cases e1;cases RpL.ints_of (ns:=[(q.1:Int),(q.2:Int)]) rt;have okP:∀p:Nat×Nat,kqdOk 8 (dP p)=true:=fun p=>io _ 7
  walk_at "";refine wf rq.rep B1.rep (fun e he=>by obtain⟨b,_,rfl⟩:=Lm.mp he;exact okP b) (okP q) (fun nm=>?_) (fun mm=>?_)
  ·obtain⟨x1,s1,n1,_⟩:=B1.sq;rw[K9] at n1;walk_at "";refine cF s1 ?_;walk_at "";refine bZ (fun lt=>?_) (fun ge=>?_)
   ·walk_at "";refine⟨B1.ty,?_⟩;walk_at "";refine f7 B1 rq (bh (by rw[K9];walk_at "om")) fun Xq E1 Zl Xc Zk=>?_
    have E2:=Zk Xd.symm B2;have ex1:Xq lx=some (.lst (ys.map V.int)):=(Xc lx nx1).trans ex;have el1:Xq lp=some (.lst cs):=(Xc lp nl1).trans el
    have rl1:RzL K Xq cs (qs.map dP):=by
     obtain⟨_,z1,_⟩:=B1.at_;obtain⟨_,z2,_⟩:=E1.at_
     exact rl.agr ⟨fun b bs r=>by
      have nb:b≠l1:=by rintro rfl;rw[z1] at r;cases r
      exact(Xc b nb).trans r,fun b bs f=>f.elim⟩
    have rq1:=Zl rq;obtain⟨tz',zs',e1,st1,rt1⟩:=rq1.xM;cases e1;cases RpL.ints_of (ns:=[(q.1:Int),(q.2:Int)]) rt1;have hb:=Si q.1 (show 0<2 by decide);obtain⟨y2,my2,ay2⟩:=Jv ly (2+q.1 % 2) (by walk_at "om") XZ;obtain⟨y4,my4,ay4⟩:=Jv ly (4+q.1 % 2) (by walk_at "om") XZ;have ce2:(2:Int)+(q.1:Int) % 2=((2+q.1 % 2:Nat):Int):=by walk_at "om"
    have ce4:(4:Int)+(q.1:Int) % 2=((4+q.1 % 2:Nat):Int):=by walk_at "om"
    rw[<- ce2] at ay2;rw[<- ce4] at ay4;walk_at "";refine bu st1 (v:=.int (q.1:Int)) rfl ?_;walk_at "";refine cK (SqL.of ex1) ay2 ?_;walk_at "";refine bu st1 (v:=.int (q.1:Int)) rfl ?_;walk_at "";refine cK (SqL.of ex1) ay4 ?_;walk_at "";refine⟨y2,y4,_,rfl,my2,my4,fun pp pq pd YA S11 ok11 r11=>?_⟩;have F1:=E1.on S11;have F2:=E2.on S11;have WU:=S11.seqT st1;have ZQ:=F1.same.seq sp;have ZN:=rz.same F1.same;have g1:(hs.map dI)[q.1]?=some (dI (hs.getD q.1 [])):=by rw[Ll,Mz,Ld oq.1];rfl
    have g2:(hs.map dI)[q.2]?=some (dI (hs.getD q.2 [])):=by rw[Ll,Mz,Ld oq.2.1];rfl
    obtain⟨w1,ew1,rw1⟩:=ZN.get' g1;obtain⟨w2,ew2,rw2⟩:=ZN.get' g2;walk_at "";refine⟨F2.ty,?_⟩;walk_at "";refine bu WU (v:=.int (q.1:Int)) rfl ?_;refine cK ZQ (ba ew1) ?_;walk_at "";refine bu WU (v:=.int (q.2:Int)) rfl ?_;refine cK ZQ (ba ew2) ?_;walk_at "";refine⟨dS,fun pt npt=>?_⟩;have S12:=au npt (.tup [w1,w2,.ref pp]);have r12:Rz K (upd YA pt (.tup [w1,w2,.ref pp])) (.ref pt) (dT ⟨hs.getD q.1 [],hs.getD q.2 [],pq,pd⟩):=.tup aq (.cons (rw1.same S12) (.cons (rw2.same S12) (.cons (r11.same S12) .nil)));have G1':=F1.on S12;have G2':=F2.on S12;have ex2:=S12 _ _ (S11 _ _ ex1);have el2:=S12 _ _ (S11 _ _ el1);have rl2:=(rl1.same S11).same S12;generalize upd YA pt (.tup [w1,w2,.ref pp])=H12 at S12 r12 G1' G2' ex2 el2 rl2 ⊢;have ng:=g'.push (p:=q) (fun z=>nm (HI.mpr z)) (by walk_at "om") oq ok11;have lt2:WE.length=Wz.length:=by have:=congrArg Oo g'.eq;simpa using this
    walk_at "";refine f7 G2' r12 (bh (by rw[K9];walk_at "om")) fun H13 L2' keepZ2 WP Yg=>?_
    have rl3:RzL K H13 cs (qs.map dP):=by
     obtain⟨_,z1,_⟩:=G2'.at_
     exact rl2.agr ⟨fun b bs r=>by
      have nb:b≠l2:=by rintro rfl;rw[z1] at r;cases r
      exact(WP b nb).trans r,fun b bs f=>f.elim⟩
    walk_at "";refine⟨Wz++[q],WE++[_],_,_,rfl,?_,?_,ng,by simp,(WP lp nl2).trans el2,rl3,(WP lx nx2).trans ex2⟩
    ·have:=Yg Xd G1'
     rw[Lq];exact this
    ·rw[Lq];exact L2'
   ·walk_at "";exact⟨Wz,WE,_,_,rfl,B1,B2,g',(fun _ z=>by have z0:x1.length=0:=(by rw[n1,z];rfl);walk_at "om"),el,rl,ex⟩
  ·walk_at "";exact⟨Wz,WE,_,_,rfl,B1,B2,g',(fun _ z=>by rw[z] at mm;cases mm),el,rl,ex⟩
 ·rintro σ H9 ⟨Wz,WE,Ws,Wt,rfl,B1,B2,g',WO,_⟩;exact fin Wz WE H9 Ws Wt B1 B2 g' (WO (by rw[lc];exact OH.mpr qn))
theorem E9{K:Fg}{N:List Str}(hN:N.length=12)(h:yl K vs H Q E):xQ K (ends Q) (L2.start N vs) H:=by
 obtain⟨a,pl,ns,t,S,hs,rfl,hS,t0,rp,ndh,h2,h8,k⟩:=h;rw[L2.cu hN];walk_at "t";obtain⟨pl',xs,e0,_,sp,rp'⟩:=rp.HK;cases e0;have rz:RzL K H xs (hs.map dI):=rp'.toZ (pH HF hs);have lx0:xs.length=hs.length:=by rw[rz.length,K9]
 unfold xQ;walk_at "";refine⟨a,ns,t,rfl,hS,t0,?_⟩;generalize cellOf ns t=c;walk_at "";refine⟨by decide,fun l1 n1=>?_⟩;have S1:=au n1 (.lst []);have A10:AccZ K H l1 (upd H l1 (.lst [])) (([]:List (Nat×Nat)).map dP):=AccZ.start (Same.refl _) n1;generalize upd H l1 (.lst [])=H1 at S1 A10 ⊢;walk_at "";refine⟨by decide,fun l2 n2=>?_⟩;have S2:=au n2 (.lst []);have A20:AccZ K H l2 (upd H1 l2 (.lst [])) (([]:List Tn).map dT):=AccZ.start S1 n2;have A11:=A10.on S2
 have Xd:l1≠l2:=by
  obtain⟨_,z,_⟩:=A10.at_;exact bA z n2
 generalize upd H1 l2 (.lst [])=H2 at S2 A20 A11 ⊢;walk_at ""
 refine cO (fun i σ H3=>∃(ps:List (Nat×Nat)) (ts:List Tn) (v6 v7 v8 v9 v10 v11:Option V),σ=[some (.ref a),some (.int t),some (.ref pl),some (.int c),some (.ref l1),some (.ref l2),v6,v7,v8,v9,v10,v11]/\AccZ K H l1 H3 (ps.map dP)/\AccZ K H l2 H3 (ts.map dT)/\Good hs ps ts/\(0<i->ps≠[]))
  ⟨[],[],none,none,none,none,none,none,rfl,A11,A20,Good.nil hs,by simp⟩ ?_ ?_
 ·rintro i σ H3 hi ⟨ps,ts,v6,v7,v8,v9,v10,v11,rfl,A1,A2,g,WO⟩;walk_at "";refine⟨a,ns,t+1+(0+(i:Int)),rfl,A1.same.seq hS,by walk_at "om",?_⟩;generalize cellOf ns (t+1+(0+(i:Int)))=c1;walk_at "";refine⟨c1,6,rfl,by decide,by decide,fun lx H4 ys X4 ly XZ=>?_⟩;have S4:=X4.same;have ex:=AccZ.ints X4;obtain⟨x0,m0,a0⟩:=Jv ly 0 (by decide) XZ;obtain⟨x1,m1,a1⟩:=Jv ly 1 (by decide) XZ
  have nx1:lx≠l1:=by
   obtain⟨_,z,_⟩:=A1.at_;exact(bA z X4.new).symm
  have nx2:lx≠l2:=by
   obtain⟨_,z,_⟩:=A2.at_;exact(bA z X4.new).symm
  have B1:=A1.on S4;have B2:=A2.on S4;have ZR:=B1.same.seq sp;have n0:(0:Int)<(xs.length:Int):=by walk_at "om"
  have Yi:(0:Int)<(xs.length:Int)-1:=by walk_at "om"
  have f0:=No x0 (b:=(xs.length:Int)) (by walk_at "om");have f1:=MT x0 n0;have f2:=No x1 (b:=(xs.length:Int)-1) (by walk_at "om");have f3:=MT x1 Yi;have f4:=No (x0 % (xs.length:Int)+1+x1 % ((xs.length:Int)-1)) (b:=(xs.length:Int)) (by walk_at "om");have f5:=MT (x0 % (xs.length:Int)+1+x1 % ((xs.length:Int)-1)) n0;walk_at "";refine cK (SqL.of ex) a0 ?_;walk_at "";refine cF ZR ?_;walk_at "";refine cK (SqL.of ex) a1 ?_;walk_at "";refine cF ZR ?_;walk_at "";refine cF ZR ?_;walk_at ""
  have near:∀(n u v:Int),0<=u->u<n->0<=v->v<n-1->(u+1+v) % n≠u:=by
   intro n u v h1 h2 h3 h4 e;by_cases z:u+1+v<n
   ·rw[UE (by walk_at "om") z] at e;walk_at "om"
   ·have e2:(u+1+v) % n=u+1+v-n:=by
     rw[<- Int.sub_emod_right,UE (by walk_at "om") (by walk_at "om")]
    walk_at "om"
  refine bZ (fun cz=>?_) (fun cz=>?_)
  ·have h0:=No (0+(i:Int)) (b:=(xs.length:Int)) (by walk_at "om");have h1:=MT (0+(i:Int)) n0;have h2':=No (0+(i:Int)+1) (b:=(xs.length:Int)) (by walk_at "om");have h3:=MT (0+(i:Int)+1) n0
   have hne2:(0+(i:Int)+1) % (xs.length:Int)≠(0+(i:Int)) % (xs.length:Int):=by
    have z:=near (xs.length:Int) ((0+(i:Int)) % (xs.length:Int)) 0 h0 h1 (by walk_at "om") (by walk_at "om");rw[Int.add_zero,Int.emod_add_emod] at z;exact z
   walk_at "";refine cF ZR ?_;walk_at "";refine cF ZR ?_;walk_at "";have eo:(0+(i:Int)) % (xs.length:Int)=((((0+(i:Int)) % (xs.length:Int)).toNat:Nat):Int):=by walk_at "om"
   have ew:(0+(i:Int)+1) % (xs.length:Int)=((((0+(i:Int)+1) % (xs.length:Int)).toNat:Nat):Int):=by walk_at "om"
   rw[eo,ew];refine qU B1 B2 g Xd sp rz ex ly XZ nx1 nx2 ⟨?_,?_,?_⟩ fun Wz WE H5 Ws Wt D1 D2 g' ne'=>?_
   ·dsimp only;walk_at "om"
   ·dsimp only;walk_at "om"
   ·dsimp only;walk_at "om"
   ·exact⟨Wz,WE,_,_,_,_,_,_,rfl,D1,D2,g',fun _=>ne'⟩
  ·walk_at "";have hne2:=near (xs.length:Int) (x0 % (xs.length:Int)) (x1 % ((xs.length:Int)-1)) f0 f1 f2 f3;have eo:x0 % (xs.length:Int)=(((x0 % (xs.length:Int)).toNat:Nat):Int):=by walk_at "om"
   have ew:(x0 % (xs.length:Int)+1+x1 % ((xs.length:Int)-1)) % (xs.length:Int)=((((x0 % (xs.length:Int)+1+x1 % ((xs.length:Int)-1)) % (xs.length:Int)).toNat:Nat):Int):=by walk_at "om"
   generalize (x0 % (xs.length:Int)+1+x1 % ((xs.length:Int)-1)) % (xs.length:Int)=yw at *;generalize x0 % (xs.length:Int)=yo at *;rw[eo,ew];refine qU B1 B2 g Xd sp rz ex ly XZ nx1 nx2 ⟨?_,?_,?_⟩ fun Wz WE H5 Ws Wt D1 D2 g' ne'=>?_
   ·dsimp only;walk_at "om"
   ·dsimp only;walk_at "om"
   ·dsimp only;walk_at "om"
   ·exact⟨Wz,WE,_,_,_,_,_,_,rfl,D1,D2,g',fun _=>ne'⟩
 ·rintro σ H3 ⟨ps,ts,v6,v7,v8,v9,v10,v11,rfl,A1,A2,g,WO⟩;walk_at "";exact k l2 H3 ts A2 (g.turns ndh (WO (by walk_at "om")))
structure KN (ws:List Str) (ts:List Tn):Prop where
 words:qp ws
 w1:1<=ws.length
 w5:ws.length<=5
 turns:∃hs,Bd ws.length hs/\hs.length<=8/\vv hs ts
def dV(ws:List Str)(ts:List Tn):Dat:=.tuple [.tuple (ws.map Mu),.tuple (ts.map dT)]
def oJ(K:Fg):Sp:=fun vs H Q _=>∃(a:Addr) (ns:List Int),vs=[.ref a]/\SqL K H a (ns.map V.int)/\∀(p:Addr) (H':Hp) (ws:List Str) (ts:List Tn),Same H H'->KN ws ts->Rz K H' (.ref p) (dV ws ts)->Q (.ref p) H'
def oA(K:Fg):TS:=(aF (aR (aE bW (tC (.int 1)) (aE bB (bo (fo K) [] E0 (ao (ag 0) (ao (tC (.int 0)) aA))) (tC (.int 5)))) (aO 1))
 (aF (aR (bo (tQ K) [] E0 (ao (ag 0) (ao (tC (.int 1)) (ao (ag 1) aA)))) (aO 2))
 (aY (cV (ao (b_ (dH K) (ao (ag 2) aA)) (ao (b_ (dH K) (ao (bo (yl K) [] E0 (ao (ag 0) (ao (tC (.int 12)) (ao (bo (yn K) [] E0 (ao (ag 0) (ao (tC (.int 3)) (ao (ag 1) aA)))) aA)))) aA)) aA))))))
theorem yQ{K:Fg}{N:List Str}(hN:N.length=3)(h:oJ K vs H Q E):oA K (ends Q) (L2.start N vs) H:=by
 obtain⟨a,ns,rfl,hS,k⟩:=h;rw[L2.cu hN];walk_at "t";unfold oA;walk_at "";refine⟨a,ns,0,rfl,hS,by decide,?_⟩;generalize cellOf ns 0=c;walk_at "";refine⟨a,ns,1,1+c % 5,rfl,hS,by decide,by walk_at "om",by walk_at "om",fun pw H1 ws A1 ow lw=>?_⟩;have ew:=AccZ.strs A1;walk_at "";refine e9 (SqL.of ew) fun tw ntw=>?_
 have S2:=au ntw (.tup (ws.map V.str));have r2:Rz K (upd H1 tw (.tup (ws.map V.str))) (.ref tw) (.tuple (ws.map Mu)):=.tup aq (RpL.strs ws);generalize upd H1 tw (.tup (ws.map V.str))=H2 at S2 r2 ⊢;have S02:=A1.same.trans S2;walk_at "";refine⟨a,ns,3,1+c % 5,rfl,S02.seq hS,by decide,by walk_at "om",by walk_at "om",fun pp H3 hs A3 op h2 h8=>?_⟩;have S03:=S02.trans A3.same;walk_at "";refine⟨a,pp,ns,12,_,hs,rfl,S03.seq hS,by decide,A3.ref,op.1,h2,h8,fun pt H4 ts A4 ot=>?_⟩;obtain⟨xs,e4,r4⟩:=A4.at_;walk_at "";refine e9 (SqL.of e4) fun tt ntt=>?_
 have S5:=au ntt (.tup xs);have r5:Rz K (upd H4 tt (.tup xs)) (.ref tt) (.tuple (ts.map dT)):=.tup aq (r4.same S5);generalize upd H4 tt (.tup xs)=H5 at S5 r5 ⊢;walk_at "";refine⟨bG,fun p np=>?_⟩;have S6:=au np (.tup [.ref tw,.ref tt]);refine k p _ ws ts (S03.trans (A4.same.trans (S5.trans S6))) ⟨ow,by walk_at "om",by walk_at "om",hs,?_,h8,ot⟩ (.tup aq (.cons ((((r2.same A3.same).same A4.same).same S5).same S6) (.cons (r5.same S6) .nil)));rw[lw];exact op
end G1
namespace L2
open PySem PySem.Spec PyProof.Rows
open PySem.W (Dat kqdOk)
theorem fD{K:Fg}:LN K (.type "NoneType") (.type "bool")=some false:=by
 show Lp K (.type "NoneType") (.type "bool")=some false;unfold Lp;kernel_rfl
theorem fZ{K:Fg}:LN K (.type "NoneType") (.type "int")=some false:=by
 show Lp K (.type "NoneType") (.type "int")=some false;unfold Lp;kernel_rfl
theorem fY{K:Fg}:LN K (.type "NoneType") (.type "str")=some false:=by
 show Lp K (.type "NoneType") (.type "str")=some false;unfold Lp;kernel_rfl
theorem cR{K:Fg}:LN K (.type "NoneType") (.type "tuple")=some false:=by
 show Lp K (.type "NoneType") (.type "tuple")=some false;unfold Lp;kernel_rfl
theorem dU{K:Fg}:LN K (.type "NoneType") (.type "list")=some false:=by
 show Lp K (.type "NoneType") (.type "list")=some false;unfold Lp;kernel_rfl
theorem fQ{K:Fg}:LN K (.type "bool") (.type "bool")=some true:=by rfl
theorem rZ{K:Fg}:LN K (.type "bool") (.type "int")=some true:=by
 show Lp K (.type "bool") (.type "int")=some true;unfold Lp;kernel_rfl
theorem rY{K:Fg}:LN K (.type "bool") (.type "str")=some false:=by
 show Lp K (.type "bool") (.type "str")=some false;unfold Lp;kernel_rfl
theorem dW{K:Fg}:LN K (.type "bool") (.type "tuple")=some false:=by
 show Lp K (.type "bool") (.type "tuple")=some false;unfold Lp;kernel_rfl
theorem fP{K:Fg}:LN K (.type "bool") (.type "list")=some false:=by
 show Lp K (.type "bool") (.type "list")=some false;unfold Lp;kernel_rfl
theorem gw{K:Fg}:LN K (.type "int") (.type "bool")=some false:=by
 show Lp K (.type "int") (.type "bool")=some false;unfold Lp;kernel_rfl
theorem lM{K:Fg}:LN K (.type "int") (.type "int")=some true:=by rfl
theorem uX{K:Fg}:LN K (.type "int") (.type "str")=some false:=by
 show Lp K (.type "int") (.type "str")=some false;unfold Lp;kernel_rfl
theorem eP{K:Fg}:LN K (.type "int") (.type "tuple")=some false:=by
 show Lp K (.type "int") (.type "tuple")=some false;unfold Lp;kernel_rfl
theorem gv{K:Fg}:LN K (.type "int") (.type "list")=some false:=by
 show Lp K (.type "int") (.type "list")=some false;unfold Lp;kernel_rfl
theorem jE{K:Fg}:LN K (.type "str") (.type "bool")=some false:=by
 show Lp K (.type "str") (.type "bool")=some false;unfold Lp;kernel_rfl
theorem lK{K:Fg}:LN K (.type "str") (.type "int")=some false:=by
 show Lp K (.type "str") (.type "int")=some false;unfold Lp;kernel_rfl
theorem ir{K:Fg}:LN K (.type "str") (.type "str")=some true:=by rfl
theorem eO{K:Fg}:LN K (.type "str") (.type "tuple")=some false:=by
 show Lp K (.type "str") (.type "tuple")=some false;unfold Lp;kernel_rfl
theorem gr{K:Fg}:LN K (.type "str") (.type "list")=some false:=by
 show Lp K (.type "str") (.type "list")=some false;unfold Lp;kernel_rfl
theorem mT{K:Fg}:LN K (.type "tuple") (.type "bool")=some false:=by
 show Lp K (.type "tuple") (.type "bool")=some false;unfold Lp;kernel_rfl
theorem pQ{K:Fg}:LN K (.type "tuple") (.type "int")=some false:=by
 show Lp K (.type "tuple") (.type "int")=some false;unfold Lp;kernel_rfl
theorem pP{K:Fg}:LN K (.type "tuple") (.type "str")=some false:=by
 show Lp K (.type "tuple") (.type "str")=some false;unfold Lp;kernel_rfl
theorem bI{K:Fg}:LN K (.type "tuple") (.type "tuple")=some true:=by rfl
theorem hG{K:Fg}:LN K (.type "tuple") (.type "list")=some false:=by
 show Lp K (.type "tuple") (.type "list")=some false;unfold Lp;kernel_rfl
theorem pR{K:Fg}:LN K (.type "list") (.type "bool")=some false:=by
 show Lp K (.type "list") (.type "bool")=some false;unfold Lp;kernel_rfl
theorem rX{K:Fg}:LN K (.type "list") (.type "int")=some false:=by
 show Lp K (.type "list") (.type "int")=some false;unfold Lp;kernel_rfl
theorem rW{K:Fg}:LN K (.type "list") (.type "str")=some false:=by
 show Lp K (.type "list") (.type "str")=some false;unfold Lp;kernel_rfl
theorem bR{K:Fg}:LN K (.type "list") (.type "tuple")=some false:=by
 show Lp K (.type "list") (.type "tuple")=some false;unfold Lp;kernel_rfl
theorem cH{K:Fg}:LN K (.type "list") (.type "list")=some true:=by rfl
abbrev Ra(K:Fg)(H:Hp):V->Dat->Prop:=Rp K (fun _=>True) H
abbrev KY(K:Fg)(H:Hp):List V->List Dat->Prop:=RpL K (fun _=>True) H
theorem Rp.a{K:Fg}(h:Rp K S H v d):Ra K H v d:=h.mono fun _ _=>trivial
def zD:Nat->Dat->Bool
 |_,.none=>true
 |_,.bool _=>true
 |_,.int _=>true
 |_,.str _=>true
 |n+1,.tuple ds=>decide (ds.length<=1000) && ds.all (zD n)
 |n+1,.list ds=>decide (ds.length<=1000) && ds.all (zD n)
 |_,_=>false
theorem zB{ds:List Dat}(l:ds.length<=1000)(h:∀d∈ds,zD n d=true):zD (n+1) (.tuple ds)=true:=by
 show(decide (ds.length<=1000) && ds.all (zD n))=true;rw[decide_eq_true l,N_,Mp];exact h
theorem D8{ds:List Dat}(h:(decide (ds.length<=1000) && ds.all (zD n))=true):ds.length<=1000/\∀d∈ds,zD n d=true:=by
 rw[My,Mp] at h;exact⟨of_decide_eq_true h.1,h.2⟩
theorem Eg{K:Fg}{Q:VK}{v:V}(e:SqT K H p xs)(a:i8 xs i=some v)(h:Q v H):Fu K (.ref p) (.int i) H Q:=.inr (.inl (bu e a h))
theorem Eh{K:Fg}{Q:VK}{v:V}(e:SqL K H p xs)(a:i8 xs i=some v)(h:Q v H):Fu K (.ref p) (.int i) H Q:=.inl (cK e a h)
end L2
namespace Sm
open PySem L2 G1
open PySem.W (Dat kqdOk)
def g9(K:Fg)(n:Nat):Sp:=fun vs H Q _=>∃(v1 v2:V) (d1 d2:Dat),vs=[v1,v2]/\Ra K H v1 d1/\Ra K H v2 d2/\zD n d2=true/\(d1=d2->Q (.bl true) H)/\(d1≠d2->Q (.bl false) H)
theorem rQ{K:Fg}{x y:Str}(h:g9 K n vs H Q E):vs.length=[x,y].length:=by
 obtain⟨a,b,c,d,rfl,_⟩:=h;rfl
def oE (K:Fg):TS:=(aF (bq (tB (b_ (fL K) (ao (ag 1) (ao (tC (.ty "bool")) aA))))
 (aY (mF (b_ (fL K) (ao (ag 0) (ao (tC (.ty "bool")) aA))) (aE fq (ag 0) (ag 1))))
 bp)
 (aF (bq (tB (b_ (fL K) (ao (ag 1) (ao (tC (.ty "int")) aA))))
 (aY (mF (b_ (fL K) (ao (ag 0) (ao (tC (.ty "int")) aA))) (mF (Bv (b_ (fL K) (ao (ag 0) (ao (tC (.ty "bool")) aA)))) (aE fq (ag 0) (ag 1)))))
 bp)
 (aF (bq (tB (b_ (fL K) (ao (ag 1) (ao (tC (.ty "str")) aA))))
 (aY (mF (b_ (fL K) (ao (ag 0) (ao (tC (.ty "str")) aA))) (aE fq (ag 0) (ag 1))))
 bp)
 (aY (mF (aE jk (ag 1) (tC .non)) (aE jk (ag 0) (tC .non)))))))
def tm(K:Fg)(m:Nat):TS:=(aF (bq (bg (aE w4 (b_ (cM K) (ao (ag 0) aA)) (b_ (cM K) (ao (ag 1) aA))))
 (aY (tC (.bl false)))
 bp)
 (aF (eW (fE (ao (b_ (cM K) (ao (ag 1) aA)) aA)) (aO 2)
 (bq (gb (tB (bo (g9 K m) [] E0 (ao (aE (Fu K) (ag 0) (ag 2)) (ao (aE (Fu K) (ag 1) (ag 2)) aA)))))
 (aY (tC (.bl false)))
 bp))
 (aY (tC (.bl true)))))
def tq (K:Fg):TS:=(aF (bq (kF (tB (b_ (fL K) (ao (ag 1) (ao (tC (.ty "tuple")) aA)))) (tB (b_ (fL K) (ao (ag 1) (ao (tC (.ty "list")) aA)))))
 qC
 bp)
 (oE K))
def xS (K:Fg) (m:Nat):TS:=(aF (bq (kF (tB (b_ (fL K) (ao (ag 1) (ao (tC (.ty "tuple")) aA)))) (tB (b_ (fL K) (ao (ag 1) (ao (tC (.ty "list")) aA)))))
 (aF (bq (kF (bg (aE w4 (b_ (fL K) (ao (ag 0) (ao (tC (.ty "tuple")) aA))) (b_ (fL K) (ao (ag 1) (ao (tC (.ty "tuple")) aA))))) (bg (aE w4 (b_ (fL K) (ao (ag 0) (ao (tC (.ty "list")) aA))) (b_ (fL K) (ao (ag 1) (ao (tC (.ty "list")) aA))))))
 (aY (tC (.bl false)))
 bp)
 (tm K m))
 bp)
 (oE K))
theorem yS{K:Fg}{Q:VK}{u:Option V}(r1:Ra K H v1 d1)(r2:Ra K H v2 d2)(n1:∀ds,d2≠.tuple ds)(n2:∀ds,d2≠.list ds)(h1:d1=d2->Q (.bl true) H)(h2:d1≠d2->Q (.bl false) H) :
  oE K (ends Q) [some v1,some v2,u] H:=by
 have no:∀{a b:Dat},(a=b->False)->d1=a->d2=b->Q (.bl false) H:=fun q e1 e2=>h2 fun z=>q (e1.symm.trans (z.trans e2))
 unfold oE;cases r2 with
 |non =>
  walk_at "";refine a_ .non fD ?_;walk_at "";refine a_ .non fZ ?_;walk_at "";refine a_ .non fY ?_;walk_at "";refine bZ (fun _=>?_) (fun z=>absurd rfl z);walk_at "";cases r1 with
  |non=>exact h1 rfl
  |bl b=>exact h2 (fun z=>by cases z)
  |int b=>exact h2 (fun z=>by cases z)
  |str b=>exact h2 (fun z=>by cases z)
  |tup e r=>exact h2 (fun z=>by cases z)
  |lst s e r=>exact h2 (fun z=>by cases z)
 |bl b =>
  walk_at "";refine a_ (.bl b) fQ ?_;walk_at "";cases r1 with
  |non =>
   refine a_ .non fD ?_;walk_at "";exact h2 (fun z=>by cases z)
  |bl c =>
   refine a_ (.bl c) fQ ?_;walk_at "";by_cases z:c=b
   ·rw[decide_eq_true z];exact h1 (by rw[z])
   ·rw[decide_eq_false z];exact h2 (fun q=>z (O0.inj q))
  |int c =>
   refine a_ (.int c) gw ?_;walk_at "";exact h2 (fun z=>by cases z)
  |str c =>
   refine a_ (.str c) jE ?_;walk_at "";exact h2 (fun z=>by cases z)
  |tup e r =>
   refine a_ (.tup e) mT ?_;walk_at "";exact h2 (fun z=>by cases z)
  |lst s e r =>
   refine a_ (.lst e) pR ?_;walk_at "";exact h2 (fun z=>by cases z)
 |int b =>
  walk_at "";refine a_ (.int b) gw ?_;walk_at "";refine a_ (.int b) lM ?_;walk_at "";cases r1 with
  |non =>
   refine a_ .non fZ ?_;walk_at "";exact h2 (fun z=>by cases z)
  |bl c =>
   refine a_ (.bl c) rZ ?_;walk_at "";refine a_ (.bl c) fQ ?_;walk_at "";exact h2 (fun z=>by cases z)
  |int c =>
   refine a_ (.int c) lM ?_;walk_at "";refine a_ (.int c) gw ?_;walk_at "";by_cases z:c=b
   ·rw[decide_eq_true z];exact h1 (by rw[z])
   ·rw[decide_eq_false z];exact h2 (fun q=>z (ND.inj q))
  |str c =>
   refine a_ (.str c) lK ?_;walk_at "";exact h2 (fun z=>by cases z)
  |tup e r =>
   refine a_ (.tup e) pQ ?_;walk_at "";exact h2 (fun z=>by cases z)
  |lst s e r =>
   refine a_ (.lst e) rX ?_;walk_at "";exact h2 (fun z=>by cases z)
 |str b =>
  walk_at "";refine a_ (.str b) jE ?_;walk_at "";refine a_ (.str b) lK ?_;walk_at "";refine a_ (.str b) ir ?_;walk_at "";cases r1 with
  |non =>
   refine a_ .non fY ?_;walk_at "";exact h2 (fun z=>by cases z)
  |bl c =>
   refine a_ (.bl c) rY ?_;walk_at "";exact h2 (fun z=>by cases z)
  |int c =>
   refine a_ (.int c) uX ?_;walk_at "";exact h2 (fun z=>by cases z)
  |str c =>
   refine a_ (.str c) ir ?_;walk_at "";by_cases z:c=b
   ·rw[decide_eq_true z];exact h1 (by rw[z])
   ·rw[decide_eq_false z];exact h2 (fun q=>z (Mu.inj q))
  |tup e r =>
   refine a_ (.tup e) pP ?_;walk_at "";exact h2 (fun z=>by cases z)
  |lst s e r =>
   refine a_ (.lst e) rW ?_;walk_at "";exact h2 (fun z=>by cases z)
 |tup e r=>exact absurd rfl (n1 _)
 |lst s e r=>exact absurd rfl (n2 _)
theorem BP{K:Fg}{N:List Str}(hN:N.length=3)(h:g9 K 0 vs H Q E):tq K (ends Q) (L2.start N vs) H:=by
 obtain⟨v1,v2,d1,d2,rfl,r1,r2,ok,h1,h2⟩:=h;rw[L2.cu hN];walk_at "t";have n1:∀ds,d2≠.tuple ds:=fun ds z=>by rw[z] at ok;cases ok
 have n2:∀ds,d2≠.list ds:=fun ds z=>by rw[z] at ok;cases ok
 have fin:=yS (u:=none) r1 r2 n1 n2 h1 h2;unfold tq;cases r2 with
 |non =>
  walk_at "";refine a_ .non cR ?_;walk_at "";refine a_ .non dU ?_;walk_at "";exact fin
 |bl b =>
  walk_at "";refine a_ (.bl b) dW ?_;walk_at "";refine a_ (.bl b) fP ?_;walk_at "";exact fin
 |int b =>
  walk_at "";refine a_ (.int b) eP ?_;walk_at "";refine a_ (.int b) gv ?_;walk_at "";exact fin
 |str b =>
  walk_at "";refine a_ (.str b) eO ?_;walk_at "";refine a_ (.str b) gr ?_;walk_at "";exact fin
 |tup e r=>exact absurd rfl (n1 _)
 |lst s e r=>exact absurd rfl (n2 _)
theorem DT{K:Fg}{Q:VK}{xs ys:List V}{u:Option V}(lx:∀Q':VK,Q' (.int xs.length) H->cM K [.ref a] H Q')(ly:∀Q':VK,Q' (.int ys.length) H->cM K [.ref b] H Q')
  (ix:∀(i:Nat) (x:V) (Q':VK),xs[i]?=some x->Q' x H->Fu K (.ref a) (.int (0+(i:Int))) H Q') (iy:∀(i:Nat) (x:V) (Q':VK),ys[i]?=some x->Q' x H->Fu K (.ref b) (.int (0+(i:Int))) H Q')
  (r1:KY K H xs d1) (r2:KY K H ys d2) (ok:∀d∈d2,zD m d=true) (lm:d2.length<=1000) (h1:d1=d2->Q (.bl true) H) (h2:d1≠d2->Q (.bl false) H) {D:dk} (hD:D.rt=Q):tm K m D [some (.ref a),some (.ref b),u] H:=by
 have l1:=r1.length;have l2:=r2.length;unfold tm;walk_at "";refine lx _ ?_;walk_at "";refine ly _ ?_;walk_at "";refine cN (fun z=>?_) (fun z=>?_)
 ·walk_at "";rw[hD];exact h2 fun e=>z (by rw[l1,l2,e])
 have le:xs.length=ys.length:=by walk_at "om"
 walk_at "";refine ly _ ?_;walk_at "";refine cO (fun i σ H2=>H2=H/\(∃v,σ=[some (.ref a),some (.ref b),v])/\d1.take i=d2.take i) ⟨rfl,⟨_,rfl⟩,by simp⟩ ?_ ?_
 ·rintro i σ H2 hi ⟨rfl,⟨v,rfl⟩,et⟩;have hiy:i<ys.length:=by walk_at "om"
  have hix:i<xs.length:=by walk_at "om"
  obtain⟨e1,g1,p1⟩:=r1.get (Ld hix);obtain⟨e2,g2,p2⟩:=r2.get (Ld hiy);walk_at "";refine ix i _ _ (Ld hix) ?_;walk_at "";refine iy i _ _ (Ld hiy) ?_;walk_at "";refine⟨_,_,e1,e2,rfl,p1,p2,ok e2 (Li g2),fun q=>?_,fun q=>?_⟩
  ·walk_at "";refine⟨rfl,⟨_,rfl⟩,?_⟩;rw[LV,LV,et,g1,g2,q]
  ·walk_at "";show D.rt _ _;rw[hD];exact h2 fun z=>q (by rw[z,g2] at g1;exact(LD g1).symm)
 ·rintro σ H2 ⟨rfl,⟨v,rfl⟩,et⟩;walk_at "";show D.rt _ _;rw[hD];refine h1 ?_;have e:(ys.length:Int).toNat=ys.length:=by walk_at "om"
  rw[e,Ln (by walk_at "om"),Ln (by walk_at "om")] at et;exact et
theorem Fa{K:Fg}{m:Nat}{N:List Str}(hN:N.length=3)(h:g9 K (m+1) vs H Q E):xS K m (ends Q) (L2.start N vs) H:=by
 obtain⟨v1,v2,d1,d2,rfl,r1,r2,ok,h1,h2⟩:=h;rw[L2.cu hN];walk_at "t";unfold xS;have fin:=fun n1 n2=>yS (u:=none) r1 r2 n1 n2 h1 h2
 cases r2 with
 |non =>
  walk_at "";refine a_ .non cR ?_;walk_at "";refine a_ .non dU ?_;walk_at "";exact fin (fun ds z=>by cases z) (fun ds z=>by cases z)
 |bl b =>
  walk_at "";refine a_ (.bl b) dW ?_;walk_at "";refine a_ (.bl b) fP ?_;walk_at "";exact fin (fun ds z=>by cases z) (fun ds z=>by cases z)
 |int b =>
  walk_at "";refine a_ (.int b) eP ?_;walk_at "";refine a_ (.int b) gv ?_;walk_at "";exact fin (fun ds z=>by cases z) (fun ds z=>by cases z)
 |str b =>
  walk_at "";refine a_ (.str b) eO ?_;walk_at "";refine a_ (.str b) gr ?_;walk_at "";exact fin (fun ds z=>by cases z) (fun ds z=>by cases z)
 |@tup b ys ds e r =>
  obtain⟨lm,okd⟩:=D8 ok;walk_at "";refine a_ (.tup e) bI ?_;walk_at "";cases r1 with
  |non =>
   refine a_ .non cR ?_;walk_at "";refine a_ (.tup e) bI ?_;walk_at "";refine cN (fun _=>?_) (fun z=>by cases z);walk_at "";exact h2 (fun z=>by cases z)
  |bl c =>
   refine a_ (.bl c) dW ?_;walk_at "";refine a_ (.tup e) bI ?_;walk_at "";refine cN (fun _=>?_) (fun z=>by cases z);walk_at "";exact h2 (fun z=>by cases z)
  |int c =>
   refine a_ (.int c) eP ?_;walk_at "";refine a_ (.tup e) bI ?_;walk_at "";refine cN (fun _=>?_) (fun z=>by cases z);walk_at "";exact h2 (fun z=>by cases z)
  |str c =>
   refine a_ (.str c) eO ?_;walk_at "";refine a_ (.tup e) bI ?_;walk_at "";refine cN (fun _=>?_) (fun z=>by cases z);walk_at "";exact h2 (fun z=>by cases z)
  |lst s e' r' =>
   refine a_ (.lst e') bR ?_;walk_at "";refine a_ (.tup e) bI ?_;walk_at "";refine cN (fun _=>?_) (fun z=>by cases z);walk_at "";exact h2 (fun z=>by cases z)
  |@tup a xs ds' e' r' =>
   refine a_ (.tup e') bI ?_;walk_at "";refine a_ (.tup e) bI ?_;walk_at "";refine cN (fun z=>absurd rfl z) (fun _=>?_);walk_at "";refine a_ (.tup e') hG ?_;walk_at "";refine a_ (.tup e) hG ?_;walk_at "";refine cN (fun z=>absurd rfl z) (fun _=>?_);walk_at "";refine DT (m:=m) (xs:=xs) (ys:=ys) (fun Q' q=>r9 (SqT.of e') q) (fun Q' q=>r9 (SqT.of e) q) (fun i x Q' hx q=>Eg (SqT.of e') (by rw[NT];exact ba hx) q) (fun i x Q' hx q=>Eg (SqT.of e) (by rw[NT];exact ba hx) q) r' r okd lm (fun z=>h1 (by rw[z])) (fun z=>h2 fun q=>z (TU q)) rfl
 |@lst b ys ds s e r =>
  obtain⟨lm,okd⟩:=D8 ok;walk_at "";refine a_ (.lst e) bR ?_;walk_at "";refine a_ (.lst e) cH ?_;walk_at "";cases r1 with
  |non =>
   refine a_ .non cR ?_;walk_at "";refine a_ (.lst e) bR ?_;walk_at "";refine cN (fun z=>absurd rfl z) (fun _=>?_);walk_at "";refine a_ .non dU ?_;walk_at "";refine a_ (.lst e) cH ?_;walk_at "";refine cN (fun _=>?_) (fun z=>by cases z);walk_at "";exact h2 (fun z=>by cases z)
  |bl c =>
   refine a_ (.bl c) dW ?_;walk_at "";refine a_ (.lst e) bR ?_;walk_at "";refine cN (fun z=>absurd rfl z) (fun _=>?_);walk_at "";refine a_ (.bl c) fP ?_;walk_at "";refine a_ (.lst e) cH ?_;walk_at "";refine cN (fun _=>?_) (fun z=>by cases z);walk_at "";exact h2 (fun z=>by cases z)
  |int c =>
   refine a_ (.int c) eP ?_;walk_at "";refine a_ (.lst e) bR ?_;walk_at "";refine cN (fun z=>absurd rfl z) (fun _=>?_);walk_at "";refine a_ (.int c) gv ?_;walk_at "";refine a_ (.lst e) cH ?_;walk_at "";refine cN (fun _=>?_) (fun z=>by cases z);walk_at "";exact h2 (fun z=>by cases z)
  |str c =>
   refine a_ (.str c) eO ?_;walk_at "";refine a_ (.lst e) bR ?_;walk_at "";refine cN (fun z=>absurd rfl z) (fun _=>?_);walk_at "";refine a_ (.str c) gr ?_;walk_at "";refine a_ (.lst e) cH ?_;walk_at "";refine cN (fun _=>?_) (fun z=>by cases z);walk_at "";exact h2 (fun z=>by cases z)
  |tup e' r' =>
   refine a_ (.tup e') bI ?_;walk_at "";refine a_ (.lst e) bR ?_;walk_at "";refine cN (fun _=>?_) (fun z=>by cases z);walk_at "";exact h2 (fun z=>by cases z)
  |@lst a xs ds' s' e' r' =>
   refine a_ (.lst e') bR ?_;walk_at "";refine a_ (.lst e) bR ?_;walk_at "";refine cN (fun z=>absurd rfl z) (fun _=>?_);walk_at "";refine a_ (.lst e') cH ?_;walk_at "";refine a_ (.lst e) cH ?_;walk_at "";refine cN (fun z=>absurd rfl z) (fun _=>?_);walk_at "";refine DT (m:=m) (xs:=xs) (ys:=ys) (fun Q' q=>cF (SqL.of e') q) (fun Q' q=>cF (SqL.of e) q) (fun i x Q' hx q=>Eh (SqL.of e') (by rw[NT];exact ba hx) q) (fun i x Q' hx q=>Eh (SqL.of e) (by rw[NT];exact ba hx) q) r' r okd lm (fun z=>h1 (by rw[z])) (fun z=>h2 fun q=>z (Dat.list.inj q)) rfl
end Sm
namespace Vs
open PySem L2 Fr G1 Sm
open PySem.W (Dat kqdOk)
def eT(hs:List (List Int))(h:List Int):List (List Int):=if h∈hs then hs else hs++[h]
def jZ(hs:List (List Int))(ts:List Tn):List (List Int):=ts.foldl (fun hs t=>eT (eT hs t.fr) t.to) hs
def Em(ts:List Tn):List (List Int):=jZ [] ts
theorem wn(hs:List (List Int))(h:List Int):(eT hs h).length<=hs.length+1:=by
 unfold eT;split
 ·walk_at "om"
 ·simp
theorem wt:∀(ts:List Tn) (hs:List (List Int)),(jZ hs ts).length<=hs.length+2*ts.length
 |[],hs=>by simp[jZ]
 |t :: ts,hs=>by
  have h1:=wt ts (eT (eT hs t.fr) t.to);have h2:=wn (eT hs t.fr) t.to;have h3:=wn hs t.fr;show(jZ (eT (eT hs t.fr) t.to) ts).length<=_;rw[LS];walk_at "om"
theorem Aw(hs:List (List Int))(ts:List Tn)(t:Tn):jZ hs (ts++[t])=eT (eT (jZ hs ts) t.fr) t.to:=by
 unfold jZ;rw[Ry];rfl
def qB(h:List Int):List Key:=h.map QY
theorem xN(h:List Int):(qB h).map kV=h.map V.int:=by
 unfold qB;rw[Na];rfl
theorem EE(h:qB a=qB b):a=b:=(T_ (fun x y e=>QY.inj e)).mp h
theorem q_{i3:List (List Key×V)}{hs:List (List Int)}(e:i3.map (·.1)=hs.map qB)(h:List Int)(v:V):(eJ i3 (qB h) v).map (·.1)=(eT hs h).map qB:=by
 have any:(i3.any fun kv=>decide (kv.1=qB h))=decide (h∈hs):=by
  rw[PU,RX,decide_eq_true_iff];constructor
  ·rintro⟨kv,hm,q⟩
   have:kv.1∈hs.map qB:=by rw[<- e];exact Lm.mpr ⟨kv,hm,rfl⟩
   obtain⟨g,hg,eg⟩:=Lm.mp this;rw[of_decide_eq_true q] at eg;rw[<- EE eg];exact hg
  ·intro hm
   have:qB h∈i3.map (·.1):=by rw[e];exact Lm.mpr ⟨h,hm,rfl⟩
   obtain⟨kv,hk,ek⟩:=Lm.mp this;exact⟨kv,hk,decide_eq_true ek⟩
 unfold eJ eT;rw[any];by_cases z:h∈hs
 ·rw[if_pos z,decide_eq_true z,if_pos rfl,Na,<- e];refine QW fun kv _=>?_
  show(if kv.1=qB h then (kv.1,v) else kv).1=kv.1;split <;> rfl
 ·rw[if_neg z,decide_eq_false z,if_neg LO,Lq,Lq,e];rfl
theorem zY{K:Fg}{H:Hp}:∀{i3:List (List Key×V)} {hs:List (List Int)} {bs:List Addr},i3.map (·.1)=hs.map qB->Paired (fun(p:List Key×V) b=>H b=some (.tup (p.1.map kV))) i3 bs->RzL K H (bs.map V.ref) (hs.map dI)
 |[],[],_,_,.nil=>.nil
 |[],h :: hs,_,e,_=>by simp at e
 |kv :: i3,[],_,e,_=>by simp at e
 |kv :: i3,h :: hs,_,e,.cons q t=>by
  have e1:kv.1=qB h:=(MK e).1;have e2:=(MK e).2;rw[e1,xN] at q;exact .cons (.tup q (RpL.ints h)) (zY e2 t)
def kI(K:Fg):Sp:=fun vs H Q _=>∃(v:V) (ts:List Tn),vs=[v]/\Rz K H v (.tuple (ts.map dT))/\ts.length<=100/\∀(p:Addr) (H':Hp),AccZ K H p H' ((Em ts).map dI)->Q (.ref p) H'
def kE(K:Fg):TS:=(aF (aR DL (aO 1))
 (aF (eW (vc K (ag 0)) (aO 2)
 (aF (yM (ag 1) (aE (bt K) (ag 2) (tC (.int 0))) (tC (.bl true)))
 (yM (ag 1) (aE (bt K) (ag 2) (tC (.int 1))) (tC (.bl true)))))
 (aY (b_ DW (ao (ag 1) aA)))))
theorem lZ{K:Fg}(h:Rz K H v (dT t)):∃(a:Addr) (v1 v2 v3:V),v=.ref a/\H a=some (.tup [v1,v2,v3])/\Rz K H v1 (dI t.fr)/\Rz K H v2 (dI t.to)/\Rz K H v3 (dI [t.q,t.d]):=by
 obtain⟨a,xs,e,ha,r⟩:=h.fj;cases r with
 |cons r1 r =>
  cases r with
  |cons r2 r =>
   cases r with
   |cons r3 r =>
    cases r;exact⟨a,_,_,_,e,ha,r1,r2,r3⟩
theorem vh{K:Fg}(h:Rz K H v (dI ns)):∃a:Addr,v=.ref a/\H a=some (.tup (ns.map V.int)):=by
 obtain⟨a,xs,e,ha,r⟩:=h.fj;rw[RpL.ints_of r] at ha;exact⟨a,e,ha⟩
theorem wZ{K:Fg}{N:List Str}(hN:N.length=3)(h:kI K vs H Q E):kE K (ends Q) (L2.start N vs) H:=by
 obtain⟨v,ts,rfl,rv,hl,k⟩:=h;obtain⟨a,xs,rfl,ha,rx⟩:=rv.fj;rw[L2.cu hN];walk_at "t";have lx:xs.length=ts.length:=by rw[rx.length,K9]
 unfold kE;walk_at "";intro d nd;walk_at "";refine HZ (SqT.of ((au nd _) _ _ ha)) ?_;refine AH (xs:=xs) (fun i σ H2=>∃(i3:List (List Key×V)) (u:Option V),σ=[some (.ref a),some (.ref d),u]/\Same H H2/\H2 d=some (.dT i3)/\i3.map (·.1)=(Em (ts.take i)).map qB) ⟨[],none,rfl,au nd _,aq,rfl⟩ ?_ ?_ ?_
 ·rintro i σ H2 _ ⟨i3,u,rfl,S,ed,ek⟩;exact SqT.of (S _ _ ha)
 ·rintro i z σ H2 hz ⟨i3,u,rfl,S,ed,ek⟩;obtain⟨dd,g1,g2⟩:=rx.get hz;rw[Ll] at g1;obtain⟨t,ht,rfl⟩:=Lu.mp g1;obtain⟨at_,v1,v2,v3,rfl,Ys,r1,r2,_⟩:=lZ (g2.same S);obtain⟨b1,rfl,XJ⟩:=vh r1;obtain⟨b2,rfl,W0⟩:=vh r2;have ti:i<ts.length:=(K_.mp ht).1;have kl:i3.length=(Em (ts.take i)).length:=by have:=congrArg Oo ek;simpa using this
  have WN:=wt (ts.take i) [];rw[LK] at WN;have kl2:i3.length<=2*i:=by rw[kl];unfold Em;simp only[QL] at WN;walk_at "om"
  have e1:=q_ ek t.fr (.bl true);have e2:=q_ e1 t.to (.bl true);have le1:=iq i3 (qB t.fr) (.bl true);have n1:b1≠d:=CG XJ ed (by intro z;cases z);have n2:b2≠d:=CG W0 ed (by intro z;cases z);have n3:at_≠d:=CG Ys ed (by intro z;cases z);walk_at "";refine bu (SqT.of Ys) (v:=.ref b1) rfl ?_;refine⟨d,_,rfl,DPut.t ed (k:=qB t.fr) (by rw[xN];exact XJ) (bh (by walk_at "om")),?_⟩;walk_at "";refine bu (SqT.of (by rw[bf n3];exact Ys)) (v:=.ref b2) rfl ?_;refine⟨d,_,rfl,DPut.t aq (k:=qB t.to) (by rw[xN,bf n2];exact W0) (bh (by walk_at "om")),?_⟩;rw[ED];refine⟨_,_,rfl,fun b o q=>?_,aq,?_⟩
  ·rw[bf (bA q nd)];exact S _ _ q
  ·rw[e2];congr 1;have et:ts.take (i+1)=ts.take i++[t]:=by rw[LV,ht];rfl
   rw[et];exact(Aw [] (ts.take i) t).symm
 ·rintro σ H2 ⟨i3,u,rfl,S,ed,ek⟩;rw[lx,Ln (Lf _)] at ek;walk_at "";refine⟨d,i3,rfl,ed,fun l bs nl pr=>?_⟩;have S2:=au nl (.lst (bs.map V.ref));exact k l _ ⟨S.trans S2,S.free nl,_,aq,(zY ek pr).same S2⟩
theorem KH{K:Fg}(h:Rz K H v (dV ws ts)):∃(a:Addr) (v1 v2:V),v=.ref a/\H a=some (.tup [v1,v2])/\Rz K H v1 (.tuple (ws.map Mu))/\Rz K H v2 (.tuple (ts.map dT)):=by
 obtain⟨a,xs,e,ha,r⟩:=h.fj;cases r with
 |cons r1 r =>
  cases r with
  |cons r2 r =>
   cases r;exact⟨a,_,_,e,ha,r1,r2⟩
end Vs
namespace G2
end G2
namespace Ti
open PySem L2 Fr G1 Sm Vs G2
open PySem.W (Dat kqdOk)
theorem pU{hs:List (List Int)}{x:List Int}(m:x∈hs):x∈eT hs h:=by
 unfold eT;split
 ·exact m
 ·exact MP _ m
theorem wk(hs:List (List Int))(h:List Int):h∈eT hs h:=by
 unfold eT;split
 ·assumption
 ·exact LH _ (Lw.mpr rfl)
theorem pY:∀{ts:List Tn} {hs:List (List Int)} {x:List Int},x∈hs->x∈jZ hs ts
 |[],_,_,m=>m
 |t :: ts,hs,x,m=>pY (ts:=ts) (pU (pU m))
theorem kq:∀{ts:List Tn} {hs:List (List Int)} {t:Tn},t∈ts->t.fr∈jZ hs ts/\t.to∈jZ hs ts
 |u :: ts,hs,t,m=>by
  rcases Lr.mp m with rfl|m
  ·exact⟨pY (ts:=ts) (pU (wk _ _)),pY (ts:=ts) (wk _ _)⟩
  ·exact kq (ts:=ts) m
end Ti
namespace Sz
end Sz
namespace Sf
open Rk Sz
theorem IL(a b:Int):Gd.gd a b∣a/\Gd.gd a b∣b:=⟨RW ..,Rv ..⟩
end Sf
namespace Rw
end Rw
namespace Cl
end Cl
namespace Mk
end Mk
namespace L2
open PySem
theorem Ei{to ti:TE}{t:Dy}{H:Hp}{Q:St->Hp->Prop}(h:to σ H fun o H1=>ti σ H1 fun i H2=>t o i v H2 fun H3=>Q σ H3):C6 to ti t v σ H Q:=h
end L2
namespace Lo
end Lo
namespace L2
open PySem
theorem I_:bootBuiltins "min"=some (.builtin "min"):=by decide +kernel
end L2
namespace Bo
end Bo
namespace Br
end Br
namespace Fr
theorem zN{b:Int}(hb:b≠0)(L:Gd.Low t b q d):q=(Pm t b).num/\d=((Pm t b).den:Int):=by
 obtain⟨pos,low,worth⟩:=L;have e:Pm t b=Pm q d:=(Rat.divInt_eq_divInt_iff hb (by walk_at "om")).mpr worth.symm
 have cp:Nat.Coprime q.natAbs d.natAbs:=by
  unfold Gd.gd at low;unfold Nat.Coprime
  have:Int.gcd q d=Nat.gcd q.natAbs d.natAbs:=rfl
  walk_at "om"
 have m:Rat.mk' q d.natAbs (by walk_at "om") cp=Pm q d:=by
  rw[Rat.mk_eq_divInt];congr 1;walk_at "om"
 rw[e,<- m];exact⟨rfl,by show d=(d.natAbs:Int);walk_at "om"⟩
end Fr
namespace Tr
open PySem L2 Fr G1 Sm Vs G2 Rk Sz Sf Rw Ti
open PySem.W (Dat kqdOk)
def dQ(x:Rat):Dat:=dI [x.num,(x.den:Int)]
def kK(K:Fg):Sp:=fun vs H Q _=>∃t b:Int,vs=[.int t,.int b]/\b≠0/\t.natAbs<2 ^ 8000/\b.natAbs<2 ^ 8000/\∀(p:Addr) (H':Hp),Same H H'->Rz K H' (.ref p) (dQ (Pm t b))->Q (.ref p) H'
def oF(K:Fg):TS:=(aF (bq (kF (gb (tB (bo je [] E0 (ao (ag 0) aA)))) (gb (tB (bo je [] E0 (ao (ag 1) aA)))))
 qC
 bp)
 (aF (bq (bg (aE fq (ag 1) (tC (.int 0))))
 qC
 bp)
 (aF (aR (bo yx [] E0 (ao (ag 0) (ao (ag 1) aA))) (aO 2))
 (aF (bq (bg (aE uq (ag 1) (tC (.int 0))))
 (aR (DK (rU fun i=>.int (-i)) (ag 2)) (aO 2))
 bp)
 (aY (cV (ao (aE xb (ag 0) (ag 2)) (ao (aE xb (ag 1) (ag 2)) aA))))))))
theorem vL{K:Fg}{N:List Str}(hN:N.length=3)(h:kK K vs H Q E):oF K (ends Q) (L2.start N vs) H:=by
 obtain⟨t,b,rfl,b0,ht,hb,k⟩:=h;rw[L2.cu hN];walk_at "t";unfold oF;have p2:(2:Nat) ^ 8000<2 ^ 9000:=Pn (by decide) (by decide);generalize (2:Nat) ^ 8000=P at ht hb p2;have gp:=Gd.nJ (a:=t) b0;have gl:=Gd.IK (a:=t) b0
 have fin:∀d:Int,(d=Gd.gd t b/\0<b\/d = - Gd.gd t b/\b<0)->aY (cV (ao (aE xb (ag 0) (ag 2)) (ao (aE xb (ag 1) (ag 2)) aA))) (ends Q) [some (.int t),some (.int b),some (.int d)] H:=by
  intro d hd;obtain⟨e1,e2⟩:=zN b0 (Gd.zP b0 hd);have dn:d≠0:=by rcases hd with⟨z,_⟩|⟨z,_⟩ <;> walk_at "om"
  have dw:d.natAbs<2 ^ 9000:=by
   refine M5 ?_ (L8 hb p2);rcases hd with⟨z,_⟩|⟨z,_⟩ <;> walk_at "om"
  walk_at "";refine⟨_,_,rfl,rfl,⟨dn,dw⟩,?_⟩;walk_at "";refine⟨_,_,rfl,rfl,⟨dn,dw⟩,?_⟩;walk_at "";refine⟨bG,fun p np=>?_⟩;show Q (.ref p) (upd H p (.tup [.int (t.fdiv d),.int (b.fdiv d)]));rw[e1,e2];exact k p _ (au np _) (.tup aq (RpL.ints [_,_]))
 walk_at "";refine⟨t,rfl,?_⟩;walk_at "";refine⟨b,rfl,?_⟩;walk_at "";refine bZ (fun z=>absurd z b0) (fun _=>?_);walk_at "";refine⟨t,b,rfl,?_⟩;walk_at "";refine bZ (fun c=>?_) (fun c=>?_)
 ·obtain h2:=fin _ (.inr ⟨rfl,c⟩);refine IA ?_;fail "1";refine uY (i:=2) rfl ?_;refine Ic ?_;refine gy ?_;exact h2
 ·exact fin _ (.inl ⟨rfl,by walk_at "om"⟩)
open Fr
open PySem L2 Fr G1 Sm Vs G2 Rk Sz Sf Rw Ti Lo
end Tr
namespace Rd
end Rd
namespace Wq
end Wq
namespace Nv
open PySem L2 Fr G1 Sm Vs
open PySem.W (Dat kqdOk kqdP kqdPs)
structure Cn (K:Fg) (mg:Str->Option La) (nq:Addr):Prop where
 MOST_STUFFS:∃t,mg "MOST_STUFFS"=some (.int 5 t)
 MOST_SIGNS:∃t,mg "MOST_SIGNS"=some (.int 8 t)
 MOST_PIECES:∃t,mg "MOST_PIECES"=some (.int 3 t)
 MOST_TURNINGS:∃t,mg "MOST_TURNINGS"=some (.int 8 t)
 MOST_HEAPS:∃t,mg "MOST_HEAPS"=some (.int 8 t)
 NOUGHT:mg "NOUGHT"=some (.ref nq)
 two:∀H:Hp,SqT K H nq [.int 0,.int 1]
theorem szL:sizeLine=16777216:=by decide
def kg(K:Fg):Sp:=fun vs H Q _=>∃(p q:Addr) (a b c d:Int),vs=[.ref p,.ref q]/\SqT K H p [.int a,.int b]/\SqT K H q [.int c,.int d]/\vz a d/\vz c b/\Q (.bl (decide (a*d<c*b))) H
def kc(K:Fg):TS:=(aY (aE uq (aE Hw (aE (bt K) (ag 0) (tC (.int 0))) (aE (bt K) (ag 1) (tC (.int 1)))) (aE Hw (aE (bt K) (ag 1) (tC (.int 0))) (aE (bt K) (ag 0) (tC (.int 1))))))
theorem qY{K:Fg}{N:List Str}(hN:N.length=2)(h:kg K vs H Q E):kc K (ends Q) (L2.start N vs) H:=by
 obtain⟨p,q,a,b,c,d,rfl,hp,hq,m1,m2,k⟩:=h;rw[L2.cu hN];walk_at "t";unfold kc;walk_at "";refine bu hp (v:=.int a) rfl ?_;walk_at "";refine bu hq (v:=.int d) rfl ?_;refine uZ m1 ?_;walk_at "";refine bu hq (v:=.int c) rfl ?_;walk_at "";refine bu hp (v:=.int b) rfl ?_;refine uZ m2 ?_;walk_at "";exact k
theorem CP{Q:VK}{i j:Str}(h:Q (.bl (!decide (j.cps.toList<i.cps.toList))) H):w6 (.str i) (.str j) H Q:=⟨i,j,rfl,rfl,h⟩
theorem K4:(("a":Str)).cps.toList=[97]:=by decide +kernel
theorem K3:(("z":Str)).cps.toList=[122]:=by decide +kernel
theorem iU{r:V->Hp->(Nat->Hp->Prop)->Prop}{te:TE}{H:Hp}{Q:VK}(h:te σ H fun x H1=>r x H1 fun n H2=>(n:Int)<2 ^ 63/\Q (.int n) H2):jc r te σ H Q:=h
theorem Eb{ws:List Str}(h:ws.Nodup):(ws.map Mu).Nodup:=by
 induction ws with
 |nil=>exact MV
 |cons w ws ih =>
  rw[Mg] at h;rw[LP,Mg];refine⟨fun z=>?_,ih h.2⟩;obtain⟨v,hv,e⟩:=Lm.mp z;cases e;exact h.1 hv
structure Rw where
 one:Bool
 two:Bool
 t:Tn
def dQ(b:Bool)(h:List Int):Dat:=if b then .list (h.map ND) else dI h
def dR(r:Rw):Dat:=.tuple [dQ r.one r.t.fr,dQ r.two r.t.to,dI [r.t.q,r.t.d]]
theorem IV{K:Fg}(r:Rp K S H v (dQ b h)):∃a,v=.ref a/\((b=true/\H a=some (.lst (h.map V.int)))\/(b=false/\H a=some (.tup (h.map V.int)))):=by
 cases b with
 |true =>
  obtain⟨a,xs,e,_,ha,rx⟩:=(show Rp K S H v (.list (h.map ND)) from r).Ec;cases RpL.ints_of rx;exact⟨a,e,.inl ⟨rfl,ha⟩⟩
 |false =>
  obtain⟨a,xs,e,ha,rx⟩:=(show Rp K S H v (dI h) from r).fj;cases RpL.ints_of rx;exact⟨a,e,.inr ⟨rfl,ha⟩⟩
theorem KI{K:Fg}(h:Rp K S H v (dR r)):∃(a b1 b2 b3:Addr),v=.ref a/\H a=some (.tup [.ref b1,.ref b2,.ref b3]) /\
  ((r.one=true/\H b1=some (.lst (r.t.fr.map V.int)))\/(r.one=false/\H b1=some (.tup (r.t.fr.map V.int))))/\((r.two=true/\H b2=some (.lst (r.t.to.map V.int)))\/(r.two=false/\H b2=some (.tup (r.t.to.map V.int))))/\H b3=some (.tup [.int r.t.q,.int r.t.d]):=by
 obtain⟨a,xs,e,ha,rx⟩:=h.fj;cases rx with
 |cons r1 rx =>
  cases rx with
  |cons r2 rx =>
   cases rx with
   |cons r3 rx =>
    cases rx;obtain⟨b1,rfl,h1⟩:=IV r1;obtain⟨b2,rfl,h2⟩:=IV r2;obtain⟨b3,ys,rfl,h3,ry⟩:=r3.fj;cases RpL.ints_of (ns:=[r.t.q,r.t.d]) ry;exact⟨a,b1,b2,b3,e,ha,h1,h2,h3⟩
theorem Hd{K:Fg}{H:Hp}{p q:Prop}(h:(p/\H a=some (.lst xs))\/(q/\H a=some (.tup xs))):SqL K H a xs\/SqT K H a xs:=h.imp (fun z=>SqL.of z.2) (fun z=>SqT.of z.2)
theorem Ee{K:Fg}{H:Hp}{Q:VK}{p q:Prop}(h:(p/\H a=some (.lst xs))\/(q/\H a=some (.tup xs)))(k:∀(l:Addr) (H':Hp),Same H H'->H' l=some (.tup xs)->Q (.ref l) H'):dH K [.ref a] H Q:=by
 rcases h with⟨_,h⟩|⟨_,h⟩
 ·exact e9 (SqL.of h) fun l nl=>k l _ (au nl _) aq
 ·exact Ac (SqT.of h) (k a H (Same.refl _) h)
theorem Ab{p q:Prop}(S:Same H H')(h:(p/\H a=some (.lst xs))\/(q/\H a=some (.tup xs))):(p/\H' a=some (.lst xs))\/(q/\H' a=some (.tup xs)):=h.imp (fun z=>⟨z.1,S _ _ z.2⟩) (fun z=>⟨z.1,S _ _ z.2⟩)
theorem lE{α:Type}[DecidableEq α]:∀{l hs:List α},l.Nodup->(∀x∈l,x∈hs)->l.length<=hs.length
 |[],_,_,_=>Ml _
 |x :: l,hs,nd,sub=>by
  rw[Mg] at nd;have hx:=sub x Lg
  have h:=lE (l:=l) (hs:=hs.erase x) nd.2 fun y hy=>by
   refine(Td ?_).mpr (sub y (Lj _ hy));rintro rfl;exact nd.1 hy
  rw[RH hx] at h
  have:=Sk hx
  rw[LS];walk_at "om"
theorem Am{hs:List (List Int)}(nd:hs.Nodup):(eT hs h).Nodup:=by
 unfold eT;split
 ·exact nd
 ·rename_i z;exact fC nd z
theorem wm{x:List Int}(m:x∈eT hs h):x∈hs\/x=h:=by
 unfold eT at m;split at m
 ·exact .inl m
 ·rcases L5.mp m with z|z
  ·exact .inl z
  ·exact .inr (Lw.mp z)
theorem Ax{ps:List (List Int)}:∀(ts:List Tn) (hs:List (List Int)),hs.Nodup->(∀x∈hs,x∈ps)->(∀t∈ts,t.fr∈ps/\t.to∈ps)->(jZ hs ts).Nodup/\∀x∈jZ hs ts,x∈ps
 |[],hs,nd,sub,_=>⟨nd,sub⟩
 |t :: ts,hs,nd,sub,ht=>by
  have h0:=ht t Lg;refine Ax ts (eT (eT hs t.fr) t.to) (Am (Am nd)) (fun x hx=>?_) fun u hu=>ht u (Lj _ hu)
  rcases wm hx with z|z
  ·rcases wm z with y|y
   ·exact sub x y
   ·rw[y];exact h0.1
  ·rw[z];exact h0.2
def fU(ts:List Tn):Prop:=1<=ts.length/\ts.length<=8/\(ts.map qc).Nodup/\(∀t∈ts,t.fr≠t.to)/\(Em ts).length<=8
def dE(t:Tn):Dat:=.tuple [dI t.fr,dI t.to]
theorem pS(ns:List Int):kqdPs (ns.map ND)=ns.map Qv:=by
 induction ns with
 |nil=>rw[Os,kqdPs];rfl
 |cons n ns ih=>rw[LP,kqdPs,ih,kqdP];rfl
theorem pV(n:Nat)(ns:List Int):gZ n (ns.map Qv)=true:=by
 induction ns with
 |nil=>rw[Os,gZ]
 |cons m ns ih=>rw[LP,gZ,ih,iu];rfl
theorem AA(t:Tn):L2.Good (dE t):=by
 have e:kqdP (dE t)=.tuple [.tuple (t.fr.map Qv),.tuple (t.to.map Qv)]:=by
  unfold dE;rw[kqdP,kqdPs,kqdPs,kqdPs,kqdP,kqdP,pS,pS]
 refine⟨?_,?_,_,e⟩
 ·show((dI t.fr :: [dI t.to]).all (kqdOk 7))=true;rw[QC,QC,List.all_nil,io t.fr 6,io t.to 6];rfl
 ·rw[e,iu,gZ,gZ,gZ,iu,iu,pV,pV];rfl
theorem FS{ts:List Tn}(h:(ts.map qc).Nodup):(ts.map dE).Nodup:=by
 induction ts with
 |nil=>exact MV
 |cons t ts ih =>
  rw[LP,Mg] at h;rw[LP,Mg];refine⟨fun z=>h.1 ?_,ih h.2⟩;obtain⟨u,hu,e⟩:=Lm.mp z;have e':=TU e;have e1:=jF (MK e').1;have e2:=jF (MK (MK e').2).1;refine Lm.mpr ⟨u,hu,?_⟩;unfold qc;rw[e1,e2]
theorem lt1(c d:Nat):(([c]:List Nat) < [d])↔c<d:=by
 rw[List.cons_lt_cons_iff];constructor
 ·rintro(z|⟨_,z⟩)
  ·exact z
  ·cases z
 ·exact .inl
theorem Dr{K:Fg}{bs:List Bool}{n i:Nat}{b:Bool}(hn:n<=900)(hi:i<n)(eb:bs[i]?=some b)(A:AccZ K H0 D H2 ((bs.take i).map O0))(S:Same H2 H3):xH D n i (fun j H=>AccZ K H0 D H ((bs.take j).map O0)) (.bl b) H3:=by
 refine cw hi ((A.on S).fu (.bl b) (bh (by rw[K9,LK];walk_at "om")) fun H4 A4=>?_);show AccZ K H0 D H4 ((bs.take (i+1)).map O0);rw[LV,eb,Lq];exact A4
def letter(c:Nat):Bool:=decide (97<=c) && decide (c<=122)
def isWb(w:Str):Bool:=decide (1<=w.cps.size/\w.cps.size<=8) && (w.cps.toList.map letter).all id
def f8(w:Str):Prop:=w.cps.all (· < 128)=true/\w.cps.size<=800
def kf(K:Fg):Sp:=fun vs H Q _=>∃w:Str,vs=[.str w]/\f8 w/\∀H',Same H H'->Q (.bl (isWb w)) H'
def j_ (K:Fg):TS:=(aF (bq (kF (gb (tB (b_ (fL K) (ao (ag 0) (ao (tC (.ty "str")) aA))))) (gb (bg (iF Cf Cf (tC (.int 1)) (b_ Ce (ao (ag 0) aA)) (tC (.int 8))))))
 (aY (tC (.bl false)))
 bp)
 (aY (b_ (uw K) (ao (eI (Ap (ag 0)) (iF w6 w6 (tC (.str "a")) (ag 0) (tC (.str "z")))) aA))))
theorem qW{K:Fg}{N:List Str}(hN:N.length=1)(h:kf K vs H Q E):j_ K (ends Q) (L2.start N vs) H:=by
 obtain⟨w,rfl,⟨asc,w800⟩,k⟩:=h;rw[L2.cu hN];walk_at "t";unfold isWb at k
 have no : ¬ (1<=w.cps.size/\w.cps.size<=8)->Q (.bl false) H:=fun z=>by
  have:=k H (Same.refl _)
  rw[decide_eq_false z] at this;exact this
 unfold j_;walk_at "";refine a_ (.str w) ir ?_;walk_at "";refine Af (by rw[szL];show w.cps.size<=_;walk_at "om") ?_;have el:w.length=w.cps.size:=rfl;rw[el];walk_at "";refine bZ (fun w1=>?_) (fun z=>?_)
 ·walk_at "";refine cN (fun z=>?_) (fun w8=>?_)
  ·walk_at "";exact no (by walk_at "om")
  ·rw[decide_eq_true (show 1<=w.cps.size/\w.cps.size<=8 by walk_at "om"),N_] at k;walk_at "";refine⟨w,rfl,asc,?_⟩;generalize Ww:w.cps.toList.map letter=bs at k;have lb:bs.length=w.cps.size:=by rw[<- Ww,K9,Mv]
   refine wD fun D nD=>⟨fun j H3=>AccZ K H D H3 ((bs.take j).map O0),AccZ.start (Same.refl _) nD,?_,?_⟩
   ·intro i c H2 hc A;have hi:i<w.cps.size:=(Mr.mp hc).1;have eb:bs[i]?=some (letter c):=by rw[<- Ww,Ll,MA,hc];rfl
    have fin:=Dr (n:=w.cps.size) (by walk_at "om") hi eb A (Same.refl _);unfold letter at fin;walk_at "";refine CP ?_;rw[K4];walk_at "";refine cN (fun z=>?_) (fun z=>?_)
    ·rw[lt1] at z;rw[decide_eq_true (show 97<=c by walk_at "om"),N_] at fin;walk_at "";refine CP ?_;rw[K3]
     have e:(!decide (([122]:List Nat) < [c]))=decide (c<=122):=by
      by_cases q:c<=122
      ·rw[decide_eq_true q,decide_eq_false (by rw[lt1];walk_at "om")];rfl
      ·rw[decide_eq_false q,decide_eq_true (by rw[lt1];walk_at "om")];rfl
     have e2:(⟨#[c]⟩:Str).cps.toList=[c]:=rfl;rw[e];exact fin
    ·rw[lt1] at z;rw[decide_eq_false (show ¬ 97<=c by walk_at "om"),Qe] at fin;walk_at "";exact fin
   ·intro H2 A;rw[<- lb,Ln (Lf _)] at A;refine r_ (AccZ.bls A) ?_;exact k H2 A.same
 ·walk_at "";exact no (by walk_at "om")
def cX(ws:List Str):Prop:=(1<=ws.length/\ws.length<=5)/\(∀w∈ws,isWb w=true)/\ws.Nodup
def gP(K:Fg)(C:Addr):Sp:=fun vs H Q E=>∃(a:Addr) (ws:List Str),vs=[.ref a]/\(SqL K H a (ws.map V.str)\/H a=some (.tup (ws.map V.str)))/\(∀w∈ws,f8 w)/\ws.length<=20/\(cX ws->∀(p:Addr) (H':Hp),Same H H'->H' p=some (.tup (ws.map V.str))->Q (.ref p) H')/\(¬ cX ws->∀H',Same H H'->E (.ref C) none H')
theorem wH:cnt ds<ds.length↔¬ ds.Nodup:=by
 have h1:=AV ds;have h2:=l6 ds;constructor
 ·intro z q
  have:=h1.mpr q
  walk_at "om"
 ·intro z
  have:cnt ds≠ds.length:=fun q=>z (h1.mp q)
  walk_at "om"
theorem FQ{ws:List Str}(h:(ws.map Mu).Nodup):ws.Nodup:=by
 induction ws with
 |nil=>exact MV
 |cons w ws ih =>
  rw[LP,Mg] at h;rw[Mg];exact⟨fun z=>h.1 (Lm.mpr ⟨w,z,rfl⟩),ih h.2⟩
def j9(K:Fg)(E:XK)(x:Ex0.Ad):TS:=(aF (bq (gb (bg (iF Cf Cf (tC (.int 1)) (b_ (cM K) (ao (ag 0) aA)) (tC (.int 5)))))
 (fW E x.c1 (tC (.str "a vessel has one to five stuffs")))
 bp)
 (aF (bq (gb (tB (b_ (uw K) (ao (eI (CY K (ag 0)) (bo (kf K) [] E0 (ao (ag 0) aA))) aA))))
 (fW E x.c1 (tC (.str "a stuff is a word of one to eight signs from a to z")))
 bp)
 (aF (bq (bg (aE uq (jc (Ht K) (ag 0)) (b_ (cM K) (ao (ag 0) aA))))
 (fW E x.c1 (tC (.str "no two stuffs have the same word")))
 bp)
 (aY (b_ (dH K) (ao (ag 0) aA))))))
theorem qV{K:Fg}{x:Ex0.Ad}{N:List Str}(hN:N.length=1)(h:gP K x.c1 vs H Q E):j9 K E x (ends Q) (L2.start N vs) H:=by
 obtain⟨a,ws,rfl,hz,pl,XF,k,ke⟩:=h;have ha:SqL K H a (ws.map V.str)\/SqT K H a (ws.map V.str):=hz.imp id SqT.of;rw[L2.cu hN];walk_at "t";have lm:(ws.map V.str).length=ws.length:=K9 ..;have bad:∀(H':Hp) (m:Str),Same H H'->¬ cX ws->fW E x.c1 (tC (.str m)) (ends Q) [some (.ref a)] H':=fun H' m S z=>⟨rfl,ke z H' S⟩
 unfold j9;walk_at "";refine⟨a,_,rfl,ha,?_⟩;rw[lm];walk_at "";refine bZ (fun w1=>?_) (fun z=>?_)
 ·walk_at "";refine cN (fun z=>?_) (fun w5=>?_)
  ·exact bad H _ (Same.refl _) fun q=>by have:=q.1;walk_at "om"
  ·walk_at "";generalize Ww:ws.map isWb=bs;have lb:bs.length=(ws.map V.str).length:=by rw[<- Ww,K9,K9]
   refine wE ha fun D nD=>⟨fun j H3=>AccZ K H D H3 ((bs.take j).map O0),AccZ.start (Same.refl _) nD,fun i H2 A=>A.same,?_,?_⟩
   ·intro i y H2 hy A;have hi:i<(ws.map V.str).length:=(K_.mp hy).1;rw[Ll] at hy;obtain⟨w,hw,rfl⟩:=Lu.mp hy;have eb:bs[i]?=some (isWb w):=by rw[<- Ww,Ll,hw];rfl
    walk_at "";exact⟨w,rfl,pl w (Li hw),fun H3 S3=>Dr (by walk_at "om") hi eb A S3⟩
   ·intro H2 A;rw[<- lb,Ln (Lf _)] at A;walk_at "";refine r_ (AccZ.bls A) ?_;cases V2:bs.all id with
    |false =>
     walk_at "";refine bad H2 _ A.same fun q=>?_
     have:bs.all id=true:=by
      rw[<- Ww,Mp];intro b hb;obtain⟨w,hw,rfl⟩:=Lm.mp hb;exact q.2.1 w hw
     rw[V2] at this;cases this
    |true =>
     walk_at "";have hc:=l6 (ws.map Mu);have W3:=wH (ds:=ws.map Mu);rw[K9] at hc W3
     have so : ¬ (cnt (ws.map Mu)<ws.length)->cX ws:=fun z=>by
      refine⟨⟨by walk_at "om",by walk_at "om"⟩,fun w hw=>?_,FQ (NF fun q=>z (W3.mpr q))⟩;rw[<- Ww,Mp] at V2;exact V2 _ (Lm.mpr ⟨w,hw,rfl⟩)
     refine iU ?_;walk_at "";rcases hz with hL|hT
     ·have h2:=A.same.seq hL;refine⟨.L,a,ws,rfl,h2,by walk_at "om",?_⟩;refine⟨by walk_at "om",?_⟩;walk_at "";refine⟨a,_,rfl,.inl h2,?_⟩;rw[lm];walk_at "";refine bZ (fun z=>?_) (fun z=>?_)
      ·exact bad H2 _ A.same fun q=>W3.mp (by walk_at "om") (Eb q.2.2)
      ·walk_at "";refine e9 h2 fun p np=>?_
       exact k (so (by walk_at "om")) p _ (A.same.trans (au np _)) aq
     ·have h2:SqT K H2 a (ws.map V.str):=SqT.of (A.same _ _ hT);refine⟨.T,a,ws,rfl,h2,by walk_at "om",?_⟩;refine⟨by walk_at "om",?_⟩;walk_at "";refine⟨a,_,rfl,.inr h2,?_⟩;rw[lm];walk_at "";refine bZ (fun z=>?_) (fun z=>?_)
      ·exact bad H2 _ A.same fun q=>W3.mp (by walk_at "om") (Eb q.2.2)
      ·walk_at "";refine Ac h2 ?_;exact k (so (by walk_at "om")) a _ A.same (A.same _ _ hT)
 ·walk_at "";exact bad H _ (Same.refl _) fun q=>by have:=q.1;walk_at "om"
def okN(x:Int):Bool:=decide (0<=x) && decide (x<=3)
def pX(n:Nat)(h:List Int):Bool:=decide (h.length=n) && (h.map okN).all id
def iJ(K:Fg):Sp:=fun vs H Q _=>∃(a:Addr) (h:List Int) (n:Int),vs=[.ref a,.int n]/\(SqL K H a (h.map V.int)\/SqT K H a (h.map V.int))/\h.length<=100/\0<=n/\∀H',Same H H'->Q (.bl (pX n.toNat h)) H'
def kb(K:Fg):TS:=(aF (bq (kF (gb (tB (ER K (ag 0)))) (bg (aE w4 (b_ (cM K) (ao (ag 0) aA)) (ag 1))))
 (aY (tC (.bl false)))
 bp)
 (aY (b_ (uw K) (ao (eI (CY K (ag 0)) (mF (bo je [] E0 (ao (ag 0) aA)) (iF Cf Cf (tC (.int 0)) (ag 0) (tC (.int 3))))) aA))))
theorem qX{K:Fg}{N:List Str}(hN:N.length=2)(h:iJ K vs H Q E):kb K (ends Q) (L2.start N vs) H:=by
 obtain⟨a,h,n,rfl,ha,h100,n0,k⟩:=h;rw[L2.cu hN];walk_at "t";have lm:(h.map V.int).length=h.length:=K9 ..;unfold pX at k;unfold kb;walk_at "";refine⟨a,rfl,ha.imp (fun z=>⟨_,z⟩) (fun z=>⟨_,z⟩),?_⟩;walk_at "";refine⟨a,_,rfl,ha,?_⟩;rw[lm];walk_at "";refine cN (fun z=>?_) (fun z=>?_)
 ·walk_at ""
  have:=k H (Same.refl _)
  rw[decide_eq_false (show ¬ h.length=n.toNat by walk_at "om")] at this;exact this
 ·rw[decide_eq_true (show h.length=n.toNat by walk_at "om"),N_] at k;walk_at "";generalize Ww:h.map okN=bs at k;have lb:bs.length=(h.map V.int).length:=by rw[<- Ww,K9,K9]
  refine wE ha fun D nD=>⟨fun j H3=>AccZ K H D H3 ((bs.take j).map O0),AccZ.start (Same.refl _) nD,fun i H2 A=>A.same,?_,?_⟩
  ·intro i y H2 hy A;have hi:i<(h.map V.int).length:=(K_.mp hy).1;rw[Ll] at hy;obtain⟨m,hm,rfl⟩:=Lu.mp hy;have eb:bs[i]?=some (okN m):=by rw[<- Ww,Ll,hm];rfl
   have fin:=Dr (K:=K) (H0:=H) (by walk_at "om") hi eb A (Same.refl _);unfold okN at fin;walk_at "";refine⟨m,rfl,?_⟩;walk_at "";refine bZ (fun z=>?_) (fun z=>?_)
   ·rw[decide_eq_true z,N_] at fin;walk_at "";exact fin
   ·rw[decide_eq_false z,Qe] at fin;walk_at "";exact fin
  ·intro H2 A;rw[<- lb,Ln (Lf _)] at A;refine r_ (AccZ.bls A) ?_;exact k H2 A.same
def gX(n:Nat)(r:Rw):Bool:=pX n r.t.fr && pX n r.t.to
structure Jz (r:Rw):Prop where
 fr:r.t.fr.length<=100
 to:r.t.to.length<=100
 q:r.t.q.natAbs<2 ^ 1900
 d:r.t.d.natAbs<2 ^ 1900
def gO(K:Fg)(C2 C3:Addr):Sp:=fun vs H Q E=>∃(a:Addr) (S:Addr->Prop) (rs:List Rw) (n:Int),vs=[.ref a,.int n]/\Rp K S H (.ref a) (.list (rs.map dR))/\(∀r∈rs,Jz r)/\0<=n/\rs.length<=12 /\
 ((∀r∈rs,gX n.toNat r=true)->(∀r∈rs,0<r.t.q)->∀(p:Addr) (H':Hp),Same H H'->Rz K H' (.ref p) (.tuple ((rs.map Rw.t).map dT))->Q (.ref p) H') /\
 ((∃r∈rs,gX n.toNat r=false)->∀H',Same H H'->E (.ref C2) none H')/\((∀r∈rs,gX n.toNat r=true)->(∃r∈rs,¬ 0<r.t.q)->∀H',Same H H'->E (.ref C3) none H')
theorem HH{a b:Int}(ha:a.natAbs<2 ^ 1900)(hb:b.natAbs<2 ^ 1900):vz a b:=⟨LR ha (Ov (by decide) (by decide)),LR hb (Ov (by decide) (by decide))⟩
def gM(K:Fg)(E:XK)(x:Ex0.Ad)(nq:Addr):TS:=(aF (eW (gY K (ag 0)) (aO 2)
 (bq (kF (gb (tB (bo (iJ K) [] E0 (ao (aE (bt K) (ag 2) (tC (.int 0))) (ao (ag 1) aA))))) (gb (tB (bo (iJ K) [] E0 (ao (aE (bt K) (ag 2) (tC (.int 1))) (ao (ag 1) aA))))))
 (fW E x.c2 (tC (.str "a heap has 0 to 3 pieces of each stuff")))
 bp))
 (aF (eW (gY K (ag 0)) (aO 2)
 (bq (gb (tB (bo (kg K) [] E0 (ao (tC (.ref nq)) (ao (aE (bt K) (ag 2) (tC (.int 2))) aA)))))
 (fW E x.c3 (tC (.str "a pace is above 0")))
 bp))
 (aY (b_ (dH K) (ao (eI (gY K (ag 0)) (cV (ao (b_ (dH K) (ao (aE (bt K) (ag 0) (tC (.int 0))) aA)) (ao (b_ (dH K) (ao (aE (bt K) (ag 0) (tC (.int 1))) aA)) (ao (b_ (dH K) (ao (aE (bt K) (ag 0) (tC (.int 2))) aA)) aA))))) aA)))))
theorem kU{K:Fg}(G:Cn K mg nq){x:Ex0.Ad}{N:List Str}(hN:N.length=3)(h:gO K x.c2 x.c3 vs H Q E):gM K E x nq (ends Q) (L2.start N vs) H:=by
 obtain⟨a,S,rs,n,rfl,ra,ok,n0,XR,k,k2,k3⟩:=h;rw[L2.cu hN];walk_at "t";obtain⟨a',xs,e0,_,ha,rx⟩:=ra.Ec;cases e0;have lx:xs.length=rs.length:=by rw[rx.length,K9]
 have at_:∀{i:Nat} {z:V} {H2:Hp},Same H H2->xs[i]?=some z->∃r,rs[i]?=some r/\Jz r/\∃(p b1 b2 b3:Addr),z=.ref p/\H2 p=some (.tup [.ref b1,.ref b2,.ref b3]) /\
   ((r.one=true/\H2 b1=some (.lst (r.t.fr.map V.int)))\/(r.one=false/\H2 b1=some (.tup (r.t.fr.map V.int))))/\((r.two=true/\H2 b2=some (.lst (r.t.to.map V.int)))\/(r.two=false/\H2 b2=some (.tup (r.t.to.map V.int))))/\H2 b3=some (.tup [.int r.t.q,.int r.t.d]):=by
  intro i z H2 S2 hz;obtain⟨dd,g1,g2⟩:=rx.get hz;rw[Ll] at g1;obtain⟨r,hr,rfl⟩:=Lu.mp g1;exact⟨r,hr,ok r (Li hr),KI (g2.same S2)⟩
 have more:∀{P:Rw->Prop} {i:Nat} {r:Rw},rs[i]?=some r->(∀j<i,∀r,rs[j]?=some r->P r)->P r->∀j<i+1,∀r,rs[j]?=some r->P r:=by
  intro P i r hr hp pr j hj r' hr';by_cases q:j<i
  ·exact hp j q r' hr'
  ·have:j=i:=by walk_at "om"
   rw[this,hr] at hr';cases LD hr';exact pr
 have whole:∀{P:Rw->Prop},(∀j<xs.length,∀r,rs[j]?=some r->P r)->∀r∈rs,P r:=by
  intro P hp r hr;obtain⟨j,hj⟩:=M6 hr;exact hp j (by have:=(K_.mp hj).1;walk_at "om") r hj
 unfold gM;walk_at "";refine Ae (SqL.of ha) ?_;refine iZ (xs:=xs) (fun i σ H2=>Same H H2/\(∃u:Option V,σ=[some (.ref a),some (.int n),u])/\∀j<i,∀r,rs[j]?=some r->gX n.toNat r=true) ⟨Same.refl _,⟨none,rfl⟩,fun j hj=>absurd hj (QR _)⟩ (fun i σ H2 _ p=>SqL.of (p.1 _ _ ha)) ?_ ?_
 ·rintro i z σ H2 hz ⟨S2,⟨u,rfl⟩,dn⟩;obtain⟨r,hr,rb,p,b1,b2,b3,rfl,hp,h1,h2,h3⟩:=at_ S2 hz;have mr:=Li hr;walk_at "";refine bu (SqT.of hp) (v:=.ref b1) rfl ?_;walk_at "";refine⟨b1,_,n,rfl,Hd h1,rb.fr,n0,fun H3 S3=>?_⟩;have S03:=S2.trans S3;cases XJ:pX n.toNat r.t.fr with
  |false =>
   walk_at "";exact⟨rfl,k2 ⟨r,mr,by unfold gX;rw[XJ];rfl⟩ H3 S03⟩
  |true =>
   walk_at "";refine bu (SqT.of (S3 _ _ hp)) (v:=.ref b2) rfl ?_;walk_at "";refine⟨b2,_,n,rfl,Hd (Ab S3 h2),rb.to,n0,fun H4 S4=>?_⟩;have S04:=S03.trans S4;cases W0:pX n.toNat r.t.to with
   |false =>
    walk_at "";exact⟨rfl,k2 ⟨r,mr,by unfold gX;rw[XJ,W0];rfl⟩ H4 S04⟩
   |true =>
    walk_at "";exact⟨S04,⟨_,rfl⟩,more (P:=fun r=>gX n.toNat r=true) hr dn (by unfold gX;rw[XJ,W0];rfl)⟩
 ·rintro σ H2 ⟨S2,⟨u,rfl⟩,dn⟩;have good:=whole (P:=fun r=>gX n.toNat r=true) dn;walk_at "";refine Ae (SqL.of (S2 _ _ ha)) ?_;refine iZ (xs:=xs) (fun i σ H3=>Same H H3/\(∃u:Option V,σ=[some (.ref a),some (.int n),u])/\∀j<i,∀r,rs[j]?=some r->0<r.t.q) ⟨S2,⟨_,rfl⟩,fun j hj=>absurd hj (QR _)⟩ (fun i σ H3 _ p=>SqL.of (p.1 _ _ ha)) ?_ ?_
  ·rintro i z σ H3 hz ⟨S3,⟨u',rfl⟩,dn3⟩;obtain⟨r,hr,rb,p,b1,b2,b3,rfl,hp,h1,h2,h3⟩:=at_ S3 hz;have mr:=Li hr;walk_at "";refine bu (SqT.of hp) (v:=.ref b3) rfl ?_;walk_at "";refine⟨nq,b3,0,1,r.t.q,r.t.d,rfl,G.two H3,SqT.of h3,HH (Nat.two_pow_pos _) rb.d,HH rb.q (Nat.one_lt_two_pow (by decide)),?_⟩;by_cases hq:0<r.t.q
   ·rw[decide_eq_true (show 0*r.t.d<r.t.q*1 by walk_at "om")];walk_at "";exact⟨S3,⟨_,rfl⟩,more (P:=fun r=>0<r.t.q) hr dn3 hq⟩
   ·rw[decide_eq_false (show ¬ 0*r.t.d<r.t.q*1 by walk_at "om")];walk_at "";exact⟨rfl,k3 good ⟨r,mr,hq⟩ H3 S3⟩
  ·rintro σ H3 ⟨S3,⟨u',rfl⟩,dn3⟩;have pos:=whole (P:=fun r=>0<r.t.q) dn3;walk_at "";refine r0 (SqL.of (S3 _ _ ha)) ?_;refine d_ (xs:=xs) fun D nD=>⟨fun j H4=>AccZ K H3 D H4 (((rs.take j).map Rw.t).map dT),AccZ.start (Same.refl _) nD,fun i H4 _ A=>SqL.of ((S3.trans A.same) _ _ ha),?_,?_⟩
   ·intro i z H4 hz A;obtain⟨r,hr,rb,p,b1,b2,b3,rfl,hp,h1,h2,h3⟩:=at_ (S3.trans A.same) hz;have li:=(K_.mp hr).1;walk_at "";refine bu (SqT.of hp) (v:=.ref b1) rfl ?_;walk_at "";refine Ee h1 fun l1 H5 S5 e1=>?_
    walk_at "";refine bu (SqT.of (S5 _ _ hp)) (v:=.ref b2) rfl ?_;walk_at "";refine Ee (Ab S5 h2) fun l2 H6 S6 e2=>?_
    walk_at "";refine bu (SqT.of (S6 _ _ (S5 _ _ hp))) (v:=.ref b3) rfl ?_;walk_at "";refine Ac (SqT.of (S6 _ _ (S5 _ _ h3))) ?_;walk_at "";refine⟨dS,fun l3 n3=>?_⟩;have S7:=au n3 (.tup [.ref l1,.ref l2,.ref b3]);have S47:=S5.trans (S6.trans S7);have rt:Rz K (upd H6 l3 (.tup [.ref l1,.ref l2,.ref b3])) (.ref l3) (dT r.t):=.tup aq (.cons (.tup (S7 _ _ (S6 _ _ e1)) (RpL.ints _)) (.cons (.tup (S7 _ _ e2) (RpL.ints _)) (.cons (.tup (S7 _ _ (S6 _ _ (S5 _ _ h3))) (RpL.ints [r.t.q,r.t.d])) .nil)));refine cw (by walk_at "om") ((A.on S47).fu rt (bh (by rw[K9,K9,LK];walk_at "om")) fun H8 A8=>?_);show AccZ K H3 D H8 (((rs.take (i+1)).map Rw.t).map dT);rw[LV,hr,Lq,Lq];exact A8
   ·intro H4 A;rw[lx,Ln (Lf _)] at A;obtain⟨ys,hD,ry⟩:=A.at_;walk_at "";refine e9 (SqL.of hD) fun p np=>?_
    have S5:=au np (.tup ys);exact k good pos p _ (S3.trans (A.same.trans S5)) (.tup aq (ry.same S5))
theorem FR{ts:List Tn}(h:(ts.map dE).Nodup):(ts.map qc).Nodup:=by
 induction ts with
 |nil=>exact MV
 |cons t ts ih =>
  rw[LP,Mg] at h;rw[LP,Mg];refine⟨fun z=>h.1 ?_,ih h.2⟩;obtain⟨u,hu,e⟩:=Lm.mp z;refine Lm.mpr ⟨u,hu,?_⟩;have e1:u.fr=t.fr:=congrArg VE e;have e2:u.to=t.to:=congrArg VF e;unfold dE;rw[e1,e2]
def oQ(K:Fg)(C:Addr):Sp:=fun vs H Q E=>∃(v:V) (ts:List Tn),vs=[v]/\Rz K H v (.tuple (ts.map dT))/\ts.length<=12/\(fU ts->∀H',Same H H'->Q .non H')/\(¬ fU ts->∀H',Same H H'->E (.ref C) none H')
def oG(K:Fg)(E:XK)(x:Ex0.Ad):TS:=(aF (bq (gb (bg (iF Cf Cf (tC (.int 1)) (b_ (cM K) (ao (ag 0) aA)) (tC (.int 8)))))
 (fW E x.c4 (tC (.str "a vessel has one to eight turnings")))
 bp)
 (aF (bq (tB (b_ (Fw K) (ao (eI (vc K (ag 0)) (aE (uv K) (aE (bt K) (ag 0) (tC (.int 0))) (aE (bt K) (ag 0) (tC (.int 1))))) aA)))
 (fW E x.c4 (tC (.str "a turning leads to another heap")))
 bp)
 (aF (bq (bg (aE uq (jc (Cc K) (eI (vc K (ag 0)) (jb (Ca K) (ag 0) bT (dA (tC (.int 2)))))) (b_ (cM K) (ao (ag 0) aA))))
 (fW E x.c4 (tC (.str "no two turnings have the same from and the same to")))
 bp)
 (bq (bg (aE Bh (b_ (cM K) (ao (bo (kI K) [] E0 (ao (ag 0) aA)) aA)) (tC (.int 8))))
 (fW E x.c4 (tC (.str "a vessel has at most eight unlike heaps")))
 bp))))
theorem vM{K:Fg}{x:Ex0.Ad}{N:List Str}(hN:N.length=1)(h:oQ K x.c4 vs H Q E):oG K E x (ends Q) (L2.start N vs) H:=by
 obtain⟨v,ts,rfl,rv,XV,k,ke⟩:=h;obtain⟨a,xs,rfl,ha,rx⟩:=rv.fj;have lx:xs.length=ts.length:=by rw[rx.length,K9]
 rw[L2.cu hN];walk_at "t";have bad:∀(H':Hp) (m:Str),Same H H'->¬ fU ts->fW E x.c4 (tC (.str m)) (ends Q) [some (.ref a)] H':=fun H' m S z=>⟨rfl,ke z H' S⟩
 unfold oG;walk_at "";refine r9 (SqT.of ha) ?_;walk_at "";refine bZ (fun t1=>?_) (fun z=>by walk_at "";exact bad H _ (Same.refl _) fun q=>by have:=q.1;walk_at "om");walk_at "";refine cN (fun z=>bad H _ (Same.refl _) fun q=>by have:=q.2.1;walk_at "om") (fun t8=>?_);walk_at "";refine H_ (SqT.of ha) ?_;generalize Ww:ts.map (fun t=>decide (t.fr=t.to))=bs;have lb:bs.length=xs.length:=by rw[<- Ww,K9,lx]
 refine ku (xs:=xs) fun D nD=>⟨fun j H3=>AccZ K H D H3 ((bs.take j).map O0),AccZ.start (Same.refl _) nD,fun i H2 _ A=>SqT.of (A.same _ _ ha),?_,?_⟩
 ·intro i z H2 hz A;obtain⟨dd,g1,g2⟩:=rx.get hz;rw[Ll] at g1;obtain⟨t,ht,rfl⟩:=Lu.mp g1;have li:i<xs.length:=(K_.mp hz).1;have eb:bs[i]?=some (decide (t.fr=t.to)):=by rw[<- Ww,Ll,ht];rfl
  have fin:=Dr (K:=K) (H0:=H) (n:=xs.length) (by walk_at "om") li eb A (Same.refl _);obtain⟨b,v1,v2,v3,rfl,hb,r1,r2,_⟩:=lZ (g2.same A.same);walk_at "";refine bu (SqT.of hb) (v:=v1) rfl ?_;walk_at "";refine bu (SqT.of hb) (v:=v2) rfl ?_;refine CS r1.rep r2.rep (io _ 7) (io _ 7) (fun z=>?_) (fun z=>?_)
  ·rw[decide_eq_true (jF z)] at fin;exact fin
  ·rw[decide_eq_false (fun q=>z (by rw[q]))] at fin;exact fin
 intro H2 A;rw[<- lb,Ln (Lf _)] at A;walk_at "";refine Kx (AccZ.bls A) ?_;have XI:=A.same _ _ ha;have rx2:=rx.same A.same;cases Xs:bs.any id with
 |true =>
  walk_at "";refine bad H2 _ A.same fun q=>?_
  rw[<- Ww,RX] at Xs;obtain⟨b,hb,e⟩:=Xs;obtain⟨t,ht,rfl⟩:=Lm.mp hb;exact q.2.2.2.1 t ht (of_decide_eq_true e)
 |false =>
  have ne:∀t∈ts,t.fr≠t.to:=fun t ht e=>by
   rw[<- Ww,Ud] at Xs;exact Xs _ (Lm.mpr ⟨t,ht,rfl⟩) (decide_eq_true e)
  walk_at "";refine iU ?_;walk_at "";refine H_ (SqT.of XI) ?_;refine ku (xs:=xs) fun D' nD'=>⟨fun j H3=>AccZ K H2 D' H3 ((ts.take j).map dE),AccZ.start (Same.refl _) nD',fun i H3 _ B=>SqT.of (B.same _ _ XI),?_,?_⟩
  ·intro i z H3 hz B;obtain⟨dd,g1,g2⟩:=rx2.get hz;rw[Ll] at g1;obtain⟨t,ht,rfl⟩:=Lu.mp g1;have li:i<ts.length:=(K_.mp ht).1;obtain⟨b,v1,v2,v3,rfl,hb,r1,r2,_⟩:=lZ (g2.same B.same);walk_at "";refine HY (SqT.of hb) (by show ¬ (HT.sIx 3 0 none=0/\HT.sIx 3 3 (some 2)=3);decide) fun p np=>?_
   have S4:=au np (.tup (g6 [v1,v2,v3] none (some 2)));have r4:Rz K (upd H3 p (.tup (g6 [v1,v2,v3] none (some 2)))) (.ref p) (dE t):=.tup (xs:=[v1,v2]) aq (.cons (r1.same S4) (.cons (r2.same S4) .nil));refine cw (by walk_at "om") ((B.on S4).fu r4 (bh ?_) fun H5 B5=>?_)
   ·rw[K9,LK];walk_at "om"
   ·show AccZ K H2 D' H5 ((ts.take (i+1)).map dE);rw[LV,ht,Lq];exact B5
  intro H3 B;rw[lx,Ln (Lf _)] at B;obtain⟨ys,hD,ry⟩:=B.at_;refine⟨.L,D',ys,ts.map dE,rfl,SqL.of hD,ry.rep,?_,by rw[K9];walk_at "om",?_⟩
  ·intro d hd;obtain⟨t,_,rfl⟩:=Lm.mp hd;exact AA t
  have hc:=l6 (ts.map dE);have W3:=wH (ds:=ts.map dE);rw[K9] at hc W3;refine⟨by walk_at "om",?_⟩;have S03:=A.same.trans B.same;walk_at "";refine r9 (SqT.of (S03 _ _ ha)) ?_;rw[lx];walk_at "";refine bZ (fun z=>bad H3 _ S03 fun q=>W3.mp (by walk_at "om") (FS q.2.2.1)) (fun z=>?_);have nd:(ts.map qc).Nodup:=FR (NF fun q=>z (by have:=W3.mpr q;walk_at "om"));walk_at "";refine⟨.ref a,ts,rfl,rv.same S03,by walk_at "om",fun p H4 C=>?_⟩;obtain⟨zs,hp,lz,_⟩:=C.sq;rw[K9] at lz;walk_at "";refine cF hp ?_;walk_at "";refine bZ (fun z=>bad H4 _ (S03.trans C.same) fun q=>by have:=q.2.2.2.2;walk_at "om") (fun z=>?_);walk_at "";exact k ⟨by walk_at "om",by walk_at "om",nd,ne,by walk_at "om"⟩ H4 (S03.trans C.same)
def qF(K:Fg)(x:Ex0.Ad):Sp:=fun vs H Q E=>∃(a b:Addr) (S:Addr->Prop) (ws:List Str) (rs:List Rw),vs=[.ref a,.ref b]/\(SqL K H a (ws.map V.str)\/H a=some (.tup (ws.map V.str)))/\Rp K S H (.ref b) (.list (rs.map dR))/\(∀w∈ws,f8 w)/\ws.length<=20/\(∀r∈rs,Jz r)/\rs.length<=12 /\
 (¬ cX ws->∀H',Same H H'->E (.ref x.c1) none H')/\(cX ws->(∃r∈rs,gX ws.length r=false)->∀H',Same H H'->E (.ref x.c2) none H') /\
 (cX ws->(∀r∈rs,gX ws.length r=true)->(∃r∈rs,¬ 0<r.t.q)->∀H',Same H H'->E (.ref x.c3) none H') /\
 (cX ws->(∀r∈rs,gX ws.length r=true)->(∀r∈rs,0<r.t.q)->¬ fU (rs.map Rw.t)->∀H',Same H H'->E (.ref x.c4) none H') /\
 (cX ws->(∀r∈rs,gX ws.length r=true)->(∀r∈rs,0<r.t.q)->fU (rs.map Rw.t)->∀(p:Addr) (H':Hp),Same H H'->Rz K H' (.ref p) (dV ws (rs.map Rw.t))->Q (.ref p) H')
def vE(K:Fg)(E:XK)(x:Ex0.Ad):TS:=(aF (aR (bo (gP K x.c1) [] E (ao (ag 0) aA)) (aO 2))
 (aF (aR (bo (gO K x.c2 x.c3) [] E (ao (ag 1) (ao (b_ (cM K) (ao (ag 2) aA)) aA))) (aO 3))
 (aF (gf (bo (oQ K x.c4) [] E (ao (ag 3) aA)))
 (aY (cV (ao (ag 2) (ao (ag 3) aA)))))))
theorem yT{K:Fg}{N:List Str}(hN:N.length=4)(h:qF K x vs H Q E):vE K E x (ends Q) (L2.start N vs) H:=by
 obtain⟨a,b,S,ws,rs,rfl,ha,rb,pl,XF,ok,XR,k1,k2,k3,k4,k5⟩:=h;rw[L2.cu hN];walk_at "t";unfold vE;walk_at "";refine⟨a,ws,rfl,ha,pl,XF,fun so p H1 S1 hp=>?_,k1⟩;walk_at "";refine r9 (SqT.of hp) ?_;rw[K9];walk_at "";refine⟨b,S,rs,(ws.length:Int),rfl,rb.same S1,ok,by walk_at "om",XR,?_,?_,?_⟩
 ·rw[Nx];intro gh gp q H2 S2 rq;walk_at "";refine⟨.ref q,rs.map Rw.t,rfl,rq,by rw[K9];exact XR,fun ck H3 S3=>?_,fun ck H3 S3=>k4 so gh gp ck H3 (S1.trans (S2.trans S3))⟩;walk_at "";refine⟨bG,fun r nr=>?_⟩;have S4:=au nr (.tup [.ref p,.ref q]);exact k5 so gh gp ck r _ (S1.trans (S2.trans (S3.trans S4))) (.tup aq (.cons (.tup (S4 _ _ (S3 _ _ (S2 _ _ hp))) (RpL.strs _)) (.cons ((rq.same S3).same S4) .nil)))
 ·rw[Nx];exact fun z H2 S2=>k2 so z H2 (S1.trans S2)
 ·rw[Nx];exact fun z y H2 S2=>k3 so z y H2 (S1.trans S2)
end Nv
namespace Nv
open PySem L2 Fr G1 Sm Vs
open PySem.W (Dat kqdOk kqdP kqdPs)
theorem G7(h:Bc w):isWb w=true:=by
 unfold isWb;have h1:1<=w.cps.size:=h.1;have h8:w.cps.size<=8:=h.2.1;rw[decide_eq_true ⟨h1,h8⟩,N_,Mp];intro b hb;obtain⟨c,hc,rfl⟩:=Lm.mp hb
 have:=h.2.2 c hc
 show(decide (97<=c) && decide (c<=122))=true;rw[decide_eq_true this.1,decide_eq_true this.2];rfl
theorem qg{k:Int}(h0:0<=k):g6 xs none (some k)=xs.take k.toNat:=by
 have e:k=((k.toNat:Nat):Int):=by walk_at "om"
 unfold g6;rw[HT.BJ,Q9];generalize hk:k.toNat=m at e;rw[e,HT.E6,Nat.sub_zero];by_cases q:m<=xs.length
 ·rw[PY q]
 ·rw[Px (by walk_at "om"),Ln (Lf _),Ln (by walk_at "om")]
def mU(m k:Nat):List Int:=(k:Int) :: LG (m-1) 0
def Bs(m k:Nat):Tn:=⟨mU m (k % 4),mU m ((k+1+k / 4) % 4),1,1⟩
def iY(m k:Nat):List Int:=((k % 4:Nat):Int) :: ((k / 4:Nat):Int) :: LG (m-2) 0
def G0(m k:Nat):Tn:=⟨iY m k,iY m (k+1),1,1⟩
theorem As{m k:Nat}(m1:1<=m)(h:k<4):bv m (mU m k):=by
 refine⟨by unfold mU;rw[LS,Me];walk_at "om",fun x hx=>?_⟩;rcases Lr.mp hx with rfl|q
 ·walk_at "om"
 ·rw[(Re.mp q).2];decide
theorem Ar{m k:Nat}(m2:2<=m)(h:k<9):bv m (iY m k):=by
 refine⟨by unfold iY;rw[LS,LS,Me];walk_at "om",fun x hx=>?_⟩;rcases Lr.mp hx with rfl|q
 ·walk_at "om"
 ·rcases Lr.mp q with rfl|q
  ·walk_at "om"
  ·rw[(Re.mp q).2];decide
theorem Er{K:Fg}{ts:List Tn}(rx:RzL K H xs (ts.map dT)){i:Int}(h0:0<=i)(h1:i<ts.length):∃(v:V) (t:Tn),ts[i.toNat]?=some t/\i8 xs i=some v/\Rz K H v (dT t):=by
 have hk:i.toNat<ts.length:=by walk_at "om"
 have e:i=((i.toNat:Nat):Int):=by walk_at "om"
 obtain⟨v,ev,rv⟩:=rx.get' (i:=i.toNat) (d:=dT ts[i.toNat]) (by rw[Ll,Ld hk];rfl);refine⟨v,ts[i.toNat],Ld hk,?_,rv⟩;have q:=ba ev;rw[<- e] at q;exact q
theorem um{K:Fg}{H:Hp}:∀{xs:List V} {ds:List Dat} (n:Nat),RzL K H xs ds->RzL K H (xs.take n) (ds.take n)
 |_,_,0,_=>.nil
 |_,_,n+1,.nil=>.nil
 |_,_,n+1,.cons h t=>.cons h (um n t)
theorem zeros{K:Fg}{Q:VK}{n:Int}(h0:0<=n)(h5:n<=5)(k:∀(p:Addr) (H':Hp),AccZ K H p H' ((LG n.toNat (0:Int)).map ND)->Q (.ref p) H'):eE (sU 0 n.toNat) (tC (.int 0)) σ Q H:=by
 refine eR fun D nD=>⟨fun j H2=>AccZ K H D H2 ((LG j (0:Int)).map ND),AccZ.start (Same.refl _) nD,?_,?_⟩
 ·intro j H2 hj A;walk_at "";refine cw hj (A.fu (.int 0) (bh (by rw[K9,Me];walk_at "om")) fun H3 A3=>?_);show AccZ K H D H3 ((LG (j+1) (0:Int)).map ND);rw[QH,Lq];exact A3
 ·intro H2 A;exact k D H2 A
end Nv
namespace Lk
end Lk
namespace Mb
end Mb
namespace Lc
end Lc
namespace Wd
open PySem L2 Fr G1 Sm Vs Dn Rk
open PySem.W (Dat kqdOk)
theorem ID{n:Nat}(h:n<1000):(bO (n:Int)).length<=11:=NC (by walk_at "om") (by decide) (by walk_at "om")
theorem HM{n:Nat}(h:n<1000):((n:Int).natAbs).log2<1920:=by
 rw[Int.natAbs_natCast];by_cases z:n=0
 ·subst z;decide
 ·have:=(SR z (k:=10)).mpr (by walk_at "om")
  walk_at "om"
end Wd
namespace Tw
open PySem L2 Fr G1 Sm Vs
open PySem.W (Dat kqdOk)
def bF (w:Str) (n:Int):Str:=if n=1 then w else Mm++bO n ++ " " ++ w
def a8(ws:List Str)(h:List Int):List Str:=(ws.zip h).filterMap fun p=>if 0<p.2 then some (bF p.1 p.2) else none
def bP (ws:List Str) (h:List Int):Str:=if a8 ws h=[] then "0" else Ut " + " (a8 ws h)
def bV (q d:Int):Str:=if d=1 then bO q else Mm++bO q ++ "/" ++ bO d
def cf (ws:List Str) (t:Tn):Str:=Mm++bP ws t.fr ++ " -> " ++ bP ws t.to ++ " @ " ++ bV t.q t.d
theorem lG{i:Int}(h0:0<=i)(h1:i<=10000000000):i.natAbs.log2<1920:=by
 by_cases z:i.natAbs=0
 ·rw[z];decide
 ·exact(SR z).mpr (LR (show i.natAbs<2 ^ 34 by walk_at "om") (Ov (by decide) (by decide)))
theorem iW{i:Int}(h0:0<=i)(h1:i<=10000000000):(bO i).length<=11:=NC h0 (by decide) (by walk_at "om")
theorem KA:Mm++bO 2 ++ " "=("2 ":Str):=by decide +kernel
theorem CW:Mm++bO 3 ++ " "=("3 ":Str):=by decide +kernel
theorem F5:(("2 ":Str)).length=2:=by decide +kernel
theorem F4:(("3 ":Str)).length=2:=by decide +kernel
theorem F3:((" + ":Str)).length=3:=by decide +kernel
theorem pN:((" -> ":Str)).length=4:=by decide +kernel
theorem zS:((" @ ":Str)).length=3:=by decide +kernel
theorem uT:(("/":Str)).length=1:=by decide +kernel
theorem HN:((" ":Str)).length=1:=by decide +kernel
theorem JV:(("0":Str)).length=1:=by decide +kernel
theorem lH:Mm.length=0:=by decide +kernel
theorem szL:sizeLine=16777216:=by decide
theorem iH(w:Str):bF w 1=w:=if_pos rfl
theorem jA(w:Str):bF w 2=("2 ":Str)++w:=by unfold bF;rw[if_neg (by decide),KA]
theorem jy(w:Str):bF w 3=("3 ":Str)++w:=by unfold bF;rw[if_neg (by decide),CW]
theorem three{n:Int}(h0:0<n)(h3:n<=3):n=1\/n=2\/n=3:=by walk_at "om"
theorem nu{w:Str}{n:Int}(hw:w.length<=8)(h0:0<n)(h3:n<=3):(bF w n).length<=10:=by
 rcases three h0 h3 with rfl|rfl|rfl
 ·rw[iH];walk_at "om"
 ·rw[jA,LC,F5];walk_at "om"
 ·rw[jy,LC,F4];walk_at "om"
def sK(ws:List Str):Prop:=ws.length<=5/\∀w∈ws,w.length<=8/\NU w=true
theorem qE(h1:NU a=true)(h2:NU b=true):NU (a++b)=true:=by
 unfold NU at *;show(a.cps++b.cps).all _=true;rw[UW,h1,h2];rfl
theorem yg{n:Int}(hw:NU w=true)(h0:0<n)(h3:n<=3):NU (bF w n)=true:=by
 rcases three h0 h3 with rfl|rfl|rfl
 ·rw[iH];exact hw
 ·rw[jA];exact qE (by decide +kernel) hw
 ·rw[jy];exact qE (by decide +kernel) hw
theorem jl{h:List Int}(ow:sK ws)(oh:∀x∈h,0<=x/\x<=3){p:Str}(m:p∈a8 ws h):p.length<=10/\NU p=true:=by
 obtain⟨q,hq,e⟩:=MS.mp m;obtain⟨m1,m2⟩:=Nk (a:=q.1) (b:=q.2) hq;by_cases z:0<q.2
 ·rw[if_pos z] at e;cases LD e;exact⟨nu (ow.2 _ m1).1 z (oh _ m2).2,yg (ow.2 _ m1).2 z (oh _ m2).2⟩
 ·rw[if_neg z] at e;cases e
theorem fA:(a8 ws h).length<=ws.length:=by
 refine Mh (List.length_filterMap_le _ _) ?_;rw[List.length_zip];walk_at "om"
theorem DP{l:List Str}(h:∀p∈l,p.length<=10):(l.map (·.length)).sum<=10*l.length:=by
 induction l with
 |nil=>simp
 |cons a r ih =>
  have h1:=h a Lg;have h2:=ih fun p hp=>h p (Lj _ hp)
  simp only[LP,QD,LS];walk_at "om"
theorem fF{h:List Int}(ow:sK ws)(oh:∀x∈h,0<=x/\x<=3):(bP ws h).length<=65:=by
 unfold bP;split
 ·rw[JV];walk_at "om"
 ·show(PySem.Builtin.Str.glued _ _).length<=65;rw[SK];have h1:=StrLaws.join_length_le " + " (a8 ws h);have h2:=DP fun p hp=>(jl ow oh hp).1
  have h3:=fA (ws:=ws) (h:=h);have h4:=ow.1;rw[F3] at h1;walk_at "om"
theorem zu(p:jH q d):(bV q d).length<=23:=by
 have h1:=iW (i:=q) (by have:=p.1;walk_at "om") p.2.2.2.1;have h2:=iW (i:=d) (by have:=p.2.1;walk_at "om") p.2.2.2.2;unfold bV;split
 ·walk_at "om"
 ·rw[MO,LC,LC,uT];walk_at "om"
theorem fM{ws:List Str}{h:List Int}{i:Nat}{w:Str}{n:Int}(e1:ws[i]?=some w)(e2:h[i]?=some n):a8 (ws.take (i+1)) (h.take (i+1))=a8 (ws.take i) (h.take i)++(if 0<n then [bF w n] else []):=by
 have l1:=(K_.mp e1).1;have l2:=(K_.mp e2).1;unfold a8;rw[LV,LV,e1,e2,VC,VC,Vb (by rw[LK,LK];walk_at "om"),Qm];congr 1;by_cases z:0<n
 ·simp[z]
 ·simp[z]
def oM:Sp:=fun vs H Q _=>∃(w:Str) (n:Int),vs=[.str w,.int n]/\w.length<=8/\0<n/\n<=3/\Q (.str (bF w n)) H
def oC(K:Fg):TS:=(aF (bq (bg (aE fq (ag 1) (tC (.int 1))))
 (aY (ag 0))
 bp)
 (aY (xI [(tN (ag 1)),(tC (.str " ")),(wP (ag 0))] Mm)))
theorem yR{K:Fg}{N:List Str}(hN:N.length=2)(h:oM vs H Q E):oC K (ends Q) (L2.start N vs) H:=by
 obtain⟨w,n,rfl,hw,h0,h3,k⟩:=h;rw[L2.cu hN];walk_at "t";have ln:=iW (i:=n) (by walk_at "om") (by walk_at "om");unfold oC;walk_at "";refine bZ (fun z=>?_) (fun z=>?_)
 ·walk_at "";subst z;rw[iH] at k;exact k
 ·walk_at "";refine⟨(lG (i:=n) (by walk_at "om") (by walk_at "om")),?_⟩;refine jt (by rw[LC,lH,szL];walk_at "om") ?_;walk_at "";refine jt (by rw[LC,LC,lH,HN,szL];walk_at "om") ?_;walk_at "";refine CQ (by rw[szL];walk_at "om") ?_;refine jt (by rw[LC,LC,LC,lH,HN,szL];walk_at "om") ?_;walk_at "";unfold bF at k;rw[if_neg z] at k;exact k
def oO(K:Fg):Sp:=fun vs H Q _=>∃(v1 v2:V) (ws:List Str) (h:List Int),vs=[v1,v2]/\Rz K H v1 (.tuple (ws.map Mu))/\Rz K H v2 (dI h)/\sK ws/\bv ws.length h/\∀H',Same H H'->Q (.str (bP ws h)) H'
theorem GC{K:Fg}{ws:List Str}(h:Rz K H v (.tuple (ws.map Mu))):∃a:Addr,v=.ref a/\H a=some (.tup (ws.map V.str)):=by
 obtain⟨a,xs,e,ha,r⟩:=h.fj;cases RpL.tO r;exact⟨a,e,ha⟩
theorem jp(p:(a8 ws h)=[]):bP ws h = "0":=if_pos p
theorem fR(p:(a8 ws h)≠[]):bP ws h=Ut " + " (a8 ws h):=if_neg p
theorem sf{h:List Int} (ow:sK ws) (oh:∀x∈h,0<=x/\x<=3):((a8 ws h).map (·.length)).sum+(a8 ws h).length*((" + ":Str)).length<=16777216:=by
 have h2:=DP fun p hp=>(jl ow oh hp).1
 have h3:=fA (ws:=ws) (h:=h);have h4:=ow.1;rw[F3];walk_at "om"
def tI(K:Fg):TS:=(aF (aR (ni (Gk K .T .T (ao (ag 0) (ao (ag 1) aA))) 2 (xu K 2 (lU (aO 0) (lU (aO 1) xw))) (bg (aE Bh (ag 1) (tC (.int 0)))) (bo oM [] E0 (ao (ag 0) (ao (ag 1) aA)))) (aO 2))
 (aF (bq (bg (aE fq (b_ (cM K) (ao (ag 2) aA)) (tC (.int 0))))
 (aY (tC (.str "0")))
 bp)
 (aY (fX K "str" (kW K) (tC (.str " + ")) (ao (ag 2) aA)))))
theorem BZ{K:Fg}{N:List Str}(hN:N.length=3)(h:oO K vs H Q E):tI K (ends Q) (L2.start N vs) H:=by
 obtain⟨v1,v2,ws,h,rfl,r1,r2,ow,oh,k⟩:=h;obtain⟨a,rfl,ha⟩:=GC r1;obtain⟨b,rfl,hb⟩:=vh r2;rw[L2.cu hN];walk_at "t";unfold tI;walk_at "";refine⟨a,b,_,_,rfl,SqT.of ha,SqT.of hb,?_⟩;refine AT (xs:=ws.map V.str) (ys:=h.map V.int) fun D nD=>?_
 have ml:min (ws.map V.str).length (h.map V.int).length=ws.length:=by rw[K9,K9,oh.1,Nat.min_self]
 refine⟨fun i H2=>AccZ K H D H2 ((a8 (ws.take i) (h.take i)).map Mu),AccZ.start (Same.refl _) nD,fun i H2 _ A=>⟨SqT.of (A.same _ _ ha),SqT.of (A.same _ _ hb)⟩,?_,?_⟩
 ·intro i y1 y2 H2 T e1 e2 A nT us hu
  obtain⟨u0,u1,rfl⟩:∃u0 u1,us=[u0,u1]:=by
   match us,hu with
   |[u0,u1],_=>exact⟨u0,u1,rfl⟩
  rw[Ll] at e1 e2;obtain⟨w,f1,rfl⟩:=Lu.mp e1;obtain⟨n,f2,rfl⟩:=Lu.mp e2;have li:i<ws.length:=(K_.mp f1).1;have sn:=fM f1 f2;have on:=oh.2 n (Li f2);have lw:=(ow.2 w (Li f1)).1;refine wg (SqT.of aq) rfl ?_;walk_at "";refine⟨⟨[some (.str w),some (.int n)],rfl,rfl⟩,?_⟩;walk_at "";refine bZ (fun z=>?_) (fun z=>?_)
  ·walk_at "";refine⟨w,n,rfl,lw,z,on.2,?_⟩;refine cw (by rw[ml];exact li) ?_;refine(A.on (au nT _)).fu (.str (bF w n)) (bh ?_) fun H4 A4=>?_
   ·rw[K9]
    have:=fA (ws:=ws.take i) (h:=h.take i)
    rw[LK] at this
    have:=ow.1
    walk_at "om"
   ·show AccZ K H D H4 ((a8 (ws.take (i+1)) (h.take (i+1))).map Mu);rw[sn,if_pos z,Lq];exact A4
  ·refine oU (by rw[ml];exact li) ?_;show AccZ K H D _ ((a8 (ws.take (i+1)) (h.take (i+1))).map Mu);rw[sn,if_neg z,M9];exact A.on (au nT _)
 ·intro H2 A;rw[ml,Ln (Lf _),Ln (by rw[oh.1];exact Lf _)] at A;have hD:=AccZ.strs A;walk_at "";refine cF (SqL.of hD) ?_;walk_at "";refine bZ (fun z=>?_) (fun z=>?_)
  ·walk_at "";have p:a8 ws h=[]:=MB.mp (by rw[K9] at z;walk_at "om");rw[jp p] at k;exact k H2 A.same
  ·walk_at "";have p:a8 ws h≠[]:=fun q=>z (by rw[q];rfl)
   rw[fR p] at k;refine⟨rfl,?_⟩;walk_at "";exact Ag (SqL.of hD) (sf ow oh.2) (k H2 A.same)
def Jg(ws:List Str)(t:Tn):Prop:=bv ws.length t.fr/\bv ws.length t.to/\jH t.q t.d
theorem AE{n:Int} (h0:0<n) (h3:n<=3):i8 [V.str "",.str w,.str (("2 ":Str)++w),.str (("3 ":Str)++w)] n=some (.str (bF w n)):=by
 rcases three h0 h3 with rfl|rfl|rfl
 ·rw[iH];rfl
 ·rw[jA];rfl
 ·rw[jy];rfl
end Tw
namespace Tp2
open PySem L2 Str
open PySem.Builtin.Str (strSub subAt)
abbrev cl(s:Str):List Nat:=s.cps.toList
theorem bK(a b:Str):cl (a++b)=cl a++cl b:=by
 show(a.cps++b.cps).toList=_;rw[PM]
theorem bY(a:Str):(cl a).length=a.length:=by show a.cps.toList.length=a.cps.size;rw[Mv]
theorem l9(h:cl a=cl b):a=b:=Str.ext' (Array.toList_inj.mp h)
theorem lC:eX z y i↔i+y.length<=z.length/\((cl z).drop i).take y.length=cl y:=by
 unfold eX;rw[StrLaws.subAt_eq,beq_iff_eq]
theorem e7{j c:Nat}(h:eX z y i)(hc:(cl y)[j]?=some c):(cl z)[i+j]?=some c:=by
 obtain⟨_,e⟩:=lC.mp h;have lj:j<y.length:=by rw[<- bY];exact(K_.mp hc).1
 rw[<- e,NR lj,OS] at hc;exact hc
theorem fN(a y b:Str):eX (a++y++b) y a.length:=by
 refine lC.mpr ⟨by rw[Mn,Mn];walk_at "om",?_⟩;rw[bK,bK,MF,List.drop_append_of_le_length (by rw[bY];exact Lf _),N7 (by rw[bY];exact Lf _),QI,<- bY y,To]
theorem gg(a y b:Str):strSub (a++y++b) 0 a.length=a:=l9 (by
 show(strSub (a++y++b) 0 a.length).cps.toList=_
 rw[O7]
 show((cl (a++y++b)).drop 0).take (a.length-0)=cl a
 rw[Q9,Nat.sub_zero,bK,bK,MF,<- bY a,To])
theorem gN(a y b:Str):strSub (a++y++b) (a.length+y.length) (a++y++b).length=b:=l9 (by
 show(strSub (a++y++b) (a.length+y.length) (a++y++b).length).cps.toList=_
 rw[O7]
 show((cl (a++y++b)).drop (a.length+y.length)).take _=cl b
 have l:(cl (a++y)).length=a.length+y.length:=by rw[bY,Mn]
 rw[bK,<- l,Tp,Mn]
 rw[Ln]
 rw[bY,l,Mn];walk_at "om")
theorem nL{b:Str}{y0 y1:Nat}(h0:(cl y)[0]?=some y0)(h1:(cl y)[1]?=some y1)(na:y1∉cl a)(ne:y1≠y0):∀k,k<a.length->¬ eX (a++y++b) y k:=by
 intro k hk o;have c:=e7 o h1;rw[bK,bK,MF] at c;rcases Nn (k+1) a.length with l|l
 ·rw[Mc (by rw[bY];exact l)] at c;exact na (Li c)
 ·have e:k+1=a.length:=by walk_at "om"
  rw[L7 (by rw[bY];walk_at "om"),bY,e,Uy,Mc (K_.mp h0).1,h0] at c;exact ne (LD c).symm
theorem IP{b:Str}{y0:Nat}(h0:(cl y)[0]?=some y0)(na:y0∉cl a):∀k,k<a.length->¬ eX (a++y++b) y k:=by
 intro k hk o;have c:=e7 o h0;rw[bK,bK,MF,Q1,Mc (by rw[bY];exact hk)] at c;exact na (Li c)
theorem FO{y0:Nat}(h0:(cl y)[0]?=some y0)(nz:y0∉cl z):∀i,¬ eX z y i:=fun i o=>by
 have c:=e7 o h0;exact nz (Li c)
theorem JW{a:Str}{y0:Nat}(h0:(cl y)[0]?=some y0)(l1:y.length=1)(nb:y0∉cl b):∀k,a.length<k->¬ eX (a++y++b) y k:=by
 intro k hk o;have c:=e7 o h0;rw[bK,Q1,L7 (by rw[bY,Mn];walk_at "om")] at c;exact nb (Li c)
def pls:Str:=" + "
theorem zl:cl pls=[32,43,32]:=by decide +kernel
theorem pi:pls.length=3:=by decide +kernel
def pos:List Str->List Nat
 |[]=>[]
 |[_]=>[]
 |p :: q :: r=>p.length :: (pos (q :: r)).map (· + (p.length+3))
theorem CU(p q:Str)(r:List Str):MQ pls (p :: q :: r)=p++pls++MQ pls (q :: r):=rfl
theorem vU:∀(ps:List Str),(∀p∈ps,43∉cl p)->∀m,(cl (MQ pls ps))[m]?=some 43->∃i∈pos ps,m=i+1
 |[],_,m,h=>by
  have:cl (MQ pls [])=[]:=by decide +kernel
  rw[this] at h;cases h
 |[p],hp,m,h=>absurd (Li h) (hp p Lg)
 |p :: q :: r,hp,m,h=>by
  rw[CU,bK,bK,MF,zl] at h;rcases Nn m p.length with l|l
  ·rw[Mc (by rw[bY];exact l)] at h;exact absurd (Li h) (hp p Lg)
  ·rw[L7 (by rw[bY];exact l),bY] at h;obtain⟨d,rfl⟩:∃d,m=p.length+d:=⟨m-p.length,by walk_at "om"⟩
   rw[Nat.add_sub_cancel_left] at h
   match d,h with
   |0,h=>cases h
   |1,_=>exact⟨p.length,Lg,rfl⟩
   |2,h=>cases h
   |d+3,h =>
    obtain⟨i,hi,e⟩:=vU (q :: r) (fun x hx=>hp x (Lj _ hx)) d h;exact⟨i+(p.length+3),Lj _ (Lm.mpr ⟨i,hi,rfl⟩),by walk_at "om"⟩
theorem zF{a:Str}(h:eX z y i):eX (a++z) y (i+a.length):=by
 obtain⟨l,e⟩:=lC.mp h;refine lC.mpr ⟨by rw[Mn];walk_at "om",?_⟩;rw[bK,Nat.add_comm,<- Vn,<- bY a,Tp];exact e
theorem zf:∀(ps:List Str),∀i∈pos ps,eX (MQ pls ps) pls i
 |[],_,h=>by cases h
 |[_],_,h=>by cases h
 |p :: q :: r,i,h=>by
  rcases Lr.mp h with rfl|h
  ·rw[CU];exact fN _ _ _
  ·obtain⟨j,hj,rfl⟩:=Lm.mp h
   have:=zF (a:=p++pls) (zf (q :: r) j hj)
   rw[Mn,pi] at this;exact this
theorem uy:∀(ps:List Str),(pos ps).Pairwise fun i j=>i+3<=j
 |[]=>.nil
 |[_]=>.nil
 |p :: q :: r=>by
  refine RC.cons (fun x hx=>?_) ?_
  ·obtain⟨j,_,rfl⟩:=Lm.mp hx;walk_at "om"
  ·rw[Uz];exact(uy (q :: r)).imp fun h=>by walk_at "om"
theorem uL{ps:List Str}(hp:∀p∈ps,43∉cl p)(h:eX (MQ pls ps) pls i):i∈pos ps:=by
 have c:=e7 h (j:=1) (c:=43) (by rw[zl];rfl);obtain⟨k,hk,e⟩:=vU ps hp _ c
 have:i=k:=by walk_at "om"
 rw[this];exact hk
theorem kM:∀{l1 l2:List Nat},l1.Pairwise (· < ·)->l2.Pairwise (· < ·)->(∀x,x∈l1↔x∈l2)->l1=l2
 |[],[],_,_,_=>rfl
 |[],b :: l2,_,_,h=>absurd ((h b).mpr Lg) (by simp)
 |a :: l1,[],_,_,h=>absurd ((h a).mp Lg) (by simp)
 |a :: l1,b :: l2,p1,p2,h=>by
  have q1:=P4.mp p1;have q2:=P4.mp p2
  have e:a=b:=by
   rcases Lr.mp ((h a).mp Lg) with e|m
   ·exact e
   ·rcases Lr.mp ((h b).mpr Lg) with e|m2
    ·exact e.symm
    ·have:=q1.1 b m2;have:=q2.1 a m;walk_at "om"
  subst e;rw[kM q1.2 q2.2 fun x=>⟨fun hx=>?_,fun hx=>?_⟩]
  ·rcases Lr.mp ((h x).mp (Lj _ hx)) with e|m
   ·have:=q1.1 x hx;walk_at "om"
   ·exact m
  ·rcases Lr.mp ((h x).mpr (Lj _ hx)) with e|m
   ·have:=q2.1 x hx;walk_at "om"
   ·exact m
theorem CB{ps:List Str}(hp:∀p∈ps,43∉cl p):uJ (MQ pls ps) pls=pos ps:=by
 refine kM ?_ ((uy ps).imp fun h=>by walk_at "om") fun x=>?_
 ·unfold uJ;exact RC.filter _ Qk
 ·rw[pK];exact⟨uL hp,zf ps x⟩
theorem rn{l:List Nat}(h:l.Pairwise fun i j=>i+3<=j){i:Nat}(hi:i∈l)(hj:j∈l)(lt:i<j):i+3<=j:=by
 induction l with
 |nil=>cases hi
 |cons a l ih =>
  have q:=P4.mp h;rcases Lr.mp hi with rfl|hi'
  ·rcases Lr.mp hj with rfl|hj'
   ·walk_at "om"
   ·exact q.1 j hj'
  ·rcases Lr.mp hj with rfl|hj'
   ·have:=q.1 i hi';walk_at "om"
   ·exact ih q.2 hi' hj'
theorem xC{ps:List Str}(hp:∀p∈ps,43∉cl p):Apart (MQ pls ps) pls:=fun i j hi hj lt=>by
 rw[pi];exact rn (uy ps) (uL hp hi) (uL hp hj) lt
theorem vY:∀(ps:List Str) (a:Str),ps≠[]->LW (a++MQ pls ps) 3 a.length ((pos ps).map (· + a.length))=ps
 |[],_,h=>absurd rfl h
 |[p],a,_=>by
  show[strSub (a++p) a.length (a++p).length]=[p]
  have:=gN a Mm p
  rw[Str.append_empty] at this;rw[show a.length+Mm.length=a.length from Q1 _] at this;rw[this]
 |p :: q :: r,a,_=>by
  show strSub (a++MQ pls (p :: q :: r)) a.length (p.length+a.length) :: LW (a++MQ pls (p :: q :: r)) 3 (p.length+a.length+3) (((pos (q :: r)).map (· + (p.length+3))).map (· + a.length))=_
  have e1:a++MQ pls (p :: q :: r)=(a++p++pls)++MQ pls (q :: r):=by
   rw[CU];simp only[Qw]
  have ih:=vY (q :: r) (a++p++pls) (by simp);have l:(a++p++pls).length=p.length+a.length+3:=by rw[Mn,Mn,pi];walk_at "om"
  rw[l] at ih
  have e2:((pos (q :: r)).map (· + (p.length+3))).map (· + a.length)=(pos (q :: r)).map (· + (p.length+a.length+3)):=by
   rw[Na];exact QW fun x _=>by show x+(p.length+3)+a.length=x+(p.length+a.length+3);walk_at "om"
  rw[e1,e2,ih];congr 1;refine l9 ?_;show(strSub ((a++p++pls)++MQ pls (q :: r)) a.length (p.length+a.length)).cps.toList=_;rw[O7];show((cl ((a++p++pls)++MQ pls (q :: r))).drop a.length).take (p.length+a.length-a.length)=cl p;rw[bK,bK,bK,MF,MF,<- bY a,Tp,Nat.add_sub_cancel,<- bY p,To]
theorem wR{ps:List Str}(hp:∀p∈ps,43∉cl p)(ne:ps≠[]):LW (MQ pls ps) pls.length 0 (uJ (MQ pls ps) pls)=ps:=by
 have h:=vY ps Mm ne;rw[MO] at h;rw[CB hp,pi]
 have e:(pos ps).map (· + Mm.length)=pos ps:=by
  rw[show(fun x=>x+Mm.length)=id from funext fun x=>Q1 x,List.map_id]
 rw[e] at h;exact h
end Tp2
namespace Md
open PySem L2 Fr G1 Sm Vs
open PySem.W (Dat kqdOk kqdP kqdPs)
theorem pS(ns:List Int):kqdPs (ns.map ND)=ns.map Qv:=by
 induction ns with
 |nil=>rw[Os,kqdPs];rfl
 |cons n ns ih=>rw[LP,kqdPs,ih,kqdP];rfl
theorem pV(n:Nat)(ns:List Int):gZ n (ns.map Qv)=true:=by
 induction ns with
 |nil=>rw[Os,gZ]
 |cons m ns ih=>rw[LP,gZ,ih,iu];rfl
end Md
namespace Tr2
open PySem L2 Fr G1 Sm Vs Tw Tp2 Md Tr
open PySem.W (Dat kqdOk)
open PySem.Builtin.Str (strSub)
def Lt(s:Str):Prop:=∀c∈cl s,97<=c/\c<=122
def Hs(s:Str):Prop:=∀c∈cl s,(97<=c/\c<=122)\/c=48\/c=50\/c=51\/c=32\/c=43
def Ps(s:Str):Prop:=∀c∈cl s,(97<=c/\c<=122)\/c=48\/c=50\/c=51\/c=32
theorem Ps.app(h1:Ps a)(h2:Ps b):Ps (a++b):=fun c hc=>by
 rw[bK] at hc;rcases L5.mp hc with h|h
 ·exact h1 c h
 ·exact h2 c h
theorem Hs.app(h1:Hs a)(h2:Hs b):Hs (a++b):=fun c hc=>by
 rw[bK] at hc;rcases L5.mp hc with h|h
 ·exact h1 c h
 ·exact h2 c h
theorem Ps.hs(h:Ps s):Hs s:=fun c hc=>by have:=h c hc;walk_at "om"
theorem Lt.ps(h:Lt s):Ps s:=fun c hc=>.inl (h c hc)
theorem Aq:∀{ps:List Str},(∀p∈ps,Ps p)->Hs (MQ pls ps)
 |[],_=>fun c hc=>by rw[show cl (MQ pls [])=[] by decide +kernel] at hc;cases hc
 |[p],h=>(h p Lg).hs
 |p :: q :: r,h=>by
  rw[CU];refine((h p Lg).hs.app ?_).app (Aq fun x hx=>h x (Lj _ hx));intro c hc;rw[zl] at hc;simp only[Lr,L_,or_false] at hc;walk_at "om"
theorem iE(l:List Str):Ut " + " l=MQ pls l:=by first|exact SK _ _|exact Str.glued_eq_join _ _
theorem vS{n:Int}(hw:Lt w)(h0:0<n)(h3:n<=3):Ps (bF w n):=by
 have d2:Ps ("2 ":Str):=fun c hc=>by
  rw[show cl ("2 ":Str)=[50,32] by decide +kernel] at hc;simp only[Lr,L_,or_false] at hc;walk_at "om"
 have d3:Ps ("3 ":Str):=fun c hc=>by
  rw[show cl ("3 ":Str)=[51,32] by decide +kernel] at hc;simp only[Lr,L_,or_false] at hc;walk_at "om"
 rcases three h0 h3 with rfl|rfl|rfl
 ·rw[iH];exact hw.ps
 ·rw[jA];exact d2.app hw.ps
 ·rw[jy];exact d3.app hw.ps
theorem db{ws:List Str}{h:List Int}(ow:∀w∈ws,Lt w)(oh:∀x∈h,0<=x/\x<=3):Hs (bP ws h):=by
 unfold bP;split
 ·intro c hc;rw[show cl ("0":Str)=[48] by decide +kernel] at hc;simp only[Lr,L_,or_false] at hc;walk_at "om"
 ·rw[iE];refine Aq fun p hp=>?_
  obtain⟨q,hq,e⟩:=MS.mp hp;obtain⟨m1,m2⟩:=Nk (a:=q.1) (b:=q.2) hq;by_cases z:0<q.2
  ·rw[if_pos z] at e;cases LD e;exact vS (ow _ m1) z (oh _ m2).2
  ·rw[if_neg z] at e;cases e
abbrev Key:=Int ⊕ Str
abbrev Pt:=Str×Str×Int
def fh(L:List Pt):List (Key×V):=L.foldl (fun kv t=>eJ kv (.inr t.2.1) (.int t.2.2)) []
theorem lJ(L:List Pt)(t:Pt):fh (L++[t])=eJ (fh L) (.inr t.2.1) (.int t.2.2):=by unfold fh;rw[Ry];rfl
theorem uV{L:List Pt}{i:Nat}{t:Pt}(e:L[i]?=some t):fh (L.take (i+1))=eJ (fh (L.take i)) (.inr t.2.1) (.int t.2.2):=by
 rw[LV,e];exact lJ _ _
theorem Fx{kv:List (Key×V)}{k:Key}{v:V}:(eJ kv k v).length<=kv.length+1:=by
 unfold eJ;split
 ·rw[K9];walk_at "om"
 ·rw[LU];exact Lf _
theorem rS(L:List Pt):∀i,(fh (L.take i)).length<=i
 |0=>Lf _
 |i+1=>by
  cases e:L[i]? with
  |none=>rw[LV,e,show(none:Option Pt).toList=[] from rfl,M9];have:=rS L i;walk_at "om"
  |some t=>rw[uV e];have:=rS L i;have:=Fx (kv:=fh (L.take i)) (k:=.inr t.2.1) (v:=.int t.2.2);walk_at "om"
theorem zW{w:Str}:∀{L:List Pt},(∀t∈L,t.2.1≠w)->∀kv:List (Key×V),cG kv (.inr w)=none->cG (L.foldl (fun kv t=>eJ kv (.inr t.2.1) (.int t.2.2)) kv) (.inr w)=none
 |[],_,kv,h=>h
 |t :: L,ne,kv,h=>by
  refine zW (fun x hx=>ne x (Lj _ hx)) _ ?_;rw[j7,if_neg (fun z=>ne t Lg (UZ z).symm)];exact h
theorem zX{w:Str}{v:V}:∀{L:List Pt},(∀t∈L,t.2.1≠w)->∀kv:List (Key×V),cG kv (.inr w)=some v->cG (L.foldl (fun kv t=>eJ kv (.inr t.2.1) (.int t.2.2)) kv) (.inr w)=some v
 |[],_,kv,h=>h
 |t :: L,ne,kv,h=>by
  refine zX (fun x hx=>ne x (Lj _ hx)) _ ?_;rw[j7,if_neg (fun z=>ne t Lg (UZ z).symm)];exact h
theorem zV{w:Str}{n:Int}{p:Str}:∀{L:List Pt},(L.map (·.2.1)).Nodup->(p,w,n)∈L->∀kv:List (Key×V),cG (L.foldl (fun kv t=>eJ kv (.inr t.2.1) (.int t.2.2)) kv) (.inr w)=some (.int n)
 |t :: L,nd,m,kv=>by
  rw[LP,Mg] at nd;rcases Lr.mp m with rfl|m
  ·refine zX (fun x hx z=>nd.1 (Lm.mpr ⟨x,hx,z⟩)) _ ?_;rw[j7,if_pos rfl]
  ·exact zV nd.2 m _
def pz(ws:List Str)(h:List Int):List (Str×Int):=(ws.zip h).filter fun p=>decide (0<p.2)
theorem iQ(ws:List Str)(h:List Int):a8 ws h=(pz ws h).map fun p=>bF p.1 p.2:=by
 unfold a8 pz
 induction ws.zip h with
 |nil=>rfl
 |cons q r ih =>
  rw[MC,Pw];by_cases z:0<q.2
  ·rw[if_pos z,if_pos (decide_eq_true z),LP,ih]
  ·rw[if_neg z,if_neg (by simpa using z),ih]
def dy (ws:List Str) (h:List Int):List Pt:=if a8 ws h=[] then [("0","0",1)] else (pz ws h).map fun p=>(bF p.1 p.2,p.1,p.2)
theorem FP:∀{ws:List Str} {h:List Int},ws.Nodup->((pz ws h).map (·.1)).Nodup:=by
 intro ws
 induction ws with
 |nil=>intro h _;exact MV
 |cons w ws ih =>
  intro h nd;rw[Mg] at nd;cases h with
  |nil=>exact MV
  |cons n h =>
   show(((w,n) :: ws.zip h).filter _ |>.map _).Nodup;rw[Pw];split
   ·rw[LP,Mg];refine⟨fun z=>?_,ih nd.2⟩;obtain⟨q,hq,e⟩:=Lm.mp z;have m:=(M7.mp hq).1;obtain⟨m1,_⟩:=Nk (a:=q.1) (b:=q.2) m;exact nd.1 (by rw[<- show q.1=w from e];exact m1)
   ·exact ih nd.2
theorem uW{ws:List Str}{h:List Int}(nd:ws.Nodup)(ow:∀w∈ws,Lt w)(oh:∀x∈h,0<=x){i:Nat}{w:Str}{n:Int}(ew:ws[i]?=some w)(en:h[i]?=some n):(cG (fh (dy ws h)) (.inr w)).getD (.int 0)=.int n:=by
 have mz:(w,n)∈ws.zip h:=Li (i:=i) (by rw[PD];exact⟨ew,en⟩)
 have Zn:∀q∈ws.zip h,q.1=w->q.2=n:=by
  intro q hq e;obtain⟨j,hj⟩:=M6 hq;obtain⟨j1,j2⟩:=PD.mp hj
  have:i=j:=gT nd ew (by rw[<- e];exact j1)
  subst this;rw[en] at j2;exact(LD j2).symm
 by_cases z:0<n
 ·have m:(w,n)∈pz ws h:=M7.mpr ⟨mz,decide_eq_true z⟩;have ne:a8 ws h≠[]:=by rw[iQ];intro e;rw[N6.mp e] at m;cases m
  have:=zV (w:=w) (n:=n) (p:=bF w n) (L:=dy ws h) (by
   unfold dy;rw[if_neg ne,Na];exact FP nd) (by
   unfold dy;rw[if_neg ne];exact Lm.mpr ⟨_,m,rfl⟩) []
  unfold fh;rw[this];rfl
 ·have n0:n=0:=by have:=oh n (Li en);walk_at "om"
  subst n0
  have:=zW (w:=w) (L:=dy ws h) (by
   intro t ht e
   unfold dy at ht
   split at ht
   ·rw[Lw.mp ht] at e
    have hz:=ow w (Li ew) 48 (by rw[<- e];rw[show cl (("0",("0":Str),(1:Int)):Pt).2.1=[48] by decide +kernel];exact Lg)
    walk_at "om"
   ·obtain⟨q,hq,rfl⟩:=Lm.mp ht
    obtain⟨mq,pq⟩:=M7.mp hq
    have:=Zn q mq e
    have:=of_decide_eq_true pq
    walk_at "om") [] rfl
  unfold fh;rw[this];rfl
def fO:List (Key×V):=[(.inr "",.int 1),(.inr "2",.int 2),(.inr "3",.int 3)]
inductive mX:Str->Str->Int->Prop
 |one {w:Str}:32∉cl w->mX w w 1
 |two {w:Str}:32∉cl w->mX (("2":Str) ++ " " ++ w) w 2
 |three {w:Str}:32∉cl w->mX (("3":Str) ++ " " ++ w) w 3
theorem jr(h:Lt w):32∉cl w:=fun z=>by have:=h 32 z;walk_at "om"
theorem i4{ws:List Str}{h:List Int}(ow:∀w∈ws,Lt w/\w.length<=8)(oh:∀x∈h,0<=x/\x<=3):∀t∈dy ws h,mX t.1 t.2.1 t.2.2/\t.1.length<=10/\43∉cl t.1:=by
 intro t ht;unfold dy at ht;split at ht
 ·rw[Lw.mp ht];exact⟨.one (by decide +kernel),by decide +kernel,by decide +kernel⟩
 ·obtain⟨q,hq,rfl⟩:=Lm.mp ht;obtain⟨mq,pq⟩:=M7.mp hq;obtain⟨m1,m2⟩:=Nk (a:=q.1) (b:=q.2) mq;obtain⟨lw,l8⟩:=ow _ m1;have q0:=of_decide_eq_true pq;have q3:=(oh _ m2).2;have Yy:43∉cl (bF q.1 q.2):=fun z=>by have:=vS lw q0 q3 43 z;walk_at "om"
  refine⟨?_,nu l8 q0 q3,Yy⟩;show mX (bF q.1 q.2) q.1 q.2;rcases three q0 q3 with e|e|e
  ·rw[e,iH];exact .one (jr lw)
  ·rw[e,jA,show("2 ":Str)=("2":Str) ++ " " by decide +kernel];exact .two (jr lw)
  ·rw[e,jy,show("3 ":Str)=("3":Str) ++ " " by decide +kernel];exact .three (jr lw)
theorem lR:bP ws h=MQ pls ((dy ws h).map (·.1)):=by
 unfold bP dy;split
 ·rfl
 ·rw[iE,iQ,Na];rfl
theorem k9:dy ws h≠[]:=by
 unfold dy;split
 ·simp
 ·rename_i z;intro e;rw[iQ] at z;exact z (by rw[N6.mp e];rfl)
def WdOk(ws:List Str):Prop:=ws.Nodup/\ws.length<=5/\∀w∈ws,Lt w/\w.length<=8
theorem WdOk.lt(h:WdOk ws):∀w∈ws,Lt w:=fun w hw=>(h.2.2 w hw).1
theorem WdOk.ok(h:WdOk ws):sK ws:=⟨h.2.1,fun w hw=>⟨(h.2.2 w hw).2,by
 unfold NU
 rw[MH]
 intro c hc
 have:=(h.2.2 w hw).1 c (by simpa using hc)
 exact decide_eq_true (by walk_at "om")⟩⟩
def GZ(d:Addr)(H H':Hp):Prop:=∀b o,b≠d->H b=some o->H' b=some o
theorem u8{Q:VK}{i j:Str}(h:Q (.bl (!decide (i=j))) H):w4 (.str i) (.str j) H Q:=⟨rfl,by
 by_cases e:i=j
 ·subst e;simpa using h
 ·simpa[e] using h⟩
theorem JP:cG fO (.inr "")=some (.int 1):=by rfl
theorem JO:cG fO (.inr "2")=some (.int 2):=by rfl
theorem JN:cG fO (.inr "3")=some (.int 3):=by rfl
theorem Dp:(cl (" ":Str))[0]?=some 32:=by decide +kernel
theorem hJ(m:Nat):∀c∈cl (bO (m:Int)),48<=c/\c<=57:=fun c hc=>by
 rw[show cl (bO (m:Int))=_ from Oj m] at hc;obtain⟨ch,hch,e⟩:=Lm.mp hc;rw[<- e];exact PyProof.Rows.digit_range (Nat.isDigit_of_mem_toDigits (by decide) (by decide) hch)
theorem lP(m:Nat):bO (m:Int)≠("":Str):=fun z=>by
 have e:cl (bO (m:Int))=[]:=by rw[z];decide +kernel
 rw[show cl (bO (m:Int))=_ from Oj m] at e;have h:=SL 10 m;rw[N6.mp e] at h;exact absurd h (by decide)
theorem KR:(("0":Str)).cps.toList=[48]:=by decide +kernel
theorem KQ:(("9":Str)).cps.toList=[57]:=by decide +kernel
theorem wS:(cl ("/":Str))[0]?=some 47:=by decide +kernel
theorem rN{n:Int}(n0:0<=n):47∉cl (bO n):=fun z=>by
 obtain⟨m,rfl⟩:=ON n0
 have:=hJ m 47 z;walk_at "om"
theorem Ew:(cl (" -> ":Str))[0]?=some 32:=by decide +kernel
theorem Ev:(cl (" -> ":Str))[1]?=some 45:=by decide +kernel
theorem Ba:(cl (" @ ":Str))[0]?=some 32:=by decide +kernel
theorem Eu:(cl (" @ ":Str))[1]?=some 64:=by decide +kernel
theorem cU(ws:List Str) (t:Tn):cf ws t=bP ws t.fr ++ " -> " ++ (bP ws t.to ++ " @ " ++ bV t.q t.d):=by
 unfold cf;rw[MO];simp only[Qw]
end Tr2
namespace Cm
end Cm
namespace Cg
open PySem L2 Fr G1 Sm Vs Dn Rk Wd Cm
open PySem.W (Dat kqdOk)
open PySem.W (Dat kqdOk kqdP)
theorem zC(ns:List Int)(n:Nat)(l:ns.length<=1000):zD (n+1) (dI ns)=true:=zB (by rw[K9];exact l) fun d hd=>by
 obtain⟨i,_,rfl⟩:=Lm.mp hd;cases n <;> rfl
theorem II(c:List Int):L2.Good (dI c):=by
 have e:kqdP (dI c)=.tuple (c.map Qv):=by
  unfold dI;rw[kqdP,Md.pS]
 exact⟨io c 7,by rw[e,iu,Md.pV],_,e⟩
end Cg
namespace Bg
end Bg
namespace Gu
end Gu
namespace L2
open PySem PySem.Spec PyProof.Rows
abbrev Ft:R2:=fun x y H Q=>∃i j,x=.str i/\y=.str j/\Q (.bl (!(!(Nr j i 0 j.length 1).isEmpty))) H
def iM:V->Option Int->Option Int->Hp->VK->Prop:=fun x lo hi H Q=>∃z,x=.str z/\z.length<=sizeLine/\Q (.str (Ob z lo hi)) H
theorem dN:Jh X iM:=by
 intro pins s σ H x v vl vu lo hi sl Q I rx hs pl pu h;obtain⟨z,rfl,hz,q⟩:=h;obtain⟨t,rfl⟩:=rx;refine⟨"str",_,T8.lookup,Ph _ _ _,?_⟩
 have fin:∀(l u:Option (Int×Tok)),l.map (·.1)=lo->u.map (·.1)=hi->(sliceMade z t l u none).post (EP X pins σ Q) s:=by
  intro l u el eu
  have e:sliceMade z t l u none=if ((1:Int) == 1 && (Ma lo hi 1 z.length).length == z.length)=true then Made.val (.str z t) else .str ⟨((Ma lo hi 1 z.length).filterMap (z.cps[·]?)).toArray⟩:=by
   unfold sliceMade slicePicked;rw[el,eu];rfl
  rw[e];have lt:=Txt.slice_le z lo hi;unfold Ob at lt q;exact post_val_or_str ⟨Mh lt hz,fun t' k=>⟨.str _,H,I.tok k,⟨t',rfl⟩,q⟩⟩
 cases pl with
 |none =>
  cases pu with
  |none=>exact MN (l:=none) (u:=none) (st:=none) hs rfl (fin none none rfl rfl)
  |int j tj=>exact MN (l:=none) (u:=some (j,tj)) (st:=none) hs rfl (fin none (some (j,tj)) rfl rfl)
 |int i ti =>
  cases pu with
  |none=>exact MN (l:=some (i,ti)) (u:=none) (st:=none) hs rfl (fin (some (i,ti)) none rfl rfl)
  |int j tj=>exact MN (l:=some (i,ti)) (u:=some (j,tj)) (st:=none) hs rfl (fin (some (i,ti)) (some (j,tj)) rfl rfl)
end L2
namespace Tg
open PySem L2 Tp2
open PySem.Builtin.Str (strSub)
def cnt(P:Nat->Bool)(s:Str):Nat:=(cl s).countP P
def e_(c:Nat):Bool:=decide (48<=c) && decide (c<=57)
def mW(c:Nat):Bool:=decide (128<=c)
theorem cT(P:Nat->Bool)(a b:Str):cnt P (a++b)=cnt P a+cnt P b:=by unfold cnt;rw[bK,List.countP_append]
theorem GD(h:List.Sublist (cl a) (cl b)):cnt P a<=cnt P b:=h.countP_le
theorem vi(s:Str):cnt (fun _=>true) s=s.length:=by unfold cnt;rw[Ql.mpr fun _ _=>rfl,bY]
theorem Hy(l:List Nat)(a:Nat):∀c,((Mo c).map (fun k=>a+k)).filterMap (l[·]?)=(l.drop a).take c
 |0=>rfl
 |c+1=>by rw[P1,Lq,Qm,Hy l a c,LV,OS];cases e:l[a+c]? <;> simp[e]
theorem yB(s:Str)(lo hi:Option Int):∃a c,cl (Ob s lo hi)=((cl s).drop a).take c:=by
 unfold Ob;split
 ·exact⟨0,(cl s).length,by rw[Q9,PB]⟩
 ·obtain⟨st,cc,e,h0⟩:∃(st:Int) (cc:Nat),Ma lo hi 1 s.length=(Mo cc).map (fun k:Nat=>(st+1*(k:Int)).toNat)/\0<=st:=by
   refine⟨_,_,rfl,?_⟩;cases lo with
   |none=>exact Int.le_refl _
   |some i=>simp only[show(1:Int) > 0 by decide,if_true];exact Int.le_max_left ..
  refine⟨st.toNat,cc,?_⟩;rw[e,show(fun k:Nat=>(st+1*(k:Int)).toNat)=fun k=>st.toNat+k from funext fun k=>by walk_at "om"];show List.filterMap (fun x=>s.cps[x]?) _=_;rw[<- Hy];congr 1;funext x;exact(MA ..).symm
theorem yA(s:Str)(lo hi:Option Int):List.Sublist (cl (Ob s lo hi)) (cl s):=by
 obtain⟨a,c,e⟩:=yB s lo hi;rw[e];exact(Rq _ _).trans (Ux _ _)
theorem iV(P:Nat->Bool)(y:Str):∀{ps:List Str},ps≠[]->cnt P (MQ y ps)+cnt P y=(ps.map fun p=>cnt P p+cnt P y).sum
 |[],h=>absurd rfl h
 |[p],_=>by show cnt P p+cnt P y=cnt P p+cnt P y+0;rfl
 |p :: q :: r,_=>by
  have:=iV P y (ps:=q :: r) (by simp)
  rw[show MQ y (p :: q :: r)=p++y++MQ y (q :: r) from rfl,cT,cT,LP,QD,<- this];walk_at "om"
theorem FV{l:List Nat}{x:Nat}(h:x∈l):x<=l.sum:=by
 induction l with
 |nil=>cases h
 |cons a r ih =>
  rw[QD];rcases Lr.mp h with rfl|h
  ·walk_at "om"
  ·have:=ih h;walk_at "om"
abbrev bz(s y:Str):List Str:=LW s y.length 0 (eQ s y)
theorem kY(s y:Str):bz s y≠[]:=by
 obtain⟨p,r,e⟩:=StrLaws.partsFrom_ne s y.length 0 (eQ s y);exact fun z=>by rw[show bz s y=_ from e] at z;cases z
theorem fw(s y:Str):MQ y (bz s y)=s:=by
 obtain⟨f,c⟩:=Rx s y (s.length+1);rw[StrLaws.join_partsFrom s y _ 0 f c,Pb]
theorem Ci{p:Str}(h:p∈bz s y):cnt P p<=cnt P s:=by
 have e:=iV P y (kY s y);rw[fw] at e
 have:=FV (Lm.mpr ⟨p,h,rfl⟩:cnt P p+cnt P y∈(bz s y).map fun p=>cnt P p+cnt P y)
 walk_at "om"
theorem Ds{y:Str}:cnt P (MQ y (bz s y).reverse)=cnt P s:=by
 have e:=iV P y (kY s y);rw[fw] at e;have e2:=iV P y (ps:=(bz s y).reverse) (by simpa using kY s y);rw[UX,List.sum_reverse] at e2;walk_at "om"
structure Asc (m n:Nat) (s:Str):Prop where
 ok:cnt mW s=0
 le:cnt (fun _=>true) s<=m
 dg:cnt e_ s<=n
theorem Asc.len(h:Asc m n s):s.length<=m:=by rw[<- vi];exact h.le
theorem Asc.all(h:Asc m n s):s.cps.all (· < 128)=true:=by
 rw[MH];intro c hc
 have:=OI.mp (show(cl s).countP mW=0 from h.ok) c (by simpa using hc)
 exact decide_eq_true (by have:=mt (decide_eq_true (p:=128<=c)) this;walk_at "om")
theorem Asc.of{m n:Nat}(h:∀c∈cl s,c<128)(l:s.length<=m)(d:cnt e_ s<=n):Asc m n s:=⟨OI.mpr fun c hc=>by have:=h c hc;unfold mW;rw[decide_eq_true_eq];walk_at "om",by rw[vi];exact l,d⟩
theorem Asc.less(h:Asc m n s)(k:∀P,cnt P t<=cnt P s):Asc m n t:=⟨by have:=k mW;have:=h.ok;walk_at "om",by have:=k fun _=>true;have:=h.le;walk_at "om",by have:=k e_;have:=h.dg;walk_at "om"⟩
theorem Asc.app(h:Asc m n s)(k:Asc m' n' t):Asc (m+m') (n+n') (s++t):=by
 refine⟨?_,?_,?_⟩ <;> rw[cT]
 ·rw[h.ok,k.ok]
 ·have:=h.le;have:=k.le;walk_at "om"
 ·have:=h.dg;have:=k.dg;walk_at "om"
theorem Asc.more{m' n':Nat}(h:Asc m n s)(l:m<=m')(d:n<=n'):Asc m' n' s:=⟨h.ok,Mh h.le l,Mh h.dg d⟩
theorem Asc.slice(h:Asc m n s)(lo hi:Option Int):Asc m n (Ob s lo hi):=h.less fun _=>GD (yA s lo hi)
theorem Asc.part{p:Str}(h:Asc m n s)(hp:p∈bz s y):Asc m n p:=h.less fun _=>Ci hp
theorem Asc.back{y:Str}(h:Asc m n s):Asc m n (MQ y (bz s y).reverse):=h.less fun _=>Uo Ds
theorem Asc.left{a b:Str}(h:Asc m n s)(e:s=a++b):Asc m n a:=h.less fun P=>by rw[e,cT];walk_at "om"
theorem Asc.right{a b:Str}(h:Asc m n s)(e:s=a++b):Asc m n b:=h.less fun P=>by rw[e,cT];walk_at "om"
theorem rL(z y:Str):(∃i,eX z y i/\∀k,k<i->¬ eX z y k)\/∀i,¬ eX z y i:=by
 by_cases h:∃i,eX z y i
 ·obtain⟨i,hi⟩:=h
  induction i using QT with
  |ind i ih =>
   by_cases g:∃k,k<i/\eX z y k
   ·obtain⟨k,l,o⟩:=g;exact ih k l o
   ·exact .inl ⟨i,hi,fun k l o=>g ⟨k,l,o⟩⟩
 ·exact .inr fun i o=>h ⟨i,o⟩
theorem CC(z y:Str):(∃i,eX z y i/\∀k,i<k->¬ eX z y k)\/∀i,¬ eX z y i:=by
 by_cases h:∃i,eX z y i
 ·obtain⟨i,hi⟩:=h;generalize hn:z.length-i=n
  induction n using QT generalizing i with
  |ind n ih =>
   by_cases g:∃k,i<k/\eX z y k
   ·obtain⟨k,l,o⟩:=g
    have:=o.1
    have:=hi.1
    exact ih (z.length-k) (by walk_at "om") k o rfl
   ·exact .inl ⟨i,hi,fun k l o=>g ⟨k,l,o⟩⟩
 ·exact .inr fun i o=>h ⟨i,o⟩
theorem zG(h:eX z y i):z=strSub z 0 i++y++strSub z (i+y.length) z.length:=by
 rw[StrLaws.sub_cat z y (Ml i) h,Pb]
theorem qh{a b a' b' y:Str}(h:a++y++b=a'++y++b')(h1:∀k,k<a.length->¬ eX (a++y++b) y k)(h2:∀k,k<a'.length->¬ eX (a'++y++b') y k):a=a'/\b=b':=by
 have o1:=fN a y b;have o2:=fN a' y b'
 have l:a.length=a'.length:=by
  rcases NA a.length a'.length with l|l|l
  ·exact absurd (h ▸ o1) (h2 _ l)
  ·exact l
  ·exact absurd (h ▸ o2) (h1 _ l)
 have e1:=gg a y b;have e2:=gN a y b;rw[h] at e1 e2;rw[l,gg] at e1;rw[l,gN] at e2;exact⟨e1.symm,e2.symm⟩
theorem wC{y:Str}(hy:y.length≠0)(h:∀i,¬ eX z y i):bz z y=[z]:=by
 have e:eQ z y=[]:=by
  show Nr z y 0 z.length (z.length+1)=_;rw[uM (fun i j hi=>absurd hi (h i)) hy];exact List.eq_nil_iff_forall_not_mem.mpr fun i hi=>h i (pK.mp hi)
 show LW z y.length 0 (eQ z y)=_;rw[e];show[strSub z 0 z.length]=_;rw[Pb]
theorem qe{a b y:Str}(hy:y.length≠0)(h:∀k,eX (a++y++b) y k->k=a.length):bz (a++y++b) y=[a,b]:=by
 have e:eQ (a++y++b) y=[a.length]:=by
  show Nr _ y 0 _ _=_;rw[uM (fun i j hi hj lt=>absurd lt (by rw[h i hi,h j hj];walk_at "om")) hy];refine kM ((Qk).filter _) (List.pairwise_singleton _ _) fun k=>?_
  rw[pK,Lw];exact⟨h k,fun e=>by rw[e];exact fN a y b⟩
 show LW _ y.length 0 (eQ _ y)=_;rw[e];show[strSub (a++y++b) 0 a.length,strSub (a++y++b) (a.length+y.length) (a++y++b).length]=_;rw[gg,gN]
theorem uc{c o:Nat}(hc:(cl y)[o]?=some c)(one:∀j,(cl y)[j]?=some c->j=o)(ha:c∉cl a)(hb:c∉cl b)(h:eX (a++y++b) y k):k=a.length:=by
 have g:=e7 h hc;rw[bK,bK] at g;by_cases l1:k+o<(cl a).length
 ·rw[MF,Mc l1] at g;exact absurd (Li g) ha
 ·by_cases l2:k+o<(cl a).length+(cl y).length
  ·rw[Mc (by rw[LU];exact l2),L7 (by walk_at "om")] at g
   have:=one _ g
   have:=bY a
   walk_at "om"
  ·rw[L7 (by rw[LU];walk_at "om")] at g;exact absurd (Li g) hb
theorem EW{c o:Nat}(hc:(cl y)[o]?=some c)(hz:c∉cl z)(k:Nat) : ¬ eX z y k:=fun h=>hz (Li (e7 h hc))
open PySem L2 Fr G1 Sm Vs Tw Tp2 Tr
open Tr2 (Lt Hs db jr hJ lP KR KQ wS rN fO fh uV rS Pt Key dy i4 lR k9 uW WdOk mX GZ u8 Dp cU Ew Ev Ba Eu JP JO JN)
open PySem.W (Dat kqdOk)
def kA:Nat:=10 ^ 300
theorem vk:kA<2 ^ 1000:=by unfold kA;decide +kernel
theorem qk:1<kA:=by unfold kA;decide +kernel
theorem zR{i:Int}(h0:0<=i)(h1:i<kA):i.natAbs.log2<1920:=by
 by_cases z:i.natAbs=0
 ·rw[z];decide
 ·exact(SR z).mpr (L8 (L8 (show i.natAbs<kA by walk_at "om") vk) (Pn (by decide) (by decide)))
theorem ko{i:Int}(h0:0<=i)(h1:i<kA):(bO i).length<=300:=NC h0 (by decide) (by unfold kA at h1;exact_mod_cast h1)
def G4(s:Str):Prop:=cl s≠[]/\∀c∈cl s,48<=c/\c<=57
def val(s:Str):Nat:=N4 (cl s)
theorem wy:∀(cs:List Nat) (a:Nat),(∀c∈cs,48<=c/\c<=57)->cs.foldl (fun acc c=>acc*10+(c-48)) a<(a+1)*10 ^ cs.length
 |[],a,_=>by simp
 |c :: cs,a,h=>by
  have h1:=h c Lg;have h2:=wy cs (a*10+(c-48)) fun x hx=>h x (Lj _ hx)
  rw[QJ,LS];refine LR h2 ?_;rw[Nat.pow_succ,R9 (10 ^ cs.length) 10,<- Nat.mul_assoc];exact Nat.mul_le_mul_right _ (by walk_at "om")
theorem En(h:G4 s):cnt e_ s=s.length:=by
 unfold cnt;rw[Ql.mpr fun c hc=>by have:=h.2 c hc;unfold e_;rw[decide_eq_true this.1,decide_eq_true this.2];rfl,Tp2.bY]
theorem vB(h:G4 s)(a:Asc m n s)(hn:n<=300):val s<kA:=by
 have h1:=wy (cl s) 0 h.2;rw[Tp2.bY,Pp,Nat.one_mul] at h1;have h2:=a.dg;rw[En h] at h2;exact LR h1 (Ov (by decide) (by walk_at "om"))
theorem j6(h:G4 s)(a:Asc m n s)(hn:n<=300):Vo s=some ((val s:Nat):Int)/\s.length<=640:=by
 have h2:=a.dg;rw[En h] at h2;exact⟨PySem.intText_digits h.2 h.1 (by walk_at "om"),by walk_at "om"⟩
theorem iC(k:Nat):val (bO k)=k:=by
 unfold val;rw[show cl (bO (k:Int))=_ from Oj k,PySem.W.KIN.val_back]
theorem dX{n:Nat}(h:n<2000):n<sizeLine:=L8 h (by decide)
theorem fG{s:Str}:s=("":Str)↔cl s=[]:=⟨fun e=>by rw[e];decide +kernel,fun e=>l9 (by rw[e];decide +kernel)⟩
def vG(K:Fg):Sp:=fun vs H Q _=>∃(s:Str) (m n:Nat),vs=[.str s]/\Asc m n s/\m<=1900/\n<=300/\∀(i:Nat) (H':Hp),Same H H'->i<kA->(∀k:Nat,s=bO k->i=k)->Q (.int i) H'
theorem IX{K:Fg}{bs:List Bool}{n i:Nat}{b:Bool}(hn:n<=1900)(hi:i<n)(eb:bs[i]?=some b)(A:AccZ K H0 D H2 ((bs.take i).map O0))(S:Same H2 H3):xH D n i (fun j H=>AccZ K H0 D H ((bs.take j).map O0)) (.bl b) H3:=by
 refine cw hi ((A.on S).fu (.bl b) (dX (by rw[K9,LK];walk_at "om")) fun H4 A4=>?_);show AccZ K H0 D H4 ((bs.take (i+1)).map O0);rw[LV,eb,Lq];exact A4
def xX (K:Fg):TS:=(aF (bq (kF (bg (aE fq (ag 0) (tC (.str "")))) (gb (tB (b_ (uw K) (ao (eI (Ap (ag 0)) (iF w6 w6 (tC (.str "0")) (ag 0) (tC (.str "9")))) aA)))))
 (aY (tC (.int 0)))
 bp)
 (aY (b_ yY (ao (ag 0) aA))))
theorem Fd{K:Fg}{N:List Str}(hN:N.length=1)(h:vG K vs H Q E):xX K (ends Q) (L2.start N vs) H:=by
 obtain⟨s,m,n,rfl,as,hm,hn,k⟩:=h;rw[L2.cu hN];walk_at "t";have ls:=as.len;have no : ¬ G4 s->∀k:Nat,s=bO k->0=k:=fun z k e=>absurd ⟨by rw[e];exact fun q=>lP k (fG.mpr q),fun c hc=>by rw[e] at hc;exact hJ k c hc⟩ z
 unfold xX;walk_at "";by_cases e:s=("":Str)
 ·rw[decide_eq_true e];walk_at "";exact k 0 H (Same.refl _) (L8 (by decide) qk) (no fun z=>z.1 (fG.mp e))
 ·rw[decide_eq_false e];walk_at "";refine⟨s,rfl,as.all,?_⟩;generalize Ww:s.cps.toList.map e_=bs;have lb:bs.length=s.cps.size:=by rw[<- Ww,K9,Mv]
  have hs:s.cps.size<=m:=ls;refine wD fun D nD=>⟨fun j H3=>AccZ K H D H3 ((bs.take j).map O0),AccZ.start (Same.refl _) nD,?_,?_⟩
  ·intro i c H2 hc A;have hi:i<s.cps.size:=(Mr.mp hc).1;have eb:bs[i]?=some (e_ c):=by rw[<- Ww,Ll,MA,hc];rfl
   have fin:=IX (n:=s.cps.size) (by walk_at "om") hi eb A (Same.refl _);unfold e_ at fin;walk_at "";refine Nv.CP ?_;rw[KR];walk_at "";refine cN (fun z=>?_) (fun z=>?_)
   ·rw[Nv.lt1] at z;rw[decide_eq_true (show 48<=c by walk_at "om"),N_] at fin;walk_at "";refine Nv.CP ?_;rw[KQ]
    have e:(!decide (([57]:List Nat) < [c]))=decide (c<=57):=by
     by_cases q:c<=57
     ·rw[decide_eq_true q,decide_eq_false (by rw[Nv.lt1];walk_at "om")];rfl
     ·rw[decide_eq_false q,decide_eq_true (by rw[Nv.lt1];walk_at "om")];rfl
    have e2:(⟨#[c]⟩:Str).cps.toList=[c]:=rfl;rw[e];exact fin
   ·rw[Nv.lt1] at z;rw[decide_eq_false (show ¬ 48<=c by walk_at "om"),Qe] at fin;walk_at "";exact fin
  ·intro H2 A;rw[<- lb,Ln (Lf _)] at A;walk_at "";refine r_ (AccZ.bls A) ?_;cases V2:bs.all id with
   |false =>
    walk_at "";refine k 0 H2 A.same (L8 (by decide) qk) (no fun z=>?_)
    have:bs.all id=true:=by
     rw[<- Ww,Mp];intro b hb;obtain⟨c,hc,rfl⟩:=Lm.mp hb
     have:=z.2 c hc
     unfold e_;rw[decide_eq_true this.1,decide_eq_true this.2];rfl
    rw[V2] at this;cases this
   |true =>
    have f:G4 s:=⟨fun z=>e (fG.mpr z),fun c hc=>by
     rw[<- Ww,Mp] at V2
     have:=V2 _ (Lm.mpr ⟨c,hc,rfl⟩)
     unfold e_ at this
     have:=(My _ _).mp this
     exact⟨of_decide_eq_true this.1,of_decide_eq_true this.2⟩⟩
    obtain⟨r1,r2⟩:=j6 f as hn;walk_at "";exact⟨_,_,rfl,r1,r2,k _ H2 A.same (vB f as hn) fun k e=>by rw[e];exact iC k⟩
def fT(q d:Int):Prop:=0<q/\0<d/\Gd.gd q d=1/\q<kA/\d<kA
def tZ(K:Fg):Sp:=fun vs H Q _=>∃(s:Str) (m n:Nat),vs=[.str s]/\Asc m n s/\m<=1900/\n<=300/\(∀(p:Addr) (H':Hp) (q d:Int),Same H H'->Rz K H' (.ref p) (dI [q,d])->fT q d->(∀q' d',fT q' d'->bV q' d'=s->q'=q/\d'=d)->Q (.ref p) H')/\∀H',Same H H'->(∀q d,fT q d->bV q d≠s)->Q .non H'
theorem FW{i j:Nat}(hi:0<i)(hj:0<j)(bi:i<kA)(bj:j<kA):∃q d:Int,dQ (Pm i j)=dI [q,d]/\fT q d/\(Gd.gd (i:Int) j=1->q=i/\d=j):=by
 have j0:(j:Int)≠0:=by walk_at "om"
 have L:=Gd.zP (t:=(i:Int)) j0 (.inl ⟨rfl,by walk_at "om"⟩);obtain⟨e1,e2⟩:=zN j0 L;have gp:=Gd.nJ (a:=(i:Int)) j0;obtain⟨d1,d2⟩:=Sf.IL (i:Int) (j:Int);have f1:=Pe (i:Int) (So gp);have f2:=Pe (j:Int) (So gp);have p1:=Rf (a:=(i:Int)) (by walk_at "om") (So gp) d1;have p2:=Rf (a:=(j:Int)) (by walk_at "om") (So gp) d2;have l1:=UY (a:=(i:Int)) (Gd.gd (i:Int) j) (by walk_at "om");have l2:=UY (a:=(j:Int)) (Gd.gd (i:Int) j) (by walk_at "om");refine⟨(Pm i j).num,((Pm i j).den:Int),rfl,?_,fun g=>?_⟩
 ·rw[<- e1,<- e2];exact⟨by walk_at "om",by walk_at "om",L.low,by walk_at "om",by walk_at "om"⟩
 ·rw[<- e1,<- e2,f1,f2,g,R6,R6];exact⟨rfl,rfl⟩
theorem eS(h:fT q d):∃i j:Nat,q=i/\d=j/\0<i/\0<j/\i<kA/\j<kA:=⟨q.toNat,d.toNat,by have:=h.1;walk_at "om",by have:=h.2.1;walk_at "om",by have:=h.1;walk_at "om",by have:=h.2.1;walk_at "om",by have:=h.1;have:=h.2.2.2.1;walk_at "om",by have:=h.2.1;have:=h.2.2.2.2;walk_at "om"⟩
theorem zJ{i:Nat}(h:i<kA):((i:Int)).natAbs<2 ^ 8000:=L8 (L8 (show(i:Int).natAbs<kA by walk_at "om") vk) (Pn (by decide) (by decide))
theorem v_(h:eX z y i):(strSub z 0 i).length=i:=by
 have e:=congrArg Oo (show cl (strSub z 0 i)=_ from O7 ..);rw[Tp2.bY,LK,M_] at e;have h1:=h.1;have h2:z.cps.toList.length=z.length:=Tp2.bY z;walk_at "om"
def xU(K:Fg):TS:=(bq (kF (bg (aE fq (ag 2) (tC (.int 0)))) (bg (aE fq (ag 3) (tC (.int 0)))))
 (aY (tC .non))
 bp)
def tG (K:Fg):TS:=(aF (aR (fX K "str" yW (ag 0) (ao (tC (.str "/")) aA)) (aO 1))
 (aF (aR (bo (vG K) [] E0 (ao (aE (bt K) (ag 1) (tC (.int 0))) aA)) (aO 2))
 (aF (aR (JE (bg (aE fq (aE (bt K) (ag 1) (tC (.int 1))) (tC (.str "")))) (tC (.int 1)) (bo (vG K) [] E0 (ao (aE (bt K) (ag 1) (tC (.int 2))) aA))) (aO 3))
 (aF (xU K)
 (aY (bo (kK K) [] E0 (ao (ag 2) (ao (ag 3) aA))))))))
theorem BV{K:Fg}{N:List Str}(hN:N.length=4)(h:tZ K vs H Q E):tG K (ends Q) (L2.start N vs) H:=by
 obtain⟨s,m,n,rfl,as,hm,hn,k,kn⟩:=h;rw[L2.cu hN];walk_at "t";have ls:=as.len
 have rest:∀(p:Addr) (H2:Hp) (i j:Nat) (σ:St),Same H H2->i<kA->j<kA->(∀q' d',fT q' d'->bV q' d'=s->q'=i/\d'=j)->σ=[some (.str s),some (.ref p),some (.int i),some (.int j)] ->
   (aF (xU K)
    (aY (bo (kK K) [] E0 (ao (ag 2) (ao (ag 3) aA))))) (ends Q) σ H2:=by
  rintro p H2 i j σ S2 bi bj un rfl;walk_at "";unfold xU;walk_at "";refine bZ (fun z=>?_) (fun zi=>?_)
  ·walk_at "";exact kn H2 S2 fun q d o e=>by have:=(un q d o e).1;have:=o.1;walk_at "om"
  walk_at "";refine bZ (fun z=>?_) (fun zj=>?_)
  ·walk_at "";exact kn H2 S2 fun q d o e=>by have:=(un q d o e).2;have:=o.2.1;walk_at "om"
  walk_at "";obtain⟨q,d,e,o,w⟩:=FW (i:=i) (j:=j) (by walk_at "om") (by walk_at "om") bi bj;refine⟨i,j,rfl,by walk_at "om",zJ bi,zJ bj,fun p3 H3 S3 r3=>k p3 H3 q d (S2.trans S3) (e ▸ r3) o fun q' d' o' e'=>?_⟩;obtain⟨u1,u2⟩:=un q' d' o' e'
  have:=w (by rw[<- u1,<- u2];exact o'.2.2.1)
  walk_at "om"
 unfold tG;walk_at "";refine⟨rfl,?_⟩;walk_at "";refine⟨_,"/",rfl,rfl,by decide +kernel,M0 (dX (by walk_at "om")),?_⟩;rcases rL s "/" with⟨i,oi,li⟩|no
 ·refine .inl ⟨i,oi,li,fun p np=>?_⟩;have ec:=zG oi;have la:=v_ oi;generalize strSub s 0 i=a at ec la ⊢;generalize strSub s (i+("/":Str).length) s.length=b at ec ⊢;subst la;have hp:upd H p (.tup [.str a,.str "/",.str b]) p=some (.tup [.str a,.str "/",.str b]):=aq;have S1:=au np (.tup [.str a,.str "/",.str b]);generalize upd H p (.tup [.str a,.str "/",.str b])=H1 at hp S1 ⊢;walk_at "";refine bu (SqT.of hp) (v:=.str a) rfl ?_;walk_at "";refine⟨a,m,n,rfl,(as.left ec).left rfl,hm,hn,fun i1 H2 S2 b1 u1=>?_⟩;walk_at "";refine bu (SqT.of (S2 _ _ hp)) (v:=.str "/") rfl ?_;walk_at "";rw[show decide (("/":Str) = "")=false by decide +kernel];walk_at "";refine bu (SqT.of (S2 _ _ hp)) (v:=.str b) rfl ?_;walk_at "";refine⟨b,m,n,rfl,as.right ec,hm,hn,fun i2 H3 S3 b2 u2=>?_⟩;refine rest p H3 i1 i2 _ (S1.trans (S2.trans S3)) b1 b2 (fun q' d' o' e'=>?_) rfl;obtain⟨q1,d1,rfl,rfl,q0,d0,_⟩:=eS o';by_cases z:(d1:Int)=1
  ·rw[show bV q1 d1=bO q1 from if_pos z] at e';exact absurd oi (by rw[<- e'];exact FO wS (rN (by walk_at "om")) _)
  ·have ep:bV q1 d1=bO q1 ++ "/" ++ bO d1:=by
    unfold bV;rw[if_neg z,MO]
   rw[ep,ec] at e';rw[ec] at li;obtain⟨x1,x2⟩:=qh e' (IP wS (rN (by walk_at "om"))) li;rw[u1 q1 x1.symm,u2 d1 x2.symm];exact⟨rfl,rfl⟩
 ·refine .inr ⟨no,fun p np=>?_⟩;have hp:upd H p (.tup [.str s,.str Mm,.str Mm]) p=some (.tup [.str s,.str Mm,.str Mm]):=aq;have S1:=au np (.tup [.str s,.str Mm,.str Mm]);generalize upd H p (.tup [.str s,.str Mm,.str Mm])=H1 at hp S1 ⊢;walk_at "";refine bu (SqT.of hp) (v:=.str s) rfl ?_;walk_at "";refine⟨s,m,n,rfl,as,hm,hn,fun i1 H2 S2 b1 u1=>?_⟩;walk_at "";refine bu (SqT.of (S2 _ _ hp)) (v:=.str Mm) rfl ?_;walk_at "";rw[show decide (Mm=("":Str))=true by decide +kernel];walk_at "";refine rest p H2 i1 1 _ (S1.trans S2) b1 qk (fun q' d' o' e'=>?_) rfl;obtain⟨q1,d1,rfl,rfl,q0,d0,_⟩:=eS o';by_cases z:(d1:Int)=1
  ·rw[show bV q1 d1=bO q1 from if_pos z] at e';rw[u1 q1 e'.symm];exact⟨rfl,by walk_at "om"⟩
  ·have ep:bV q1 d1=bO q1 ++ "/" ++ bO d1:=by
    unfold bV;rw[if_neg z,MO]
   rw[ep] at e';exact absurd (e' ▸ fN _ _ _) (no _)
def tX(K:Fg):Sp:=fun vs H Q _=>∃(v:V) (q d:Int),vs=[v]/\Rz K H v (dI [q,d])/\fT q d/\Q (.str (bV q d)) H
def tE(K:Fg):TS:=(aF (aR (aE (bt K) (ag 0) (tC (.int 0))) (aO 1))
 (aF (aR (aE (bt K) (ag 0) (tC (.int 1))) (aO 2))
 (aF (bq (bg (aE fq (ag 2) (tC (.int 1))))
 (aY (tN (ag 1)))
 bp)
 (aY (xI [(tN (ag 1)),(tC (.str "/")),(tN (ag 2))] Mm)))))
theorem BS{K:Fg}{N:List Str}(hN:N.length=3)(h:tX K vs H Q E):tE K (ends Q) (L2.start N vs) H:=by
 obtain⟨v,q,d,rfl,r,⟨q0,d0,_,q1,d1⟩,k⟩:=h;obtain⟨a,rfl,ha⟩:=vh r;rw[L2.cu hN];walk_at "t";have lq:=ko (i:=q) (by walk_at "om") q1;have ld:=ko (i:=d) (by walk_at "om") d1;have gq:=zR (i:=q) (by walk_at "om") q1;have gd:=zR (i:=d) (by walk_at "om") d1;unfold tE;walk_at "";refine bu (SqT.of ha) (v:=.int q) rfl ?_;walk_at "";refine bu (SqT.of ha) (v:=.int d) rfl ?_;walk_at "";unfold bV at k;refine bZ (fun z=>?_) (fun z=>?_)
 ·rw[if_pos z] at k;walk_at "";exact⟨gq,k⟩
 ·rw[if_neg z] at k;walk_at "";refine⟨gq,?_⟩;refine jt (by rw[LC,lH,szL];walk_at "om") ?_;walk_at "";refine jt (by rw[LC,LC,lH,uT,szL];walk_at "om") ?_;walk_at "";refine⟨gd,?_⟩;refine jt (by rw[LC,LC,LC,lH,uT,szL];walk_at "om") ?_;walk_at "";exact k
theorem zv(p:fT q d):(bV q d).length<=601:=by
 have h1:=ko (i:=q) (by have:=p.1;walk_at "om") p.2.2.2.1;have h2:=ko (i:=d) (by have:=p.2.1;walk_at "om") p.2.2.2.2;unfold bV;split
 ·walk_at "om"
 ·rw[MO,LC,LC,uT];walk_at "om"
def i9(ws:List Str)(t:Tn):Prop:=bv ws.length t.fr/\bv ws.length t.to/\fT t.q t.d
def tR(K:Fg):Sp:=fun vs H Q _=>∃(v1 v2:V) (ws:List Str) (t:Tn),vs=[v1,v2]/\Rz K H v1 (.tuple (ws.map Mu))/\Rz K H v2 (dT t)/\sK ws/\i9 ws t/\∀H',Same H H'->Q (.str (cf ws t)) H'
def sY(K:Fg):TS:=(aF (aR (bo (oO K) [] E0 (ao (ag 0) (ao (aE (bt K) (ag 1) (tC (.int 0))) aA))) (aO 2))
 (aF (aR (bo (oO K) [] E0 (ao (ag 0) (ao (aE (bt K) (ag 1) (tC (.int 1))) aA))) (aO 3))
 (aF (aR (bo (tX K) [] E0 (ao (aE (bt K) (ag 1) (tC (.int 2))) aA)) (aO 4))
 (aY (xI [(wP (ag 2)),(tC (.str " -> ")),(wP (ag 3)),(tC (.str " @ ")),(wP (ag 4))] Mm)))))
theorem BM{K:Fg}{N:List Str}(hN:N.length=5)(h:tR K vs H Q E):sY K (ends Q) (L2.start N vs) H:=by
 obtain⟨v1,v2,ws,t,rfl,r1,r2,ow,⟨o1,o2,op⟩,k⟩:=h;obtain⟨a,w1,w2,w3,rfl,ha,q1,q2,q3⟩:=lZ r2;rw[L2.cu hN];walk_at "t";have l1:=fF ow o1.2;have l2:=fF ow o2.2;have l3:=zv op;unfold sY;walk_at "";refine bu (SqT.of ha) (v:=w1) rfl ?_;walk_at "";refine⟨v1,w1,ws,t.fr,rfl,r1,q1,ow,o1,fun H1 S1=>?_⟩;have Z6:=S1 _ _ ha;walk_at "";refine bu (SqT.of Z6) (v:=w2) rfl ?_;walk_at "";refine⟨v1,w2,ws,t.to,rfl,r1.same S1,q2.same S1,ow,o2,fun H2 S2=>?_⟩;have XI:=S2 _ _ Z6;walk_at "";refine bu (SqT.of XI) (v:=w3) rfl ?_;walk_at "";refine⟨w3,t.q,t.d,rfl,(q3.same S1).same S2,op,?_⟩;walk_at "";refine CQ (by rw[szL];walk_at "om") ?_;refine jt (by rw[LC,lH,szL];walk_at "om") ?_;walk_at "";refine jt (by rw[LC,LC,lH,pN,szL];walk_at "om") ?_;walk_at "";refine CQ (by rw[szL];walk_at "om") ?_;refine jt (by rw[LC,LC,LC,lH,pN,szL];walk_at "om") ?_;walk_at "";refine jt (by rw[LC,LC,LC,LC,lH,pN,zS,szL];walk_at "om") ?_;walk_at "";refine CQ (by rw[szL];walk_at "om") ?_;refine jt (by rw[LC,LC,LC,LC,LC,lH,pN,zS,szL];walk_at "om") ?_;walk_at "";exact k H2 (S1.trans S2)
end Tg
namespace Tg
open PySem L2 Fr G1 Sm Vs Tw Tp2 Tr
open Tr2 (Lt Hs db jr fO fh uV rS lJ Pt dy i4 lR k9 uW WdOk mX GZ u8 Dp cU Ew Ev Ba Eu JP JO JN)
open PySem.W (Dat kqdOk)
open PySem.Builtin.Str (strSub)
theorem Hl{H:Hp} {Q:VK} {s:Str} (l:s.length<=1900) (k:∀p u w m,H p=none->(∀w' n,mX s w' n->w=w'/\cG fO (.inr u)=some (.int n))->Q (.ref p) (upd H p (.tup [.str u,m,.str w]))):yV (.str s) [.str " "] H Q:=by
 refine⟨s," ",rfl,rfl,by decide +kernel,M0 (dX (by walk_at "om")),?_⟩;rcases CC s " " with⟨i,oi,li⟩|no
 ·refine .inl ⟨i,oi,li,fun p np=>k p _ _ _ np fun w' n c=>?_⟩
  have two:∀a:Str,s=a ++ " " ++ w'->32∉cl w'->i=a.length:=fun a e h=>by
   rcases NA i a.length with l|l|l
   ·exact absurd (e ▸ fN a " " w') (li _ l)
   ·exact l
   ·exact absurd (e ▸ oi) (JW Dp (by decide +kernel) h i l)
  cases c with
  |one h=>exact absurd oi (FO Dp h i)
  |two h =>
   have:=two _ rfl h
   subst this;rw[gg,gN];exact⟨rfl,JO⟩
  |three h =>
   have:=two _ rfl h
   subst this;rw[gg,gN];exact⟨rfl,JN⟩
 ·refine .inr ⟨no,fun p np=>k p _ _ _ np fun w' n c=>?_⟩;cases c with
  |one h=>exact⟨rfl,JP⟩
  |two h=>exact absurd (fN _ _ _) (no _)
  |three h=>exact absurd (fN _ _ _) (no _)
theorem DY{H:Hp}{Q:VK}{y:Str}(hy:y.length≠0)(as:Asc m n s)(hm:m<=1900)(k:∀p a u b,H p=none->Asc m n a->Asc m n b->(∀a' b',s=a'++y++b'->(∀k,k<a'.length->¬ eX (a'++y++b') y k)->a=a'/\b=b')->Q (.ref p) (upd H p (.tup [.str a,.str u,.str b]))):yW (.str s) [.str y] H Q:=by
 have ls:=as.len;refine⟨s,y,rfl,rfl,hy,M0 (dX (by walk_at "om")),?_⟩;rcases rL s y with⟨i,oi,li⟩|no
 ·refine .inl ⟨i,oi,li,fun p np=>?_⟩;have ec:=zG oi;have la:=v_ oi;generalize strSub s 0 i=a at ec la ⊢;generalize strSub s (i+y.length) s.length=b at ec ⊢;subst la;refine k p a y b np ((as.left ec).left rfl) (as.right ec) fun a' b' e f=>?_
  rw[ec] at li;exact qh (ec ▸ e) li f
 ·refine .inr ⟨no,fun p np=>k p s _ _ np as (as.less fun P=>by unfold cnt;rw[show cl Mm=[] from rfl];exact Ml _) fun a' b' e _=>?_⟩;exact absurd (e ▸ fN a' y b') (no _)
structure DA (t:Pt):Prop where
 lo:0<=t.2.2
 hi:t.2.2<=3
 un:∀w n,mX t.1 w n->t.2.1=w/\t.2.2=n
theorem uU:∀{L:List Pt} {kv:List (Key×V)},(∀t∈L,0<=t.2.2/\t.2.2<=3)->(∀k v,cG kv k=some v->∃n:Int,v=.int n/\0<=n/\n<=3)->∀k v,cG (L.foldl (fun kv t=>eJ kv (.inr t.2.1) (.int t.2.2)) kv) k=some v->∃n:Int,v=.int n/\0<=n/\n<=3
 |[],_,_,h=>h
 |t :: L,kv,o,h=>by
  rw[QJ];refine uU (L:=L) (fun x hx=>o x (Lj _ hx)) fun k v e=>?_
  rw[j7] at e;split at e
  ·exact⟨_,(LD e).symm,o t Lg⟩
  ·exact h k v e
theorem pw_kv:fO=fh [("","",1),("","2",2),("","3",3)]:=by rfl
def FT(L:List Pt)(w:Str):Int:=match cG (fh L) (.inr w) with|some (.int n)=>n|_=>0
theorem zH{L:List Pt}(h:∀t∈L,DA t)(w:Str):(cG (fh L) (.inr w)).getD (.int 0)=.int (FT L w)/\0<=FT L w/\FT L w<=3:=by
 unfold FT;cases e:cG (fh L) (.inr w) with
 |none=>exact⟨rfl,by decide,by decide⟩
 |some v =>
  obtain⟨n,rfl,h0,h3⟩:=uU (L:=L) (kv:=[]) (fun t ht=>⟨(h t ht).lo,(h t ht).hi⟩) (fun k v z=>by cases z) _ _ e;exact⟨rfl,h0,h3⟩
theorem y6:∀{L M:List Pt},L.map (·.1)=M.map (·.1)->(∀t∈L,DA t)->(∀t∈M,mX t.1 t.2.1 t.2.2)->L=M
 |[],[],_,_,_=>rfl
 |[],_ :: _,e,_,_=>by cases e
 |_ :: _,[],e,_,_=>by cases e
 |t :: L,u :: M,e,h1,h2=>by
  rw[LP,LP,MW] at e;rw[y6 e.2 (fun x hx=>h1 x (Lj _ hx)) (fun x hx=>h2 x (Lj _ hx))];have c:=h2 u Lg;rw[<- e.1] at c;obtain⟨a,b⟩:=(h1 t Lg).un _ _ c;obtain⟨t1,t2,t3⟩:=t;obtain⟨u1,u2,u3⟩:=u
  have:=e.1
  simp only at a b this;rw[a,b,this]
theorem kZ(ow:WdOk ws) (oh:bv ws.length h):bz (bP ws h) " + "=(dy ws h).map (·.1):=by
 have cp:=i4 ow.2.2 oh.2
 have Yy:∀p∈(dy ws h).map (·.1),43∉cl p:=fun p hp=>by
  obtain⟨t,ht,rfl⟩:=Lm.mp hp;exact(cp t ht).2.2
 show LW (bP ws h) pls.length 0 (eQ (bP ws h) pls)=_;rw[lR];show LW _ pls.length 0 (Nr _ pls 0 _ _)=_;rw[uM (xC Yy) (by decide +kernel)];exact wR Yy fun e=>k9 (N6.mp e)
def oP(K:Fg):Sp:=fun vs H Q _=>∃(v:V) (s:Str) (ws:List Str) (m n:Nat),vs=[v,.str s]/\Rz K H v (.tuple (ws.map Mu))/\WdOk ws/\Asc m n s/\m<=1900/\∀(p:Addr) (H':Hp) (h:List Int),Same H H'->Rz K H' (.ref p) (dI h)->bv ws.length h->(∀h',bv ws.length h'->bP ws h'=s->h=h')->Q (.ref p) H'
def tK(K:Fg):TS:=(aF (aR DM (aO 2))
 (aF (eW (gY K (fX K "str" fK (ag 1) (ao (tC (.str " + ")) aA))) (aO 3)
 (aF (aR (fX K "str" yV (ag 3) (ao (tC (.str " ")) aA)) (aO 4))
 (yM (ag 2) (aE (bt K) (ag 4) (tC (.int 2))) (EQ fO (aE (bt K) (ag 4) (tC (.int 0))) (tC (.int 0))))))
 (aY (b_ (dH K) (ao (eI (vc K (ag 0)) (DN (ag 3) (ag 0) (tC (.int 0)))) aA)))))
theorem B6{K:Fg}{N:List Str}(hN:N.length=5)(h:oP K vs H Q E):tK K (ends Q) (L2.start N vs) H:=by
 obtain⟨v,s,ws,m,n,rfl,rv,ow,as,hm,k⟩:=h;obtain⟨a,rfl,ha⟩:=GC rv;rw[L2.cu hN];walk_at "t";have ls:=as.len;have XT:∀p∈bz s " + ",Asc m n p:=fun p hp=>as.part hp
 have pl:(bz s " + ").length<=1902:=by
  have:=qf (z:=s) (y:=" + ") (by decide +kernel)
  show(LW s _ 0 (eQ s " + ")).length<=_;rw[iR];walk_at "om"
 unfold tK;walk_at "";intro d nd;have Sd:=au nd (.dK []);have hd0:upd H d (.dK []) d=some (.dK (fh [])):=aq;generalize upd H d (.dK [])=H1 at Sd hd0 ⊢;walk_at "";refine⟨rfl,?_⟩;walk_at "";refine⟨s," + ",rfl,rfl,by decide +kernel,by walk_at "om",as.all,by decide +kernel,fun l nl=>?_⟩;have un:∀h',bv ws.length h'->bP ws h'=s->bz s " + "=(dy ws h').map (·.1):=fun h' o e=>by rw[<- e];exact kZ ow o
 rw[show LW s (" + ":Str).length 0 (eQ s " + ")=bz s " + " from rfl];generalize bz s " + "=ps at XT pl un ⊢;have hl:upd H1 l (.lst (ps.map V.str)) l=some (.lst (ps.map V.str)):=aq;have S2:=Sd.trans (au nl (.lst (ps.map V.str)));have hd2:upd H1 l (.lst (ps.map V.str)) d=some (.dK (fh [])):=(au nl _) _ _ hd0;have nld:l≠d:=fun z=>by rw[z,hd0] at nl;cases nl
 generalize upd H1 l (.lst (ps.map V.str))=H2 at hl S2 hd2 ⊢;refine Ae (SqL.of hl) ?_;refine iZ (xs:=ps.map V.str) (fun i σ H3=>∃(u3 u4:Option V) (L:List Pt),σ=[some (.ref a),some (.str s),some (.ref d),u3,u4]/\GZ d H2 H3/\H3 d=some (.dK (fh L))/\L.map (·.1)=ps.take i/\∀t∈L,DA t) ⟨none,none,[],rfl,fun _ _ _ z=>z,hd2,rfl,fun _ z=>by cases z⟩ (fun i σ H3 _ ⟨_,_,_,_,B,_⟩=>SqL.of (B _ _ nld hl)) ?_ ?_
 ·rintro i y σ H3 e1 ⟨u3,u4,L,rfl,B3,Z_,eL,oL⟩;rw[Ll] at e1;obtain⟨z,ez,rfl⟩:=Lu.mp e1;have li:=(K_.mp ez).1;have lz:=(XT z (Li ez)).len;have lL:L.length=i:=by have:=congrArg Oo eL;rw[K9,LK] at this;walk_at "om"
  walk_at "";refine⟨rfl,?_⟩;walk_at "";refine Hl (by walk_at "om") fun p u w m' np pu=>?_
  have hp:upd H3 p (.tup [.str u,m',.str w]) p=some (.tup [.str u,m',.str w]):=aq;have B4:GZ d H2 (upd H3 p (.tup [.str u,m',.str w])):=fun b o nb q=>(au np _) _ _ (B3 b o nb q)
  have hd4:upd H3 p (.tup [.str u,m',.str w]) d=some (.dK (fh L)):=(au np _) _ _ Z_;generalize upd H3 p (.tup [.str u,m',.str w])=H4 at hp B4 hd4 ⊢
  obtain⟨c,ec,c0,c3⟩:∃c:Int,(cG fO (.inr u)).getD (.int 0)=.int c/\0<=c/\c<=3:=by
   cases e:cG fO (.inr u) with
   |none=>exact⟨0,rfl,by decide,by decide⟩
   |some v =>
    obtain⟨n,rfl,h0,h3⟩:=uU (L:=[("","",1),("","2",2),("","3",3)]) (kv:=[]) (by decide +kernel) (fun k v z=>by cases z) _ _ (show cG (fh _) _=_ from pw_kv ▸ e);exact⟨n,rfl,h0,h3⟩
  have ot:DA (z,w,c):=⟨c0,c3,fun w' n' cp=>by
   obtain⟨e1,e2⟩:=pu w' n' cp
   rw[e2] at ec
   cases ec
   exact⟨e1,rfl⟩⟩
  walk_at "";unfold EQ;walk_at "";refine bu (SqT.of hp) (v:=.str u) rfl ?_;walk_at "";refine⟨.inr u,rfl,?_⟩;rw[ec];walk_at "";refine bu (SqT.of hp) (v:=.str w) rfl ?_;refine⟨d,_,rfl,DPut.k (k:=.inr w) hd4 ?_,?_⟩
  ·refine dX ?_
   have:=rS L L.length
   rw[PB] at this;walk_at "om"
  ·refine⟨_,_,L++[(z,w,c)],rfl,fun b o nb q=>by rw[bf nb];exact B4 b o nb q,by rw[aq,lJ],?_,fun t ht=>?_⟩
   ·rw[Lq,eL,LV,ez];rfl
   ·rcases L5.mp ht with h|h
    ·exact oL t h
    ·rw[Lw.mp h];exact ot
 ·rintro σ H3 ⟨u3,u4,L,rfl,B3,Z_,eL,oL⟩;rw[K9,Ln (Lf _)] at eL;have W7:H3 a=some (.tup (ws.map V.str)):=B3 _ _ (bA ha nd) (S2 _ _ ha);have S3:Same H H3:=fun b o q=>B3 b o (bA q nd) (S2 b o q)
  have w5:=ow.2.1;walk_at "";refine⟨a,rfl,⟨_,SqT.of W7⟩,?_⟩;refine ku (xs:=ws.map V.str) fun D nD=>⟨fun i H4=>AccZ K H3 D H4 (((ws.take i).map (FT L)).map ND),by simpa using AccZ.start (Same.refl _) nD,fun i H4 _ A=>SqT.of (A.same _ _ W7),?_,?_⟩
  ·intro i y H4 e1 A;have hi:i<(ws.map V.str).length:=(K_.mp e1).1;rw[Ll] at e1;obtain⟨w,ew,rfl⟩:=Lu.mp e1;walk_at "";refine⟨_,rfl,d,rfl,.inl ⟨_,.inl (A.same _ _ Z_)⟩,?_⟩;walk_at "";refine⟨_,DGet.k (k:=.inr w) (A.same _ _ Z_),?_⟩;rw[(zH oL w).1];refine cw hi (A.fu (.int _) (dX (by rw[K9,K9,LK];walk_at "om")) fun H5 A5=>?_);show AccZ K H3 D H5 (((ws.take (i+1)).map (FT L)).map ND);rw[LV,ew,Lq,Lq];exact A5
  ·intro H4 A;rw[K9,Ln (Lf _)] at A;walk_at "";refine e9 (SqL.of (AccZ.ints A)) fun p np=>?_
   refine k p _ (ws.map (FT L)) (S3.trans (A.same.trans (au np _))) (.tup aq (RpL.ints _)) ⟨K9 ..,fun x hx=>?_⟩ fun h' o e=>?_
   ·obtain⟨w,_,rfl⟩:=Lm.mp hx;exact(zH oL w).2
   ·have e2:=y6 (eL.trans (un h' o e)) oL fun t ht=>(i4 ow.2.2 o.2 t ht).1
    refine Pa fun i=>?_
    rw[Ll];cases ew:ws[i]? with
    |none =>
     have:=Nc.mp ew
     rw[Nc.mpr (by rw[o.1];exact this)];try rfl
    |some w =>
     have li:i<h'.length:=by rw[o.1];exact(K_.mp ew).1
     have en:=Ld li
     have:=uW ow.1 ow.lt (fun x hx=>(o.2 x hx).1) ew en
     rw[<- e2,(zH oL w).1] at this;rw[en,<- V.int.inj this];rfl
end Tg
namespace Tg
open PySem L2 Fr G1 Sm Vs Tw Tp2 Tr
open Tr2 (Lt Hs db WdOk u8 cU Ew Ev Ba Eu)
open Nv (cX fU f8 Rw dR gX qF Jz pX okN gP)
open PySem.W (Dat kqdOk)
def tT(K:Fg):Sp:=fun vs H Q _=>∃(v:V) (s:Str) (ws:List Str) (m n:Nat),vs=[v,.str s]/\Rz K H v (.tuple (ws.map Mu))/\WdOk ws/\Asc m n s/\m<=1900/\n<=300/\(∀(p:Addr) (H':Hp) (t:Tn),Same H H'->Rz K H' (.ref p) (dT t)->i9 ws t->cf ws t=s->Q (.ref p) H')/\∀H',Same H H'->(∀t,i9 ws t->cf ws t≠s)->Q .non H'
theorem DJ{t u:Tn}(h1:t.fr=u.fr)(h2:t.to=u.to)(h3:t.q=u.q)(h4:t.d=u.d):t=u:=by
 cases t;cases u;simp only at h1 h2 h3 h4;subst h1 h2 h3 h4;rfl
def s_ (K:Fg):TS:=(aF (aR (fX K "str" yW (ag 1) (ao (tC (.str " -> ")) aA)) (aO 2))
 (aF (aR (fX K "str" yW (aE (bt K) (ag 2) (tC (.int 2))) (ao (tC (.str " @ ")) aA)) (aO 3))
 (aF (aR (bo (tZ K) [] E0 (ao (aE (bt K) (ag 3) (tC (.int 2))) aA)) (aO 4))
 (aF (bq (bg (aE jk (ag 4) (tC .non)))
 (aY (tC .non))
 bp)
 (aF (aR (cV (ao (bo (oP K) [] E0 (ao (ag 0) (ao (aE (bt K) (ag 2) (tC (.int 0))) aA))) (ao (bo (oP K) [] E0 (ao (ag 0) (ao (aE (bt K) (ag 3) (tC (.int 0))) aA))) (ao (ag 4) aA)))) (aO 5))
 (aF (bq (bg (aE w4 (bo (tR K) [] E0 (ao (ag 0) (ao (ag 5) aA))) (ag 1)))
 (aY (tC .non))
 bp)
 (aY (ag 5))))))))
theorem BO{K:Fg}{N:List Str}(hN:N.length=6)(h:tT K vs H Q E):s_ K (ends Q) (L2.start N vs) H:=by
 obtain⟨v,s,ws,m,n,rfl,rv,ow,as,hm,hn,k,kn⟩:=h;rw[L2.cu hN];walk_at "t";unfold s_;walk_at "";refine⟨rfl,?_⟩;walk_at "";refine DY (by decide +kernel) as hm fun p a u b np aa ab c1=>?_
 have w1:∀t,i9 ws t->cf ws t=s->a=bP ws t.fr/\b=bP ws t.to ++ " @ " ++ bV t.q t.d:=fun t o e=>by
  rw[cU] at e;exact c1 _ _ e.symm (nL Ew Ev (fun z=>by have:=db ow.lt o.1.2 45 z;walk_at "om") (by decide))
 have hp:upd H p (.tup [.str a,.str u,.str b]) p=some (.tup [.str a,.str u,.str b]):=aq;have S1:=au np (.tup [.str a,.str u,.str b]);generalize upd H p (.tup [.str a,.str u,.str b])=H1 at hp S1 ⊢;walk_at "";refine bu (SqT.of hp) (v:=.str b) rfl ?_;refine⟨rfl,?_⟩;walk_at "";refine DY (by decide +kernel) ab hm fun p2 c u2 e WQ ac ae c2=>?_
 have w2:∀t,i9 ws t->cf ws t=s->c=bP ws t.to/\e=bV t.q t.d:=fun t o z=>c2 _ _ (w1 t o z).2 (nL Ba Eu (fun z=>by have:=db ow.lt o.2.1.2 64 z;walk_at "om") (by decide))
 have iY:upd H1 p2 (.tup [.str c,.str u2,.str e]) p2=some (.tup [.str c,.str u2,.str e]):=aq;have S2:=au WQ (.tup [.str c,.str u2,.str e]);generalize upd H1 p2 (.tup [.str c,.str u2,.str e])=H2 at iY S2 ⊢;have S12:=S1.trans S2;walk_at "";refine bu (SqT.of iY) (v:=.str e) rfl ?_;walk_at "";refine⟨e,m,n,rfl,ae,hm,hn,fun p3 H3 q d S3 r3 pg u3=>?_,fun H3 S3 no=>?_⟩
 ·have S13:=S12.trans S3;walk_at "";rw[decide_eq_false (fun z:V.ref p3=V.non=>by cases z)];walk_at "";refine bu (SqT.of ((S2.trans S3) _ _ hp)) (v:=.str a) rfl ?_;walk_at "";refine⟨v,a,ws,m,n,rfl,rv.same S13,ow,aa,hm,fun p4 H4 h4 S4 r4 o4 u4=>?_⟩;walk_at "";refine bu (SqT.of ((S3.trans S4) _ _ iY)) (v:=.str c) rfl ?_;walk_at "";refine⟨v,c,ws,m,n,rfl,rv.same (S13.trans S4),ow,ac,hm,fun p5 H5 h5 S5 r5 o5 u5=>?_⟩
  have un:∀t,i9 ws t->cf ws t=s->(⟨h4,h5,q,d⟩:Tn)=t:=fun t o z=>by
   obtain⟨a1,_⟩:=w1 t o z;obtain⟨a2,a3⟩:=w2 t o z;obtain⟨z1,z2⟩:=u3 _ _ o.2.2 a3.symm;exact DJ (u4 _ o.1 a1.symm) (u5 _ o.2.1 a2.symm) z1.symm z2.symm
  have to:i9 ws ⟨h4,h5,q,d⟩:=⟨o4,o5,pg⟩
  walk_at "";refine⟨dS,fun p6 np6=>?_⟩;have S6:=au np6 (.tup [.ref p4,.ref p5,.ref p3]);have r6:Rz K (upd H5 p6 (.tup [.ref p4,.ref p5,.ref p3])) (.ref p6) (dT ⟨h4,h5,q,d⟩):=.tup aq (.cons ((r4.same S5).same S6) (.cons (r5.same S6) (.cons (((r3.same S4).same S5).same S6) .nil)));generalize upd H5 p6 (.tup [.ref p4,.ref p5,.ref p3])=H6 at S6 r6 ⊢;have S16:=S13.trans (S4.trans (S5.trans S6));walk_at "";refine⟨v,.ref p6,ws,_,rfl,rv.same S16,r6,ow.ok,to,fun H7 S7=>?_⟩;walk_at "";refine u8 ?_;by_cases z:cf ws ⟨h4,h5,q,d⟩=s
  ·rw[decide_eq_true z];walk_at "";exact k p6 H7 _ (S16.trans S7) (r6.same S7) to z
  ·rw[decide_eq_false z];walk_at "";exact kn H7 (S16.trans S7) fun t o e=>z (by rw[un t o e];exact e)
 ·walk_at "";exact kn H3 (S12.trans S3) fun t o z=>no _ _ o.2.2 (w2 t o z).2.symm
theorem tP(h:cX ws):WdOk ws:=⟨h.2.2,h.1.2,fun w hw=>by
 have b:=h.2.1 w hw
 unfold Nv.isWb at b
 obtain⟨b1,b2⟩:=(My _ _).mp b
 refine⟨fun c hc=>?_,(of_decide_eq_true b1).2⟩
 have:=Mp.mp b2 _ (Lm.mpr ⟨c,hc,rfl⟩)
 unfold Nv.letter at this
 obtain⟨a1,a2⟩:=(My _ _).mp this
 exact⟨of_decide_eq_true a1,of_decide_eq_true a2⟩⟩
structure qu (ws:List Str) (ss:List Str) (i:Nat) (ts:List Tn):Prop where
 len:ts.length=i
 at_:∀(j:Nat) (t:Tn),ts[j]?=some t->i9 ws t/\ss[j]?=some (cf ws t)
def wW(t:Tn):Rw:=⟨false,false,t⟩
def tU (K:Fg) (x:Ex0.Ad):Sp:=fun vs H Q E=>∃(a b:Addr) (ws ss:List Str),vs=[.ref a,.ref b]/\SqL K H a (ws.map V.str)/\SqL K H b (ss.map V.str)/\(∀w∈ws,f8 w)/\ws.length<=20/\(∀s∈ss,Asc 1900 300 s)/\ss.length<=12/\xG K x.c6/\sP K x.c6 "at" /\
 (¬ cX ws->∀H',Same H H'->E (.ref x.c1) none H') /\
 (cX ws->∀(i:Nat) (s:Str) (ts:List Tn),ss[i]?=some s->qu ws ss i ts->(∀t,i9 ws t->cf ws t≠s)->∀dx H',Same H H'->H' dx=some (.xd [("at",.int (i:Int))])->E (.ref x.c6) (some dx) H') /\
 (cX ws->∀ts,qu ws ss ss.length ts->¬ fU ts->∀H',Same H H'->E (.ref x.c4) none H') /\
 (cX ws->∀ts,qu ws ss ss.length ts->fU ts->∀(p:Addr) (H':Hp),Same H H'->Rz K H' (.ref p) (dV ws ts)->Q (.ref p) H')
theorem wq(o:bv n h):pX n h=true:=by
 unfold pX;rw[decide_eq_true o.1,N_,Mp];intro b hb;obtain⟨x,hx,rfl⟩:=Lm.mp hb;unfold okN;rw[decide_eq_true (o.2 x hx).1,decide_eq_true (o.2 x hx).2];rfl
theorem zK{q:Int}(h0:0<q)(h:q<kA):q.natAbs<2 ^ 1900:=L8 (L8 (show q.natAbs<kA by walk_at "om") vk) (Pn (by decide) (by decide))
def tu(K:Fg)(E:XK)(x:Ex0.Ad):TS:=(aF (aR (bo (gP K x.c1) [] E (ao (ag 0) aA)) (aO 2))
 (aF (aR (cW aA) (aO 3))
 (aF (eW (Gn K (ao (ag 1) aA)) (xu K 2 (lU (aO 4) (lU (aO 5) xw)))
 (aF (aR (bo (tT K) [] E0 (ao (ag 2) (ao (ag 5) aA))) (aO 6))
 (aF (bq (bg (aE jk (ag 6) (tC .non)))
 (oH E x.c6 (ua K x.c6 "at") (ag 4))
 bp)
 (gf (fX K "list" di (ag 3) (ao (ag 6) aA))))))
 (aY (bo (qF K x) [] E (ao (ag 2) (ao (ag 3) aA)))))))
theorem BQ{K:Fg}{N:List Str}(hN:N.length=7)(h:tU K x vs H Q E):tu K E x (ends Q) (L2.start N vs) H:=by
 obtain⟨a,b,ws,ss,rfl,ha,hb,pl,XF,as,WA,hS,hF,k1,k6,k4,k⟩:=h;rw[L2.cu hN];walk_at "t";unfold tu;walk_at "";refine⟨a,ws,rfl,.inl ha,pl,XF,fun so p H1 S1 hp=>?_,k1⟩;have wd:=tP so;have rp:Rz K H1 (.ref p) (.tuple (ws.map Mu)):=.tup hp (RpL.strs _);walk_at "";refine⟨by decide,fun l nl=>?_⟩;have A0:AccZ K H1 l (upd H1 l (.lst [])) (([]:List Tn).map dT):=AccZ.start (Same.refl _) nl;have S2:=au nl (.lst []);generalize upd H1 l (.lst [])=H2 at A0 S2 ⊢;walk_at "";refine⟨b,_,rfl,(S1.trans S2).seq hb,?_⟩;refine C_ (xs:=ss.map V.str) (fun i σ H3=>∃(u4 u5 u6:Option V) (ts:List Tn),σ=[some (.ref a),some (.ref b),some (.ref p),some (.ref l),u4,u5,u6]/\AccZ K H1 l H3 (ts.map dT)/\qu ws ss i ts) ⟨none,none,none,[],rfl,A0,rfl,fun _ _ z=>by cases z⟩ (fun i σ H3 _ ⟨_,_,_,_,_,A,_⟩=>(S1.trans A.same).seq hb) ?_ ?_
 ·rintro i y σ H3 T e1 ⟨u4,u5,u6,ts,rfl,A3,R3⟩ nT;rw[Ll] at e1;obtain⟨s,es,rfl⟩:=Lu.mp e1;have li:=(K_.mp es).1;have A4:=A3.on (au nT (.tup [.int (i:Int),.str s]));refine wg (SqT.of aq) rfl ?_;generalize upd H3 T (.tup [.int (i:Int),.str s])=H4 at A4 ⊢;walk_at "";refine⟨.ref p,s,ws,1900,300,rfl,rp.same A4.same,wd,as s (Li es),by decide,by decide,fun q H5 t S5 rq ot et=>?_,fun H5 S5 no=>?_⟩
  ·have A5:=A4.on S5;walk_at "";rw[decide_eq_false (fun z:V.ref q=V.non=>by cases z)];walk_at "";refine⟨A5.ty,?_⟩;walk_at "";refine f7 A5 rq (dX (by rw[K9,R3.len];walk_at "om")) fun H6 A6 _ _ _=>?_
   walk_at "";refine⟨_,_,_,ts++[t],rfl,?_,by rw[LU,R3.len];rfl,fun j u ej=>?_⟩
   ·rw[Lq];exact A6
   ·by_cases l:j<ts.length
    ·rw[Mc l] at ej;exact R3.at_ j u ej
    ·rw[L7 (by walk_at "om")] at ej
     have j0:j-ts.length=0:=by
      have:=(K_.mp ej).1
      rw[Mt] at this;walk_at "om"
     rw[j0] at ej;cases LD ej
     have:j=i:=by have:=R3.len;walk_at "om"
     rw[this,es,et];exact⟨ot,rfl⟩
  ·walk_at "";exact CM (D:=ends Q) hS hF rfl (by walk_at "om") fun dx H' S' hd=>k6 so i s ts es R3 no dx H' (S1.trans (A4.same.trans (S5.trans S'))) hd
 ·rintro σ H3 ⟨u4,u5,u6,ts,rfl,A3,R3⟩;rw[K9] at R3;walk_at "";obtain⟨xs,hl,rl⟩:=A3.at_;have em:(ts.map wW).map Rw.t=ts:=by rw[Na];exact List.map_id _
  have ed:(ts.map wW).map dR=ts.map dT:=by rw[Na];rfl
  have ot:∀t∈ts,i9 ws t:=fun t ht=>by
   obtain⟨j,ej⟩:=M6 ht;exact(R3.at_ j t ej).1
  have rh:∀r∈ts.map wW,gX ws.length r=true:=fun r hr=>by
   obtain⟨t,ht,rfl⟩:=Lm.mp hr;unfold gX;rw[show(wW t).t=t from rfl,wq (ot t ht).1,wq (ot t ht).2.1];rfl
  have rq:∀r∈ts.map wW,0<r.t.q:=fun r hr=>by
   obtain⟨t,ht,rfl⟩:=Lm.mp hr;exact(ot t ht).2.2.1
  refine⟨p,l,fun x=>x=l,ws,ts.map wW,rfl,.inr (A3.same _ _ hp),.lst rfl hl (by rw[ed];exact rl.mono fun _ z=>z.elim),pl,XF,fun r hr=>?_,by rw[K9,R3.len];exact WA,fun z=>absurd so z,fun _ ⟨r,hr,z⟩=>(by rw[rh r hr] at z;cases z),fun _ _ ⟨r,hr,z⟩=>absurd (rq r hr) z,fun _ _ _ ck H4 S4=>?_,fun _ _ _ ck q H4 S4 rq=>?_⟩
  ·obtain⟨t,ht,rfl⟩:=Lm.mp hr;obtain⟨o1,o2,o3⟩:=ot t ht;have w5:=so.1.2;exact⟨by show t.fr.length<=100;rw[o1.1];walk_at "om",by show t.to.length<=100;rw[o2.1];walk_at "om",zK o3.1 o3.2.2.2.1,zK o3.2.1 o3.2.2.2.2⟩
  ·rw[em] at ck;exact k4 so ts R3 ck H4 (S1.trans (A3.same.trans S4))
  ·rw[em] at ck rq;exact k so ts R3 ck q H4 (S1.trans (A3.same.trans S4)) rq
end Tg
namespace Tg
open PySem L2 Fr G1 Sm Vs Tw Tp2 Tr
open Tr2 (Lt Hs db jr WdOk dy iQ pz GZ)
open PySem.W (Dat kqdOk)
theorem iG{n n':Int}(hw:Lt w)(XQ:Lt w')(h0:0<n)(h3:n<=3)(h0':0<n')(h3':n'<=3)(e:bF w n=bF w' n'):w=w'/\n=n':=by
 have b2:∀u:Str,32∈cl (("2 ":Str)++u):=fun u=>by rw[bK];exact MP _ (by decide +kernel)
 have b3:∀u:Str,32∈cl (("3 ":Str)++u):=fun u=>by rw[bK];exact MP _ (by decide +kernel)
 have c2:cl ("2 ":Str)=[50,32]:=by decide +kernel
 have c3:cl ("3 ":Str)=[51,32]:=by decide +kernel
 rcases three h0 h3 with rfl|rfl|rfl <;> rcases three h0' h3' with rfl|rfl|rfl <;> simp only[iH,jA,jy] at e
 ·exact⟨e,rfl⟩
 ·exact absurd (e ▸ b2 w') (jr hw)
 ·exact absurd (e ▸ b3 w') (jr hw)
 ·exact absurd (e.symm ▸ b2 w) (jr XQ)
 ·have:=congrArg cl e
  rw[bK,bK] at this;exact⟨l9 (Qc this),rfl⟩
 ·have:=congrArg cl e
  rw[bK,bK,c2,c3] at this;cases this
 ·exact absurd (e.symm ▸ b3 w) (jr XQ)
 ·have:=congrArg cl e
  rw[bK,bK,c2,c3] at this;cases this
 ·have:=congrArg cl e
  rw[bK,bK] at this;exact⟨l9 (Qc this),rfl⟩
def tW(K:Fg):Sp:=fun vs H Q _=>∃(a:Addr) (s:Str) (ws:List Str),vs=[.ref a,.str s]/\H a=some (.lst (ws.map V.str))/\ws.length<=5/\(∀w∈ws,w.length<=8)/\(∀(p:Addr) (H':Hp) (k:Nat) (w:Str) (n:Int),Same H H'->H' p=some (.tup [.int k,.int n])->ws[k]?=some w->0<n->n<=3->bF w n=s->Q (.ref p) H')/\∀H',Same H H'->(∀w∈ws,∀n:Int,0<n->n<=3->bF w n≠s)->Q .non H'
def tD(K:Fg):TS:=(aF (eW (fE (ao (b_ (cM K) (ao (ag 0) aA)) aA)) (aO 2)
 (eW (Gm (ao (tC (.int 1)) (ao (tC (.int 4)) aA))) (aO 3)
 (bq (bg (aE fq (ag 1) (aE (cy K) (cW (ao (tC (.str "")) (ao (aE (cy K) (ag 0) (ag 2)) (ao (aE cZ (tC (.str "2 ")) (aE (cy K) (ag 0) (ag 2))) (ao (aE cZ (tC (.str "3 ")) (aE (cy K) (ag 0) (ag 2))) aA))))) (ag 3))))
 (aY (cV (ao (ag 2) (ao (ag 3) aA))))
 bp)))
 (aY (tC .non)))
theorem BR{K:Fg}{N:List Str}(hN:N.length=4)(h:tW K vs H Q E):tD K (ends Q) (L2.start N vs) H:=by
 obtain⟨a,s,ws,rfl,ha,w5,w8,k,kn⟩:=h;rw[L2.cu hN];walk_at "t";unfold tD;walk_at "";refine cF (SqL.of ha) ?_;rw[K9];walk_at "";rw[show((ws.length:Nat):Int).toNat=ws.length by walk_at "om"];refine cO (fun i σ H2=>∃u2 u3:Option V,σ=[some (.ref a),some (.str s),u2,u3]/\Same H H2/\∀j w,j<i->ws[j]?=some w->∀n:Int,0<n->n<=3->bF w n≠s) ⟨none,none,rfl,Same.refl _,fun j w z=>absurd z (by walk_at "om")⟩ ?_ ?_
 ·rintro i σ H2 hi ⟨u2,u3,rfl,S2,no⟩;have f1:ws[i]?=some ws[i]:=Ld hi;have lw:=w8 _ (Nb hi);generalize ws[i]=w at f1 lw;have g1:(ws.map V.str)[i]?=some (.str w):=by rw[Ll,f1];rfl
  walk_at "";refine⟨1,4,rfl,by decide,?_⟩;rw[show((4:Int)-1).toNat=3 from rfl];refine cO (fun j σ H3=>∃u3:Option V,σ=[some (.ref a),some (.str s),some (.int i),u3]/\Same H H3/\∀n:Int,0<n->n<=j->bF w n≠s) ⟨u3,by simp,S2,fun n z z'=>absurd z (by walk_at "om")⟩ ?_ ?_
  ·rintro j σ H3 hj ⟨u3,rfl,S3,nj⟩;have W7:=S3 _ _ ha;have j3:j<3:=hj;walk_at "";refine cK (SqL.of W7) (v:=.str w) (ba g1) ?_;walk_at "";refine cK (SqL.of W7) (v:=.str w) (ba g1) ?_;refine cx (by rw[F5,szL];walk_at "om") ?_;walk_at "";refine cK (SqL.of W7) (v:=.str w) (ba g1) ?_;refine cx (by rw[F4,szL];walk_at "om") ?_;walk_at "";refine⟨oV,fun q nq=>?_⟩;have Sq:=au nq (.lst [V.str "",.str w,.str (("2 ":Str)++w),.str (("3 ":Str)++w)]);walk_at "";refine cK (SqL.of aq) (AE (by walk_at "om") (by walk_at "om")) ?_;generalize upd H3 q (.lst [V.str "",.str w,.str (("2 ":Str)++w),.str (("3 ":Str)++w)])=H4 at Sq ⊢;walk_at "";by_cases e:s=bF w (1+(j:Int))
   ·rw[decide_eq_true e];walk_at "";refine⟨bG,fun p np=>?_⟩;exact k p _ i w _ (S3.trans (Sq.trans (au np _))) aq f1 (by walk_at "om") (by walk_at "om") e.symm
   ·rw[decide_eq_false e];walk_at "";refine⟨_,rfl,S3.trans Sq,fun n n0 nj'=>?_⟩;by_cases z:n=1+(j:Int)
    ·rw[z];exact fun q=>e q.symm
    ·exact nj n n0 (by walk_at "om")
  ·rintro σ H3 ⟨u3,rfl,S3,nj⟩;refine⟨_,_,rfl,S3,fun j w' lj ew n n0 n3=>?_⟩;by_cases z:j<i
   ·exact no j w' z ew n n0 n3
   ·have:j=i:=by walk_at "om"
    rw[this,f1] at ew;cases LD ew;exact nj n n0 n3
 ·rintro σ H3 ⟨u2,u3,rfl,S3,no⟩;walk_at ""
  exact kn H3 S3 fun w hw n n0 n3=>by
   obtain⟨j,ej⟩:=M6 hw;exact no j w (K_.mp ej).1 ej n n0 n3
theorem uz{ws:List Str}{h:List Int}(k:Nat)(l:ws.length=h.length):a8 ws h=a8 (ws.take k) (h.take k)++a8 (ws.drop k) (h.drop k):=by
 unfold a8;rw[<- Qm,<- Vb (by rw[LK,LK,l]),O6,O6]
theorem gS{ws:List Str}{h:List Int}{k0:Nat}:∀(k:Nat),k<=ws.length->(∀j,k0<=j->j<k->h[j]?=some 0)->k0<=k->a8 (ws.take k) (h.take k)=a8 (ws.take k0) (h.take k0)
 |0,_,_,e=>by rw[show k0=0 by walk_at "om"]
 |k+1,lk,z,e=>by
  by_cases q:k0=k+1
  ·rw[q]
  ·rw[fM (Ld (show k<ws.length by walk_at "om")) (z k (by walk_at "om") (by walk_at "om")),if_neg (by decide),M9];exact gS k (by walk_at "om") (fun j a b=>z j a (by walk_at "om")) (by walk_at "om")
theorem wz:∀{ws:List Str} {h:List Int} {p:Str} {r:List Str},a8 ws h=p :: r->(∀x∈h,0<=x)->∃(k:Nat) (w:Str) (n:Int),ws[k]?=some w/\h[k]?=some n/\0<n/\p=bF w n/\∀j,j<k->h[j]?=some 0
 |[],_,_,_,e,_=>by cases e
 |_ :: _,[],_,_,e,_=>by cases e
 |w :: ws,n :: h,p,r,e,o=>by
  by_cases z:0<n
  ·have e':(if 0<n then some (bF w n) else none).toList++a8 ws h=p :: r:=by
    rw[<- e];unfold a8;rw[Rg,MC,if_pos z];rfl
   rw[if_pos z] at e';cases e';exact⟨0,w,n,rfl,rfl,z,rfl,fun j l=>absurd l (by walk_at "om")⟩
  ·have e':a8 ws h=p :: r:=by
    rw[<- e];unfold a8;rw[Rg,MC,if_neg z]
   obtain⟨k,w',n',a1,a2,a3,a4,a5⟩:=wz e' fun x hx=>o x (Lj _ hx)
   refine⟨k+1,w',n',a1,a2,a3,a4,fun j l=>?_⟩;cases j with
   |zero=>show some n=_;rw[show n=0 by have:=o n Lg;walk_at "om"]
   |succ j=>exact a5 j (by walk_at "om")
theorem ju{s:Str} (ow:WdOk ws) (oh:bv ws.length h) (e:bP ws h=s) (z:s≠"0"):a8 ws h=bz s " + ":=by
 have ne:a8 ws h≠[]:=fun q=>z (by rw[<- e];exact if_pos q)
 rw[<- e,kZ ow oh];unfold dy;rw[if_neg ne,iQ,Na];rfl
structure Pz (ws:List Str) (ps:List Str) (i k0:Nat) (h:List Int):Prop where
 ok:bv ws.length h
 le:k0<=ws.length
 at_:a8 (ws.take k0) (h.take k0)=ps.take i
 zero:∀j,k0<=j->j<ws.length->h[j]?=some 0
 un:∀h',bv ws.length h'->a8 ws h'=ps->h'.take k0=h.take k0
theorem Pz.next(ow:WdOk ws)(P:Pz ws ps i k0 h)(o:bv ws.length h')(e:a8 ws h'=ps){p:Str}(ep:ps[i]?=some p):∃(k:Nat) (w:Str) (n:Int),ws[k]?=some w/\h'[k]?=some n/\0<n/\n<=3/\p=bF w n/\k0<=k/\∀j,k0<=j->j<k->h'[j]?=some 0:=by
 have s1:=uz (h:=h') k0 o.1.symm;rw[P.un h' o e,P.at_,e] at s1;have s2:a8 (ws.drop k0) (h'.drop k0)=ps.drop i:=Qc (s1.symm.trans (O6 i ps).symm);have li:=(K_.mp ep).1;rw[Ri li,show ps[i]=p from(K_.mp ep).2] at s2;obtain⟨k,w,n,a1,a2,a3,a4,a5⟩:=wz s2 fun x hx=>(o.2 x (Ow hx)).1
 rw[OS] at a1 a2;refine⟨k0+k,w,n,a1,a2,a3,(o.2 n (Li a2)).2,a4,by walk_at "om",fun j l1 l2=>?_⟩
 have:=a5 (j-k0) (by walk_at "om")
 rw[OS,show k0+(j-k0)=j by walk_at "om"] at this;exact this
theorem Pz.put{k:Nat}{w:Str}{n:Int}(ow:WdOk ws)(P:Pz ws ps i k0 h)(ew:ws[k]?=some w)(n0:0<n)(n3:n<=3)(ep:ps[i]?=some (bF w n))(lk:k0<=k):Pz ws ps (i+1) (k+1) (h.set k n):=by
 have kl:=(K_.mp ew).1;have kh:k<h.length:=by rw[P.ok.1];exact kl
 have ek:(h.set k n)[k]?=some n:=by rw[Nu kh]
 refine⟨⟨by rw[Ss];exact P.ok.1,fun x hx=>?_⟩,kl,?_,fun j l1 l2=>?_,fun h' o e=>?_⟩
 ·rcases Rj hx with z|z
  ·exact P.ok.2 x z
  ·rw[z];walk_at "om"
 ·rw[fM ew ek,if_pos n0,List.take_set_of_le (Lf _),gS k (by walk_at "om") (fun j a b=>P.zero j a (by walk_at "om")) lk,P.at_,LV,ep];rfl
 ·rw[NW (by walk_at "om")];exact P.zero j (by walk_at "om") l2
 ·obtain⟨k',w',n',b1,b2,b3,b4,b5,b6,b7⟩:=P.next ow o e ep;obtain⟨c1,c2⟩:=iG ((ow.2.2 w (Li ew)).1) ((ow.2.2 w' (Li b1)).1) n0 n3 b3 b4 b5;subst c1 c2;have kk:k=k':=gT ow.1 ew b1;subst kk;refine Pa fun j=>?_
  by_cases lj:j<k+1
  ·rw[NR lj,NR lj];by_cases z:j=k
   ·rw[z,ek,b2]
   ·rw[NW (by walk_at "om")];by_cases z2:j<k0
    ·have:=congrArg (·[j]?) (P.un h' o e)
     simp only[NR z2] at this;exact this
    ·rw[b7 j (by walk_at "om") (by walk_at "om"),P.zero j (by walk_at "om") (by walk_at "om")]
  ·rw[Nc.mpr (by rw[LK];walk_at "om"),Nc.mpr (by rw[LK];walk_at "om")]
theorem Pz.done(P:Pz ws (bz s " + ") (bz s " + ").length k0 h):bP ws h=s:=by
 have e:a8 ws h=bz s " + ":=by
  have:=P.at_
  rw[Ln (Lf _)] at this;rw[<- this,<- gS ws.length (Lf _) P.zero P.le,Ln (Lf _),Ln (by rw[P.ok.1];exact Lf _)]
 rw[fR (by rw[e];exact kY s _),Tr2.iE,e];exact fw s _
theorem Pz.start:Pz ws ps 0 0 (LG ws.length 0):=⟨⟨Me,fun x hx=>by rw[List.eq_of_mem_replicate hx];decide⟩,Ml _,rfl,fun j _ l=>by rw[P8,if_pos l],fun h' _ _=>rfl⟩
theorem wN:bP ws (LG ws.length 0) = "0":=by
 have:=gS (ws:=ws) (h:=LG ws.length 0) (k0:=0) ws.length (Lf _) (fun j _ l=>by rw[P8,if_pos l]) (Ml _)
 rw[Ln (Lf _),Ln (by rw[Me];exact Lf _)] at this;exact if_pos this
def kJ(K:Fg):Sp:=fun vs H Q _=>∃(a:Addr) (s:Str) (ws:List Str) (m n:Nat),vs=[.ref a,.str s]/\H a=some (.lst (ws.map V.str))/\WdOk ws/\Asc m n s/\m<=1900/\(∀(p:Addr) (H':Hp) (h:List Int),Same H H'->Rz K H' (.ref p) (dI h)->bv ws.length h->bP ws h=s->Q (.ref p) H')/\∀H',Same H H'->(∀h,bv ws.length h->bP ws h≠s)->Q .non H'
def tJ(K:Fg):TS:=(aF (aR (eI (gY K (ag 0)) (tC (.int 0))) (aO 2))
 (aF (bq (bg (aE fq (ag 1) (tC (.str "0"))))
 (aY (b_ (dH K) (ao (ag 2) aA)))
 bp)
 (aF (aR (DK (rU fun i=>.int (-i)) (tC (.int 1))) (aO 3))
 (aF (eW (gY K (fX K "str" fK (ag 1) (ao (tC (.str " + ")) aA))) (aO 4)
 (aF (aR (bo (tW K) [] E0 (ao (ag 0) (ao (ag 4) aA))) (aO 5))
 (aF (bq (kF (bg (aE jk (ag 5) (tC .non))) (bg (aE Cf (aE (bt K) (ag 5) (tC (.int 0))) (ag 3))))
 (aY (tC .non))
 bp)
 (aF (aR (aE (bt K) (ag 5) (tC (.int 0))) (aO 3))
 (aR (aE (bt K) (ag 5) (tC (.int 1))) (C6 (ag 2) (ag 3) Fs))))))
 (aY (b_ (dH K) (ao (ag 2) aA)))))))
theorem B0{K:Fg}{N:List Str}(hN:N.length=6)(h:kJ K vs H Q E):tJ K (ends Q) (L2.start N vs) H:=by
 obtain⟨a,s,ws,m,n,rfl,ha,ow,as,hm,k,kn⟩:=h;rw[L2.cu hN];walk_at "t";have ls:=as.len;have w5:=ow.2.1;unfold tJ;walk_at "";refine r0 (SqL.of ha) ?_;refine d_ (xs:=ws.map V.str) fun D nD=>⟨fun i H2=>AccZ K H D H2 ((LG i (0:Int)).map ND),AccZ.start (Same.refl _) nD,fun i H2 _ A=>SqL.of (A.same _ _ ha),?_,?_⟩
 ·intro i y H2 e1 A;have hi:i<(ws.map V.str).length:=(K_.mp e1).1;walk_at "";refine cw hi (A.fu (.int 0) (dX (by rw[K9] at hi ⊢;rw[Me];walk_at "om")) fun H5 A5=>?_);show AccZ K H D H5 ((LG (i+1) (0:Int)).map ND);rw[QH,Lq];exact A5
 ·intro H2 A;rw[K9] at A;have hD:=AccZ.ints A;have S2:=A.same;have Xp:∀b o,H b=some o->b≠D:=fun b o q z=>by rw[z,nD] at q;cases q
  walk_at "";by_cases z0:s=("0":Str)
  ·rw[decide_eq_true z0];walk_at "";refine e9 (SqL.of hD) fun p np=>?_
   exact k p _ _ (S2.trans (au np _)) (.tup aq (RpL.ints _)) (Pz.start (ps:=[])).ok (by rw[z0];exact wN)
  ·rw[decide_eq_false z0];walk_at "";refine⟨rfl,?_⟩;walk_at "";refine⟨s," + ",rfl,rfl,by decide +kernel,by walk_at "om",as.all,by decide +kernel,fun l nl=>?_⟩;rw[show LW s (" + ":Str).length 0 (eQ s " + ")=bz s " + " from rfl];have hl:upd H2 l (.lst ((bz s " + ").map V.str)) l=some (.lst ((bz s " + ").map V.str)):=aq;have B2:GZ D H (upd H2 l (.lst ((bz s " + ").map V.str))):=fun b o nb q=>(au nl _) _ _ (S2 b o q)
   have Z3:upd H2 l (.lst ((bz s " + ").map V.str)) D=some (.lst ((LG ws.length (0:Int)).map V.int)):=(au nl _) _ _ hD;have nlD:l≠D:=fun z=>by rw[z,hD] at nl;cases nl
   have nlH:∀b o,H b=some o->b≠l:=fun b o q z=>by rw[z] at q;rw[S2 _ _ q] at nl;cases nl
   generalize upd H2 l (.lst ((bz s " + ").map V.str))=H3 at hl B2 Z3 ⊢
   have no:∀(i k0:Nat) (h:List Int) (p:Str),Pz ws (bz s " + ") i k0 h->(bz s " + ")[i]?=some p->(∀(k:Nat) (w:Str) (n:Int),ws[k]?=some w->0<n->n<=3->k0<=k->bF w n≠p)->∀h,bv ws.length h->bP ws h≠s:=fun i k0 h p P ep q h' o e=>by
    obtain⟨k,w,n,b1,b2,b3,b4,b5,b6,_⟩:=P.next ow o (ju ow o e z0) ep;exact q k w n b1 b3 b4 b6 b5.symm
   refine Ae (SqL.of hl) ?_;refine iZ (xs:=(bz s " + ").map V.str) (fun i σ H4=>∃(u4 u5:Option V) (k0:Nat) (h:List Int),σ=[some (.ref a),some (.str s),some (.ref D),some (.int ((k0:Int)-1)),u4,u5]/\GZ D H H4/\H4 l=some (.lst ((bz s " + ").map V.str))/\H4 D=some (.lst (h.map V.int))/\Pz ws (bz s " + ") i k0 h) ⟨none,none,0,_,rfl,B2,hl,Z3,Pz.start⟩ (fun i σ H4 _ ⟨_,_,_,_,_,_,q,_⟩=>SqL.of q) ?_ ?_
   ·rintro i y σ H4 e1 ⟨u4,u5,k0,h,rfl,B4,hl4,hD4,P⟩;rw[Ll] at e1;obtain⟨p,ep,rfl⟩:=Lu.mp e1;have Z7:=B4 _ _ (Xp _ _ ha) ha;walk_at "";refine⟨a,p,ws,rfl,Z7,w5,fun w hw=>(ow.2.2 w hw).2,fun q H5 kk w nn S5 hq ew n0 n3 ex=>?_,fun H5 S5 nx=>?_⟩
    ·have hD5:=S5 _ _ hD4;walk_at "";rw[decide_eq_false (fun z:V.ref q=V.non=>by cases z)];walk_at "";refine bu (SqT.of hq) (v:=.int kk) rfl ?_;walk_at "";refine bZ (fun z=>?_) (fun z=>?_)
     ·walk_at "";refine kn H5 (fun b o q=>S5 _ _ (B4 b o (Xp b o q) q)) (no i k0 h p P ep fun k' w' n' Z1 a1 a2 a3 e'=>?_);obtain⟨c1,c2⟩:=iG ((ow.2.2 w' (Li Z1)).1) ((ow.2.2 w (Li ew)).1) a1 a2 n0 n3 (e'.trans ex.symm);subst c1
      have:=gT ow.1 Z1 ew
      walk_at "om"
     ·walk_at "";refine bu (SqT.of hq) (v:=.int kk) rfl ?_;walk_at "";refine bu (SqT.of hq) (v:=.int nn) rfl ?_;refine Ei (uY (i:=2) rfl (uY (i:=3) rfl ?_));have kl:=(K_.mp ew).1;refine⟨D,_,_,kk,rfl,rfl,hD5,?_,?_⟩
      ·unfold Ai;rw[if_pos (by walk_at "om"),if_pos (by rw[K9,P.ok.1];walk_at "om")];simp
      ·refine⟨_,_,kk+1,h.set kk nn,by rw[show(((kk+1:Nat):Int)-1)=kk by walk_at "om"];rfl,fun b o nb q=>by rw[bf nb];exact S5 _ _ (B4 b o nb q),by rw[bf nlD];exact S5 _ _ hl4,by rw[aq,List.map_set],P.put ow ew n0 n3 (by rw[ep,ex]) (by walk_at "om")⟩
    ·walk_at "";refine kn H5 (fun b o q=>S5 _ _ (B4 b o (Xp b o q) q)) (no i k0 h p P ep fun k' w' n' Z1 a1 a2 _=>nx w' (Li Z1) n' a1 a2)
   ·rintro σ H4 ⟨u4,u5,k0,h,rfl,B4,hl4,hD4,P⟩;rw[K9] at P;walk_at "";refine e9 (SqL.of hD4) fun p np=>?_
    exact k p _ h (fun b o q=>(au np _) _ _ (B4 b o (Xp b o q) q)) (.tup aq (RpL.ints _)) P.ok P.done
end Tg
namespace L2
open PySem PySem.Spec PyProof.Rows
theorem AU{z:Str}{Q:VK}{H:Hp}(h:∀D,H D=none->∃Pv:Nat->Hp->Prop,Pv 0 (upd H D (.lst []))/\(∀i c H2,z.cps[i]?=some c->Pv i H2->GW g k tc te σ (.str ⟨#[c]⟩) H2 D z.cps.size i Pv)/\∀H2,Pv z.cps.size H2->Q (.ref D) H2):sQ (Jn z) k g tc te σ Q H:=by
 intro D nD;obtain⟨Pv,h0,hs,hd⟩:=h D nD;refine⟨fun i m H=>m=z.cps.size-i/\i<=z.cps.size/\Pv i H,⟨z.cps.size,by simp,Ml _,h0⟩,?_⟩;rintro i m H ⟨rfl,hi,p⟩;by_cases VL:i<z.cps.size
 ·refine .inr ⟨VL,fun v H' y us hu=>?_⟩;obtain⟨e,c,hc,e2⟩:=y;subst e e2;exact hs i c _ hc p us hu
 ·have e:i=z.cps.size:=by walk_at "om"
  subst e;exact .inl ⟨Lf _,hd H p⟩
end L2
namespace Tg
open PySem L2 Fr G1 Sm Vs Tw Tp2 Tr
open Tr2 (Lt Hs db jr hJ lP rN WdOk cU Ew Ev Ba Eu)
open PySem.W (Dat kqdOk)
theorem qd{d:Nat}(h:d<10):(Nat.digitChar d).toNat=48+d:=by
 have:∀d:Fin 10,(Nat.digitChar d).toNat=48+d:=by decide
 exact this ⟨d,h⟩
theorem AG:∀(cs:List Nat) (a:Nat),a<=cs.foldl (fun acc c=>acc*10+(c-48)) a
 |[],a=>Lf _
 |c :: cs,a=>Mh (by walk_at "om") (AG cs (a*10+(c-48)))
theorem Eo{cs:List Nat}(ne:cs≠[])(h:∀c∈cs,48<=c/\c<=57)(hd:cs.head?≠some 48):0<N4 cs:=by
 cases cs with
 |nil=>exact absurd rfl ne
 |cons c cs =>
  have h1:=h c Lg;have h2:c≠48:=fun z=>hd (by rw[z];rfl)
  have:=AG cs (0*10+(c-48))
  show 0<cs.foldl (fun acc c=>acc*10+(c-48)) (0*10+(c-48));walk_at "om"
theorem wA:∀(n:Nat) (cs:List Nat),cs.length=n->cs≠[]->(∀c∈cs,48<=c/\c<=57)->cs.head?≠some 48->(UF 10 (N4 cs)).map Vq=cs
 |0,cs,l,ne,_,_=>absurd (MB.mp l) ne
 |n+1,cs,l,ne,h,hd=>by
  rcases Qn cs with z|⟨ds,c,e⟩
  ·exact absurd z ne
  ·rw[Qo] at e;subst e;have hc:=h c (LH _ Lg);have e1:N4 (ds++[c])=N4 ds*10+(c-48):=by unfold N4;rw[Ry];rfl
   by_cases z:ds=[]
   ·subst z;rw[e1,show N4 []=0 from rfl,Nat.zero_mul,Pp,Qd (by walk_at "om"),LP,Os,qd (by walk_at "om"),show 48+(c-48)=c by walk_at "om"];rfl
   ·have W9:ds.head?≠some 48:=fun q=>hd (by cases ds with|nil=>exact absurd rfl z|cons x r=>exact q)
    have h':∀c∈ds,48<=c/\c<=57:=fun x hx=>h x (MP _ hx)
    have ih:=wA n ds (by rw[LU,Mt] at l;walk_at "om") z h' W9;have p:=Eo z h' W9;rw[e1,R9,<- Nat.toDigits_append_toDigits (by decide) p (by walk_at "om"),Lq,ih,Qd (by walk_at "om"),LP,Os,qd (by walk_at "om"),show 48+(c-48)=c by walk_at "om"]
theorem Go:∀m:Nat,0<m->((UF 10 m).map Vq).head?≠some 48:=by
 intro m
 induction m using QT with
 |ind m ih =>
  intro m0;by_cases l:m<10
  ·rw[Qd l,LP,qd l];show some (48+m)≠_;exact fun z=>by have:=LD z;walk_at "om"
  ·rw[Nat.toDigits_of_base_le (by decide) (by walk_at "om"),Lq]
   have:=ih (m / 10) (by walk_at "om") (by walk_at "om")
   cases e:(UF 10 (m / 10)).map Vq with
   |nil =>
    have h:=SL 10 (m / 10);rw[N6.mp e] at h;exact absurd h (by decide)
   |cons x r =>
    rw[e] at this;exact this
def Figz(s:Str):Prop:=G4 s/\(cl s).head?≠some 48
theorem Figz.back(h:Figz s):bO (val s:Int)=s:=l9 (by
 rw[show cl (bO ((val s:Nat):Int))=_ from Oj (val s)]
 exact wA _ (cl s) rfl h.1.1 h.1.2 h.2)
theorem Figz.pos(h:Figz s):0<val s:=Eo h.1.1 h.1.2 h.2
theorem lW{m:Nat}(h:0<m):Figz (bO m):=⟨⟨fun q=>lP m (fG.mpr q),hJ m⟩,by
 rw[show cl (bO (m:Int))=_ from Oj m]
 exact Go m h⟩
theorem AK:cl ("0123456789":Str)=[48,49,50,51,52,53,54,55,56,57]:=by decide +kernel
theorem Ao(c:Nat):(Nr ("0123456789":Str) ⟨#[c]⟩ 0 ("0123456789":Str).length 1).isEmpty = !e_ c:=by
 have m1:c∈cl ("0123456789":Str)↔e_ c=true:=by
  rw[AK];unfold e_;simp only[Lr,L_,or_false,My,decide_eq_true_eq];walk_at "om"
 have c0:(cl (⟨#[c]⟩:Str))[0]?=some c:=rfl;rcases RZ ("0123456789":Str) ⟨#[c]⟩ 1 (Lf _) with⟨e,no⟩|⟨i,r,e,hi,_⟩
 ·rw[e];cases hd:e_ c with
  |false=>rfl
  |true =>
   obtain⟨i,ei⟩:=M6 (m1.mpr hd);refine absurd (show eX _ _ i from lC.mpr ⟨?_,?_⟩) (no i)
   ·have:=(K_.mp ei).1
    rw[Tp2.bY] at this;exact this
   ·have l:=(K_.mp ei).1;rw[Ri l,(K_.mp ei).2];rfl
 ·rw[e]
  have:=e7 (show eX _ _ i from hi) c0
  rw[m1.mp (Li this)];rfl
def yt(K:Fg):Sp:=fun vs H Q _=>∃(s:Str) (m n:Nat),vs=[.str s]/\Asc m n s/\m<=1900/\∀(b:Bool) (H':Hp),Same H H'->(b=true↔Figz s)->Q (.bl b) H'
def x8 (K:Fg):TS:=(aF (bq (kF (bg (aE fq (ag 0) (tC (.str "")))) (bg (aE fq (aE o_ (ag 0) (tC (.int 0))) (tC (.str "0")))))
 (aY (tC (.bl false)))
 bp)
 (aY (aE fq (b_ (cM K) (ao (ni (Ap (ag 0)) 1 (aO 0) (bg (aE Ft (ag 0) (tC (.str "0123456789")))) (ag 0)) aA)) (tC (.int 0)))))
theorem Fl{K:Fg}{N:List Str}(hN:N.length=1)(h:yt K vs H Q E):x8 K (ends Q) (L2.start N vs) H:=by
 obtain⟨s,m,n,rfl,as,hm,k⟩:=h;rw[L2.cu hN];walk_at "t";have ls:=as.len;have hs:s.cps.size<=m:=ls;have no : ¬ Figz s->∀H',Same H H'->Q (.bl false) H':=fun z H' S=>k false H' S ⟨fun q=>(by cases q),fun q=>absurd q z⟩
 unfold x8;walk_at "";by_cases e:s=("":Str)
 ·rw[decide_eq_true e];walk_at "";exact no (fun z=>z.1.1 (fG.mp e)) H (Same.refl _)
 rw[decide_eq_false e];walk_at ""
 obtain⟨c,r,ec⟩:∃c r,cl s=c :: r:=by
  cases q:cl s with
  |nil=>exact absurd (fG.mpr q) e
  |cons c r=>exact⟨c,r,rfl⟩
 refine xt (c:=c) (M0 (dX (by walk_at "om"))) (by rw[show s.cps.toList=_ from ec];exact ba (j:=0) rfl) ?_;walk_at ""
 have e0:(⟨#[c]⟩:Str)=("0":Str)↔c=48:=⟨fun q=>by
  have:=congrArg cl q
  rw[show cl ("0":Str)=[48] by decide +kernel] at this
  exact(MK this).1,fun q=>by rw[q];rfl⟩
 by_cases z:c=48
 ·rw[decide_eq_true (e0.mpr z)];walk_at "";exact no (fun q=>q.2 (by rw[ec,z];rfl)) H (Same.refl _)
 ·rw[decide_eq_false (fun q=>z (e0.mp q))];walk_at "";refine⟨s,rfl,as.all,?_⟩;refine AU fun D nD=>⟨fun j H3=>AccZ K H D H3 ((((cl s).take j).filter (!e_ ·)).map fun c=>Mu ⟨#[c]⟩),AccZ.start (Same.refl _) nD,?_,?_⟩
  ·intro i d H2 hc A us hu
   obtain⟨u0,rfl⟩:∃u0,us=[u0]:=by
    match us,hu with
    |[u0],_=>exact⟨u0,rfl⟩
   have hi:i<s.cps.size:=(Mr.mp hc).1;have ed:(cl s)[i]?=some d:=by rw[MA];exact hc
   walk_at "";refine⟨⟨[some (.str ⟨#[d]⟩)],rfl,rfl⟩,?_⟩;walk_at "";refine⟨_,_,rfl,rfl,?_⟩;rw[Ao,Bool.not_not];cases hd:e_ d with
   |false =>
    refine⟨_,rfl,?_⟩;rw[if_pos (show(!false)=true from rfl)];walk_at "";refine cw hi (A.fu (.str _) (dX ?_) fun H4 A4=>?_)
    ·rw[K9]
     have:=SM (!e_ ·) ((cl s).take i)
     rw[LK] at this;walk_at "om"
    ·show AccZ K H D H4 ((((cl s).take (i+1)).filter (!e_ ·)).map fun c=>Mu ⟨#[c]⟩);rw[LV,ed,P7,Lq,show(some d).toList.filter (!e_ ·)=[d] by simp[hd]];exact A4
   |true =>
    refine⟨_,rfl,?_⟩;rw[if_neg (show ¬ (!true)=true by decide)];refine oU hi ?_;show AccZ K H D H2 ((((cl s).take (i+1)).filter (!e_ ·)).map fun c=>Mu ⟨#[c]⟩);rw[LV,ed,P7,show(some d).toList.filter (!e_ ·)=[] by simp[hd],M9];exact A
  ·intro H2 A;rw[show s.cps.size=(cl s).length from(Tp2.bY s).symm,PB] at A;obtain⟨xs,hD,rx⟩:=A.at_;have lx:xs.length=((cl s).filter (!e_ ·)).length:=by rw[rx.length,K9]
   walk_at "";refine cF (SqL.of hD) ?_;walk_at "";refine k _ H2 A.same ?_;rw[decide_eq_true_eq,lx];constructor
   ·intro q;have q':(cl s).filter (!e_ ·)=[]:=MB.mp (by walk_at "om");refine⟨⟨by rw[ec];simp,fun x hx=>?_⟩,by rw[ec];exact fun w=>z (LD w)⟩
    have:=OU.mp q' x hx
    have t:e_ x=true:=by simpa using this
    unfold e_ at t;obtain⟨t1,t2⟩:=(My _ _).mp t;exact⟨of_decide_eq_true t1,of_decide_eq_true t2⟩
   ·intro q;rw[OU.mpr fun x hx=>?_]
    ·rfl
    ·have:=q.1.2 x hx
     unfold e_;rw[decide_eq_true this.1,decide_eq_true this.2];decide
end Tg
namespace Tg
open PySem L2 Fr G1 Sm Vs Tw Tp2 Tr
open Tr2 (Lt Hs db jr hJ lP rN wS WdOk cU)
open PySem.W (Dat kqdOk)
def tY(K:Fg):Sp:=fun vs H Q _=>∃(s:Str) (m n:Nat),vs=[.str s]/\Asc m n s/\m<=1900/\n<=300/\(∀(p:Addr) (H':Hp) (q d:Int),Same H H'->Rz K H' (.ref p) (dI [q,d])->fT q d->bV q d=s->Q (.ref p) H')/\∀H',Same H H'->(∀q d,fT q d->bV q d≠s)->Q .non H'
theorem He:∀j,(cl ("/":Str))[j]?=some 47->j=0:=fun j h=>by
 have:=(K_.mp h).1
 rw[show(cl ("/":Str)).length=1 by decide +kernel] at this;walk_at "om"
theorem kX(h:fT q d):(d=1/\bz (bV q d) "/"=[bO q])\/(d≠1/\bz (bV q d) "/"=[bO q,bO d]):=by
 have q0:=h.1;have d0:=h.2.1;by_cases z:d=1
 ·refine .inl ⟨z,?_⟩;rw[show bV q d=bO q from if_pos z];exact wC (by decide +kernel) (FO wS (rN (by walk_at "om")))
 ·refine .inr ⟨z,?_⟩;rw[show bV q d=bO q ++ "/" ++ bO d by unfold bV;rw[if_neg z,MO]];exact qe (by decide +kernel) fun k o=>uc wS He (rN (by walk_at "om")) (rN (by walk_at "om")) o
theorem AB(q:Int):Gd.gd q 1=1:=by unfold Gd.gd;rw[Int.gcd_one];rfl
def tF (K:Fg):TS:=(aF (aR (fX K "str" fK (ag 0) (ao (tC (.str "/")) aA)) (aO 1))
 (aF (bq (kF (bg (aE Bh (b_ (cM K) (ao (ag 1) aA)) (tC (.int 2)))) (gb (tB (b_ (uw K) (ao (eI (gY K (ag 1)) (bo (yt K) [] E0 (ao (ag 0) aA))) aA)))))
 (aY (tC .non))
 bp)
 (aF (bq (bg (aE fq (b_ (cM K) (ao (ag 1) aA)) (tC (.int 1))))
 (aY (cV (ao (b_ yY (ao (aE (cy K) (ag 1) (tC (.int 0))) aA)) (ao (tC (.int 1)) aA))))
 bp)
 (aF (aR (cV (ao (b_ yY (ao (aE (cy K) (ag 1) (tC (.int 0))) aA)) (ao (b_ yY (ao (aE (cy K) (ag 1) (tC (.int 1))) aA)) aA))) (aO 2))
 (aF (bq (kF (bg (aE fq (aE (bt K) (ag 2) (tC (.int 1))) (tC (.int 1)))) (bg (aE Bh (bo yx [] E0 (ao (aE (bt K) (ag 2) (tC (.int 0))) (ao (aE (bt K) (ag 2) (tC (.int 1))) aA))) (tC (.int 1)))))
 (aY (tC .non))
 bp)
 (aY (ag 2)))))))
theorem BU{K:Fg}{N:List Str}(hN:N.length=3)(h:tY K vs H Q E):tF K (ends Q) (L2.start N vs) H:=by
 obtain⟨s,m,n,rfl,as,hm,hn,k,kn⟩:=h;rw[L2.cu hN];walk_at "t";have ls:=as.len;have pp:∀q d,fT q d->bV q d=s->(d=1/\bz s "/"=[bO q])\/(d≠1/\bz s "/"=[bO q,bO d]):=fun q d o e=>e ▸ kX o
 have pa:∀p∈bz s "/",Asc m n p:=fun p hp=>as.part hp
 have pb:=fw s "/";have pn:=kY s "/";unfold tF;walk_at "";refine⟨rfl,?_⟩;walk_at "";refine⟨s,"/",rfl,rfl,by decide +kernel,by walk_at "om",as.all,by decide +kernel,fun l nl=>?_⟩;rw[show LW s ("/":Str).length 0 (eQ s "/")=bz s "/" from rfl];generalize bz s "/"=ps at pp pa pb pn ⊢;have hl:upd H l (.lst (ps.map V.str)) l=some (.lst (ps.map V.str)):=aq;have S1:=au nl (.lst (ps.map V.str));generalize upd H l (.lst (ps.map V.str))=H1 at hl S1 ⊢;walk_at "";refine cF (SqL.of hl) ?_;rw[K9];walk_at "";refine bZ (fun z=>?_) (fun z2=>?_)
 ·walk_at ""
  exact kn H1 S1 fun q d o e=>by
   rcases pp q d o e with⟨_,z'⟩|⟨_,z'⟩
   ·rw[z'] at z;simp at z
   ·rw[z'] at z;simp at z
 walk_at "";refine r0 (SqL.of hl) ?_;refine d_ (xs:=ps.map V.str) fun D nD=>⟨fun i H2=>∃bs:List Bool,bs.length=i/\AccZ K H1 D H2 (bs.map O0)/\∀(j:Nat) (b:Bool),bs[j]?=some b->∃p,ps[j]?=some p/\(b=true↔Figz p),⟨[],rfl,AccZ.start (Same.refl _) nD,fun _ _ z=>by cases z⟩,fun i H2 _ ⟨_,_,A,_⟩=>SqL.of (A.same _ _ hl),?_,?_⟩
 ·rintro i y H2 e1 ⟨bs,lb,A,ab⟩;have hi:i<(ps.map V.str).length:=(K_.mp e1).1;rw[Ll] at e1;obtain⟨p,ep,rfl⟩:=Lu.mp e1;rw[K9] at hi;walk_at "";refine⟨p,m,n,rfl,pa p (Li ep),hm,fun b H3 S3 hb=>?_⟩;refine cw (by rw[K9];exact hi) ((A.on S3).fu (.bl b) (dX (by rw[K9];walk_at "om")) fun H4 A4=>⟨bs++[b],by rw[LU,lb];rfl,by rw[Lq];exact A4,fun j b' ej=>?_⟩);by_cases lj:j<bs.length
  ·rw[Mc lj] at ej;exact ab j b' ej
  ·rw[L7 (by walk_at "om")] at ej
   have j0:j-bs.length=0:=by
    have:=(K_.mp ej).1
    rw[Mt] at this;walk_at "om"
   rw[j0] at ej;cases LD ej;exact⟨p,by rw[show j=i by walk_at "om"];exact ep,hb⟩
 ·rintro H2 ⟨bs,lb,A,ab⟩;rw[K9] at lb;have S2:=S1.trans A.same;have WN:=A.same _ _ hl
  have al:bs.all id=true↔∀p∈ps,Figz p:=by
   rw[Mp];constructor
   ·intro q p hp;obtain⟨j,ej⟩:=M6 hp;have lj:j<bs.length:=by rw[lb];exact(K_.mp ej).1
    obtain⟨p',e1,e2⟩:=ab j _ (Ld lj);rw[ej] at e1;cases LD e1;exact e2.mp (q _ (Nb lj))
   ·intro q b hb;obtain⟨j,ej⟩:=M6 hb;obtain⟨p',e1,e2⟩:=ab j b ej;exact e2.mpr (q p' (Li e1))
  walk_at "";refine r_ (AccZ.bls A) ?_;cases V2:bs.all id with
  |false =>
   walk_at "";refine kn H2 S2 fun q d o e=>?_
   obtain⟨q1,d1,rfl,rfl,q0,d0,_⟩:=eS o
   have:bs.all id=true:=al.mpr fun p hp=>by
    rcases pp _ _ o e with⟨_,z'⟩|⟨_,z'⟩
    ·rw[z',Lw] at hp;rw[hp];exact lW q0
    ·rw[z',Lr,Lw] at hp;rcases hp with hp|hp
     ·rw[hp];exact lW q0
     ·rw[hp];exact lW d0
   rw[V2] at this;cases this
  |true =>
   have fz:=al.mp V2;walk_at "";refine cF (SqL.of WN) ?_;rw[K9];walk_at "";refine bZ (fun z=>?_) (fun z1=>?_)
   ·obtain⟨p,rfl⟩:∃p,ps=[p]:=OR.mp (by walk_at "om");have fp:=fz p Lg;have ap:=pa p Lg;obtain⟨r1,r2⟩:=j6 fp.1 ap hn;walk_at "";refine cK (SqL.of WN) (v:=.str p) (ba (j:=0) rfl) ?_;walk_at "";refine⟨_,_,rfl,r1,r2,?_⟩;walk_at "";refine⟨bG,fun o no=>?_⟩;refine k o _ (val p) 1 (S2.trans (au no _)) (.tup aq (RpL.ints [_,_])) ⟨by have:=fp.pos;walk_at "om",by decide,AB _,by have:=vB fp.1 ap hn;walk_at "om",by have:=qk;walk_at "om"⟩ ?_;rw[show bV (val p:Int) 1=bO (val p:Int) from if_pos rfl,fp.back];exact pb
   ·obtain⟨p1,p2,rfl⟩:∃p1 p2,ps=[p1,p2]:=by
     match ps,pn,z1,z2 with
     |[],pn,_,_=>exact absurd rfl pn
     |[_],_,z1,_=>exact absurd rfl z1
     |[p1,p2],_,_,_=>exact⟨p1,p2,rfl⟩
     |_ :: _ :: _ :: r,_,_,z2=>exact absurd (by simp only[LS];walk_at "om") z2
    have f1:=fz p1 Lg;have f2:=fz p2 (Lj _ Lg);have a1:=pa p1 Lg;have a2:=pa p2 (Lj _ Lg);obtain⟨r1,r2⟩:=j6 f1.1 a1 hn;obtain⟨r3,r4⟩:=j6 f2.1 a2 hn;have v1:=vB f1.1 a1 hn;have v2:=vB f2.1 a2 hn;have g1:=f1.pos;have g2:=f2.pos
    have un:∀q d,fT q d->bV q d=s->d≠1/\q=val p1/\d=val p2:=fun q d o e=>by
     obtain⟨q1,d1,rfl,rfl,q0,d0,_⟩:=eS o;rcases pp _ _ o e with⟨_,z'⟩|⟨w,z'⟩
     ·cases z'
     ·rw[MW,MW] at z';rw[z'.1,z'.2.1,iC,iC];exact⟨w,rfl,rfl⟩
    walk_at "";refine cK (SqL.of WN) (v:=.str p1) (ba (j:=0) rfl) ?_;walk_at "";refine⟨_,_,rfl,r1,r2,?_⟩;walk_at "";refine cK (SqL.of WN) (v:=.str p2) (ba (j:=1) rfl) ?_;walk_at "";refine⟨_,_,rfl,r3,r4,?_⟩;walk_at "";refine⟨bG,fun o no=>?_⟩;have ho:upd H2 o (.tup [.int (val p1),.int (val p2)]) o=some (.tup [.int (val p1),.int (val p2)]):=aq;have S3:=S2.trans (au no (.tup [.int (val p1),.int (val p2)]));generalize upd H2 o (.tup [.int (val p1),.int (val p2)])=H3 at ho S3 ⊢;walk_at "";refine bu (SqT.of ho) (v:=.int (val p2)) rfl ?_;walk_at "";refine bZ (fun z=>?_) (fun zd=>?_)
    ·walk_at "";exact kn H3 S3 fun q d o e=>by have:=un q d o e;walk_at "om"
    walk_at "";refine bu (SqT.of ho) (v:=.int (val p1)) rfl ?_;walk_at "";refine bu (SqT.of ho) (v:=.int (val p2)) rfl ?_;walk_at "";refine⟨_,_,rfl,?_⟩;have gp:=Gd.nJ (a:=(val p1:Int)) (b:=(val p2:Int)) (by walk_at "om");walk_at "";refine bZ (fun z=>?_) (fun zg=>?_)
    ·walk_at ""
     exact kn H3 S3 fun q d o e=>by
      obtain⟨_,b1,b2⟩:=un q d o e
      have:=o.2.2.1
      rw[b1,b2] at this;walk_at "om"
    ·walk_at "";refine k o H3 (val p1) (val p2) S3 (.tup ho (RpL.ints [_,_])) ⟨by walk_at "om",by walk_at "om",by walk_at "om",by walk_at "om",by walk_at "om"⟩ ?_;rw[show bV (val p1:Int) (val p2)=bO (val p1:Int) ++ "/" ++ bO (val p2:Int) by unfold bV;rw[if_neg zd,MO],f1.back,f2.back];exact pb
end Tg
namespace Tg
open PySem L2 Fr G1 Sm Vs Tw Tp2 Tr
open Tr2 (Lt Hs db jr hJ WdOk cU Ew Ev Ba Eu)
open PySem.W (Dat kqdOk)
theorem k8:∀{ws:List Str} {h h':List Int},ws.Nodup->(∀w∈ws,Lt w)->bv ws.length h->bv ws.length h'->a8 ws h=a8 ws h'->h=h'
 |[],h,h',_,_,o,o',_=>by rw[MB.mp o.1,MB.mp o'.1]
 |w :: ws,[],_,_,_,o,_,_=>by cases o.1
 |w :: ws,_ :: _,[],_,_,_,o',_=>by cases o'.1
 |w :: ws,n :: h,n' :: h',nd,lt,o,o',e=>by
  rw[Mg] at nd;have on:=o.2 n Lg;have on':=o'.2 n' Lg;have oh:bv ws.length h:=⟨by have:=o.1;rw[LS,LS] at this;walk_at "om",fun x hx=>o.2 x (Lj _ hx)⟩
  have oh':bv ws.length h':=⟨by have:=o'.1;rw[LS,LS] at this;walk_at "om",fun x hx=>o'.2 x (Lj _ hx)⟩
  have un:∀n (h:List Int),a8 (w :: ws) (n :: h)=(if 0<n then some (bF w n) else none).toList++a8 ws h:=fun n h=>by
   unfold a8;rw[Rg,MC];split
   ·rename_i z;rw[z];rfl
   ·rename_i z;rw[z];rfl
  have far:∀n (h:List Int) (r:List Str),0<n->n<=3->bv ws.length h->bF w n :: r≠a8 ws h:=fun n h r n0 n3 oh e=>by
   have m:bF w n∈a8 ws h:=by rw[<- e];exact Lg
   obtain⟨q,hq,eq⟩:=MS.mp m;obtain⟨m1,m2⟩:=Nk (a:=q.1) (b:=q.2) hq;by_cases z:0<q.2
   ·rw[if_pos z] at eq
    have:=(iG (lt _ (Lj _ m1)) (lt w Lg) z (oh.2 _ m2).2 n0 n3 (LD eq)).1
    exact nd.1 (this ▸ m1)
   ·rw[if_neg z] at eq;cases eq
  rw[un,un] at e;by_cases z:0<n
  ·by_cases z':0<n'
   ·rw[if_pos z,if_pos z'] at e;have e':bF w n :: a8 ws h=bF w n' :: a8 ws h':=e;rw[MW] at e';rw[(iG (lt w Lg) (lt w Lg) z on.2 z' on'.2 e'.1).2,k8 nd.2 (fun x hx=>lt x (Lj _ hx)) oh oh' e'.2]
   ·rw[if_pos z,if_neg z'] at e;exact absurd e (far n h' _ z on.2 oh')
  ·by_cases z':0<n'
   ·rw[if_neg z,if_pos z'] at e;exact absurd e.symm (far n' h _ z' on'.2 oh)
   ·rw[if_neg z,if_neg z'] at e;rw[show n=n' by walk_at "om",k8 nd.2 (fun x hx=>lt x (Lj _ hx)) oh oh' e]
theorem mY(ow:WdOk ws) (oh:bv ws.length h) (e:bP ws h = "0"):a8 ws h=[]:=by
 by_cases ne:a8 ws h=[]
 ·exact ne
 ·have e2:=kZ ow oh;rw[e,wC (by decide +kernel) (EW (c:=43) (o:=1) (by decide +kernel) (by decide +kernel))] at e2;unfold Tr2.dy at e2;rw[if_neg ne,Na] at e2;have m:("0":Str)∈(Tr2.pz ws h).map ((·.1)∘fun p=>(bF p.1 p.2,p.1,p.2)):=by rw[<- e2];exact Lg
  obtain⟨q,hq,eq⟩:=Lm.mp m;have hz:=(M7.mp hq).1;have q0:=of_decide_eq_true (M7.mp hq).2;obtain⟨m1,m2⟩:=Nk (a:=q.1) (b:=q.2) hz;have s0:bF q.1 q.2 = "0":=eq;have lw:=(ow.2.2 _ m1).1;rcases three q0 (oh.2 _ m2).2 with z|z|z
  ·rw[z,iH] at s0
   have:=lw 48 (by rw[s0];decide +kernel)
   walk_at "om"
  ·rw[z,jA] at s0
   have:=congrArg cl s0
   rw[bK,show cl ("2 ":Str)=[50,32] by decide +kernel,show cl ("0":Str)=[48] by decide +kernel] at this;cases this
  ·rw[z,jy] at s0
   have:=congrArg cl s0
   rw[bK,show cl ("3 ":Str)=[51,32] by decide +kernel,show cl ("0":Str)=[48] by decide +kernel] at this;cases this
theorem wo(ow:WdOk ws)(o:bv ws.length h)(o':bv ws.length h')(e:bP ws h=bP ws h'):h=h':=by
 refine k8 ow.1 ow.lt o o' ?_;by_cases z:bP ws h' = "0"
 ·rw[mY ow o' z,mY ow o (e.trans z)]
 ·rw[ju ow o e z,ju ow o' rfl z]
theorem pT{a b:Nat}(h:bO (a:Int)=bO (b:Int)):a=b:=by rw[<- iC a,h,iC]
theorem Cv(o:fT q d)(o':fT q' d')(e:bV q d=bV q' d'):q=q'/\d=d':=by
 have h:=kX o;have h':=kX o';rw[e] at h;obtain⟨a,b,rfl,rfl,_⟩:=eS o;obtain⟨a',b',rfl,rfl,_⟩:=eS o';rcases h with⟨z,h⟩|⟨z,h⟩ <;> rcases h' with⟨z',h'⟩|⟨z',h'⟩ <;> rw[h] at h'
 ·rw[pT (MK h').1];exact⟨rfl,z.trans z'.symm⟩
 ·exact absurd (congrArg Oo h') (by simp)
 ·exact absurd (congrArg Oo h') (by simp)
 ·rw[MW,MW] at h';rw[pT h'.1,pT h'.2.1];exact⟨rfl,rfl⟩
theorem Bp(ow:WdOk ws)(o:i9 ws t)(o':i9 ws t')(e:cf ws t=cf ws t'):t=t':=by
 rw[cU,cU] at e;have n45:∀{u:Tn},i9 ws u->45∉cl (bP ws u.fr):=fun o z=>by have:=db ow.lt o.1.2 45 z;walk_at "om"
 have n64:∀{u:Tn},i9 ws u->64∉cl (bP ws u.to):=fun o z=>by have:=db ow.lt o.2.1.2 64 z;walk_at "om"
 obtain⟨e1,e2⟩:=qh e (nL Ew Ev (n45 o) (by decide)) (nL Ew Ev (n45 o') (by decide));obtain⟨e3,e4⟩:=qh e2 (nL Ba Eu (n64 o) (by decide)) (nL Ba Eu (n64 o') (by decide));obtain⟨e5,e6⟩:=Cv o.2.2 o'.2.2 e4;exact DJ (wo ow o.1 o'.1 e1) (wo ow o.2.1 o'.2.1 e3) e5 e6
theorem zt(h:fT q d):∀c∈cl (bV q d),47<=c/\c<=57:=by
 obtain⟨a,b,rfl,rfl,_⟩:=eS h;intro c hc;unfold bV at hc;split at hc
 ·have:=hJ a c hc;walk_at "om"
 ·rw[MO,bK,bK] at hc;rcases L5.mp hc with z|z
  ·rcases L5.mp z with z|z
   ·have:=hJ a c z;walk_at "om"
   ·rw[show cl ("/":Str)=[47] by decide +kernel,Lw] at z;walk_at "om"
  ·have:=hJ b c z;walk_at "om"
theorem rj(ow:WdOk ws) (o:i9 ws t):bz (cf ws t) " @ "=[bP ws t.fr ++ " -> " ++ bP ws t.to,bV t.q t.d]/\bz (bP ws t.fr ++ " -> " ++ bP ws t.to) " -> "=[bP ws t.fr,bP ws t.to]:=by
 have ca:cl (" -> ":Str)=[32,45,62,32]:=by decide +kernel
 have cb:cl (" @ ":Str)=[32,64,32]:=by decide +kernel
 have n1:∀c,c=62\/c=64->c∉cl (bP ws t.fr):=fun c hc z=>by have:=db ow.lt o.1.2 c z;walk_at "om"
 have n2:∀c,c=62\/c=64->c∉cl (bP ws t.to):=fun c hc z=>by have:=db ow.lt o.2.1.2 c z;walk_at "om"
 have n3:64∉cl (bV t.q t.d):=fun z=>by have:=zt o.2.2 64 z;walk_at "om"
 constructor
 ·rw[cU,show bP ws t.fr ++ " -> " ++ (bP ws t.to ++ " @ " ++ bV t.q t.d)=(bP ws t.fr ++ " -> " ++ bP ws t.to) ++ " @ " ++ bV t.q t.d by simp only[Qw]];refine qe (by decide +kernel) fun k h=>uc (c:=64) (o:=1) (by rw[cb];rfl) (fun j hj=>?_) (fun z=>?_) n3 h
  ·rw[cb] at hj
   match j,hj with
   |0,hj=>cases hj
   |1,_=>rfl
   |2,hj=>cases hj
  ·rw[bK,bK,ca] at z;rcases L5.mp z with z|z
   ·rcases L5.mp z with z|z
    ·exact n1 64 (.inr rfl) z
    ·revert z;decide
   ·exact n2 64 (.inr rfl) z
 ·refine qe (by decide +kernel) fun k h=>uc (c:=62) (o:=2) (by rw[ca];rfl) (fun j hj=>?_) (n1 62 (.inl rfl)) (n2 62 (.inl rfl)) h
  rw[ca] at hj
  match j,hj with
  |0,hj=>cases hj
  |1,hj=>cases hj
  |2,_=>rfl
  |3,hj=>cases hj
def tS(K:Fg):Sp:=fun vs H Q _=>∃(a:Addr) (s:Str) (ws:List Str) (m n:Nat),vs=[.ref a,.str s]/\H a=some (.lst (ws.map V.str))/\WdOk ws/\Asc m n s/\m<=1900/\n<=300/\(∀(p:Addr) (H':Hp) (t:Tn),Same H H'->Rz K H' (.ref p) (dT t)->i9 ws t->cf ws t=s->Q (.ref p) H')/\∀H',Same H H'->(∀t,i9 ws t->cf ws t≠s)->Q .non H'
def OHp(K:Fg)(ws:List Str)(H:Hp)(v:V)(s:Str):Prop:=(∃(p:Addr) (h:List Int),v=.ref p/\Rz K H v (dI h)/\bv ws.length h/\bP ws h=s)\/(v=.non/\∀h,bv ws.length h->bP ws h≠s)
theorem OHp.same{K:Fg}(h:OHp K ws H v s)(S:Same H H'):OHp K ws H' v s:=h.imp (fun⟨p,h,e,r,z⟩=>⟨p,h,e,r.same S,z⟩) id
def K6(K:Fg)(H:Hp)(v:V)(s:Str):Prop:=(∃(p:Addr) (q d:Int),v=.ref p/\Rz K H v (dI [q,d])/\fT q d/\bV q d=s)\/(v=.non/\∀q d,fT q d->bV q d≠s)
theorem DI{ps:List Str}(h:ps.length=2):∃a b,ps=[a,b]:=by
 match ps,h with
 |[a,b],_=>exact⟨a,b,rfl⟩
def sZ (K:Fg):TS:=(aF (aR (fX K "str" fK (ag 1) (ao (tC (.str " @ ")) aA)) (aO 2))
 (aF (bq (kF (bg (aE w4 (b_ (cM K) (ao (ag 2) aA)) (tC (.int 2)))) (bg (aE w4 (b_ (cM K) (ao (fX K "str" fK (aE (cy K) (ag 2) (tC (.int 0))) (ao (tC (.str " -> ")) aA)) aA)) (tC (.int 2)))))
 (aY (tC .non))
 bp)
 (aF (aR (fX K "str" fK (aE (cy K) (ag 2) (tC (.int 0))) (ao (tC (.str " -> ")) aA)) (aO 3))
 (aF (aR (bo (kJ K) [] E0 (ao (ag 0) (ao (aE (cy K) (ag 3) (tC (.int 0))) aA))) (aO 4))
 (aF (aR (bo (kJ K) [] E0 (ao (ag 0) (ao (aE (cy K) (ag 3) (tC (.int 1))) aA))) (aO 5))
 (aF (aR (bo (tY K) [] E0 (ao (aE (cy K) (ag 2) (tC (.int 1))) aA)) (aO 6))
 (aF (bq (kF (bg (aE jk (ag 4) (tC .non))) (kF (bg (aE jk (ag 5) (tC .non))) (bg (aE jk (ag 6) (tC .non)))))
 (aY (tC .non))
 bp)
 (aY (cV (ao (ag 4) (ao (ag 5) (ao (ag 6) aA))))))))))))
theorem BN{K:Fg}{N:List Str}(hN:N.length=7)(h:tS K vs H Q E):sZ K (ends Q) (L2.start N vs) H:=by
 obtain⟨a,s,ws,m,n,rfl,ha,ow,as,hm,hn,k,kn⟩:=h;rw[L2.cu hN];walk_at "t";have ls:=as.len;have wr:∀t,i9 ws t->cf ws t=s->bz s " @ "=[bP ws t.fr ++ " -> " ++ bP ws t.to,bV t.q t.d]:=fun t o e=>e ▸ (rj ow o).1
 have pa:∀p∈bz s " @ ",Asc m n p:=fun p hp=>as.part hp
 have pb:=fw s " @ ";unfold sZ;walk_at "";refine⟨rfl,?_⟩;walk_at "";refine⟨s," @ ",rfl,rfl,by decide +kernel,by walk_at "om",as.all,by decide +kernel,fun l nl=>?_⟩;rw[show LW s (" @ ":Str).length 0 (eQ s " @ ")=bz s " @ " from rfl];generalize bz s " @ "=ps at wr pa pb ⊢;have hl:upd H l (.lst (ps.map V.str)) l=some (.lst (ps.map V.str)):=aq;have S1:=au nl (.lst (ps.map V.str));generalize upd H l (.lst (ps.map V.str))=H1 at hl S1 ⊢;walk_at "";refine cF (SqL.of hl) ?_;rw[K9];walk_at "";by_cases z2:ps.length=2
 ·rw[decide_eq_true (show((ps.length:Nat):Int)=2 by walk_at "om")];obtain⟨h0,h1,rfl⟩:=DI z2;have a0:=pa h0 Lg;have a1:=pa h1 (Lj _ Lg);have l0:=a0.len
  have ZY:∀t,i9 ws t->cf ws t=s->bz h0 " -> "=[bP ws t.fr,bP ws t.to]/\h1=bV t.q t.d:=fun t o e=>by
   have:=wr t o e
   rw[MW,MW] at this;rw[this.1];exact⟨(rj ow o).2,this.2.1⟩
  have qa:∀p∈bz h0 " -> ",Asc m n p:=fun p hp=>a0.part hp
  have qb:=fw h0 " -> ";walk_at "";refine cK (SqL.of hl) (v:=.str h0) (ba (j:=0) rfl) ?_;refine⟨rfl,?_⟩;walk_at "";refine⟨h0," -> ",rfl,rfl,by decide +kernel,by walk_at "om",a0.all,by decide +kernel,fun l2 nl2=>?_⟩;rw[show LW h0 (" -> ":Str).length 0 (eQ h0 " -> ")=bz h0 " -> " from rfl];have S2:=au nl2 (.lst ((bz h0 " -> ").map V.str));walk_at "";refine cF (SqL.of aq) ?_;generalize upd H1 l2 (.lst ((bz h0 " -> ").map V.str))=H2 at S2 ⊢;rw[K9];walk_at "";by_cases y2:(bz h0 " -> ").length=2
  ·rw[decide_eq_true (show(((bz h0 " -> ").length:Nat):Int)=2 by walk_at "om")];walk_at "";refine cK (SqL.of (S2 _ _ hl)) (v:=.str h0) (ba (j:=0) rfl) ?_;refine⟨rfl,?_⟩;walk_at "";refine⟨h0," -> ",rfl,rfl,by decide +kernel,by walk_at "om",a0.all,by decide +kernel,fun l3 nl3=>?_⟩;rw[show LW h0 (" -> ":Str).length 0 (eQ h0 " -> ")=bz h0 " -> " from rfl];generalize bz h0 " -> "=qs at ZY qa qb y2 ⊢;obtain⟨d0,d1,rfl⟩:=DI y2;have b0:=qa d0 Lg;have b1:=qa d1 (Lj _ Lg);have hl3:upd H2 l3 (.lst ([d0,d1].map V.str)) l3=some (.lst ([d0,d1].map V.str)):=aq;have S3:=au nl3 (.lst ([d0,d1].map V.str));have S13:=S1.trans (S2.trans S3);have hl':=(S2.trans S3) _ _ hl;generalize upd H2 l3 (.lst ([d0,d1].map V.str))=H3 at hl3 S3 S13 hl' ⊢
   have rest:∀(H6:Hp) (v4 v5 v6:V) (σ:St),Same H H6->OHp K ws H6 v4 d0->OHp K ws H6 v5 d1->K6 K H6 v6 h1->σ=[some (.ref a),some (.str s),some (.ref l),some (.ref l3),some v4,some v5,some v6] ->
     (aF (bq (kF (bg (aE jk (ag 4) (tC .non))) (kF (bg (aE jk (ag 5) (tC .non))) (bg (aE jk (ag 6) (tC .non)))))
      (aY (tC .non))
      bp)
      (aY (cV (ao (ag 4) (ao (ag 5) (ao (ag 6) aA)))))) (ends Q) σ H6:=by
    rintro H6 v4 v5 v6 σ S6 o4 o5 o6 rfl;walk_at "";rcases o4 with⟨p4,g4,rfl,r4,k4,e4⟩|⟨rfl,n4⟩
    ·rw[decide_eq_false (fun z:V.ref p4=V.non=>by cases z)];walk_at "";rcases o5 with⟨p5,g5,rfl,r5,k5,e5⟩|⟨rfl,n5⟩
     ·rw[decide_eq_false (fun z:V.ref p5=V.non=>by cases z)];walk_at "";rcases o6 with⟨p6,q,d,rfl,r6,k6,e6⟩|⟨rfl,n6⟩
      ·rw[decide_eq_false (fun z:V.ref p6=V.non=>by cases z)];walk_at "";refine⟨dS,fun p7 np7=>?_⟩;have S7:=au np7 (.tup [.ref p4,.ref p5,.ref p6]);refine k p7 _ ⟨g4,g5,q,d⟩ (S6.trans S7) (.tup aq (.cons (r4.same S7) (.cons (r5.same S7) (.cons (r6.same S7) .nil)))) ⟨k4,k5,k6⟩ ?_;rw[cU];show bP ws g4 ++ " -> " ++ (bP ws g5 ++ " @ " ++ bV q d)=s;rw[e4,e5,e6,<- pb];show d0 ++ " -> " ++ (d1 ++ " @ " ++ h1)=h0 ++ " @ " ++ h1;rw[<- qb];show d0 ++ " -> " ++ (d1 ++ " @ " ++ h1)=d0 ++ " -> " ++ d1 ++ " @ " ++ h1;simp only[Qw]
      ·walk_at "";exact kn H6 S6 fun t o e=>n6 _ _ o.2.2 (ZY t o e).2.symm
     ·walk_at "";exact kn H6 S6 fun t o e=>n5 _ o.2.1 (by have:=(ZY t o e).1;rw[MW,MW] at this;exact this.2.1.symm)
    ·walk_at "";exact kn H6 S6 fun t o e=>n4 _ o.1 (by have:=(ZY t o e).1;rw[MW,MW] at this;exact this.1.symm)
   have heap:∀(H4:Hp) (dd:Str) (Q':VK),Same H H4->Asc m n dd->(∀v H',Same H4 H'->OHp K ws H' v dd->Q' v H')->kJ K [.ref a,.str dd] H4 Q' E0:=fun H4 dd Q' S4 ad k'=>⟨a,dd,ws,m,n,rfl,S4 _ _ ha,ow,ad,hm,fun p H' h S r o e=>k' _ H' S (.inl ⟨p,h,rfl,r,o,e⟩),fun H' S no=>k' _ H' S (.inr ⟨rfl,no⟩)⟩
   walk_at "";refine cK (SqL.of hl3) (v:=.str d0) (ba (j:=0) rfl) ?_;walk_at "";refine heap H3 d0 _ S13 b0 fun v4 H4 S4 o4=>?_
   walk_at "";refine cK (SqL.of (S4 _ _ hl3)) (v:=.str d1) (ba (j:=1) rfl) ?_;walk_at "";refine heap H4 d1 _ (S13.trans S4) b1 fun v5 H5 S5 o5=>?_
   walk_at "";refine cK (SqL.of ((S4.trans S5) _ _ hl')) (v:=.str h1) (ba (j:=1) rfl) ?_;walk_at "";refine⟨h1,m,n,rfl,a1,hm,hn,fun p H6 q d S6 r6 pg e6=>?_,fun H6 S6 no=>?_⟩
   ·exact rest H6 v4 v5 _ _ (S13.trans (S4.trans (S5.trans S6))) ((o4.same S5).same S6) (o5.same S6) (.inl ⟨p,q,d,rfl,r6,pg,e6⟩) rfl
   ·exact rest H6 v4 v5 _ _ (S13.trans (S4.trans (S5.trans S6))) ((o4.same S5).same S6) (o5.same S6) (.inr ⟨rfl,no⟩) rfl
  ·rw[decide_eq_false (show ¬ (((bz h0 " -> ").length:Nat):Int)=2 by walk_at "om")];walk_at "";exact kn H2 (S1.trans S2) fun t o e=>y2 (by rw[(ZY t o e).1];rfl)
 ·rw[decide_eq_false (show ¬ ((ps.length:Nat):Int)=2 by walk_at "om")];walk_at "";exact kn H1 S1 fun t o e=>z2 (by rw[wr t o e];rfl)
end Tg
namespace Tg
open PySem L2 Fr G1 Sm Vs Tw Tp2 Tr
open Tr2 (WdOk)
open PySem.W (Dat kqdOk)
def yy(K:Fg):Sp:=fun vs H Q _=>∃(a:Addr) (s:Str) (ws:List Str) (c e:Int) (m n:Nat),vs=[.ref a,.str s,.int c,.int e]/\H a=some (.lst (ws.map V.str))/\ws≠[]/\(∀w∈ws,Asc 8 0 w)/\Asc m n s/\m<=600/\∀(z:Str) (H':Hp),Same H H'->Asc (3*m+40) (3*n+8) z->Q (.str z) H'
theorem GJ{c:Nat}(h:c<128):Asc 1 1 ⟨#[c]⟩:=by
 refine Asc.of (fun x hx=>?_) (Lf 1) ?_
 ·rw[Lw.mp (show x∈[c] from hx)];exact h
 ·show([c]:List Nat).countP e_<=1;exact SN
theorem Bb{c:Nat}(h:∀c∈cl s,c<128)(e:i8 s.cps.toList i=some c):c<128:=h c (by
 unfold i8 at e
 obtain⟨j,_,e2⟩:=N1.mp e
 exact Li e2)
theorem Jc{xs:List V}{i:Int}(h0:0<=i)(h1:i<xs.length):∃v∈xs,i8 xs i=some v:=by
 obtain⟨j,rfl⟩:=ON h0;have l:j<xs.length:=by walk_at "om"
 exact⟨_,Nb l,ba (Ld l)⟩
theorem A_{z:Str}{i:Int}(h0:0<=i)(h1:i<z.length):∃c,i8 z.cps.toList i=some c:=by
 obtain⟨j,rfl⟩:=ON h0;have l:j<z.cps.toList.length:=by rw[show z.cps.toList.length=z.length from Tp2.bY z];walk_at "om"
 exact⟨_,ba (Ld l)⟩
theorem sI{zs:List Str}(h:∀z∈zs,Asc m n z){i:Int}(h0:0<=i)(h1:i<zs.length):∃z,i8 (zs.map V.str) i=some (.str z)/\Asc m n z:=by
 obtain⟨v,hv,e⟩:=Jc (xs:=zs.map V.str) h0 (by rw[K9];exact h1);obtain⟨z,hz,rfl⟩:=Lm.mp hv;exact⟨z,e,h z hz⟩
theorem EU{l:List Str}{b:Nat}(h:∀p∈l,p.length<=b):(l.map (·.length)).sum<=l.length*b:=by
 induction l with
 |nil=>simp
 |cons a r ih =>
  have h1:=h a Lg;have h2:=ih fun p hp=>h p (Lj _ hp)
  simp only[LP,QD,LS,Nat.succ_mul];walk_at "om"
theorem yP{K:Fg} {H:Hp} {Q:VK}    (az:Asc m n z) (hm:m<=600) (hp:H p=some (.lst ((bz z " + ").map V.str).reverse)) (k:∀y,Asc m n y->Q (.str y) H):kW K (.str " + ") [.ref p] H Q:=by
 rw[<- UX] at hp
 have ln:(bz z " + ").length<=602:=by
  have:=qf (z:=z) (y:=" + ") (by decide +kernel)
  have:=az.len
  show(LW z _ 0 (eQ z " + ")).length<=_;rw[iR];walk_at "om"
 have sl:=EU (l:=(bz z " + ").reverse) (b:=600) fun p hp=>Mh (az.part (UN.mp hp)).len hm
 rw[PL] at sl;refine Ag (SqL.of hp) ?_ ?_
 ·rw[PL,F3];walk_at "om"
 ·rw[Tr2.iE];exact k _ az.back
theorem GK:Asc 0 0 ("":Str):=Asc.of (by decide +kernel) (by decide +kernel) (by decide +kernel)
def tM(K:Fg):TS:=(aF (bq (bg (aE uq (aE bB (ag 2) (tC (.int 12))) (tC (.int 2))))
 (aY (aE cZ (aE cZ (jb iM (ag 1) bT (dA (ag 4))) (ag 6)) (jb iM (ag 1) (dA (aE bW (ag 4) (aE bB (ag 2) (tC (.int 12))))) bT)))
 bp)
 (aF (bq (bg (aE uq (aE bB (ag 2) (tC (.int 12))) (tC (.int 4))))
 (aY (aE cZ (jb iM (ag 1) bT (dA (ag 4))) (aE (cy K) (cW (ao (tC (.str "")) (ao (jb iM (ag 1) (dA (aE bW (ag 4) (tC (.int 1)))) bT) aA))) (b_ ur (ao (aE fq (aE bB (ag 2) (tC (.int 12))) (tC (.int 2))) aA)))))
 bp)
 (aF (aR (fX K "str" uu (ag 1) (ao (tC (.str " -> ")) aA)) (aO 7))
 (aF (aR (aE (cy K) (ag 0) (aE bB (ag 3) (b_ (cM K) (ao (ag 0) aA)))) (aO 8))
 (aF (bq (bg (aE fq (aE bB (ag 2) (tC (.int 12))) (tC (.int 4))))
 (aY (aE cZ (fX K "str" (kW K) (tC (.str " + ")) (ao (yd K (fX K "str" fK (jb iM (ag 1) bT (dA (ag 7))) (ao (tC (.str " + ")) aA)) (DK (rU fun i=>.int (-i)) (tC (.int 1)))) aA)) (jb iM (ag 1) (dA (ag 7)) bT)))
 bp)
 (aF (bq (bg (aE fq (aE bB (ag 2) (tC (.int 12))) (tC (.int 5))))
 (aF (aR (fX K "str" fK (jb iM (ag 1) (dA (aE bW (ag 7) (tC (.int 4)))) (dA (fX K "str" uu (ag 1) (ao (tC (.str " @ ")) aA)))) (ao (tC (.str " + ")) aA)) (aO 9))
 (aY (aE cZ (aE cZ (jb iM (ag 1) bT (dA (aE bW (ag 7) (tC (.int 4))))) (fX K "str" (kW K) (tC (.str " + ")) (ao (yd K (ag 9) (DK (rU fun i=>.int (-i)) (tC (.int 1)))) aA))) (jb iM (ag 1) (dA (fX K "str" uu (ag 1) (ao (tC (.str " @ ")) aA))) bT))))
 bp)
 (aF (aR (aE (cy K) (cW (ao (tC (.str "2/4")) (ao (tC (.str "0")) (ao (tC (.str "3/1")) (ao (tC (.str "01")) (ao (tC (.str "1/0")) (ao (tC (.str "2/03")) (ao (tC (.str "1/2/3")) (ao (tC (.str "-1")) (ao (tC (.str "1_0")) (ao (tC (.str "")) (ao (tC (.str "0/3")) (ao (tC (.str "+2")) aA))))))))))))) (aE bB (aE ft (ag 2) (tC (.int 12))) (tC (.int 12)))) (aO 10))
 (aF (bq (bg (aE uq (aE bB (ag 2) (tC (.int 12))) (tC (.int 7))))
 (aY (aE cZ (jb iM (ag 1) bT (dA (aE bW (fX K "str" uu (ag 1) (ao (tC (.str "@")) aA)) (tC (.int 2))))) (ag 10)))
 bp)
 (aF (aR (aE (cy K) (cW (ao (tC (.str "1 ")) (ao (tC (.str "0 ")) (ao (tC (.str "4 ")) (ao (aE cZ (ag 8) (tC (.str " + "))) (ao (tC (.str "0 + ")) (ao (tC (.str "02 ")) aA))))))) (aE bB (aE ft (ag 2) (tC (.int 12))) (tC (.int 6)))) (aO 11))
 (aF (aR (aE (cy K) (cW (ao (aE cZ (ag 11) (ag 8)) (ao (aE cZ (ag 8) (tC (.str "q"))) (ao (tC (.str "")) (ao (aE cZ (ag 8) (tC (.str " + 0"))) aA))))) (aE (rI CMul fun i j=>.int (i*j)) (b_ ur (ao (aE Bh (aE bB (aE ft (ag 2) (tC (.int 12))) (tC (.int 8))) (tC (.int 4))) aA)) (aE bW (tC (.int 1)) (aE bB (ag 3) (tC (.int 3)))))) (aO 12))
 (aF (bq (bg (aE uq (aE bB (ag 2) (tC (.int 12))) (tC (.int 10))))
 (aY (aE cZ (ag 12) (jb iM (ag 1) (dA (ag 7)) bT)))
 bp)
 (aY (aE cZ (aE cZ (jb iM (ag 1) bT (dA (aE bW (ag 7) (tC (.int 4))))) (ag 12)) (jb iM (ag 1) (dA (fX K "str" uu (ag 1) (ao (tC (.str " @ ")) aA))) bT))))))))))))))
theorem vN{K:Fg}{H:Hp}{Q:VK}{ws:List Str}{d:Nat}(ha:H a=some (.lst (ws.map V.str)))(Yz:ws≠[])(wa:∀w∈ws,Asc 8 0 w)(as:Asc m n s)(hm:m<=600)(hd:d<128)(k:∀(z:Str) (H':Hp),Same H H'->Asc (3*m+40) (3*n+8) z->Q (.str z) H') :
  tM K (ends Q) [some (.ref a),some (.str s),some (.int c),some (.int e),some (.int g),some (.str S),some (.str ⟨#[d]⟩),none,none,none,none,none,none] H:=by
 have ls:=as.len;have sz:=szL;have sl:∀lo hi,(Ob s lo hi).length<=600:=fun lo hi=>Mh (as.slice lo hi).len hm
 have one:=GJ hd;have l1:=one.len;have w0:0<ws.length:=OH.mpr Yz;unfold tM;walk_at "";refine bZ (fun z=>?_) (fun z=>?_)
 ·walk_at "";refine⟨s,rfl,by walk_at "om",?_⟩;walk_at "";refine cx (by have:=sl none (some g);walk_at "om") ?_;walk_at "";refine⟨s,rfl,by walk_at "om",?_⟩;refine cx (by rw[LC];have:=sl none (some g);have:=sl (some (g+c % 12)) none;walk_at "om") ?_;exact k _ H (Same.refl _) ((((as.slice _ _).app one).app (as.slice _ _)).more (by walk_at "om") (by walk_at "om"))
 walk_at "";refine bZ (fun z=>?_) (fun z=>?_)
 ·walk_at "";refine⟨s,rfl,by walk_at "om",?_⟩;walk_at "";refine⟨s,rfl,by walk_at "om",?_⟩;walk_at "";refine⟨bG,fun q nq=>?_⟩;have Sq:=au nq (.lst [V.str "",.str (Ob s (some (g+1)) none)]);walk_at ""
  obtain⟨v,ev,av⟩:=sI (zs:=["",Ob s (some (g+1)) none]) (m:=m) (n:=n) (fun z hz=>by
   rcases Lr.mp hz with rfl|hz
   ·exact GK.more (by walk_at "om") (by walk_at "om")
   ·rw[Lw.mp hz];exact as.slice _ _) (i:=if decide (c % 12=2)=true then 1 else 0) (by split <;> decide) (by show _<((2:Nat):Int);split <;> decide)
  refine cK (SqL.of aq) ev ?_;refine cx (by have:=sl none (some g);have:=av.len;walk_at "om") ?_;exact k _ _ Sq (((as.slice _ _).app av).more (by walk_at "om") (by walk_at "om"))
 walk_at "";refine⟨rfl,?_⟩;walk_at "";refine⟨s," -> ",rfl,rfl,?_⟩;generalize SX s " -> "=f;walk_at "";refine cF (SqL.of ha) ?_;rw[K9];refine⟨_,_,rfl,rfl,by walk_at "om",?_⟩;obtain⟨w,ew,aw⟩:=sI wa (i:=e % (ws.length:Int)) (No _ (by walk_at "om")) (MT _ (by walk_at "om"));have lw:=aw.len;refine cK (SqL.of ha) ew ?_;walk_at "";refine bZ (fun z=>?_) (fun z4=>?_)
 ·walk_at "";refine⟨rfl,?_⟩;walk_at "";unfold yd;walk_at "";refine⟨s,rfl,by walk_at "om",?_⟩;have a1:=as.slice none (some f);have b1:=a1.len;generalize Ob s none (some f)=s1 at a1 b1 ⊢;refine⟨rfl,?_⟩;walk_at "";refine⟨s1," + ",rfl,rfl,by decide +kernel,by walk_at "om",a1.all,by decide +kernel,fun p np=>?_⟩;rw[show LW s1 (" + ":Str).length 0 (eQ s1 " + ")=bz s1 " + " from rfl];have S1:=au np (.lst ((bz s1 " + ").map V.str));walk_at "";refine⟨p,_,rfl,rfl,SqL.of aq,fun p2 WQ=>?_⟩;have S2:=S1.trans (au WQ (.lst ((bz s1 " + ").map V.str).reverse));walk_at "";refine yP a1 hm aq fun y ay=>?_
  have ly:=ay.len;walk_at "";refine⟨s,rfl,by walk_at "om",?_⟩
  have:=sl (some f) none
  refine cx (by walk_at "om") ?_;exact k _ _ S2 ((ay.app (as.slice _ _)).more (by walk_at "om") (by walk_at "om"))
 walk_at "";refine bZ (fun z=>?_) (fun z5=>?_)
 ·walk_at "";refine⟨rfl,?_⟩;walk_at "";refine⟨s," @ ",rfl,rfl,_,rfl,?_⟩;generalize hg:SX s " @ "=f2;refine⟨s,rfl,by walk_at "om",?_⟩;have a1:=as.slice (some (f+4)) (some f2);have b1:=a1.len;generalize Ob s (some (f+4)) (some f2)=s1 at a1 b1 ⊢;refine⟨rfl,?_⟩;walk_at "";refine⟨s1," + ",rfl,rfl,by decide +kernel,by walk_at "om",a1.all,by decide +kernel,fun p np=>?_⟩;rw[show LW s1 (" + ":Str).length 0 (eQ s1 " + ")=bz s1 " + " from rfl];have hp:upd H p (.lst ((bz s1 " + ").map V.str)) p=some (.lst ((bz s1 " + ").map V.str)):=aq;have S1:=au np (.lst ((bz s1 " + ").map V.str));generalize upd H p (.lst ((bz s1 " + ").map V.str))=H1 at hp S1 ⊢;walk_at "";refine⟨s,rfl,by walk_at "om",?_⟩;walk_at "";refine⟨rfl,?_⟩;walk_at "";unfold yd;walk_at "";refine⟨p,_,rfl,rfl,SqL.of hp,fun p2 WQ=>?_⟩;have S2:=S1.trans (au WQ (.lst ((bz s1 " + ").map V.str).reverse));walk_at "";refine yP a1 hm aq fun y ay=>?_
  have ly:=ay.len;have s2:=sl none (some (f+4));refine cx (by walk_at "om") ?_;walk_at "";refine⟨rfl,?_⟩;walk_at "";refine⟨s," @ ",rfl,rfl,_,rfl,?_⟩;rw[hg];refine⟨s,rfl,by walk_at "om",?_⟩;have s3:=sl (some f2) none;refine cx (by rw[LC];walk_at "om") ?_;exact k _ _ S2 ((((as.slice _ _).app ay).app (as.slice _ _)).more (by walk_at "om") (by walk_at "om"))
 walk_at "";refine⟨BB,fun q nq=>?_⟩
 obtain⟨pc,epc,apc⟩:=sI (zs:=["2/4","0","3/1","01","1/0","2/03","1/2/3","-1","1_0","","0/3","+2"]) (m:=5) (n:=5) (fun z hz=>by
  have:∀z∈(["2/4","0","3/1","01","1/0","2/03","1/2/3","-1","1_0","","0/3","+2"]:List Str),cnt mW z=0/\cnt (fun _=>true) z<=5/\cnt e_ z<=5:=by decide +kernel
  exact⟨(this z hz).1,(this z hz).2.1,(this z hz).2.2⟩) (i:=c / 12 % 12) (by walk_at "om") (by show _<((12:Nat):Int);walk_at "om")
 have lpc:=apc.len;walk_at "";refine cK (SqL.of aq) epc ?_;have Sq:=au nq (.lst ((["2/4","0","3/1","01","1/0","2/03","1/2/3","-1","1_0","","0/3","+2"]:List Str).map V.str));have Z6:=Sq _ _ ha;show _;generalize hH:upd H q _=H1;rw[show upd H q (.lst ((["2/4","0","3/1","01","1/0","2/03","1/2/3","-1","1_0","","0/3","+2"]:List Str).map V.str))=H1 from hH] at Sq Z6;clear hH;walk_at "";refine bZ (fun z=>?_) (fun z7=>?_)
 ·walk_at "";refine⟨rfl,?_⟩;walk_at "";refine⟨s,"@",rfl,rfl,?_⟩;walk_at "";refine⟨s,rfl,by walk_at "om",?_⟩;walk_at "";have s3:=sl none (some (SX s "@" + 2));refine cx (by walk_at "om") ?_;exact k _ _ Sq (((as.slice _ _).app apc).more (by walk_at "om") (by walk_at "om"))
 walk_at ""
 have lit:∀z∈(["1 ","0 ","4 "," + ","0 + ","02 ","q",""," + 0"]:List Str),Asc 4 2 z:=fun z hz=>by
  have:∀z∈(["1 ","0 ","4 "," + ","0 + ","02 ","q",""," + 0"]:List Str),cnt mW z=0/\cnt (fun _=>true) z<=4/\cnt e_ z<=2:=by decide +kernel
  exact⟨(this z hz).1,(this z hz).2.1,(this z hz).2.2⟩
 have t1:=lit "1 " (by decide +kernel);have t2:=lit "0 " (by decide +kernel);have t3:=lit "4 " (by decide +kernel);have t4:=lit " + " (by decide +kernel);have t5:=lit "0 + " (by decide +kernel);have t6:=lit "02 " (by decide +kernel);have t7:=lit "q" (by decide +kernel);have t8:=lit "" (by decide +kernel);have t9:=lit " + 0" (by decide +kernel);have u4:=t4.len;have u7:=t7.len;have u9:=t9.len;refine cx (by walk_at "om") ?_;walk_at "";refine⟨EX,fun q2 XC=>?_⟩
 obtain⟨ah,eah,aah⟩:=sI (zs:=["1 ","0 ","4 ",w ++ " + ","0 + ","02 "]) (m:=12) (n:=2) (fun z hz=>by
  simp only[Lr,L_,or_false] at hz
  rcases hz with rfl|rfl|rfl|rfl|rfl|rfl
  ·exact t1.more (by decide) (by decide)
  ·exact t2.more (by decide) (by decide)
  ·exact t3.more (by decide) (by decide)
  ·exact(aw.app t4).more (by decide) (by decide)
  ·exact t5.more (by decide) (by decide)
  ·exact t6.more (by decide) (by decide)) (i:=c / 12 % 6) (by walk_at "om") (by show _<((6:Nat):Int);walk_at "om")
 have lah:=aah.len;walk_at "";refine cK (SqL.of aq) eah ?_;have Sq2:=Sq.trans (au XC (.lst ((["1 ","0 ","4 ",w ++ " + ","0 + ","02 "]:List Str).map V.str)));generalize hH:upd H1 q2 _=H2;rw[show upd H1 q2 (.lst ((["1 ","0 ","4 ",w ++ " + ","0 + ","02 "]:List Str).map V.str))=H2 from hH] at Sq2;clear hH;walk_at "";refine cx (by walk_at "om") ?_;walk_at "";refine cx (by walk_at "om") ?_;walk_at "";refine cx (by walk_at "om") ?_;walk_at "";refine⟨oV,fun q3 nq3=>?_⟩;walk_at "";generalize hb:(if decide (c / 12 % 8 > 4)=true then (1:Int) else 0)=b;have b01:b=0\/b=1:=by rw[<- hb];split <;> simp
 obtain⟨hh,ehh,ahh⟩:=sI (zs:=[ah++w,w ++ "q","",w ++ " + 0"]) (m:=20) (n:=2) (fun z hz=>by
  simp only[Lr,L_,or_false] at hz
  rcases hz with rfl|rfl|rfl|rfl
  ·exact(aah.app aw).more (by decide) (by decide)
  ·exact(aw.app t7).more (by decide) (by decide)
  ·exact t8.more (by decide) (by decide)
  ·exact(aw.app t9).more (by decide) (by decide)) (i:=b*(1+e % 3)) (by rcases b01 with rfl|rfl <;> walk_at "om") (by show _<((4:Nat):Int);rcases b01 with rfl|rfl <;> walk_at "om")
 have lhh:=ahh.len;refine cK (SqL.of aq) ehh ?_;have Sq3:=Sq2.trans (au nq3 (.lst (([ah++w,w ++ "q","",w ++ " + 0"]:List Str).map V.str)));generalize hH:upd H2 q3 _=H3;rw[show upd H2 q3 (.lst (([ah++w,w ++ "q","",w ++ " + 0"]:List Str).map V.str))=H3 from hH] at Sq3;clear hH;walk_at "";have s1:=sl (some f) none;have s2:=sl none (some (f+4));refine bZ (fun z=>?_) (fun z=>?_)
 ·walk_at "";refine⟨s,rfl,by walk_at "om",?_⟩;refine cx (by walk_at "om") ?_;exact k _ _ Sq3 ((ahh.app (as.slice _ _)).more (by walk_at "om") (by walk_at "om"))
 ·walk_at "";refine⟨s,rfl,by walk_at "om",?_⟩;walk_at "";refine cx (by walk_at "om") ?_;walk_at "";refine⟨rfl,?_⟩;walk_at "";refine⟨s," @ ",rfl,rfl,_,rfl,?_⟩;refine⟨s,rfl,by walk_at "om",?_⟩;have s3:=sl (some (SX s " @ ")) none;refine cx (by rw[LC];walk_at "om") ?_;exact k _ _ Sq3 ((((as.slice _ _).app ahh).app (as.slice _ _)).more (by walk_at "om") (by walk_at "om"))
def x_ (K:Fg):TS := (aF (aR (aE bB (ag 3) (aE bW (b_ Ce (ao (ag 1) aA)) (tC (.int 1)))) (aO 4))
  (aF (aR (tC (.str " !\"#$&'()*+,-./0123456789:;<=>?@ABCDEFGHIJKLMNOPQRSTUVWXYZ[\\]^_`abcdefghijklmnopqrstuvwxyz{|}~")) (aO 5))
  (aF (aR (aE o_ (ag 5) (aE bB (aE ft (ag 2) (tC (.int 12))) (b_ Ce (ao (ag 5) aA)))) (aO 6))
  (aF (bq (bg (aE Bh (aE bB (ag 2) (tC (.int 24))) (tC (.int 11))))
  (aR (aE o_ (tC (.str " 0123/+->@")) (aE bB (aE ft (ag 2) (tC (.int 24))) (tC (.int 10)))) (aO 6))
  bp)
  (tM K)))))
theorem Fo{K:Fg}     {N:List Str} (hN:N.length=13) (h:yy K vs H Q E):x_ K (ends Q) (L2.start N vs) H := by
  obtain⟨a, s, ws, c, e, m, n, rfl, ha, Yz, wa, as, hm, k⟩ := h;rw[L2.cu hN]; walk_at "t";have ls := as.len;have sz := szL;unfold x_;walk_at "";refine Af (by walk_at "om") ?_;walk_at "";have lS:(" !\"#$&'()*+,-./0123456789:;<=>?@ABCDEFGHIJKLMNOPQRSTUVWXYZ[\\]^_`abcdefghijklmnopqrstuvwxyz{|}~":Str).length=94 := by decide +kernel
  have aS : ∀ c∈cl (" !\"#$&'()*+,-./0123456789:;<=>?@ABCDEFGHIJKLMNOPQRSTUVWXYZ[\\]^_`abcdefghijklmnopqrstuvwxyz{|}~":Str), c<128 := by decide +kernel
  generalize (" !\"#$&'()*+,-./0123456789:;<=>?@ABCDEFGHIJKLMNOPQRSTUVWXYZ[\\]^_`abcdefghijklmnopqrstuvwxyz{|}~":Str)=S at lS aS ⊢;refine Af (by walk_at "om") ?_;rw[lS];walk_at "";obtain⟨d, ed⟩ := A_ (z := S) (i := c / 12 % 94) (by walk_at "om") (by walk_at "om");refine xt (by walk_at "om") ed ?_;walk_at "";refine bZ (fun z => ?_) (fun z => ?_)
  · walk_at ""
    obtain⟨d2, ed2⟩ := A_ (z := " 0123/+->@") (i := c / 24 % 10) (by walk_at "om") (by rw[show(" 0123/+->@":Str).length=10 by decide +kernel]; walk_at "om");refine xt (by decide +kernel) ed2 ?_;refine gy ?_;exact vN ha Yz wa as hm (Bb (by decide +kernel) ed2) k
  · exact vN ha Yz wa as hm (Bb aS ed) k
end Tg
namespace Tg
open PySem L2 Fr G1 Sm Vs Tw Tp2 Tr
open Tr2 (WdOk)
open Nv (mU iY Bs G0 As Ar Er)
open PySem.W (Dat kqdOk)
def RowM(m:Nat)(t:Tn):Prop:=bv m t.fr/\bv m t.to/\0<t.q/\0<t.d/\t.q<=999/\t.d<=999/\Gd.gd t.q t.d=1
theorem EG{m:Nat}(m1:1<=m):RowM m (Bs m k):=⟨As m1 (by walk_at "om"),As m1 (by walk_at "om"),by show(0:Int)<1;decide,by show(0:Int)<1;decide,by show(1:Int)<=999;decide,by show(1:Int)<=999;decide,AB _⟩
theorem EF{m k:Nat}(m2:2<=m)(h:k<8):RowM m (G0 m k):=⟨Ar m2 (by walk_at "om"),Ar m2 (by walk_at "om"),by show(0:Int)<1;decide,by show(0:Int)<1;decide,by show(1:Int)<=999;decide,by show(1:Int)<=999;decide,AB _⟩
def yq(K:Fg):Sp:=fun vs H Q _=>∃(a:Addr) (xs:List V) (ts:List Tn) (m:Nat) (c:Int),vs=[.ref a,.int (m:Int),.int c]/\H a=some (.lst xs)/\RzL K H xs (ts.map dT)/\(∀t∈ts,RowM m t)/\1<=ts.length/\ts.length<=8/\1<=m/\m<=5 /\
 ∀(p:Addr) (H':Hp) (us:List Tn),AccZ K H p H' (us.map dT)->(∀u∈us,RowM m u)->us.length<=12->Q (.ref p) H'
def xY(K:Fg):TS:=(aF (aR (aE (cy K) (ag 0) (aE bB (aE ft (ag 2) (tC (.int 5))) (b_ JL (ao (tC (.int 7)) (ao (b_ (cM K) (ao (ag 0) aA)) aA))))) (aO 3))
 (aF (bq (bg (aE fq (aE bB (ag 2) (tC (.int 5))) (tC (.int 0))))
 (aY (cW aA))
 bp)
 (aF (bq (bg (aE fq (aE bB (ag 2) (tC (.int 5))) (tC (.int 1))))
 (aF (aR (eI (fE (ao (tC (.int 4)) aA)) (b_ (dH K) (ao (aE mL (cW (ao (ag 0) aA)) (eI (fE (ao (aE xc (ag 2) (tC (.int 1))) aA)) (tC (.int 0)))) aA))) (aO 4))
 (aF (aR (eI (fE (ao (tC (.int 12)) aA)) (cV (ao (aE (cy K) (ag 5) (aE bB (ag 0) (tC (.int 4)))) (ao (aE (cy K) (ag 5) (aE bB (aE bW (aE bW (ag 0) (tC (.int 1))) (aE ft (ag 0) (tC (.int 4)))) (tC (.int 4)))) (ao (cV (ao (tC (.int 1)) (ao (tC (.int 1)) aA))) aA))))) (aO 5))
 (aY (jb (o9 K) (ag 5) bT (dA (aE bW (tC (.int 9)) (aE bB (aE ft (ag 2) (tC (.int 5))) (tC (.int 4)))))))))
 bp)
 (aF (bq (bg (aE fq (aE bB (ag 2) (tC (.int 5))) (tC (.int 2))))
 (aY (aE mL (jb (o9 K) (ag 0) bT (dA (tC (.int 7)))) (cW (ao (cV (ao (aE (bt K) (ag 3) (tC (.int 1))) (ao (aE (bt K) (ag 3) (tC (.int 1))) (ao (aE (bt K) (ag 3) (tC (.int 2))) aA)))) aA))))
 bp)
 (aF (bq (kF (bg (aE fq (aE bB (ag 2) (tC (.int 5))) (tC (.int 3)))) (bg (aE uq (ag 1) (tC (.int 2)))))
 (aY (aE mL (jb (o9 K) (ag 0) bT (dA (tC (.int 7)))) (cW (ao (cV (ao (aE (bt K) (ag 3) (tC (.int 0))) (ao (aE (bt K) (ag 3) (tC (.int 1))) (ao (cV (ao (tC (.int 1)) (ao (aE bW (tC (.int 1)) (b_ ur (ao (aE (uv K) (aE (bt K) (ag 3) (tC (.int 2))) (cV (ao (tC (.int 1)) (ao (tC (.int 1)) aA)))) aA))) aA))) aA)))) aA))))
 bp)
 (aF (aR (eI (fE (ao (tC (.int 9)) aA)) (b_ (dH K) (ao (aE mL (cW (ao (aE bB (ag 0) (tC (.int 4))) (ao (aE ft (ag 0) (tC (.int 4))) aA))) (eI (fE (ao (aE xc (ag 2) (tC (.int 2))) aA)) (tC (.int 0)))) aA))) (aO 6))
 (aY (eI (fE (ao (tC (.int 8)) aA)) (cV (ao (aE (cy K) (ag 7) (ag 0)) (ao (aE (cy K) (ag 7) (aE bW (ag 0) (tC (.int 1)))) (ao (cV (ao (tC (.int 1)) (ao (tC (.int 1)) aA))) aA))))))))))))
theorem Fe{K:Fg}{N:List Str}(hN:N.length=7)(h:yq K vs H Q E):xY K (ends Q) (L2.start N vs) H:=by
 obtain⟨a,xs,ts,m,c,rfl,ha,rx,good,t1,t8,m1,m5,k⟩:=h;rw[L2.cu hN];walk_at "t";have lx:xs.length=ts.length:=by rw[rx.length,K9]
 unfold xY;walk_at "";refine cF (SqL.of ha) ?_;rw[lx];walk_at "";refine⟨7,(ts.length:Int),rfl,?_⟩;have mn:0<(if (ts.length:Int)<7 then (ts.length:Int) else 7)/\(if (ts.length:Int)<7 then (ts.length:Int) else 7)<=ts.length/\(if (ts.length:Int)<7 then (ts.length:Int) else 7)<=7:=by split <;> walk_at "om"
 generalize (if (ts.length:Int)<7 then (ts.length:Int) else 7)=mi at mn ⊢;refine uZ mn.1 ?_;have j0:=No (c / 5) (show mi≠0 by walk_at "om");have j1:=MT (c / 5) mn.1;generalize c / 5 % mi=j at j0 j1 ⊢;obtain⟨w,t,et,aw,rt⟩:=Er rx j0 (by walk_at "om");obtain⟨at_,v1,v2,v3,rfl,Ys,r1,r2,r3⟩:=lZ rt;have gt:=good t (Li et);refine cK (SqL.of ha) aw ?_
 have XU:∀(u:Tn) (te:TE) (σ:St) (H0:Hp),Same H H0->σ[0]?=some (some (.ref a))->RowM m u->(∀(H':Hp) (Q':VK),Same H H'->(∀(p:Addr) (H2:Hp),Same H' H2->Rz K H2 (.ref p) (dT u)->Q' (.ref p) H2)->te σ H' Q') ->
   (aY (aE mL (jb (o9 K) (ag 0) bT (dA (tC (.int 7)))) (cW (ao te aA)))) (ends Q) σ H0:=by
  intro u te σ H0 S0 hs gu ht;have ha0:=S0 _ _ ha;walk_at "";refine uY hs ?_;walk_at "";refine⟨a,_,rfl,SqL.of ha0,fun p np=>?_⟩;rw[Nv.qg (by decide)];have S1:=au np (.lst (xs.take (7:Int).toNat));have hp:upd H0 p (.lst (xs.take (7:Int).toNat)) p=some (.lst (xs.take 7)):=aq;generalize upd H0 p (.lst (xs.take (7:Int).toNat))=H1 at S1 hp ⊢;have S01:=S0.trans S1;walk_at "";refine ht H1 _ S01 fun q H2 S2 rq=>?_
  walk_at "";refine⟨ib,fun l nl=>?_⟩;have S3:=au nl (.lst [.ref q]);have hl:upd H2 l (.lst [.ref q]) l=some (.lst [.ref q]):=aq;have hp3:=(S2.trans S3) _ _ hp;have rq3:=rq.same S3;generalize upd H2 l (.lst [.ref q])=H3 at S3 hl hp3 rq3 ⊢;have S03:=S01.trans (S2.trans S3);refine⟨p,l,_,_,rfl,rfl,hp3,hl,by rw[szL,LK];simp only[Mt];walk_at "om",fun r nr=>?_⟩;have S4:=au nr (.lst (xs.take 7++[.ref q]));refine k r _ (ts.take 7++[u]) ⟨S03.trans S4,S03.free nr,_,aq,?_⟩ (G1.gU (fun v hv=>good v (Ox hv)) gu) (by rw[LU,LK];simp only[Mt];walk_at "om");rw[Lq,TW];exact((Nv.um 7 (rx.same S03)).same S4).append (.cons (rq3.same S4) .nil)
 walk_at "";refine bZ (fun _=>?_) (fun c0=>?_)
 ·walk_at "";refine⟨by decide,fun p np=>?_⟩;exact k p _ [] (AccZ.start (Same.refl _) np) (by simp) (by simp)
 walk_at "";refine bZ (fun _=>?_) (fun c1=>?_)
 ·
  walk_at "";refine eR fun D nD=>⟨fun j H2=>AccZ K H D H2 ((Mo j).map fun k=>dI (mU m k)),AccZ.start (Same.refl _) nD,?_,?_⟩
  ·intro j H2 hj A;walk_at "";refine⟨ib,fun p np=>?_⟩;have S3:=au np (.lst [.int (0+(j:Int))]);have hp:upd H2 p (.lst [.int (0+(j:Int))]) p=some (.lst [.int (0+(j:Int))]):=aq;generalize upd H2 p (.lst [.int (0+(j:Int))])=H3 at S3 hp ⊢;walk_at "";refine Nv.zeros (K:=K) (by walk_at "om") (by walk_at "om") fun z H4 A4=>?_
   have hz:=AccZ.ints A4;have hp4:=A4.same _ _ hp;refine⟨p,z,_,_,rfl,rfl,hp4,hz,by rw[szL,K9,Me];simp only[Mt];walk_at "om",fun q nq=>?_⟩;have S5:=au nq (.lst ([V.int (0+(j:Int))]++(LG ((m:Int)-1).toNat (0:Int)).map V.int))
   have e5:([V.int (0+(j:Int))]++(LG ((m:Int)-1).toNat (0:Int)).map V.int)=(mU m j).map V.int:=by
    unfold mU;rw[show((m:Int)-1).toNat=m-1 by walk_at "om",NT];rfl
   rw[e5] at S5 ⊢;have hq:upd H4 q (.lst ((mU m j).map V.int)) q=some (.lst ((mU m j).map V.int)):=aq;generalize upd H4 q (.lst ((mU m j).map V.int))=H5 at S5 hq ⊢;walk_at "";refine e9 (SqL.of hq) fun f nf=>?_
   have S6:=au nf (.tup ((mU m j).map V.int));refine cw hj ((A.on (S3.trans (A4.same.trans (S5.trans S6)))).fu (.tup aq (RpL.ints _)) (bh (by rw[K9,N2];walk_at "om")) fun H7 A7=>?_);show AccZ K H D H7 ((Mo (j+1)).map fun k=>dI (mU m k));rw[P1,Lq];exact A7
  ·intro H2 A2;obtain⟨fs,hD,rf⟩:=A2.at_;have S2:=A2.same;walk_at ""
   have few:∀{j:Nat} {H3:Hp},Same H2 H3->j<4->∃v,i8 fs (j:Int)=some v/\Rz K H3 v (dI (mU m j)):=by
    intro j H3 S3 hj;obtain⟨v,ev,rv⟩:=rf.get' (i:=j) (d:=dI (mU m j)) (by rw[Ll,QX (show j<Int.toNat 4 from hj)];rfl);exact⟨v,ba ev,rv.same S3⟩
   refine eR fun D2 Xp=>⟨fun j H3=>AccZ K H2 D2 H3 ((Mo j).map fun k=>dT (Bs m k)),AccZ.start (Same.refl _) Xp,?_,?_⟩
   ·intro j H3 hj A;obtain⟨y1,a1,q1⟩:=few (j:=j % 4) A.same (by walk_at "om");obtain⟨y2,a2,q2⟩:=few (j:=(j+1+j / 4) % 4) A.same (by walk_at "om");have X7:=A.same _ _ hD;walk_at "";refine cK (SqL.of X7) (v:=y1) (by rw[show(0+(j:Int)) % 4=((j % 4:Nat):Int) by walk_at "om"];exact a1) ?_;walk_at "";refine cK (SqL.of X7) (v:=y2) (by rw[show(0+(j:Int)+1+(0+(j:Int)) / 4) % 4=(((j+1+j / 4) % 4:Nat):Int) by walk_at "om"];exact a2) ?_;walk_at "";refine⟨bG,fun p np=>?_⟩;have S4:=au np (.tup [.int 1,.int 1]);have r4:Rz K (upd H3 p (.tup [.int 1,.int 1])) (.ref p) (dI [1,1]):=.tup aq (RpL.ints [1,1]);generalize upd H3 p (.tup [.int 1,.int 1])=H4 at S4 r4 ⊢;walk_at "";refine⟨dS,fun q nq=>?_⟩;have S5:=au nq (.tup [y1,y2,.ref p]);refine cw hj ((A.on (S4.trans S5)).fu (d:=dT (Bs m j)) (.tup aq (.cons ((q1.same S4).same S5) (.cons ((q2.same S4).same S5) (.cons (r4.same S5) .nil)))) (bh (by rw[K9,N2];walk_at "om")) fun H6 A6=>?_);show AccZ K H2 D2 H6 ((Mo (j+1)).map fun k=>dT (Bs m k));rw[P1,Lq];exact A6
   ·intro H3 A3;obtain⟨ps,X7,rp⟩:=A3.at_;walk_at "";refine⟨D2,_,rfl,SqL.of X7,fun q nq=>?_⟩;have e0:0<=9+c / 5 % 4/\9<=(9+c / 5 % 4).toNat/\(9+c / 5 % 4).toNat<=12:=by walk_at "om"
    generalize 9+c / 5 % 4=e at e0 ⊢;rw[Nv.qg e0.1];have S4:=au nq (.lst (ps.take e.toNat));refine k q _ (((Mo 12).map (Bs m)).take e.toNat) ⟨(S2.trans A3.same).trans S4,(S2.trans A3.same).free nq,_,aq,?_⟩ (fun u hu=>?_) (by rw[LK,K9,N2];walk_at "om")
    ·rw[TW,Na];exact(Nv.um _ rp).same S4
    ·obtain⟨kk,_,rfl⟩:=Lm.mp (Ox hu);exact EG m1
 walk_at "";refine bZ (fun _=>?_) (fun c2=>?_)
 ·refine XU ⟨t.to,t.to,t.q,t.d⟩ _ _ H (Same.refl _) rfl ⟨gt.2.1,gt.2.1,gt.2.2⟩ fun H' Q' S' q'=>?_
  have WL:=S' _ _ Ys;walk_at "";refine bu (SqT.of WL) (v:=v2) rfl ?_;walk_at "";refine bu (SqT.of WL) (v:=v2) rfl ?_;walk_at "";refine bu (SqT.of WL) (v:=v3) rfl ?_;walk_at "";refine⟨dS,fun p np=>?_⟩;have S3:=au np (.tup [v2,v2,v3]);exact q' p _ S3 (.tup aq (.cons ((r2.same S').same S3) (.cons ((r2.same S').same S3) (.cons ((r3.same S').same S3) .nil))))
 have dup:(aY (aE mL (jb (o9 K) (ag 0) bT (dA (tC (.int 7)))) (cW (ao (cV (ao (aE (bt K) (ag 3) (tC (.int 0))) (ao (aE (bt K) (ag 3) (tC (.int 1))) (ao (cV (ao (tC (.int 1)) (ao (aE bW (tC (.int 1)) (b_ ur (ao (aE (uv K) (aE (bt K) (ag 3) (tC (.int 2))) (cV (ao (tC (.int 1)) (ao (tC (.int 1)) aA)))) aA))) aA))) aA)))) aA)))) (ends Q) [some (.ref a),some (.int (m:Int)),some (.int c),some (.ref at_),none,none,none] H:=by
  refine XU ⟨t.fr,t.to,1,1+(if t.q=1/\t.d=1 then 1 else 0)⟩ _ _ H (Same.refl _) rfl ⟨gt.1,gt.2.1,by show(0:Int)<1;decide,by show 0<1+(if _ then (1:Int) else 0);split <;> decide,by show(1:Int)<=999;decide,by show 1+(if _ then (1:Int) else 0)<=999;split <;> decide,by show Gd.gd 1 _=1;unfold Gd.gd;rw[Int.one_gcd];rfl⟩ fun H' Q' S' q'=>?_
  have WL:=S' _ _ Ys;walk_at "";refine bu (SqT.of WL) (v:=v1) rfl ?_;walk_at "";refine bu (SqT.of WL) (v:=v2) rfl ?_;walk_at "";refine bu (SqT.of WL) (v:=v3) rfl ?_;walk_at "";refine⟨bG,fun p np=>?_⟩;have S3:=au np (.tup [.int 1,.int 1]);have r4:Rz K (upd H' p (.tup [.int 1,.int 1])) (.ref p) (dI [1,1]):=.tup aq (RpL.ints [1,1]);generalize upd H' p (.tup [.int 1,.int 1])=H3 at S3 r4 ⊢;have S03:=S'.trans S3;refine CS ((r3.same S03).rep) r4.rep (io _ 7) (io _ 7) (fun z=>?_) (fun z=>?_)
  ·have zz:=jF z;have z1:t.q=1/\t.d=1:=⟨(MK zz).1,(MK (MK zz).2).1⟩
   rw[if_pos z1] at q';walk_at "";rw[show(if true=true then (1:Int) else 0)=1 from rfl];refine⟨bG,fun p2 WQ=>?_⟩;have S4:=au WQ (.tup [.int 1,.int (1+1)]);have r5:Rz K (upd H3 p2 (.tup [.int 1,.int (1+1)])) (.ref p2) (dI [1,1+1]):=.tup aq (RpL.ints [1,1+1]);generalize upd H3 p2 (.tup [.int 1,.int (1+1)])=H4 at S4 r5 ⊢;walk_at "";refine⟨dS,fun p3 XB=>?_⟩;have S5:=au XB (.tup [v1,v2,.ref p2]);have YB:=S03.trans (S4.trans S5);exact q' p3 _ (S3.trans (S4.trans S5)) (.tup aq (.cons (r1.same YB) (.cons (r2.same YB) (.cons (r5.same S5) .nil))))
  ·have z1 : ¬ (t.q=1/\t.d=1):=fun y=>z (by rw[y.1,y.2])
   rw[if_neg z1] at q';walk_at "";rw[show(if false=true then (1:Int) else 0)=0 from rfl];refine⟨bG,fun p2 WQ=>?_⟩;have S4:=au WQ (.tup [.int 1,.int (1+0)]);have r5:Rz K (upd H3 p2 (.tup [.int 1,.int (1+0)])) (.ref p2) (dI [1,1+0]):=.tup aq (RpL.ints [1,1+0]);generalize upd H3 p2 (.tup [.int 1,.int (1+0)])=H4 at S4 r5 ⊢;walk_at "";refine⟨dS,fun p3 XB=>?_⟩;have S5:=au XB (.tup [v1,v2,.ref p2]);have YB:=S03.trans (S4.trans S5);exact q' p3 _ (S3.trans (S4.trans S5)) (.tup aq (.cons (r1.same YB) (.cons (r2.same YB) (.cons (r5.same S5) .nil))))
 walk_at "";refine bZ (fun _=>dup) (fun c3=>?_);walk_at "";refine bZ (fun _=>dup) (fun c4=>?_);have m2:2<=m:=by walk_at "om"
 walk_at "";refine eR fun D nD=>⟨fun j H2=>AccZ K H D H2 ((Mo j).map fun k=>dI (iY m k)),AccZ.start (Same.refl _) nD,?_,?_⟩
 ·intro j H2 hj A;walk_at "";refine⟨bG,fun p np=>?_⟩;have S3:=au np (.lst [.int ((0+(j:Int)) % 4),.int ((0+(j:Int)) / 4)]);have hp:upd H2 p (.lst [.int ((0+(j:Int)) % 4),.int ((0+(j:Int)) / 4)]) p=some (.lst [.int ((0+(j:Int)) % 4),.int ((0+(j:Int)) / 4)]):=aq;generalize upd H2 p (.lst [.int ((0+(j:Int)) % 4),.int ((0+(j:Int)) / 4)])=H3 at S3 hp ⊢;walk_at "";refine Nv.zeros (K:=K) (by walk_at "om") (by walk_at "om") fun z H4 A4=>?_
  have hz:=AccZ.ints A4;have hp4:=A4.same _ _ hp;refine⟨p,z,_,_,rfl,rfl,hp4,hz,by rw[szL,K9,Me];simp only[LS,QL];walk_at "om",fun q nq=>?_⟩;have S5:=au nq (.lst ([V.int ((0+(j:Int)) % 4),.int ((0+(j:Int)) / 4)]++(LG ((m:Int)-2).toNat (0:Int)).map V.int))
  have e5:([V.int ((0+(j:Int)) % 4),.int ((0+(j:Int)) / 4)]++(LG ((m:Int)-2).toNat (0:Int)).map V.int)=(iY m j).map V.int:=by
   unfold iY;rw[show((m:Int)-2).toNat=m-2 by walk_at "om",show(0+(j:Int)) % 4=((j % 4:Nat):Int) by walk_at "om",show(0+(j:Int)) / 4=((j / 4:Nat):Int) by walk_at "om"];rfl
  rw[e5] at S5 ⊢;have hq:upd H4 q (.lst ((iY m j).map V.int)) q=some (.lst ((iY m j).map V.int)):=aq;generalize upd H4 q (.lst ((iY m j).map V.int))=H5 at S5 hq ⊢;walk_at "";refine e9 (SqL.of hq) fun f nf=>?_
  have S6:=au nf (.tup ((iY m j).map V.int));refine cw hj ((A.on (S3.trans (A4.same.trans (S5.trans S6)))).fu (.tup aq (RpL.ints _)) (bh (by rw[K9,N2];walk_at "om")) fun H7 A7=>?_);show AccZ K H D H7 ((Mo (j+1)).map fun k=>dI (iY m k));rw[P1,Lq];exact A7
 ·intro H2 A2;obtain⟨fs,hD,rf⟩:=A2.at_;have S2:=A2.same;walk_at ""
  have few:∀{j:Nat} {H3:Hp},Same H2 H3->j<9->∃v,i8 fs (j:Int)=some v/\Rz K H3 v (dI (iY m j)):=by
   intro j H3 S3 hj;obtain⟨v,ev,rv⟩:=rf.get' (i:=j) (d:=dI (iY m j)) (by rw[Ll,QX (show j<Int.toNat 9 from hj)];rfl);exact⟨v,ba ev,rv.same S3⟩
  refine eR fun D2 Xp=>⟨fun j H3=>AccZ K H2 D2 H3 ((Mo j).map fun k=>dT (G0 m k)),AccZ.start (Same.refl _) Xp,?_,?_⟩
  ·intro j H3 hj A;have hj8:j<8:=hj;obtain⟨y1,a1,q1⟩:=few (j:=j) A.same (by walk_at "om");obtain⟨y2,a2,q2⟩:=few (j:=j+1) A.same (by walk_at "om");have X7:=A.same _ _ hD;walk_at "";refine cK (SqL.of X7) (v:=y1) (by rw[NT];exact a1) ?_;walk_at "";refine cK (SqL.of X7) (v:=y2) (by rw[show(0+(j:Int)+1)=((j+1:Nat):Int) by walk_at "om"];exact a2) ?_;walk_at "";refine⟨bG,fun p np=>?_⟩;have S4:=au np (.tup [.int 1,.int 1]);have r4:Rz K (upd H3 p (.tup [.int 1,.int 1])) (.ref p) (dI [1,1]):=.tup aq (RpL.ints [1,1]);generalize upd H3 p (.tup [.int 1,.int 1])=H4 at S4 r4 ⊢;walk_at "";refine⟨dS,fun q nq=>?_⟩;have S5:=au nq (.tup [y1,y2,.ref p]);refine cw hj ((A.on (S4.trans S5)).fu (d:=dT (G0 m j)) (.tup aq (.cons ((q1.same S4).same S5) (.cons ((q2.same S4).same S5) (.cons (r4.same S5) .nil)))) (bh (by rw[K9,N2];walk_at "om")) fun H6 A6=>?_);show AccZ K H2 D2 H6 ((Mo (j+1)).map fun k=>dT (G0 m k));rw[P1,Lq];exact A6
  ·intro H3 A3;refine k D2 H3 ((Mo 8).map (G0 m)) ⟨S2.trans A3.same,S2.free A3.new,?_⟩ (fun u hu=>?_) (by rw[K9,N2];decide)
   ·rw[Na];exact A3.at_
   ·obtain⟨kk,hk,rfl⟩:=Lm.mp hu;exact EF m2 (Nt.mp hk)
end Tg
namespace Tg
open PySem L2 Fr G1 Sm Vs Tw Tp2 Tr
open Nv (fU dE AA FS FR wH iU)
open Ti (kq)
open PySem.W (Dat kqdOk)
theorem wG:∀(n:Nat) (ds:List Dat),ds.length=n->∃l:List Dat,l.Nodup/\(∀x,x∈l↔x∈ds)/\L2.cnt ds=l.length
 |0,ds,h=>by
  rw[MB.mp h];exact⟨[],MV,fun _=>Iff.rfl,rfl⟩
 |n+1,ds,h=>by
  rcases Qn ds with z|⟨es,d,e⟩
  ·rw[z] at h;cases h
  ·rw[Qo] at e;subst e;obtain⟨l,nd,me,ec⟩:=wG n es (by rw[LU,Mt] at h;walk_at "om");rw[L2.kx];by_cases m:d∈es
   ·refine⟨l,nd,fun x=>?_,by rw[if_pos m,ec];rfl⟩;rw[me,L5,Lw];exact⟨.inl,fun q=>q.elim id fun z=>z ▸ m⟩
   ·refine⟨l++[d],?_,fun x=>?_,by rw[if_neg m,ec,LU];rfl⟩
    ·rw[UD];exact⟨nd,by simp,fun a ha b hb z=>by rw[Lw.mp hb] at z;exact m ((me d).mp (z ▸ ha))⟩
    ·rw[L5,L5,me]
theorem AW(ts:List Tn):L2.cnt ((ts.map Tn.fr++ts.map Tn.to).map dI)=(Em ts).length:=by
 obtain⟨l,nd,me,ec⟩:=wG _ ((ts.map Tn.fr++ts.map Tn.to).map dI) rfl;obtain⟨hn,hi⟩:=Nv.Ax (ps:=ts.map Tn.fr++ts.map Tn.to) ts [] MV (by simp) fun t ht=>⟨MP _ (Lm.mpr ⟨t,ht,rfl⟩),LH _ (Lm.mpr ⟨t,ht,rfl⟩)⟩
 have nd2:((Em ts).map dI).Nodup:=RC.map _ (fun a b z q=>z (jF q)) hn
 have me2:∀x,x∈(Em ts).map dI↔x∈l:=fun x=>by
  rw[me,Lm,Lm];constructor
  ·rintro⟨h,hh,e⟩;exact⟨h,hi h hh,e⟩
  ·rintro⟨h,hh,e⟩;refine⟨h,?_,e⟩;rcases L5.mp hh with q|q
   ·obtain⟨t,ht,rfl⟩:=Lm.mp q;exact(kq (hs:=[]) ht).1
   ·obtain⟨t,ht,rfl⟩:=Lm.mp q;exact(kq (hs:=[]) ht).2
 letI:DecidableEq Dat:=fun a b=>Classical.propDecidable _
 have l1:=Nv.lE nd2 fun x hx=>(me2 x).mp hx
 have l2:=Nv.lE nd fun x hx=>(me2 x).mpr hx
 rw[K9] at l1 l2;walk_at "om"
def ub(K:Fg):Sp:=fun vs H Q _=>∃(a:Addr) (xs:List V) (ts:List Tn),vs=[.ref a]/\H a=some (.lst xs)/\RzL K H xs (ts.map dT)/\ts.length<=12/\∀(b:Bool) (H':Hp),Same H H'->(b=true↔fU ts)->Q (.bl b) H'
theorem DR{K:Fg}{H:Hp}{σ:St}{Q:VK}{ts:List Tn}{te:TE}(f:Tn->List Int)(ha:H a=some (.lst xs))(rx:RzL K H xs (ts.map dT))(l:ts.length<=12)
  (ht:∀(H2:Hp) (v:V) (t:Tn) (Q':VK),Same H H2->Rz K H2 v (dT t)->(∀u,Rz K H2 u (dI (f t))->Q' u H2)->te (some v :: σ) H2 Q')
  (hq:∀(D:Addr) (H':Hp),AccZ K H D H' ((ts.map f).map dI)->Q (.ref D) H'):eE (sN K a) te σ Q H:=by
 have lx:xs.length=ts.length:=by rw[rx.length,K9]
 refine d_ (xs:=xs) fun D nD=>⟨fun i H2=>AccZ K H D H2 (((ts.take i).map f).map dI),AccZ.start (Same.refl _) nD,fun i H2 _ A=>SqL.of (A.same _ _ ha),?_,?_⟩
 ·intro i z H2 hz A;obtain⟨dd,g1,g2⟩:=rx.get hz;rw[Ll] at g1;obtain⟨t,et,rfl⟩:=Lu.mp g1;have li:i<ts.length:=(K_.mp et).1;refine ht H2 z t _ A.same (g2.same A.same) fun u ru=>?_
  refine cw (by walk_at "om") (A.fu ru (dX ?_) fun H4 A4=>?_)
  ·rw[K9,K9,LK];walk_at "om"
  ·show AccZ K H D H4 (((ts.take (i+1)).map f).map dI);rw[LV,et,Lq,Lq];exact A4
 ·intro H2 A;rw[lx,Ln (Lf _)] at A;exact hq D H2 A
def tL(K:Fg):TS:=(aF (aR (eI (gY K (ag 0)) (jb (Ca K) (ag 0) bT (dA (tC (.int 2))))) (aO 1))
 (aF (bq (kF (bg (aE uq (b_ (cM K) (ao (ag 0) aA)) (tC (.int 1)))) (kF (bg (aE Bh (b_ (cM K) (ao (ag 0) aA)) (tC (.int 8)))) (bg (aE uq (jc (Cc K) (ag 1)) (b_ (cM K) (ao (ag 1) aA))))))
 (aY (tC (.bl false)))
 bp)
 (aF (bq (bg (aE Bh (jc (Cc K) (aE mL (eI (gY K (ag 0)) (aE (bt K) (ag 0) (tC (.int 0)))) (eI (gY K (ag 0)) (aE (bt K) (ag 0) (tC (.int 1)))))) (tC (.int 8))))
 (aY (tC (.bl false)))
 bp)
 (aY (aE fq (b_ (cM K) (ao (ni (gY K (ag 0)) 1 (aO 0) (bg (aE (uv K) (aE (bt K) (ag 0) (tC (.int 0))) (aE (bt K) (ag 0) (tC (.int 1))))) (ag 0)) aA)) (tC (.int 0)))))))
theorem B7{K:Fg}{N:List Str}(hN:N.length=2)(h:ub K vs H Q E):tL K (ends Q) (L2.start N vs) H:=by
 obtain⟨a,xs,ts,rfl,ha,rx,XV,k⟩:=h;rw[L2.cu hN];walk_at "t";have lx:xs.length=ts.length:=by rw[rx.length,K9]
 have no : ¬ fU ts->∀H',Same H H'->Q (.bl false) H':=fun z H' S=>k false H' S ⟨fun q=>(by cases q),fun q=>absurd q z⟩
 unfold tL;walk_at "";refine r0 (SqL.of ha) ?_;refine d_ (xs:=xs) fun D nD=>⟨fun j H3=>AccZ K H D H3 ((ts.take j).map dE),AccZ.start (Same.refl _) nD,fun i H3 _ B=>SqL.of (B.same _ _ ha),?_,?_⟩
 ·intro i z H3 hz B;obtain⟨dd,g1,g2⟩:=rx.get hz;rw[Ll] at g1;obtain⟨t,ht,rfl⟩:=Lu.mp g1;have li:i<ts.length:=(K_.mp ht).1;obtain⟨b,v1,v2,v3,rfl,hb,r1,r2,_⟩:=lZ (g2.same B.same);walk_at "";refine HY (SqT.of hb) (by show ¬ (HT.sIx 3 0 none=0/\HT.sIx 3 3 (some 2)=3);decide) fun p np=>?_
  have S4:=au np (.tup (g6 [v1,v2,v3] none (some 2)));have r4:Rz K (upd H3 p (.tup (g6 [v1,v2,v3] none (some 2)))) (.ref p) (dE t):=.tup (xs:=[v1,v2]) aq (.cons (r1.same S4) (.cons (r2.same S4) .nil));refine cw (by walk_at "om") ((B.on S4).fu r4 (dX ?_) fun H5 B5=>?_)
  ·rw[K9,LK];walk_at "om"
  ·show AccZ K H D H5 ((ts.take (i+1)).map dE);rw[LV,ht,Lq];exact B5
 intro H3 B;rw[lx,Ln (Lf _)] at B;obtain⟨ys,hD,ry⟩:=B.at_;have S3:=B.same;have W7:=S3 _ _ ha;have ly:ys.length=ts.length:=by rw[ry.length,K9]
 walk_at "";refine cF (SqL.of W7) ?_;rw[lx];walk_at "";refine bZ (fun z=>?_) (fun t1=>?_)
 ·walk_at "";exact no (fun q=>by have:=q.1;walk_at "om") H3 S3
 walk_at "";refine cF (SqL.of W7) ?_;rw[lx];walk_at "";refine bZ (fun z=>?_) (fun t8=>?_)
 ·walk_at "";exact no (fun q=>by have:=q.2.1;walk_at "om") H3 S3
 walk_at "";refine iU ?_;walk_at "";refine⟨.L,D,ys,ts.map dE,rfl,SqL.of hD,ry.rep,?_,by rw[K9];walk_at "om",?_⟩
 ·intro d hd;obtain⟨t,_,rfl⟩:=Lm.mp hd;exact AA t
 have hc:=L2.l6 (ts.map dE);have W3:=wH (ds:=ts.map dE);rw[K9] at hc W3;refine⟨by walk_at "om",?_⟩;walk_at "";refine cF (SqL.of hD) ?_;rw[ly];walk_at "";refine bZ (fun z=>?_) (fun z=>?_)
 ·walk_at "";exact no (fun q=>W3.mp (by walk_at "om") (FS q.2.2.1)) H3 S3
 have nd:(ts.map qc).Nodup:=FR (NF fun q=>z (by have:=W3.mpr q;walk_at "om"));walk_at "";refine iU ?_;walk_at "";refine r0 (SqL.of W7) ?_;refine DR Tn.fr W7 (rx.same S3) XV (fun H2 v t Q' S2 rv q=>?_) fun p H4 A4=>?_
 ·obtain⟨b,v1,v2,v3,rfl,hb,r1,r2,_⟩:=lZ rv;walk_at "";exact bu (SqT.of hb) (v:=v1) rfl (q v1 r1)
 have S4:=S3.trans A4.same;have Z7:=S4 _ _ ha;walk_at "";refine r0 (SqL.of Z7) ?_;refine DR Tn.to Z7 (rx.same S4) XV (fun H2 v t Q' S2 rv q=>?_) fun p2 H5 A5=>?_
 ·obtain⟨b,v1,v2,v3,rfl,hb,r1,r2,_⟩:=lZ rv;walk_at "";exact bu (SqT.of hb) (v:=v2) rfl (q v2 r2)
 have S5:=S4.trans A5.same;obtain⟨fs,hp,rf⟩:=A4.at_;obtain⟨gs,iY,rg⟩:=A5.at_;have hp5:=A5.same _ _ hp;have rf5:=rf.same A5.same;have lf:fs.length=ts.length:=by rw[rf.length,K9,K9]
 have lg:gs.length=ts.length:=by rw[rg.length,K9,K9]
 refine⟨p,p2,_,_,rfl,rfl,hp5,iY,by rw[szL];walk_at "om",fun r nr=>?_⟩;have XW:=au nr (.lst (fs++gs));have S6:=S5.trans XW;have hr:upd H5 r (.lst (fs++gs)) r=some (.lst (fs++gs)):=aq
 have rr:RzL K (upd H5 r (.lst (fs++gs))) (fs++gs) ((ts.map Tn.fr++ts.map Tn.to).map dI):=by
  rw[Lq];exact(rf5.same XW).append (rg.same XW)
 generalize upd H5 r (.lst (fs++gs))=H6 at S6 hr rr ⊢;have ha6:=S6 _ _ ha;have lc:=L2.l6 ((ts.map Tn.fr++ts.map Tn.to).map dI);rw[K9,LU,K9,K9] at lc;refine⟨.L,r,_,_,rfl,SqL.of hr,rr.rep,?_,by rw[K9,LU,K9,K9];walk_at "om",by walk_at "om",?_⟩
 ·intro d hd;obtain⟨h,_,rfl⟩:=Lm.mp hd;exact Cg.II h
 rw[AW];walk_at "";refine bZ (fun z=>?_) (fun z8=>?_)
 ·walk_at "";exact no (fun q=>by have:=q.2.2.2.2;walk_at "om") H6 S6
 walk_at "";refine⟨a,rfl,⟨_,SqL.of ha6⟩,?_⟩;have rx6:=rx.same S6;refine xA (xs:=xs) fun D2 Xp=>⟨fun i H7=>AccZ K H6 D2 H7 (((ts.take i).filter fun t=>decide (t.fr=t.to)).map dT),AccZ.start (Same.refl _) Xp,fun i H7 _ A=>SqL.of (A.same _ _ ha6),?_,?_⟩
 ·intro i y H7 hy A us hu
  obtain⟨u0,rfl⟩:∃u0,us=[u0]:=by
   match us,hu with
   |[u0],_=>exact⟨u0,rfl⟩
  obtain⟨dd,g1,g2⟩:=rx6.get hy;rw[Ll] at g1;obtain⟨t,et,rfl⟩:=Lu.mp g1;have li:i<ts.length:=(K_.mp et).1;have ry7:=g2.same A.same;obtain⟨b,v1,v2,v3,rfl,hb,r1,r2,_⟩:=lZ ry7;walk_at "";refine⟨⟨[some (.ref b)],rfl,rfl⟩,?_⟩;walk_at "";refine bu (SqT.of hb) (v:=v1) rfl ?_;walk_at "";refine bu (SqT.of hb) (v:=v2) rfl ?_;refine CS r1.rep r2.rep (io _ 7) (io _ 7) (fun z=>?_) (fun z=>?_)
  ·refine⟨_,rfl,?_⟩;rw[if_pos rfl];walk_at "";refine cw (by walk_at "om") (A.fu ry7 (dX ?_) fun H8 A8=>?_)
   ·rw[K9]
    have:=SM (fun t:Tn=>decide (t.fr=t.to)) (ts.take i)
    rw[LK] at this;walk_at "om"
   ·show AccZ K H6 D2 H8 (((ts.take (i+1)).filter fun t=>decide (t.fr=t.to)).map dT);rw[LV,et,P7,Lq,show(some t).toList.filter (fun t=>decide (t.fr=t.to))=[t] by simp[jF z]];exact A8
  ·refine⟨_,rfl,?_⟩;rw[if_neg (show ¬ false=true by decide)];refine oU (by walk_at "om") ?_;show AccZ K H6 D2 H7 (((ts.take (i+1)).filter fun t=>decide (t.fr=t.to)).map dT)
   rw[LV,et,P7,show(some t).toList.filter (fun t=>decide (t.fr=t.to))=[] by
    have : ¬ t.fr=t.to:=fun q=>z (by rw[q])
    simp[this],M9]
   exact A
 ·intro H7 A;rw[lx,Ln (Lf _)] at A;obtain⟨zs,Z3,rz⟩:=A.at_;have lz:zs.length=(ts.filter fun t=>decide (t.fr=t.to)).length:=by rw[rz.length,K9]
  walk_at "";refine cF (SqL.of Z3) ?_;walk_at "";refine k _ H7 (S6.trans A.same) ?_;rw[decide_eq_true_eq,lz];constructor
  ·intro q;have q':(ts.filter fun t=>decide (t.fr=t.to))=[]:=MB.mp (by walk_at "om");refine⟨by walk_at "om",by walk_at "om",nd,fun t ht e=>?_,by walk_at "om"⟩
   have:=OU.mp q' t ht
   exact this (decide_eq_true e)
  ·intro q;rw[OU.mpr fun t ht=>by rw[decide_eq_true_eq];exact q.2.2.2.1 t ht];rfl
end Tg
namespace Tg
open PySem L2 Fr G1 Sm Vs Tw Tp2 Tr
open Tr2 (WdOk)
open Nv (fU)
open PySem.W (Dat kqdOk)
def dO:Option Tn->Dat
 |some t=>dT t
 |none=>.none
theorem JS:∀o:Option Tn,kqdOk 8 (dO o)=true
 |none=>rfl
 |some t=>by
  show([dI t.fr,dI t.to,dI [t.q,t.d]].all (kqdOk 7))=true;rw[QC,QC,QC,List.all_nil,io t.fr 6,io t.to 6,io [t.q,t.d] 6];rfl
structure RdO (ws ss:List Str) (i:Nat) (os:List (Option Tn)):Prop where
 len:os.length=i
 at_:∀(j:Nat) (t:Tn),os[j]?=some (some t)->i9 ws t/\ss[j]?=some (cf ws t)
 no:∀(j:Nat),os[j]?=some none->∃s,ss[j]?=some s/\∀t,i9 ws t->cf ws t≠s
theorem RdO.put{os:List (Option Tn)}{s:Str}{o:Option Tn}(R:RdO ws ss i os)(es:ss[i]?=some s)(h:(∃t,o=some t/\i9 ws t/\cf ws t=s)\/(o=none/\∀t,i9 ws t->cf ws t≠s)):RdO ws ss (i+1) (os++[o]):=by
 have Ba:∀(j:Nat) (p:Option Tn),(os++[o])[j]?=some p->os[j]?=some p\/(j=i/\p=o):=fun j p ej=>by
  by_cases l:j<os.length
  ·rw[Mc l] at ej;exact .inl ej
  ·rw[L7 (by walk_at "om")] at ej
   have j0:j-os.length=0:=by
    have:=(K_.mp ej).1
    rw[Mt] at this;walk_at "om"
   rw[j0] at ej;exact .inr ⟨by have:=R.len;walk_at "om",(LD ej).symm⟩
 refine⟨by rw[LU,R.len];rfl,fun j t ej=>?_,fun j ej=>?_⟩
 ·rcases Ba j _ ej with q|⟨rfl,q⟩
  ·exact R.at_ j t q
  ·rcases h with⟨u,e,ot,et⟩|⟨e,_⟩
   ·rw[e] at q;cases q;rw[et];exact⟨ot,es⟩
   ·rw[e] at q;cases q
 ·rcases Ba j _ ej with q|⟨rfl,q⟩
  ·exact R.no j q
  ·rcases h with⟨u,e,ot,et⟩|⟨e,n⟩
   ·rw[e] at q;cases q
   ·exact⟨s,es,n⟩
theorem nK:∀(os:List (Option Tn)),(∃ts:List Tn,os=ts.map some)\/∃(i:Nat) (ts:List Tn),os[i]?=some none/\ts.length=i/\∀j,j<i->os[j]? = (ts[j]?).map some
 |[]=>.inl ⟨[],rfl⟩
 |none :: os=>.inr ⟨0,[],rfl,rfl,fun j l=>absurd l (by walk_at "om")⟩
 |some t :: os=>by
  rcases nK os with⟨ts,e⟩|⟨i,ts,e,l,q⟩
  ·exact .inl ⟨t :: ts,by rw[e];rfl⟩
  ·refine .inr ⟨i+1,t :: ts,e,by rw[LS,l],fun j lj=>?_⟩;cases j with
   |zero=>rfl
   |succ j=>exact q j (by walk_at "om")
def yu(K:Fg):Sp:=fun vs H Q _=>∃(a b:Addr) (ws ss:List Str),vs=[.ref a,.ref b]/\H a=some (.lst (ws.map V.str))/\H b=some (.lst (ss.map V.str))/\WdOk ws/\(∀s∈ss,Asc 1900 300 s)/\ss.length<=12 /\
 (∀(i:Nat) (s:Str) (ts:List Tn),ss[i]?=some s->qu ws ss i ts->(∀t,i9 ws t->cf ws t≠s)->∀(p:Addr) (H':Hp),Same H H'->Rz K H' (.ref p) (.tuple [.str "NoText",.int i])->Q (.ref p) H') /\
 (∀ts,qu ws ss ss.length ts->¬ fU ts->∀(p:Addr) (H':Hp),Same H H'->Rz K H' (.ref p) (.tuple [.str "NoTurnings",.none])->Q (.ref p) H') /\
 (∀ts,qu ws ss ss.length ts->fU ts->∀(p:Addr) (H':Hp),Same H H'->Rz K H' (.ref p) (dV ws ts)->Q (.ref p) H')
def x9(K:Fg):TS:=(aF (aR (eI (gY K (ag 1)) (bo (tS K) [] E0 (ao (ag 1) (ao (ag 0) aA)))) (aO 2))
 (aF (bq (bg (aE (ut K false) (tC .non) (ag 2)))
 (aY (cV (ao (tC (.str "NoText")) (ao (fX K "list" (yZ K) (ag 2) (ao (tC .non) aA)) aA))))
 bp)
 (aF (bq (gb (tB (bo (ub K) [] E0 (ao (ag 2) aA))))
 (aY (cV (ao (tC (.str "NoTurnings")) (ao (tC .non) aA))))
 bp)
 (aY (cV (ao (b_ (dH K) (ao (ag 0) aA)) (ao (b_ (dH K) (ao (ag 2) aA)) aA)))))))
theorem Fm{K:Fg}{N:List Str}(hN:N.length=3)(h:yu K vs H Q E):x9 K (ends Q) (L2.start N vs) H:=by
 obtain⟨a,b,ws,ss,rfl,ha,hb,ow,as,WA,k1,k2,k3⟩:=h;rw[L2.cu hN];walk_at "t";unfold x9;walk_at "";refine r0 (SqL.of hb) ?_;refine d_ (xs:=ss.map V.str) fun D nD=>⟨fun i H2=>∃os,RdO ws ss i os/\AccZ K H D H2 (os.map dO),⟨[],⟨rfl,fun _ _ z=>(by cases z),fun _ z=>(by cases z)⟩,AccZ.start (Same.refl _) nD⟩,fun i H2 _ ⟨_,_,A⟩=>SqL.of (A.same _ _ hb),?_,?_⟩
 ·rintro i y H2 e1 ⟨os,R,A⟩;have hi:i<(ss.map V.str).length:=(K_.mp e1).1;rw[Ll] at e1;obtain⟨s,es,rfl⟩:=Lu.mp e1;rw[K9] at hi;walk_at "";refine⟨a,s,ws,1900,300,rfl,A.same _ _ ha,ow,as s (Li es),by decide,by decide,fun p H3 t S3 rt ot et=>?_,fun H3 S3 no=>?_⟩
  ·refine cw (by rw[K9];exact hi) ((A.on S3).fu (d:=dO (some t)) rt (dX (by rw[K9,R.len];walk_at "om")) fun H4 A4=>⟨os++[some t],R.put es (.inl ⟨t,rfl,ot,et⟩),?_⟩);rw[Lq];exact A4
  ·refine cw (by rw[K9];exact hi) ((A.on S3).fu (d:=dO none) .non (dX (by rw[K9,R.len];walk_at "om")) fun H4 A4=>⟨os++[none],R.put es (.inr ⟨rfl,no⟩),?_⟩);rw[Lq];exact A4
 ·rintro H2 ⟨os,R,A⟩;rw[K9] at R;have S2:=A.same
  have oka:∀e∈os.map dO,kqdOk 8 e=true:=fun e he=>by
   obtain⟨o,_,rfl⟩:=Lm.mp he;exact JS o
  obtain⟨xs,hD,rx⟩:=A.at_;walk_at "";rcases nK os with⟨ts,eo⟩|⟨i,ts,ei,li,qi⟩
  ·have noN:Dat.none∉os.map dO:=fun z=>by
    obtain⟨o,ho,e⟩:=Lm.mp z;rw[eo] at ho;obtain⟨t,_,rfl⟩:=Lm.mp ho;cases e
   have RT:qu ws ss ss.length ts:=⟨by have:=R.len;rw[eo,K9] at this;exact this,fun j t ej=>R.at_ j t (by rw[eo,Ll,ej];rfl)⟩
   have rx':RzL K H2 xs (ts.map dT):=by
    have:os.map dO=ts.map dT:=by rw[eo,Na];rfl
    rw[<- this];exact rx
   refine Il (ds:=os.map dO) .non A.rep oka rfl (fun z=>absurd z noN) (fun _=>?_);walk_at "";refine⟨D,xs,ts,rfl,hD,rx',by rw[RT.len];exact WA,fun bb H3 S3 Z9=>?_⟩;have S03:=S2.trans S3;cases bb with
   |false =>
    walk_at "";refine⟨bG,fun p np=>?_⟩;exact k2 ts RT (fun q=>by cases Z9.mpr q) p _ (S03.trans (au np _)) (.tup aq (.cons (.str _) (.cons .non .nil)))
   |true =>
    walk_at "";refine e9 (SqL.of (S03 _ _ ha)) fun p np=>?_
    have S4:=au np (.tup (ws.map V.str));have hp:upd H3 p (.tup (ws.map V.str)) p=some (.tup (ws.map V.str)):=aq;generalize upd H3 p (.tup (ws.map V.str))=H4 at S4 hp ⊢;walk_at "";refine e9 (SqL.of (S4 _ _ (S3 _ _ hD))) fun p2 WQ=>?_
    have S5:=au WQ (.tup xs);have iY:upd H4 p2 (.tup xs) p2=some (.tup xs):=aq;generalize upd H4 p2 (.tup xs)=H5 at S5 iY ⊢;walk_at "";refine⟨bG,fun p3 XB=>?_⟩;have S6:=au XB (.tup [.ref p,.ref p2]);have S36:=S3.trans (S4.trans (S5.trans S6));exact k3 ts RT (Z9.mp rfl) p3 _ (S2.trans S36) (.tup aq (.cons (.tup (S6 _ _ (S5 _ _ hp)) (RpL.strs _)) (.cons (.tup (S6 _ _ iY) (rx'.same S36)) .nil)))
  ·obtain⟨s,es,no⟩:=R.no i ei
   have RT:qu ws ss i ts:=⟨li,fun j t ej=>R.at_ j t (by
    have lj:j<i:=by rw[<- li];exact(K_.mp ej).1
    rw[qi j lj,ej];rfl)⟩
   have ein:(os.map dO)[i]?=some Dat.none:=by rw[Ll,ei];rfl
   refine Il (ds:=os.map dO) .non A.rep oka rfl (fun _=>?_) (fun z=>absurd (Li ein) z);walk_at "";refine⟨A.ty,?_⟩;walk_at "";refine Gc (d:=.none) .non A.rep oka rfl ein (fun m lm z=>?_) (by rw[K9,R.len];walk_at "om") ?_
   ·rw[Ll,qi m lm] at z;cases e:ts[m]? with
    |none=>rw[e] at z;cases z
    |some t=>rw[e] at z;cases z
   walk_at "";refine⟨bG,fun p np=>?_⟩;exact k1 i s ts es RT no p _ (S2.trans (au np _)) (.tup aq (.cons (.str _) (.cons (.int _) .nil)))
end Tg
namespace Tg
open PySem L2 Fr G1 Sm Vs Tw Tp2 Tr
open Tr2 (Lt Hs db WdOk cU)
open PySem.W (Dat kqdOk)
def gQ(K:Fg):Sp:=fun vs H Q _=>∃(a:Addr) (v2:V) (ws:List Str) (h:List Int),vs=[.ref a,v2]/\H a=some (.lst (ws.map V.str))/\Rz K H v2 (dI h)/\sK ws/\bv ws.length h/\∀H',Same H H'->Q (.str (bP ws h)) H'
def oK(K:Fg):Sp:=fun vs H Q _=>∃(a:Addr) (v2:V) (ws:List Str) (t:Tn),vs=[.ref a,v2]/\H a=some (.lst (ws.map V.str))/\Rz K H v2 (dT t)/\sK ws/\Jg ws t/\∀H',Same H H'->Q (.str (cf ws t)) H'
def kD(K:Fg):TS:=(aF (aR (cW aA) (aO 2))
 (aF (eW (fE (ao (b_ (cM K) (ao (ag 0) aA)) aA)) (aO 3)
 (bq (bg (aE Bh (aE (bt K) (ag 1) (ag 3)) (tC (.int 0))))
 (gf (fX K "list" di (ag 2) (ao (aE (cy K) (cW (ao (tC (.str "")) (ao (aE (cy K) (ag 0) (ag 3)) (ao (aE cZ (tC (.str "2 ")) (aE (cy K) (ag 0) (ag 3))) (ao (aE cZ (tC (.str "3 ")) (aE (cy K) (ag 0) (ag 3))) aA))))) (aE (bt K) (ag 1) (ag 3))) aA)))
 bp))
 (aF (bq (bg (aE (uv K) (ag 2) (cW aA)))
 (aY (tC (.str "0")))
 bp)
 (aY (fX K "str" (kW K) (tC (.str " + ")) (ao (ag 2) aA))))))
theorem wY{K:Fg}{N:List Str}(hN:N.length=4)(h:gQ K vs H Q E):kD K (ends Q) (L2.start N vs) H:=by
 obtain⟨a,v2,ws,h,rfl,ha,r2,ow,oh,k⟩:=h;obtain⟨b,rfl,hb⟩:=vh r2;rw[L2.cu hN];walk_at "t";have w5:=ow.1;unfold kD;walk_at "";refine⟨by decide,fun l nl=>?_⟩;walk_at "";have Sl:=au nl (.lst []);refine cF (SqL.of (Sl _ _ ha)) ?_;have lm:(ws.map V.str).length=ws.length:=K9 ..;rw[lm];walk_at "";have lm':((ws.length:Nat):Int).toNat=ws.length:=by walk_at "om"
 rw[lm'];refine cO (fun i σ H2=>∃u3:Option V,σ=[some (.ref a),some (.ref b),some (.ref l),u3]/\AccZ K H l H2 ((a8 (ws.take i) (h.take i)).map Mu)) ⟨none,rfl,AccZ.start (Same.refl _) nl⟩ ?_ ?_
 ·rintro i σ H2 hi ⟨u3,rfl,A⟩;have hi2:i<h.length:=by rw[oh.1];exact hi
  have f1:ws[i]?=some ws[i]:=Ld hi;have f2:h[i]?=some h[i]:=Ld hi2;have sn:=fM f1 f2;have on:=oh.2 _ (Nb hi2);have lw:=(ow.2 _ (Nb hi)).1;generalize ws[i]=w at f1 sn lw;generalize h[i]=n at f2 sn on;have g1:(ws.map V.str)[i]?=some (.str w):=by rw[Ll,f1];rfl
  have g2:(h.map V.int)[i]?=some (.int n):=by rw[Ll,f2];rfl
  have XI:=A.same _ _ ha;have W0:=A.same _ _ hb;walk_at "";refine bu (SqT.of W0) (v:=.int n) (by rw[NT];exact ba g2) ?_;walk_at "";refine bZ (fun z=>?_) (fun z=>?_)
  ·walk_at "";refine⟨A.ty,?_⟩;walk_at "";refine cK (SqL.of XI) (v:=.str w) (by rw[NT];exact ba g1) ?_;walk_at "";refine cK (SqL.of XI) (v:=.str w) (by rw[NT];exact ba g1) ?_;refine cx (by rw[F5,Tw.szL];walk_at "om") ?_;walk_at "";refine cK (SqL.of XI) (v:=.str w) (by rw[NT];exact ba g1) ?_;refine cx (by rw[F4,Tw.szL];walk_at "om") ?_;walk_at "";refine⟨oV,fun q nq=>?_⟩;have Sq:=au nq (.lst [V.str "",.str w,.str (("2 ":Str)++w),.str (("3 ":Str)++w)]);walk_at "";refine bu (SqT.of (Sq _ _ W0)) (v:=.int n) (by rw[NT];exact ba g2) ?_;refine cK (SqL.of aq) (AE z on.2) ?_;walk_at "";refine f7 (A.on Sq) (.str (bF w n)) (bh ?_) fun H4 A4 _ _ _=>?_
   ·rw[K9]
    have:=fA (ws:=ws.take i) (h:=h.take i)
    rw[LK] at this;walk_at "om"
   walk_at "";refine⟨_,rfl,?_⟩;rw[sn,if_pos z,Lq];exact A4
  ·walk_at "";refine⟨_,rfl,?_⟩;rw[sn,if_neg z,M9];exact A
 ·rintro σ H2 ⟨u3,rfl,A⟩;rw[Ln (Lf _),Ln (by rw[oh.1];exact Lf _)] at A;walk_at "";refine⟨by decide,fun q nq=>?_⟩;have Sq:=au nq (.lst []);have A2:=A.on Sq;have hD:=AccZ.strs A2
  have okp:kqdOk 8 (.list ((a8 ws h).map Mu))=true:=by
   show(((a8 ws h).map Mu).all (kqdOk 7))=true;rw[Mp];intro x hx;obtain⟨i,hi,rfl⟩:=Lm.mp hx;exact(jl ow oh.2 hi).2
  refine CS (d:=.list ((a8 ws h).map Mu)) (e:=.list []) A2.rep (.lst (SqL.of aq) .nil) okp (by decide +kernel) (fun z=>?_) (fun z=>?_)
  ·walk_at ""
   have p:a8 ws h=[]:=by
    have:=Dat.list.inj z
    exact N6.mp this
   rw[jp p] at k;exact k _ A2.same
  ·walk_at "";have p:a8 ws h≠[]:=fun q=>z (by rw[q];rfl)
   rw[fR p] at k;refine⟨rfl,?_⟩;walk_at "";exact Ag (SqL.of hD) (sf ow oh.2) (k _ A2.same)
def kC(K:Fg):TS:=(aF (aR (b_ B_ (ao (aE (bt K) (aE (bt K) (ag 1) (tC (.int 2))) (tC (.int 0))) aA)) (aO 2))
 (aF (bq (bg (aE Bh (aE (bt K) (aE (bt K) (ag 1) (tC (.int 2))) (tC (.int 1))) (tC (.int 1))))
 (aR (aE cZ (aE cZ (ag 2) (tC (.str "/"))) (b_ B_ (ao (aE (bt K) (aE (bt K) (ag 1) (tC (.int 2))) (tC (.int 1))) aA))) (aO 2))
 bp)
 (aF (aR (aE cZ (aE cZ (bo (gQ K) [] E0 (ao (ag 0) (ao (aE (bt K) (ag 1) (tC (.int 0))) aA))) (tC (.str " -> "))) (bo (gQ K) [] E0 (ao (ag 0) (ao (aE (bt K) (ag 1) (tC (.int 1))) aA)))) (aO 3))
 (aY (aE cZ (aE cZ (ag 3) (tC (.str " @ "))) (ag 2))))))
theorem wX{K:Fg}{N:List Str}(hN:N.length=4)(h:oK K vs H Q E):kC K (ends Q) (L2.start N vs) H:=by
 obtain⟨g,v2,ws,t,rfl,hg,r2,ow,⟨o1,o2,op⟩,k⟩:=h;obtain⟨a,w1,w2,w3,rfl,ha,q1,q2,q3⟩:=lZ r2;obtain⟨c,rfl,hc⟩:=vh q3;rw[L2.cu hN];walk_at "t";have l1:=fF ow o1.2;have l2:=fF ow o2.2;have l3:=zu op;have lq:=iW (i:=t.q) (by have:=op.1;walk_at "om") op.2.2.2.1;have ld:=iW (i:=t.d) (by have:=op.2.1;walk_at "om") op.2.2.2.2;have sq:=lG (i:=t.q) (by have:=op.1;walk_at "om") op.2.2.2.1;have sd:=lG (i:=t.d) (by have:=op.2.1;walk_at "om") op.2.2.2.2
 have fin:∀D':dk,D'.rt=(ends Q).rt->(aF (aR (aE cZ (aE cZ (bo (gQ K) [] E0 (ao (ag 0) (ao (aE (bt K) (ag 1) (tC (.int 0))) aA))) (tC (.str " -> "))) (bo (gQ K) [] E0 (ao (ag 0) (ao (aE (bt K) (ag 1) (tC (.int 1))) aA)))) (aO 3))
   (aY (aE cZ (aE cZ (ag 3) (tC (.str " @ "))) (ag 2)))) D' [some (.ref g),some (.ref a),some (.str (bV t.q t.d)),none] H:=by
  intro D' eD;walk_at "";refine bu (SqT.of ha) (v:=w1) rfl ?_;walk_at "";refine⟨g,w1,ws,t.fr,rfl,hg,q1,ow,o1,fun H1 S1=>?_⟩;walk_at "";refine cx (by rw[pN,Tw.szL];walk_at "om") ?_;walk_at "";refine bu (SqT.of (S1 _ _ ha)) (v:=w2) rfl ?_;walk_at "";refine⟨g,w2,ws,t.to,rfl,S1 _ _ hg,q2.same S1,ow,o2,fun H2 S2=>?_⟩;refine cx (by rw[LC,pN,Tw.szL];walk_at "om") ?_;walk_at "";refine cx (by rw[LC,LC,pN,zS,Tw.szL];walk_at "om") ?_;walk_at "";refine cx (by rw[LC,LC,LC,pN,zS,Tw.szL];walk_at "om") ?_;rw[eD]
  have:=k H2 (S1.trans S2)
  unfold cf at this;rw[MO] at this;exact this
 unfold kC;walk_at "";refine bu (SqT.of ha) (v:=.ref c) rfl ?_;walk_at "";refine bu (SqT.of hc) (v:=.int t.q) rfl ?_;walk_at "";refine Ef sq ?_;walk_at "";refine bu (SqT.of ha) (v:=.ref c) rfl ?_;walk_at "";refine bu (SqT.of hc) (v:=.int t.d) rfl ?_;walk_at "";refine bZ (fun z=>?_) (fun z=>?_)
 ·walk_at "";refine cx (by rw[uT,Tw.szL];walk_at "om") ?_;walk_at "";refine bu (SqT.of ha) (v:=.ref c) rfl ?_;walk_at "";refine bu (SqT.of hc) (v:=.int t.d) rfl ?_;walk_at "";refine Ef sd ?_;refine cx (by rw[LC,uT,Tw.szL];walk_at "om") ?_
  have e:bO t.q++("/":Str)++bO t.d=bV t.q t.d:=by
   unfold bV;rw[if_neg (by walk_at "om"),MO]
  rw[e];exact fin _ rfl
 ·have e:bO t.q=bV t.q t.d:=by
   unfold bV;rw[if_pos (by have:=op.2.1;walk_at "om")]
  rw[e];exact fin _ rfl
theorem RowM.tt{ws:List Str}(h:RowM ws.length t):Jg ws t:=⟨h.1,h.2.1,h.2.2.1,h.2.2.2.1,h.2.2.2.2.2.2,by have:=h.2.2.2.2.1;walk_at "om",by have:=h.2.2.2.2.2.1;walk_at "om"⟩
theorem RowM.tg{ws:List Str}(h:RowM ws.length t):i9 ws t:=by
 have b:999<kA:=by unfold kA;decide +kernel
 exact⟨h.1,h.2.1,h.2.2.1,h.2.2.2.1,h.2.2.2.2.2.2,by have:=h.2.2.2.2.1;walk_at "om",by have:=h.2.2.2.2.2.1;walk_at "om"⟩
theorem CI(h:Lt w):cnt e_ w=0:=OI.mpr fun c hc=>by
 have:=h c hc
 unfold e_;rw[decide_eq_false (show ¬ c<=57 by walk_at "om"),Qj];decide
theorem By{n:Int}(h:Lt w)(h0:0<n)(h3:n<=3):cnt e_ (bF w n)<=1:=by
 have d2:cnt e_ ("2 ":Str)=1:=by decide +kernel
 have d3:cnt e_ ("3 ":Str)=1:=by decide +kernel
 rcases three h0 h3 with rfl|rfl|rfl
 ·rw[iH,CI h];walk_at "om"
 ·rw[jA,cT,CI h,d2];walk_at "om"
 ·rw[jy,cT,CI h,d3];walk_at "om"
theorem Bx{l:List Nat}(h:∀x∈l,x<=1):l.sum<=l.length:=by
 induction l with
 |nil=>simp
 |cons a r ih =>
  have h1:=h a Lg;have h2:=ih fun x hx=>h x (Lj _ hx)
  rw[QD,LS];walk_at "om"
theorem Av(ow:WdOk ws)(oh:bv ws.length h):cnt e_ (bP ws h)<=5:=by
 have w5:=ow.2.1;by_cases z:a8 ws h=[]
 ·rw[jp z,show cnt e_ ("0":Str)=1 by decide +kernel];walk_at "om"
 ·rw[fR z,Tr2.iE];have e:=iV e_ pls z;rw[show cnt e_ pls=0 by decide +kernel,Q1] at e;rw[e];refine Mh (Bx fun x hx=>?_) (by rw[K9];exact Mh fA w5);obtain⟨p,hp,rfl⟩:=Lm.mp hx;obtain⟨q,hq,e⟩:=MS.mp hp;obtain⟨m1,m2⟩:=Nk (a:=q.1) (b:=q.2) hq;by_cases y:0<q.2
  ·rw[if_pos y] at e;cases LD e
   have:=By (ow.lt _ m1) y (oh.2 _ m2).2
   walk_at "om"
  ·rw[if_neg y] at e;cases e
theorem CW{i:Int}(h0:0<=i)(h1:i<=999):(bO i).length<=3:=NC h0 (by decide) (by walk_at "om")
theorem nO(P:Nat->Bool)(s:Str):cnt P s<=s.length:=by unfold cnt;rw[<- Tp2.bY];exact SN
theorem Cu{q d:Int}(q0:0<q)(d0:0<d)(q1:q<=999)(d1:d<=999):(bV q d).length<=7/\cnt e_ (bV q d)<=6:=by
 have l1:=CW (i:=q) (by walk_at "om") q1;have l2:=CW (i:=d) (by walk_at "om") d1;have c1:=nO e_ (bO q);have c2:=nO e_ (bO d);unfold bV;split
 ·walk_at "om"
 ·rw[MO,LC,LC,uT,cT,cT,show cnt e_ ("/":Str)=0 by decide +kernel];walk_at "om"
theorem Du(ow:WdOk ws)(h:RowM ws.length t):Asc 160 16 (cf ws t):=by
 have l1:=fF ow.ok h.1.2;have l2:=fF ow.ok h.2.1.2;obtain⟨l3,c3⟩:=Cu h.2.2.1 h.2.2.2.1 h.2.2.2.2.1 h.2.2.2.2.2.1;have c1:=Av ow h.1;have c2:=Av ow h.2.1
 have z1:∀{s:Str},Hs s->cnt mW s=0:=fun {s} hs=>OI.mpr fun c hc=>by
  have:=hs c hc
  unfold mW;rw[decide_eq_true_eq];walk_at "om"
 have z3:cnt mW (bV t.q t.d)=0:=OI.mpr fun c hc=>by
  have:=zt h.tg.2.2 c hc
  unfold mW;rw[decide_eq_true_eq];walk_at "om"
 rw[cU];refine⟨?_,?_,?_⟩
 ·rw[cT,cT,cT,cT,z1 (db ow.lt h.1.2),z1 (db ow.lt h.2.1.2),z3];decide +kernel
 ·rw[vi,LC,LC,LC,LC,pN,zS];walk_at "om"
 ·rw[cT,cT,cT,cT,show cnt e_ (" -> ":Str)=0 by decide +kernel,show cnt e_ (" @ ":Str)=0 by decide +kernel];walk_at "om"
end Tg
set_option Elab.async false
set_option linter.all false
set_option maxRecDepth 100000
set_option maxHeartbeats 4000000
namespace K23
open PySem L2 Fr G1 Sm Vs Tw Tp2 Tg
open Tr (kK oF vL)
open Tr2 (WdOk fO)
open Nv (Cn cX fU f8 Rw dR qF gP gO oQ kf iJ kg kc qY j_ qW j9 qV kb qX gM kU oG vM vE yT)
open PySem.W (Dat kqdOk)
open K23H
open Ex0 Kd in
structure qr (K:Fg) (mg:Str->Option La) (x:Ad):Prop where
 v:DD K mg "VesselError" x.V
 vb:Jp K mg "VesselError" x.V
 mv:mg "ValueError"=none
 m0:mg "NoFraction"=some (.ref x.c0)
 m1:mg "NoStuffs"=some (.ref x.c1)
 m2:mg "NoHeap"=some (.ref x.c2)
 m3:mg "NoPace"=some (.ref x.c3)
 m4:mg "NoTurnings"=some (.ref x.c4)
 m5:mg "NoTurning"=some (.ref x.c5)
 m6:mg "NoText"=some (.ref x.c6)
 m7:mg "NotNow"=some (.ref x.c7)
 m8:mg "TooMany"=some (.ref x.c8)
 m9:mg "NoDrain"=some (.ref x.c9)
 m10:mg "NotEven"=some (.ref x.c10)
 m11:mg "NoStuff"=some (.ref x.c11)
 m12:mg "NoPieces"=some (.ref x.c12)
 m13:mg "NoDeed"=some (.ref x.c13)
 n1:Bf K mg "NoStuffs" x.c1 BX "ValueError.__new__"
 s1:xE K x.c1 x.V
 k1:sM K x x.c1 1
 n2:Bf K mg "NoHeap" x.c2 BX "ValueError.__new__"
 s2:xE K x.c2 x.V
 k2:sM K x x.c2 2
 n3:Bf K mg "NoPace" x.c3 BX "ValueError.__new__"
 s3:xE K x.c3 x.V
 k3:sM K x x.c3 3
 n4:Bf K mg "NoTurnings" x.c4 BX "ValueError.__new__"
 s4:xE K x.c4 x.V
 k4:sM K x x.c4 4
 i6:∃f,ExcI K mg "NoText" x.c6 f
 h6:xG K x.c6
 f6:sP K x.c6 "at"
 s6:xE K x.c6 x.V
 k6:sM K x x.c6 6
def RK (x:Ex0.Ad) (C:Addr) (nm:Str):Prop:=(C=x.c1/\nm = "NoStuffs")\/(C=x.c2/\nm = "NoHeap")\/(C=x.c3/\nm = "NoPace")\/(C=x.c4/\nm = "NoTurnings")\/(C=x.c6/\nm = "NoText")
def t_(x:Ex0.Ad):Sp:=fun vs H Q _=>∃(e C:Addr) (nm:Str),vs=[.ref e]/\ExH H e C/\RK x C nm/\∀(p:Addr) (H':Hp),Same H H'->H' p=some (.lst [.str nm])->Q (.ref p) H'
theorem BY{K:Fg}(T:qr K mg x){N:List Str}(hN:N.length=2)(h:t_ x vs H Q E):Ex0.ye K x (G1.ends Q) (L2.start N vs) H:=by
 obtain⟨e,C,nm,rfl,he,rk,k⟩:=h;rw[L2.cu hN];walk_at "t";rcases rk with⟨rfl,rfl⟩|⟨rfl,rfl⟩|⟨rfl,rfl⟩|⟨rfl,rfl⟩|⟨rfl,rfl⟩
 ·exact Ex0.iL T.k1 (by decide) he k
 ·exact Ex0.iL T.k2 (by decide) he k
 ·exact Ex0.iL T.k3 (by decide) he k
 ·exact Ex0.iL T.k4 (by decide) he k
 ·exact Ex0.iL T.k6 (by decide) he k
def TP(K:Fg)(x:Ex0.Ad)(ws ss:List Str)(H':Hp)(v1 v2:V):Prop :=
 (¬ cX ws/\v1=.non/\∃e,v2=.ref e/\H' e=some (vf e x.c1)) \/
 (cX ws/\∃(i:Nat) (s:Str) (ts:List Tn),ss[i]?=some s/\qu ws ss i ts/\(∀t,i9 ws t->cf ws t≠s)/\v1=.non/\∃e dx,v2=.ref e/\H' e=some (xx e x.c6 dx)/\H' dx=some (.xd [("at",.int (i:Int))])) \/
 (cX ws/\∃ts,qu ws ss ss.length ts/\¬ fU ts/\v1=.non/\∃e,v2=.ref e/\H' e=some (vf e x.c4)) \/
 (cX ws/\∃ts,qu ws ss ss.length ts/\fU ts/\v2=.non/\Rz K H' v1 (dV ws ts))
def ym(K:Fg)(x:Ex0.Ad):Sp:=fun vs H Q _=>∃(a b:Addr) (ws ss:List Str),vs=[.ref a,.ref b]/\SqL K H a (ws.map V.str)/\SqL K H b (ss.map V.str)/\(∀w∈ws,f8 w)/\ws.length<=20/\(∀s∈ss,Asc 1900 300 s)/\ss.length<=12 /\
 ∀(p:Addr) (H':Hp) (v1 v2:V),Same H H'->H' p=some (.tup [v1,v2])->TP K x ws ss H' v1 v2->Q (.ref p) H'
def xR(K:Fg)(x:Ex0.Ad):TS:=(aF (aR (tC .non) (aO 2))
 (aF (aR (tC .non) (aO 3))
 (aF (G_ K (tU K x) x.V 3 4 2 (ao (ag 0) (ao (ag 1) aA)))
 (aY (cV (ao (ag 3) (ao (ag 2) aA)))))))
theorem E_{K:Fg}(T:qr K mg x){N:List Str}(hN:N.length=5)(h:ym K x vs H Q E):xR K x (ends Q) (L2.start N vs) H:=by
 obtain⟨a,b,ws,ss,rfl,ha,hb,pl,XF,as,WA,k⟩:=h;rw[L2.cu hN];walk_at "t";unfold xR;walk_at "";refine⟨_,rfl,_,rfl,a,b,ws,ss,rfl,ha,hb,pl,XF,as,WA,T.h6,T.f6,fun no H' S'=>?_,fun so i s ts es R nn dx H' S' hd=>?_,fun so ts R nc H' S'=>?_,fun so ts R ck p H' S' rp=>?_⟩
 ·refine⟨x.c1,rfl,T.s1,fun ex nx=>?_⟩;have Sx:=au nx (vf ex x.c1);walk_at "";refine⟨bG,fun q nq=>?_⟩;exact k q _ .non (.ref ex) (S'.trans (Sx.trans (au nq _))) aq (.inl ⟨no,rfl,ex,rfl,(au nq _) _ _ aq⟩)
 ·refine⟨x.c6,rfl,T.s6,fun ex nx=>?_⟩;have Sx:=au nx (xx ex x.c6 dx);walk_at "";refine⟨bG,fun q nq=>?_⟩;exact k q _ .non (.ref ex) (S'.trans (Sx.trans (au nq _))) aq (.inr (.inl ⟨so,i,s,ts,es,R,nn,rfl,ex,dx,rfl,(au nq _) _ _ aq,(au nq _) _ _ (Sx _ _ hd)⟩))
 ·refine⟨x.c4,rfl,T.s4,fun ex nx=>?_⟩;have Sx:=au nx (vf ex x.c4);walk_at "";refine⟨bG,fun q nq=>?_⟩;exact k q _ .non (.ref ex) (S'.trans (Sx.trans (au nq _))) aq (.inr (.inr (.inl ⟨so,ts,R,nc,rfl,ex,rfl,(au nq _) _ _ aq⟩)))
 ·walk_at "";refine⟨bG,fun q nq=>?_⟩;exact k q _ (.ref p) .non (S'.trans (au nq _)) aq (.inr (.inr (.inr ⟨so,ts,R,ck,rfl,rp.same (au nq _)⟩)))
inductive Ou
 |ns
 |nt (i:Nat)
 |nc
 |ok (ts:List Tn)
def DB(ws ss:List Str):Ou->Prop
 |.ns=>¬ cX ws
 |.nt i=>cX ws/\∃(s:Str) (ts:List Tn),ss[i]?=some s/\qu ws ss i ts/\∀t,i9 ws t->cf ws t≠s
 |.nc=>cX ws/\∃ts,qu ws ss ss.length ts/\¬ fU ts
 |.ok ts=>cX ws/\qu ws ss ss.length ts/\fU ts
def dD(ws:List Str):Ou->Dat
 |.ns=>.tuple [.str "NoStuffs",.none]
 |.nt i=>.tuple [.str "NoText",.int (i:Int)]
 |.nc=>.tuple [.str "NoTurnings",.none]
 |.ok ts=>dV ws ts
theorem jj{ss:List Str}{i:Nat}{s:Str}(es:ss[i]?=some s)(no:∀t,i9 ws t->cf ws t≠s)(R:qu ws ss j us):j<=i:=NF fun z=>by
 have l:i<us.length:=by rw[R.len];walk_at "om"
 obtain⟨o,e⟩:=R.at_ i _ (Ld l);rw[es] at e;exact no _ o (LD e).symm
theorem o7(so:cX ws)(R:qu ws ss j ts)(R':qu ws ss j us):ts=us:=by
 refine Pa fun i=>?_
 by_cases l:i<j
 ·have e1:ts[i]?=some (ts[i]'(by rw[R.len];exact l)):=Ld _;have e2:us[i]?=some (us[i]'(by rw[R'.len];exact l)):=Ld _;obtain⟨o1,q1⟩:=R.at_ i _ e1;obtain⟨o2,q2⟩:=R'.at_ i _ e2;rw[q1] at q2;rw[e1,e2,Bp (tP so) o1 o2 (LD q2)]
 ·rw[Nc.mpr (by rw[R.len];walk_at "om"),Nc.mpr (by rw[R'.len];walk_at "om")]
theorem vZ{ws ss:List Str}:∀{o o':Ou},DB ws ss o->DB ws ss o'->o=o'
 |.ns,.ns,_,_=>rfl
 |.ns,.nt _,h,h'=>absurd h'.1 h
 |.ns,.nc,h,h'=>absurd h'.1 h
 |.ns,.ok _,h,h'=>absurd h'.1 h
 |.nt _,.ns,h,h'=>absurd h.1 h'
 |.nc,.ns,h,h'=>absurd h.1 h'
 |.ok _,.ns,h,h'=>absurd h.1 h'
 |.nt i,.nt j,⟨_,s,ts,es,R,no⟩,⟨_,s',WE,Wm,R',no'⟩=>by rw[Nat.le_antisymm (jj Wm no' R) (jj es no R')]
 |.nt i,.nc,⟨_,s,ts,es,R,no⟩,⟨_,us,R',_⟩=>by
  have:=jj es no R'
  have:=(K_.mp es).1
  walk_at "om"
 |.nt i,.ok us,⟨_,s,ts,es,R,no⟩,⟨_,R',_⟩=>by
  have:=jj es no R'
  have:=(K_.mp es).1
  walk_at "om"
 |.nc,.nt i,⟨_,us,R',_⟩,⟨_,s,ts,es,R,no⟩=>by
  have:=jj es no R'
  have:=(K_.mp es).1
  walk_at "om"
 |.ok us,.nt i,⟨_,R',_⟩,⟨_,s,ts,es,R,no⟩=>by
  have:=jj es no R'
  have:=(K_.mp es).1
  walk_at "om"
 |.nc,.nc,_,_=>rfl
 |.nc,.ok us,⟨so,ts,R,nc⟩,⟨_,R',ck⟩=>absurd (o7 so R' R ▸ ck) nc
 |.ok us,.nc,⟨_,R',ck⟩,⟨so,ts,R,nc⟩=>absurd (o7 so R' R ▸ ck) nc
 |.ok ts,.ok us,⟨so,R,_⟩,⟨_,R',_⟩=>by rw[o7 so R R']
theorem JT{ts:List Tn}(so:cX ws)(lt:ts.length<=12)(ot:∀t∈ts,i9 ws t):zD 4 (dV ws ts)=true:=by
 have w5:=so.1.2;refine zB (by show 2<=1000;decide) fun d hd=>?_
 rcases Lr.mp hd with rfl|hd
 ·refine zB (by rw[K9];walk_at "om") fun d hd=>?_
  obtain⟨w,_,rfl⟩:=Lm.mp hd;rfl
 ·rw[Lw.mp hd];refine zB (by rw[K9];walk_at "om") fun d hd=>?_
  obtain⟨t,ht,rfl⟩:=Lm.mp hd;obtain⟨o1,o2,_⟩:=ot t ht;refine zB (by show 3<=1000;decide) fun d hd=>?_
  simp only[Lr,L_,or_false] at hd;rcases hd with rfl|rfl|rfl
  ·exact Cg.zC _ 0 (by rw[o1.1];walk_at "om")
  ·exact Cg.zC _ 0 (by rw[o2.1];walk_at "om")
  ·exact Cg.zC _ 0 (by show 2<=1000;decide)
def EM(K:Fg)(x:Ex0.Ad):TS:=(aF (aR (bo (ym K x) [] E0 (ao (ag 2) (ao (ag 8) aA))) (xu K 2 (lU (aO 14) (lU (aO 15) xw))))
 (aF (bq (bg (aE jk (ag 15) (tC .non)))
 (aY (bo (g9 K 4) [] E0 (ao (ag 14) (ao (ag 13) aA))))
 bp)
 (aF (bq (bg (aE (Cd K) (bo (t_ x) [] E0 (ao (ag 15) aA)) (cW (ao (aE (bt K) (ag 13) (tC (.int 0))) aA))))
 (aY (tC (.bl false)))
 bp)
 (aY (EN (aE w4 (aE (bt K) (ag 13) (tC (.int 0))) (tC (.str "NoText"))) (mF (bo je [] E0 (ao (ES K (ag 15) "at") aA)) (aE fq (ES K (ag 15) "at") (aE (bt K) (ag 13) (tC (.int 1))))))))))
theorem DU{K:Fg}(T:qr K mg x){H:Hp}{Q:VK}{ws ss:List Str}{u0 u1 u3 u4 u5 u6 u7 u9 Ws Wt WZ:Option V}(hw:H wa=some (.lst (ws.map V.str)))(ht:H tb=some (.lst (ss.map V.str)))(pl:∀w∈ws,f8 w)(XF:ws.length<=20)(as:∀s∈ss,Asc 1900 300 s)(WA:ss.length<=12)(oo:DB ws ss o)(rd:Rz K H dv (dD ws o))(k:∀H',Q (.bl true) H') :
  EM K x (ends Q) [u0,u1,some (.ref wa),u3,u4,u5,u6,u7,some (.ref tb),u9,Ws,Wt,WZ,some dv,none,none] H:=by
 unfold EM;walk_at "";refine⟨wa,tb,ws,ss,rfl,SqL.of hw,SqL.of ht,pl,XF,as,WA,fun pt H5 v1 v2 S5 hp5 tp=>?_⟩;have rd5:=rd.same S5;walk_at "";refine wg (SqT.of hp5) rfl ?_;walk_at "";rcases tp with⟨no,rfl,ex,rfl,he⟩|⟨so,i,s,ts,es,R,nn,rfl,ex,dx,rfl,he,hd⟩|⟨so,ts,R,nc,rfl,ex,rfl,he⟩|⟨so,ts,R,ck,rfl,r1⟩
 ·have eo:o=.ns:=vZ oo no;subst eo;obtain⟨q,xs,rfl,hq,rx⟩:=(show Rz K H5 dv (.tuple [.str "NoStuffs",.none]) from rd5).fj;obtain⟨w1,e1,q1⟩:=rx.get' (i:=0) (d:=.str "NoStuffs") rfl;cases q1;rw[decide_eq_false (fun z:V.ref ex=V.non=>by cases z)];walk_at "";refine⟨ex,x.c1,"NoStuffs",rfl,.of he,.inl ⟨rfl,rfl⟩,fun pk H6 S6 hk=>?_⟩;walk_at "";refine bu (SqT.of (S6 _ _ hq)) (ba (j:=0) e1) ?_;walk_at "";refine⟨ib,fun q2 XC=>?_⟩;have S7:=au XC (.lst [.str "NoStuffs"]);have Xi:=S6.trans S7;have ok:kqdOk 8 (.list [.str "NoStuffs"])=true:=by decide +kernel
  refine CO (d:=.list [.str "NoStuffs"]) (e:=.list [.str "NoStuffs"]) (.lst (SqL.of (S7 _ _ hk)) (.cons (.str _) .nil)) (.lst (SqL.of aq) (.cons (.str _) .nil)) ok ok (fun z=>absurd rfl z) (fun _=>?_);walk_at "";refine bu (SqT.of (Xi _ _ hq)) (ba (j:=0) e1) ?_;walk_at "";refine Tr2.u8 ?_;rw[show(!decide (("NoStuffs":Str) = "NoText"))=true by decide +kernel];walk_at "";exact k _
 ·have eo:o=.nt i:=vZ oo ⟨so,s,ts,es,R,nn⟩;subst eo;obtain⟨q,xs,rfl,hq,rx⟩:=(show Rz K H5 dv (.tuple [.str "NoText",.int (i:Int)]) from rd5).fj;obtain⟨w1,e1,q1⟩:=rx.get' (i:=0) (d:=.str "NoText") rfl;cases q1;obtain⟨w2,e2,q2⟩:=rx.get' (i:=1) (d:=.int (i:Int)) rfl;cases q2;rw[decide_eq_false (fun z:V.ref ex=V.non=>by cases z)];walk_at "";refine⟨ex,x.c6,"NoText",rfl,.ofD he,.inr (.inr (.inr (.inr ⟨rfl,rfl⟩))),fun pk H6 S6 hk=>?_⟩;walk_at "";refine bu (SqT.of (S6 _ _ hq)) (ba (j:=0) e1) ?_;walk_at "";refine⟨ib,fun q2 XC=>?_⟩;have S7:=au XC (.lst [.str "NoText"]);have Xi:=S6.trans S7;have ok:kqdOk 8 (.list [.str "NoText"])=true:=by decide +kernel
  refine CO (d:=.list [.str "NoText"]) (e:=.list [.str "NoText"]) (.lst (SqL.of (S7 _ _ hk)) (.cons (.str _) .nil)) (.lst (SqL.of aq) (.cons (.str _) .nil)) ok ok (fun z=>absurd rfl z) (fun _=>?_);walk_at "";refine bu (SqT.of (Xi _ _ hq)) (ba (j:=0) e1) ?_;walk_at "";refine Tr2.u8 ?_;rw[show(!decide (("NoText":Str) = "NoText"))=false by decide +kernel];walk_at "";refine⟨_,rfl,ex,x.c6,dx,_,_,rfl,Xi _ _ he,Xi _ _ hd,T.k6.1,T.f6,rfl,?_⟩;refine⟨(i:Int),rfl,?_⟩;walk_at "";refine⟨_,rfl,ex,x.c6,dx,_,_,rfl,Xi _ _ he,Xi _ _ hd,T.k6.1,T.f6,rfl,?_⟩;walk_at "";refine bu (SqT.of (Xi _ _ hq)) (ba (j:=1) e2) ?_;walk_at "";rw[decide_eq_true rfl];exact k _
 ·have eo:o=.nc:=vZ oo ⟨so,ts,R,nc⟩;subst eo;obtain⟨q,xs,rfl,hq,rx⟩:=(show Rz K H5 dv (.tuple [.str "NoTurnings",.none]) from rd5).fj;obtain⟨w1,e1,q1⟩:=rx.get' (i:=0) (d:=.str "NoTurnings") rfl;cases q1;rw[decide_eq_false (fun z:V.ref ex=V.non=>by cases z)];walk_at "";refine⟨ex,x.c4,"NoTurnings",rfl,.of he,.inr (.inr (.inr (.inl ⟨rfl,rfl⟩))),fun pk H6 S6 hk=>?_⟩;walk_at "";refine bu (SqT.of (S6 _ _ hq)) (ba (j:=0) e1) ?_;walk_at "";refine⟨ib,fun q2 XC=>?_⟩;have S7:=au XC (.lst [.str "NoTurnings"]);have Xi:=S6.trans S7;have ok:kqdOk 8 (.list [.str "NoTurnings"])=true:=by decide +kernel
  refine CO (d:=.list [.str "NoTurnings"]) (e:=.list [.str "NoTurnings"]) (.lst (SqL.of (S7 _ _ hk)) (.cons (.str _) .nil)) (.lst (SqL.of aq) (.cons (.str _) .nil)) ok ok (fun z=>absurd rfl z) (fun _=>?_);walk_at "";refine bu (SqT.of (Xi _ _ hq)) (ba (j:=0) e1) ?_;walk_at "";refine Tr2.u8 ?_;rw[show(!decide (("NoTurnings":Str) = "NoText"))=true by decide +kernel];walk_at "";exact k _
 ·have eo:o=.ok ts:=vZ oo ⟨so,R,ck⟩;subst eo;rw[decide_eq_true (rfl:V.non=V.non)];walk_at "";refine⟨v1,dv,_,_,rfl,r1.a,(show Rz K H5 dv (dV ws ts) from rd5).a,JT so (by rw[R.len];exact WA) (fun t ht=>?_),fun _=>k _,fun z=>absurd rfl z⟩;obtain⟨j,ej⟩:=M6 ht;exact(R.at_ j t ej).1
theorem Dk(ws:List Str)(lo hi:Option Int):∃cs:List Str,g6 (ws.map V.str) lo hi=cs.map V.str/\cs.length<=ws.length/\∀c∈cs,c∈ws:=by
 refine⟨(ws.drop (HT.sIx (ws.map V.str).length 0 lo)).take (HT.sIx (ws.map V.str).length (ws.map V.str).length hi-HT.sIx (ws.map V.str).length 0 lo),?_,?_,fun c hc=>Ow (Ox hc)⟩
 ·unfold g6;rw[TW,List.map_drop]
 ·rw[LK,M_];walk_at "om"
theorem CD{w:Str}:Nv.isWb (w ++ "A")=false:=by
 unfold Nv.isWb;rw[Bool.and_eq_false_iff];right;rw[List.all_eq_false];refine⟨Nv.letter 65,Lm.mpr ⟨65,?_,rfl⟩,by decide⟩;show 65∈cl (w ++ "A");rw[bK];exact LH _ (by decide +kernel)
theorem Bz(so:cX ws):∀w∈ws,f8 w:=fun w hw=>by
 obtain⟨lt,l8⟩:=(tP so).2.2 w hw;refine⟨?_,Mh l8 (by decide)⟩;rw[MH];intro c hc
 have:=lt c (by simpa using hc)
 exact decide_eq_true (by walk_at "om")
theorem FA(h:f8 w) (l:w.length<=8):f8 (w ++ "A"):=by
 refine⟨?_,?_⟩
 ·show(w.cps++("A":Str).cps).all _=true;rw[UW,h.1];decide +kernel
 ·have:=LC w "A"
  rw[show("A":Str).length=1 by decide +kernel] at this;show(w ++ "A").length<=800;walk_at "om"
def EH(K:Fg)(x:Ex0.Ad):TS:=(aF (bq (bg (aE fq (aE bB (aE ft (ag 7) (tC (.int 4))) (tC (.int 8))) (tC (.int 1))))
 (aF (aR (aE (cy K) (cW (ao (aE Hu (jb (o9 K) (ag 2) bT (dA (tC (.int 1)))) (tC (.int 2))) (ao (cW aA) (ao (aE mL (jb (o9 K) (ag 2) bT (dA (DK (rU fun i=>.int (-i)) (tC (.int 1))))) (cW (ao (aE cZ (aE (cy K) (ag 2) (DK (rU fun i=>.int (-i)) (tC (.int 1)))) (tC (.str "A"))) aA))) aA)))) (aE bB (aE ft (ag 7) (tC (.int 32))) (tC (.int 3)))) (aO 2))
 (aR (cV (ao (tC (.str "NoStuffs")) (ao (tC .non) aA))) (aO 13)))
 bp)
 (EM K x))
theorem Fh{K:Fg}(T:qr K mg x){H:Hp}{Q:VK}{ws ss:List Str}{u0 u1 u3 u4 u5 u6 u9 Ws Wt WZ:Option V}(hw:H wa=some (.lst (ws.map V.str)))(ht:H tb=some (.lst (ss.map V.str)))(so:cX ws)(as:∀s∈ss,Asc 1900 300 s)(WA:ss.length<=12)(oo:DB ws ss o)(rd:Rz K H dv (dD ws o))(k:∀H',Q (.bl true) H') :
  EH K x (ends Q) [u0,u1,some (.ref wa),u3,u4,u5,u6,some (.int c),some (.ref tb),u9,Ws,Wt,WZ,some dv,none,none] H:=by
 have w5:=so.1.2;have wpl:=Bz so
 obtain⟨w0,wr,ew⟩:∃w0 wr,ws=w0 :: wr:=by
  cases ws with
  |nil=>exact absurd so.1.1 (by decide)
  |cons a b=>exact⟨a,b,rfl⟩
 obtain⟨wi,wl,el⟩:∃wi wl,ws=wi++[wl]:=by
  rcases Qn ws with z|⟨a,b,z⟩
  ·rw[ew] at z;cases z
  ·exact⟨a,b,by rw[z,Qo]⟩
 have lwl:wl.length<=8:=((tP so).2.2 wl (by rw[el];exact LH _ Lg)).2;have pwl:=wpl wl (by rw[el];exact LH _ Lg);have pw0:=wpl w0 (by rw[ew];exact Lg);unfold EH;walk_at "";refine bZ (fun _=>?_) (fun _=>?_)
 ·walk_at "";refine⟨wa,_,rfl,SqL.of hw,fun p1 np1=>?_⟩;rw[Nv.qg (by decide),show(ws.map V.str).take (1:Int).toNat=[V.str w0] by rw[ew];rfl];have S1:=au np1 (.lst [V.str w0]);have h1:upd H p1 (.lst [V.str w0]) p1=some (.lst [V.str w0]):=aq;generalize upd H p1 (.lst [V.str w0])=H1 at S1 h1 ⊢;walk_at "";refine⟨p1,2,_,rfl,rfl,h1,by decide,by decide,by show 1*2<=sizeLine;decide,fun p2 WQ=>?_⟩;rw[show(LG (2:Int).toNat [V.str w0]).flatten=[w0,w0].map V.str from rfl];have S2:=S1.trans (au WQ (.lst ([w0,w0].map V.str)));have h2:upd H1 p2 (.lst ([w0,w0].map V.str)) p2=some (.lst ([w0,w0].map V.str)):=aq;generalize upd H1 p2 (.lst ([w0,w0].map V.str))=H2 at S2 h2 ⊢;walk_at "";refine⟨by decide,fun p3 XB=>?_⟩;have S3':=au XB (.lst []);have h3:upd H2 p3 (.lst []) p3=some (.lst (([]:List Str).map V.str)):=aq;have S3:=S2.trans S3';have h23:=S3' _ _ h2;generalize upd H2 p3 (.lst [])=H3 at S3 h3 h23 ⊢;obtain⟨cs,ec,lc,mc⟩:=Dk ws none (some (-1));walk_at "";refine⟨wa,_,rfl,SqL.of (S3 _ _ hw),fun p4 np4=>?_⟩;rw[ec];have YC:=au np4 (.lst (cs.map V.str));have h4:upd H3 p4 (.lst (cs.map V.str)) p4=some (.lst (cs.map V.str)):=aq;have S4:=S3.trans YC;have h24:=YC _ _ h23;have h34:=YC _ _ h3;generalize upd H3 p4 (.lst (cs.map V.str))=H4 at S4 h4 h24 h34 ⊢;walk_at "";refine cK (SqL.of (S4 _ _ hw)) (v:=.str wl) (by rw[el,Lq];exact L2.Dt _ _) ?_;walk_at "";refine cx (by rw[show("A":Str).length=1 by decide +kernel,Tw.szL];walk_at "om") ?_;walk_at "";refine⟨ib,fun p5 np5=>?_⟩;have ZZ:=au np5 (.lst [V.str (wl ++ "A")]);have h5:upd H4 p5 (.lst [V.str (wl ++ "A")]) p5=some (.lst [V.str (wl ++ "A")]):=aq;have S5:=S4.trans ZZ;have h25:=ZZ _ _ h24;have h35:=ZZ _ _ h34;have h45:=ZZ _ _ h4;generalize upd H4 p5 (.lst [V.str (wl ++ "A")])=H5 at S5 h5 h25 h35 h45 ⊢;refine⟨p4,p5,_,_,rfl,rfl,h45,h5,by rw[K9,Tw.szL,Mt];walk_at "om",fun p6 np6=>?_⟩;rw[show cs.map V.str++[V.str (wl ++ "A")]=(cs++[wl ++ "A"]).map V.str by rw[Lq];rfl];have XW:=au np6 (.lst ((cs++[wl ++ "A"]).map V.str));have h6:upd H5 p6 (.lst ((cs++[wl ++ "A"]).map V.str)) p6=some (.lst ((cs++[wl ++ "A"]).map V.str)):=aq;have S6:=S5.trans XW;have h26:=XW _ _ h25;have h36:=XW _ _ h35;generalize upd H5 p6 (.lst ((cs++[wl ++ "A"]).map V.str))=H6 at S6 h6 h26 h36 ⊢;walk_at "";refine⟨dS,fun p7 np7=>?_⟩;have S7':=au np7 (.lst [.ref p2,.ref p3,.ref p6]);have S7:=S6.trans S7'
  obtain⟨v,us,ev,hv,bad,pu,lu⟩:∃(v:Addr) (us:List Str),i8 [V.ref p2,.ref p3,.ref p6] (c / 32 % 3)=some (.ref v)/\H6 v=some (.lst (us.map V.str))/\¬ cX us/\(∀u∈us,f8 u)/\us.length<=20:=by
   have:c / 32 % 3=0\/c / 32 % 3=1\/c / 32 % 3=2:=by walk_at "om"
   rcases this with z|z|z <;> rw[z]
   ·refine⟨p2,[w0,w0],rfl,h26,fun q=>?_,fun u hu=>?_,by show 2<=20;decide⟩
    ·have:=q.2.2
     simp at this
    ·simp only[Lr,L_,or_false] at hu;rcases hu with rfl|rfl <;> exact pw0
   ·exact⟨p3,[],rfl,h36,fun q=>absurd q.1.1 (by decide),fun u hu=>(by cases hu),by decide⟩
   ·refine⟨p6,cs++[wl ++ "A"],rfl,h6,fun q=>?_,fun u hu=>?_,by rw[LU,Mt];walk_at "om"⟩
    ·have:=q.2.1 (wl ++ "A") (LH _ Lg)
     rw[CD] at this;cases this
    ·rcases L5.mp hu with hu|hu
     ·exact wpl u (mc u hu)
     ·rw[Lw.mp hu];exact FA pwl lwl
  have hv7:=S7' _ _ hv;walk_at "";refine cK (SqL.of aq) ev ?_;generalize upd H6 p7 (.lst [.ref p2,.ref p3,.ref p6])=H7 at S7 hv7 ⊢;walk_at "";refine⟨bG,fun p8 np8=>?_⟩;have S8':=au np8 (.tup [.str "NoStuffs",.non]);have S8:=S7.trans S8';have r8:Rz K (upd H7 p8 (.tup [.str "NoStuffs",.non])) (.ref p8) (dD us .ns):=.tup aq (.cons (.str _) (.cons .non .nil));have hv8:=S8' _ _ hv7;generalize upd H7 p8 (.tup [.str "NoStuffs",.non])=H8 at S8 r8 hv8 ⊢;refine gy ?_;exact DU T hv8 (S8 _ _ ht) pu lu as WA (o:=.ns) bad r8 k
 ·exact DU T hw ht wpl (by walk_at "om") as WA oo rd k
def EI(K:Fg)(x:Ex0.Ad):TS:=(aF (aR (bo (yu K) [] E0 (ao (ag 2) (ao (ag 8) aA))) (aO 13))
 (EH K x))
theorem JH{K:Fg}(T:qr K mg x){H:Hp}{Q:VK}{ws ss:List Str}{u0 u1 u3 u4 u5 u6 u9 Ws Wt WZ:Option V}(hw:H wa=some (.lst (ws.map V.str)))(ht:H tb=some (.lst (ss.map V.str)))(so:cX ws)(as:∀s∈ss,Asc 1900 300 s)(WA:ss.length<=12)(k:∀H',Q (.bl true) H') :
  EI K x (ends Q) [u0,u1,some (.ref wa),u3,u4,u5,u6,some (.int c),some (.ref tb),u9,Ws,Wt,WZ,none,none,none] H:=by
 unfold EI;walk_at "";refine⟨wa,tb,ws,ss,rfl,hw,ht,tP so,as,WA,fun i s ts es R no p H' S' rp=>?_,fun ts R nc p H' S' rp=>?_,fun ts R ck p H' S' rp=>?_⟩ <;> refine gy ?_
 ·exact Fh T (S' _ _ hw) (S' _ _ ht) so as WA (o:=.nt i) ⟨so,s,ts,es,R,no⟩ rp k
 ·exact Fh T (S' _ _ hw) (S' _ _ ht) so as WA (o:=.nc) ⟨so,ts,R,nc⟩ rp k
 ·exact Fh T (S' _ _ hw) (S' _ _ ht) so as WA (o:=.ok ts) ⟨so,R,ck⟩ rp k
def bd:Nat->Nat
 |0=>160
 |1=>520
 |_=>1600
def dg:Nat->Nat
 |0=>16
 |1=>56
 |_=>176
theorem Je(h:Asc m n s):NU s=true:=by
 unfold NU;rw[MH];intro c hc
 have:=MH.mp h.all c hc
 have:=of_decide_eq_true this
 exact decide_eq_true (by walk_at "om")
def EJ(K:Fg)(x:Ex0.Ad):TS:=(aF (eW (fE (ao (tC (.int 2)) aA)) (aO 9)
 (aF (aR (bo (fo K) [] E0 (ao (ag 0) (ao (aE bW (tC (.int 23)) (aE (rI CMul fun i j=>.int (i*j)) (tC (.int 3)) (ag 9))) aA))) (aO 10))
 (bq (Bw (bg (aE (Cd K) (ag 8) (cW aA))) (bg (aE fq (aE bB (ag 10) (tC (.int 3))) (aE bW (tC (.int 1)) (ag 9)))))
 (aF (aR (aE bB (aE ft (ag 10) (tC (.int 3))) (b_ (cM K) (ao (ag 8) aA))) (aO 11))
 (aF (aR (bo (fo K) [] E0 (ao (ag 0) (ao (aE bW (tC (.int 24)) (aE (rI CMul fun i j=>.int (i*j)) (tC (.int 3)) (ag 9))) aA))) (aO 12))
 (aR (bo (yy K) [] E0 (ao (ag 2) (ao (aE (cy K) (ag 8) (ag 11)) (ao (ag 12) (ao (bo (fo K) [] E0 (ao (ag 0) (ao (aE bW (tC (.int 25)) (aE (rI CMul fun i j=>.int (i*j)) (tC (.int 3)) (ag 9))) aA))) aA))))) (C6 (ag 8) (ag 11) Fs))))
 bp)))
 (EI K x))
theorem JI{K:Fg}(T:qr K mg x){Q:VK}{ns:List Int}{ws ss:List Str}{u1 u3 u4 u5 u6:Option V}(S0:Same H0 H)(nt:H0 tb=none)(hS:SqL K H0 sa (ns.map V.int))(hw:H0 wa=some (.lst (ws.map V.str)))(ht:H tb=some (.lst (ss.map V.str)))(so:cX ws)(as:∀s∈ss,Asc 160 16 s)(WA:ss.length<=12)(k:∀H',Q (.bl true) H') :
  EJ K x (ends Q) [some (.ref sa),u1,some (.ref wa),u3,u4,u5,u6,some (.int c),some (.ref tb),none,none,none,none,none,none,none] H:=by
 have wd:=tP so
 have wa8:∀w∈ws,Asc 8 0 w:=fun w hw=>by
  obtain⟨lt,l8⟩:=wd.2.2 w hw;exact Asc.of (fun c hc=>by have:=lt c hc;walk_at "om") l8 (Uo (CI lt))
 have Yz:ws≠[]:=fun z=>absurd so.1.1 (by rw[z];decide)
 unfold EJ;walk_at "";refine cO (fun i σ H2=>∃(u9 Ws Wt WZ:Option V) (Wv:List Str),σ=[some (.ref sa),u1,some (.ref wa),u3,u4,u5,u6,some (.int c),some (.ref tb),u9,Ws,Wt,WZ,none,none,none]/\Same H0 H2/\H2 tb=some (.lst (Wv.map V.str))/\Wv.length<=12/\∀s∈Wv,Asc (bd i) (dg i) s) ⟨none,none,none,none,ss,rfl,S0,ht,WA,as⟩ ?_ ?_
 ·rintro i σ H2 hi ⟨u9,Ws,Wt,WZ,Wv,rfl,S2,ht2,XR,XG⟩;have i2:i=0\/i=1:=by have:i<2:=hi;walk_at "om"
  walk_at "";refine⟨sa,ns,_,rfl,S2.seq hS,by walk_at "om",?_⟩;generalize cellOf ns _=cell;walk_at "";refine⟨by decide,fun q nq=>?_⟩;have Sq:=au nq (.lst []);have hq:upd H2 q (.lst []) q=some (.lst []):=aq;have Xm:=Sq _ _ ht2;have S3:=S2.trans Sq;generalize upd H2 q (.lst [])=H3 at Sq hq Xm S3 ⊢
  have next:∀(u9 Ws Wt WZ:Option V),∃(v9 v10 v11 v12:Option V) (Yo:List Str),[some (.ref sa),u1,some (.ref wa),u3,u4,u5,u6,some (.int c),some (.ref tb),u9,Ws,Wt,WZ,none,none,none]=[some (.ref sa),u1,some (.ref wa),u3,u4,u5,u6,some (.int c),some (.ref tb),v9,v10,v11,v12,none,none,none]/\Same H0 H3/\H3 tb=some (.lst (Yo.map V.str))/\Yo.length<=12/\∀s∈Yo,Asc (bd (i+1)) (dg (i+1)) s:=fun u9 Ws Wt WZ=>⟨u9,Ws,Wt,WZ,Wv,rfl,S3,Xm,XR,fun s hs=>by
   rcases i2 with rfl|rfl
   ·exact(XG s hs).more (by decide) (by decide)
   ·exact(XG s hs).more (by decide) (by decide)⟩
  have okl:kqdOk 8 (.list (Wv.map Mu))=true:=by
   show((Wv.map Mu).all (kqdOk 7))=true;rw[Mp];intro d hd;obtain⟨s,hs,rfl⟩:=Lm.mp hd;exact Je (XG s hs)
  refine CO (d:=.list (Wv.map Mu)) (e:=.list []) (.lst (SqL.of Xm) (RepL.strs _)) (.lst (SqL.of hq) .nil) okl (by decide +kernel) (fun z=>?_) (fun z=>?_)
  ·have ne:Wv≠[]:=fun y=>z (by rw[y];rfl)
   have l0:0<Wv.length:=OH.mpr ne;walk_at "";refine bZ (fun _=>?_) (fun _=>?_)
   ·walk_at "";refine cF (SqL.of Xm) ?_;rw[K9];refine uZ (show(0:Int)<(Wv.length:Int) by walk_at "om") ?_;have o0:=No (cell / 3) (show(Wv.length:Int)≠0 by walk_at "om");have o1:=MT (cell / 3) (show(0:Int)<Wv.length by walk_at "om");generalize cell / 3 % (Wv.length:Int)=at_ at o0 o1 ⊢;obtain⟨j,rfl⟩:=ON o0;have lj:j<Wv.length:=by walk_at "om"
    have ej:Wv[j]?=some Wv[j]:=Ld lj;have aj:=XG _ (Nb lj);generalize Wv[j]=sj at ej aj;walk_at "";refine⟨sa,ns,_,rfl,S3.seq hS,by walk_at "om",?_⟩;generalize cellOf ns _=bend;walk_at "";have aj2:(Wv.map V.str)[j]?=some (.str sj):=by rw[Ll,ej];rfl
    refine cK (SqL.of Xm) (v:=.str sj) (ba aj2) ?_;walk_at "";refine⟨sa,ns,_,rfl,S3.seq hS,by walk_at "om",?_⟩;generalize cellOf ns _=more;walk_at "";refine⟨wa,sj,ws,bend,more,bd i,dg i,rfl,S3 _ _ hw,Yz,wa8,aj,by rcases i2 with rfl|rfl <;> decide,fun z H4 S4 az=>?_⟩;have ht4:=S4 _ _ Xm;refine Ei (uY (i:=8) rfl (uY (i:=11) rfl ?_));refine⟨tb,_,_,j,rfl,rfl,ht4,?_,?_⟩
    ·unfold Ai;rw[if_pos (by walk_at "om"),if_pos (by rw[K9];walk_at "om")];simp
    ·refine⟨_,_,_,_,Wv.set j z,rfl,fun b o q=>?_,by rw[aq,List.map_set],by rw[Ss];exact XR,fun s hs=>?_⟩
     ·have nb:b≠tb:=fun y=>by rw[y,nt] at q;cases q
      rw[bf nb];exact S4 _ _ (S3 _ _ q)
     ·rcases Rj hs with y|y
      ·rcases i2 with rfl|rfl
       ·exact(XG s y).more (by decide) (by decide)
       ·exact(XG s y).more (by decide) (by decide)
      ·rw[y];rcases i2 with rfl|rfl
       ·exact az.more (by decide) (by decide)
       ·exact az.more (by decide) (by decide)
   ·walk_at "";exact next _ _ _ _
  ·walk_at "";exact next _ _ _ _
 ·rintro σ H2 ⟨u9,Ws,Wt,WZ,Wv,rfl,S2,ht2,XR,XG⟩;exact JH T (S2 _ _ hw) ht2 so (fun s hs=>(XG s hs).more (by decide) (by decide)) XR k
def EK(K:Fg)(x:Ex0.Ad):TS:=(aF (aR (eI (gY K (ag 3)) (bo (oK K) [] E0 (ao (ag 3) (ao (ag 0) aA)))) (aO 8))
 (EJ K x))
theorem Hr{K:Fg}(T:qr K mg x){Q:VK}{ns:List Int}{ws:List Str}{ts:List Tn}{u1 u4 u5 u6:Option V}(hS:SqL K H sa (ns.map V.int))(hw:H wa=some (.lst (ws.map V.str)))(hr:H ra=some (.lst xs))(rx:RzL K H xs (ts.map dT))(so:cX ws)(om:∀t∈ts,RowM ws.length t)(XV:ts.length<=12)(k:∀H',Q (.bl true) H') :
  EK K x (ends Q) [some (.ref sa),u1,some (.ref wa),some (.ref ra),u4,u5,u6,some (.int c),none,none,none,none,none,none,none,none] H:=by
 have wd:=tP so;have lx:xs.length=ts.length:=by rw[rx.length,K9]
 unfold EK;walk_at "";refine r0 (SqL.of hr) ?_;refine d_ (xs:=xs) fun D nD=>⟨fun i H2=>AccZ K H D H2 (((ts.take i).map (cf ws)).map Mu),AccZ.start (Same.refl _) nD,fun i H2 _ A=>SqL.of (A.same _ _ hr),?_,?_⟩
 ·intro i z H2 hz A;obtain⟨dd,g1,g2⟩:=rx.get hz;rw[Ll] at g1;obtain⟨t,et,rfl⟩:=Lu.mp g1;have li:i<ts.length:=(K_.mp et).1;walk_at "";refine⟨wa,z,ws,t,rfl,A.same _ _ hw,g2.same A.same,wd.ok,(om t (Li et)).tt,fun H3 S3=>?_⟩;refine cw (by walk_at "om") ((A.on S3).fu (.str _) (dX ?_) fun H4 A4=>?_)
  ·rw[K9,K9,LK];walk_at "om"
  ·show AccZ K H D H4 (((ts.take (i+1)).map (cf ws)).map Mu);rw[LV,et,Lq,Lq];exact A4
 ·intro H2 A;rw[lx,Ln (Lf _)] at A;refine gy ?_
  exact JI T A.same nD hS hw (AccZ.strs A) so (fun s hs=>by
   obtain⟨t,ht,rfl⟩:=Lm.mp hs
   exact Du wd (om t ht)) (by rw[K9];exact XV) k
def EL(K:Fg)(x:Ex0.Ad):TS:=(aF (bq (bg (aE fq (aE bB (ag 7) (tC (.int 4))) (tC (.int 1))))
 (aR (bo (yq K) [] E0 (ao (ag 3) (ao (b_ (cM K) (ao (ag 2) aA)) (ao (bo (fo K) [] E0 (ao (ag 0) (ao (tC (.int 22)) aA))) aA)))) (aO 3))
 bp)
 (EK K x))
theorem JJ{K:Fg}(T:qr K mg x){Q:VK}{ns:List Int}{ws:List Str}{ts:List Tn}{u1 u4 u5 u6:Option V}(hS:SqL K H sa (ns.map V.int))(hw:H wa=some (.lst (ws.map V.str)))(hr:H ra=some (.lst xs))(rx:RzL K H xs (ts.map dT))(so:cX ws)(om:∀t∈ts,RowM ws.length t)(t1:1<=ts.length)(t8:ts.length<=8)(k:∀H',Q (.bl true) H') :
  EL K x (ends Q) [some (.ref sa),u1,some (.ref wa),some (.ref ra),u4,u5,u6,some (.int c),none,none,none,none,none,none,none,none] H:=by
 unfold EL;walk_at "";refine bZ (fun _=>?_) (fun _=>?_)
 ·walk_at "";refine cF (SqL.of hw) ?_;rw[K9];walk_at "";refine⟨sa,ns,22,rfl,hS,by decide,?_⟩;generalize cellOf ns 22=c22;walk_at "";refine⟨ra,xs,ts,ws.length,c22,rfl,hr,rx,om,t1,t8,so.1.1,so.1.2,fun p H2 us A ou lu=>?_⟩;obtain⟨ys,hp,ry⟩:=A.at_;refine gy ?_;exact Hr T (A.same.seq hS) (A.same _ _ hw) hp ry so ou lu k
 ·exact Hr T hS hw hr rx so om (by walk_at "om") k
def vH(K:Fg):Sp:=fun vs H Q _=>∃t b:Int,vs=[.int t,.int b]/\0<t/\0<b/\t<=10000000000/\b<=10000000000/\∀(p:Addr) (q d:Int) (H':Hp),Same H H'->jH q d->q<=t->d<=b->Rz K H' (.ref p) (dI [q,d])->Q (.ref p) H'
theorem FY{K:Fg}(h:qG K vs H Q E):vH K vs H Q E:=by
 obtain⟨t,b,e,t0,b0,t1,b1,k⟩:=h;exact⟨t,b,e,t0,b0,t1,b1,fun p q d H' S o _ _ r=>k p q d H' S o r⟩
theorem Ff{K:Fg}{N:List Str}(hN:N.length=3)(h:vH K vs H Q E):EO (ends Q) (L2.start N vs) H:=by
 obtain⟨t,b,rfl,t0,b0,t1,b1,k⟩:=h;rw[L2.cu hN];walk_at "t";unfold EO;walk_at "";refine bZ (fun z=>absurd z (by walk_at "om")) (fun _=>?_);walk_at "";refine bZ (fun z=>absurd z (by walk_at "om")) (fun _=>?_);unfold Ha;walk_at "";refine⟨t,b,rfl,?_⟩;have nb:b≠0:=by walk_at "om"
 have gp:=Gd.nJ (a:=t) nb;have gl:=Gd.IK (a:=t) nb;have wd:(Gd.gd t b).natAbs<2 ^ 9000:=Gd.wide (by walk_at "om");have L:=Gd.zP (t:=t) (b:=b) (d:=Gd.gd t b) nb (.inl ⟨rfl,b0⟩);have M:=Gd.FX (t:=t) (b:=b) (d:=Gd.gd t b) nb (.inl ⟨rfl,b0⟩);walk_at "";refine uZ ⟨by walk_at "om",wd⟩ ?_;walk_at "";refine uZ ⟨by walk_at "om",wd⟩ ?_;walk_at "";refine⟨bG,fun p np=>?_⟩
 have q0:0<t.fdiv (Gd.gd t b):=by
  have w:=L.worth
  have:=L.pos
  by_cases z:0<t.fdiv (Gd.gd t b)
  ·exact z
  ·have h1:t.fdiv (Gd.gd t b)*b<=0:=Int.mul_nonpos_of_nonpos_of_nonneg (by walk_at "om") (by walk_at "om");have h2:0<t*b.fdiv (Gd.gd t b):=Int.mul_pos t0 L.pos;walk_at "om"
 have:=L.pos
 exact k p _ _ _ (au np _) ⟨q0,L.pos,L.low,by walk_at "om",by walk_at "om"⟩ (by walk_at "om") (by walk_at "om") (.tup aq (RpL.ints [_,_]))
theorem JY{K:Fg} {mg:Str->Option La}  {n:Nat} {t0 t1 t2:Tok} {h0 h1 h2:Int} (hm:mg "PIECES_WRITTEN"=some (.ref D))
  (hl:K.lookup D=some ⟨.type "dict",none,.dict #[⟨h0,.str "" t0,.int 1 u0⟩,⟨h1,.str "2" t1,.int 2 u1⟩,⟨h2,.str "3" t2,.int 3 u2⟩] n,#[]⟩) (e0:h0=hashStr w "") (e1:h1=hashStr w "2") (e2:h2=hashStr w "3") (ns:(D == sysModules)=false):KD P w K mg "PIECES_WRITTEN" D fO:=by
 refine⟨hm,ns,fun h X=>⟨[(.inr "",.int 1 u0),(.inr "2",.int 2 u1),(.inr "3",.int 3 u2)],.cons ⟨rfl,_,rfl⟩ (.cons ⟨rfl,_,rfl⟩ (.cons ⟨rfl,_,rfl⟩ .nil)),?_⟩⟩;refine⟨_,_,_,X _ _ hl,⟨rfl,rfl,rfl⟩,rfl,?_,.cons (dj ..) rfl (.cons (dj ..) rfl (.cons (dj ..) rfl .nil)),(by decide:([.inr "",.inr "2",.inr "3"]:List L2.Key).Nodup)⟩;intro e he;have he':e∈[(⟨h0,.str "" t0,.int 1 u0⟩:RO),⟨h1,.str "2" t1,.int 2 u1⟩,⟨h2,.str "3" t2,.int 3 u2⟩]:=Pf.mpr he;rcases Lr.mp he' with rfl|he'
 ·exact⟨.inr "",dj ..,e0⟩
 rcases Lr.mp he' with rfl|he'
 ·exact⟨.inr "2",dj ..,e1⟩
 ·cases Lw.mp he';exact⟨.inr "3",dj ..,e2⟩
def xZ (K:Fg):TS:=(aF (gf (yf K (ao (ag 0) (ao (xI [(tC (.str "no turning's text stands at place ")),(tN (ag 1))] Mm) aA))))
 (Hh K (ag 0) (ag 1) "at"))
theorem Fi{K:Fg}  {vs:List V}    {N:List Str} (hN:N.length=2) (h:ua K C "at" vs H Q E):xZ K (ends Q) (L2.start N vs) H:=by
 obtain⟨e,n,rfl,hn,he,hS,hF,k⟩:=h;rw[L2.cu hN];walk_at "t";have hi:=Wd.ID hn;have hs:(1000:Nat)<=sizeLine:=by decide
 unfold xZ;walk_at "";unfold yf;walk_at "";refine jt (by decide) ?_;walk_at "";refine⟨Wd.HM hn,?_⟩;refine jt (by rw[Mn,show(Mm++OQ "no turning's text stands at place ").length=34 by decide +kernel];walk_at "om") ?_;walk_at "";refine⟨e,C,none,_,rfl,he,hS,?_⟩;exact⟨_,rfl,_,rfl,e,C,rfl,he,hF,k⟩
def Bu(K:Fg)(x:Ex0.Ad):TS:=(aF (aR (bo (oJ K) [] E0 (ao (ag 0) aA)) (aO 1))
 (aF (aR (b_ (yX K) (ao (aE (bt K) (ag 1) (tC (.int 0))) aA)) (aO 2))
 (aF (aR (cW aA) (aO 3))
 (aF (eW (vc K (aE (bt K) (ag 1) (tC (.int 1)))) (xu K 3 (lU (aO 4) (lU (aO 5) (lU (aO 6) xw))))
 (gf (fX K "list" di (ag 3) (ao (cV (ao (ag 4) (ao (ag 5) (ao (bo (vH K) [] E0 (ao (aE bW (tC (.int 1)) (aE bB (aE (bt K) (ag 6) (tC (.int 0))) (tC (.int 999)))) (ao (aE bW (tC (.int 1)) (aE bB (aE (bt K) (ag 6) (tC (.int 1))) (tC (.int 999)))) aA))) aA)))) aA))))
 (aF (aR (bo (fo K) [] E0 (ao (ag 0) (ao (tC (.int 21)) aA))) (aO 7))
 (EL K x))))))
theorem Hq{K:Fg}   (T:qr K mg x)     (h:spLaw K vs H Q E):Bu K x (ends Q) (L2.start ["_law_script","_law_vessel_here","_law_words_here","_law_rows","_law_one","_law_two","_law_pace_here","_law_spoil","_law_texts","_law_k","_law_cell","_law_at","_law_bend","_law_due_here","_law_told_here","_law_caught"] vs) H:=by
 obtain⟨a,ns,rfl,hS,hl,k⟩:=h;show Bu K x (ends Q) [some (.ref a),none,none,none,none,none,none,none,none,none,none,none,none,none,none,none] H;unfold Bu;walk_at "";refine⟨a,ns,rfl,hS,fun p H1 ws ts S1 vo rv=>?_⟩;obtain⟨p',v1,v2,e0,hp,r1,r2⟩:=KH rv;cases e0;obtain⟨b1,hv1,XJ⟩:=GC r1;cases hv1;obtain⟨b,xs,rfl,hb,rx⟩:=r2.fj;obtain⟨hs,po,_,to⟩:=vo.turns;have so:cX ws:=⟨⟨vo.w1,vo.w5⟩,fun w hw=>Nv.G7 (vo.words.2 w hw),vo.words.1⟩
 have lx:xs.length=ts.length:=by rw[rx.length,K9]
 have t8:=to.le;have t1:1<=ts.length:=OH.mpr to.ne;walk_at "";refine bu (SqT.of hp) (v:=.ref b1) rfl ?_;walk_at "";refine F_ (SqT.of XJ) fun w nw=>?_
 have S2:=au nw (.lst (ws.map V.str));have hw:upd H1 w (.lst (ws.map V.str)) w=some (.lst (ws.map V.str)):=aq;have iY:=S2 _ _ hp;have W0:=S2 _ _ hb;have rx2:=rx.same S2;have hS2:=(S1.trans S2).seq hS;generalize upd H1 w (.lst (ws.map V.str))=H2 at S2 hw iY W0 rx2 hS2 ⊢;walk_at "";refine⟨by decide,fun l nl=>?_⟩;walk_at "";have A0:=AccZ.start (K:=K) (Same.refl _) nl;refine bu (SqT.of (A0.same _ _ iY)) (v:=.ref b) rfl ?_;refine HZ (SqT.of (A0.same _ _ W0)) ?_;refine AH (xs:=xs) (fun i σ H3=>∃(us:List Tn) (u4 u5 u6:Option V),σ=[some (.ref a),some (.ref p),some (.ref w),some (.ref l),u4,u5,u6,none,none,none,none,none,none,none,none,none]/\AccZ K H2 l H3 (us.map dT)/\us.length=i/\∀u∈us,RowM ws.length u) ⟨[],none,none,none,rfl,A0,rfl,fun u hu=>nomatch hu⟩ ?_ ?_ ?_
 ·rintro i σ H3 _ ⟨us,u4,u5,u6,rfl,A,_,_⟩;exact SqT.of (A.same _ _ W0)
 ·rintro i z σ H3 hz ⟨us,u4,u5,u6,rfl,A,lu,ou⟩;obtain⟨dd,g1,g2⟩:=rx2.get hz;rw[Ll] at g1;obtain⟨t,ht,rfl⟩:=Lu.mp g1;have li:i<ts.length:=(K_.mp ht).1;have ot:=to.ok t (Li ht);obtain⟨c,v1,v2,v3,rfl,hc,r1,r2,r3⟩:=lZ (g2.same A.same);obtain⟨b3,rfl,h3⟩:=vh r3;refine wg (SqT.of hc) rfl ?_;walk_at "";refine⟨A.ty,?_⟩;walk_at "";refine bu (SqT.of h3) (v:=.int t.q) rfl ?_;walk_at "";refine bu (SqT.of h3) (v:=.int t.d) rfl ?_;walk_at "";refine⟨_,_,rfl,by walk_at "om",by walk_at "om",by walk_at "om",by walk_at "om",fun p3 q d H4 S4 oq lq ld rq=>?_⟩;walk_at "";refine⟨dS,fun o no=>?_⟩;have S5:=au no (.tup [v1,v2,.ref p3]);have ro:Rz K (upd H4 o (.tup [v1,v2,.ref p3])) (.ref o) (dT ⟨t.fr,t.to,q,d⟩):=.tup aq (.cons ((r1.same S4).same S5) (.cons ((r2.same S4).same S5) (.cons (rq.same S5) .nil)));have A5:=A.on (S4.trans S5);generalize upd H4 o (.tup [v1,v2,.ref p3])=H5 at S5 ro A5 ⊢;walk_at "";refine f7 A5 ro (bh (by rw[K9];walk_at "om")) fun H6 A6 _ _ _=>?_
  walk_at "";refine⟨us++[⟨t.fr,t.to,q,d⟩],_,_,_,rfl,by rw[Lq];exact A6,by rw[LU,lu];rfl,fun u hu=>?_⟩;rcases L5.mp hu with y|y
  ·exact ou u y
  ·cases Lw.mp y;exact⟨po.2 _ ot.1,po.2 _ ot.2.1,oq.1,oq.2.1,by show q<=999;walk_at "om",by show d<=999;walk_at "om",oq.2.2.1⟩
 ·rintro σ H3 ⟨us,u4,u5,u6,rfl,A,lu,ou⟩;rw[lx] at lu;obtain⟨ys,hy,ry⟩:=A.at_;walk_at "";refine⟨a,ns,21,rfl,A.same.seq hS2,by decide,?_⟩;generalize cellOf ns 21=c21;refine gy ?_;exact JJ T (A.same.seq hS2) (A.same _ _ hw) hy ry so ou (by walk_at "om") (by walk_at "om") k
theorem BI:aU ["value"] ["value"] (aB (top 17)):=by walk_at "s"
theorem ii:aU ["one","two","rest"] ["one","two"] (aB (top 18)):=by walk_at "s"
theorem ul:aU ["top","bottom","divisor"] ["top","bottom"] (aB (top 19)):=by walk_at "s"
theorem yL:aU ["one","two"] ["one","two"] (aB (top 20)):=by walk_at "s"
theorem wU:aU ["word"] ["word"] (aB (top 28)):=by walk_at "s"
theorem qK:aU ["words"] ["words"] (aB (top 29)):=by walk_at "s"
theorem wV:aU ["pieces","size"] ["pieces","size"] (aB (top 30)):=by walk_at "s"
theorem mH:aU ["rows","size","row"] ["rows","size"] (aB (top 31)):=by walk_at "s"
theorem ji:aU ["turnings"] ["turnings"] (aB (top 32)):=by walk_at "s"
theorem uk:aU ["turnings","found","turning"] ["turnings"] (aB (top 33)):=by walk_at "s"
theorem E5:aU ["words","rows","stuffs","turnings"] ["words","rows"] (aB (top 34)):=by walk_at "s"
theorem oX:aU ["word","pieces"] ["word","pieces"] (aB (top 37)):=by walk_at "s"
theorem qR:aU ["stuffs","heap","parts"] ["stuffs","heap"] (aB (top 38)):=by walk_at "s"
theorem qL:aU ["pace","top","bottom"] ["pace"] (aB (top 39)):=by walk_at "s"
theorem kO:aU ["stuffs","turning","one","two","pace"] ["stuffs","turning"] (aB (top 40)):=by walk_at "s"
theorem kS:aU ["stuffs","text","pieces","part","cut"] ["stuffs","text"] (aB (top 41)):=by walk_at "s"
theorem jh:aU ["text"] ["text"] (aB (top 42)):=by walk_at "s"
theorem kQ:aU ["text","cut","top","bottom"] ["text"] (aB (top 43)):=by walk_at "s"
theorem kP:aU ["stuffs","text","cut","rest","pace","turning"] ["stuffs","text"] (aB (top 44)):=by walk_at "s"
theorem E4:aU ["words","texts","stuffs","rows","at","text","turning"] ["words","texts"] (aB (top 45)):=by walk_at "s"
theorem mK:aU ["_law_script","_law_k"] ["_law_script","_law_k"] (aB (top 47)):=by walk_at "s"
theorem qP:aU ["_law_cell","_law_many","_law_found","_law_number","_law_k"] ["_law_cell","_law_many"] (aB (top 48)):=by walk_at "s"
theorem mJ:aU ["_law_one","_law_other","_law_rest"] ["_law_one","_law_other"] (aB (top 49)):=by walk_at "s"
theorem oZ:aU ["_law_top","_law_bottom","_law_share"] ["_law_top","_law_bottom"] (aB (top 50)):=by walk_at "s"
theorem uj:aU ["_law_cell","_law_size","_law_number","_law_found","_law_k"] ["_law_cell","_law_size"] (aB (top 51)):=by walk_at "s"
theorem ud:aU ["_law_base_here","_law_place","_law_size","_law_k","_law_signs","_law_other"] ["_law_base_here","_law_place","_law_size","_law_k"] (aB (top 52)):=by walk_at "s"
theorem qM:aU ["_law_script","_law_at","_law_many","_law_cell","_law_size","_law_base_here","_law_words_here","_law_k","_law_word_here"] ["_law_script","_law_at","_law_many"] (aB (top 53)):=by walk_at "s"
theorem uh:aU ["_law_number","_law_many","_law_most","_law_found","_law_k"] ["_law_number","_law_many","_law_most"] (aB (top 54)):=by walk_at "s"
theorem uf:aU ["_law_script","_law_at","_law_many","_law_first","_law_most","_law_found","_law_k","_law_heap_here"] ["_law_script","_law_at","_law_many"] (aB (top 55)):=by walk_at "s"
theorem ug:aU ["_law_number","_law_other","_law_great"] ["_law_number","_law_other","_law_great"] (aB (top 56)):=by walk_at "s"
theorem kR:aU ["_law_script","_law_at","_law_pool_here","_law_first","_law_pairs","_law_found","_law_k","_law_xs","_law_one","_law_two","_law_pair","_law_pace_here"] ["_law_script","_law_at","_law_pool_here"] (aB (top 57)):=by walk_at "s"
theorem oY:aU ["_law_script","_law_many","_law_words_here"] ["_law_script"] (aB (top 58)):=by walk_at "s"
theorem qN:aU ["_law_found"] ["_law_found"] (aB (top 59)):=by walk_at "s"
theorem fJ:aU ["_law_found","_law_due_here","_law_k"] ["_law_found","_law_due_here"] (aB (top 60)):=by walk_at "s"
theorem qQ:aU ["_law_e","_law_found"] ["_law_e"] (aB (top 61)):=by walk_at "s"
theorem jP:aU ["_law_words_here","_law_heap_here","_law_found","_law_k"] ["_law_words_here","_law_heap_here"] (aB (top 62)):=by walk_at "s"
theorem ie:aU ["_law_words_here","_law_turning","_law_pace_here","_law_sides"] ["_law_words_here","_law_turning"] (aB (top 63)):=by walk_at "s"
theorem qO:aU ["_law_words_here","_law_text","_law_k","_law_many"] ["_law_words_here","_law_text"] (aB (top 64)):=by walk_at "s"
theorem jQ:aU ["_law_words_here","_law_text","_law_heap_here","_law_last","_law_part","_law_found"] ["_law_words_here","_law_text"] (aB (top 65)):=by walk_at "s"
theorem mI:aU ["_law_text"] ["_law_text"] (aB (top 66)):=by walk_at "s"
theorem jN:aU ["_law_text","_law_parts","_law_pace_here"] ["_law_text"] (aB (top 67)):=by walk_at "s"
theorem ig:aU ["_law_words_here","_law_text","_law_halves","_law_sides","_law_one","_law_two","_law_pace_here"] ["_law_words_here","_law_text"] (aB (top 68)):=by walk_at "s"
theorem ui:aU ["_law_words_here","_law_text","_law_cell","_law_more","_law_at","_law_signs","_law_sign","_law_arrow","_law_word_here","_law_parts","_law_pace_here","_law_ahead_of","_law_heap_here"] ["_law_words_here","_law_text","_law_cell","_law_more"] (aB (top 69)):=by walk_at "s"
theorem jO:aU ["_law_rows","_law_many","_law_cell","_law_row","_law_few","_law_pairs","_law_nine"] ["_law_rows","_law_many","_law_cell"] (aB (top 70)):=by walk_at "s"
theorem jR:aU ["_law_rows","_law_pairs"] ["_law_rows"] (aB (top 71)):=by walk_at "s"
theorem wT:aU ["_law_words_here","_law_texts","_law_rows"] ["_law_words_here","_law_texts"] (aB (top 72)):=by walk_at "s"
theorem ue:aU ["_law_words_here","_law_texts","_law_caught","_law_told_here","_law_e"] ["_law_words_here","_law_texts"] (aB (top 73)):=by walk_at "s"
theorem DS:aU ["_law_script","_law_vessel_here","_law_words_here","_law_rows","_law_one","_law_two","_law_pace_here","_law_spoil","_law_texts","_law_k","_law_cell","_law_at","_law_bend","_law_due_here","_law_told_here","_law_caught"] ["_law_script"] (aB (top 74)):=by walk_at "s"
section
variable{P:LB}{w:LQ}{K:Fg}{mg:Str->Option La}{base:Heap}
seal PE PS PSs PA PT
local macro_rules | `(tactic| walk_at "l")=>`(tactic| (intro h;repeat (first|(obtain⟨e,_⟩:=h;cases e;exact rfl)|obtain⟨_,h⟩:=h)))
abbrev vy (P:LB) (w:LQ) (K:Fg) (mg:Str->Option La) (base:Heap) (k:Nat):=FnC P w K mg base dh k "whole" ["value"] je
abbrev ff (P:LB) (w:LQ) (K:Fg) (mg:Str->Option La) (base:Heap) (k:Nat):=FnC P w K mg base dh k "greatest_divisor" ["one","two"] yx
abbrev og (P:LB) (w:LQ) (K:Fg) (mg:Str->Option La) (base:Heap) (k:Nat):=FnC P w K mg base dh k "fraction" ["top","bottom"] (kK K)
abbrev wM (P:LB) (w:LQ) (K:Fg) (mg:Str->Option La) (base:Heap) (k:Nat):=FnC P w K mg base dh k "before" ["one","two"] (kg K)
abbrev sS (P:LB) (w:LQ) (K:Fg) (mg:Str->Option La) (base:Heap) (k:Nat):=FnC P w K mg base dh k "is_word" ["word"] (kf K)
abbrev iA (P:LB) (w:LQ) (K:Fg) (mg:Str->Option La) (base:Heap) (x:Ex0.Ad) (k:Nat):=FnC P w K mg base (ky P w) k "stuffs_of" ["words"] (gP K x.c1)
abbrev sT (P:LB) (w:LQ) (K:Fg) (mg:Str->Option La) (base:Heap) (k:Nat):=FnC P w K mg base dh k "is_heap" ["pieces","size"] (iJ K)
abbrev i_ (P:LB) (w:LQ) (K:Fg) (mg:Str->Option La) (base:Heap) (x:Ex0.Ad) (k:Nat):=FnC P w K mg base (ky P w) k "turnings_of" ["rows","size"] (gO K x.c2 x.c3)
abbrev f_ (P:LB) (w:LQ) (K:Fg) (mg:Str->Option La) (base:Heap) (x:Ex0.Ad) (k:Nat):=FnC P w K mg base (ky P w) k "check_turnings" ["turnings"] (oQ K x.c4)
abbrev n_ (P:LB) (w:LQ) (K:Fg) (mg:Str->Option La) (base:Heap) (k:Nat):=FnC P w K mg base dh k "heaps_of" ["turnings"] (kI K)
abbrev Ez (P:LB) (w:LQ) (K:Fg) (mg:Str->Option La) (base:Heap) (x:Ex0.Ad) (k:Nat):=FnC P w K mg base (ky P w) k "made" ["words","rows"] (qF K x)
abbrev jJ (P:LB) (w:LQ) (K:Fg) (mg:Str->Option La) (base:Heap) (k:Nat):=FnC P w K mg base dh k "stuff_text" ["word","pieces"] oM
abbrev mE (P:LB) (w:LQ) (K:Fg) (mg:Str->Option La) (base:Heap) (k:Nat):=FnC P w K mg base dh k "heap_text" ["stuffs","heap"] (oO K)
abbrev mw (P:LB) (w:LQ) (K:Fg) (mg:Str->Option La) (base:Heap) (k:Nat):=FnC P w K mg base dh k "pace_text" ["pace"] (Tg.tX K)
abbrev hU (P:LB) (w:LQ) (K:Fg) (mg:Str->Option La) (base:Heap) (k:Nat):=FnC P w K mg base dh k "turning_text" ["stuffs","turning"] (Tg.tR K)
abbrev ia (P:LB) (w:LQ) (K:Fg) (mg:Str->Option La) (base:Heap) (k:Nat):=FnC P w K mg base dh k "heap_guessed" ["stuffs","text"] (oP K)
abbrev f9 (P:LB) (w:LQ) (K:Fg) (mg:Str->Option La) (base:Heap) (k:Nat):=FnC P w K mg base dh k "number_guessed" ["text"] (vG K)
abbrev hZ (P:LB) (w:LQ) (K:Fg) (mg:Str->Option La) (base:Heap) (k:Nat):=FnC P w K mg base dh k "pace_guessed" ["text"] (tZ K)
abbrev hX (P:LB) (w:LQ) (K:Fg) (mg:Str->Option La) (base:Heap) (k:Nat):=FnC P w K mg base dh k "turning_read" ["stuffs","text"] (tT K)
abbrev Ey (P:LB) (w:LQ) (K:Fg) (mg:Str->Option La) (base:Heap) (x:Ex0.Ad) (k:Nat):=FnC P w K mg base (ky P w) k "read" ["words","texts"] (tU K x)
abbrev cY (P:LB) (w:LQ) (K:Fg) (mg:Str->Option La) (base:Heap) (k:Nat):=FnC P w K mg base dh k "_law_cell_at" ["_law_script","_law_k"] (fo K)
abbrev iB (P:LB) (w:LQ) (K:Fg) (mg:Str->Option La) (base:Heap) (k:Nat):=FnC P w K mg base dh k "_law_mixed" ["_law_cell","_law_many"] (oN K)
abbrev fV (P:LB) (w:LQ) (K:Fg) (mg:Str->Option La) (base:Heap) (k:Nat):=FnC P w K mg base dh k "_law_divisor" ["_law_one","_law_other"] yx
abbrev jL (P:LB) (w:LQ) (K:Fg) (mg:Str->Option La) (base:Heap) (k:Nat):=FnC P w K mg base dh k "_law_lowest" ["_law_top","_law_bottom"] (vH K)
abbrev nZ (P:LB) (w:LQ) (K:Fg) (mg:Str->Option La) (base:Heap) (k:Nat):=FnC P w K mg base dh k "_law_base" ["_law_cell","_law_size"] yz
abbrev nR (P:LB) (w:LQ) (K:Fg) (mg:Str->Option La) (base:Heap) (k:Nat):=FnC P w K mg base dh k "_law_word" ["_law_base_here","_law_place","_law_size","_law_k"] yk
abbrev mx (P:LB) (w:LQ) (K:Fg) (mg:Str->Option La) (base:Heap) (k:Nat):=FnC P w K mg base dh k "_law_words" ["_law_script","_law_at","_law_many"] (tQ K)
abbrev nX (P:LB) (w:LQ) (K:Fg) (mg:Str->Option La) (base:Heap) (k:Nat):=FnC P w K mg base dh k "_law_heap" ["_law_number","_law_many","_law_most"] (yr K)
abbrev nV (P:LB) (w:LQ) (K:Fg) (mg:Str->Option La) (base:Heap) (k:Nat):=FnC P w K mg base dh k "_law_pool" ["_law_script","_law_at","_law_many"] (yn K)
abbrev nW (P:LB) (w:LQ) (K:Fg) (mg:Str->Option La) (base:Heap) (k:Nat):=FnC P w K mg base dh k "_law_pace" ["_law_number","_law_other","_law_great"] (yp K)
abbrev h_ (P:LB) (w:LQ) (K:Fg) (mg:Str->Option La) (base:Heap) (k:Nat):=FnC P w K mg base dh k "_law_turnings" ["_law_script","_law_at","_law_pool_here"] (yl K)
abbrev jK (P:LB) (w:LQ) (K:Fg) (mg:Str->Option La) (base:Heap) (k:Nat):=FnC P w K mg base dh k "_law_vessel" ["_law_script"] (oJ K)
abbrev my (P:LB) (w:LQ) (K:Fg) (mg:Str->Option La) (base:Heap) (k:Nat):=FnC P w K mg base dh k "_law_whole" ["_law_found"] je
abbrev mD (P:LB) (w:LQ) (K:Fg) (mg:Str->Option La) (base:Heap) (x:Ex0.Ad) (k:Nat):=FnC P w K mg base dh k "_law_kinds" ["_law_e"] (t_ x)
abbrev gI (P:LB) (w:LQ) (K:Fg) (mg:Str->Option La) (base:Heap) (k:Nat):=FnC P w K mg base dh k "_law_heap_text" ["_law_words_here","_law_heap_here"] (gQ K)
abbrev fb (P:LB) (w:LQ) (K:Fg) (mg:Str->Option La) (base:Heap) (k:Nat):=FnC P w K mg base dh k "_law_turning_text" ["_law_words_here","_law_turning"] (oK K)
abbrev mB (P:LB) (w:LQ) (K:Fg) (mg:Str->Option La) (base:Heap) (k:Nat):=FnC P w K mg base dh k "_law_piece" ["_law_words_here","_law_text"] (tW K)
abbrev gJ (P:LB) (w:LQ) (K:Fg) (mg:Str->Option La) (base:Heap) (k:Nat):=FnC P w K mg base dh k "_law_heap_read" ["_law_words_here","_law_text"] (kJ K)
abbrev ja (P:LB) (w:LQ) (K:Fg) (mg:Str->Option La) (base:Heap) (k:Nat):=FnC P w K mg base dh k "_law_figures" ["_law_text"] (yt K)
abbrev gF (P:LB) (w:LQ) (K:Fg) (mg:Str->Option La) (base:Heap) (k:Nat):=FnC P w K mg base dh k "_law_pace_read" ["_law_text"] (tY K)
abbrev fe (P:LB) (w:LQ) (K:Fg) (mg:Str->Option La) (base:Heap) (k:Nat):=FnC P w K mg base dh k "_law_turning_read" ["_law_words_here","_law_text"] (tS K)
abbrev nY (P:LB) (w:LQ) (K:Fg) (mg:Str->Option La) (base:Heap) (k:Nat):=FnC P w K mg base dh k "_law_bent" ["_law_words_here","_law_text","_law_cell","_law_more"] (yy K)
abbrev gH (P:LB) (w:LQ) (K:Fg) (mg:Str->Option La) (base:Heap) (k:Nat):=FnC P w K mg base dh k "_law_more_rows" ["_law_rows","_law_many","_law_cell"] (yq K)
abbrev gK (P:LB) (w:LQ) (K:Fg) (mg:Str->Option La) (base:Heap) (k:Nat):=FnC P w K mg base dh k "_law_good_rows" ["_law_rows"] (ub K)
abbrev sR (P:LB) (w:LQ) (K:Fg) (mg:Str->Option La) (base:Heap) (k:Nat):=FnC P w K mg base dh k "_law_due" ["_law_words_here","_law_texts"] (yu K)
abbrev nU (P:LB) (w:LQ) (K:Fg) (mg:Str->Option La) (base:Heap) (x:Ex0.Ad) (k:Nat):=FnC P w K mg base dh k "_law_told" ["_law_words_here","_law_texts"] (ym K x)
theorem yK:aU ["self","at"] ["self","at"] (aB (ini 8)):=by walk_at "s"
theorem FL(T:qr K mg x)  (G:Cn K mg nq) {pD:Addr} (WH:KD P w K mg "PIECES_WRITTEN" pD fO)   (F:Fun K "__init__" "NoText.__init__" (ini 8) f fd) (B:eG mg):FnOk P w K mg base dh 1 f fd ["self","at"] (ua K x.c6 "at"):=by
 refine F.ok yK (fun vs H Q E h=>FZ h) (fun pe A outer s H vs Q E hr h=>?_);have nd:=yK.nd;have Id:=fun {M A env}=>@PV M A env
 have hu:=hr.units;have VQ:=M5 (QV (by decide:1<=64) _) hu;exact⟨xZ K,(ai (bM (Ct rfl T.vb (af (pv 0) (af (Ck (PJ.cons aM (PJ.cons (k7 (pv 1)) PJ.nil))) ak))))
 (ar (Fz (pv 0) (pv 1) rfl))),(Fi rfl h)⟩
theorem Cy(F:bJ K mg "whole" (top 17) ["value"]) (B:eG mg)  : vy P w K mg base 1 :=
 F.okN BI (fun _ _ _ _=>by walk_at "l") fun f pe A outer s H vs Q E nd hr hu VQ Id own h=>⟨yb K,(ar (aP (eZ (aC bw rfl B.isinstance aD (af (pv 0) (af (bE rfl B.int eV rfl) ak))) (fy (vX (aC bw rfl B.isinstance aD (af (pv 0) (af (bE rfl B.bool gD rfl) ak)))))))),(by obtain⟨i,rfl,k⟩:=h;exact vK k)⟩
theorem im(F:bJ K mg "greatest_divisor" (top 18) ["one","two"]) (B:eG mg)  : ff P w K mg base 1 :=
 F.okN ii (fun _ _ _ _=>by walk_at "l") fun f pe A outer s H vs Q E nd hr hu VQ Id own h=>⟨ET,(ai (vR Id (aN mM (pv 1) am (aQ _))
 (ai (aJ (i:=2) nd rfl (by walk_at "o") (aG zx (pv 0) (pv 1)))
 (ai (aJ (i:=0) nd rfl (by walk_at "o") (pv 1))
 (ar (aJ (i:=1) nd rfl (by walk_at "o") (pv 2))))))
 (ar (aP (aC wK rfl B.abs Es (af (pv 0) ak))))),(by obtain⟨a,b,rfl,k⟩:=h;exact DV a b H _ k)⟩
theorem uI(F:bJ K mg "fraction" (top 19) ["top","bottom"]) (B:eG mg) (ST:ff P w K mg base 1) (V1:vy P w K mg base 1):og P w K mg base 2 :=
 F.okN ul (fun _ _ _ _=>by walk_at "l") fun f pe A outer s H vs Q E nd hr hu VQ Id own h=>⟨oF K,(ai (a6 (PW.pt (pw_or (eK (bH (aI V1 hr rfl (af (pv 0) ak)))) (pw_or1 (eK (bH (aI V1 hr rfl (af (pv 1) ak)))))))
 iN
 aH)
 (ai (a6 (aN cC (pv 1) am (aQ _))
 iN
 aH)
 (ai (aJ (i:=2) nd rfl (by walk_at "o") (aI ST hr rfl (af (pv 0) (af (pv 1) ak))))
 (ai (a6 (aN ij (pv 1) am (aQ _))
 (ar (aJ (i:=2) nd rfl (by walk_at "o") (xg m_ (pv 2))))
 aH)
 (ar (aP (cA (af (aG kj (pv 0) (pv 2)) (af (aG kj (pv 1) (pv 2)) ak))))))))),(vL rfl h)⟩
theorem zA(F:bJ K mg "before" (top 20) ["one","two"]) (B:eG mg)  : wM P w K mg base 1 :=
 F.okN yL (fun _ _ _ _=>by walk_at "l") fun f pe A outer s H vs Q E nd hr hu VQ Id own h=>⟨kc K,(ar (aP (cr ij (aG zw (aT aW (pv 0) am (fun _ _=>rfl)) (aT aW (pv 1) am (fun _ _=>rfl))) (aG zw (aT aW (pv 1) am (fun _ _=>rfl)) (aT aW (pv 0) am (fun _ _=>rfl))) (aQ _)))),(qY rfl h)⟩
theorem xi(G:Cn K mg nq) {pD:Addr} (WH:KD P w K mg "PIECES_WRITTEN" pD fO) (F:bJ K mg "is_word" (top 28) ["word"]) (B:eG mg)  : sS P w K mg base 1 :=
 F.okN wU (fun _ _ _ _=>by walk_at "l") fun f pe A outer s H vs Q E nd hr hu VQ Id own h=>⟨j_ K,(ai (a6 (PW.pt (pw_or (eK (bH (aC bw rfl B.isinstance aD (af (pv 0) (af (bE rfl B.str md rfl) ak))))) (pw_or1 (eK (pf pC pC am (aC gA rfl B.len bL (af (pv 0) ak)) (iP rfl G.MOST_SIGNS))))))
 (ar (aP jS))
 aH)
 (ar (aP (aC (i7 rfl) rfl B.all sH (af (gj (M:=["word"]) (by show dm (aB (top 28)) ["word"] ["word"] _ _;walk_at "c") nd rfl (zo (pv 0)) (fun _ _ _ _ _=>(pB iS iS aM (pv 0) aM))) ak))))),(qW rfl h)⟩
theorem rC(T:qr K mg x)  (G:Cn K mg nq) {pD:Addr} (WH:KD P w K mg "PIECES_WRITTEN" pD fO) (F:bJ K mg "stuffs_of" (top 29) ["words"]) (B:eG mg) (Wj:sS P w K mg base 1):iA P w K mg base x 2 :=
 F.okM qK (fun _ _ _ _=>by walk_at "l") fun f pe A outer s H vs Q E nd hr hu VQ Id Wx h=>⟨j9 K E x,(ai (a6 (eK (pf pC pC am (aC aK rfl B.len bL (af (pv 0) ak)) (iP rfl G.MOST_STUFFS)))
 (ar (eM Wx rfl rfl T.n1 Ms aM))
 aH)
 (ai (a6 (eK (bH (aC (i7 rfl) rfl B.all sH (af (gj (M:=["words"]) (by show dm (aB (top 29)) ["words"] ["words"] _ _;walk_at "c") nd rfl (DZ (pv 0)) (fun _ _ _ _ _=>(aI Wj hr rfl (af (pv 0) ak)))) ak))))
 (ar (eM Wx rfl rfl T.n1 Ms aM))
 aH)
 (ai (a6 (aN ij (iO (yD rfl) rfl B.len rfl B.set (pv 0)) (aC aK rfl B.len bL (af (pv 0) ak)) (aQ _))
 (ar (eM Wx rfl rfl T.n1 Ms aM))
 aH)
 (ar (aP (a7 bc rfl B.tuple bS (af (pv 0) ak))))))),(qV rfl h)⟩
theorem xj(G:Cn K mg nq) {pD:Addr} (WH:KD P w K mg "PIECES_WRITTEN" pD fO) (F:bJ K mg "is_heap" (top 30) ["pieces","size"]) (B:eG mg) (V1:vy P w K mg base 1):sT P w K mg base 2 :=
 F.okN wV (fun _ _ _ _=>by walk_at "l") fun f pe A outer s H vs Q E nd hr hu VQ Id own h=>⟨kb K,(ai (a6 (PW.pt (pw_or (eK (bH (FE rfl B.isinstance rfl B.list rfl B.tuple (pv 0)))) (pw_or1 (aN mM (aC aK rfl B.len bL (af (pv 0) ak)) (pv 1) (aQ _)))))
 (ar (aP jS))
 aH)
 (ar (aP (aC (i7 rfl) rfl B.all sH (af (gj (M:=["pieces","size"]) (by show dm (aB (top 30)) ["pieces","size"] ["pieces","size"] _ _;walk_at "c") nd rfl (DZ (pv 0)) (fun _ _ _ _ _=>(eZ (aI V1 hr rfl (af (pv 0) ak)) (fy (pB pC pC am (pv 0) (iP rfl G.MOST_PIECES)))))) ak))))),(qX rfl h)⟩
theorem mP(T:qr K mg x)  (G:Cn K mg nq) {pD:Addr} (WH:KD P w K mg "PIECES_WRITTEN" pD fO) (F:bJ K mg "turnings_of" (top 31) ["rows","size"]) (B:eG mg) (Wn:wM P w K mg base 2) (V8:sT P w K mg base 2):i_ P w K mg base x 3 :=
 F.okM mH (fun _ _ _ _=>by walk_at "l") fun f pe A outer s H vs Q E nd hr hu VQ Id Wx h=>⟨gM K E x nq,(ai (du Id rfl (dJ (pv 0)) (bD (i:=2) nd rfl (by walk_at "o"))
 (ar (a6 (PW.pt (pw_or (eK (bH (aI V8 hr rfl (af (aT aW (pv 2) am (fun _ _=>rfl)) (af (pv 1) ak))))) (pw_or1 (eK (bH (aI V8 hr rfl (af (aT aW (pv 2) am (fun _ _=>rfl)) (af (pv 1) ak))))))))
 (ar (eM Wx rfl rfl T.n2 Ms aM))
 aH)))
 (ai (du Id rfl (dJ (pv 0)) (bD (i:=2) nd rfl (by walk_at "o"))
 (ar (a6 (eK (bH (aI Wn hr rfl (af (c_ rfl G.NOUGHT rfl) (af (aT aW (pv 2) am (fun _ _=>rfl)) ak)))))
 (ar (eM Wx rfl rfl T.n3 Ms aM))
 aH)))
 (ar (aP (a7 bc rfl B.tuple bS (af (gj (M:=["rows","size","#row"]) (by show dm (aB (top 31)) ["rows","size","row"] ["rows","size","#row"] _ _;walk_at "c") nd rfl (dJ (pv 0)) (fun _ _ _ _ _=>(cA (af (a7 bc rfl B.tuple bS (af (aT aW (pv 0) am (fun _ _=>rfl)) ak)) (af (a7 bc rfl B.tuple bS (af (aT aW (pv 0) am (fun _ _=>rfl)) ak)) (af (a7 bc rfl B.tuple bS (af (aT aW (pv 0) am (fun _ _=>rfl)) ak)) ak)))))) ak)))))),(kU G rfl h)⟩
theorem jo(T:qr K mg x)  (G:Cn K mg nq) {pD:Addr} (WH:KD P w K mg "PIECES_WRITTEN" pD fO) (F:bJ K mg "check_turnings" (top 32) ["turnings"]) (B:eG mg) (Wa:n_ P w K mg base 1):f_ P w K mg base x 2 :=
 F.okM ji (fun _ _ _ _=>by walk_at "l") fun f pe A outer s H vs Q E nd hr hu VQ Id Wx h=>⟨oG K E x,(ai (a6 (eK (pf pC pC am (aC aK rfl B.len bL (af (pv 0) ak)) (iP rfl G.MOST_TURNINGS)))
 (ar (eM Wx rfl rfl T.n4 Ms aM))
 aH)
 (ai (a6 (bH (aC (Do rfl) rfl B.any Ja (af (gj (M:=["turnings"]) (by show dm (aB (top 32)) ["turnings"] ["turnings"] _ _;walk_at "c") nd rfl (rm (pv 0)) (fun _ _ _ _ _=>(cr (v0 hu) (aT aW (pv 0) am (fun _ _=>rfl)) (aT aW (pv 0) am (fun _ _=>rfl)) (aQ _)))) ak)))
 (ar (eM Wx rfl rfl T.n4 Ms aM))
 aH)
 (ai (a6 (aN ij (iO (ic rfl hu) rfl B.len rfl B.set (gj (M:=["turnings"]) (by show dm (aB (top 32)) ["turnings"] ["turnings"] _ _;walk_at "c") nd rfl (rm (pv 0)) (fun _ _ _ _ _=>(bC DQ (pv 0) cq (bU am))))) (aC aK rfl B.len bL (af (pv 0) ak)) (aQ _))
 (ar (eM Wx rfl rfl T.n4 Ms aM))
 aH)
 (ar (a6 (aN mO (aC aK rfl B.len bL (af (aI Wa hr rfl (af (pv 0) ak)) ak)) (iP rfl G.MOST_HEAPS) (aQ _))
 (ar (eM Wx rfl rfl T.n4 Ms aM))
 aH))))),(vM rfl h)⟩
theorem uH(F:bJ K mg "heaps_of" (top 33) ["turnings"]) (B:eG mg)  : n_ P w K mg base 1 :=
 F.okN uk (fun _ _ _ _=>by walk_at "l") fun f pe A outer s H vs Q E nd hr hu VQ Id own h=>⟨kE K,(ai (aJ (i:=1) nd rfl (by walk_at "o") Cp)
 (ai (du Id rfl (rm (pv 0)) (bD (i:=2) nd rfl (by walk_at "o"))
 (ai (ux VQ (pv 1) (aT aW (pv 2) am (fun _ _=>rfl)) jS rfl)
 (ar (ux VQ (pv 1) (aT aW (pv 2) am (fun _ _=>rfl)) jS rfl))))
 (ar (aP (a7 (xB rfl) rfl B.list iw (af (pv 1) ak)))))),(wZ rfl h)⟩
theorem FK(T:qr K mg x) (F:bJ K mg "made" (top 34) ["words","rows"]) (B:eG mg) (VH:iA P w K mg base x 3) (VY:i_ P w K mg base x 3) (VJ:f_ P w K mg base x 3):Ez P w K mg base x 4 :=
 F.okM E5 (fun _ _ _ _=>by walk_at "l") fun f pe A outer s H vs Q E nd hr hu VQ Id Wx h=>⟨vE K E x,(ai (aJ (i:=2) nd rfl (by walk_at "o") (gR VH hr rfl Wx.pass (af (pv 0) ak)))
 (ai (aJ (i:=3) nd rfl (by walk_at "o") (gR VY hr rfl Wx.pass (af (pv 1) (af (aC aK rfl B.len bL (af (pv 2) ak)) ak))))
 (ai (bM (gR VJ hr rfl Wx.pass (af (pv 3) ak)))
 (ar (aP (cA (af (pv 2) (af (pv 3) ak)))))))),(yT rfl h)⟩
theorem pE(F:bJ K mg "stuff_text" (top 37) ["word","pieces"]) (B:eG mg)  : jJ P w K mg base 1 :=
 F.okN oX (fun _ _ _ _=>by walk_at "l") fun f pe A outer s H vs Q E nd hr hu VQ Id own h=>⟨oC K,(ai (a6 (aN cC (pv 1) am (aQ _))
 (ar (aP (pv 0)))
 aH)
 (ar (aP (Ck (PJ.cons (k7 (pv 1)) (PJ.cons aM (PJ.cons (pA (pv 0)) PJ.nil))))))),(yR rfl h)⟩
theorem rK(F:bJ K mg "heap_text" (top 38) ["stuffs","heap"]) (B:eG mg) (V0:jJ P w K mg base 1):mE P w K mg base 2 :=
 F.okN qR (fun _ _ _ _=>by walk_at "l") fun f pe A outer s H vs Q E nd hr hu VQ Id own h=>⟨tI K,(ai (Hx (i:=2) ["word","pieces"] ["stuffs","heap","parts"] nd rfl rfl (by show dm (aB (top 38)) ["stuffs","heap","parts"] ["stuffs","heap","parts"] _ _;walk_at "c") rfl (Hz (k1:=.T) (k2:=.T) rfl B.zip (af (pv 0) (af (pv 1) ak))) (fun _ _ _ _ _=>(vW rfl (eN (bD (i:=0) (show(["word","pieces","stuffs","heap","parts"]:List Str).Nodup by decide +kernel) rfl (by walk_at "o")) (eN (bD (i:=1) (show(["word","pieces","stuffs","heap","parts"]:List Str).Nodup by decide +kernel) rfl (by walk_at "o")) pj)))) (fun _ _ _ _ _=>(aN mO (pv 1) am (aQ _))) (fun _ _ _ _ _=>(aI V0 hr rfl (af (pv 0) (af (pv 1) ak)))))
 (ai (a6 (aN cC (aC aK rfl B.len bL (af (pv 2) ak)) am (aQ _))
 (ar (aP aM))
 aH)
 (ar (aP (b9 LL O8 O9 pJ aM (af (pv 2) ak)))))),(BZ rfl h)⟩
theorem rD(F:bJ K mg "pace_text" (top 39) ["pace"]) (B:eG mg)  : mw P w K mg base 1 :=
 F.okN qL (fun _ _ _ _=>by walk_at "l") fun f pe A outer s H vs Q E nd hr hu VQ Id own h=>⟨Tg.tE K,(ai (aJ (i:=1) nd rfl (by walk_at "o") (aT aW (pv 0) am (fun _ _=>rfl)))
 (ai (aJ (i:=2) nd rfl (by walk_at "o") (aT aW (pv 0) am (fun _ _=>rfl)))
 (ai (a6 (aN cC (pv 2) am (aQ _))
 (ar (aP (HA (k7 (pv 1)))))
 aH)
 (ar (aP (Ck (PJ.cons (k7 (pv 1)) (PJ.cons aM (PJ.cons (k7 (pv 2)) PJ.nil))))))))),(Tg.BS rfl h)⟩
theorem lh(F:bJ K mg "turning_text" (top 40) ["stuffs","turning"]) (B:eG mg) (VW:mE P w K mg base 2) (V7:mw P w K mg base 2):hU P w K mg base 3 :=
 F.okN kO (fun _ _ _ _=>by walk_at "l") fun f pe A outer s H vs Q E nd hr hu VQ Id own h=>⟨Tg.sY K,(ai (aJ (i:=2) nd rfl (by walk_at "o") (aI VW hr rfl (af (pv 0) (af (aT aW (pv 1) am (fun _ _=>rfl)) ak))))
 (ai (aJ (i:=3) nd rfl (by walk_at "o") (aI VW hr rfl (af (pv 0) (af (aT aW (pv 1) am (fun _ _=>rfl)) ak))))
 (ai (aJ (i:=4) nd rfl (by walk_at "o") (aI V7 hr rfl (af (aT aW (pv 1) am (fun _ _=>rfl)) ak)))
 (ar (aP (Ck (PJ.cons (pA (pv 2)) (PJ.cons aM (PJ.cons (pA (pv 3)) (PJ.cons aM (PJ.cons (pA (pv 4)) PJ.nil))))))))))),(Tg.BM rfl h)⟩
theorem lB(G:Cn K mg nq) {pD:Addr} (WH:KD P w K mg "PIECES_WRITTEN" pD fO) (F:bJ K mg "heap_guessed" (top 41) ["stuffs","text"]) (B:eG mg)  : ia P w K mg base 1 :=
 F.okN kS (fun _ _ _ _=>by walk_at "l") fun f pe A outer s H vs Q E nd hr hu VQ Id own h=>⟨tK K,(ai (aJ (i:=2) nd rfl (by walk_at "o") Cq)
 (ai (du Id rfl (dJ (b9 LL Mq MU dY (pv 1) (af aM ak))) (bD (i:=3) nd rfl (by walk_at "o"))
 (ai (aJ (i:=4) nd rfl (by walk_at "o") (b9 LL Q0 PySem.F.type_str_rpartition pI (pv 3) (af aM ak)))
 (ar (ux VQ (pv 2) (aT aW (pv 4) am (fun _ _=>rfl)) (FD rfl WH (aT aW (pv 4) am (fun _ _=>rfl)) am ⟨rfl,rfl,rfl,rfl⟩) rfl))))
 (ar (aP (a7 bc rfl B.tuple bS (af (gj (M:=["stuffs","text","pieces","part","cut"]) (by show dm (aB (top 41)) ["stuffs","text","pieces","part","cut"] ["stuffs","text","pieces","part","cut"] _ _;walk_at "c") nd rfl (rm (pv 0)) (fun _ _ _ _ _=>(Cr VQ (pv 3) (pv 0) am ⟨rfl,rfl,rfl,rfl⟩))) ak)))))),(B6 rfl h)⟩
theorem jn(F:bJ K mg "number_guessed" (top 42) ["text"]) (B:eG mg)  : f9 P w K mg base 1 :=
 F.okN jh (fun _ _ _ _=>by walk_at "l") fun f pe A outer s H vs Q E nd hr hu VQ Id own h=>⟨xX K,(ai (a6 (PW.pt (pw_or (aN cC (pv 0) aM (aQ _)) (pw_or1 (eK (bH (aC (i7 rfl) rfl B.all sH (af (gj (M:=["text"]) (by show dm (aB (top 42)) ["text"] ["text"] _ _;walk_at "c") nd rfl (zo (pv 0)) (fun _ _ _ _ _=>(pB iS iS aM (pv 0) aM))) ak)))))))
 (ar (aP am))
 aH)
 (ar (aP (a7 i5 rfl B.int eV (af (pv 0) ak))))),(Fd rfl h)⟩
theorem lv(F:bJ K mg "pace_guessed" (top 43) ["text"]) (B:eG mg) (KK:f9 P w K mg base 2) (V_:og P w K mg base 2):hZ P w K mg base 3 :=
 F.okN kQ (fun _ _ _ _=>by walk_at "l") fun f pe A outer s H vs Q E nd hr hu VQ Id own h=>⟨tG K,(ai (aJ (i:=1) nd rfl (by walk_at "o") (b9 LL Of Po gm (pv 0) (af aM ak)))
 (ai (aJ (i:=2) nd rfl (by walk_at "o") (aI KK hr rfl (af (aT aW (pv 1) am (fun _ _=>rfl)) ak)))
 (ai (aJ (i:=3) nd rfl (by walk_at "o") (Co (aN cC (aT aW (pv 1) am (fun _ _=>rfl)) aM (aQ _)) am (aI KK hr rfl (af (aT aW (pv 1) am (fun _ _=>rfl)) ak))))
 (ai (a6 (PW.pt (pw_or (aN cC (pv 2) am (aQ _)) (pw_or1 (aN cC (pv 3) am (aQ _)))))
 (ar (aP cE))
 aH)
 (ar (aP (aI V_ hr rfl (af (pv 2) (af (pv 3) ak))))))))),(BV rfl h)⟩
theorem lr(F:bJ K mg "turning_read" (top 44) ["stuffs","text"]) (B:eG mg) (VT:hZ P w K mg base 3) (VI:ia P w K mg base 3) (VV:hU P w K mg base 3):hX P w K mg base 4 :=
 F.okN kP (fun _ _ _ _=>by walk_at "l") fun f pe A outer s H vs Q E nd hr hu VQ Id own h=>⟨s_ K,(ai (aJ (i:=2) nd rfl (by walk_at "o") (b9 LL Of Po gm (pv 1) (af aM ak)))
 (ai (aJ (i:=3) nd rfl (by walk_at "o") (b9 LL Of Po gm (aT aW (pv 2) am (fun _ _=>rfl)) (af aM ak)))
 (ai (aJ (i:=4) nd rfl (by walk_at "o") (aI VT hr rfl (af (aT aW (pv 3) am (fun _ _=>rfl)) ak)))
 (ai (a6 (aN gk (pv 4) cE (aQ _))
 (ar (aP cE))
 aH)
 (ai (aJ (i:=5) nd rfl (by walk_at "o") (cA (af (aI VI hr rfl (af (pv 0) (af (aT aW (pv 2) am (fun _ _=>rfl)) ak))) (af (aI VI hr rfl (af (pv 0) (af (aT aW (pv 3) am (fun _ _=>rfl)) ak))) (af (pv 4) ak)))))
 (ai (a6 (aN mM (aI VV hr rfl (af (pv 0) (af (pv 5) ak))) (pv 1) (aQ _))
 (ar (aP cE))
 aH)
 (ar (aP (pv 5))))))))),(BO rfl h)⟩
theorem FJ(T:qr K mg x) (F:bJ K mg "read" (top 45) ["words","texts"]) (B:eG mg) (VH:iA P w K mg base x 4) (WI:Ez P w K mg base x 4) (VU:hX P w K mg base 4) (Wp:GT P w K mg base 1 "NoText" x.c6 (ua K x.c6 "at")):Ey P w K mg base x 5 :=
 F.okM E4 (fun _ _ _ _=>by walk_at "l") fun f pe A outer s H vs Q E nd hr hu VQ Id Wx h=>⟨tu K E x,(ai (aJ (i:=2) nd rfl (by walk_at "o") (gR VH hr rfl Wx.pass (af (pv 0) ak)))
 (ai (aJ (i:=3) nd rfl (by walk_at "o") (cj ak))
 (ai (du Id rfl (FC rfl B.enumerate (af (pv 1) ak)) (vW rfl (eN (bD (i:=4) nd rfl (by walk_at "o")) (eN (bD (i:=5) nd rfl (by walk_at "o")) pj)))
 (ai (aJ (i:=6) nd rfl (by walk_at "o") (aI VU hr rfl (af (pv 2) (af (pv 5) ak))))
 (ai (a6 (aN gk (pv 6) cE (aQ _))
 (ar (y9 Wx rfl rfl Wp (hr.mono (by decide)) (pv 4)))
 aH)
 (ar (bM (b9 Lz Lx Ly a9 (pv 3) (af (pv 6) ak)))))))
 (ar (aP (gR WI hr rfl Wx.pass (af (pv 2) (af (pv 3) ak)))))))),(BQ rfl h)⟩
theorem mS(F:bJ K mg "_law_cell_at" (top 47) ["_law_script","_law_k"]) (B:eG mg)  : cY P w K mg base 1 :=
 F.okN mK (fun _ _ _ _=>by walk_at "l") fun f pe A outer s H vs Q E nd hr hu VQ Id own h=>⟨Hb K,(ai (a6 (aN ij (pv 1) (aC aK rfl B.len bL (af (pv 0) ak)) (aQ _))
 (ar (aP (aT bn (pv 0) (pv 1) (fun _ _=>rfl))))
 aH)
 (ar (aP am))),(by obtain⟨a,ns,k,rfl,hS,h0,q⟩:=h;exact Fn hS h0 q)⟩
theorem rH(F:bJ K mg "_law_mixed" (top 48) ["_law_cell","_law_many"]) (B:eG mg)  : iB P w K mg base 1 :=
 F.okN qP (fun _ _ _ _=>by walk_at "l") fun f pe A outer s H vs Q E nd hr hu VQ Id own h=>⟨tH K,(ai (aJ (i:=2) nd rfl (by walk_at "o") (cj ak))
 (ai (aJ (i:=3) nd rfl (by walk_at "o") (aG cB (pv 0) am))
 (ai (a6 (aN cC (aG aZ (pv 0) am) am (aQ _))
 (ai (du Id rfl (bN rfl B.range (af (pv 1) ak)) (bD (i:=4) nd rfl (by walk_at "o"))
 (ai (bM (b9 Lz Lx Ly a9 (pv 2) (af (aG aZ (pv 3) am) ak)))
 (ar (aJ (i:=3) nd rfl (by walk_at "o") (aG cB (pv 3) am)))))
 (ar (aP (pv 2))))
 aH)
 (ai (aJ (i:=3) nd rfl (by walk_at "o") (aG aZ (aG br (aG fB (aG aZ (pv 3) am) am) am) am))
 (ai (du Id rfl (bN rfl B.range (af (pv 1) ak)) (bD (i:=4) nd rfl (by walk_at "o"))
 (ai (aJ (i:=3) nd rfl (by walk_at "o") (aG aZ (aG br (aG br (aG br (aG fB (pv 3) (pv 3)) (aG fB am (pv 3))) (pv 4)) am) am))
 (ar (bM (b9 Lz Lx Ly a9 (pv 2) (af (pv 3) ak))))))
 (ar (aP (pv 2)))))))),(BW rfl h)⟩
theorem mR(F:bJ K mg "_law_divisor" (top 49) ["_law_one","_law_other"]) (B:eG mg)  : fV P w K mg base 1 :=
 F.okN mJ (fun _ _ _ _=>by walk_at "l") fun f pe A outer s H vs Q E nd hr hu VQ Id own h=>⟨ET,(ai (vR Id (aN mM (pv 1) am (aQ _))
 (ai (aJ (i:=2) nd rfl (by walk_at "o") (aG zx (pv 0) (pv 1)))
 (ai (aJ (i:=0) nd rfl (by walk_at "o") (pv 1))
 (ar (aJ (i:=1) nd rfl (by walk_at "o") (pv 2))))))
 (ar (aP (aC wK rfl B.abs Es (af (pv 0) ak))))),(by obtain⟨a,b,rfl,k⟩:=h;exact DV a b H _ k)⟩
theorem pG(F:bJ K mg "_law_lowest" (top 50) ["_law_top","_law_bottom"]) (B:eG mg) (xv:fV P w K mg base 1):jL P w K mg base 2 :=
 F.okN oZ (fun _ _ _ _=>by walk_at "l") fun f pe A outer s H vs Q E nd hr hu VQ Id own h=>⟨EO,(ai (a6 (aN ij (pv 1) am (aQ _))
 iN
 aH)
 (ai (a6 (aN cC (pv 1) am (aQ _))
 (ar (aJ (i:=1) nd rfl (by walk_at "o") am))
 aH)
 (ai (aJ (i:=2) nd rfl (by walk_at "o") (aI xv hr rfl (af (pv 0) (af (pv 1) ak))))
 (ar (aP (cA (af (aG kj (pv 0) (pv 2)) (af (aG kj (pv 1) (pv 2)) ak)))))))),(Ff rfl h)⟩
theorem uG(F:bJ K mg "_law_base" (top 51) ["_law_cell","_law_size"]) (B:eG mg)  : nZ P w K mg base 1 :=
 F.okN uj (fun _ _ _ _=>by walk_at "l") fun f pe A outer s H vs Q E nd hr hu VQ Id own h=>⟨ya K,(ai (aJ (i:=2) nd rfl (by walk_at "o") (aG aZ (aG br (aG fB (aG aZ (pv 0) am) am) am) am))
 (ai (aJ (i:=3) nd rfl (by walk_at "o") aM)
 (ai (du Id rfl (bN rfl B.range (af (pv 1) ak)) (bD (i:=4) nd rfl (by walk_at "o"))
 (ai (aJ (i:=2) nd rfl (by walk_at "o") (aG aZ (aG br (aG br (aG br (aG fB (pv 2) (pv 2)) (aG fB am (pv 2))) (pv 4)) am) am))
 (ar (aJ (i:=3) nd rfl (by walk_at "o") (aG aX (pv 3) (aT lO aM (aG aZ (pv 2) am) (fun _ _=>rfl)))))))
 (ar (aP (pv 3)))))),(Fp rfl h)⟩
theorem uA(F:bJ K mg "_law_word" (top 52) ["_law_base_here","_law_place","_law_size","_law_k"]) (B:eG mg)  : nR P w K mg base 1 :=
 F.okN ud (fun _ _ _ _=>by walk_at "l") fun f pe A outer s H vs Q E nd hr hu VQ Id own h=>⟨xP K,(ai (aJ (i:=4) nd rfl (by walk_at "o") aM)
 (ai (aJ (i:=5) nd rfl (by walk_at "o") (aT lO (pv 4) (aG aZ (aG br (b9 LL NJ NK jq (pv 4) (af (aT lO (pv 0) (pv 1) (fun _ _=>rfl)) ak)) (aG fB am (pv 3))) am) (fun _ _=>rfl)))
 (ar (aP (aG aX (aG aX (bC yC (pv 0) cq (bU (pv 1))) (pv 5)) (bC yC (pv 0) (bU (aG br (pv 1) am)) (bU (pv 2)))))))),(E8 rfl h)⟩
theorem rE(F:bJ K mg "_law_words" (top 53) ["_law_script","_law_at","_law_many"]) (B:eG mg) (fm:cY P w K mg base 1) (Wb:nZ P w K mg base 1) (Wi:nR P w K mg base 1):mx P w K mg base 2 :=
 F.okN qM (fun _ _ _ _=>by walk_at "l") fun f pe A outer s H vs Q E nd hr hu VQ Id own h=>⟨sX K,(ai (aJ (i:=3) nd rfl (by walk_at "o") (aI fm hr rfl (af (pv 0) (af (pv 1) ak))))
 (ai (aJ (i:=4) nd rfl (by walk_at "o") (aG br am (aG aZ (pv 3) am)))
 (ai (aJ (i:=5) nd rfl (by walk_at "o") (aI Wb hr rfl (af (aI fm hr rfl (af (pv 0) (af (aG br (pv 1) am) ak))) (af am ak))))
 (ai (aJ (i:=6) nd rfl (by walk_at "o") (cj ak))
 (ai (du Id rfl (bN rfl B.range (af (pv 2) ak)) (bD (i:=7) nd rfl (by walk_at "o"))
 (ai (aJ (i:=8) nd rfl (by walk_at "o") (aI Wi hr rfl (af (pv 5) (af (aG aZ (aG cB (pv 3) am) (pv 4)) (af (pv 4) (af (pv 7) ak))))))
 (ai (a6 (aN cC (aG aZ (aG cB (pv 3) am) am) am (aQ _))
 (ar (aJ (i:=8) nd rfl (by walk_at "o") (bC yC (pv 5) cq (bU (aG br (pv 7) am)))))
 aH)
 (ar (bM (b9 Lz Lx Ly a9 (pv 6) (af (pv 8) ak)))))))
 (ar (aP (pv 6)))))))),(BL rfl h)⟩
theorem uE(F:bJ K mg "_law_heap" (top 54) ["_law_number","_law_many","_law_most"]) (B:eG mg)  : nX P w K mg base 1 :=
 F.okN uh (fun _ _ _ _=>by walk_at "l") fun f pe A outer s H vs Q E nd hr hu VQ Id own h=>⟨x6 K,(ai (aJ (i:=3) nd rfl (by walk_at "o") (cj ak))
 (ai (du Id rfl (bN rfl B.range (af (pv 1) ak)) (bD (i:=4) nd rfl (by walk_at "o"))
 (ai (bM (b9 Lz Lx Ly a9 (pv 3) (af (aG aZ (pv 0) (aG br (pv 2) am)) ak)))
 (ar (aJ (i:=0) nd rfl (by walk_at "o") (aG cB (pv 0) (aG br (pv 2) am))))))
 (ar (aP (a7 bc rfl B.tuple bS (af (pv 3) ak)))))),(Fj rfl h)⟩
theorem uC(F:bJ K mg "_law_pool" (top 55) ["_law_script","_law_at","_law_many"]) (B:eG mg) (fm:cY P w K mg base 1) (We:nX P w K mg base 1) (VG:iB P w K mg base 1):nV P w K mg base 2 :=
 F.okN uf (fun _ _ _ _=>by walk_at "l") fun f pe A outer s H vs Q E nd hr hu VQ Id own h=>⟨xT K,(ai (aJ (i:=3) nd rfl (by walk_at "o") (aI fm hr rfl (af (pv 0) (af (pv 1) ak))))
 (ai (aJ (i:=4) nd rfl (by walk_at "o") (aT bn (cj (af am (af am (af am (af am ak))))) (aG aZ (pv 3) am) (fun _ _=>rfl)))
 (ai (aJ (i:=5) nd rfl (by walk_at "o") (cj ak))
 (ai (du Id rfl (bN rfl B.range (af (aG br am (aG aZ (aG cB (pv 3) am) am)) ak)) (bD (i:=6) nd rfl (by walk_at "o"))
 (ai (aJ (i:=7) nd rfl (by walk_at "o") (aI We hr rfl (af (aT bn (aI VG hr rfl (af (aI fm hr rfl (af (pv 0) (af (aG br (aG br (pv 1) am) (pv 6)) ak))) (af am ak))) am (fun _ _=>rfl)) (af (pv 2) (af (pv 4) ak)))))
 (ar (a6 (aN (rB hu) (pv 7) (pv 5) (by with_unfolding_all rfl))
 (ar (bM (b9 Lz Lx Ly a9 (pv 5) (af (pv 7) ak))))
 aH))))
 (ai (a6 (aN ij (aC aK rfl B.len bL (af (pv 5) ak)) am (aQ _))
 (ar (bM (b9 Lz Lx Ly a9 (pv 5) (af (a7 bc rfl B.tuple bS (af (aG k_ (cj (af (a7 gB rfl B.int eV (af (cr cC (aT aW (aT bn (pv 5) am (fun _ _=>rfl)) am (fun _ _=>rfl)) am (aQ _)) ak)) ak)) (gj (M:=["_law_script","_law_at","_law_many","_law_first","_law_most","_law_found","#_law_k","_law_heap_here"]) (by show dm (aB (top 55)) ["_law_script","_law_at","_law_many","_law_first","_law_most","_law_found","_law_k","_law_heap_here"] ["_law_script","_law_at","_law_many","_law_first","_law_most","_law_found","#_law_k","_law_heap_here"] _ _;walk_at "c") nd rfl (bN rfl B.range (af (aG nA (pv 2) am) ak)) (fun _ _ _ _ _=>am))) ak)) ak))))
 aH)
 (ar (aP (pv 5)))))))),(Fb rfl h)⟩
theorem uD(F:bJ K mg "_law_pace" (top 56) ["_law_number","_law_other","_law_great"]) (B:eG mg) (wp:FnC P w K mg base dh 2 "_law_lowest" ["_law_top","_law_bottom"] (qG K)):nW P w K mg base 3 :=
 F.okN ug (fun _ _ _ _=>by walk_at "l") fun f pe A outer s H vs Q E nd hr hu VQ Id own h=>⟨xW K,(ai (a6 (bH (pv 2))
 (ar (aP (aI wp hr rfl (af (aG br am (aG aZ (aG fB (pv 0) am) (aG nA (aG D6 am am) am))) (af (aG br am (aG aZ (aG fB (pv 1) am) (aG nA (aG D6 am am) am))) ak)))))
 aH)
 (ar (aP (aI wp hr rfl (af (aG br am (aG aZ (pv 0) am)) (af (aG br am (aG aZ (pv 1) am)) ak)))))),(Fc rfl h)⟩
theorem lA(F:bJ K mg "_law_turnings" (top 57) ["_law_script","_law_at","_law_pool_here"]) (B:eG mg) (fm:cY P w K mg base 3) (VG:iB P w K mg base 3) (Wf:nW P w K mg base 3):h_ P w K mg base 4 :=
 F.okN kR (fun _ _ _ _=>by walk_at "l") fun f pe A outer s H vs Q E nd hr hu VQ Id own h=>⟨xQ K,(ai (aJ (i:=3) nd rfl (by walk_at "o") (aI fm hr rfl (af (pv 0) (af (pv 1) ak))))
 (ai (aJ (i:=4) nd rfl (by walk_at "o") (cj ak))
 (ai (aJ (i:=5) nd rfl (by walk_at "o") (cj ak))
 (ai (du Id rfl (bN rfl B.range (af (aG br am (aG aZ (aG cB (pv 3) am) am)) ak)) (bD (i:=6) nd rfl (by walk_at "o"))
 (ai (aJ (i:=7) nd rfl (by walk_at "o") (aI VG hr rfl (af (aI fm hr rfl (af (pv 0) (af (aG br (aG br (pv 1) am) (pv 6)) ak))) (af am ak))))
 (ai (aJ (i:=8) nd rfl (by walk_at "o") (aG aZ (aT bn (pv 7) am (fun _ _=>rfl)) (aC aK rfl B.len bL (af (pv 2) ak))))
 (ai (aJ (i:=9) nd rfl (by walk_at "o") (aG aZ (aG br (aG br (pv 8) am) (aG aZ (aT bn (pv 7) am (fun _ _=>rfl)) (aG nA (aC aK rfl B.len bL (af (pv 2) ak)) am))) (aC aK rfl B.len bL (af (pv 2) ak))))
 (ai (a6 (aN cC (aG aZ (pv 3) am) am (aQ _))
 (ai (aJ (i:=8) nd rfl (by walk_at "o") (aG aZ (pv 6) (aC aK rfl B.len bL (af (pv 2) ak))))
 (ar (aJ (i:=9) nd rfl (by walk_at "o") (aG aZ (aG br (pv 6) am) (aC aK rfl B.len bL (af (pv 2) ak))))))
 aH)
 (ar (du Id rfl (dJ (bC jg (cj (af (cA (af (pv 8) (af (pv 9) ak))) (af (cA (af (pv 9) (af (pv 8) ak))) ak))) cq (bU (aG br am (a7 gB rfl B.int eV (af (cr cC (aG aZ (pv 3) am) am (aQ _)) ak)))))) (bD (i:=10) nd rfl (by walk_at "o"))
 (ar (a6 (PW.pt (pw_and (aN (rB hu) (pv 10) (pv 4) (by with_unfolding_all rfl)) (pw_and1 (aN ij (aC aK rfl B.len bL (af (pv 4) ak)) am (aQ _)))))
 (ai (bM (b9 Lz Lx Ly a9 (pv 4) (af (pv 10) ak)))
 (ai (aJ (i:=11) nd rfl (by walk_at "o") (aI Wf hr rfl (af (aT bn (pv 7) (aG br am (aG aZ (aT aW (pv 10) am (fun _ _=>rfl)) am)) (fun _ _=>rfl)) (af (aT bn (pv 7) (aG br am (aG aZ (aT aW (pv 10) am (fun _ _=>rfl)) am)) (fun _ _=>rfl)) (af (cr cC (aG aZ (aG cB (pv 3) am) am) am (aQ _)) ak)))))
 (ar (bM (b9 Lz Lx Ly a9 (pv 5) (af (cA (af (aT bn (pv 2) (aT aW (pv 10) am (fun _ _=>rfl)) (fun _ _=>rfl)) (af (aT bn (pv 2) (aT aW (pv 10) am (fun _ _=>rfl)) (fun _ _=>rfl)) (af (pv 11) ak)))) ak))))))
 aH)))))))))
 (ar (aP (pv 5))))))),(E9 rfl h)⟩
theorem pF(F:bJ K mg "_law_vessel" (top 58) ["_law_script"]) (B:eG mg) (V6:mx P w K mg base 4) (fm:cY P w K mg base 4) (VS:h_ P w K mg base 4) (Wg:nV P w K mg base 4):jK P w K mg base 5 :=
 F.okN oY (fun _ _ _ _=>by walk_at "l") fun f pe A outer s H vs Q E nd hr hu VQ Id own h=>⟨oA K,(ai (aJ (i:=1) nd rfl (by walk_at "o") (aG br am (aG aZ (aI fm hr rfl (af (pv 0) (af am ak))) am)))
 (ai (aJ (i:=2) nd rfl (by walk_at "o") (aI V6 hr rfl (af (pv 0) (af am (af (pv 1) ak)))))
 (ar (aP (cA (af (a7 bc rfl B.tuple bS (af (pv 2) ak)) (af (a7 bc rfl B.tuple bS (af (aI VS hr rfl (af (pv 0) (af am (af (aI Wg hr rfl (af (pv 0) (af am (af (pv 1) ak)))) ak)))) ak)) ak))))))),(yQ rfl h)⟩
theorem rF(F:bJ K mg "_law_whole" (top 59) ["_law_found"]) (B:eG mg)  : my P w K mg base 1 :=
 F.okN qN (fun _ _ _ _=>by walk_at "l") fun f pe A outer s H vs Q E nd hr hu VQ Id own h=>⟨yb K,(ar (aP (eZ (aC bw rfl B.isinstance aD (af (pv 0) (af (bE rfl B.int eV rfl) ak))) (fy (vX (aC bw rfl B.isinstance aD (af (pv 0) (af (bE rfl B.bool gD rfl) ak)))))))),(by obtain⟨i,rfl,k⟩:=h;exact vK k)⟩
theorem CA(F:bJ K mg "_law_same" (top 60) ["_law_found","_law_due_here"]) (B:eG mg):FnC P w K mg base dh 1 "_law_same" ["_law_found","_law_due_here"] (g9 K 0):=by
 refine F.ok fJ (fun vs H Q E h=>rQ h) (fun f pe A outer s H vs Q E hr h=>?_);have nd:=fJ.nd;have Id:=fun {M A env}=>@PV M A env
 have hu:=hr.units;exact⟨tq K,(ai (a6 (PW.pt (pw_or (bH (aC bw rfl B.isinstance aD (af (pv 1) (af (bE rfl B.tuple bS rfl) ak)))) (pw_or1 (bH (aC bw rfl B.isinstance aD (af (pv 1) (af (bE rfl B.list iw rfl) ak)))))))
 iN
 aH)
 (ai (a6 (bH (aC bw rfl B.isinstance aD (af (pv 1) (af (bE rfl B.bool gD rfl) ak))))
 (ar (aP (eZ (aC bw rfl B.isinstance aD (af (pv 0) (af (bE rfl B.bool gD rfl) ak))) (fy (cr cC (pv 0) (pv 1) (aQ _))))))
 aH)
 (ai (a6 (bH (aC bw rfl B.isinstance aD (af (pv 1) (af (bE rfl B.int eV rfl) ak))))
 (ar (aP (eZ (aC bw rfl B.isinstance aD (af (pv 0) (af (bE rfl B.int eV rfl) ak))) (eZ (vX (aC bw rfl B.isinstance aD (af (pv 0) (af (bE rfl B.bool gD rfl) ak)))) (fy (cr cC (pv 0) (pv 1) (aQ _)))))))
 aH)
 (ai (a6 (bH (aC bw rfl B.isinstance aD (af (pv 1) (af (bE rfl B.str md rfl) ak))))
 (ar (aP (eZ (aC bw rfl B.isinstance aD (af (pv 0) (af (bE rfl B.str md rfl) ak))) (fy (cr cC (pv 0) (pv 1) (aQ _))))))
 aH)
 (ar (aP (eZ (cr gk (pv 1) cE (aQ _)) (fy (cr gk (pv 0) cE (aQ _)))))))))),(BP rfl h)⟩
theorem Cz{m:Nat} (F:bJ K mg "_law_same" (top 60) ["_law_found","_law_due_here"]) (B:eG mg) (VR:FnC P w K mg base dh (m+1) "_law_same" ["_law_found","_law_due_here"] (g9 K m)):FnC P w K mg base dh (m+2) "_law_same" ["_law_found","_law_due_here"] (g9 K (m+1)):=by
 refine F.ok fJ (fun vs H Q E h=>rQ h) (fun f pe A outer s H vs Q E hr h=>?_);have nd:=fJ.nd;have Id:=fun {M A env}=>@PV M A env
 have hu:=hr.units;exact⟨xS K m,(ai (a6 (PW.pt (pw_or (bH (aC bw rfl B.isinstance aD (af (pv 1) (af (bE rfl B.tuple bS rfl) ak)))) (pw_or1 (bH (aC bw rfl B.isinstance aD (af (pv 1) (af (bE rfl B.list iw rfl) ak)))))))
 (ai (a6 (PW.pt (pw_or (aN mM (aC bw rfl B.isinstance aD (af (pv 0) (af (bE rfl B.tuple bS rfl) ak))) (aC bw rfl B.isinstance aD (af (pv 1) (af (bE rfl B.tuple bS rfl) ak))) (aQ _)) (pw_or1 (aN mM (aC bw rfl B.isinstance aD (af (pv 0) (af (bE rfl B.list iw rfl) ak))) (aC bw rfl B.isinstance aD (af (pv 1) (af (bE rfl B.list iw rfl) ak))) (aQ _)))))
 (ar (aP jS))
 aH)
 (ai (a6 (aN mM (aC aK rfl B.len bL (af (pv 0) ak)) (aC aK rfl B.len bL (af (pv 1) ak)) (aQ _))
 (ar (aP jS))
 aH)
 (ai (du Id rfl (bN rfl B.range (af (aC aK rfl B.len bL (af (pv 1) ak)) ak)) (bD (i:=2) nd rfl (by walk_at "o"))
 (ar (a6 (eK (bH (aI VR hr rfl (af (aT Ej (pv 0) (pv 2) (fun _ _=>rfl)) (af (aT Ej (pv 1) (pv 2) (fun _ _=>rfl)) ak)))))
 (ar (aP jS))
 aH)))
 (ar (aP jS)))))
 aH)
 (ai (a6 (bH (aC bw rfl B.isinstance aD (af (pv 1) (af (bE rfl B.bool gD rfl) ak))))
 (ar (aP (eZ (aC bw rfl B.isinstance aD (af (pv 0) (af (bE rfl B.bool gD rfl) ak))) (fy (cr cC (pv 0) (pv 1) (aQ _))))))
 aH)
 (ai (a6 (bH (aC bw rfl B.isinstance aD (af (pv 1) (af (bE rfl B.int eV rfl) ak))))
 (ar (aP (eZ (aC bw rfl B.isinstance aD (af (pv 0) (af (bE rfl B.int eV rfl) ak))) (eZ (vX (aC bw rfl B.isinstance aD (af (pv 0) (af (bE rfl B.bool gD rfl) ak)))) (fy (cr cC (pv 0) (pv 1) (aQ _)))))))
 aH)
 (ai (a6 (bH (aC bw rfl B.isinstance aD (af (pv 1) (af (bE rfl B.str md rfl) ak))))
 (ar (aP (eZ (aC bw rfl B.isinstance aD (af (pv 0) (af (bE rfl B.str md rfl) ak))) (fy (cr cC (pv 0) (pv 1) (aQ _))))))
 aH)
 (ar (aP (eZ (cr gk (pv 1) cE (aQ _)) (fy (cr gk (pv 0) cE (aQ _)))))))))),(Fa rfl h)⟩
theorem zy(F:bJ K mg "_law_same" (top 60) ["_law_found","_law_due_here"]) (B:eG mg):∀m:Nat,FnC P w K mg base dh (m+1) "_law_same" ["_law_found","_law_due_here"] (g9 K m)
 |0=>CA F B
 |m+1=>Cz F B (zy F B m)
theorem rJ(T:qr K mg x) (F:bJ K mg "_law_kinds" (top 61) ["_law_e"]) (B:eG mg)  : mD P w K mg base x 1 :=
 F.okN qQ (fun _ _ _ _=>by walk_at "l") fun f pe A outer s H vs Q E nd hr hu VQ Id own h=>⟨Ex0.ye K x,(ai (aJ (i:=1) nd rfl (by walk_at "o") (cj ak))
 (ai (a6 (bH (aC cg rfl B.isinstance aD (af (pv 0) (af (c_ rfl T.m0 rfl) ak))))
 (ar (bM (b9 Lz Lx Ly a9 (pv 1) (af aM ak))))
 aH)
 (ai (a6 (bH (aC cg rfl B.isinstance aD (af (pv 0) (af (c_ rfl T.m1 rfl) ak))))
 (ar (bM (b9 Lz Lx Ly a9 (pv 1) (af aM ak))))
 aH)
 (ai (a6 (bH (aC cg rfl B.isinstance aD (af (pv 0) (af (c_ rfl T.m2 rfl) ak))))
 (ar (bM (b9 Lz Lx Ly a9 (pv 1) (af aM ak))))
 aH)
 (ai (a6 (bH (aC cg rfl B.isinstance aD (af (pv 0) (af (c_ rfl T.m3 rfl) ak))))
 (ar (bM (b9 Lz Lx Ly a9 (pv 1) (af aM ak))))
 aH)
 (ai (a6 (bH (aC cg rfl B.isinstance aD (af (pv 0) (af (c_ rfl T.m4 rfl) ak))))
 (ar (bM (b9 Lz Lx Ly a9 (pv 1) (af aM ak))))
 aH)
 (ai (a6 (bH (aC cg rfl B.isinstance aD (af (pv 0) (af (c_ rfl T.m5 rfl) ak))))
 (ar (bM (b9 Lz Lx Ly a9 (pv 1) (af aM ak))))
 aH)
 (ai (a6 (bH (aC cg rfl B.isinstance aD (af (pv 0) (af (c_ rfl T.m6 rfl) ak))))
 (ar (bM (b9 Lz Lx Ly a9 (pv 1) (af aM ak))))
 aH)
 (ai (a6 (bH (aC cg rfl B.isinstance aD (af (pv 0) (af (c_ rfl T.m7 rfl) ak))))
 (ar (bM (b9 Lz Lx Ly a9 (pv 1) (af aM ak))))
 aH)
 (ai (a6 (bH (aC cg rfl B.isinstance aD (af (pv 0) (af (c_ rfl T.m8 rfl) ak))))
 (ar (bM (b9 Lz Lx Ly a9 (pv 1) (af aM ak))))
 aH)
 (ai (a6 (bH (aC cg rfl B.isinstance aD (af (pv 0) (af (c_ rfl T.m9 rfl) ak))))
 (ar (bM (b9 Lz Lx Ly a9 (pv 1) (af aM ak))))
 aH)
 (ai (a6 (bH (aC cg rfl B.isinstance aD (af (pv 0) (af (c_ rfl T.m10 rfl) ak))))
 (ar (bM (b9 Lz Lx Ly a9 (pv 1) (af aM ak))))
 aH)
 (ai (a6 (bH (aC cg rfl B.isinstance aD (af (pv 0) (af (c_ rfl T.m11 rfl) ak))))
 (ar (bM (b9 Lz Lx Ly a9 (pv 1) (af aM ak))))
 aH)
 (ai (a6 (bH (aC cg rfl B.isinstance aD (af (pv 0) (af (c_ rfl T.m12 rfl) ak))))
 (ar (bM (b9 Lz Lx Ly a9 (pv 1) (af aM ak))))
 aH)
 (ai (a6 (bH (aC cg rfl B.isinstance aD (af (pv 0) (af (c_ rfl T.m13 rfl) ak))))
 (ar (bM (b9 Lz Lx Ly a9 (pv 1) (af aM ak))))
 aH)
 (ai (a6 (eK (bH (aC cg rfl B.isinstance aD (af (pv 0) (af (bE rfl T.mv qm rfl) ak)))))
 (ar (bM (b9 Lz Lx Ly a9 (pv 1) (af aM ak))))
 aH)
 (ar (aP (pv 1))))))))))))))))))),(BY T rfl h)⟩
theorem jW(F:bJ K mg "_law_heap_text" (top 62) ["_law_words_here","_law_heap_here"]) (B:eG mg)  : gI P w K mg base 1 :=
 F.okN jP (fun _ _ _ _=>by walk_at "l") fun f pe A outer s H vs Q E nd hr hu VQ Id own h=>⟨kD K,(ai (aJ (i:=2) nd rfl (by walk_at "o") (cj ak))
 (ai (du Id rfl (bN rfl B.range (af (aC aK rfl B.len bL (af (pv 0) ak)) ak)) (bD (i:=3) nd rfl (by walk_at "o"))
 (ar (a6 (aN mO (aT aW (pv 1) (pv 3) (fun _ _=>rfl)) am (aQ _))
 (ar (bM (b9 Lz Lx Ly a9 (pv 2) (af (aT bn (cj (af aM (af (aT bn (pv 0) (pv 3) (fun _ _=>rfl)) (af (aG aX aM (aT bn (pv 0) (pv 3) (fun _ _=>rfl))) (af (aG aX aM (aT bn (pv 0) (pv 3) (fun _ _=>rfl))) ak))))) (aT aW (pv 1) (pv 3) (fun _ _=>rfl)) (fun _ _=>rfl)) ak))))
 aH)))
 (ai (a6 (aN (v0 hu) (pv 2) (cj ak) (aQ _))
 (ar (aP aM))
 aH)
 (ar (aP (b9 LL O8 O9 pJ aM (af (pv 2) ak))))))),(wY rfl h)⟩
theorem ik(F:bJ K mg "_law_turning_text" (top 63) ["_law_words_here","_law_turning"]) (B:eG mg) (LT:gI P w K mg base 1):fb P w K mg base 2 :=
 F.okN ie (fun _ _ _ _=>by walk_at "l") fun f pe A outer s H vs Q E nd hr hu VQ Id own h=>⟨kC K,(ai (aJ (i:=2) nd rfl (by walk_at "o") (a7 sv rfl B.str md (af (aT aW (aT aW (pv 1) am (fun _ _=>rfl)) am (fun _ _=>rfl)) ak)))
 (ai (a6 (aN mO (aT aW (aT aW (pv 1) am (fun _ _=>rfl)) am (fun _ _=>rfl)) am (aQ _))
 (ar (aJ (i:=2) nd rfl (by walk_at "o") (aG aX (aG aX (pv 2) aM) (a7 sv rfl B.str md (af (aT aW (aT aW (pv 1) am (fun _ _=>rfl)) am (fun _ _=>rfl)) ak)))))
 aH)
 (ai (aJ (i:=3) nd rfl (by walk_at "o") (aG aX (aG aX (aI LT hr rfl (af (pv 0) (af (aT aW (pv 1) am (fun _ _=>rfl)) ak))) aM) (aI LT hr rfl (af (pv 0) (af (aT aW (pv 1) am (fun _ _=>rfl)) ak)))))
 (ar (aP (aG aX (aG aX (pv 3) aM) (pv 2))))))),(wX rfl h)⟩
theorem rG(F:bJ K mg "_law_piece" (top 64) ["_law_words_here","_law_text"]) (B:eG mg)  : mB P w K mg base 1 :=
 F.okN qO (fun _ _ _ _=>by walk_at "l") fun f pe A outer s H vs Q E nd hr hu VQ Id own h=>⟨tD K,(ai (du Id rfl (bN rfl B.range (af (aC aK rfl B.len bL (af (pv 0) ak)) ak)) (bD (i:=2) nd rfl (by walk_at "o"))
 (ar (du Id rfl (zp rfl B.range (af am (af am ak))) (bD (i:=3) nd rfl (by walk_at "o"))
 (ar (a6 (aN cC (pv 1) (aT bn (cj (af aM (af (aT bn (pv 0) (pv 2) (fun _ _=>rfl)) (af (aG aX aM (aT bn (pv 0) (pv 2) (fun _ _=>rfl))) (af (aG aX aM (aT bn (pv 0) (pv 2) (fun _ _=>rfl))) ak))))) (pv 3) (fun _ _=>rfl)) (aQ _))
 (ar (aP (cA (af (pv 2) (af (pv 3) ak)))))
 aH)))))
 (ar (aP cE))),(BR rfl h)⟩
theorem jX(F:bJ K mg "_law_heap_read" (top 65) ["_law_words_here","_law_text"]) (B:eG mg) (V4:mB P w K mg base 1):gJ P w K mg base 2 :=
 F.okN jQ (fun _ _ _ _=>by walk_at "l") fun f pe A outer s H vs Q E nd hr hu VQ Id own h=>⟨tJ K,(ai (y_ (M:=["_law_words_here","_law_text","_law_heap_here","_law_last","_law_part","_law_found"]) (i:=2) nd rfl rfl (by show dm (aB (top 65)) ["_law_words_here","_law_text","_law_heap_here","_law_last","_law_part","_law_found"] ["_law_words_here","_law_text","_law_heap_here","_law_last","_law_part","_law_found"] _ _;walk_at "c") rfl (dJ (pv 0)) (fun _ _ _ _ _=>am))
 (ai (a6 (aN cC (pv 1) aM (aQ _))
 (ar (aP (a7 bc rfl B.tuple bS (af (pv 2) ak))))
 aH)
 (ai (aJ (i:=3) nd rfl (by walk_at "o") (xg m_ am))
 (ai (du Id rfl (dJ (b9 LL Mq MU dY (pv 1) (af aM ak))) (bD (i:=4) nd rfl (by walk_at "o"))
 (ai (aJ (i:=5) nd rfl (by walk_at "o") (aI V4 hr rfl (af (pv 0) (af (pv 4) ak))))
 (ai (a6 (PW.pt (pw_or (aN gk (pv 5) cE (aQ _)) (pw_or1 (aN pC (aT aW (pv 5) am (fun _ _=>rfl)) (pv 3) (aQ _)))))
 (ar (aP cE))
 aH)
 (ai (aJ (i:=3) nd rfl (by walk_at "o") (aT aW (pv 5) am (fun _ _=>rfl)))
 (ar (zc (aT aW (pv 5) am (fun _ _=>rfl)) (D0 (pv 2) (pv 3) qJ)))))))
 (ar (aP (a7 bc rfl B.tuple bS (af (pv 2) ak)))))))),(B0 rfl h)⟩
theorem mQ(F:bJ K mg "_law_figures" (top 66) ["_law_text"]) (B:eG mg)  : ja P w K mg base 1 :=
 F.okN mI (fun _ _ _ _=>by walk_at "l") fun f pe A outer s H vs Q E nd hr hu VQ Id own h=>⟨x8 K,(ai (a6 (PW.pt (pw_or (aN cC (pv 0) aM (aQ _)) (pw_or1 (aN cC (aT lO (pv 0) am (fun _ _=>rfl)) aM (aQ _)))))
 (ar (aP jS))
 aH)
 (ar (aP (cr cC (aC aK rfl B.len bL (af (D4 ["_law_sign"] ["_law_text"] (by show dm (aB (top 66)) ["_law_text"] ["_law_text"] _ _;walk_at "c") rfl (zo (pv 0)) (fun _ _ _ _ _=>(bD (i:=0) (show(["_law_sign","_law_text"]:List Str).Nodup by decide +kernel) rfl (by walk_at "o"))) (fun _ _ _ _ _=>(aN rA (pv 0) aM (by with_unfolding_all rfl))) (fun _ _ _ _ _=>(pv 0))) ak)) am (aQ _))))),(Fl rfl h)⟩
theorem jU(F:bJ K mg "_law_pace_read" (top 67) ["_law_text"]) (B:eG mg) (xv:fV P w K mg base 1) (VX:ja P w K mg base 1):gF P w K mg base 2 :=
 F.okN jN (fun _ _ _ _=>by walk_at "l") fun f pe A outer s H vs Q E nd hr hu VQ Id own h=>⟨tF K,(ai (aJ (i:=1) nd rfl (by walk_at "o") (b9 LL Mq MU dY (pv 0) (af aM ak)))
 (ai (a6 (PW.pt (pw_or (aN mO (aC aK rfl B.len bL (af (pv 1) ak)) am (aQ _)) (pw_or1 (eK (bH (aC (i7 rfl) rfl B.all sH (af (gj (M:=["_law_text","_law_parts","_law_pace_here"]) (by show dm (aB (top 67)) ["_law_text","_law_parts","_law_pace_here"] ["_law_text","_law_parts","_law_pace_here"] _ _;walk_at "c") nd rfl (dJ (pv 1)) (fun _ _ _ _ _=>(aI VX hr rfl (af (pv 0) ak)))) ak)))))))
 (ar (aP cE))
 aH)
 (ai (a6 (aN cC (aC aK rfl B.len bL (af (pv 1) ak)) am (aQ _))
 (ar (aP (cA (af (a7 i5 rfl B.int eV (af (aT bn (pv 1) am (fun _ _=>rfl)) ak)) (af am ak)))))
 aH)
 (ai (aJ (i:=2) nd rfl (by walk_at "o") (cA (af (a7 i5 rfl B.int eV (af (aT bn (pv 1) am (fun _ _=>rfl)) ak)) (af (a7 i5 rfl B.int eV (af (aT bn (pv 1) am (fun _ _=>rfl)) ak)) ak))))
 (ai (a6 (PW.pt (pw_or (aN cC (aT aW (pv 2) am (fun _ _=>rfl)) am (aQ _)) (pw_or1 (aN mO (aI xv hr rfl (af (aT aW (pv 2) am (fun _ _=>rfl)) (af (aT aW (pv 2) am (fun _ _=>rfl)) ak))) am (aQ _)))))
 (ar (aP cE))
 aH)
 (ar (aP (pv 2)))))))),(BU rfl h)⟩
theorem il(F:bJ K mg "_law_turning_read" (top 68) ["_law_words_here","_law_text"]) (B:eG mg) (LE:gJ P w K mg base 2) (VO:gF P w K mg base 2):fe P w K mg base 3 :=
 F.okN ig (fun _ _ _ _=>by walk_at "l") fun f pe A outer s H vs Q E nd hr hu VQ Id own h=>⟨sZ K,(ai (aJ (i:=2) nd rfl (by walk_at "o") (b9 LL Mq MU dY (pv 1) (af aM ak)))
 (ai (a6 (PW.pt (pw_or (aN mM (aC aK rfl B.len bL (af (pv 2) ak)) am (aQ _)) (pw_or1 (aN mM (aC aK rfl B.len bL (af (b9 LL Mq MU dY (aT bn (pv 2) am (fun _ _=>rfl)) (af aM ak)) ak)) am (aQ _)))))
 (ar (aP cE))
 aH)
 (ai (aJ (i:=3) nd rfl (by walk_at "o") (b9 LL Mq MU dY (aT bn (pv 2) am (fun _ _=>rfl)) (af aM ak)))
 (ai (aJ (i:=4) nd rfl (by walk_at "o") (aI LE hr rfl (af (pv 0) (af (aT bn (pv 3) am (fun _ _=>rfl)) ak))))
 (ai (aJ (i:=5) nd rfl (by walk_at "o") (aI LE hr rfl (af (pv 0) (af (aT bn (pv 3) am (fun _ _=>rfl)) ak))))
 (ai (aJ (i:=6) nd rfl (by walk_at "o") (aI VO hr rfl (af (aT bn (pv 2) am (fun _ _=>rfl)) ak)))
 (ai (a6 (PW.pt (pw_or (aN gk (pv 4) cE (aQ _)) (pw_or (aN gk (pv 5) cE (aQ _)) (pw_or1 (aN gk (pv 6) cE (aQ _))))))
 (ar (aP cE))
 aH)
 (ar (aP (cA (af (pv 4) (af (pv 5) (af (pv 6) ak))))))))))))),(BN rfl h)⟩
theorem uF(F:bJ K mg "_law_bent" (top 69) ["_law_words_here","_law_text","_law_cell","_law_more"]) (B:eG mg)  : nY P w K mg base 1 :=
 F.okN ui (fun _ _ _ _=>by walk_at "l") fun f pe A outer s H vs Q E nd hr hu VQ Id own h=>⟨x_ K,(ai (aJ (i:=4) nd rfl (by walk_at "o") (aG aZ (pv 3) (aG br (aC gA rfl B.len bL (af (pv 1) ak)) am)))
 (ai (aJ (i:=5) nd rfl (by walk_at "o") aM)
 (ai (aJ (i:=6) nd rfl (by walk_at "o") (aT lO (pv 5) (aG aZ (aG cB (pv 2) am) (aC gA rfl B.len bL (af (pv 5) ak))) (fun _ _=>rfl)))
 (ai (a6 (aN mO (aG aZ (pv 2) am) am (aQ _))
 (ar (aJ (i:=6) nd rfl (by walk_at "o") (aT lO aM (aG aZ (aG cB (pv 2) am) am) (fun _ _=>rfl))))
 aH)
 (ai (a6 (aN ij (aG aZ (pv 2) am) am (aQ _))
 (ar (aP (aG aX (aG aX (bC dN (pv 1) cq (bU (pv 4))) (pv 6)) (bC dN (pv 1) (bU (aG br (pv 4) (aG aZ (pv 2) am))) cq))))
 aH)
 (ai (a6 (aN ij (aG aZ (pv 2) am) am (aQ _))
 (ar (aP (aG aX (bC dN (pv 1) cq (bU (pv 4))) (aT bn (cj (af aM (af (bC dN (pv 1) (bU (aG br (pv 4) am)) cq) ak))) (a7 gB rfl B.int eV (af (cr cC (aG aZ (pv 2) am) am (aQ _)) ak)) (fun _ _=>rfl)))))
 aH)
 (ai (aJ (i:=7) nd rfl (by walk_at "o") (b9 LL NJ NK jq (pv 1) (af aM ak)))
 (ai (aJ (i:=8) nd rfl (by walk_at "o") (aT bn (pv 0) (aG aZ (pv 3) (aC aK rfl B.len bL (af (pv 0) ak))) (fun _ _=>rfl)))
 (ai (a6 (aN cC (aG aZ (pv 2) am) am (aQ _))
 (ar (aP (aG aX (b9 LL O8 O9 pJ aM (af (zq (b9 LL Mq MU dY (bC dN (pv 1) cq (bU (pv 7))) (af aM ak)) (xg m_ am)) ak)) (bC dN (pv 1) (bU (pv 7)) cq))))
 aH)
 (ai (a6 (aN cC (aG aZ (pv 2) am) am (aQ _))
 (ai (aJ (i:=9) nd rfl (by walk_at "o") (b9 LL Mq MU dY (bC dN (pv 1) (bU (aG br (pv 7) am)) (bU (b9 LL NJ NK jq (pv 1) (af aM ak)))) (af aM ak)))
 (ar (aP (aG aX (aG aX (bC dN (pv 1) cq (bU (aG br (pv 7) am))) (b9 LL O8 O9 pJ aM (af (zq (pv 9) (xg m_ am)) ak))) (bC dN (pv 1) (bU (b9 LL NJ NK jq (pv 1) (af aM ak))) cq)))))
 aH)
 (ai (aJ (i:=10) nd rfl (by walk_at "o") (aT bn (cj (af aM (af aM (af aM (af aM (af aM (af aM (af aM (af aM (af aM (af aM (af aM (af aM ak))))))))))))) (aG aZ (aG cB (pv 2) am) am) (fun _ _=>rfl)))
 (ai (a6 (aN ij (aG aZ (pv 2) am) am (aQ _))
 (ar (aP (aG aX (bC dN (pv 1) cq (bU (aG br (b9 LL NJ NK jq (pv 1) (af aM ak)) am))) (pv 10))))
 aH)
 (ai (aJ (i:=11) nd rfl (by walk_at "o") (aT bn (cj (af aM (af aM (af aM (af (aG aX (pv 8) aM) (af aM (af aM ak))))))) (aG aZ (aG cB (pv 2) am) am) (fun _ _=>rfl)))
 (ai (aJ (i:=12) nd rfl (by walk_at "o") (aT bn (cj (af (aG aX (pv 11) (pv 8)) (af (aG aX (pv 8) aM) (af aM (af (aG aX (pv 8) aM) ak))))) (aG fB (a7 gB rfl B.int eV (af (cr mO (aG aZ (aG cB (pv 2) am) am) am (aQ _)) ak)) (aG br am (aG aZ (pv 3) am))) (fun _ _=>rfl)))
 (ai (a6 (aN ij (aG aZ (pv 2) am) am (aQ _))
 (ar (aP (aG aX (pv 12) (bC dN (pv 1) (bU (pv 7)) cq))))
 aH)
 (ar (aP (aG aX (aG aX (bC dN (pv 1) cq (bU (aG br (pv 7) am))) (pv 12)) (bC dN (pv 1) (bU (b9 LL NJ NK jq (pv 1) (af aM ak))) cq))))))))))))))))))),(Fo rfl h)⟩
theorem jV(F:bJ K mg "_law_more_rows" (top 70) ["_law_rows","_law_many","_law_cell"]) (B:eG mg)  : gH P w K mg base 1 :=
 F.okN jO (fun _ _ _ _=>by walk_at "l") fun f pe A outer s H vs Q E nd hr hu VQ Id own h=>⟨xY K,(ai (aJ (i:=3) nd rfl (by walk_at "o") (aT bn (pv 0) (aG aZ (aG cB (pv 2) am) (aC (AZ rfl) rfl B.min I_ (af am (af (aC aK rfl B.len bL (af (pv 0) ak)) ak)))) (fun _ _=>rfl)))
 (ai (a6 (aN cC (aG aZ (pv 2) am) am (aQ _))
 (ar (aP (cj ak)))
 aH)
 (ai (a6 (aN cC (aG aZ (pv 2) am) am (aQ _))
 (ai (aJ (i:=4) nd rfl (by walk_at "o") (gj (M:=["_law_rows","_law_many","_law_cell","_law_row","_law_few","_law_pairs","_law_nine"]) (by show dm (aB (top 70)) ["_law_rows","_law_many","_law_cell","_law_row","_law_few","_law_pairs","_law_nine"] ["_law_rows","_law_many","_law_cell","_law_row","_law_few","_law_pairs","_law_nine"] _ _;walk_at "c") nd rfl (bN rfl B.range (af am ak)) (fun _ _ _ _ _=>(a7 bc rfl B.tuple bS (af (aG k_ (cj (af (pv 0) ak)) (gj (M:=["_law_k","_law_rows","_law_many","_law_cell","_law_row","_law_few","_law_pairs","_law_nine"]) (by show dm (Hm _ (aB (top 70))) ["_law_k","_law_rows","_law_many","_law_cell","_law_row","_law_few","_law_pairs","_law_nine"] ["_law_k","_law_rows","_law_many","_law_cell","_law_row","_law_few","_law_pairs","_law_nine"] _ _;walk_at "c") (show(["_law_k","_law_rows","_law_many","_law_cell","_law_row","_law_few","_law_pairs","_law_nine"]:List Str).Nodup by decide +kernel) rfl (bN rfl B.range (af (aG nA (pv 2) am) ak)) (fun _ _ _ _ _=>am))) ak)))))
 (ai (y_ (M:=["_law_rows","_law_many","_law_cell","_law_row","_law_few","_law_pairs","_law_nine"]) (i:=5) nd rfl rfl (by show dm (aB (top 70)) ["_law_rows","_law_many","_law_cell","_law_row","_law_few","_law_pairs","_law_nine"] ["_law_rows","_law_many","_law_cell","_law_row","_law_few","_law_pairs","_law_nine"] _ _;walk_at "c") rfl (bN rfl B.range (af am ak)) (fun _ _ _ _ _=>(cA (af (aT bn (pv 5) (aG aZ (pv 0) am) (fun _ _=>rfl)) (af (aT bn (pv 5) (aG aZ (aG br (aG br (pv 0) am) (aG cB (pv 0) am)) am) (fun _ _=>rfl)) (af (cA (af am (af am ak))) ak))))))
 (ar (aP (bC jg (pv 5) cq (bU (aG br am (aG aZ (aG cB (pv 2) am) am))))))))
 aH)
 (ai (a6 (aN cC (aG aZ (pv 2) am) am (aQ _))
 (ar (aP (aG k_ (bC jg (pv 0) cq (bU am)) (cj (af (cA (af (aT aW (pv 3) am (fun _ _=>rfl)) (af (aT aW (pv 3) am (fun _ _=>rfl)) (af (aT aW (pv 3) am (fun _ _=>rfl)) ak)))) ak)))))
 aH)
 (ai (a6 (PW.pt (pw_or (aN cC (aG aZ (pv 2) am) am (aQ _)) (pw_or1 (aN ij (pv 1) am (aQ _)))))
 (ar (aP (aG k_ (bC jg (pv 0) cq (bU am)) (cj (af (cA (af (aT aW (pv 3) am (fun _ _=>rfl)) (af (aT aW (pv 3) am (fun _ _=>rfl)) (af (cA (af am (af (aG br am (a7 gB rfl B.int eV (af (cr (v0 hu) (aT aW (pv 3) am (fun _ _=>rfl)) (cA (af am (af am ak))) (aQ _)) ak))) ak))) ak)))) ak)))))
 aH)
 (ai (aJ (i:=6) nd rfl (by walk_at "o") (gj (M:=["_law_rows","_law_many","_law_cell","_law_row","_law_few","_law_pairs","_law_nine"]) (by show dm (aB (top 70)) ["_law_rows","_law_many","_law_cell","_law_row","_law_few","_law_pairs","_law_nine"] ["_law_rows","_law_many","_law_cell","_law_row","_law_few","_law_pairs","_law_nine"] _ _;walk_at "c") nd rfl (bN rfl B.range (af am ak)) (fun _ _ _ _ _=>(a7 bc rfl B.tuple bS (af (aG k_ (cj (af (aG aZ (pv 0) am) (af (aG cB (pv 0) am) ak))) (gj (M:=["_law_k","_law_rows","_law_many","_law_cell","_law_row","_law_few","_law_pairs","_law_nine"]) (by show dm (Hm _ (aB (top 70))) ["_law_k","_law_rows","_law_many","_law_cell","_law_row","_law_few","_law_pairs","_law_nine"] ["_law_k","_law_rows","_law_many","_law_cell","_law_row","_law_few","_law_pairs","_law_nine"] _ _;walk_at "c") (show(["_law_k","_law_rows","_law_many","_law_cell","_law_row","_law_few","_law_pairs","_law_nine"]:List Str).Nodup by decide +kernel) rfl (bN rfl B.range (af (aG nA (pv 2) am) ak)) (fun _ _ _ _ _=>am))) ak)))))
 (ar (aP (gj (M:=["_law_rows","_law_many","_law_cell","_law_row","_law_few","_law_pairs","_law_nine"]) (by show dm (aB (top 70)) ["_law_rows","_law_many","_law_cell","_law_row","_law_few","_law_pairs","_law_nine"] ["_law_rows","_law_many","_law_cell","_law_row","_law_few","_law_pairs","_law_nine"] _ _;walk_at "c") nd rfl (bN rfl B.range (af am ak)) (fun _ _ _ _ _=>(cA (af (aT bn (pv 7) (pv 0) (fun _ _=>rfl)) (af (aT bn (pv 7) (aG br (pv 0) am) (fun _ _=>rfl)) (af (cA (af am (af am ak))) ak)))))))))))))),(Fe rfl h)⟩
theorem jY(F:bJ K mg "_law_good_rows" (top 71) ["_law_rows"]) (B:eG mg)  : gK P w K mg base 1 :=
 F.okN jR (fun _ _ _ _=>by walk_at "l") fun f pe A outer s H vs Q E nd hr hu VQ Id own h=>⟨tL K,(ai (y_ (M:=["_law_rows","_law_pairs"]) (i:=1) nd rfl rfl (by show dm (aB (top 71)) ["_law_rows","_law_pairs"] ["_law_rows","_law_pairs"] _ _;walk_at "c") rfl (dJ (pv 0)) (fun _ _ _ _ _=>(bC DQ (pv 0) cq (bU am))))
 (ai (a6 (PW.pt (pw_or (aN ij (aC aK rfl B.len bL (af (pv 0) ak)) am (aQ _)) (pw_or (aN mO (aC aK rfl B.len bL (af (pv 0) ak)) am (aQ _)) (pw_or1 (aN ij (iO (ic rfl hu) rfl B.len rfl B.set (pv 1)) (aC aK rfl B.len bL (af (pv 1) ak)) (aQ _))))))
 (ar (aP jS))
 aH)
 (ai (a6 (aN mO (iO (ic rfl hu) rfl B.len rfl B.set (aG k_ (gj (M:=["_law_rows","_law_pairs"]) (by show dm (aB (top 71)) ["_law_rows","_law_pairs"] ["_law_rows","_law_pairs"] _ _;walk_at "c") nd rfl (dJ (pv 0)) (fun _ _ _ _ _=>(aT aW (pv 0) am (fun _ _=>rfl)))) (gj (M:=["_law_rows","_law_pairs"]) (by show dm (aB (top 71)) ["_law_rows","_law_pairs"] ["_law_rows","_law_pairs"] _ _;walk_at "c") nd rfl (dJ (pv 0)) (fun _ _ _ _ _=>(aT aW (pv 0) am (fun _ _=>rfl)))))) am (aQ _))
 (ar (aP jS))
 aH)
 (ar (aP (cr cC (aC aK rfl B.len bL (af (D4 ["_law_row"] ["_law_rows","_law_pairs"] (by show dm (aB (top 71)) ["_law_rows","_law_pairs"] ["_law_rows","_law_pairs"] _ _;walk_at "c") rfl (dJ (pv 0)) (fun _ _ _ _ _=>(bD (i:=0) (show(["_law_row","_law_rows","_law_pairs"]:List Str).Nodup by decide +kernel) rfl (by walk_at "o"))) (fun _ _ _ _ _=>(aN (v0 hu) (aT aW (pv 0) am (fun _ _=>rfl)) (aT aW (pv 0) am (fun _ _=>rfl)) (aQ _))) (fun _ _ _ _ _=>(pv 0))) ak)) am (aQ _))))))),(B7 rfl h)⟩
theorem xh(F:bJ K mg "_law_due" (top 72) ["_law_words_here","_law_texts"]) (B:eG mg) (Tm:fe P w K mg base 3) (VM:gK P w K mg base 3):sR P w K mg base 4 :=
 F.okN wT (fun _ _ _ _=>by walk_at "l") fun f pe A outer s H vs Q E nd hr hu VQ Id own h=>⟨x9 K,(ai (y_ (M:=["_law_words_here","_law_texts","_law_rows"]) (i:=2) nd rfl rfl (by show dm (aB (top 72)) ["_law_words_here","_law_texts","_law_rows"] ["_law_words_here","_law_texts","_law_rows"] _ _;walk_at "c") rfl (dJ (pv 1)) (fun _ _ _ _ _=>(aI Tm hr rfl (af (pv 1) (af (pv 0) ak)))))
 (ai (a6 (aN (HC hu) cE (pv 2) (by with_unfolding_all rfl))
 (ar (aP (cA (af aM (af (b9 Lz PySem.F.slot_list_index PySem.F.type_list_index (CH hu) (pv 2) (af cE ak)) ak)))))
 aH)
 (ai (a6 (eK (bH (aI VM hr rfl (af (pv 2) ak))))
 (ar (aP (cA (af aM (af cE ak)))))
 aH)
 (ar (aP (cA (af (a7 bc rfl B.tuple bS (af (pv 0) ak)) (af (a7 bc rfl B.tuple bS (af (pv 2) ak)) ak)))))))),(Fm rfl h)⟩
theorem uB(T:qr K mg x) (F:bJ K mg "_law_told" (top 73) ["_law_words_here","_law_texts"]) (B:eG mg) (WJ:Ey P w K mg base x 5):nU P w K mg base x 6 :=
 F.okN ue (fun _ _ _ _=>by walk_at "l") fun f pe A outer s H vs Q E nd hr hu VQ Id own h=>⟨xR K x,(ai (aJ (i:=2) nd rfl (by walk_at "o") cE)
 (ai (aJ (i:=3) nd rfl (by walk_at "o") cE)
 (ai (Fy (i:=3) (n:=4) (y:=2) WJ hr own rfl (af (pv 0) (af (pv 1) ak)) rfl T.v nd rfl rfl rfl rfl rfl rfl)
 (ar (aP (cA (af (pv 3) (af (pv 2) ak)))))))),(E_ T rfl h)⟩
theorem HE(T:qr K mg x)   (F:Fun K "law" "law" (top 74) f fd) (B:eG mg) (VZ:jK P w K mg base 6) (fm:cY P w K mg base 6) (Wk:sR P w K mg base 6) (Wh:nU P w K mg base x 6) (VN:gH P w K mg base 6) (Ty:fb P w K mg base 6) (VR:FnC P w K mg base dh 6 "_law_same" ["_law_found","_law_due_here"] (g9 K 4)) (V3:mD P w K mg base x 6) (Wc:nY P w K mg base 6) (V5:my P w K mg base 6) (wp:jL P w K mg base 6):FnOk P w K mg base dh 7 f fd ["_law_script"] (spLaw K):=by
 refine F.ok DS (fun vs H Q E h=>?_) (fun pe A outer s H vs Q E hr h=>?_)
 ·obtain⟨a,ns,rfl,_⟩:=h;rfl
 have nd:=DS.nd;have hu:=hr.units;have Id:=fun {M A env}=>@PV M A env
 exact⟨Bu K x,(ai (aJ (i:=1) nd rfl (by walk_at "o") (aI VZ hr rfl (af (pv 0) ak)))
 (ai (aJ (i:=2) nd rfl (by walk_at "o") (a7 sy rfl B.list iw (af (aT aW (pv 1) am (fun _ _=>rfl)) ak)))
 (ai (aJ (i:=3) nd rfl (by walk_at "o") (cj ak))
 (ai (du Id rfl (rm (aT aW (pv 1) am (fun _ _=>rfl))) (vW rfl (eN (bD (i:=4) nd rfl (by walk_at "o")) (eN (bD (i:=5) nd rfl (by walk_at "o")) (eN (bD (i:=6) nd rfl (by walk_at "o")) pj))))
 (ar (bM (b9 Lz Lx Ly a9 (pv 3) (af (cA (af (pv 4) (af (pv 5) (af (aI wp hr rfl (af (aG br am (aG aZ (aT aW (pv 6) am (fun _ _=>rfl)) am)) (af (aG br am (aG aZ (aT aW (pv 6) am (fun _ _=>rfl)) am)) ak))) ak)))) ak)))))
 (ai (aJ (i:=7) nd rfl (by walk_at "o") (aI fm hr rfl (af (pv 0) (af am ak))))
 (ai (a6 (aN cC (aG aZ (pv 7) am) am (aQ _))
 (ar (aJ (i:=3) nd rfl (by walk_at "o") (aI VN hr rfl (af (pv 3) (af (aC aK rfl B.len bL (af (pv 2) ak)) (af (aI fm hr rfl (af (pv 0) (af am ak))) ak))))))
 aH)
 (ai (y_ (M:=["_law_script","_law_vessel_here","_law_words_here","_law_rows","_law_one","_law_two","_law_pace_here","_law_spoil","_law_texts","_law_k","_law_cell","_law_at","_law_bend","_law_due_here","_law_told_here","_law_caught"]) (i:=8) nd rfl rfl (by show dm (aB (top 74)) ["_law_script","_law_vessel_here","_law_words_here","_law_rows","_law_one","_law_two","_law_pace_here","_law_spoil","_law_texts","_law_k","_law_cell","_law_at","_law_bend","_law_due_here","_law_told_here","_law_caught"] ["_law_script","_law_vessel_here","_law_words_here","_law_rows","_law_one","_law_two","_law_pace_here","_law_spoil","_law_texts","_law_k","_law_cell","_law_at","_law_bend","_law_due_here","_law_told_here","_law_caught"] _ _;walk_at "c") rfl (dJ (pv 3)) (fun _ _ _ _ _=>(aI Ty hr rfl (af (pv 3) (af (pv 0) ak)))))
 (ai (du Id rfl (bN rfl B.range (af am ak)) (bD (i:=9) nd rfl (by walk_at "o"))
 (ai (aJ (i:=10) nd rfl (by walk_at "o") (aI fm hr rfl (af (pv 0) (af (aG br am (aG fB am (pv 9))) ak))))
 (ar (a6 (PW.pt (pw_and (aN (D7 hu) (pv 8) (cj ak) (aQ _)) (pw_and1 (aN cC (aG aZ (pv 10) am) (aG br am (pv 9)) (aQ _)))))
 (ai (aJ (i:=11) nd rfl (by walk_at "o") (aG aZ (aG cB (pv 10) am) (aC aK rfl B.len bL (af (pv 8) ak))))
 (ai (aJ (i:=12) nd rfl (by walk_at "o") (aI fm hr rfl (af (pv 0) (af (aG br am (aG fB am (pv 9))) ak))))
 (ar (zc (aI Wc hr rfl (af (pv 2) (af (aT bn (pv 8) (pv 11) (fun _ _=>rfl)) (af (pv 12) (af (aI fm hr rfl (af (pv 0) (af (aG br am (aG fB am (pv 9))) ak))) ak))))) (D0 (pv 8) (pv 11) qJ)))))
 aH))))
 (ai (aJ (i:=13) nd rfl (by walk_at "o") (aI Wk hr rfl (af (pv 2) (af (pv 8) ak))))
 (ai (a6 (aN cC (aG aZ (aG cB (pv 7) am) am) am (aQ _))
 (ai (aJ (i:=2) nd rfl (by walk_at "o") (aT bn (cj (af (aG HB (bC jg (pv 2) cq (bU am)) am) (af (cj ak) (af (aG k_ (bC jg (pv 2) cq (bU (xg m_ am))) (cj (af (aG aX (aT bn (pv 2) (xg m_ am) (fun _ _=>rfl)) aM) ak))) ak)))) (aG aZ (aG cB (pv 7) am) am) (fun _ _=>rfl)))
 (ar (aJ (i:=13) nd rfl (by walk_at "o") (cA (af aM (af cE ak))))))
 aH)
 (ai (zc (aI Wh hr rfl (af (pv 2) (af (pv 8) ak))) (vW rfl (eN (bD (i:=14) nd rfl (by walk_at "o")) (eN (bD (i:=15) nd rfl (by walk_at "o")) pj))))
 (ai (a6 (aN gk (pv 15) cE (aQ _))
 (ar (aP (aI VR hr rfl (af (pv 14) (af (pv 13) ak)))))
 aH)
 (ai (a6 (aN (D7 hu) (aI V3 hr rfl (af (pv 15) ak)) (cj (af (aT aW (pv 13) am (fun _ _=>rfl)) ak)) (aQ _))
 (ar (aP jS))
 aH)
 (ar (aP (JQ (cr mM (aT aW (pv 13) am (fun _ _=>rfl)) aM (aQ _)) (fy (eZ (aI V5 hr rfl (af (zr (pv 15) rfl) ak)) (fy (cr cC (zr (pv 15) rfl) (aT aW (pv 13) am (fun _ _=>rfl)) (aQ _))))))))))))))))))))),(Hq T h)⟩
end
theorem wL{G:La->La->La->Option Addr->La->La->Oq}{ps:List Str}(e:ps.length=1)(h:∀(a b c:La) (d:Option Addr) (x y u0:La),bindArgs (G a b c d x y) ⟨[u0],[]⟩=pure (ps.zip [u0]))(a b c:La)(d:Option Addr)(x y:La)(us:List La)(hl:us.length=ps.length):bindArgs (G a b c d x y) ⟨us,[]⟩=pure (ps.zip us):=by
 have e0:us.length=1:=hl.trans e;obtain⟨u0,us,rfl⟩:=LY e0;cases N0 (NS e0);exact h a b c d x y u0
theorem jG{G:La->La->La->Option Addr->La->La->Oq}{ps:List Str}(e:ps.length=2)(h:∀(a b c:La) (d:Option Addr) (x y u0 u1:La),bindArgs (G a b c d x y) ⟨[u0,u1],[]⟩=pure (ps.zip [u0,u1]))(a b c:La)(d:Option Addr)(x y:La)(us:List La)(hl:us.length=ps.length):bindArgs (G a b c d x y) ⟨us,[]⟩=pure (ps.zip us):=by
 have e0:us.length=2:=hl.trans e;obtain⟨u0,us,rfl⟩:=LY e0;have e1:us.length=1:=NS e0;obtain⟨u1,us,rfl⟩:=LY e1;cases N0 (NS e1);exact h a b c d x y u0 u1
theorem G3{G:La->La->La->Option Addr->La->La->Oq}{ps:List Str}(e:ps.length=3)(h:∀(a b c:La) (d:Option Addr) (x y u0 u1 u2:La),bindArgs (G a b c d x y) ⟨[u0,u1,u2],[]⟩=pure (ps.zip [u0,u1,u2]))(a b c:La)(d:Option Addr)(x y:La)(us:List La)(hl:us.length=ps.length):bindArgs (G a b c d x y) ⟨us,[]⟩=pure (ps.zip us):=by
 have e0:us.length=3:=hl.trans e;obtain⟨u0,us,rfl⟩:=LY e0;have e1:us.length=2:=NS e0;obtain⟨u1,us,rfl⟩:=LY e1;have e2:us.length=1:=NS e1;obtain⟨u2,us,rfl⟩:=LY e2;cases N0 (NS e2);exact h a b c d x y u0 u1 u2
theorem KS{G:La->La->La->Option Addr->La->La->Oq}{ps:List Str}(e:ps.length=4)(h:∀(a b c:La) (d:Option Addr) (x y u0 u1 u2 u3:La),bindArgs (G a b c d x y) ⟨[u0,u1,u2,u3],[]⟩=pure (ps.zip [u0,u1,u2,u3]))(a b c:La)(d:Option Addr)(x y:La)(us:List La)(hl:us.length=ps.length):bindArgs (G a b c d x y) ⟨us,[]⟩=pure (ps.zip us):=by
 have e0:us.length=4:=hl.trans e;obtain⟨u0,us,rfl⟩:=LY e0;have e1:us.length=3:=NS e0;obtain⟨u1,us,rfl⟩:=LY e1;have e2:us.length=2:=NS e1;obtain⟨u2,us,rfl⟩:=LY e2;have e3:us.length=1:=NS e2;obtain⟨u3,us,rfl⟩:=LY e3;cases N0 (NS e3);exact h a b c d x y u0 u1 u2 u3
theorem FnAt{K:Fg}{st:Stmt}{ps:List Str}(X:K.In h)(G:h.Ns mainGlobals mg)(p:GV K n st)(hb:∀(kV doc pm:La) (an:Option Addr) (pe ct:La) (us:List La),us.length=ps.length->bindArgs (Nl n n (eU st) (df st) (aB st) .none kV doc pm an pe ct) ⟨us,[]⟩=pure (ps.zip us)):bJ K mg n st ps:=by
 obtain⟨_,_,_,_,_,_,_,_,_,_,a,l,c,k⟩:=p;exact C7 X G a l c k hb
abbrev Pg:=PySem.Challenge.rw_vesselhall_k23_texts_refused.prog
theorem fin:PySem.Challenge.rw_vesselhall_k23_texts_refused.Holds:=by
 refine K23H.headed ?_;intro w K h mg fa X G hfa P0 P20 P40 Z V q0 q1 q2 q3 q4 q5 q6 q7 q8 q9 Ym Yn ZE ZF qd0 qd1 qd2 qd3 qd4 qd5 qd6 qd7 qd8 qd9 ZG ZH ZI ZJ qdV fi6 Ni6 Zu ZK YF ZW ZT YU YD ZP YG YJ ZA YE Zg Zh Zi Zj Zm Zy Zc YI ZD X0 YH ZO tk0 tk1 tk2 tk3 tk4 tn0 Bs tp0 tp1 tp2 tq0 tq1 tq2 nq pD nqd nqn pDn nqs ph0 ph1 ph2 aV xV zVE gt tk sgV rdV fcV dV mV cs nd rs L6 ni6 fn6 kq6 lf6 cf6 kf6 sa6 nf6 hd6 mr6 fd6 hcn0 hcn1 hcn2 hcn3 hcn4 hcnN hcnL hpwN hpwL hpw0 hpw1 hpw2 hpwS;obtain⟨p0,p1,p2,p3,p4,p5,p6,p7,p8,p9,Jw,p11,p12,p13,p14,p15,p16,p17,p18,p19,_⟩:=P0;obtain⟨p20,p21,p22,p23,p24,p25,p26,p27,p28,p29,p30,p31,p32,p33,p34,p35,p36,p37,p38,p39,_⟩:=P20;obtain⟨p40,p41,p42,Yy,p44,p45,p46,p47,_⟩:=P40;obtain⟨z0,z1,z2,z3,z4,z5,z6,z7,z8,z9,z10,z11,z12,z13,z14,z15,z16,z17,z18,z19,z20,z21,_⟩:=Z;obtain⟨_,_,an,_,_,kV,dc,pm,cd,ct,aL,lL,cL,kL⟩:=p47;cases hfa.symm.trans (L9 X G aL);have zn:=fun {n:Str}=>Ua (n:=n) X G
 have B:eG mg:=⟨zn z0,zn z1,zn z2,zn z3,zn z4,zn z5,zn z6,zn z7,zn z8,zn z9,zn z10,zn z11,zn z12,zn z13,zn z14,zn z15,zn z16,zn z17,zn z18,zn z19,zn z20,zn z21⟩
 refine⟨Nl "law" "law" (eU (top 74)) (df (top 74)) (aB (top 74)) .none kV dc pm an cd ct,fun s v=>.of_eq rfl,fun base _ _=>?_⟩;have tc:=Ex0.JD (x:=⟨V,q0,q1,q2,q3,q4,q5,q6,q7,q8,q9,Ym,Yn,ZE,ZF⟩) cs;obtain⟨c0,c1,c2,c3,c4,c5,c6,c7,c8,c9,c10,c11,c12,c13,_⟩:=cs;obtain⟨r1,r2,r3,r4,_⟩:=rs;have be6:=Ex0.rO (t:=.type "BaseException") c6.2.2 mr6 (by decide +kernel);have iC6:ExcI K mg "NoText" q6 fi6:=⟨L9 X G c6.1,⟨_,_,_,_,_,_,_,_,_,_,_,_,_,_,_,_,L6,fun h X=>Bt xV dV mV L6 c6.2.2 mr6 h X⟩,ni6,fn6,kq6⟩
 have T:qr K mg ⟨V,q0,q1,q2,q3,q4,q5,q6,q7,q8,q9,Ym,Yn,ZE,ZF⟩:={
   v:=⟨L9 X G aV,_,_,xV,by decide⟩
   vb:=⟨L9 X G aV,sgV,rdV,fcV⟩
   mv:=Ua X G zVE
   m0:=L9 X G c0.1
   m1:=L9 X G c1.1
   m2:=L9 X G c2.1
   m3:=L9 X G c3.1
   m4:=L9 X G c4.1
   m5:=L9 X G c5.1
   m6:=L9 X G c6.1
   m7:=L9 X G c7.1
   m8:=L9 X G c8.1
   m9:=L9 X G c9.1
   m10:=L9 X G c10.1
   m11:=L9 X G c11.1
   m12:=L9 X G c12.1
   m13:=L9 X G c13.1
   n1:=⟨L9 X G c1.1,r1.1⟩
   s1:=⟨kr r1.1,Ex0.zI c1.2.2 r1.2.1⟩
   k1:=Ex0.lN (r:=1) tc nd (by decide) c1.2.2 r1.2.1 r1.2.2 gt tk
   n2:=⟨L9 X G c2.1,r2.1⟩
   s2:=⟨kr r2.1,Ex0.zI c2.2.2 r2.2.1⟩
   k2:=Ex0.lN (r:=2) tc nd (by decide) c2.2.2 r2.2.1 r2.2.2 gt tk
   n3:=⟨L9 X G c3.1,r3.1⟩
   s3:=⟨kr r3.1,Ex0.zI c3.2.2 r3.2.1⟩
   k3:=Ex0.lN (r:=3) tc nd (by decide) c3.2.2 r3.2.1 r3.2.2 gt tk
   n4:=⟨L9 X G c4.1,r4.1⟩
   s4:=⟨kr r4.1,Ex0.zI c4.2.2 r4.2.1⟩
   k4:=Ex0.lN (r:=4) tc nd (by decide) c4.2.2 r4.2.1 r4.2.2 gt tk
   i6:=⟨_,iC6⟩
   h6:=iC6.shape
   f6:=⟨sa6,nf6,hd6,⟨_,[_,_],c6.2.2,mr6,rfl⟩,Ex0.rO c6.2.2 mr6 (by decide +kernel)⟩
   s6:=⟨iC6.ob,Ex0.zI c6.2.2 mr6⟩
   k6:=Ex0.lN (r:=6) tc nd (by decide) c6.2.2 mr6 fd6 gt tk}
 have WH:=JY (P:=Pg) (L9 X G hpwN) hpwL hpw0 hpw1 hpw2 hpwS;have gG:=G;have G:Cn K mg nq:=⟨⟨_,L9 X G hcn0⟩,⟨_,L9 X G hcn1⟩,⟨_,L9 X G hcn2⟩,⟨_,L9 X G hcn3⟩,⟨_,L9 X G hcn4⟩,L9 X G hcnN,fun H=>.inr ⟨_,_,_,hcnL,rfl,rfl,bG,.cons ⟨_,rfl⟩ (.cons ⟨_,rfl⟩ .nil)⟩⟩
 have Wp:=Fun.iniC (P:=Pg) (w:=w) (base:=base) (k:=1) (sp:=ua K q6 "at") iC6 be6 (FL (P:=Pg) (w:=w) (base:=base) T G WH (wx (st:=ini 8) lf6 cf6 kf6) B) ((wx (st:=ini 8) lf6 cf6 kf6).binds (jG rfl fun _ _ _ _ _ _ _ _=>rfl)) rfl;have V1:=Cy (P:=Pg) (w:=w) (base:=base) (FnAt X gG p0 (wL rfl fun _ _ _ _ _ _ _=>rfl)) B;have ST:=im (P:=Pg) (w:=w) (base:=base) (FnAt X gG p1 (jG rfl fun _ _ _ _ _ _ _ _=>rfl)) B;have Wn:=zA (P:=Pg) (w:=w) (base:=base) (FnAt X gG p3 (jG rfl fun _ _ _ _ _ _ _ _=>rfl)) B;have Wj:=xi (P:=Pg) (w:=w) (base:=base) G WH (FnAt X gG p4 (wL rfl fun _ _ _ _ _ _ _=>rfl)) B;have Wa:=uH (P:=Pg) (w:=w) (base:=base) (FnAt X gG p9 (wL rfl fun _ _ _ _ _ _ _=>rfl)) B;have V0:=pE (P:=Pg) (w:=w) (base:=base) (FnAt X gG p11 (jG rfl fun _ _ _ _ _ _ _ _=>rfl)) B;have V7:=rD (P:=Pg) (w:=w) (base:=base) (FnAt X gG p13 (wL rfl fun _ _ _ _ _ _ _=>rfl)) B;have VI:=lB (P:=Pg) (w:=w) (base:=base) G WH (FnAt X gG p15 (jG rfl fun _ _ _ _ _ _ _ _=>rfl)) B;have KK:=jn (P:=Pg) (w:=w) (base:=base) (FnAt X gG p16 (wL rfl fun _ _ _ _ _ _ _=>rfl)) B;have fm:=mS (P:=Pg) (w:=w) (base:=base) (FnAt X gG p20 (jG rfl fun _ _ _ _ _ _ _ _=>rfl)) B;have VG:=rH (P:=Pg) (w:=w) (base:=base) (FnAt X gG p21 (jG rfl fun _ _ _ _ _ _ _ _=>rfl)) B;have xv:=mR (P:=Pg) (w:=w) (base:=base) (FnAt X gG p22 (jG rfl fun _ _ _ _ _ _ _ _=>rfl)) B;have Wb:=uG (P:=Pg) (w:=w) (base:=base) (FnAt X gG p24 (jG rfl fun _ _ _ _ _ _ _ _=>rfl)) B;have Wi:=uA (P:=Pg) (w:=w) (base:=base) (FnAt X gG p25 (KS rfl fun _ _ _ _ _ _ _ _ _ _=>rfl)) B;have We:=uE (P:=Pg) (w:=w) (base:=base) (FnAt X gG p27 (G3 rfl fun _ _ _ _ _ _ _ _ _=>rfl)) B;have V5:=rF (P:=Pg) (w:=w) (base:=base) (FnAt X gG p32 (wL rfl fun _ _ _ _ _ _ _=>rfl)) B;have V3:=rJ (P:=Pg) (w:=w) (base:=base) T (FnAt X gG p34 (wL rfl fun _ _ _ _ _ _ _=>rfl)) B;have LT:=jW (P:=Pg) (w:=w) (base:=base) (FnAt X gG p35 (jG rfl fun _ _ _ _ _ _ _ _=>rfl)) B;have V4:=rG (P:=Pg) (w:=w) (base:=base) (FnAt X gG p37 (jG rfl fun _ _ _ _ _ _ _ _=>rfl)) B;have VX:=mQ (P:=Pg) (w:=w) (base:=base) (FnAt X gG p39 (wL rfl fun _ _ _ _ _ _ _=>rfl)) B;have Wc:=uF (P:=Pg) (w:=w) (base:=base) (FnAt X gG p42 (KS rfl fun _ _ _ _ _ _ _ _ _ _=>rfl)) B;have VN:=jV (P:=Pg) (w:=w) (base:=base) (FnAt X gG Yy (G3 rfl fun _ _ _ _ _ _ _ _ _=>rfl)) B;have VM:=jY (P:=Pg) (w:=w) (base:=base) (FnAt X gG p44 (wL rfl fun _ _ _ _ _ _ _=>rfl)) B;have V_:=uI (P:=Pg) (w:=w) (base:=base) (FnAt X gG p2 (jG rfl fun _ _ _ _ _ _ _ _=>rfl)) B ST V1;have VH:=rC (P:=Pg) (w:=w) (base:=base) T G WH (FnAt X gG p5 (wL rfl fun _ _ _ _ _ _ _=>rfl)) B Wj;have V8:=xj (P:=Pg) (w:=w) (base:=base) G WH (FnAt X gG p6 (jG rfl fun _ _ _ _ _ _ _ _=>rfl)) B V1;have VJ:=jo (P:=Pg) (w:=w) (base:=base) T G WH (FnAt X gG p8 (wL rfl fun _ _ _ _ _ _ _=>rfl)) B Wa;have VW:=rK (P:=Pg) (w:=w) (base:=base) (FnAt X gG p12 (jG rfl fun _ _ _ _ _ _ _ _=>rfl)) B V0;have wp:=pG (P:=Pg) (w:=w) (base:=base) (FnAt X gG p23 (jG rfl fun _ _ _ _ _ _ _ _=>rfl)) B xv;have Wu:=wp.imp (sp':=qG K) fun _ _ _ _ z=>FY z
 have V6:=rE (P:=Pg) (w:=w) (base:=base) (FnAt X gG p26 (G3 rfl fun _ _ _ _ _ _ _ _ _=>rfl)) B fm Wb Wi;have Wg:=uC (P:=Pg) (w:=w) (base:=base) (FnAt X gG p28 (G3 rfl fun _ _ _ _ _ _ _ _ _=>rfl)) B fm We VG;have Ty:=ik (P:=Pg) (w:=w) (base:=base) (FnAt X gG p36 (jG rfl fun _ _ _ _ _ _ _ _=>rfl)) B LT;have LE:=jX (P:=Pg) (w:=w) (base:=base) (FnAt X gG p38 (jG rfl fun _ _ _ _ _ _ _ _=>rfl)) B V4;have VO:=jU (P:=Pg) (w:=w) (base:=base) (FnAt X gG p40 (wL rfl fun _ _ _ _ _ _ _=>rfl)) B xv VX;have VY:=mP (P:=Pg) (w:=w) (base:=base) T G WH (FnAt X gG p7 (jG rfl fun _ _ _ _ _ _ _ _=>rfl)) B (Wn.mono (by decide:1<=2)) V8;have VV:=lh (P:=Pg) (w:=w) (base:=base) (FnAt X gG p14 (jG rfl fun _ _ _ _ _ _ _ _=>rfl)) B VW (V7.mono (by decide:1<=2));have VT:=lv (P:=Pg) (w:=w) (base:=base) (FnAt X gG p17 (wL rfl fun _ _ _ _ _ _ _=>rfl)) B (KK.mono (by decide:1<=2)) V_;have Wf:=uD (P:=Pg) (w:=w) (base:=base) (FnAt X gG p29 (G3 rfl fun _ _ _ _ _ _ _ _ _=>rfl)) B Wu;have Tm:=il (P:=Pg) (w:=w) (base:=base) (FnAt X gG p41 (jG rfl fun _ _ _ _ _ _ _ _=>rfl)) B LE VO;have WI:=FK (P:=Pg) (w:=w) (base:=base) T (FnAt X gG Jw (jG rfl fun _ _ _ _ _ _ _ _=>rfl)) B (VH.mono (by decide:2<=3)) VY (VJ.mono (by decide:2<=3));have VU:=lr (P:=Pg) (w:=w) (base:=base) (FnAt X gG p18 (jG rfl fun _ _ _ _ _ _ _ _=>rfl)) B VT (VI.mono (by decide:1<=3)) VV;have VS:=lA (P:=Pg) (w:=w) (base:=base) (FnAt X gG p30 (G3 rfl fun _ _ _ _ _ _ _ _ _=>rfl)) B (fm.mono (by decide:1<=3)) (VG.mono (by decide:1<=3)) Wf;have Wk:=xh (P:=Pg) (w:=w) (base:=base) (FnAt X gG p45 (jG rfl fun _ _ _ _ _ _ _ _=>rfl)) B Tm (VM.mono (by decide:1<=3));have WJ:=FJ (P:=Pg) (w:=w) (base:=base) T (FnAt X gG p19 (jG rfl fun _ _ _ _ _ _ _ _=>rfl)) B (VH.mono (by decide:2<=4)) WI VU Wp;have VZ:=pF (P:=Pg) (w:=w) (base:=base) (FnAt X gG p31 (wL rfl fun _ _ _ _ _ _ _=>rfl)) B (V6.mono (by decide:2<=4)) (fm.mono (by decide:1<=4)) VS (Wg.mono (by decide:2<=4));have VR:=zy (P:=Pg) (w:=w) (base:=base) (FnAt X gG p33 (jG rfl fun _ _ _ _ _ _ _ _=>rfl)) B 4;have Wh:=uB (P:=Pg) (w:=w) (base:=base) T (FnAt X gG p46 (jG rfl fun _ _ _ _ _ _ _ _=>rfl)) B WJ;exact HE (P:=Pg) (w:=w) (base:=base) T (wx (st:=top 74) lL cL kL) B (VZ.mono (by decide:5<=6)) (fm.mono (by decide:1<=6)) (Wk.mono (by decide:4<=6)) Wh (VN.mono (by decide:1<=6)) (Ty.mono (by decide:2<=6)) (VR.mono (by decide:5<=6)) (V3.mono (by decide:1<=6)) (Wc.mono (by decide:1<=6)) (V5.mono (by decide:1<=6)) (wp.mono (by decide:2<=6))
end K23
theorem PySem.Challenge.cw_vesselhall_k23_texts_refused_holds : PySem.Challenge.rw_vesselhall_k23_texts_refused.Holds := by
 exact K23.fin
#print axioms PySem.Challenge.cw_vesselhall_k23_texts_refused_holds

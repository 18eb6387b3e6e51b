import PyProof.Rows.All
import Wide.All
import OpenK.AllK
import Wide.FinOn
import PyProof.EqAt
import PyProof.EqKinds
import PyProof.TupleCall
import PySem.SetTable
import Wide.Seal
import Lean
import PySem.Challenge.RW_vesselhall_k87_even_hands
set_option compiler.extract_closed false
set_option genSizeOf false
set_option Elab.async false
set_option linter.all false
set_option maxRecDepth 100000
set_option maxHeartbeats 0
local macro_rules | `(tactic| get_elem_tactic_extensible)=>`(tactic| omega)
open PySem in
local macro_rules | `(tactic| wp_step)=>`(tactic| first|(with_reducible first|refine wpAny_pure ?_|refine wpAny_bind ?_|refine wpAny_holding ?_|refine wpAny_standAt ?_|refine wpAny_point ?_|refine wpAny_rule ?_|refine wpAny_letGo ?_|refine wpAny_mkInt' ?_|(refine wpAny_mkStr' ?_ ?a;(case a=>size_fits))|refine wpAny_fresh' ?_|refine wpAny_alloc' ?_|refine wpAny_attempt ?_|refine wpAny_throw ?_|refine wpAny_of_eq (by assumption) ?_|refine wpAny_typeOf (by assumption) ?_|refine wpAny_specialOf_val (by assumption) (by assumption) ?_|refine wpAny_specialOf (by assumption) (by assumption) ?_|refine wpAny_isInstance_val (by assumption) (by assumption) ?_|refine wpAny_isInstance (by assumption) (by assumption) ?_|refine wpAny_call ?_|refine wpAny_runValue ?_|refine wpAny_run ?_)|((with_reducible apply wpAny_load');focus (heap_get;done))|((with_reducible apply wpAny_update');focus (heap_get;done))|((with_reducible apply wpAny_loadPart');focus (heap_get;done))|((with_reducible apply wpAny_updatePart');focus (heap_get;done))|((with_reducible apply wpAny_handled_none);focus (assumption;done))|((with_reducible apply wpAny_ite_false);focus (rfl;done))|((with_reducible apply wpAny_ite_true);focus (rfl;done))|((with_reducible apply wpAny_ite_false);focus (simp[*];done))|((with_reducible apply wpAny_ite_true);focus (simp[*];done))|wp_delta)
local macro_rules | `(tactic| walk_at "o") => `(tactic| first|exact Or.inl rfl|exact Or.inr rfl)
local macro_rules | `(tactic| walk_at "s") => `(tactic| exact ⟨rfl,rfl,rfl,by decide +kernel,rfl,by decide +kernel,by decide +kernel⟩)
open PySem.Challenge renaming pw_vesselhall_k87_even_hands->PW87
open List renaming length_map->NQ,getElem?_eq_getElem->NR,getD_eq_getElem?_getD->NS,getElem?_eq_some_iff->NT,getElem?_map->NW,mem_cons_self->NX,mem_cons_of_mem->NZ,map_append->N1,mem_of_getElem?->N2,length_append->N6,mem_singleton->N7,mem_map->N9,mem_append->N_,range->Oa,mem_append_right->Ob,mem_cons->Od,mem_append_left->Oe,exists_cons_of_length_eq_add_one->Og,take_of_length_le->Oh,take_add_one->Oj,length_range->On,mem_filter->Os,length_take->Ot,size_toArray->Ov,mem_range->Ow,length_cons->Oz,getElem?_eq_none->OG,getElem?_of_mem->ON,nodup_cons->OO,eq_nil_of_length_eq_zero->OQ,map_cons->OS,getElem?_range->OW,not_mem_nil->OY,getElem_mem->OZ,take_length->O3,getElem?_append_left->O5,length_filter_le->O6,mem_iff_getElem->Pa,length_eq_zero_iff->Pb,filter_cons_of_neg->Pc,map_map->Ph,append_assoc->Pi,getElem?_append_right->Pj,filter_cons_of_pos->Pl,range_succ->Ps,map_congr_left->Py,exists_cons_of_length_pos->PJ,length_eq_one_iff->PL,replicate->PM,foldl_append->PQ,filter_append->PV,length_drop->PX,length_replicate->P4,nodup_nil->P5,append_nil->Qb,getElem?_cons_succ->Qh,mem_of_mem_take->Qi,find?_cons->Qq,length_singleton->Qt,length->QD,mem_map_of_mem->QK,lookup_cons->QM,findIdx?_eq_some_iff_getElem->QY,findIdx?_eq_none_iff->Q0,drop_of_length_le->Rx,zipWith->RA,pairwise_cons->RD,length_pos_of_mem->RE,nil_append->RJ,dropLast_concat_getLast->RM,getElem?_zipWith->RQ,ext_getElem?->RU,nodup_append->RV,getElem_inj->R5,map_nil->R_,nodup_range->Se,filterMap_cons->Si,length_pos_iff->Sn,length_erase_of_mem->SA,length_nil->SD,take->SM,take_sublist->SX,eraseIdxIfInBounds_toArray->Tf,singleton_append->Tj,getElem?_toArray->Tk,contains_iff_mem->Tl,length_eraseIdx->TN,mem_of_mem_drop->TQ,mem_erase_of_ne->TU,take_append_of_le_length->TW,length_zipWith->T9,idxOf_lt_length_of_mem->Uk,mem_replicate->Ux,find?_eq_none->Uz,getElem?_take_of_lt->UQ,any_cons->UR,cons_append->UZ,filter_cons->U5,all_eq_true->Va,getElem?_set_self->Vg,drop_eq_nil_of_le->Vo,filter_eq_nil_iff->Vp,getElem?_eraseIdx->Vq,of_mem_zip->Vv,forIn_cons->Vw,foldl_cons->Vy,take_append_drop->VE,eq_nil_or_concat->VG,concat_eq_append->VH,getElem?_set_ne->VL,pairwise_append->V3,drop->V7,flatMap_append->Wb,getElem_of_mem->Wc,mem_filterMap->Wy,getElem?_take->WB,getElem?_drop->WC,map_inj_right->WE,map_singleton->WG,filter_congr->WZ,zipIdx_cons->Xm,mem_flatMap->Xq,zipIdx_nil->XD,forIn_nil->XW,sum_cons->Yb,all_cons->Yc,Perm->Ye,map->Yg
open PySem renaming wpAny_bind->NU,Value->NY,Shared->N5,wpAny_pure->Oc,Program->Oo,World->OD,Around->O1,wpAny_mono->O_,importedModules->Pk,wpAny_call_entry->PF,wpAny_callSpecial?_slot->PH,wpAny_newObj_type->PK,SetTable->P7,wpAny_truthy_bool->Qj,wpAny_Call_Name_kw->Qv,Builtin->Qw,wpAny_typeNameOfWhole_keyiter->QE,wpAny_field->QF,FuncData->QP,wpAny_seqItems->QT,wpAny_setField_rec->QU,treeTable->Q1,wpAny_passesOwn->Q2,World->Q5,mem_of_lookup->Rj,wpAny_getItem_str_slice->Ro,wpAny_setField->Rq,sizeLine_eq->Rr,codeAny_builtin->RK,wpAny_askSetting->Sc,IsPair->Sj,OsState->Sq,wpAny_comprehension_free->Sv,wpAny_attempt->Sw,tupleKind_room_in1->SK,isSubtype_type->S_,wpAny_setState_of->Ta,call_meets->Tq,wpAny_isInstance->Tv,wpAny_holding->TF,wpAny_execs_nil->TY,wpAny_setEntries_of->T_,codeAny_mono->Ub,DictEntry->Ul,wpAny_rule->Up,wpAny_fieldsOf->Us,wpAny_pyIter_list->UC,wpAny_pyIter_slot->UG,wpAny_dictEntries->UH,wpAny_of_eq->UJ,wpAny_standAt->UP,wpAny_onRaise->UU,plainId_quiet->UW,NameKind->U2,codeAny_compStart_list->Vl,wpAny_dictEpoch->Vx,wpAny_isTrue_Compare1->VA,wpAny_isOneOf_keyiter->VD,builtinLookup_eq_fast->VF,Result->VO,wpAny_newFunctionEnv->VR,isSubtype_stop->VS,IsZip->VT,OsState->V4,wpAny_handled->Wi,strLen_append->Wl,call->Wv,wpAny_pyIter_tuple->Wx,Shared->WM,BindsTo->WQ,putSet_of->Xo,Walks->Xu,wpAny_throw->Xv,wpAny_letGo->Xw,Keyword->XN,GenState->XR,numAt_eq->XX
open PySem.Heap renaming get?_push_of_some->N3,lt_size->Op,get?_push_size->OC,get?_update_self->Qu,SameBut->Qx,size_push->Rn,ExtBut->UI,get?_push_cases->VU,get?_update_ne->V_
open Nat renaming le_refl->N4,le_trans->Oi,pow_le_pow_right->Om,ne_of_lt->Ou,gcd->Ox,lt_of_le_of_lt->Oy,lt_of_lt_of_le->OB,mul_le_mul_right->OF,mul_le_mul_left->OK,lt_trans->OL,zero_le->OR,mul_assoc->OV,mul_le_mul->O2,pos_of_ne_zero->O8,mul_pos->Pf,mul_comm->PB,not_lt_zero->PD,pos_of_mul_pos_left->PR,pow_succ->PZ,mul_left_comm->P2,le_of_lt->Qa,ne_of_gt->Qk,le_mul_of_pos_left->Qm,le_of_dvd->QC,le_mul_of_pos_right->QG,pow_pos->QL,strongRecOn->Q3,Coprime->Rb,lt_irrefl->Rf,zero_add->Rs,succ_mul->RG,succ_le_succ->Sa,min_eq_right->Sb,gcd_dvd_left->Sg,add_assoc->SC,min_eq_left->SJ,pow_add->SO,one_mul->SR,mul_one->SU,lt_succ_of_lt->Tb,zero_mul->Tc,gcd_dvd_right->Te,min_le_right->Ts,lt_succ_self->Tx,mul_lt_mul''->Tz,log2_self_le->TB,pow_lt_pow_right->TX,add_le_add_left->T8,pow_le_pow_left->Ua,lt_or_ge->Ug,le_succ->UD,le_succ_of_le->UO,gcd_pos_of_pos_right->UY,mul_div_cancel_left->Vd,sub_self->Vn,dvd_of_mod_eq_zero->Vr,mod_eq_zero_of_dvd->Vt,log2_lt->VQ,le_log2->V2,mul_div_cancel'->We,eq_zero_or_pos->WF,sub_add_cancel->WJ,lt_trichotomy->W3,dvd_mul_right->W8,pow_zero->W9,add_comm->W_,add_zero->Xa,lt_log2_self->Xr,two_pow_pos->XF,le_self_pow->XH,div_le_self->XJ,add_le_add->X2
open Option renaming map_eq_some_iff->N8,isSome_iff_exists->Ss,map_some->TZ,toList_some->Uy,getD_some->Vc,isSome_map->WR,getD_none->Xh
open PySem.W renaming kitCls->Ol,kitOne->OA,kia_one->PN,boot_heap->P3,view->P_,fnOf->Ql,kqd_lay->QI,keepIn->Rm,codeIn->RY,kqdP->Sd,recOk->So,xlAt->SV,kqd_layL->Tt,kHook->TC,nsIn->Uc,methodObj->UA,mg_of->US,openSeen->U0,cellsFrom_some->Vh,instObj->Vu,lookIn->VN,recFacts_of->V8,LeftO->Wf,WalkO->Wg,boot_drawn->Wr,holds_open->Ws,kitx_tuple->Wz,Frag->WK,kitx_list->WO,kitx_dict->WP,boot_toks->Xb,openGood->Xc,plainGet->Xg,kdl_call->Xk,OpenLaw->XA,kqd_any->XB,SharedT->XM,XL->XQ,findIn->XT,KdlSrc->XV,xl_of->X6
open Option.some renaming inj->Oq
open Int renaming mul_assoc->OE,mul_eq_zero->OP,toNat_natCast->OT,natAbs_mul->OU,mul_comm->O0,mul_add->Px,mul_zero->Pz,add_zero->PP,zero_add->PY,emod_lt_of_pos->Qe,natAbs_natCast->Qf,neg_mul->Qg,mul_left_comm->Qo,zero_mul->Qz,emod_nonneg->QJ,eq_of_mul_eq_mul_left->QZ,natCast_mul->Q4,add_mul->Q9,mul_ne_zero->RL,mul_neg->RZ,mul_fdiv_cancel_left->Sx,one_mul->SQ,natAbs_add_le->Td,mul_sub->TM,mul_fdiv_cancel'->TV,gcd_eq_natAbs_gcd_natAbs->T7,fdiv_eq_ediv_of_nonneg->Uq,fmod_eq_emod_of_nonneg->Ur,natCast_nonneg->Ut,gcd_dvd_right->UK,neg_dvd->UL,pos_of_mul_pos_right->UV,gcd_dvd_left->U7,gcd_mul_left->U8,fmod_nonneg_of_pos->Vm,neg_one_mul->Vz,mul_one->VM,fdiv->VW,toNat_of_nonneg->Wa,fmod_lt_of_pos->WA,gcd->WT,fmod->WU,fmod_def->WV,emod_eq_of_lt->W4,mul_pos->Xx,sub_mul->Xy,mul_nonneg->X1,natAbs->X3,natAbs_neg->X4
open Bool renaming false_ne_true->OH,eq_iff_iff->QH,false_eq_true->Rv,and_eq_true_iff->RX,and_eq_true->U_,false_and->XS,or_false->X7,false_or->X8,and_true->X_
open Array renaming getElem?_toList->OI,length_toList->OJ,getElem?_eq_none->RB,toArray_toList->TL,append_empty->Wo,getElem_mem->WW,mk->XO
open Rat renaming divInt->OM,mul_assoc->OX,mul_one->Qs,add_zero->Rc,one_mul->Re,num_divInt_den->RF,pow_succ->RH,intCast_mul->RN,divInt_mul_divInt->RS,pow_zero->Sh,divInt_eq_divInt_iff->SB,zero_add->Uf,zero_mul->Uh,le_of_lt->Ui,mul_comm->Uj,le_refl->VZ,mul_pos->V0,num_nonneg->V1,lt_irrefl->Wn,div_mul_cancel->WH,sub_eq_add_neg->WI,mul_zero->W6,divInt_eq_div->W7,intCast_inj->XG,num_eq_zero->XI,inv_divInt->X5
open PySem.W.Dat renaming int->O4,str->UF,bool->U6
open PySem.Builtin.Str renaming strSliceIndices->O7
open PySem.Value renaming ref->O9,none->P1,isInt->Qp,int->R4,type->To,bool->Vf,str->V5,isStrOf->Wh,scannable->XE
open Nat.succ renaming inj->Pe
open PySem.Heap.SameBut renaming update->Pm
open PySem.Builtin.SmallTypes renaming nextOf->Po,ownedTupleIsFree->P6,ownedTupleHandOut->Sk
open Classical renaming byContradiction->Pq
open PyProof.Rows renaming callWith_type1->Pu,IntsAre->RT,callWith_builtin1->Tp,assignInOrder_cons->Uo,AllBare->UB,intBits_le->U4,subscriptTail_builtinR->Vi
open PySem.F renaming plainAttrs_list->PU,slot_dict_keyiterator_next->Qc,slot_tuple_iterator_next->QR,called_set->RC,slot_dict_get->Th,args_dict_keyiterator_next_1->Tu,entry_dict_keyiterator_next->TK,args_tuple_iterator_next_1->T0,slot_zip_next->T5,entry_tuple_iterator_next->Ud,args_dict_get_2->U3,entry_dict_get->Vk,slot_list_pop->VI,type_list_pop->VJ,args_zip_next_1->WS,entry_list_pop->Xi,slot_dict_iter->Xj,entry_zip_next->Xl
open List.Nodup renaming idxOf_getElem->P9
open PySem.Obj renaming data_mapFields->Qd,mapFields->Qy,isFreed_of_fields->RP,cls_mapFields->SZ,putSet->Uv,mapSeq->Vj
open PySem.SetTable renaming grown->Qn,below->QX,insertAt->Q_,fill->TH,turns->VX,bits->Wj,fits->Wk,layClean->WX,tooFull->Xp,probe->XY
open PySem.Calls renaming spliced_cons->QN,spliced_nil->Q6,callWith_builtin->SY,Name_function_global->Um,evalArgs_plain->VP
open PySem.MeetsSeq renaming plain_remove_loop->QW,entry_remove_loop->Uu
open PySem.Around renaming under_plainId->Q7
open PySem.SeqAt renaming readOf->Q8,EqAt->Ww,readsAll_map->WD,shaped->W5,items_eqAt->Xn
open True renaming intro->Rg
open PySem.AutoSeq1 renaming wpAny_loadPart'->Rh
open Nat.Coprime renaming dvd_of_dvd_mul_left->Ri
open False renaming elim->Rt
open PySem.PyData renaming eqv->Ru,depthAll->SG,canLayAll0->UM
open PySem.Str renaming ofString->Ry,empty->U1,length->XU
open Int.ofNat renaming inj->RO
open Prod.mk renaming inj->RW,injEq->Wm
open Sum renaming inl->R3,inr->Ve
open PySem.Paired renaming length->Sr
open PySem.Builtin.List renaming listTooLong->Su,listLengthHint->Ue
open List.cons renaming inj->Sy
open PySem.PassesOwn renaming never->SE
open Sum.inl renaming inj->SL
open PyProof.Rows.F renaming plain_set_update_loop->SN,entry_set_update_loop->U9
open Ne renaming symm->SW
open Prod renaming ext->TJ,snd->Uw,fst->Vb
open PySem.Builtin.Frozenset renaming updateFrom->T6
open List.Pairwise renaming nil->UE,imp_of_mem->UX
open PySem.NameKind renaming cell->UT,free->X9
open PySem.Builtin.Int renaming intTooBig->VB,intBits->V9
open PySem.Builtin.Dict renaming showsAll->VC
open PySem.W.Dat.int renaming inj->VY
open PySem.Data renaming cell->V6,fields->Xs,seq->Yh
open PySem.W.Hook renaming keeps->Wu,says->WN,obs->Xd,val->Xe,of->Xz
open String renaming splitOnAux->WY,splitOn->XZ
open PySem.W.XL renaming keeps->Xf
open ForInStep renaming yield->XC
open List.Perm renaming refl->X0
open PySem.Txt renaming slice->Yd
noncomputable abbrev Fg := WK
local macro_rules | `(tactic| walk_at "t")=>`(tactic| simp only[Yg,QD,PM,UZ,RJ,Rs,Nat.reduceAdd,Nat.reduceSub])
theorem ex2{α:Type}{us:List α}(h:us.length=2):∃a b,us=[a,b]:=by
 match us,h with
 |[a,b],_=>exact⟨a,b,rfl⟩
namespace HdT
open PySem PySem.W
noncomputable def Dy:BT->Nat->List Obj->BT
 |T,_,[]=>T
 |T,n,o :: os=>Dy (T.ins n o) (n+1) os
noncomputable def kW:BT->Nat->List Obj->Bool
 |_,_,[]=>true
 |T,n,o :: os=>match ((T.ins n o).get n).isSome with
  |true=>kW (T.ins n o) (n+1) os
  |false=>false
theorem u_:∀(os:List Obj) (T:BT) (n:Nat) (life:Life),kW T n os=true->absHeap (Dy T n os) (n+os.length) life=⟨(absHeap T n life).objs++os.toArray,life⟩
 |[],T,n,life,_=>by
  show absHeap T n life=_;rw[show([]:List Obj).toArray = #[] from rfl,Wo];rfl
 |o :: os,T,n,life,h=>by
  unfold kW at h;split at h
  ·rename_i e;have ih:=u_ os (T.ins n o) (n+1) life h;rw[absHeap_ins e] at ih;show absHeap (Dy (T.ins n o) (n+1) os) (n+(os.length+1)) life=_;rw[show n+(os.length+1)=n+1+os.length by lia,ih];show Heap.mk ((absHeap T n life).objs.push o++os.toArray) life=Heap.mk ((absHeap T n life).objs++(o :: os).toArray) life;congr 1;simp
  ·cases h
noncomputable def BI(tb:String->Option Qw)(p:Oo)(w:OD)(n₀:Nat)(ann:Option NY):Nat->XM->Thread->Option XM
 |0,_,_=>none
 |n+1,s,t=>match through t with
  |true=>some s
  |false=>match stepOk n₀ ann t with
   |false=>none
   |true=>match stepT (denote tb) p w s t with
    |some (s',t')=>BI tb p w n₀ ann n s' t'
    |none=>none
theorem xZ{tb:String->Option Qw}{p:Oo}{w:OD}{n₀:Nat}{ann:Option NY}:∀{n:Nat} {s r:XM} {t:Thread},BI tb p w n₀ ann n s t=some r->topRun tb p w n₀ ann n s.abs t=some r.abs
 |0,_,_,_,h=>by cases h
 |n+1,s,r,t,h=>by
  unfold BI at h;unfold topRun;cases he:through t with
  |true=>rw[he] at h;cases h;rfl
  |false =>
   rw[he] at h;cases hk:stepOk n₀ ann t with
   |false=>rw[hk] at h;cases h
   |true =>
    rw[hk] at h;cases hs:stepT (denote tb) p w s t with
    |none=>rw[hs] at h;cases h
    |some x=>obtain⟨s₂,t₂⟩:=x;rw[hs] at h;rw[stepT_spec hs];exact xZ h
noncomputable def xE (P:Params) (os:V4):XM:=⟨Dy .nil 0 (P3 P).objs.toList,(P3 P).objs.toList.length,(P3 P).life,XO [],Wr,Xb,os⟩
theorem vR{os:V4}(h:kW .nil 0 (P3 P).objs.toList=true):(xE P os).abs=⟨P3 P,XO [],Wr,Xb,os⟩:=by
 have e:=u_ (P3 P).objs.toList .nil 0 (P3 P).life h;rw[Rs] at e;unfold XM.abs xE;simp only;rw[e];congr 1
noncomputable def ends (tb:String->Option Qw) (mods:List Str) (p:Oo) (w:OD) (N:Nat) (os:V4):Option N5 :=
 match (P3 w.params).isNs mainGlobals with
 |true=>(BI tb p w (P3 w.params).objs.size ((P3 w.params).nsMap mainGlobals "__annotations__") N (xE w.params os) (topStub p)).bind fun r =>
   match staticsOk mods (P3 w.params) r.abs.heap && namesBound p r.abs.heap && gensDone r.abs && laidKept (P3 w.params) r.abs.heap with
   |true=>some r.abs
   |false=>none
 |false=>none
theorem Ho{p:Oo}{w:OD}{os:V4}{r:N5}(g:kW .nil 0 (P3 w.params).objs.toList=true)(h:ends treeTable (importedModules p.main.body) p w N os=some r):topFrom treeTable p w N ⟨P3 w.params,XO [],Wr,Xb,os⟩=some r:=by
 unfold ends at h;unfold topFrom;cases hi:(P3 w.params).isNs mainGlobals with
 |false=>rw[hi] at h;cases h
 |true =>
  rw[hi] at h;simp only at h ⊢;obtain⟨x,hx,hr⟩:=Option.bind_eq_some_iff.mp h
  have:=xZ hx
  rw[vR g] at this;show(topRun treeTable p w (P3 w.params).objs.size ((P3 w.params).nsMap mainGlobals "__annotations__") N ⟨P3 w.params,XO [],Wr,Xb,os⟩ (topStub p)).bind _=_;rw[this];exact hr
theorem left{α:Type}{Yf:N5->α}{Ya:OD->α}
  (e:opening p=plainProg p.main.scope.names) (hN:Nat.ble 600 N=true) (f:∀s,fenceModules? p s=some s) (g:∀w:OD,kW .nil 0 (P3 w.params).objs.toList=true)
  (h:∀w os,(ends treeTable (importedModules p.main.body) p w N os).map (fun s=>(openSeen q loose (importedModules p.main.body) Xt true s,Yf s))=some (openGood q loose,Ya w)):LeftO p q loose Xt Yf Ya N:=fun w=>by
 obtain⟨s,hs,hv⟩:=N8.mp (boot_open e hN f w);unfold openEnds;rw[hs];obtain⟨heap,gens,drawn,toks,os⟩:=s;obtain⟨h1,h2⟩:=RW hv;obtain⟨h2,h3⟩:=RW h2;obtain⟨h3,h4⟩:=RW h3;subst h1 h2 h3 h4;obtain⟨r,hr,hv⟩:=N8.mp (h w os);show(topFrom treeTable p w N _).map _=_;rw[Ho (g w) hr];exact congrArg some hv
theorem cut4{α β γ δ ε ζ η θ ι:Type}{o:Option N5}{F:N5->α×β×γ×δ×ε×ζ×η×θ×ι}{a:α}{b:β}{c:γ}{d:δ}{e:ε}{f:ζ}{g:η}{h:θ}{i:ι}(h1:o.map (fun s=>((F s).1,(F s).2.1))=some (a,b))(h2:o.map (fun s=>(F s).2.2.1)=some c)(h3:o.map (fun s=>((F s).2.2.2.1,(F s).2.2.2.2.1))=some (d,e))
  (h4:o.map (fun s=>((F s).2.2.2.2.2.1,(F s).2.2.2.2.2.2.1,(F s).2.2.2.2.2.2.2.1,(F s).2.2.2.2.2.2.2.2))=some (f,g,h,i)):o.map F=some (a,b,c,d,e,f,g,h,i):=by
 cases o with
 |none=>cases h1
 |some s =>
  have k1:=RW (Oq h1);have k3:=RW (Oq h3);have k4:=RW (Oq h4);have k5:=RW k4.2;have k6:=RW k5.2;exact congrArg some (TJ k1.1 (TJ k1.2 (TJ (Oq h2) (TJ k3.1 (TJ k3.2 (TJ k4.1 (TJ k5.1 (TJ k6.1 k6.2))))))))
end HdT
namespace K87H
open PySem
noncomputable def qv:PySem.Program:=P_ PW87 [1,2,3,5,6,7,8,9,11,12,13,14,15,16,17,18,20,21,22,24,25,26,27,28,29,31,32,34,35,36,37,39,40,41,42,43,44,45,47,48,50,51,52,53,54,55,56,57,58,59,60,61,62,63,64,65,66,67,68,69,70,71,72]
theorem said(h:PySem.Challenge.rw_vesselhall_k87_even_hands.row.Holds):PySem.Challenge.rw_vesselhall_k87_even_hands.Holds:=by
 w_on;o_law;exact h
theorem booted{α:Type}{Yf:WM->α}{Ya:Q5->α}(h:∀w os,(HdT.ends Q1 (Pk PW87.main.body) PW87 w 5062 os).map (fun s=>(U0 q loose (Pk PW87.main.body) Xt true s,Yf s))=some (Xc q loose,Ya w)):Wf PW87 q loose Xt Yf Ya 5062 :=
 HdT.left (by kernel_rfl) (by decide) (fun s=>by kernel_rfl) (fun w=>by kernel_rfl) h
local macro_rules | `(tactic| o_head $H)=>`(tactic| refine Ws (q:=K87H.qv) (loose:=[]) (Xt:=fun s=>SV K87H.qv [] s && So [] s) (XP:=XQ K87H.qv []) (Yf:=Xd $H) (Ya:=Xe $H) (YP:=WN $H) (N:=5062) ?_ (Xz $H) (Wu $H) (fun s e=>X6 s (RX.mp e).1) Xf (by rfl) (by rfl) (by rfl) (fun s e=>V8 (RX.mp e).2) (by rfl) (by first|assumption|decide +kernel) (by decide +kernel) ⟨rfl,rfl,rfl,rfl,rfl,by decide +kernel⟩ ?_ ?_)
open PySem.W PyProof.Rows in
theorem pre(hL:∀(α:Type) (Yf:WM->α) (Ya:Q5->α),Wf PW87 qv [] (fun s=>SV qv [] s && So [] s) Yf Ya 5062)(hP:PySem.Challenge.rw_vesselhall_k87_even_hands.row.toRowW.promised)(hC:∀(YP:Q5->PySem.Heap->Prop) (d:DefRec),Wg qv [] (XQ qv []) YP PySem.Challenge.rw_vesselhall_k87_even_hands.row.toRowW d [] (fun f vs=>Wv f vs)):PySem.Challenge.rw_vesselhall_k87_even_hands.row.Holds:=by
 w_on;k_head
 ·exact hL _ _ _
 ·exact hP
 ·exact hC _ _
noncomputable def asl:List Nat:=[2,3,15,22,23,24,25,28,35,36,37,40,47,48,49,52,54,55,57,58,59,61,62,64,65,66,68,69,71,72,73,75,76,78,79,80,82,83,85,86,87,89,90,92,93,94,97,98,99,102,103,104,106,107,109,110,111,114,115,116,119,120,121,123,124,126,127,128,130,131,133,134,135,136,138,139,141,142,143,145,146,148,149,150,153,154,155,158,159,160,163,164,165,167,168,170,171,172,174,175,177,178,179,181,182,184,185,186,189,190,191,194,195,196,198,199,201,202,203,205,206,208,209,210,212,213,215,216,217,219,220,222,223,224,225,228,229,230,233,234,235,237,238,240,241,242,244,245,247,248,249,252,253,254,257,258,259,261,262,264,265,266,268,269,271,272,273,275,276,278,279,280,282,283,285,286,287,289,290,292,293,294,296,297,299,300,301,303,304,306,307,308,310,311,313,314,315,318,319,320,322,323,325,326,327,329,330,332,333,334,336,337,339,340,341,343,344,346,347,348,350,351,353,354,355,358,359,360,362,363,365,366,374,376,377,379,380,381,384,385,386,388,389,391,392,393,396,397,398,401,402,403,405,406,408,409,410,413,414,415,418,419]
theorem asl_ok(P:PySem.Params):asl=(pre.heap_1 P).map (·.1):=by kernel_rfl
noncomputable abbrev uu(w:Q5)(s:WM):=U0 (P_ PW87 [1,2,3,5,6,7,8,9,11,12,13,14,15,16,17,18,20,21,22,24,25,26,27,28,29,31,32,34,35,36,37,39,40,41,42,43,44,45,47,48,50,51,52,53,54,55,56,57,58,59,60,61,62,63,64,65,66,67,68,69,70,71,72]) [] (Pk PW87.main.body) (fun s=>SV (P_ PW87 [1,2,3,5,6,7,8,9,11,12,13,14,15,16,17,18,20,21,22,24,25,26,27,28,29,31,32,34,35,36,37,39,40,41,42,43,44,45,47,48,50,51,52,53,54,55,56,57,58,59,60,61,62,63,64,65,66,67,68,69,70,71,72]) [] s && So [] s) true s
open PySem.W PyProof.Rows in
theorem see1(w:Q5)(os:Sq):(HdT.ends Q1 (Pk PW87.main.body) PW87 w 5062 os).map (fun s=>((uu w s).1,(uu w s).2.1))=some (expectedOf (P_ PW87 [1,2,3,5,6,7,8,9,11,12,13,14,15,16,17,18,20,21,22,24,25,26,27,28,29,31,32,34,35,36,37,39,40,41,42,43,44,45,47,48,50,51,52,53,54,55,56,57,58,59,60,61,62,63,64,65,66,67,68,69,70,71,72]),bltViewBooted):=by
 unfold uu;rw[PySem.W.Fast.te4187177175401517315,PySem.W.Fast.te5923862056798008813,PySem.W.Fast.te14364793385576792824,PySem.W.Fast.te7326776266327625245];kernel_rfl
open PySem.W PyProof.Rows in
theorem see2(w:Q5)(os:Sq):(HdT.ends Q1 (Pk PW87.main.body) PW87 w 5062 os).map (fun s=>(uu w s).2.2.1)=some true:=by
 unfold uu;rw[PySem.W.Fast.te4187177175401517315,PySem.W.Fast.te5923862056798008813,PySem.W.Fast.te14364793385576792824,PySem.W.Fast.te7326776266327625245];kernel_rfl
open PySem.W PyProof.Rows in
theorem see3(w:Q5)(os:Sq):(HdT.ends Q1 (Pk PW87.main.body) PW87 w 5062 os).map (fun s=>((uu w s).2.2.2.1,(uu w s).2.2.2.2.1))=some (true,pinGoodD (drecsOf (P_ PW87 [1,2,3,5,6,7,8,9,11,12,13,14,15,16,17,18,20,21,22,24,25,26,27,28,29,31,32,34,35,36,37,39,40,41,42,43,44,45,47,48,50,51,52,53,54,55,56,57,58,59,60,61,62,63,64,65,66,67,68,69,70,71,72]))):=by
 unfold uu;rw[PySem.W.Fast.te4187177175401517315,PySem.W.Fast.te5923862056798008813,PySem.W.Fast.te14364793385576792824,PySem.W.Fast.te7326776266327625245];kernel_rfl
open PySem.W PyProof.Rows in
theorem see4(w:Q5)(os:Sq):(HdT.ends Q1 (Pk PW87.main.body) PW87 w 5062 os).map (fun s=>((uu w s).2.2.2.2.2.1,(uu w s).2.2.2.2.2.2.1,(uu w s).2.2.2.2.2.2.2.1,(uu w s).2.2.2.2.2.2.2.2))=some (plainGoodE (P_ PW87 [1,2,3,5,6,7,8,9,11,12,13,14,15,16,17,18,20,21,22,24,25,26,27,28,29,31,32,34,35,36,37,39,40,41,42,43,44,45,47,48,50,51,52,53,54,55,56,57,58,59,60,61,62,63,64,65,66,67,68,69,70,71,72]) (looseW (P_ PW87 [1,2,3,5,6,7,8,9,11,12,13,14,15,16,17,18,20,21,22,24,25,26,27,28,29,31,32,34,35,36,37,39,40,41,42,43,44,45,47,48,50,51,52,53,54,55,56,57,58,59,60,61,62,63,64,65,66,67,68,69,70,71,72]) []),plainGoodD (P_ PW87 [1,2,3,5,6,7,8,9,11,12,13,14,15,16,17,18,20,21,22,24,25,26,27,28,29,31,32,34,35,36,37,39,40,41,42,43,44,45,47,48,50,51,52,53,54,55,56,57,58,59,60,61,62,63,64,65,66,67,68,69,70,71,72]) [],wideGood (P_ PW87 [1,2,3,5,6,7,8,9,11,12,13,14,15,16,17,18,20,21,22,24,25,26,27,28,29,31,32,34,35,36,37,39,40,41,42,43,44,45,47,48,50,51,52,53,54,55,56,57,58,59,60,61,62,63,64,65,66,67,68,69,70,71,72]),clsGoodW (P_ PW87 [1,2,3,5,6,7,8,9,11,12,13,14,15,16,17,18,20,21,22,24,25,26,27,28,29,31,32,34,35,36,37,39,40,41,42,43,44,45,47,48,50,51,52,53,54,55,56,57,58,59,60,61,62,63,64,65,66,67,68,69,70,71,72]) []):=by
 unfold uu;rw[PySem.W.Fast.te4187177175401517315,PySem.W.Fast.te5923862056798008813,PySem.W.Fast.te14364793385576792824,PySem.W.Fast.te7326776266327625245];kernel_rfl
theorem seen(w:Q5)(os:Sq):(HdT.ends Q1 (Pk PW87.main.body) PW87 w 5062 os).map (fun s=>U0 (P_ PW87 [1,2,3,5,6,7,8,9,11,12,13,14,15,16,17,18,20,21,22,24,25,26,27,28,29,31,32,34,35,36,37,39,40,41,42,43,44,45,47,48,50,51,52,53,54,55,56,57,58,59,60,61,62,63,64,65,66,67,68,69,70,71,72]) [] (Pk PW87.main.body) (fun s=>SV (P_ PW87 [1,2,3,5,6,7,8,9,11,12,13,14,15,16,17,18,20,21,22,24,25,26,27,28,29,31,32,34,35,36,37,39,40,41,42,43,44,45,47,48,50,51,52,53,54,55,56,57,58,59,60,61,62,63,64,65,66,67,68,69,70,71,72]) [] s && So [] s) true s)=some (Xc (P_ PW87 [1,2,3,5,6,7,8,9,11,12,13,14,15,16,17,18,20,21,22,24,25,26,27,28,29,31,32,34,35,36,37,39,40,41,42,43,44,45,47,48,50,51,52,53,54,55,56,57,58,59,60,61,62,63,64,65,66,67,68,69,70,71,72]) []):=HdT.cut4 (F:=fun s=>uu w s) (see1 w os) (see2 w os) (see3 w os) (see4 w os)
theorem hook(w:Q5)(os:Sq):(HdT.ends Q1 (Pk PW87.main.body) PW87 w 5062 os).map (fun s=>asl.map s.heap.get?)=some ((pre.heap_1 w.params).map fun p=>some p.2):=by
 unfold asl;rw[PySem.W.Fast.te5923862056798008813,PySem.W.Fast.te14364793385576792824,PySem.W.Fast.te7326776266327625245];kernel_rfl
theorem hooks:Wf PW87 qv [] (fun s=>SV qv [] s && So [] s) (fun s=>asl.map s.heap.get?) (fun w=>(pre.heap_1 w.params).map fun p=>some p.2) 5062 :=
 booted (fun w=>fun os=>by
  obtain⟨s,e,a⟩:=N8.mp (seen w os)
  have b:=hook w os
  rw[e] at b ⊢
  exact congrArg some (TJ a (Oq b)))
end K87H
namespace L2
open PySem PySem.Spec PyProof.Rows
noncomputable abbrev bf:=Sum Int Str
noncomputable def nK:bf->NY->Bool
 |.inl k,v=>Qp k v
 |.inr x,v=>Wh x v
noncomputable def Mt(w:OD):bf->Int
 |.inl k=>hashInt k
 |.inr x=>hashStr w x
theorem bD:∀{k:bf} {v:NY},nK k v=true->(∃i t,k=R3 i/\v=R4 i t)\/(∃x t,k=Ve x/\v=V5 x t)
 |.inl i,v,h=>by
  obtain⟨t,e⟩:=NY.isInt_shape (k:=i) (v:=v) h;exact .inl ⟨i,t,rfl,e⟩
 |.inr x,v,h=>by
  obtain⟨t,e⟩:=NY.isStrOf_shape (x:=x) (v:=v) h;exact .inr ⟨x,t,rfl,e⟩
theorem zu(i:Int)(t:Tok):nK (.inl i) (.int i t)=true:=by simp[nK,Qp]
theorem zt(x:Str)(t:Tok):nK (.inr x) (.str x t)=true:=by simp[nK,Wh]
theorem J8(a b:Int):decide ((R3 a:bf)=R3 b)=(a == b):=by
 by_cases e:a=b
 ·subst e;simp
 ·have h : ¬ (R3 a:bf)=R3 b:=fun q=>e (SL q)
  rw[decide_eq_false h];exact(beq_eq_false_iff_ne.mpr e).symm
theorem J5(a b:Str):decide ((Ve a:bf)=Ve b)=decide (a=b):=by
 by_cases e:a=b
 ·subst e;simp
 ·have h : ¬ (Ve a:bf)=Ve b:=fun q=>e (Ve.inj q)
  rw[decide_eq_false h,decide_eq_false e]
theorem J7(a:Int)(b:Str):decide ((R3 a:bf)=Ve b)=false:=decide_eq_false (fun q=>nomatch q)
theorem J6(a:Str)(b:Int):decide ((Ve a:bf)=R3 b)=false:=decide_eq_false (fun q=>nomatch q)
noncomputable def bC(prog:Oo)(w:OD):PySem.KeyKind prog w bf where
 is:=nK
 hash:=Mt w
 inj:=fun v a b ha hb=>by
  rcases bD ha with⟨i,t,rfl,rfl⟩|⟨x,t,rfl,rfl⟩
  ·rcases bD hb with⟨j,u,rfl,e⟩|⟨y,u,rfl,e⟩
   ·injection e with e1 _;rw[e1]
   ·exact nomatch e
  ·rcases bD hb with⟨j,u,rfl,e⟩|⟨y,u,rfl,e⟩
   ·exact nomatch e
   ·injection e with e1 _;rw[e1]
 byValue:=fun k v h=>by
  rcases bD h with⟨i,t,rfl,rfl⟩|⟨x,t,rfl,rfl⟩ <;> rfl
 pyHash:=fun hv h=>by
  rcases bD hv with⟨i,t,rfl,rfl⟩|⟨x,t,rfl,rfl⟩
  ·exact wpAny_pyHash_int h
  ·exact wpAny_pyHash_str h
 eqBool:=fun hu hv h=>by
  rcases bD hu with⟨i,t,rfl,rfl⟩|⟨x,t,rfl,rfl⟩
  ·rcases bD hv with⟨j,u,rfl,rfl⟩|⟨y,u,rfl,rfl⟩
   ·rw[J8] at h;exact wpAny_eqBool_int h
   ·rw[J7] at h;exact Ww.int_str i t y u _ _ _ _ h
  ·rcases bD hv with⟨j,u,rfl,rfl⟩|⟨y,u,rfl,rfl⟩
   ·rw[J6] at h;exact Ww.str_int x t j u _ _ _ _ h
   ·rw[J5] at h;exact wpAny_eqBool_str h
 «strs»:=fun k x t v h=>by
  rcases bD h with⟨i,u,rfl,e⟩|⟨y,u,rfl,e⟩
  ·exact nomatch e
  ·injection e with e1 _
   subst e1;cases v <;> rfl
theorem sX(prog:Oo)(w:OD)(i:Int)(t:Tok):(bC prog w).is (.inl i) (.int i t)=true:=zu i t
theorem sW(prog:Oo)(w:OD)(x:Str)(t:Tok):(bC prog w).is (.inr x) (.str x t)=true:=zt x t
inductive V where
 |non|bl (b:Bool)|int (i:Int)|str (x:Str)|byt (b:Array UInt8)|flt (b:UInt64)|ref (a:Addr)|ty (n:String)
 deriving DecidableEq
noncomputable def RelV:V->NY->Prop
 |.non,u=>u=P1
 |.bl b,u=>u=Vf b
 |.int i,u=>∃t,u=R4 i t
 |.str x,u=>∃t,u=V5 x t
 |.byt b,u=>∃t,u=NY.bytes b t
 |.flt b,u=>∃t,u=NY.float b t
 |.ref a,u=>u=O9 a
 |.ty n,u=>u=To n
noncomputable abbrev Vals:List V->List NY->Prop:=Paired RelV
theorem Vals.length(r:Vals xs us):xs.length=us.length:=Sr r
theorem Vals.get:∀{xs:List V} {us:List NY} {i:Nat} {x:V},Vals xs us->xs[i]?=some x->∃u,us[i]?=some u/\RelV x u
 |_,_,_,_,.nil,e=>by simp at e
 |_,_,0,_,.cons r _,e=>by simp at e;subst e;exact⟨_,rfl,r⟩
 |_,_,i+1,x,.cons _ t,e=>by
  obtain⟨u,h1,h2⟩:=Vals.get (i:=i) (x:=x) t (by simpa using e);exact⟨u,by simpa using h1,h2⟩
theorem Vals.append:∀{xs ys:List V} {us ws:List NY},Vals xs us->Vals ys ws->Vals (xs++ys) (us++ws)
 |_,_,_,_,.nil,s=>s
 |_,_,_,_,.cons r t,s=>.cons r (Vals.append t s)
theorem Vals.take:∀{xs:List V} {us:List NY} (n:Nat),Vals xs us->Vals (xs.take n) (us.take n)
 |_,_,0,_=>.nil
 |_,_,_+1,.nil=>.nil
 |_,_,n+1,.cons r t=>.cons r (Vals.take n t)
theorem Vals.drop:∀{xs:List V} {us:List NY} (n:Nat),Vals xs us->Vals (xs.drop n) (us.drop n)
 |_,_,0,r=>r
 |_,_,_+1,.nil=>.nil
 |_,_,n+1,.cons _ t=>Vals.drop n t
noncomputable def RelO:Option V->Option NY->Prop
 |some v,some u=>RelV v u
 |none,none=>True
 |_,_=>False
noncomputable def KV{κ:Type}:List (κ×V)->List (κ×NY)->Prop:=Paired fun(p:κ×V) (q:κ×NY)=>p.1=q.1/\RelV p.2 q.2
noncomputable def kV:bf->V
 |.inl i=>.int i
 |.inr x=>.str x
inductive HO where
 |lst (xs:List V)
 |tup (xs:List V)
 |dK (de:List (bf×V))|dT (de:List (List bf×V))
 |set (S:Int->Bool) (n:Nat)
 |ins (C dx:Addr) (fs:List (Str×V))
 |own (x:Addr)
 |xd (fs:List (Str×V))
 |met (f x:Addr)
 |rng (lo hi:Int)
 |frz (o:Obj) (u:HO)
 |tbl (ps:Array NY)
 |ext (φ:Heap->Prop)
noncomputable abbrev Hp:=Addr->Option HO
noncomputable def upd(H:Hp)(a:Addr)(o:HO):Hp:=fun b=>if b=a then some o else H b
theorem ag:upd H a o a=some o:=by unfold upd;rw[if_pos rfl]
theorem aB{a b:Addr}(h:b≠a):upd H a o b=H b:=by unfold upd;rw[if_neg h]
theorem Fi:upd (upd H a o) a u=upd H a u:=by
 funext b;unfold upd;split <;> rfl
theorem kD{H:Hp}{o u:HO}(h:H a=some o)(h':H b=some u)(d:o≠u):a≠b:=by
 intro e;subst e;rw[h] at h';exact d (Oq h')
theorem au{H:Hp}{o:HO}(h:H a=some o)(h':H b=none):a≠b:=by
 intro e;subst e;rw[h] at h';cases h'
noncomputable def TupD (h:Heap) (a:Addr) (items:Array NY):Prop:=∃o,h.get? a=some o/\(o.cls=.type "tuple"/\∃n,o.data=.seq items n)/\o.dict=none
theorem TupD.tup{h:Heap}{a:Addr}{items:Array NY}(t:TupD h a items):IsTup h a items:=let ⟨o,e,c,_⟩:=t;⟨o,e,c⟩
theorem TupD.lt(t:TupD h a items):a<h.objs.size:=t.tup.lt
theorem TupD.new(h:Heap) (items:Array NY):TupD (h.push {cls:=.type "tuple",data:=.seq items}) h.objs.size items:=⟨_,OC _ rfl,⟨rfl,_,rfl⟩,rfl⟩
section
variable(P:Oo)(w:OD)
noncomputable def b9(H:Hp)(h:Heap)(a:Addr):HO->Prop
 |.lst xs=>xs.length<=sizeLine/\∃(dk:List NY) (n:Nat),Vals xs dk/\h.get? a=some {cls:=.type "list",data:=.seq dk.toArray n}
 |.tup xs=>xs.length<=sizeLine/\∃dk:List NY,Vals xs dk/\TupD h a dk.toArray
 |.dK de=>de.length<=sizeLine/\(a == sysModules)=false/\∃vs,KV de vs/\h.DictOf (bC P w) a vs
 |.dT de=>de.length<=sizeLine/\(a == sysModules)=false/\∃xs:List (List bf×Addr×NY),
   Paired (fun(p:List bf×V) (q:List bf×Addr×NY)=>p.1=q.1/\H q.2.1=some (.tup (p.1.map kV))/\RelV p.2 q.2.2) de xs /\
   ∃o es ep,h.get? a=some o/\o.ExactDict/\o.data=.dict es ep/\es.toList=xs.map (entryOfKey (tupleKind (bC P w)))/\(xs.map (·.1)).Nodup
 |.set S n=>h.SetOf (intKind P w) a S n
 |.ins C dx fs=>H dx=some (.own a)/\fs.length<=1000/\dx≠a/\h.get? a=some (Vu C dx) /\
   ∃mA,h.Ns1 dx mA/\(∀f,RelO (fs.lookup f) (mA f))/\PySem.Within mA (fs.map (·.1))
 |.own _=>∃o,h.get? a=some o
 |.xd fs=>∃mA,h.Ns1 a mA/\∀f,RelO (fs.lookup f) (mA f)
 |.rng lo hi=>∃t u v,h.get? a=some {cls:=.type "range",data:=.fields #[.int lo t,.int hi u,.int 1 v]}
 |.frz o u=>h.get? a=some o/\b9 H h a u
 |.tbl ps=>h.get? a=some {cls:=.none,data:=.fields ps}
 |.met f x=>h.get? a=some (UA (.ref f) (.ref x))
 |.ext φ=>φ h/\(∃o,h.get? a=some o)/\∀h1 h2:Heap,φ h1->(∀o,h1.get? a=some o->h2.get? a=some o)->φ h2
noncomputable def HOk(H:Hp)(h:Heap):Prop:=∀a o,H a=some o->b9 P w H h a o
end
section
variable{P:Oo}{w:OD}{H H':Hp}{h h':Heap}{a:Addr}{o:HO}
theorem b9.lt(x:b9 P w H h a o):a<h.objs.size:=by
 cases o with
 |lst xs=>obtain⟨_,_,_,_,e⟩:=x;exact Op e
 |tup xs=>obtain⟨_,_,_,p⟩:=x;exact p.lt
 |dK de=>obtain⟨_,_,_,_,o,_,_,e,_⟩:=x;exact Op e
 |dT de=>obtain⟨_,_,_,_,o,_,_,e,_⟩:=x;exact Op e
 |set S n=>obtain⟨o,_,_,_,e,_⟩:=x;exact Op e
 |ins C dx fs=>obtain⟨_,_,_,e,_⟩:=x;exact Op e
 |own y=>obtain⟨_,e⟩:=x;exact Op e
 |xd fs=>obtain⟨_,⟨_,_,_,e,_⟩,_⟩:=x;exact Op e
 |rng lo hi=>obtain⟨_,_,_,e⟩:=x;exact Op e
 |frz ob u=>obtain⟨e,_⟩:=x;exact Op e
 |tbl ps=>exact Op (show h.get? a=some _ from x)
 |met f y=>exact Op (show h.get? a=some _ from x)
 |ext φ=>obtain⟨_,⟨_,e⟩,_⟩:=x;exact Op e
theorem Paired.mapP{α β:Type}{F G:α->β->Prop}:∀{l₁:List α} {l₂:List β},Paired F l₁ l₂->(∀a b,F a b->G a b)->Paired G l₁ l₂
 |_,_,.nil,_=>.nil
 |_,_,.cons r t,f=>.cons (f _ _ r) (Paired.mapP t f)
theorem b9.stay(x:b9 P w H h a o)(k:∀b u,(b=a\/H b=some (.own a))->h.get? b=some u->h'.get? b=some u)
  (ho:∀b,H b=some (.own a)->H' b=some (.own a)) (ht:∀b xs,H b=some (.tup xs)->H' b=some (.tup xs)):b9 P w H' h' a o:=by
 induction o with
 |lst xs=>obtain⟨z,dk,n,r,e⟩:=x;exact⟨z,dk,n,r,k _ _ (.inl rfl) e⟩
 |tup xs=>obtain⟨z,dk,r,ob,e,c⟩:=x;exact⟨z,dk,r,ob,k _ _ (.inl rfl) e,c⟩
 |dK de=>obtain⟨z,y,vs,r,ob,es,ep,e,c⟩:=x;exact⟨z,y,vs,r,ob,es,ep,k _ _ (.inl rfl) e,c⟩
 |dT de =>
  obtain⟨z,y,xs,r,ob,es,ep,e,c⟩:=x;exact⟨z,y,xs,Paired.mapP r fun p q z=>⟨z.1,ht _ _ z.2.1,z.2.2⟩,ob,es,ep,k _ _ (.inl rfl) e,c⟩
 |set S n=>obtain⟨ob,es,ep,t,e,c⟩:=x;exact⟨ob,es,ep,t,k _ _ (.inl rfl) e,c⟩
 |ins C dx fs =>
  obtain⟨d,z,ne,e,mA,⟨od,es,ep,e2,c⟩,r⟩:=x;exact⟨ho _ d,z,ne,k _ _ (.inl rfl) e,mA,⟨od,es,ep,k _ _ (.inr d) e2,c⟩,r⟩
 |own y=>obtain⟨ob,e⟩:=x;exact⟨ob,k _ _ (.inl rfl) e⟩
 |xd fs=>obtain⟨mA,⟨od,es,ep,e,c⟩,r⟩:=x;exact⟨mA,⟨od,es,ep,k _ _ (.inl rfl) e,c⟩,r⟩
 |rng lo hi=>obtain⟨t,u,v,e⟩:=x;exact⟨t,u,v,k _ _ (.inl rfl) e⟩
 |frz ob u ih=>obtain⟨e,q⟩:=x;exact⟨k _ _ (.inl rfl) e,ih q⟩
 |tbl ps =>
  have e:h.get? a=some {cls:=.none,data:=.fields ps}:=x;show h'.get? a=some {cls:=.none,data:=.fields ps};exact k a _ (.inl rfl) e
 |met f y =>
  have e:h.get? a=some (UA (.ref f) (.ref y)):=x;show h'.get? a=some (UA (.ref f) (.ref y));exact k a _ (.inl rfl) e
 |ext φ=>obtain⟨p,⟨o,e⟩,st⟩:=x;exact⟨st _ _ p fun o q=>k _ _ (.inl rfl) q,⟨o,k _ _ (.inl rfl) e⟩,st⟩
theorem HOk.lt(x:HOk P w H h)(e:H a=some o):a<h.objs.size:=(x a o e).lt
theorem HOk.fresh(x:HOk P w H h)(e:h.objs.size<=a):H a=none:=by
 cases q:H a with
 |none=>rfl
 |some u=>exact absurd (OB (x.lt q) e) (Rf _)
theorem HOk.kept(x:HOk P w H h)(k:∀b u,h.get? b=some u->h'.get? b=some u):HOk P w H h':=fun a o e =>
 (x a o e).stay (fun b u _ q=>k b u q) (fun _ q=>q) fun _ _ q=>q
theorem HOk.laid(x:HOk P w H h)(k:∀b u,h.get? b=some u->h'.get? b=some u)(hp:h.objs.size<=a)(new:b9 P w (upd H a o) h' a o):HOk P w (upd H a o) h':=fun b u e=>by
 have hn:=x.fresh hp;by_cases hb:b=a
 ·subst hb;rw[ag] at e;cases e;exact new
 ·rw[aB hb] at e;exact(x b u e).stay (fun c v _ q=>k c v q) (fun c q=>by rw[aB (au q hn)];exact q) fun c xs q=>by rw[aB (au q hn)];exact q
end
noncomputable def Rd(H:Hp)(a:Addr)(u:HO):Prop:=H a=some u\/∃o,H a=some (.frz o u)
theorem Rd.ok(r:Rd H a u)(x:HOk P w H h):b9 P w H h a u:=by
 rcases r with r|⟨o,r⟩
 ·exact x a u r
 ·obtain⟨_,q⟩:=x a _ r;exact q
noncomputable def Lx:Option HO->Prop
 |some (.lst _)=>True
 |some (.dK _)=>True
 |some (.dT _)=>True
 |some (.set _ _)=>True
 |some (.ins _ _ _)=>True
 |some (.ext _)=>True
 |_=>False
section
variable{P:Oo}{w:OD}{H:Hp}{h h':Heap}{x e:Addr}{o':HO}
theorem HOk.write(ok:HOk P w H h)(mu:Lx (H x))(he:e=x\/H e=some (.own x))(k:∀b u,b≠e->h.get? b=some u->h'.get? b=some u)(heo:∃u,h'.get? e=some u)
  (new:b9 P w (upd H x o') h' x o'):HOk P w (upd H x o') h':=fun b u q=>by
 have nown:∀c y,H c=some (.own y)->c≠x:=fun c y r z=>by subst z;rw[r] at mu;exact mu
 have ntup:∀c xs,H c=some (.tup xs)->c≠x:=fun c xs r z=>by subst z;rw[r] at mu;exact mu
 by_cases hb:b=x
 ·subst hb;rw[ag] at q;cases q;exact new
 ·rw[aB hb] at q;by_cases hbe:b=e
  ·have q':H b=some (.own x):=by
    rcases he with z|z
    ·exact absurd (hbe.trans z) hb
    ·rw[hbe];exact z
   rw[q] at q';cases q';obtain⟨v,hv⟩:=heo;exact⟨v,by rw[hbe];exact hv⟩
  ·refine(ok b u q).stay (fun c v hc r=>k c v ?_ r) (fun c r=>by rw[aB (nown c b r)];exact r) fun c xs r=>by rw[aB (ntup c xs r)];exact r
   rcases hc with rfl|hc
   ·exact hbe
   ·rintro rfl;rcases he with z|z
    ·exact nown c b hc z
    ·rw[hc] at z;cases z;exact hb rfl
end
structure Un (fs ex:List Addr) (H H':Hp) (h h':Heap):Prop where
 keep:∀b o,h.get? b=some o->H b=none->b∉fs->b∉ex->h'.get? b=some o
 slot:∀b o,h.get? b=some o->H b=none->b∈fs->b∉ex->∃sl,h'.get? b=some {o with slots:=sl}
 free:∀b o,h.get? b=some o->H b=none->b∉ex->H' b=none
 there:∀b o,h.get? b=some o->b∉ex->∃o',h'.get? b=some o'
 tups:∀b xs,H b=some (.tup xs)->H' b=some (.tup xs)
 frzs:∀b o u,H b=some (.frz o u)->H' b=some (.frz o u)
 tbls:∀b ps,H b=some (.tbl ps)->∃more,H' b=some (.tbl (ps++more))
section
variable{fs fs' ex ex':List Addr}{H H1 H2:Hp}{h h1 h2 h':Heap}{a x e:Addr}{o:HO}
theorem Un.any(u:Un fs ex H H1 h h1){b:Addr}{ob:Obj}(q:h.get? b=some ob)(n:H b=none)(hx:b∉ex):∃sl,h1.get? b=some {ob with slots:=sl}:=by
 by_cases hb:b∈fs
 ·exact u.slot b ob q n hb hx
 ·exact⟨ob.slots,u.keep b ob q n hb hx⟩
theorem Un.kept(k:∀b u,h.get? b=some u->h'.get? b=some u):Un fs ex H H h h' :=
 ⟨fun b ob q _ _ _=>k b ob q,fun b ob q _ _ _=>⟨ob.slots,k b ob q⟩,fun _ _ _ n _=>n,fun b ob q _=>⟨ob,k b ob q⟩,fun _ _ q=>q,fun _ _ _ q=>q,fun _ ps q=>⟨#[],by rw[q];simp⟩⟩
theorem Un.refl:Un fs ex H H h h:=Un.kept fun _ _ q=>q
theorem Un.laid(k:∀b u,h.get? b=some u->h'.get? b=some u)(hp:h.objs.size<=a)(hn:H a=none):Un fs ex H (upd H a o) h h' where
 keep:=fun b u q _ _ _=>k b u q
 slot:=fun b u q _ _ _=>⟨u.slots,k b u q⟩
 free:=fun b u q n _=>by rw[aB (Ou (OB (Op q) hp))];exact n
 there:=fun b u q _=>⟨u,k b u q⟩
 tups:=fun b xs q=>by rw[aB (au q hn)];exact q
 frzs:=fun b u xs q=>by rw[aB (au q hn)];exact q
 tbls:=fun b ps q=>⟨#[],by rw[aB (au q hn),q];simp⟩
theorem Un.write(mu:Lx (H x))(he:e=x\/H e=some (.own x))(k:∀b u,b≠e->h.get? b=some u->h'.get? b=some u)(heo:∃u,h'.get? e=some u):Un fs ex H (upd H x o) h h':=by
 have hx:∀b,H b=none->b≠x:=fun b n z=>by subst z;rw[n] at mu;exact mu
 have hb:∀b,H b=none->b≠e:=fun b n z=>by
  subst z;rcases he with r|r
  ·exact hx b n r
  ·rw[n] at r;cases r
 have hm:∀b u,H b=some u->¬ Lx (some u)->b≠x:=fun b u q nm z=>by subst z;rw[q] at mu;exact nm mu
 refine⟨fun b u q n _ _=>k b u (hb b n) q,fun b u q n _ _=>⟨u.slots,k b u (hb b n) q⟩,fun b u q n _=>by rw[aB (hx b n)];exact n,fun b u q _=>?_,
  fun b xs q=>by rw[aB (hm b _ q fun z=>z)];exact q,fun b u xs q=>by rw[aB (hm b _ q fun z=>z)];exact q,fun b ps q=>⟨#[],by rw[aB (hm b _ q fun z=>z),q];simp⟩⟩
 by_cases hbe:b=e
 ·subst hbe;exact heo
 ·exact⟨u,k b u hbe q⟩
end
noncomputable def LK(h:Heap)(H:Hp):List Addr:=(Oa h.objs.size).filter fun a=>(H a).isSome
noncomputable def nP(h:Heap)(H:Hp):Heap:=PySem.W.hideAll h (LK h H)
theorem zK(h:Heap)(H:Hp):(nP h H).objs.size=h.objs.size:=PySem.W.hideAll_size _ _
theorem Dw{h:Heap}{H:Hp}{b:Addr}{o:Obj}(e:h.get? b=some o)(n:H b=none):(nP h H).get? b=some o :=
 PySem.W.hideAll_get _ e fun hm=>by
  have q:(H b).isSome=true:=(Os.mp hm).2;rw[n] at q;simp at q
theorem GU{b:Addr}{o:Obj}(e:(nP h H).get? b=some o):h.get? b=some o/\H b=none:=by
 have e':h.get? b=some o:=PySem.W.of_hideAll (LK h H) e;refine⟨e',?_⟩;cases q:H b with
 |none=>rfl
 |some x =>
  have hm:b∈LK h H:=Os.mpr ⟨Ow.mpr (Op e'),by simp[q]⟩;have z:(nP h H).get? b=none:=PySem.W.hideAll_none (LK h H) hm;rw[z] at e;cases e
structure Mod (K:Fg) (mg:Str->Option NY) (base:Heap):Prop where
 kin:K.In base
 glob:base.Ns mainGlobals mg
 blt:∃mb,base.Ns builtinsNs mb/\∀x:Str,x≠"__name__"->mb x=bootBuiltins x
 nolimit:base.NoLimit
structure Cx where
 prog:Oo
 w:OD
 K:Fg
 mg:Str->Option NY
 base:Heap
 A:O1
 N:List Str
 s₀:N5
 H₀:Hp
 env:Env
 outer:List Env
 stack:List Env
 ex:List Addr
 fn:Str->Bool
 calm:Bool
 pn:List (Addr×Obj)
 xe:NY->N5->Prop
noncomputable def wC(l:List Env):List Addr:=l.filterMap (·.frame)
noncomputable abbrev Cx.fs(X:Cx):List Addr:=wC X.outer
noncomputable def LO(sc:Scope)(x:Str):Prop:=sc.names.lookup x=some .local\/sc.names.lookup x=some .cell\/sc.names.lookup x=some .free
noncomputable def Loc(sc:Scope)(x:Str):Prop:=sc.names.lookup x=some .local\/sc.names.lookup x=some .cell
noncomputable def Look(env:Env)(h:Heap)(m:Str->Option NY)(x:Str)(u:NY):Prop :=
 (env.kindOf x=some .local/\m x=some u)\/((env.kindOf x=some .cell\/env.kindOf x=some .free)/\∃c,env.cells.lookup x=some c/\h.IsCell c (some u))
structure Cx.Ok (X:Cx):Prop where
 mod:Mod X.K X.mg X.base
 kind:X.env.scope.kind=.function
 glob:X.env.globals=mainGlobals
 blt:X.env.builtins=builtinsNs
 above:X.s₀.heap.objs.size<=X.env.locals
 inj:∀x y c,X.env.cells.lookup x=some c->X.env.cells.lookup y=some c->x=y
 has:∀x,(X.env.kindOf x=some .cell\/X.env.kindOf x=some .free)->∃c,X.env.cells.lookup x=some c
 cab:∀x c,X.fn x=true->X.env.cells.lookup x=some c->X.s₀.heap.objs.size<=c
 hd:X.calm=true->X.A.handled=none
 frames:X.A.frames=some X.stack
 stk:X.stack=X.outer\/(X.stack=X.env :: X.outer/\X.env.frame=some X.env.locals)
 exf:∀b∈X.ex,b≠X.env.locals/\∀x c,X.env.cells.lookup x=some c->c≠b
 bs:∀b o,X.base.get? b=some o->X.s₀.heap.get? b=some o/\X.H₀ b=none
 bsz:X.base.objs.size<=X.s₀.heap.objs.size
 noex:∀b o,X.base.get? b=some o->b∉X.ex
 exfs:∀b∈X.ex,b∉X.fs
 funs:X.s₀.heap.FunFrames X.base X.outer
 frf:∀b∈X.fs,X.H₀ b=none
structure Inv (X:Cx) (ν:List (Addr×Obj)) (σ:List (Option V)) (H:Hp) (s:N5):Prop where
 ok:X.Ok
 os:s.os=X.s₀.os
 bare:UB s.gens
 base:Un X.fs X.ex X.H₀ H X.s₀.heap s.heap
 loc:∃m,s.heap.Ns X.env.locals m/\∀(i:Nat) (x:Str) (v:V),X.N[i]?=some x->σ[i]?=some (some v)->LO X.env.scope x->∃u,RelV v u/\Look X.env s.heap m x u
 cell:∀x c,X.env.cells.lookup x=some c->∃v,s.heap.IsCell c v
 free:H X.env.locals=none
 freeC:∀x c,X.env.cells.lookup x=some c->H c=none
 pin:∀p∈X.pn++ν,s.heap.get? p.1=some p.2/\H p.1=none/\p.1≠X.env.locals/\p.1∉X.fs/\∀v,p.2.data≠.cell v
 hok:HOk X.prog X.w H s.heap
 len:σ.length=X.N.length
section
variable{X:Cx}{ν:List (Addr×Obj)}{σ:List (Option V)}{H H':Hp}{s:N5}{h':Heap}
theorem Cx.Ok.nofr(ok:X.Ok){b:Addr}{o:Obj}(e:X.base.get? b=some o):b∉X.fs:=fun hb=>by
 have:=(ok.funs.mem hb).1
 rw[e] at this;cases this
theorem Inv.bs(I:Inv X ν σ H s):∀b o,X.base.get? b=some o->s.heap.get? b=some o/\H b=none:=fun b o e =>
 ⟨I.base.keep b o (I.ok.bs b o e).1 (I.ok.bs b o e).2 (I.ok.nofr e) (I.ok.noex b o e),I.base.free b o (I.ok.bs b o e).1 (I.ok.bs b o e).2 (I.ok.noex b o e)⟩
theorem Inv.bk(I:Inv X ν σ H s):∀b o,X.base.get? b=some o->s.heap.get? b=some o:=fun b o e=>(I.bs b o e).1
theorem Inv.mod(I:Inv X ν σ H s):Mod X.K X.mg X.base:=I.ok.mod
theorem Inv.kIn(I:Inv X ν σ H s):X.K.In s.heap:=I.ok.mod.kin.keeps I.bk
theorem Inv.lt(I:Inv X ν σ H s):X.env.locals<s.heap.objs.size:=let ⟨_,hn,_⟩:=I.loc;hn.lt
theorem Inv.sz(I:Inv X ν σ H s):X.s₀.heap.objs.size<=s.heap.objs.size:=Oi I.ok.above (Qa I.lt)
theorem Inv.nofs(I:Inv X ν σ H s){a:Addr}(h:s.heap.objs.size<=a):a∉X.fs:=fun hb=>by
 obtain⟨_,o,ho,_⟩:=I.ok.funs.mem hb;exact absurd (OB (Op ho) (Oi I.sz h)) (Rf _)
theorem Inv.cne(I:Inv X ν σ H s):∀x c,X.env.cells.lookup x=some c->c≠X.env.locals:=fun x c e z=>by
 obtain⟨v,o,ho,hd⟩:=I.cell x c e;obtain⟨m,⟨o',es,ep,ZL,hd',_⟩,_⟩:=I.loc;rw[z,ZL] at ho;cases ho;rw[hd'] at hd;cases hd
theorem Inv.funs(I:Inv X ν σ H s):s.heap.FunFrames X.base X.outer:=by
 have all:∀(l:List Env),(∀b∈wC l,b∈X.fs)->X.s₀.heap.FunFrames X.base l->s.heap.FunFrames X.base l:=by
  intro l
  induction l with
  |nil=>intro _ _;trivial
  |cons env r ih =>
   intro hs hl;obtain⟨hk,⟨L,o,hf,hn,ho,hd⟩,hr⟩:=hl;have hL:L∈X.fs:=hs L (by unfold wC;rw[Si,hf];exact NX);obtain⟨sl,e⟩:=I.base.slot L o ho (I.ok.frf L hL) hL fun z=>I.ok.exfs L z hL
   exact⟨hk,⟨L,_,hf,hn,e,hd⟩,ih (fun b hb=>hs b (by unfold wC;rw[Si,hf];exact NZ _ hb)) hr⟩
 exact all X.outer (fun _ hb=>hb) I.ok.funs
theorem Inv.stack(I:Inv X ν σ H s):s.heap.FunFrames X.base X.stack:=by
 rcases I.ok.stk with e|⟨e,hf⟩
 ·rw[e];exact I.funs
 ·rw[e];obtain⟨m,hn,_⟩:=I.loc;refine .cons (by rw[I.ok.kind];decide) hf hn ?_ I.funs;exact Heap.get?_none_of_le (Oi I.ok.bsz I.ok.above)
theorem Inv.xC(I:Inv X ν σ H s):∀b∈wC X.stack,b∈X.env.locals :: X.fs:=fun b hb=>by
 rcases I.ok.stk with e|⟨e,hf⟩
 ·rw[e] at hb;exact NZ _ hb
 ·rw[e] at hb;unfold wC at hb;rw[Si,hf] at hb;exact hb
theorem Inv.xD(I:Inv X ν σ H s):∀b∈wC X.stack,H b=none:=fun b hb=>by
 rcases Od.mp (I.xC b hb) with e|hb
 ·rw[e];exact I.free
 ·obtain⟨_,o,ho,_⟩:=I.ok.funs.mem hb;exact I.base.free b o ho (I.ok.frf b hb) fun z=>I.ok.exfs b z hb
theorem Inv.step{g':Array XR}{t':Nat}{d':Drawn}{ch:List Addr}(I:Inv X ν σ H s)
  (hch:∀b∈ch,(b∈X.ex\/X.s₀.heap.objs.size<=b)/\b≠X.env.locals/\(∀x c,X.env.cells.lookup x=some c->c≠b)/\∀p∈X.pn++ν,p.1≠b)
  (keep:∀b o,b≠X.env.locals->b∉X.fs->b∉ch->s.heap.get? b=some o->H b=none->h'.get? b=some o)
  (slot:∀b o,b≠X.env.locals->b∈X.fs->b∉ch->s.heap.get? b=some o->H b=none->∃sl,h'.get? b=some {o with slots:=sl}) (free:∀b o,b∉ch->s.heap.get? b=some o->H b=none->H' b=none)
  (there:∀b o,b∉ch->s.heap.get? b=some o->∃o',h'.get? b=some o')
  (tups:∀b xs,H b=some (.tup xs)->H' b=some (.tup xs)) (frzs:∀b o u,H b=some (.frz o u)->H' b=some (.frz o u)) (tbls:∀b ps,H b=some (.tbl ps)->∃more,H' b=some (.tbl (ps++more)))
  (ns:∀m,s.heap.Ns X.env.locals m->h'.Ns X.env.locals m) (hok:HOk X.prog X.w H' h') (hg:UB g') :
  Inv X ν σ H' {s with heap:=h',gens:=g',drawn:=d',toks:=t'}:=by
 have neL:∀b o,X.s₀.heap.get? b=some o->b≠X.env.locals:=fun b o e=>Ou (OB (Op e) I.ok.above)
 have neC:∀b o,X.s₀.heap.get? b=some o->b∉X.ex->b∉ch:=fun b o e hx hb=>by
  rcases (hch b hb).1 with z|z
  ·exact hx z
  ·exact absurd (OB (Op e) z) (Rf _)
 have cellK:∀x c,X.env.cells.lookup x=some c->∀v,s.heap.IsCell c v->h'.IsCell c v:=fun x c e v ⟨o,ho,hd⟩=>by
  have nch:c∉ch:=fun z=>(hch c z).2.2.1 x c e rfl
  by_cases hc:c∈X.fs
  ·obtain⟨sl,q⟩:=slot c o (I.cne x c e) hc nch ho (I.freeC x c e);exact⟨_,q,hd⟩
  ·exact⟨o,keep c o (I.cne x c e) hc nch ho (I.freeC x c e),hd⟩
 refine⟨I.ok,I.os,hg,⟨fun b o e n hb hx=>?_,fun b o e n hb hx=>?_,fun b o e n hx=>?_,fun b o e hx=>?_,fun b xs e=>tups b xs (I.base.tups b xs e),fun b o xs e=>frzs b o xs (I.base.frzs b o xs e),fun b ps e=>?_⟩,?_,fun x c e=>?_,?_,fun x c e=>?_,fun p hp=>?_,hok,I.len⟩
 ·exact keep b o (neL b o e) hb (neC b o e hx) (I.base.keep b o e n hb hx) (I.base.free b o e n hx)
 ·obtain⟨sl,e1⟩:=I.base.slot b o e n hb hx;obtain⟨sl',e2⟩:=slot b _ (neL b o e) hb (neC b o e hx) e1 (I.base.free b o e n hx);exact⟨sl',e2⟩
 ·obtain⟨o',e1⟩:=I.base.there b o e hx;exact free b o' (neC b o e hx) e1 (I.base.free b o e n hx)
 ·obtain⟨o',e1⟩:=I.base.there b o e hx;exact there b o' (neC b o e hx) e1
 ·obtain⟨m1,e1⟩:=I.base.tbls b ps e;obtain⟨m2,e2⟩:=tbls b _ e1;exact⟨m1++m2,by rw[e2,Array.append_assoc]⟩
 ·obtain⟨m,hn,hl⟩:=I.loc;refine⟨m,ns m hn,fun i x v e1 e2 e3=>?_⟩;obtain⟨u,r,l⟩:=hl i x v e1 e2 e3;refine⟨u,r,?_⟩;rcases l with l|⟨k,c,e,z⟩
  ·exact .inl l
  ·exact .inr ⟨k,c,e,cellK x c e _ z⟩
 ·obtain⟨v,z⟩:=I.cell x c e;exact⟨v,cellK x c e v z⟩
 ·obtain⟨m,⟨o,_,_,ho,_⟩,_⟩:=I.loc;exact free _ o (fun z=>(hch _ z).2.1 rfl) ho I.free
 ·obtain⟨v,o,ho,hd⟩:=I.cell x c e;exact free c o (fun z=>(hch c z).2.2.1 x c e rfl) ho (I.freeC x c e)
 ·obtain⟨e,n,ne,nf,d⟩:=I.pin p hp;have nch:p.1∉ch:=fun z=>(hch p.1 z).2.2.2 p hp rfl
  exact⟨keep p.1 p.2 ne nf nch e n,free p.1 p.2 nch e n,ne,nf,d⟩
theorem Inv.un{t':Nat}(I:Inv X ν σ H s)(u:Un X.fs [] H H' s.heap h')(hok:HOk X.prog X.w H' h'):Inv X ν σ H' {s with heap:=h',toks:=t'}:=by
 obtain⟨m,⟨o,es,ep,ho,r⟩,_⟩:=id I.loc;obtain⟨sl,hL⟩:=u.any ho I.free (by simp)
 exact I.step (g':=s.gens) (d':=s.drawn) (ch:=[]) (fun _ z=>nomatch z) (fun b o _ hb _ e n=>u.keep b o e n hb (by simp)) (fun b o _ hb _ e n=>u.slot b o e n hb (by simp)) (fun b o _ e n=>u.free b o e n (by simp)) (fun b o _ e=>u.there b o e (by simp)) u.tups u.frzs u.tbls (fun m' hm=>by
  obtain⟨o',es',ep',ZL,r'⟩:=hm
  rw[ho] at ZL;cases ZL
  exact⟨_,es',ep',hL,r'⟩) hok I.bare
theorem Inv.call{t':Nat}{d':Drawn}(I:Inv X ν σ H s)(u:Un (wC X.stack) ch H H' s.heap h')(hok:HOk X.prog X.w H' h')(hg:UB g')
  (hch:∀b∈ch,(b∈X.ex\/X.s₀.heap.objs.size<=b)/\b≠X.env.locals/\(∀x c,X.env.cells.lookup x=some c->c≠b)/\∀p∈X.pn++ν,p.1≠b) :
  Inv X ν σ H' {s with heap:=h',gens:=g',drawn:=d',toks:=t'}:=by
 obtain⟨m,⟨o,es,ep,ho,r⟩,_⟩:=id I.loc;obtain⟨sl,hL⟩:=u.any ho I.free fun z=>(hch _ z).2.1 rfl
 exact I.step (ch:=ch) hch (fun b o hL hb hc e n=>u.keep b o e n (fun z=>(Od.mp (I.xC b z)).elim hL hb) hc) (fun b o _ _ hc e n=>u.any e n hc) (fun b o hc e n=>u.free b o e n hc) (fun b o hc e=>u.there b o e hc) u.tups u.frzs u.tbls (fun m' hm=>by
  obtain⟨o',es',ep',ZL,r'⟩:=hm
  rw[ho] at ZL;cases ZL
  exact⟨_,es',ep',hL,r'⟩) hok hg
theorem Inv.turned{t':Nat}{it:Addr}(I:Inv X ν σ H s)(k:∀b o,b≠it->s.heap.get? b=some o->h'.get? b=some o)(hn:H it=none)(hL:it≠X.env.locals)
  (h1:it∈X.ex\/X.s₀.heap.objs.size<=it) (h2:∀x c,X.env.cells.lookup x=some c->c≠it) (h3:∀p∈X.pn++ν,p.1≠it):Inv X ν σ H {s with heap:=h',toks:=t'}:=by
 have nit:∀b u,H b=some u->b≠it:=fun b u e z=>by rw[z,hn] at e;cases e
 refine I.step (g':=s.gens) (d':=s.drawn) (ch:=[it]) (fun b hb=>?_) (fun b o _ _ hc e _=>k b o (fun z=>hc (by simp[z])) e) (fun b o _ _ hc e _=>⟨o.slots,k b o (fun z=>hc (by simp[z])) e⟩) (fun _ _ _ _ n=>n)
  (fun b o hc e=>⟨o,k b o (fun z=>hc (by simp[z])) e⟩) (fun _ _ e=>e) (fun _ _ _ e=>e) (fun b ps e=>⟨#[],by rw[e];simp⟩) (fun m hm=>?_) (fun b u e=>?_) I.bare
 ·have e:b=it:=by simpa using hb
  subst e;exact⟨h1,hL,h2,h3⟩
 ·obtain⟨o,es,ep,ho,r⟩:=hm;exact⟨o,es,ep,k _ o (SW hL) ho,r⟩
 ·refine(I.hok b u e).stay (fun c v hc q=>k c v ?_ q) (fun _ q=>q) fun _ _ q=>q
  rcases hc with z|z
  ·rw[z];exact nit b u e
  ·exact nit c _ z
theorem Inv.tok(I:Inv X ν σ H s)(t:Nat):Inv X ν σ H {s with toks:=t}:=I.un (h':=s.heap) (t':=t) Un.refl I.hok
theorem Inv.kept{t':Nat}(I:Inv X ν σ H s)(k:∀b u,s.heap.get? b=some u->h'.get? b=some u):Inv X ν σ H {s with heap:=h',toks:=t'}:=I.un (Un.kept k) (I.hok.kept k)
theorem Inv.laid{a:Addr}{t':Nat}(I:Inv X ν σ H s)(k:∀b u,s.heap.get? b=some u->h'.get? b=some u)(hp:s.heap.objs.size<=a)(new:b9 X.prog X.w (upd H a o) h' a o) :
  Inv X ν σ (upd H a o) {s with heap:=h',toks:=t'}:=I.un (Un.laid k hp (I.hok.fresh hp)) (I.hok.laid k hp new)
theorem Inv.write{e:Addr}{t':Nat}(I:Inv X ν σ H s)(mu:Lx (H x))(he:e=x\/H e=some (.own x))(k:∀b u,b≠e->s.heap.get? b=some u->h'.get? b=some u)(heo:∃u,h'.get? e=some u)
  (new:b9 X.prog X.w (upd H x o) h' x o):Inv X ν σ (upd H x o) {s with heap:=h',toks:=t'}:=I.un (Un.write mu he k heo) (I.hok.write mu he k heo new)
theorem Inv.yD{ZC:List (Addr×Obj)}(I:Inv X ν σ H s)(h:∀p∈ZC,s.heap.get? p.1=some p.2/\H p.1=none/\p.1≠X.env.locals/\p.1∉X.fs/\∀v,p.2.data≠.cell v):Inv X ZC σ H s :=
 ⟨I.ok,I.os,I.bare,I.base,I.loc,I.cell,I.free,I.freeC,fun p hp=>(N_.mp hp).elim (fun z=>I.pin p (Oe _ z)) (h p),I.hok,I.len⟩
theorem uL{N:List Str}(hN:N.Nodup){i j:Nat}{x:Str}(a:N[i]?=some x)(b:N[j]?=some x):i=j:=by
 obtain⟨h1,e1⟩:=NT.mp a;obtain⟨h2,e2⟩:=NT.mp b;exact(R5 hN).mp (e1.trans e2.symm)
theorem oH{i:Nat}{x:Str}{Q:Unit->N5->Prop}(I:Inv X ν σ H s)(hN:X.N.Nodup)(hi:X.N[i]?=some x)(hx:Loc X.env.scope x)(r:RelV v u)
  (h:∀s',Inv X ν (σ.set i (some v)) H s'->(∃a,Qx a s.heap s'.heap/\(a=X.env.locals\/X.env.cells.lookup x=some a))->Q () s') (hf:X.fn x=true\/X.env.scope.names.lookup x=some .local:=by first|exact .inl rfl|exact .inr rfl|assumption):wpAny M A (storeName X.env x u) Q E s:=by
 obtain⟨m,hn,hl⟩:=id I.loc;have hcls:(X.env.scope.kind == .class || (X.env.scope.kind == .module && X.env.locals != X.env.globals))=false:=by rw[I.ok.kind];rfl
 have hiσ:i<σ.length:=by rw[I.len];exact(NT.mp hi).1
 have cne:=I.cne
 have tracked:∀{a:Addr} {h':Heap},(∃o,s.heap.get? a=some o/\H a=none)->Qx a s.heap h'->HOk X.prog X.w H h':=fun {a h'} ha hs b ob e=>by
  obtain⟨_,_,Z3⟩:=ha;refine(I.hok b ob e).stay (fun c w' hc q=>(hs.2 c ?_).trans q) (fun _ q=>q) fun _ _ q=>q
  rintro rfl;rcases hc with rfl|hc
  ·rw[Z3] at e;cases e
  ·rw[Z3] at hc;cases hc
 rcases hx with hk|hk
 ·refine wpAny_storeName_local hk hn (fun h' hn' hs=>?_) hcls;obtain⟨oL,_,_,hoL,_⟩:=id hn;refine h _ ⟨I.ok,I.os,I.bare,⟨fun b o e n hb hx=>?_,fun b o e n hb hx=>?_,I.base.free,fun b o e hx=>?_,I.base.tups,I.base.frzs,I.base.tbls⟩,⟨_,hn',fun j y v' e1 e2 e3=>?_⟩,fun y c e=>?_,I.free,I.freeC,fun p hp=>?_,tracked ⟨oL,hoL,I.free⟩ hs,by simpa using I.len⟩ ⟨_,hs,.inl rfl⟩
  ·exact(hs.2 b (Ou (OB (Op e) I.ok.above))).trans (I.base.keep b o e n hb hx)
  ·obtain⟨sl,e1⟩:=I.base.slot b o e n hb hx;exact⟨sl,(hs.2 b (Ou (OB (Op e) I.ok.above))).trans e1⟩
  ·obtain⟨o',e1⟩:=I.base.there b o e hx;exact⟨o',(hs.2 b (Ou (OB (Op e) I.ok.above))).trans e1⟩
  ·by_cases hj:j=i
   ·subst hj;rw[hi] at e1;cases e1;rw[Vg hiσ] at e2;cases e2;exact⟨u,r,.inl ⟨hk,by simp⟩⟩
   ·rw[VL (SW hj)] at e2;obtain⟨u',r',q⟩:=hl j y v' e1 e2 e3;refine⟨u',r',?_⟩;rcases q with⟨k,e⟩|⟨k,c,e,z⟩
    ·refine .inl ⟨k,?_⟩
     have:y≠x:=fun e=>hj (uL hN e1 (e ▸ hi))
     simp[this,e]
    ·exact .inr ⟨k,c,e,z.sameBut hs (cne y c e)⟩
  ·obtain⟨w',z⟩:=I.cell y c e;exact⟨w',z.sameBut hs (cne y c e)⟩
  ·obtain⟨e,n,ne,nf,d⟩:=I.pin p hp;exact⟨(hs.2 p.1 ne).trans e,n,ne,nf,d⟩
 ·have hfn:X.fn x=true:=by
   rcases hf with z|z
   ·exact z
   ·rw[z] at hk;cases hk
  obtain⟨c,hc⟩:=I.ok.has x (.inl hk);obtain⟨w',z⟩:=I.cell x c hc;refine wpAny_storeName_cell I.ok.kind hk hc z (fun h' Yz hs=>?_);obtain⟨oc,hoc,hocd⟩:=id z;refine h {s with heap:=h'} ⟨I.ok,I.os,I.bare,⟨fun b o e n hb hx=>?_,fun b o e n hb hx=>?_,I.base.free,fun b o e hx=>?_,I.base.tups,I.base.frzs,I.base.tbls⟩,⟨m,hn.sameBut hs (SW (cne x c hc)),fun j y v' e1 e2 e3=>?_⟩,fun y c' e=>?_,I.free,I.freeC,fun p hp=>?_,tracked ⟨oc,hoc,I.freeC x c hc⟩ hs,by simpa using I.len⟩ ⟨c,hs,.inr hc⟩
  ·exact(hs.2 b (Ou (OB (Op e) (I.ok.cab x c hfn hc)))).trans (I.base.keep b o e n hb hx)
  ·obtain⟨sl,e1⟩:=I.base.slot b o e n hb hx;exact⟨sl,(hs.2 b (Ou (OB (Op e) (I.ok.cab x c hfn hc)))).trans e1⟩
  ·obtain⟨o',e1⟩:=I.base.there b o e hx;exact⟨o',(hs.2 b (Ou (OB (Op e) (I.ok.cab x c hfn hc)))).trans e1⟩
  ·by_cases hj:j=i
   ·subst hj;rw[hi] at e1;cases e1;rw[Vg hiσ] at e2;cases e2;exact⟨u,r,.inr ⟨.inl hk,c,hc,Yz⟩⟩
   ·rw[VL (SW hj)] at e2;obtain⟨u',r',q⟩:=hl j y v' e1 e2 e3;refine⟨u',r',?_⟩;rcases q with q|⟨k,c',e,z'⟩
    ·exact .inl q
    ·refine .inr ⟨k,c',e,z'.sameBut hs ?_⟩;rintro rfl;exact hj (uL hN e1 (I.ok.inj _ _ _ e hc ▸ hi))
  ·by_cases hcc:c'=c
   ·subst hcc;exact⟨_,Yz⟩
   ·obtain⟨w2,z2⟩:=I.cell y c' e;exact⟨w2,z2.sameBut hs hcc⟩
  ·obtain⟨e,n,ne,nf,d⟩:=I.pin p hp;refine⟨(hs.2 p.1 ?_).trans e,n,ne,nf,d⟩;intro q;rw[q,hoc] at e;have q':oc=p.2:=Oq e;exact d w' (by rw[<- q'];exact hocd)
theorem iQ{i:Nat}{x:Str}{Q:Unit->N5->Prop}(I:Inv X ν σ H s)(hN:X.N.Nodup)(hi:X.N[i]?=some x)(hx:Loc X.env.scope x)(r:RelV v u)
  (h:∀s',Inv X ν (σ.set i (some v)) H s'->Q () s') (hf:X.fn x=true\/X.env.scope.names.lookup x=some .local:=by first|exact .inl rfl|exact .inr rfl|assumption):wpAny M A (storeName X.env x u) Q E s :=
 oH I hN hi hx r (fun s' I' _=>h s' I') hf
theorem Inv.call'{s':N5}(I:Inv X ν σ H s)(ho:s'.os=s.os)(u:Un (wC X.stack) ch H H' s.heap s'.heap)(hok:HOk X.prog X.w H' s'.heap)(hg:UB s'.gens)
  (hch:∀b∈ch,(b∈X.ex\/X.s₀.heap.objs.size<=b)/\b≠X.env.locals/\(∀x c,X.env.cells.lookup x=some c->c≠b)/\∀p∈X.pn++ν,p.1≠b):Inv X ν σ H' s':=by
 obtain⟨h',g',d',t',o'⟩:=s';have e:o'=s.os:=ho;subst e;exact I.call (g':=g') (t':=t') (d':=d') u hok hg hch
end
noncomputable abbrev XK:=NY->Option Addr->Hp->Prop
noncomputable abbrev St:=List (Option V)
noncomputable abbrev VK:=V->Hp->Prop
noncomputable abbrev TE:=St->Hp->VK->Prop
noncomputable abbrev TT:=St->Hp->(Bool->Hp->Prop)->Prop
noncomputable abbrev TA:=St->Hp->(List V->Hp->Prop)->Prop
structure cx where
 nx:St->Hp->Prop
 rt:VK
 bk:St->Hp->Prop:=fun _ _=>False
 ct:St->Hp->Prop:=fun _ _=>False
noncomputable abbrev TS:=cx->St->Hp->Prop
noncomputable def EP(X:Cx)(ν:List (Addr×Obj))(σ:St)(Q:VK)(u:NY)(s':N5):Prop:=∃v H',Inv X ν σ H' s'/\RelV v u/\Q v H'
noncomputable def TP(X:Cx)(ν:List (Addr×Obj))(σ:St)(Q:Bool->Hp->Prop)(b:Bool)(s':N5):Prop:=∃H',Inv X ν σ H' s'/\Q b H'
noncomputable def AP(X:Cx)(ν:List (Addr×Obj))(σ:St)(Q:List V->Hp->Prop)(us:List NY)(s':N5):Prop:=∃vs H',Inv X ν σ H' s'/\Vals vs us/\Q vs H'
noncomputable def SP(X:Cx)(ν:List (Addr×Obj))(D:cx)(f:Flow)(s':N5):Prop :=
 match f with
 |.next=>∃σ' H',Inv X ν σ' H' s'/\D.nx σ' H'
 |.brk=>∃σ' H',Inv X ν σ' H' s'/\D.bk σ' H'
 |.cont=>∃σ' H',Inv X ν σ' H' s'/\D.ct σ' H'
 |.ret u=>∃v σ' H',Inv X ν σ' H' s'/\RelV v u/\D.rt v H'
noncomputable def PE(X:Cx)(e:Expr)(t:TE):Prop :=
 ∀(ν:List (Addr×Obj)) (s:N5) (σ:St) (H:Hp) (Q:VK),Inv X ν σ H s->t σ H Q->wpAny (model X.prog X.w) X.A (eval e X.env) (EP X ν σ Q) X.xe s
noncomputable def PT(X:Cx)(e:Expr)(t:TT):Prop :=
 ∀(ν:List (Addr×Obj)) (s:N5) (σ:St) (H:Hp) (Q:Bool->Hp->Prop),Inv X ν σ H s->t σ H Q->wpAny (model X.prog X.w) X.A (isTrue e X.env (eval e X.env)) (TP X ν σ Q) X.xe s
noncomputable def PW(X:Cx)(e:Expr)(t:TT):Prop :=
 ∀(whole:Sem NY) (ν:List (Addr×Obj)) (s:N5) (σ:St) (H:Hp) (Q:Bool->Hp->Prop),Inv X ν σ H s->t σ H Q->wpAny (model X.prog X.w) X.A (isTrue e X.env whole) (TP X ν σ Q) X.xe s
theorem PW.pt(h:PW X e t):PT X e t:=h _
noncomputable def PA(X:Cx)(es:List Expr)(t:TA):Prop :=
 ∀(pos:Pos) (ν:List (Addr×Obj)) (s:N5) (σ:St) (H:Hp) (Q:List V->Hp->Prop),Inv X ν σ H s->t σ H Q->wpAny (model X.prog X.w) X.A (spliced (backTo pos (starEach es X.env))) (AP X ν σ Q) X.xe s
noncomputable def PS(X:Cx)(st:Stmt)(t:TS):Prop :=
 ∀(ν:List (Addr×Obj)) (s:N5) (σ:St) (H:Hp) (D:cx),Inv X ν σ H s->t D σ H->wpAny (model X.prog X.w) X.A (exec st X.env) (SP X ν D) X.xe s
noncomputable def PSs(X:Cx)(st:List Stmt)(t:TS):Prop :=
 ∀(ν:List (Addr×Obj)) (s:N5) (σ:St) (H:Hp) (D:cx),Inv X ν σ H s->t D σ H->wpAny (model X.prog X.w) X.A (execs st X.env) (SP X ν D) X.xe s
theorem bg{α:Type}{t:Sem α}{Q Q':α->N5->Prop}(h:wpAny M A t Q E s)(hQ:∀a s,Q a s->Q' a s):wpAny M A t Q' E s:=O_ h hQ fun _ _ x=>x
section
variable{X:Cx}
noncomputable def aa(i:Nat):TE:=fun σ H Q=>∃v,σ[i]?=some (some v)/\Q v H
noncomputable def tC(v:V):TE:=fun _ H Q=>Q v H
theorem Jk{i:Nat} {x:Str}  (hN:X.N[i]?=some x) (hv:LO X.env.scope x) (hd:(x == ("__debug__":Str))=false:=by decide) (hcd:(x == ("__classdict__":Str))=false:=by decide):PE X (.Name x pos) (aa i):=by
 intro ν s σ H Q I h;obtain⟨v,e,h⟩:=h;obtain⟨m,hn,hl⟩:=I.loc;obtain⟨u,r,l⟩:=hl i x v hN e hv;have fin:EP X ν σ Q u s:=⟨v,H,I,r,h⟩
 rcases l with⟨hk,hm⟩|⟨hk,c,hc,Z1⟩
 ·exact wpAny_Name (wpAny_loadName_local I.ok.kind hk hn hm fin) hd
 ·rcases hk with hk|hk
  ·exact wpAny_Name (wpAny_loadName_cell I.ok.kind hk hc Z1 fin) hd
  ·exact wpAny_Name (wpAny_loadName_free I.ok.kind hk hc Z1 fin hcd) hd
theorem Jt{i j pos}:PE X (.Constant (.int i) j pos) (tC (.int i)):=fun _ _ _ H _ I h=>wpAny_Constant_int ⟨.int i,H,I.tok _,⟨_,rfl⟩,h⟩
theorem Mf{b j pos}:PE X (.Constant (.bool b) j pos) (tC (.bl b)):=fun _ _ _ H _ I h=>Constant_bool ⟨.bl b,H,I,rfl,h⟩
theorem Jp{j pos}:PE X (.Constant .none j pos) (tC .non):=fun _ _ _ H _ I h=>Constant_none ⟨.non,H,I,rfl,h⟩
theorem Jm{x j pos}:PE X (.Constant (.str x) j pos) (tC (.str x)):=fun _ _ _ H _ I h=>Calls.Constant_str ⟨.str x,H,I.tok _,⟨_,rfl⟩,h⟩
noncomputable def Gl(X:Cx)(x:Str):Prop:=X.env.kindOf x=some .globalImplicit
theorem zo{H:Hp}{u:NY}{Q:NY->N5->Prop}(I:Inv X ν σ H s)(hg:Gl X x)(hm:X.mg x=some u)(h:Q u s)
  (hd:(x == ("__debug__":Str))=false:=by decide):wpAny (model X.prog X.w) X.A (eval (.Name x pos) X.env) Q E s :=
 Um I.ok.kind hg (Calls.loadGlobal_global (by rw[I.ok.glob];exact I.mod.glob.keeps I.bk) hm h) hd
theorem f7{H:Hp}{u:NY}{Q:NY->N5->Prop}(I:Inv X ν σ H s)(hg:Gl X x)(hm:X.mg x=none)(hv:bootBuiltins x=some u)(h:Q u s)
  (hn:x≠"__name__":=by decide) (hd:(x == ("__debug__":Str))=false:=by decide):wpAny (model X.prog X.w) X.A (eval (.Name x pos) X.env) Q E s:=by
 obtain⟨mb,h1,h2⟩:=I.mod.blt;exact Um I.ok.kind hg (Calls.loadGlobal_builtin (by rw[I.ok.glob];exact I.mod.glob.keeps I.bk) hm (by rw[I.ok.blt];exact h1.keeps I.bk) ((h2 x hn).trans hv) h) hd
theorem yI{u:NY}  (hg:Gl X x) (hm:X.mg x=some u) (r:RelV v u) (hd:(x == ("__debug__":Str))=false:=by decide):PE X (.Name x pos) (tC v) :=
 fun _ _ _ H _ I h=>zo I hg hm ⟨v,H,I,r,h⟩ hd
theorem jy{u:NY}  (hg:Gl X x) (hm:X.mg x=none) (hv:bootBuiltins x=some u) (r:RelV v u) (hn:x≠"__name__":=by decide) (hd:(x == ("__debug__":Str))=false:=by decide):PE X (.Name x pos) (tC v) :=
 fun _ _ _ H _ I h=>f7 I hg hm hv ⟨v,H,I,r,h⟩ hn hd
variable{a b:Expr}{ta tb:TE}{pos:Pos}
noncomputable def PC(X:Cx)(op:CmpOp)(a b:Expr)(t:TE):Prop :=
 ∀(ν:List (Addr×Obj)) (s:N5) (σ:St) (H:Hp) (Q:VK),Inv X ν σ H s->t σ H Q ->
  wpAny (model X.prog X.w) X.A (eval a X.env) (fun v s₁=>wpAny (model X.prog X.w) X.A (eval b X.env) (fun u s₂=>wpAny (model X.prog X.w) X.A (compareOp op v u) (EP X ν σ Q) X.xe s₂) X.xe s₁) X.xe s
noncomputable def tB(t:TE):TT:=fun σ H Q=>t σ H fun x H1=>∃c,x=.bl c/\Q c H1
theorem I0(h:PC X op a b t)(h1:behindInMarks op b=false:=by first|exact nobehind _ (by decide) (by decide)|rfl):PT X (.Compare a [op] [b] pos) (tB t):=by
 intro ν s σ H Q I hw;refine VA (bg (h ν s σ H _ I hw) fun v s1 h1=>bg h1 fun u s2 h2=>bg h2 fun c s3 ⟨x,H1,I1,r1,q1⟩=>?_) h1;obtain⟨d,rfl,q⟩:=q1;cases r1;exact Qj ⟨H1,I1,q⟩
theorem IX(h:PE X e t)(he:∀whole,isTrue e X.env whole=(do let v <- whole;standAt e.pos;holding [v] (truthy v)):=by intro _;rfl):PT X e (tB t):=by
 intro ν s σ H Q I hw;refine isTrue_plain (bg (h ν s σ H _ I hw) fun v s1 ⟨x,H1,I1,r1,q1⟩=>?_) (he _);obtain⟨d,rfl,q⟩:=q1;cases r1;exact Qj ⟨H1,I1,q⟩
variable{tA tB':TT}{rest:List Expr}
noncomputable def kn(t u:TT):TT:=fun σ H Q=>t σ H fun c H1=>if c=true then u σ H1 Q else Q false H1
noncomputable def qO(t u:TT):TT:=fun σ H Q=>t σ H fun c H1=>if c=true then Q true H1 else u σ H1 Q
noncomputable def fR(t:TT):TT:=fun σ H Q=>t σ H fun c H1=>Q (!c) H1
theorem pw_and1(ha:PT X a tA):PW X (.BoolOp .And [a] pos) tA:=by
 intro wh ν s σ H Q I h;refine isTrue_and (bg (ha ν s σ H Q I h) fun c s1 e=>?_);cases c with
 |true=>exact isTrue_and_nil e
 |false=>exact e
theorem pw_or1(ha:PT X a tA):PW X (.BoolOp .Or [a] pos) tA:=by
 intro wh ν s σ H Q I h;refine isTrue_or (bg (ha ν s σ H Q I h) fun c s1 e=>?_);cases c with
 |false=>exact isTrue_or_nil e
 |true=>exact e
theorem pw_and(ha:PT X a tA)(hb:PW X (.BoolOp .And (b :: rest) pos) tB'):PW X (.BoolOp .And (a :: b :: rest) pos) (kn tA tB'):=by
 intro wh ν s σ H Q I h;refine isTrue_and (bg (ha ν s σ H _ I h) fun c s1 ⟨H1,I1,q1⟩=>?_);cases c with
 |true=>exact hb wh ν s1 σ H1 Q I1 q1
 |false=>exact⟨H1,I1,q1⟩
theorem pw_or(ha:PT X a tA)(hb:PW X (.BoolOp .Or (b :: rest) pos) tB'):PW X (.BoolOp .Or (a :: b :: rest) pos) (qO tA tB'):=by
 intro wh ν s σ H Q I h;refine isTrue_or (bg (ha ν s σ H _ I h) fun c s1 ⟨H1,I1,q1⟩=>?_);cases c with
 |true=>exact⟨H1,I1,q1⟩
 |false=>exact hb wh ν s1 σ H1 Q I1 q1
theorem IY(ha:PT X a tA):PT X (.UnaryOp .Not a pos) (fR tA):=by
 intro ν s σ H Q I h;exact isTrue_not (ha ν s σ H (fun c H1=>Q (!c) H1) I h)
noncomputable def cZ(ta tb:TE):TE:=fun σ H Q=>ta σ H fun x H1=>∃c,x=.bl c/\if c=true then tb σ H1 Q else Q (.bl false) H1
noncomputable def mn(ta:TE):TE:=fun σ H Q=>ta σ H fun x H1=>∃c,x=.bl c/\Q (.bl (!c)) H1
theorem Jn{op}(h:PE X a t):PE X (.BoolOp op [a] pos) t:=fun ν s σ H Q I hw=>BoolOp_one (h ν s σ H Q I hw)
theorem Ju(ha:PE X a ta)(hb:PE X (.BoolOp .And (b :: rest) pos) tb):PE X (.BoolOp .And (a :: b :: rest) pos) (cZ ta tb):=by
 intro ν s σ H Q I h;refine BoolOp_and (bg (ha ν s σ H _ I h) fun v s1 ⟨x,H1,I1,r1,q1⟩=>?_);obtain⟨c,rfl,q1⟩:=q1;cases r1;refine Qj ?_;cases c with
 |true=>exact hb ν s1 σ H1 Q I1 q1
 |false=>exact⟨.bl false,H1,I1,rfl,q1⟩
theorem Jo(ha:PE X a ta):PE X (.UnaryOp .Not a pos) (mn ta):=by
 intro ν s σ H Q I h;refine UnaryOp_ (bg (ha ν s σ H _ I h) fun v s1 ⟨x,H1,I1,r1,q1⟩=>?_);obtain⟨c,rfl,q1⟩:=q1;cases r1;exact not_of (Qj ⟨.bl (!c),H1,I1,rfl,q1⟩)
noncomputable def Ii(t:TT)(ta tb:TE):TE:=fun σ H Q=>t σ H fun c H1=>if c=true then ta σ H1 Q else tb σ H1 Q
theorem CF(hc:PT X c tA)(ha:PE X a ta)(hb:PE X b tb):PE X (.IfExp c a b pos) (Ii tA ta tb):=by
 intro ν s σ H Q I h;refine wpAny_IfExp (bg (hc ν s σ H _ I h) fun d s1 ⟨H1,I1,q1⟩=>?_);cases d with
 |true=>exact ha ν s1 σ H1 Q I1 q1
 |false=>exact hb ν s1 σ H1 Q I1 q1
end
noncomputable def SqL(K:Fg)(H:Hp)(a:Addr)(xs:List V):Prop :=
 Rd H a (.lst xs) \/
  ∃(o:Obj) (dk:Array NY) (n:Nat),K.lookup a=some o/\o.cls=.type "list"/\o.dict=none/\o.data=.seq dk n/\dk.size<=sizeLine/\Vals xs dk.toList
noncomputable def SqT(K:Fg)(H:Hp)(a:Addr)(xs:List V):Prop :=
 Rd H a (.tup xs) \/
  ∃(o:Obj) (dk:Array NY) (n:Nat),K.lookup a=some o/\o.cls=.type "tuple"/\o.data=.seq dk n/\dk.size<=sizeLine/\Vals xs dk.toList
noncomputable def Nk:NY->Option V
 |.none=>some .non
 |.bool b=>some (.bl b)
 |.int i _=>some (.int i)
 |.str x _=>some (.str x)
 |.bytes b _=>some (.byt b)
 |.float b _=>some (.flt b)
 |.ref a=>some (.ref a)
 |.type n=>some (.ty n)
 |_=>none
theorem RelV.abs(r:RelV x u):Nk u=some x:=by
 cases x with
 |non=>cases r;rfl
 |bl _=>cases r;rfl
 |int _=>obtain⟨t,rfl⟩:=r;rfl
 |str _=>obtain⟨t,rfl⟩:=r;rfl
 |byt _=>obtain⟨t,rfl⟩:=r;rfl
 |flt _=>obtain⟨t,rfl⟩:=r;rfl
 |ref _=>cases r;rfl
 |ty _=>cases r;rfl
theorem RelV.inj(r:RelV x u)(q:RelV y u):x=y:=Oq (r.abs.symm.trans q.abs)
theorem Vals.inj:∀{xs ys:List V} {us:List NY},Vals xs us->Vals ys us->xs=ys
 |_,_,_,.nil,.nil=>rfl
 |_,_,_,.cons r t,.cons r' t'=>by rw[r.inj r',Vals.inj t t']
section
variable{X:Cx}{ν:List (Addr×Obj)}{σ:St}{H:Hp}{s:N5}{a:Addr}{xs ys:List V}
theorem SqL.of{K:Fg}(h:H a=some (.lst xs)):SqL K H a xs:=.inl (.inl h)
theorem SqT.of{K:Fg}(h:H a=some (.tup xs)):SqT K H a xs:=.inl (.inl h)
theorem Inv.list(I:Inv X ν σ H s)(h:SqL X.K H a xs):∃dk:List NY,Vals xs dk/\PlainL s.heap a dk.toArray/\xs.length<=sizeLine:=by
 rcases h with h|⟨o,dk,n,hk,hc,hd,hs,hz,r⟩
 ·obtain⟨z,dk,n,r,e⟩:=h.ok I.hok;exact⟨dk,r,⟨_,n,e,rfl,rfl,rfl⟩,z⟩
 ·refine⟨dk.toList,r,⟨o,n,I.kIn a o hk,hc,hd,by simpa using hs⟩,?_⟩;have e:=r.length;simp only[OJ] at e;lia
theorem Inv.tuple(I:Inv X ν σ H s)(h:SqT X.K H a xs):∃dk:List NY,Vals xs dk/\IsTup s.heap a dk.toArray/\xs.length<=sizeLine:=by
 rcases h with h|⟨o,dk,n,hk,hc,hs,hz,r⟩
 ·obtain⟨z,dk,r,p⟩:=h.ok I.hok;exact⟨dk,r,p.tup,z⟩
 ·refine⟨dk.toList,r,⟨o,I.kIn a o hk,hc,n,by simpa using hs⟩,?_⟩;have e:=r.length;simp only[OJ] at e;lia
theorem Inv.nu(I:Inv X ν σ H s)(h:SqL X.K H a xs)(h':SqL X.K H a ys):xs=ys:=by
 obtain⟨dk,r,⟨o,n,e,_,_,d⟩,_⟩:=I.list h;obtain⟨its',r',⟨o',n',e',_,_,d'⟩,_⟩:=I.list h';rw[e] at e';cases e';rw[d] at d';injection d' with d1 _
 have:dk=its':=by simpa using congrArg Array.toList d1
 subst this;exact r.inj r'
theorem Inv.oE(I:Inv X ν σ H s)(h:SqT X.K H a xs)(h':SqT X.K H a ys):xs=ys:=by
 obtain⟨dk,r,⟨o,e,_,n,d⟩,_⟩:=I.tuple h;obtain⟨its',r',⟨o',e',_,n',d'⟩,_⟩:=I.tuple h';rw[e] at e';cases e';rw[d] at d';injection d' with d1 _
 have:dk=its':=by simpa using congrArg Array.toList d1
 subst this;exact r.inj r'
end
noncomputable abbrev Cx.wish(X:Cx)(E:NY->N5->Prop):Cx:={X with xe:=E}
noncomputable abbrev Cx.nox(X:Cx):Cx:=X.wish fun _ _=>False
theorem Cx.Ok.wish{X:Cx}(ok:X.Ok)(E:NY->N5->Prop):(X.wish E).Ok :=
 ⟨ok.mod,ok.kind,ok.glob,ok.blt,ok.above,ok.inj,ok.has,ok.cab,ok.hd,ok.frames,ok.stk,ok.exf,ok.bs,ok.bsz,ok.noex,ok.exfs,ok.funs,ok.frf⟩
theorem Cx.Ok.io{X:Cx}(ok:(X.wish E).Ok):X.Ok :=
 ⟨ok.mod,ok.kind,ok.glob,ok.blt,ok.above,ok.inj,ok.has,ok.cab,ok.hd,ok.frames,ok.stk,ok.exf,ok.bs,ok.bsz,ok.noex,ok.exfs,ok.funs,ok.frf⟩
section
variable{X:Cx}{ν:List (Addr×Obj)}{σ:St}{H:Hp}{s:N5}{E:NY->N5->Prop}
theorem Inv.wish(I:Inv X ν σ H s)(E:NY->N5->Prop):Inv (X.wish E) ν σ H s:=⟨I.ok.wish E,I.os,I.bare,I.base,I.loc,I.cell,I.free,I.freeC,I.pin,I.hok,I.len⟩
theorem Inv.io(I:Inv (X.wish E) ν σ H s):Inv X ν σ H s:=⟨I.ok.io,I.os,I.bare,I.base,I.loc,I.cell,I.free,I.freeC,I.pin,I.hok,I.len⟩
theorem SP.io{D:cx}(h:SP (X.wish E) ν D f s'):SP X ν D f s':=by
 cases f with
 |next=>obtain⟨σ',H',I,q⟩:=h;exact⟨σ',H',I.io,q⟩
 |brk=>obtain⟨σ',H',I,q⟩:=h;exact⟨σ',H',I.io,q⟩
 |cont=>obtain⟨σ',H',I,q⟩:=h;exact⟨σ',H',I.io,q⟩
 |ret u=>obtain⟨v,σ',H',I,r,q⟩:=h;exact⟨v,σ',H',I.io,r,q⟩
theorem PSs.nox{st:List Stmt}(h:PSs X.nox st t):PSs X st t:=fun ν s σ H D I hw =>
 O_ (h ν s σ H D (I.wish _) hw) (fun _ _ q=>q.io) fun _ _ z=>Rt z
end
section
variable{X:Cx}{st:Stmt}{rest:List Stmt}{t u:TS}{e:Expr}{te:TE}{pos:Pos}
noncomputable def aO:TS:=fun D σ H=>D.nx σ H
noncomputable def am(t u:TS):TS:=fun D σ H=>t {D with nx:=u D} σ H
theorem Go:PSs X [] aO:=fun _ _ σ H _ I h=>TY ⟨σ,H,I,h⟩
theorem Cw(h1:PS X st t)(h2:PSs X rest u):PSs X (st :: rest) (am t u):=by
 intro ν s σ H D I h;refine wpAny_execs_cons (bg (h1 ν s σ H {D with nx:=u D} I h) fun f s1 q=>?_);cases f with
 |next =>
  obtain⟨σ',H',I',q⟩:=q;exact h2 ν s1 σ' H' D I' q
 |ret v=>exact q
 |brk=>exact q
 |cont=>exact q
theorem Gm(h1:PS X st t):PSs X [st] t:=by
 intro ν s σ H D I h;refine wpAny_execs_cons (bg (h1 ν s σ H D I h) fun f s1 q=>?_);cases f with
 |next=>exact TY q
 |ret v=>exact q
 |brk=>exact q
 |cont=>exact q
theorem Inv.quiet{H:Hp}(I:Inv X ν σ H s):interactive X.env=false:=by simp[interactive,I.ok.kind]
noncomputable def bE(te:TE):TS:=fun D σ H=>te σ H fun _ H1=>D.nx σ H1
theorem Gp(he:PE X e te)(hs:swapsWith e none pos.line X.env=pure false:=by rfl):PS X (.Expr e pos) (bE te):=by
 intro ν s σ H D I h;exact wpAny_Expr_any (bg (he ν s σ H _ I h) fun v s1 ⟨x,H1,I1,r1,q1⟩=>⟨σ,H1,I1,q1⟩) I.quiet hs
noncomputable def aA(te:TE):TS:=fun D σ H=>te σ H D.rt
theorem Ja(he:PE X e te):PS X (.Return (some e) pos) (aA te):=by
 intro ν s σ H D I h;exact wpAny_Return_some (bg (he ν s σ H _ I h) fun v s1 ⟨x,H1,I1,r1,q1⟩=>⟨x,σ,H1,I1,r1,q1⟩)
noncomputable def aI(c:TT)(t u:TS):TS:=fun D σ H=>c σ H fun b H1=>if b=true then t D σ H1 else u D σ H1
theorem L_(hc:PT X c tc)(ha:PSs X a t)(hb:PSs X b u):PS X (.If c a b pos) (aI tc t u):=by
 intro ν s σ H D I h;refine wpAny_If (bg (hc ν s σ H _ I h) fun d s1 ⟨H1,I1,q1⟩=>?_);cases d with
 |true=>exact ha ν s1 σ H1 D I1 q1
 |false=>exact hb ν s1 σ H1 D I1 q1
noncomputable def oG:TS:=fun _ _ _=>False
theorem yo:PSs X sts oG:=fun _ _ _ _ _ _ h=>h.elim
end
noncomputable abbrev TG:=V->St->Hp->(St->Hp->Prop)->Prop
noncomputable abbrev DV:=List V->St->Hp->(St->Hp->Prop)->Prop
noncomputable def PG(X:Cx)(target:Expr)(t:TG):Prop :=
 ∀(ν:List (Addr×Obj)) (s:N5) (σ:St) (H:Hp) (v:V) (u:NY) (Q:St->Hp->Prop),Inv X ν σ H s->RelV v u->t v σ H Q ->
  wpAny (model X.prog X.w) X.A (assign target X.env u) (fun _ s'=>∃σ' H',Inv X ν σ' H' s'/\Q σ' H') X.xe s
noncomputable def HQ(X:Cx)(ts:List Expr)(t:DV):Prop :=
 ∀(ν:List (Addr×Obj)) (s:N5) (σ:St) (H:Hp) (vs:List V) (us:List NY) (Q:St->Hp->Prop),Inv X ν σ H s->Vals vs us->t vs σ H Q ->
  wpAny (model X.prog X.w) X.A (assignInOrder ((assignEach ts X.env).map (·.2)) us) (fun _ s'=>∃σ' H',Inv X ν σ' H' s'/\Q σ' H') X.xe s
section
variable{X:Cx}{pos:Pos}
noncomputable def ak(i:Nat):TG:=fun v σ H Q=>Q (σ.set i (some v)) H
theorem yG{i:Nat}{x:Str}(hN:X.N.Nodup)(hi:X.N[i]?=some x)(hx:Loc X.env.scope x)(hf:X.fn x=true\/X.env.scope.names.lookup x=some .local:=by first|exact .inl rfl|exact .inr rfl|assumption):PG X (.Name x pos) (ak i):=by
 intro ν s σ H v u Q I r h;exact wpAny_assign_Name (iQ I hN hi hx r (fun s' I'=>⟨_,H,I',h⟩) hf)
noncomputable def cG:DV:=fun vs σ H Q=>vs=[]/\Q σ H
noncomputable def a7(t:TG)(u:DV):DV:=fun vs σ H Q=>∃v r,vs=v :: r/\t v σ H fun σ' H'=>u r σ' H' Q
theorem Gz:HQ X [] cG:=by
 intro ν s σ H vs us Q I r h;obtain⟨e,h⟩:=h;subst e;cases r;exact assignInOrder_nil ⟨σ,H,I,h⟩
theorem CC(h1:PG X e t)(h2:HQ X es u)
  (hs:(assignEach (e :: es) X.env).map (·.2)=assign e X.env :: (assignEach es X.env).map (·.2):=by rfl):HQ X (e :: es) (a7 t u):=by
 intro ν s σ H vs us Q I r h;obtain⟨v,vr,e1,h⟩:=h;subst e1;cases r with
 |cons r rr =>
  rw[hs];refine Uo (bg (h1 ν s σ H _ _ _ I r h) fun _ s1 ⟨σ1,H1,I1,q1⟩=>?_);exact h2 ν s1 σ1 H1 _ _ Q I1 rr q1
noncomputable def cF(K:Fg)(n:Nat)(t:DV):TG:=fun v σ H Q=>∃a xs,v=.ref a/\SqT K H a xs/\xs.length=n/\t xs σ H Q
theorem Jj{n:Nat}(hc:X.calm=true)(h:HQ X es t)
  (hn:(assignEach es X.env).length=n:=by rfl) (hst:(assignEach es X.env).findIdx? (·.1)=none:=by rfl):PG X (.Tuple es k pos) (cF X.K n t):=by
 intro ν s σ H v u Q I r hw;obtain⟨a,xs,e1,hq,hl,hw⟩:=hw;subst e1;cases r;obtain⟨dk,rv,ht,hz⟩:=I.tuple hq;refine assign_Tuple_tuple (I.ok.hd hc) ht (by simp[hn,<- hl,rv.length]) hst fun h' hx=>?_
 have I1:Inv X ν σ H {s with heap:=h'}:=I.kept (t':=s.toks) fun b o e=>hx b o (Ou (Op e)) e
 exact h ν _ σ H xs _ Q I1 (by simpa using rv) hw
noncomputable def av(te:TE)(g:TG):TS:=fun D σ H=>te σ H fun x H1=>g x σ H1 D.nx
theorem Je(he:PE X e te)(hg:PG X tg g)(hs:swapsWithSole [tg] e pos.line X.env=pure false:=by rfl)(hw:swappedStores [tg] e X.env=pure none:=by rfl)
  (h1:(assignEach [tg] X.env).map (·.2)=[assign tg X.env]:=by rfl):PS X (.Assign [tg] e pos) (av te g):=by
 intro ν s σ H D I h;refine wpAny_Assign_stores (bg (he ν s σ H _ I h) fun v s1 ⟨x,H1,I1,r1,q1⟩=>?_) hs hw;rw[h1];exact bg (hg ν s1 σ H1 x v _ I1 r1 q1) fun _ s2 q=>q
theorem I_{i:Nat}{x:Str}(hN:X.N.Nodup)(hi:X.N[i]?=some x)(hx:Loc X.env.scope x)(he:PE X e te)(hs:swapsWith e (some (.Name x pos')) pos.line X.env=pure false:=by rfl)(hf:X.fn x=true\/X.env.scope.names.lookup x=some .local:=by first|exact .inl rfl|exact .inr rfl|assumption) :
  PS X (.Assign [.Name x pos'] e pos) (av te (ak i)):=by
 intro ν s σ H D I h;refine wpAny_Assign_Name (bg (he ν s σ H _ I h) fun v s1 ⟨y,H1,I1,r1,q1⟩=>?_) hs;exact iQ I1 hN hi hx r1 (fun s2 I2=>⟨_,H1,I2,q1⟩) hf
noncomputable def Ih(i j:Nat)(ta:TA):TS:=fun D σ H=>ta σ H fun vs H1=>∃v w,vs=[v,w]/\D.nx ((σ.set i (some v)).set j (some w)) H1
theorem Jb{i j:Nat}{x y:Str}{a b:Expr}{ta:TA}{pt:Pos}{kt k2 pt2}(hc:X.calm=true)(hN:X.N.Nodup)(hi:X.N[i]?=some x)(hj:X.N[j]?=some y)(hij:i≠j)
  (hx:X.env.scope.names.lookup x=some .local) (hy:X.env.scope.names.lookup y=some .local) (ha:PA X [a,b] ta)
  (hw:swappedStores [.Tuple [.Name x px,.Name y py] kt pt] (.Tuple [a,b] k2 pt2) X.env=pure (some [x,y]))
  (hs:swapsWithSole [.Tuple [.Name x px,.Name y py] kt pt] (.Tuple [a,b] k2 pt2) pos.line X.env=pure false:=by rfl) :
  PS X (.Assign [.Tuple [.Name x px,.Name y py] kt pt] (.Tuple [a,b] k2 pt2) pos) (Ih i j ta):=by
 intro ν s σ H D I h;rw[exec_Assign_arm];refine NU (UP ?_);rw[hs];refine NU (Oc ?_);rw[if_neg (by decide)];refine NU (Tuple_ (bg (ha _ ν s σ H _ I h) fun us s1 ⟨vs,H1,I1,r1,q1⟩=>?_));obtain⟨v,w,e1,q1⟩:=q1;subst e1
 obtain⟨u1,u2,rfl,rv,Zd⟩:∃u1 u2,us=[u1,u2]/\RelV v u1/\RelV w u2:=by
  cases r1 with
  |cons p q =>
   cases q with
   |cons p' q' =>
    cases q';exact⟨_,_,rfl,p,p'⟩
 refine PK ?_ (by show 2<=sizeLine;decide);have I2:Inv X ν σ H1 {s1 with heap:=s1.heap.push {cls:=.type "tuple",data:=.seq [u1,u2].toArray}}:=I1.kept (t':=s1.toks) fun b o e=>N3 _ e
 rw[hw];refine NU (Oc ?_);show wpAny (model X.prog X.w) X.A (do rule "assign.swapped-stores";let items <- unpackItems (.ref s1.heap.objs.size) 2 none;assignInOrder [fun v=>bindName X.env y v,fun v=>bindName X.env x v] items.reverse;pure Flow.next) _ _ _;refine NU (Up (NU (unpackItems_tuple (items:=#[u1,u2]) (I.ok.hd hc) (IsTup.new s1.heap _) fun h' hx'=>?_)));have I3:=I2.kept (h':=h') (t':=s1.toks) fun b o e=>hx' b o (Ou (Op e)) e
 show wpAny _ _ (assignInOrder [fun v=>bindName X.env y v,fun v=>bindName X.env x v] [u2,u1] >>= fun _=>pure Flow.next) _ _ _;refine NU (Uo (wpAny_bindName (iQ I3 hN hj (.inl hy) Zd (fun s2 I4=>?_) (.inr hy))));refine Uo (wpAny_bindName (iQ I4 hN hi (.inl hx) rv (fun s3 I5=>assignInOrder_nil (Oc ?_)) (.inr hx)));rw[List.set_comm _ _ (SW hij)] at I5;exact⟨_,H1,I5,q1⟩
end
section
variable{X:Cx}{pos:Pos}
noncomputable def fV(c:TT)(tb:TS):TS:=fun D σ H=>∃W:Nat->St->Hp->Prop,(∃m,W m σ H)/\∀m σ H,W m σ H ->
 c σ H fun b H1=>if b=true then ∃N:St->Hp->Prop,(∀σ' H',N σ' H'->∃m',m'<m/\W m' σ' H')/\tb {D with nx:=N,ct:=N,bk:=D.nx} σ H1 else D.nx σ H1
theorem Cy(hp:PassesOwn (model X.prog X.w) X.A X.env X.xe)(hc:PT X c tc)(hb:PSs X body tb):PS X (.While c body [] pos) (fV tc tb):=by
 intro ν s σ H D I h;obtain⟨W,⟨m0,w0⟩,turn⟩:=h;refine wpAny_While (codeAny_whileLoop (fun n s'=>∃σ' H',Inv X ν σ' H' s'/\W n σ' H') ?_ m0 ⟨σ,H,I,w0⟩);rintro n s1 ⟨σ1,H1,I1,w1⟩;refine Q2 hp (bg (hc ν s1 σ1 H1 _ I1 (turn n σ1 H1 w1)) fun b s2 ⟨H2,I2,q2⟩=>?_);cases b with
 |true =>
  obtain⟨N,hN,q2⟩:=q2;rw[if_pos rfl];refine Q2 hp (bg (hb ν s2 σ1 H2 _ I2 q2) fun f s3 q3=>?_);cases f with
  |next =>
   obtain⟨σ3,H3,I3,n3⟩:=q3;obtain⟨m',hm,w3⟩:=hN σ3 H3 n3;exact⟨m',hm,σ3,H3,I3,w3⟩
  |cont =>
   obtain⟨σ3,H3,I3,n3⟩:=q3;obtain⟨m',hm,w3⟩:=hN σ3 H3 n3;exact⟨m',hm,σ3,H3,I3,w3⟩
  |brk=>exact q3
  |ret v=>exact q3
 |false =>
  rw[if_neg OH];exact TY ⟨σ1,H2,I2,q2⟩
end
structure It where
 go:Nat->Hp->Prop
 yld:Nat->Hp->V->Hp->Prop
 stop:Nat->Hp->Prop
noncomputable def gu(X:Cx)(ν:List (Addr×Obj))(H:Hp)(b:Addr):Prop :=
 H b=none/\b≠X.env.locals/\b∉X.fs/\(b∈X.ex\/X.s₀.heap.objs.size<=b)/\(∀x c,X.env.cells.lookup x=some c->c≠b)/\∀p∈X.pn++ν,p.1≠b
theorem Inv.fpOk{H H':Hp}{b:Addr}(I:Inv X ν σ H s)(hb:s.heap.objs.size<=b)(hn:H' b=none):gu X ν H' b:=by
 refine⟨hn,Qk (OB I.lt hb),I.nofs hb,.inr (Oi I.sz hb),fun x c e z=>?_,fun p hp z=>?_⟩
 ·obtain⟨v,q⟩:=I.cell x c e;exact absurd (OB q.lt (by rw[z];exact hb)) (Rf _)
 ·exact absurd (OB (Op (I.pin p hp).1) (by rw[z];exact hb)) (Rf _)
structure qI (P:Oo) (w:OD) (K:Fg) (tg:Expr) (J:It) (fp:List Addr) (it:Addr) (tn:Nat->Heap->Prop):Prop where
 mem:it∈fp
 obj:∀i h,tn i h->∀b∈fp,∃o,h.get? b=some o/\∀v,o.data≠.cell v
 keep:∀i h h',tn i h->(∀b∈fp,∀o,h.get? b=some o->h'.get? b=some o)->tn i h'
 item:∀(X:Cx),X.prog=P->X.w=w->X.K=K->X.calm=true->∀(i:Nat) (ν:List (Addr×Obj)) (s:N5) (σ:St) (H:Hp) (E:NY->N5->Prop),Inv X ν σ H s->(∀b∈fp,gu X ν H b)->tn i s.heap->J.go i H ->
  wpAny (model P w) X.A (pyNext (.ref it)) (fun r s1=>∃u,r=some u /\
   wpAny (model P w) X.A (letOwnedTupleGo tg (.ref it) u) (fun _ s2=>∃x H',Inv X ν σ H' s2/\RelV x u/\J.yld i H x H'/\tn (i+1) s2.heap/\∀b∈fp,H' b=none) E s1) E s
 done:∀(X:Cx),X.prog=P->X.w=w->X.K=K->X.calm=true->∀(i:Nat) (ν:List (Addr×Obj)) (s:N5) (σ:St) (H:Hp) (E:NY->N5->Prop),Inv X ν σ H s->(∀b∈fp,gu X ν H b)->tn i s.heap->J.stop i H ->
  wpAny (model P w) X.A (pyNext (.ref it)) (fun r s1=>r=none/\Inv X ν σ H s1) E s
 self:∀(A:O1) (i:Nat) (s:N5) (Q:NY->N5->Prop) (E:NY->N5->Prop),tn i s.heap->Q (.ref it) s->wpAny (model P w) A (pyIter (.ref it)) Q E s
noncomputable abbrev TI:=St->Hp->(It->Hp->Prop)->Prop
noncomputable def NB(X:Cx)(ν:List (Addr×Obj))(σ:St)(tg:Expr)(R:It->Hp->Prop)(Z5:NY)(s2:N5):Prop :=
 ∃(it:Addr) (fp:List Addr) (tn:Nat->Heap->Prop) (J:It) (H':Hp),Z5=.ref it/\Inv X ν σ H' s2/\qI X.prog X.w X.K tg J fp it tn/\tn 0 s2.heap/\(∀b∈fp,gu X ν H' b)/\R J H'
noncomputable def PI(X:Cx)(tg iter:Expr)(wi:TI):Prop :=
 ∀(ν:List (Addr×Obj)) (s:N5) (σ:St) (H:Hp) (R:It->Hp->Prop),Inv X ν σ H s->wi σ H R ->
  wpAny (model X.prog X.w) X.A (eval iter X.env) (fun v s1=>wpAny (model X.prog X.w) X.A (pyIter v) (NB X ν σ tg R) X.xe s1) X.xe s
theorem Hj{E:NY->N5->Prop} {s:N5}  {it:Addr}  {o:Obj}  {vs:Array NY} {Q:Unit->N5->Prop} (ho:s.heap.get? it=some o) (hc:o.cls=.type n) (hd:o.data=.fields vs)
    (hn:["enumerate", "zip", "dict_itemiterator", "dict_reverseitemiterator", "odict_iterator", "itertools.zip_longest", "itertools.pairwise"].contains n=false) (hQ:Q () s):wpAny M A (letOwnedTupleGo tg (.ref it) u) Q E s := by
  unfold letOwnedTupleGo
  cases tg <;> first
    |exact Oc hQ
    | (cases u <;> first
        |exact Oc hQ
        | (refine NU (wpAny_load ho ?_)
           rw[hc, hd]
           show wpAny M A (if (["enumerate", "zip", "dict_itemiterator", "dict_reverseitemiterator", "odict_iterator", "itertools.zip_longest", "itertools.pairwise"].contains n && vs[0]? == some (rawInt _))=true then _ else _) Q E s
           rw[if_neg (by intro h; rw[hn, XS] at h; cases h)]
           exact Oc hQ))
noncomputable def tY(K:Fg)(a:Addr):It :=
 ⟨fun i H=>∃xs x,SqL K H a xs/\xs[i]?=some x,fun i H x H'=>H'=H/\∀xs,SqL K H a xs->xs[i]?=some x,fun i H=>∃xs,SqL K H a xs/\xs.length<=i⟩
noncomputable def wz(K:Fg)(a:Addr):It :=
 ⟨fun i H=>∃xs x,SqT K H a xs/\xs[i]?=some x,fun i H x H'=>H'=H/\∀xs,SqT K H a xs->xs[i]?=some x,fun i H=>∃xs,SqT K H a xs/\xs.length<=i⟩
noncomputable def vI(lo:Int)(n:Nat):It:=⟨fun i _=>i<n,fun i H x H'=>H'=H/\x=.int (lo+i),fun i _=>n<=i⟩
theorem wK{K:Fg}(a it:Addr):qI P w K tg (tY K a) [it] it (fun i h=>h.IsListIter it a i) where
 mem:=by simp
 obj:=fun i h st b hb=>by
  have e:b=it:=by simpa using hb
  subst e;obtain⟨o,e,c,d⟩:=st;exact⟨o,e,fun v z=>by rw[d] at z;cases z⟩
 keep:=fun i h h' st k=>st.at fun o e=>k it (by simp) o e
 item:=by
  intro X hP hw hK hc i ν s σ H E I hf st hg;subst hP hw hK;obtain⟨xs,x,hq,hx⟩:=hg;obtain⟨dk,rv,p,hz⟩:=I.list hq;obtain⟨u,hu,ru⟩:=rv.get hx;obtain⟨f0,f1,f2,f3,f4,f5⟩:=hf it (by simp);refine wpAny_pyNext_list_item st p.isList (x:=u) (by simpa using hu) fun h' Zk sb=>?_
  have I1:Inv X ν σ H {s with heap:=h'}:=I.turned (t':=s.toks) (fun b o hb e=>(sb.2 b hb).trans e) f0 f1 f3 f4 f5;obtain⟨o,e,c,d⟩:=id Zk;exact⟨u,rfl,Hj (s:={s with heap:=h'}) e c d (by decide) ⟨x,H,I1,ru,⟨rfl,fun ys hy=>by rw[I.nu hy hq];exact hx⟩,Zk,fun b hb=>(hf b hb).1⟩⟩
 done:=by
  intro X hP hw hK hc i ν s σ H E I hf st hg;subst hP hw hK;obtain⟨xs,hq,hx⟩:=hg;obtain⟨dk,rv,p,hz⟩:=I.list hq;obtain⟨f0,f1,f2,f3,f4,f5⟩:=hf it (by simp);have hl:=rv.length;exact wpAny_pyNext_list_end (I.ok.hd hc) st p.isList (by simp;lia) fun h' eb=>⟨rfl,I.turned (t':=s.toks) (fun b o hb e=>eb b o hb e) f0 f1 f3 f4 f5⟩
 self:=fun _ _ _ _ _ st h=>wpAny_pyIter_listiter st h
theorem vM{K:Fg}(a it:Addr):qI P w K tg (wz K a) [it] it (fun i h=>h.IsTupleIter it a i) where
 mem:=by simp
 obj:=fun i h st b hb=>by
  have e:b=it:=by simpa using hb
  subst e;obtain⟨o,e,c,d⟩:=st;exact⟨o,e,fun v z=>by rw[d] at z;cases z⟩
 keep:=fun i h h' st k=>st.at fun o e=>k it (by simp) o e
 item:=by
  intro X hP hw hK hc i ν s σ H E I hf st hg;subst hP hw hK;obtain⟨xs,x,hq,hx⟩:=hg;obtain⟨dk,rv,p,hz⟩:=I.tuple hq;obtain⟨u,hu,ru⟩:=rv.get hx;obtain⟨f0,f1,f2,f3,f4,f5⟩:=hf it (by simp);refine wpAny_pyNext_tuple_item st (show s.heap.IsTuple a dk.toArray from p) (x:=u) (by simpa using hu) fun h' Zk sb=>?_
  have I1:Inv X ν σ H {s with heap:=h'}:=I.turned (t':=s.toks) (fun b o hb e=>(sb.2 b hb).trans e) f0 f1 f3 f4 f5;obtain⟨o,e,c,d⟩:=id Zk;exact⟨u,rfl,Hj (s:={s with heap:=h'}) e c d (by decide) ⟨x,H,I1,ru,⟨rfl,fun ys hy=>by rw[I.oE hy hq];exact hx⟩,Zk,fun b hb=>(hf b hb).1⟩⟩
 done:=by
  intro X hP hw hK hc i ν s σ H E I hf st hg;subst hP hw hK;obtain⟨xs,hq,hx⟩:=hg;obtain⟨dk,rv,p,hz⟩:=I.tuple hq;obtain⟨f0,f1,f2,f3,f4,f5⟩:=hf it (by simp);have hl:=rv.length;exact wpAny_pyNext_tuple_end (I.ok.hd hc) st (show s.heap.IsTuple a dk.toArray from p) (by simp;lia) fun h' eb=>⟨rfl,I.turned (t':=s.toks) (fun b o hb e=>eb b o hb e) f0 f1 f3 f4 f5⟩
 self:=fun _ _ _ _ _ st h=>wpAny_pyIter_tupleiter st h
theorem vN{K:Fg}(it:Addr)(lo:Int)(n:Nat):qI P w K tg (vI lo n) [it] it (fun i h=>IsRangeIter h it (lo+(i:Nat)*1) ((n:Int)-(i:Nat)) 1) where
 mem:=by simp
 obj:=fun i h st b hb=>by
  have e:b=it:=by simpa using hb
  subst e
  exact⟨_,st,fun v z=>by
   have z':Xs _=V6 v:=z
   cases z'⟩
 keep:=fun i h h' st k=>k it (by simp) _ st
 item:=by
  intro X hP hw hK hc i ν s σ H E I hf st hg;subst hP hw hK;obtain⟨f0,f1,f2,f3,f4,f5⟩:=hf it (by simp);have W:=Xu.range (prog:=X.prog) (w:=X.w) (I.ok.hd hc) it lo 1 n;refine W.item i s _ _ hg st fun v h' tk hv Zk kk=>?_
  obtain⟨t,rfl⟩:=hv;have I1:Inv X ν σ H {s with heap:=h',toks:=tk}:=I.turned (fun b o hb e=>kk b o (by simpa using hb) e) f0 f1 f3 f4 f5;refine⟨_,rfl,Hj (s:={s with heap:=h',toks:=tk}) (n:="range_iterator") Zk rfl rfl (by decide) ⟨.int (lo+i),H,I1,⟨t,?_⟩,⟨rfl,rfl⟩,Zk,fun b hb=>(hf b hb).1⟩⟩;rw[VM]
 done:=by
  intro X hP hw hK hc i ν s σ H E I hf st hg;subst hP hw hK;obtain⟨f0,f1,f2,f3,f4,f5⟩:=hf it (by simp);exact wpAny_pyNext_range_end (I.ok.hd hc) st (by have:n<=i:=hg;lia) fun h' eb=>⟨rfl,I.turned (t':=s.toks) (fun b o hb e=>eb b o hb e) f0 f1 f3 f4 f5⟩
 self:=fun _ _ _ _ _ st h=>wpAny_pyIter_rangeiter st h
section
variable{X:Cx}{tg:Expr}
noncomputable def bQ(K:Fg)(tl:TE):TI:=fun σ H R=>tl σ H fun x H1=>∃a,x=.ref a/\(∃xs,SqL K H1 a xs)/\R (tY K a) H1
noncomputable def tt(K:Fg)(tl:TE):TI:=fun σ H R=>tl σ H fun x H1=>∃a,x=.ref a/\(∃xs,SqT K H1 a xs)/\R (wz K a) H1
theorem Gx(hl:PE X l tl):PI X tg l (bQ X.K tl):=by
 intro ν s σ H R I h;refine bg (hl ν s σ H _ I h) fun v s1 ⟨x,H1,I1,r1,q1⟩=>?_
 obtain⟨a,e,⟨xs,hq⟩,q⟩:=q1;subst e;cases r1;obtain⟨dk,rv,p,hz⟩:=I1.list hq;refine UC p.isList ?_;refine⟨s1.heap.objs.size,[s1.heap.objs.size],_,_,H1,rfl,I1.kept (t':=s1.toks) fun b o e=>N3 _ e,wK a _,⟨_,OC _ rfl,rfl,rfl⟩,fun b hb=>?_,q⟩;have e:b=s1.heap.objs.size:=by simpa using hb
 subst e;exact I1.fpOk (N4 _) (I1.hok.fresh (N4 _))
theorem Ji(hl:PE X l tl):PI X tg l (tt X.K tl):=by
 intro ν s σ H R I h;refine bg (hl ν s σ H _ I h) fun v s1 ⟨x,H1,I1,r1,q1⟩=>?_
 obtain⟨a,e,⟨xs,hq⟩,q⟩:=q1;subst e;cases r1;obtain⟨dk,rv,p,hz⟩:=I1.tuple hq;refine Wx (show s1.heap.IsTuple a dk.toArray from p) ?_;refine⟨s1.heap.objs.size,[s1.heap.objs.size],_,_,H1,rfl,I1.kept (t':=s1.toks) fun b o e=>N3 _ e,vM a _,⟨_,OC _ rfl,rfl,rfl⟩,fun b hb=>?_,q⟩;have e:b=s1.heap.objs.size:=by simpa using hb
 subst e;exact I1.fpOk (N4 _) (I1.hok.fresh (N4 _))
theorem Co{H:Hp}{R:It->Hp->Prop}{lo hi:Int}{t u v:Tok}{tk:Nat}(I:Inv X ν σ H s)(h1 : -(2 ^ 62)<=lo)(h2:lo<2 ^ 62)(h3 : -(2 ^ 62)<=hi)(h4:hi<2 ^ 62)
  (q:R (vI lo (hi-lo).toNat) H):wpAny (model X.prog X.w) X.A (pyIter (.ref s.heap.objs.size)) (NB X ν σ tg R) E {s with heap:=s.heap.push {cls:=.type "range",data:=.fields #[.int lo t,.int hi u,.int 1 v]},toks:=tk}:=by
 refine wpAny_pyIter_range (IsRange.new ..) (small_one h1 h2 h3 h4) ?_;have I1:Inv X ν σ H {s with heap:=s.heap.push {cls:=.type "range",data:=.fields #[.int lo t,.int hi u,.int 1 v]},toks:=tk}:=I.kept fun b o e=>N3 _ e
 refine⟨(s.heap.push {cls:=.type "range",data:=.fields #[.int lo t,.int hi u,.int 1 v]}).objs.size,[(s.heap.push {cls:=.type "range",data:=.fields #[.int lo t,.int hi u,.int 1 v]}).objs.size],_,_,H,rfl,
  I1.kept (t':=tk) fun b o e=>N3 _ e,vN _ lo (hi-lo).toNat,?_,fun b hb=>?_,q⟩
 ·have e1:lo+((0:Nat):Int)*1=lo:=by simp
  have e2:(((hi-lo).toNat:Nat):Int)-((0:Nat):Int)=Qw.Range.rangeSize lo hi 1:=by rw[rangeSize_one];split <;> lia
  show IsRangeIter _ _ (lo+((0:Nat):Int)*1) ((((hi-lo).toNat:Nat):Int)-((0:Nat):Int)) 1;rw[e1,e2];exact OC _ rfl
 ·have e:b=(s.heap.push {cls:=.type "range",data:=.fields #[.int lo t,.int hi u,.int 1 v]}).objs.size:=by simpa using hb
  subst e;exact I1.fpOk (N4 _) (I1.hok.fresh (N4 _))
noncomputable def cC(ta:TA):TI:=fun σ H R=>ta σ H fun vs H1=>∃j:Int,vs=[.int j]/\-(2 ^ 62)<=j/\j<2 ^ 62/\R (vI 0 j.toNat) H1
theorem yF{a:Expr} {ta:TA} {p pos:Pos} (hg:Gl X "range") (hm:X.mg "range"=none) (ha:PA X [a] ta) (hs:starEach [a] X.env=[(false,eval a X.env)]:=by rfl):PI X tg (.Call (.Name "range" p) [a] [] pos) (cC ta):=by
 intro ν s σ H R I h;refine Call_ (f7 I hg hm boot_range (Pu (bg (ha pos ν s σ H _ I h) fun us s1 ⟨vs,H1,I1,r1,q1⟩=>?_) hs rfl));obtain⟨j,e,q1,q2,q⟩:=q1;subst e;cases r1 with
 |cons r rr =>
  cases rr;obtain⟨t,rfl⟩:=r;exact call_range_1 (Co I1 (by lia) (by lia) q1 q2 (by simpa using q))
noncomputable def be(wi:TI)(g:TG)(tb:TS):TS:=fun D σ H=>wi σ H fun J H1=>∃W:Nat->Nat->St->Hp->Prop,(∃m,W 0 m σ H1)/\∀i m σ H,W i m σ H ->
 (J.stop i H/\D.nx σ H)\/(J.go i H/\∃N:St->Hp->Prop,(∀σ' H',N σ' H'->∃m',m'<m/\W (i+1) m' σ' H')/\∀x H',J.yld i H x H'->g x σ H' fun σ2 H2=>tb {D with nx:=N,ct:=N,bk:=D.nx} σ2 H2)
noncomputable def uF(fp:List Addr)(h:Heap):List (Addr×Obj):=fp.filterMap fun b=>(h.get? b).map fun o=>(b,o)
theorem bZ{fp:List Addr}{h:Heap}{b:Addr}{o:Obj}(hb:b∈fp)(e:h.get? b=some o):(b,o)∈uF fp h:=Wy.mpr ⟨b,hb,by rw[e];rfl⟩
theorem yV{fp:List Addr}{p:Addr×Obj}(hp:p∈uF fp h):p.1∈fp/\h.get? p.1=some p.2:=by
 obtain⟨b,hb,e⟩:=Wy.mp hp;cases q:h.get? b with
 |none=>rw[q] at e;cases e
 |some o =>
  rw[q] at e;have e':(b,o)=p:=Oq e;subst e';exact⟨hb,q⟩
theorem Inv.pinned{H:Hp}{fp:List Addr}(I:Inv X ν σ H s)(hf:∀b∈fp,gu X ν H b)(ho:∀b∈fp,∃o,s.heap.get? b=some o/\∀v,o.data≠.cell v):Inv X (ν++uF fp s.heap) σ H s :=
 I.yD fun p hp=>(N_.mp hp).elim (fun z=>I.pin p (Ob _ z)) fun z=>by
  obtain⟨hb,e⟩:=yV z;obtain⟨f0,f1,f2,_⟩:=hf p.1 hb;obtain⟨o,e',d⟩:=ho p.1 hb;rw[e] at e';cases e';exact⟨e,f0,f1,f2,d⟩
theorem Inv.fC{ν pl:List (Addr×Obj)}{H:Hp}(I:Inv X (ν++pl) σ H s):Inv X ν σ H s:=I.yD fun p hp=>I.pin p (Ob _ (Oe _ hp))
theorem Jd{iter:Expr}{pos:Pos}(hp:PassesOwn (model X.prog X.w) X.A X.env X.xe)(hc:X.calm=true)(hi:PI X tg iter wi)(hg:PG X tg g)(hb:PSs X body tb)
  (hs:∀x,foldedSetIterable iter X.env x=pure x:=by intro _;rfl):PS X (.For tg iter body [] pos) (be wi g tb):=by
 intro ν s σ H D I h;refine wpAny_For (bg (hi ν s σ H _ I h) fun v s1 h1=>bg h1 fun Z5 s2 h2=>?_) hs;obtain⟨it,fp,tn,J,H2,e,I2,T,st2,f2,W,⟨m0,w0⟩,turn⟩:=h2;subst e;have YX:∀{H':Hp},(∀b∈fp,H' b=none)->∀b∈fp,gu X ν H' b:=fun hn b hb=>⟨hn b hb,(f2 b hb).2⟩
 refine codeAny_forLoop_any (fun n s'=>∃i σ' H',Inv X ν σ' H' s'/\tn i s'.heap/\(∀b∈fp,H' b=none)/\W i n σ' H') ?_ m0 ⟨0,σ,H2,I2,st2,fun b hb=>(f2 b hb).1,w0⟩;rintro n s3 ⟨i,σ3,H3,I3,st3,fr3,w3⟩;rcases turn i n σ3 H3 w3 with⟨stop,qn⟩|⟨go,N,hN,step⟩
 ·refine Q2 hp (bg (T.done X rfl rfl rfl hc i ν s3 σ3 H3 X.xe I3 (YX fr3) st3 stop) fun r s4 ⟨hr,I4⟩=>?_);subst hr;exact TY ⟨σ3,H3,I4,qn⟩
 ·refine Q2 hp (bg (T.item X rfl rfl rfl hc i ν s3 σ3 H3 X.xe I3 (YX fr3) st3 go) fun r s4 ⟨u,hr,h4⟩=>?_);subst hr;refine Q2 hp (bg h4 fun _ s5 ⟨x,H5,I5,r5,y5,ZV,fr5⟩=>?_);have I5':=I5.pinned (YX fr5) (T.obj _ _ ZV);refine Q2 hp (bg (hg _ s5 σ3 H5 x u _ I5' r5 (step x H5 y5)) fun _ s6 ⟨σ6,H6,I6,q6⟩=>?_);refine Q2 hp (bg (hb _ s6 σ6 H6 _ I6 q6) fun f s7 q7=>?_)
  have again:∀{σ7:St} {H7:Hp},Inv X (ν++uF fp s5.heap) σ7 H7 s7->N σ7 H7->∃m,m<n/\∃i σ' H',Inv X ν σ' H' s7/\tn i s7.heap/\(∀b∈fp,H' b=none)/\W i m σ' H':=fun {σ7 H7} I7 n7=>by
   obtain⟨m',hm,w7⟩:=hN σ7 H7 n7;refine⟨m',hm,i+1,σ7,H7,I7.fC,T.keep _ _ _ ZV fun b hb o e=>(I7.pin (b,o) (Ob _ (Ob _ (bZ hb e)))).1,fun b hb=>?_,w7⟩;obtain⟨o,e,d⟩:=T.obj _ _ ZV b hb;exact(I7.pin (b,o) (Ob _ (Ob _ (bZ hb e)))).2.1
  cases f with
  |next=>obtain⟨σ7,H7,I7,n7⟩:=q7;exact again I7 n7
  |cont=>obtain⟨σ7,H7,I7,n7⟩:=q7;exact again I7 n7
  |brk=>obtain⟨σ7,H7,I7,q7⟩:=q7;exact⟨σ7,H7,I7.fC,q7⟩
  |ret v=>obtain⟨x7,σ7,H7,I7,r7,q7⟩:=q7;exact⟨x7,σ7,H7,I7.fC,r7,q7⟩
end
theorem DC{K:Fg}{xs:List V}{g:TG}{tb:TS}{D:cx}{H:Hp}(Pv:Nat->St->Hp->Prop)(h0:Pv 0 σ H)(hl:∀i σ H,i<=xs.length->Pv i σ H->SqL K H a xs)
  (hs:∀i x σ H,xs[i]?=some x->Pv i σ H->g x σ H fun σ2 H2=>tb {D with nx:=Pv (i+1),ct:=Pv (i+1),bk:=D.nx} σ2 H2) (hd:∀σ H,Pv xs.length σ H->D.nx σ H) :
  ∃W:Nat->Nat->St->Hp->Prop,(∃m,W 0 m σ H)/\∀i m σ H,W i m σ H ->
   ((tY K a).stop i H/\D.nx σ H)\/((tY K a).go i H/\∃N:St->Hp->Prop,(∀σ' H',N σ' H'->∃m',m'<m/\W (i+1) m' σ' H')/\∀x H',(tY K a).yld i H x H'->g x σ H' fun σ2 H2=>tb {D with nx:=N,ct:=N,bk:=D.nx} σ2 H2):=by
 refine⟨fun i m σ H=>m=xs.length-i/\i<=xs.length/\Pv i σ H,⟨xs.length,by simp,OR _,h0⟩,?_⟩;rintro i m σ H ⟨rfl,hi,p⟩;have q:=hl i σ H hi p;by_cases Ad:i<xs.length
 ·refine .inr ⟨⟨xs,xs[i],q,by simp[Ad]⟩,Pv (i+1),fun σ' H' p'=>⟨xs.length-(i+1),by lia,rfl,Ad,p'⟩,fun x H' y=>?_⟩;obtain⟨e,y⟩:=y;subst e;exact hs i x σ _ (y xs q) p
 ·have e:i=xs.length:=by lia
  subst e;exact .inl ⟨⟨xs,q,N4 _⟩,hd σ H p⟩
theorem Hm{K:Fg}{xs:List V}{g:TG}{tb:TS}{D:cx}{H:Hp}(Pv:Nat->St->Hp->Prop)(h0:Pv 0 σ H)(hl:∀i σ H,i<=xs.length->Pv i σ H->SqT K H a xs)
  (hs:∀i x σ H,xs[i]?=some x->Pv i σ H->g x σ H fun σ2 H2=>tb {D with nx:=Pv (i+1),ct:=Pv (i+1),bk:=D.nx} σ2 H2) (hd:∀σ H,Pv xs.length σ H->D.nx σ H) :
  ∃W:Nat->Nat->St->Hp->Prop,(∃m,W 0 m σ H)/\∀i m σ H,W i m σ H ->
   ((wz K a).stop i H/\D.nx σ H)\/((wz K a).go i H/\∃N:St->Hp->Prop,(∀σ' H',N σ' H'->∃m',m'<m/\W (i+1) m' σ' H')/\∀x H',(wz K a).yld i H x H'->g x σ H' fun σ2 H2=>tb {D with nx:=N,ct:=N,bk:=D.nx} σ2 H2):=by
 refine⟨fun i m σ H=>m=xs.length-i/\i<=xs.length/\Pv i σ H,⟨xs.length,by simp,OR _,h0⟩,?_⟩;rintro i m σ H ⟨rfl,hi,p⟩;have q:=hl i σ H hi p;by_cases Ad:i<xs.length
 ·refine .inr ⟨⟨xs,xs[i],q,by simp[Ad]⟩,Pv (i+1),fun σ' H' p'=>⟨xs.length-(i+1),by lia,rfl,Ad,p'⟩,fun x H' y=>?_⟩;obtain⟨e,y⟩:=y;subst e;exact hs i x σ _ (y xs q) p
 ·have e:i=xs.length:=by lia
  subst e;exact .inl ⟨⟨xs,q,N4 _⟩,hd σ H p⟩
theorem Ac{lo:Int}{n:Nat}{g:TG}{tb:TS}{D:cx}{H:Hp}(Pv:Nat->St->Hp->Prop)(h0:Pv 0 σ H)
  (hs:∀i σ H,i<n->Pv i σ H->g (.int (lo+i)) σ H fun σ2 H2=>tb {D with nx:=Pv (i+1),ct:=Pv (i+1),bk:=D.nx} σ2 H2) (hd:∀σ H,Pv n σ H->D.nx σ H) :
  ∃W:Nat->Nat->St->Hp->Prop,(∃m,W 0 m σ H)/\∀i m σ H,W i m σ H ->
   ((vI lo n).stop i H/\D.nx σ H)\/((vI lo n).go i H/\∃N:St->Hp->Prop,(∀σ' H',N σ' H'->∃m',m'<m/\W (i+1) m' σ' H')/\∀x H',(vI lo n).yld i H x H'->g x σ H' fun σ2 H2=>tb {D with nx:=N,ct:=N,bk:=D.nx} σ2 H2):=by
 refine⟨fun i m σ H=>m=n-i/\i<=n/\Pv i σ H,⟨n,by simp,OR _,h0⟩,?_⟩;rintro i m σ H ⟨rfl,hi,p⟩;by_cases Ad:i<n
 ·refine .inr ⟨Ad,Pv (i+1),fun σ' H' p'=>⟨n-(i+1),by lia,rfl,Ad,p'⟩,fun x H' y=>?_⟩;obtain⟨e,y⟩:=y;subst e y;exact hs i σ _ Ad p
 ·have e:i=n:=by lia
  subst e;exact .inl ⟨N4 _,hd σ H p⟩
theorem gD{c:TT}{tb:TS}{D:cx}{H:Hp}(Pv:St->Hp->Prop)(μ:St->Hp->Nat)(h0:Pv σ H)
  (hs:∀σ H,Pv σ H->c σ H fun b H1=>if b=true then tb {D with nx:=fun σ' H'=>Pv σ' H'/\μ σ' H'<μ σ H,ct:=fun σ' H'=>Pv σ' H'/\μ σ' H'<μ σ H,bk:=D.nx} σ H1 else D.nx σ H1)
  (mono:∀σ H Q Q',(∀b H1,Q b H1->Q' b H1)->c σ H Q->c σ H Q'):fV c tb D σ H:=by
 refine⟨fun m σ H=>m=μ σ H/\Pv σ H,⟨_,rfl,h0⟩,?_⟩;rintro m σ H ⟨rfl,p⟩;refine mono σ H _ _ (fun b H1 q=>?_) (hs σ H p);cases b with
 |true=>exact⟨_,fun σ' H' ⟨p',l⟩=>⟨_,l,rfl,p'⟩,q⟩
 |false=>exact q
noncomputable abbrev R2:=V->V->Hp->VK->Prop
noncomputable def f_(X:Cx)(f:NY->NY->Sem NY)(r:R2):Prop :=
 ∀(ν:List (Addr×Obj)) (s:N5) (σ:St) (H:Hp) (x y:V) (v u:NY) (Q:VK),Inv X ν σ H s->RelV x v->RelV y u->r x y H Q ->
  wpAny (model X.prog X.w) X.A (f v u) (EP X ν σ Q) X.xe s
noncomputable def LP(X:Cx)(f:NY->Sem NY)(r:V->Hp->VK->Prop):Prop :=
 ∀(ν:List (Addr×Obj)) (s:N5) (σ:St) (H:Hp) (x:V) (v:NY) (Q:VK),Inv X ν σ H s->RelV x v->r x H Q ->
  wpAny (model X.prog X.w) X.A (f v) (EP X ν σ Q) X.xe s
noncomputable def dZ(X:Cx)(f:NY)(r:List V->Hp->VK->Prop):Prop :=
 ∀(ν:List (Addr×Obj)) (s:N5) (σ:St) (H:Hp) (xs:List V) (us:List NY) (Q:VK),Inv X ν σ H s->Vals xs us->r xs H Q ->
  wpAny (model X.prog X.w) X.A (call f us) (EP X ν σ Q) X.xe s
noncomputable def aq(r:R2)(ta tb:TE):TE:=fun σ H Q=>ta σ H fun x H1=>tb σ H1 fun y H2=>r x y H2 Q
noncomputable def Ig(r:V->Hp->VK->Prop)(ta:TE):TE:=fun σ H Q=>ta σ H fun x H1=>r x H1 Q
noncomputable def rI(C:Int->Int->Prop)(g:Int->Int->V):R2:=fun x y H Q=>∃i j,x=.int i/\y=.int j/\C i j/\Q (g i j) H
noncomputable def sK(g:Int->Int->V):R2:=fun x y H Q=>∃i j,x=.int i/\y=.int j/\Q (g i j) H
noncomputable def rU(g:Int->V):V->Hp->VK->Prop:=fun x H Q=>∃i,x=.int i/\Q (g i) H
section
variable{X:Cx}{a b c:Expr}{ta tb tc:TE}{pos:Pos}
theorem Hz(ha:PE X a ta)(hb:PE X b tb){H:Hp}{R:V->V->Hp->Prop}(I:Inv X ν σ H s)
  (h:ta σ H fun x H1=>tb σ H1 fun y H2=>R x y H2)  {f:NY->NY->Sem NY}
  (hf:∀v u s2 x y H2,Inv X ν σ H2 s2->RelV x v->RelV y u->R x y H2->wpAny (model X.prog X.w) X.A (f v u) Q X.xe s2) :
  wpAny (model X.prog X.w) X.A (eval a X.env) (fun v s₁=>wpAny (model X.prog X.w) X.A (eval b X.env) (fun u s₂=>wpAny (model X.prog X.w) X.A (f v u) Q X.xe s₂) X.xe s₁) X.xe s:=by
 refine bg (ha ν s σ H _ I h) fun v s1 ⟨x,H1,I1,r1,q1⟩=>?_
 refine bg (hb ν s1 σ H1 _ I1 q1) fun u s2 ⟨y,H2,I2,r2,q2⟩=>?_
 exact hf v u s2 x y H2 I2 r1 r2 q2
theorem Mc(ho:f_ X (binaryOp op) r)(ha:PE X a ta)(hb:PE X b tb):PE X (.BinOp a op b pos) (aq r ta tb):=by
 intro ν s σ H Q I h;exact wpAny_BinOp (Hz ha hb I h fun v u s2 x y H2 I2 rx ry q=>ho ν s2 σ H2 x y v u Q I2 rx ry q)
theorem Ma(ho:LP X (unaryOp op) r)(ha:PE X a ta):PE X (.UnaryOp op a pos) (Ig r ta):=by
 intro ν s σ H Q I h;exact UnaryOp_ (bg (ha ν s σ H _ I h) fun v s1 ⟨x,H1,I1,r1,q1⟩=>ho ν s1 σ H1 x v Q I1 r1 q1)
theorem GM{f:NY->NY->Sem NY}{C:Int->Int->Prop}{g:Int->Int->Int}
  (rule:∀(i j:Int) (t u:Tok) (s:N5) (Q:NY->N5->Prop) (E:NY->N5->Prop),C i j->Q (.int (g i j) s.toks) {s with toks:=s.toks+1}->wpAny (model X.prog X.w) X.A (f (.int i t) (.int j u)) Q E s) :
  f_ X f (rI C fun i j=>.int (g i j)):=by
 intro ν s σ H x y v u Q I rx ry h;obtain⟨i,j,rfl,rfl,hc,q⟩:=h;obtain⟨t,rfl⟩:=rx;obtain⟨t',rfl⟩:=ry;exact rule i j t t' s _ _ hc ⟨.int (g i j),H,I.tok _,⟨_,rfl⟩,q⟩
theorem JI{f:NY->NY->Sem NY}{g:Int->Int->Int}
  (rule:∀(i j:Int) (t u:Tok) (s:N5) (Q:NY->N5->Prop) (E:NY->N5->Prop),Q (.int (g i j) s.toks) {s with toks:=s.toks+1}->wpAny (model X.prog X.w) X.A (f (.int i t) (.int j u)) Q E s) :
  f_ X f (sK fun i j=>.int (g i j)):=by
 intro ν s σ H x y v u Q I rx ry h;obtain⟨i,j,rfl,rfl,q⟩:=h;obtain⟨t,rfl⟩:=rx;obtain⟨t',rfl⟩:=ry;exact rule i j t t' s _ _ ⟨.int (g i j),H,I.tok _,⟨_,rfl⟩,q⟩
theorem CO{f:NY->NY->Sem NY}{g:Int->Int->Bool}
  (rule:∀(i j:Int) (t u:Tok) (s:N5) (Q:NY->N5->Prop) (E:NY->N5->Prop),Q (.bool (g i j)) s->wpAny (model X.prog X.w) X.A (f (.int i t) (.int j u)) Q E s) :
  f_ X f (sK fun i j=>.bl (g i j)):=by
 intro ν s σ H x y v u Q I rx ry h;obtain⟨i,j,rfl,rfl,q⟩:=h;obtain⟨t,rfl⟩:=rx;obtain⟨t',rfl⟩:=ry;exact rule i j t t' s _ _ ⟨.bl (g i j),H,I,rfl,q⟩
noncomputable def HL(i j:Int):Prop:=0<j/\j<1073741824
noncomputable def LI(i j:Int):Prop:=0<=j/\j<=1000000/\i.natAbs<2 ^ 64
noncomputable def CMul(i j:Int):Prop:=(-(2 ^ 64)<i/\i<2 ^ 64)\/(-(2 ^ 64)<j/\j<2 ^ 64)
theorem CMul.ok(h:CMul i j):IntMulOk i j:=by
 rcases h with⟨h1,h2⟩|⟨h1,h2⟩
 ·exact .of_left (intBits_le_64 h1 h2)
 ·exact .of_right (intBits_le_64 h1 h2)
theorem JH:f_ X (binaryOp .Add) (sK fun i j=>.int (i+j)):=JI fun _ _ _ _ _ _ _ q=>add_int q
theorem Jz:f_ X (binaryOp .Sub) (sK fun i j=>.int (i-j)):=JI fun _ _ _ _ _ _ _ q=>sub_int q
theorem JB:f_ X (binaryOp .Mult) (rI CMul fun i j=>.int (i*j)):=GM fun _ _ _ _ _ _ _ hc q=>mul_int q hc.ok
theorem GL:f_ X (binaryOp .FloorDiv) (rI HL fun i j=>.int (i / j)):=GM fun i j _ _ _ _ _ hc q=>by
 have h1:(0:Int)<j:=hc.1;have h2:j<1073741824:=hc.2;exact floordiv_int (by lia) (by rw[Uq i (by lia)];exact q) (.inl (PyProof.noPylong_small (by lia)))
theorem JC:f_ X (binaryOp .Mod) (rI (fun _ j=>0<j) fun i j=>.int (i % j)):=GM fun i j _ _ _ _ _ hc q=>by
 have h1:(0:Int)<j:=hc;exact mod_int' (by lia) (by rw[Ur i (by lia)];exact q)
theorem GK:f_ X (binaryOp .Mod) (rI (fun _ j=>j≠0) fun i j=>.int (i.fmod j)):=GM fun _ _ _ _ _ _ _ hc q=>mod_int' hc q
theorem JA:f_ X (binaryOp .Pow) (rI LI fun i j=>.int (i ^ j.toNat)):=GM fun _ _ _ _ _ _ _ hc q=>pow_int_small hc.1 hc.2.1 hc.2.2 q
theorem ND{f:NY->Sem NY}{g:Int->Int}
  (rule:∀(i:Int) (t:Tok) (s:N5) (Q:NY->N5->Prop) (E:NY->N5->Prop),Q (.int (g i) s.toks) {s with toks:=s.toks+1}->wpAny (model X.prog X.w) X.A (f (.int i t)) Q E s) :
  LP X f (rU fun i=>.int (g i)):=by
 intro ν s σ H x v Q I rx h;obtain⟨i,rfl,q⟩:=h;obtain⟨t,rfl⟩:=rx;exact rule i t s _ _ ⟨.int (g i),H,I.tok _,⟨_,rfl⟩,q⟩
theorem Ib:LP X (unaryOp .USub) (rU fun i=>.int (-i)):=ND fun _ _ _ _ _ q=>neg_int q
end
noncomputable def Iw:V->V->Bool
 |.non,.non=>true|.non,.int _=>true|.int _,.non=>true|.non,.bl _=>true|.bl _,.non=>true|.non,.str _=>true|.str _,.non=>true
 |.int _,.int _=>true|.bl _,.bl _=>true|.str _,.str _=>true|.byt _,.byt _=>true
 |.int _,.str _=>true|.str _,.int _=>true|.bl _,.str _=>true|.str _,.bl _=>true
 |_,_=>false
noncomputable def fF:R2:=fun x y H Q=>Iw x y=true/\Q (.bl (decide (x=y))) H
noncomputable def kP:R2:=fun x y H Q=>Iw x y=true/\Q (.bl (!decide (x=y))) H
theorem Aj:decide (V.int i=V.int j)=(i == j):=by
 rw[QH];simp
theorem E2:decide (V.bl i=V.bl j)=(i == j):=by
 rw[QH];simp
theorem Ai:decide (V.str i=V.str j)=(i == j):=by
 rw[QH];simp
theorem Ak:decide (V.byt i=V.byt j)=(i.toList == j.toList):=by
 rw[QH];cases i;cases j;simp
section
variable{X:Cx}{a b c:Expr}{ta tb tc:TE}{pos:Pos}
theorem bd{H:Hp}{Q:VK}{k':Bool}(I:Inv X ν σ H s)(q:Q (.bl k) H)(e:k=k'):EP X ν σ Q (.bool k') s:=by
 subst e;exact⟨.bl k,H,I,rfl,q⟩
theorem Mn:f_ X (compareOp .Eq) fF:=by
 intro ν s σ H x y v u Q I rx ry h;obtain⟨hs,q⟩:=h;cases x with
 |non =>
  cases rx;cases y with
  |non=>cases ry;exact PySem.EqNone.eq_none_none (bd I q (by simp))
  |bl j=>cases ry;exact PySem.EqNone.eq_none_bool (bd I q (by simp))
  |int j=>obtain⟨t',rfl⟩:=ry;exact PySem.EqNone.eq_none_int (bd I q (by simp))
  |str j=>obtain⟨t',rfl⟩:=ry;exact PySem.EqNone.eq_none_str (bd I q (by simp))
  |_=>exact absurd (show false=true from hs) OH
 |bl i =>
  cases rx;cases y with
  |non=>cases ry;exact PySem.EqNone.eq_bool_none (bd I q (by simp))
  |bl j=>cases ry;exact eq_bool (bd I q E2)
  |str j=>obtain⟨t',rfl⟩:=ry;exact PySem.EqMixed.eq_bool_str (bd I q (by simp))
  |_=>exact absurd (show false=true from hs) OH
 |int i =>
  obtain⟨t,rfl⟩:=rx;cases y with
  |non=>cases ry;exact PySem.EqNone.eq_int_none (bd I q (by simp))
  |int j=>obtain⟨t',rfl⟩:=ry;exact eq_int (bd I q Aj)
  |str j=>obtain⟨t',rfl⟩:=ry;exact PySem.EqMixed.eq_int_str (bd I q (by simp))
  |_=>exact absurd (show false=true from hs) OH
 |str i =>
  obtain⟨t,rfl⟩:=rx;cases y with
  |non=>cases ry;exact PySem.EqNone.eq_str_none (bd I q (by simp))
  |bl j=>cases ry;exact PySem.EqMixed.eq_str_bool (bd I q (by simp))
  |int j=>obtain⟨t',rfl⟩:=ry;exact PySem.EqMixed.eq_str_int (bd I q (by simp))
  |str j=>obtain⟨t',rfl⟩:=ry;exact eq_str (bd I q Ai)
  |_=>exact absurd (show false=true from hs) OH
 |byt i =>
  obtain⟨t,rfl⟩:=rx;cases y with
  |byt j=>obtain⟨t',rfl⟩:=ry;exact PySem.W.eq_bytes (bd I q Ak)
  |_=>exact absurd (show false=true from hs) OH
 |_=>cases y <;> exact absurd (show false=true from hs) OH
theorem Mh:f_ X (compareOp .NotEq) kP:=by
 intro ν s σ H x y v u Q I rx ry h;obtain⟨hs,q⟩:=h;cases x with
 |non =>
  cases rx;cases y with
  |non=>cases ry;exact PySem.EqNone.ne_none_none (bd I q (by simp))
  |bl j=>cases ry;exact PySem.EqNone.ne_none_bool (bd I q (by simp))
  |int j=>obtain⟨t',rfl⟩:=ry;exact PySem.EqNone.ne_none_int (bd I q (by simp))
  |str j=>obtain⟨t',rfl⟩:=ry;exact PySem.EqNone.ne_none_str (bd I q (by simp))
  |_=>exact absurd (show false=true from hs) OH
 |bl i =>
  cases rx;cases y with
  |non=>cases ry;exact PySem.EqNone.ne_bool_none (bd I q (by simp))
  |bl j=>cases ry;exact ne_bool (bd I q (congrArg not E2))
  |str j=>obtain⟨t',rfl⟩:=ry;exact PySem.EqMixed.ne_bool_str (bd I q (by simp))
  |_=>exact absurd (show false=true from hs) OH
 |int i =>
  obtain⟨t,rfl⟩:=rx;cases y with
  |non=>cases ry;exact PySem.EqNone.ne_int_none (bd I q (by simp))
  |int j=>obtain⟨t',rfl⟩:=ry;exact ne_int (bd I q (congrArg not Aj))
  |str j=>obtain⟨t',rfl⟩:=ry;exact PySem.EqMixed.ne_int_str (bd I q (by simp))
  |_=>exact absurd (show false=true from hs) OH
 |str i =>
  obtain⟨t,rfl⟩:=rx;cases y with
  |non=>cases ry;exact PySem.EqNone.ne_str_none (bd I q (by simp))
  |bl j=>cases ry;exact PySem.EqMixed.ne_str_bool (bd I q (by simp))
  |int j=>obtain⟨t',rfl⟩:=ry;exact PySem.EqMixed.ne_str_int (bd I q (by simp))
  |str j=>obtain⟨t',rfl⟩:=ry;exact ne_str (bd I q (congrArg not Ai))
  |_=>exact absurd (show false=true from hs) OH
 |byt i =>
  obtain⟨t,rfl⟩:=rx;cases y with
  |byt j=>obtain⟨t',rfl⟩:=ry;exact PySem.W.ne_bytes (bd I q (congrArg not Ak))
  |_=>exact absurd (show false=true from hs) OH
 |_=>cases y <;> exact absurd (show false=true from hs) OH
theorem Mi:f_ X (compareOp .Lt) (sK fun i j=>.bl (decide (i<j))):=CO fun _ _ _ _ _ _ _ q=>lt_int q
theorem Mj:f_ X (compareOp .LtE) (sK fun i j=>.bl (decide (i<=j))):=CO fun _ _ _ _ _ _ _ q=>le_int q
theorem Ml:f_ X (compareOp .Gt) (sK fun i j=>.bl (decide (j<i))):=CO fun _ _ _ _ _ _ _ q=>gt_int q
theorem Mm:f_ X (compareOp .GtE) (sK fun i j=>.bl (decide (j<=i))):=CO fun _ _ _ _ _ _ _ q=>ge_int q
theorem JD:f_ X (compareOp .Is) (fun x y H Q=>y=.non/\Q (.bl (decide (x=.non))) H):=by
 intro ν s σ H x y v u Q I rx ry h;obtain⟨rfl,q⟩:=h;cases ry;refine is_none_gen (bd I q ?_)
 cases x <;> first
  |(cases rx;rfl)
  |(obtain⟨t,rfl⟩:=rx;rfl)
theorem GI:f_ X (compareOp .IsNot) (fun x y H Q=>y=.non/\Q (.bl (!decide (x=.non))) H):=by
 intro ν s σ H x y v u Q I rx ry h;obtain⟨rfl,q⟩:=h;cases ry;refine isnot_none_gen (bd I q ?_)
 cases x <;> first
  |(cases rx;rfl)
  |(obtain⟨t,rfl⟩:=rx;rfl)
theorem EC(b:Expr){op:CmpOp}(h:op≠.In:=by decide)(h2:op≠.NotIn:=by decide):behindInMarks op b=false:=by
 have e1:(op == CmpOp.In)=false:=by cases op <;> first|rfl|exact absurd rfl h
 have e2:(op == CmpOp.NotIn)=false:=by cases op <;> first|rfl|exact absurd rfl h2
 cases b <;> simp[behindInMarks,e1,e2]
theorem GD(ho:f_ X (compareOp op) r)(ha:PE X a ta)(hb:PE X b tb)(hm:behindInMarks op b=false):PE X (.Compare a [op] [b] pos) (aq r ta tb):=by
 intro ν s σ H Q I h;exact wpAny_Compare1 (Hz ha hb I h fun v u s2 x y H2 I2 rx ry q=>ho ν s2 σ H2 x y v u Q I2 rx ry q) hm
noncomputable def aH(t:TE):TT:=fun σ H Q=>t σ H fun x H'=>∃k,x=.bl k/\Q k H'
theorem yn(ho:f_ X (compareOp op) r)(ha:PE X a ta)(hb:PE X b tb)(hm:behindInMarks op b=false):PT X (.Compare a [op] [b] pos) (aH (aq r ta tb)):=by
 intro ν s σ H Q I h
 refine VA (bg (ha ν s σ H _ I h) fun v s1 ⟨x,H1,I1,r1,q1⟩=>bg (hb ν s1 σ H1 _ I1 q1) fun u s2 ⟨y,H2,I2,r2,q2⟩ =>
  bg (ho ν s2 σ H2 x y v u _ I2 r1 r2 q2) fun c s3 ⟨z,H3,I3,r3,k,e,q3⟩=>?_) hm
 subst e;cases r3;exact Qj ⟨H3,I3,q3⟩
noncomputable def xu(r r':R2)(ta tb tc:TE):TE:=fun σ H Q=>ta σ H fun x H1=>tb σ H1 fun y H2=>r x y H2 fun z H3=>∃k,z=.bl k /\
 (if k=true then tc σ H3 fun w' H4=>r' y w' H4 Q else Q (.bl false) H3)
theorem Cv(ho:f_ X (compareOp op) r)(ZL:f_ X (compareOp op') r')(ha:PE X a ta)(hb:PE X b tb)(hc:PE X c tc)
  (hm:lastMarks [op,op'] [b,c]=false:=by with_unfolding_all rfl):PT X (.Compare a [op,op'] [b,c] pos) (aH (xu r r' ta tb tc)):=by
 intro ν s σ H Q I h
 refine isTrue_chain (bg (ha ν s σ H _ I h) fun v s1 ⟨x,H1,I1,r1,q1⟩=>test_link (bg (hb ν s1 σ H1 _ I1 q1) fun u s2 ⟨y,H2,I2,r2,q2⟩ =>
  bg (ho ν s2 σ H2 x y v u _ I2 r1 r2 q2) fun d s3 ⟨z,H3,I3,r3,k,e,q3⟩=>?_)) hm
 subst e;cases r3;refine Qj ?_;cases k with
 |false =>
  obtain⟨k',e',q'⟩:=q3;cases e';exact ite_ff ⟨H3,I3,q'⟩
 |true =>
  refine ite_tt (test_last (bg (hc ν s3 σ H3 _ I3 q3) fun w' s4 ⟨z',H4,I4,r4,q4⟩=>bg (ZL ν s4 σ H4 y z' u w' _ I4 r2 r4 q4) fun d' s5 ⟨z2,H5,I5,r5,k2,e2,q5⟩=>?_));subst e2;cases r5;exact Qj ⟨H5,I5,q5⟩
theorem uU:(sizeLine:Nat)<2 ^ 63:=by rw[Rr];decide
theorem vZ:f_ X (binaryOp .Add) (fun x y H Q=>∃i j,x=.str i/\y=.str j/\i.length+j.length<=sizeLine/\Q (.str (i++j)) H):=by
 intro ν s σ H x y v u Q I rx ry h;obtain⟨i,j,rfl,rfl,hz,q⟩:=h;obtain⟨t,rfl⟩:=rx;obtain⟨t',rfl⟩:=ry;exact add_str (fun t' tk=>⟨.str (i++j),H,I.tok _,⟨_,rfl⟩,q⟩) hz
theorem vals1{x:V}{us:List NY}(r:Vals [x] us):∃u,us=[u]/\RelV x u:=by
 cases r with
 |cons r1 r2=>cases r2;exact⟨_,rfl,r1⟩
theorem vals2{x y:V}{us:List NY}(r:Vals [x,y] us):∃u w',us=[u,w']/\RelV x u/\RelV y w':=by
 cases r with
 |cons r1 r2 =>
  cases r2 with
  |cons r3 r4=>cases r4;exact⟨_,_,rfl,r1,r3⟩
theorem DR:dZ X (.builtin "abs") (fun xs H Q=>∃i,xs=[.int i]/\Q (.int (if i<0 then -i else i)) H):=by
 intro ν s σ H xs us Q I r h;obtain⟨i,rfl,q⟩:=h;obtain⟨u,rfl,t,rfl⟩:=vals1 r;exact call_abs_int fun u tk=>⟨.int (if i<0 then -i else i),H,I.tok _,⟨_,rfl⟩,q⟩
theorem AA(hc:X.calm=true):dZ X (.builtin "max") (fun xs H Q=>∃i j,xs=[.int i,.int j]/\Q (.int (if j > i then j else i)) H):=by
 intro ν s σ H xs us Q I r h;obtain⟨i,j,rfl,q⟩:=h;obtain⟨u,w',rfl,⟨t,rfl⟩,⟨t',rfl⟩⟩:=vals2 r;refine max_two_ints (I.ok.hd hc) fun h' tk k=>⟨_,H,I.kept k,?_,q⟩
 by_cases hj:j > i
 ·rw[if_pos hj,if_pos hj];exact⟨_,rfl⟩
 ·rw[if_neg hj,if_neg hj];exact⟨_,rfl⟩
theorem Ay(hc:X.calm=true):dZ X (.builtin "min") (fun xs H Q=>∃i j,xs=[.int i,.int j]/\Q (.int (if j<i then j else i)) H):=by
 intro ν s σ H xs us Q I r h;obtain⟨i,j,rfl,q⟩:=h;obtain⟨u,w',rfl,⟨t,rfl⟩,⟨t',rfl⟩⟩:=vals2 r;refine min_two_ints (I.ok.hd hc) fun h' tk k=>⟨_,H,I.kept k,?_,q⟩
 by_cases hj:j<i
 ·rw[if_pos hj,if_pos hj];exact⟨_,rfl⟩
 ·rw[if_neg hj,if_neg hj];exact⟨_,rfl⟩
theorem AE:dZ X (.type "int") (fun xs H Q=>(∃i,xs=[.int i]/\Q (.int i) H)\/∃k,xs=[.bl k]/\Q (.int (if k then 1 else 0)) H):=by
 intro ν s σ H xs us Q I r h;rcases h with⟨i,rfl,q⟩|⟨k,rfl,q⟩
 ·obtain⟨u,rfl,t,rfl⟩:=vals1 r;exact call_int_int ⟨.int i,H,I,⟨_,rfl⟩,q⟩
 ·obtain⟨u,rfl,r1⟩:=vals1 r;cases r1;exact call_int_bool ⟨.int (if k then 1 else 0),H,I.tok _,⟨_,rfl⟩,q⟩
end
structure ObjM (h:Heap) (x dx C:Addr) (mA:Str->Option NY):Prop where
 obj:h.get? x=some (Vu C dx)
 ns:h.Ns1 dx mA
 ne:dx≠x
theorem zf{h:Heap}(n:h.Ns1 dx mA):∃od,h.get? dx=some od/\∀name,VN name od=some (mA name):=by
 obtain⟨o,es,ep,ho,hd,hk,_,hm⟩:=n;refine⟨o,ho,fun name=>?_⟩;have e:=hm name;unfold nsFind findBy at e;rw[<- Array.find?_toList] at e;unfold VN;rw[hd];dsimp only;split
 ·rename_i y q;rw[q] at e;exact congrArg some e
 ·rename_i q;rw[q] at e
  have a:es.toList.any (·.refKey)=false:=by
   rw[List.any_eq_false];intro y hy;obtain⟨z,t,hkey⟩:=hk y (Array.mem_toList_iff.mp hy);simp[Ul.refKey,hkey]
  have a' : ¬ es.toList.any (·.refKey)=true:=by rw[a];exact OH
  rw[if_neg a'];exact congrArg some e
theorem ObjM.look(I:ObjM h x dx C mA):∃od,PySem.W.InstAt h x (Vu C dx) C (some od)/\∀name,VN name od=some (mA name) :=
 let ⟨od,ho,hl⟩:=zf I.ns
 ⟨od,⟨I.obj,rfl,rfl,ho⟩,hl⟩
theorem RelO.some_of{v:V}(r:RelO (some v) o):∃u,o=some u/\RelV v u:=by
 cases o with
 |none=>exact(show False from r).elim
 |some u=>exact⟨u,rfl,r⟩
section
variable{P:Oo}{w:OD}{H H':Hp}{h h':Heap}{a C dx:Addr}{fs fs':List (Str×V)}
theorem Hh(hok:HOk P w H h)(e:H a=some (.ins C dx fs)):∃mA,ObjM h a dx C mA/\(∀f,RelO (fs.lookup f) (mA f))/\PySem.Within mA (fs.map (·.1))/\fs.length<=1000/\H dx=some (.own a):=by
 obtain⟨d,z,ne,ob,mA,n,r,q⟩:=(show b9 P w H h a (.ins C dx fs) from hok a _ e)
 exact⟨mA,⟨ob,n,ne⟩,r,q,z,d⟩
end
structure Cls (K:Fg) (C:Addr):Prop where
 pg:Xg K C U1=true
 hd:PySem.W.hasDictIn K C=true
 po:PySem.W.plainOver K C=true
 sa:XT K (.ref C) "__setattr__"=some (some (.builtin "object.__setattr__"))
theorem Cls.get{K:Fg}(c:Cls K C)(f:Str):Xg K C f=true:=c.pg
section
variable{X:Cx}{ν:List (Addr×Obj)}{σ:St}{H:Hp}{s:N5}{A:O1}{E:NY->N5->Prop}{Q:NY->N5->Prop}{c:NY}{b:Bool}
inductive TyOf (K:Fg) (H:Hp):V->NY->Prop where
 |non:TyOf K H .non (.type "NoneType")
 |bl (x:Bool):TyOf K H (.bl x) (.type "bool")
 |int (i:Int):TyOf K H (.int i) (.type "int")
 |str (x:Str):TyOf K H (.str x) (.type "str")
 |flt (x:UInt64):TyOf K H (.flt x) (.type "float")
 |lst {a:Addr} {xs:List V} (e:H a=some (.lst xs)):TyOf K H (.ref a) (.type "list")
 |frz {a:Addr} {o:Obj} {xs:List V} (e:H a=some (.frz o (.lst xs))):TyOf K H (.ref a) (.type "list")
 |tup {a:Addr} {xs:List V} (e:H a=some (.tup xs)):TyOf K H (.ref a) (.type "tuple")
 |dK {a:Addr} {de:List (bf×V)} (e:H a=some (.dK de)):TyOf K H (.ref a) (.type "dict")
 |dT {a:Addr} {de:List (List bf×V)} (e:H a=some (.dT de)):TyOf K H (.ref a) (.type "dict")
 |ins {a C dx:Addr} {fs:List (Str×V)} (e:H a=some (.ins C dx fs)) (cl:Cls K C) (ha:XT K (.ref C) "__class__"=some (some (.builtin "object.__class__")))
   (hn:PySem.W.specialIn K (.builtin "object.__class__") "__get__"=some (some (.builtin "getset_descriptor.__get__"))) (htk:PySem.W.takesIn K (.builtin "object.__class__")=some true)
   (hm:PySem.W.mroIn K C (.type "object")=some true):TyOf K H (.ref a) (.ref C)
theorem zF(I:Inv X ν σ H s)(rx:RelV x u)(ty:TyOf X.K H x t)(e:OA X.K t c=some b)(h:∀tk,Q (.bool b) {s with toks:=tk}) :
  wpAny (model X.prog X.w) A (call (.builtin "isinstance") [u,c]) Q E s:=by
 cases ty with
 |non=>cases (show u=P1 from rx);exact PN PySem.W.kitx_none I.kIn Rg e (fun z=>nomatch z) h
 |bl y=>cases (show u=Vf y from rx);exact PN PySem.W.kitx_bool I.kIn Rg e (fun z=>nomatch z) h
 |int i=>obtain⟨t,q⟩:=(show ∃t,u=R4 i t from rx);cases q;exact PN PySem.W.kitx_int I.kIn Rg e (fun z=>nomatch z) h
 |str y=>obtain⟨t,q⟩:=(show ∃t,u=V5 y t from rx);cases q;exact PN PySem.W.kitx_str I.kIn Rg e (fun z=>nomatch z) h
 |flt y=>obtain⟨t,q⟩:=(show ∃t,u=NY.float y t from rx);cases q;exact PN PySem.W.kitx_float I.kIn Rg e (fun z=>nomatch z) h
 |@lst a xs ea =>
  cases (show u=O9 a from rx);obtain⟨_,_,n,_,h1⟩:=(show b9 X.prog X.w H s.heap a (.lst xs) from I.hok a _ ea)
  exact PN WO I.kIn ⟨_,h1,rfl⟩ e (fun z=>nomatch z) h
 |@frz a ob xs ea =>
  cases (show u=O9 a from rx);obtain⟨_,_,_,n,_,h1⟩:=(show b9 X.prog X.w H s.heap a (.frz ob (.lst xs)) from I.hok a _ ea)
  exact PN WO I.kIn ⟨_,h1,rfl⟩ e (fun z=>nomatch z) h
 |@tup a xs ea =>
  cases (show u=O9 a from rx);obtain⟨_,_,_,p⟩:=(show b9 X.prog X.w H s.heap a (.tup xs) from I.hok a _ ea)
  obtain⟨o,h1,⟨h2,_⟩,_⟩:=p;exact PN Wz I.kIn ⟨o,h1,h2⟩ e (fun z=>nomatch z) h
 |@dK a de ea =>
  cases (show u=O9 a from rx);obtain⟨_,_,vs,_,p⟩:=(show b9 X.prog X.w H s.heap a (.dK de) from I.hok a _ ea)
  obtain⟨o,es,ep,h1,h2,_⟩:=p;exact PN WP I.kIn ⟨o,h1,h2.1⟩ e (fun z=>nomatch z) h
 |@dT a de ea =>
  cases (show u=O9 a from rx);obtain⟨_,_,xs,_,o,es,ep,h1,h2,_⟩:=(show b9 X.prog X.w H s.heap a (.dT de) from I.hok a _ ea)
  exact PN WP I.kIn ⟨o,h1,h2.1⟩ e (fun z=>nomatch z) h
 |@ins a C dx fs ea cl ha hn htk hm =>
  cases (show u=O9 a from rx);obtain⟨mA,O,_⟩:=Hh I.hok ea;obtain⟨od,J,_⟩:=O.look;exact PN (PySem.W.kitx_own (cl.get _) cl.hd ha hn htk hm) I.kIn J e (fun z=>nomatch z) h
end
structure Room (k:Nat) (A:O1):Prop where
 hd:A.handled=none
 dp:A.depth+3*k+5<recursionLimit
 un:A.units+16*k+200<cLine
theorem Room.mono{j:Nat}(r:Room k A)(h:j<=k):Room j A:=⟨r.hd,by have:=r.dp;lia,by have:=r.un;lia⟩
theorem Room.deeper{k:Nat}(r:Room (k+1) A)(env:Env):Room k (A.deeper env) :=
 ⟨r.hd,by have:=r.dp;show A.depth+1+3*k+5<_;lia,by have:=r.un;show A.units+3+16*k+200<_;lia⟩
theorem Room.depth(r:Room k A):A.depth<recursionLimit:=by have:=r.dp;lia
theorem Room.units(r:Room k A):A.units+64<cLine:=by have:=r.un;lia
noncomputable def ae:TA:=fun _ H Q=>Q [] H
noncomputable def ac(ta:TE)(tr:TA):TA:=fun σ H Q=>ta σ H fun x H1=>tr σ H1 fun xs H2=>Q (x :: xs) H2
section
variable{X:Cx}{e:Expr}{es:List Expr}{te:TE}{t:TA}{pos:Pos}
theorem Jw:PA X [] ae:=fun _ _ _ _ H Q I h=>Q6 ⟨[],H,I,.nil,h⟩
theorem GG(ha:PE X e te)(hr:PA X es t)(hs:starEach (e :: es) X.env=(false,eval e X.env) :: starEach es X.env:=by rfl):PA X (e :: es) (ac te t):=by
 intro pos ν s σ H Q I h;rw[hs];show wpAny _ _ (spliced ((false,eval e X.env) :: backTo pos (starEach es X.env))) _ _ s;refine QN (bg (ha ν s σ H _ I h) fun u s1 ⟨x,H1,I1,r1,q1⟩=>?_);exact bg (hr pos ν s1 σ H1 _ I1 q1) fun us s2 ⟨xs,H2,I2,r2,q2⟩=>⟨x :: xs,H2,I2,.cons r1 r2,q2⟩
noncomputable def bJ(t:TA):TE:=fun σ H Q=>t σ H fun xs H1=>xs.length<=sizeLine/\∀p,H1 p=none->Q (.ref p) (upd H1 p (.tup xs))
noncomputable def ca(t:TA):TE:=fun σ H Q=>t σ H fun xs H1=>xs.length<=sizeLine/\∀p,H1 p=none->Q (.ref p) (upd H1 p (.lst xs))
theorem Jl{x1}(h:PA X es t):PE X (.Tuple es x1 pos) (bJ t):=by
 intro ν s σ H Q I hq;refine wpAny_Tuple_spliced (bg (h pos ν s σ H _ I hq) fun us s1 ⟨xs,H1,I1,r,z,q⟩=>⟨by rw[<- r.length];exact z,?_⟩);have hf:H1 s1.heap.objs.size=none:=I1.hok.fresh (N4 _);refine⟨.ref s1.heap.objs.size,upd H1 s1.heap.objs.size (.tup xs),I1.laid (t':=s1.toks) (fun b u e=>N3 _ e) (N4 _) ?_,rfl,q _ hf⟩;exact⟨z,us,r,TupD.new _ _⟩
theorem Jq(h:PA X es t):PE X (.List es pos) (ca t):=by
 intro ν s σ H Q I hq;refine wpAny_List_spliced (bg (h pos ν s σ H _ I hq) fun us s1 ⟨xs,H1,I1,r,z,q⟩=>⟨by rw[<- r.length];exact z,?_⟩);have hf:H1 s1.heap.objs.size=none:=I1.hok.fresh (N4 _);refine⟨.ref s1.heap.objs.size,upd H1 s1.heap.objs.size (.lst xs),I1.laid (t':=s1.toks) (fun b u e=>N3 _ e) (N4 _) ?_,rfl,q _ hf⟩;exact⟨z,us,0,r,OC _ rfl⟩
end
noncomputable abbrev Sp:=List V->Hp->VK->XK->Prop
noncomputable abbrev qN:=List Env->Hp->N5->XK->NY->N5->Prop
structure DY (P:Oo) (w:OD) (K:Fg) (mg:Str->Option NY) (base:Heap) (A:O1) (outer:List Env) (s:N5) (H:Hp):Prop where
 frames:A.frames=some outer
 mod:Mod K mg base
 bs:∀b o,base.get? b=some o->s.heap.get? b=some o/\H b=none
 bsz:base.objs.size<=s.heap.objs.size
 funs:s.heap.FunFrames base outer
 frf:∀b∈wC outer,H b=none
 hok:HOk P w H s.heap
 bare:UB s.gens
noncomputable def CE(outer:List Env)(P:Oo)(w:OD)(H:Hp)(s:N5)(Q:VK)(u:NY)(s':N5):Prop :=
 ∃v H',s'.os=s.os/\UB s'.gens/\Un (wC outer) [] H H' s.heap s'.heap/\HOk P w H' s'.heap/\RelV v u/\Q v H'
noncomputable def CR(CX:qN)(outer:List Env)(P:Oo)(w:OD)(H:Hp)(s:N5)(Q:VK)(E:XK)(r:VO)(s':N5):Prop :=
 match r with
 |.ok (.ret u)=>CE outer P w H s Q u s'
 |.ok _=>False
 |.error e=>CX outer H s E e s'
structure FnOk (P:Oo) (w:OD) (K:Fg) (mg:Str->Option NY) (base:Heap) (CX:qN) (k:Nat) (f:Addr) (fd:QP) (ps:List Str) (sp:Sp):Prop where
 len:∀vs H Q E,sp vs H Q E->vs.length=ps.length
 run:∀(A:O1) (outer:List Env) (s:N5) (H:Hp) (args:Args) (us:List NY) (vs:List V) (Q:VK) (E:XK),Room k A->DY P w K mg base A outer s H->WQ s fd args (ps.zip us)->Vals vs us->sp vs H Q E ->
  codeAny (model P w) A (.call (.ref f) args) (CR CX outer P w H s Q E) s
theorem FnOk.mono{K:Fg}{CX:qN}{k:Nat}(F:FnOk P w K mg base CX j f fd ps sp)(h:j<=k) :
  FnOk P w K mg base CX k f fd ps sp:=⟨F.len,fun A outer s H args us vs Q E hr=>F.run A outer s H args us vs Q E (hr.mono h)⟩
section
variable{X:Cx}{ν:List (Addr×Obj)}{σ:St}{H:Hp}{s s':N5}
theorem Inv.env0(I:Inv X ν σ H s):DY X.prog X.w X.K X.mg X.base X.A X.stack s H :=
 ⟨I.ok.frames,I.ok.mod,I.bs,Oi I.ok.bsz I.sz,I.stack,I.xD,I.hok,I.bare⟩
theorem Inv.after(I:Inv X ν σ H s)(h:CE X.stack X.prog X.w H s Q u s'):EP X ν σ Q u s':=by
 obtain⟨v,H',os,bare,un,hok,r,q⟩:=h;obtain⟨hh,g,d,t,os'⟩:=s';obtain rfl:os'=s.os:=os;exact⟨v,H',I.call (h':=hh) (g':=g) (d':=d) (t':=t) (ch:=[]) un hok bare (fun b z=>absurd z (by simp)),r,q⟩
end
noncomputable def ay(sp:Sp)(eK:List V)(E:XK)(t:TA):TE:=fun σ H Q=>t σ H fun vs H1=>sp (vs++eK) H1 Q E
noncomputable def Binds(K:Fg)(fd:QP)(ps:List Str)(ds:List NY):Prop :=
 ∀(s:N5) (us:List NY),K.In s.heap->(us++ds).length=ps.length->WQ s fd ⟨us,[]⟩ (ps.zip (us++ds))
theorem Binds.all{K:Fg}{ps:List Str}(h:∀us:List NY,us.length=ps.length->bindArgs fd ⟨us,[]⟩=pure (ps.zip us)):Binds K fd ps []:=fun s us _ hl=>by
 rw[Qb] at hl ⊢;exact .of_eq (h us hl)
noncomputable def ou(CX:qN)(X:Cx)(E:XK):Prop:=∀(ν:List (Addr×Obj)) (σ:St) (H:Hp) (s:N5) (e:NY) (s':N5),Inv X ν σ H s->CX X.stack H s E e s'->X.xe e s'
section
variable{X:Cx}{CX:qN}{k:Nat}{f C:Addr}{fd:QP}{ps:List Str}{sp:Sp}{eK:List V}{ds:List NY}{E:XK}{x m:Str}{p pos apos:Pos}{e o:Expr}{es:List Expr}{ta:TE}{t:TA}
theorem Ix{H:Hp}{vs:List V}(F:FnOk X.prog X.w X.K X.mg X.base CX k f fd ps sp)(hr:Room k X.A)(hb:Binds X.K fd ps ds)(hd:Vals eK ds)(hx:ou CX X E)
  (I:Inv X ν σ H s) (r:Vals vs us) (h:sp (vs++eK) H Q E):wpAny (model X.prog X.w) X.A (call (.ref f) us) (EP X ν σ Q) X.xe s:=by
 have r2:Vals (vs++eK) (us++ds):=r.append hd;have hl:(us++ds).length=ps.length:=by rw[<- r2.length];exact F.len _ _ _ _ h
 refine wpAny_call (Ub (F.run X.A X.stack s H ⟨us,[]⟩ (us++ds) (vs++eK) Q E hr I.env0 (hb s us I.kIn hl) r2 h) fun r s' hq=>?_);cases r with
 |error e=>exact hx ν σ H s e s' I hq
 |ok fl =>
  cases fl with
  |ret u=>exact I.after hq
  |next=>exact Rt hq
  |brk=>exact Rt hq
  |cont=>exact Rt hq
theorem GE(F:FnOk X.prog X.w X.K X.mg X.base CX k f fd ps sp)(hr:Room k X.A)(hg:Gl X x)(hm:X.mg x=some (.ref f))(hk:Rm X.K (.ref f)=true)(hb:Binds X.K fd ps ds)(hd:Vals eK ds)(hx:ou CX X E)
  (ha:PA X (e :: es) t) (hdb:(x == ("__debug__":Str))=false:=by decide) (he:starEach (e :: es) X.env=(false,eval e X.env) :: starEach es X.env:=by rfl) (Y_:(backTo pos (starEach es X.env)).any (·.1)=false:=by rfl) :
  PE X (.Call (.Name x p) (e :: es) [] pos) (ay sp eK E t):=by
 intro ν s σ H Q I h;refine Qv (zo I hg hm ?_ hdb);refine PySem.W.callWith_K (h₀:=X.base) I.ok.mod.kin hk (bg (ha pos ν s σ H _ I h) fun us s1 ⟨vs,H1,I1,r,q⟩=>⟨I1.kIn,?_⟩) he Y_;exact Ix F hr hb hd hx I1 r q
end
structure aw (N P:List Str) (sc:Scope):Prop where
 kind:sc.kind=.function
 co:sc.isCoroutine=false
 gen:sc.isGenerator=false
 nd:N.Nodup
 pre:N.take P.length=P
 par:∀x∈P,sc.names.lookup x=some .local\/sc.names.lookup x=some .cell
 nofree:∀y∈sc.names,y.2≠.free
theorem qC{kindOf:Str->Option U2}{x:Str}:∀{binds:List (Str×NY)} {m:Str->Option NY},(∀v,(x,v)∉binds)->bindL kindOf binds m x=m x
 |[],_,_=>rfl
 |(n,v) :: r,m,h=>by
  unfold bindL;rw[qC fun w hw=>h w (NZ _ hw)];split
  ·have:x≠n:=by rintro rfl;exact h v NX
   simp[this]
  ·rfl
theorem qE{kindOf:Str->Option U2}{x:Str}:∀{binds:List (Str×NY)} {m:Str->Option NY},(∀v,(x,v)∉binds)->bindC kindOf binds m x=m x
 |[],_,_=>rfl
 |(n,v) :: r,m,h=>by
  unfold bindC;rw[qE fun w hw=>h w (NZ _ hw)];split
  ·rfl
  ·have:x≠n:=by rintro rfl;exact h v NX
   simp[this]
theorem qD{kindOf:Str->Option U2}{x:Str}{v:NY}:∀{P:List Str} {vs:List NY} {i:Nat} {m:Str->Option NY},P.Nodup->P[i]?=some x->vs[i]?=some v->kindOf x=some .local ->
  bindL kindOf (P.zip vs) m x=some v
 |[],_,_,_,_,h,_,_=>by simp at h
 |_ :: _,[],_,_,_,_,h,_=>by simp at h
 |p :: P,w :: vs,0,m,nd,h1,h2,hk=>by
  simp at h1 h2;subst h1;subst h2;show bindL kindOf ((p,w) :: P.zip vs) m p=_;unfold bindL;rw[qC fun v hv=>(OO.mp nd).1 (Vv hv).1,if_pos hk];simp
 |p :: P,w :: vs,i+1,m,nd,h1,h2,hk=>by
  show bindL kindOf ((p,w) :: P.zip vs) m x=_;unfold bindL;exact qD (i:=i) (OO.mp nd).2 (by simpa using h1) (by simpa using h2) hk
theorem qF{kindOf:Str->Option U2}{x:Str}{v:NY}:∀{P:List Str} {vs:List NY} {i:Nat} {m:Str->Option NY},P.Nodup->P[i]?=some x->vs[i]?=some v->kindOf x≠some .local ->
  bindC kindOf (P.zip vs) m x=some v
 |[],_,_,_,_,h,_,_=>by simp at h
 |_ :: _,[],_,_,_,_,h,_=>by simp at h
 |p :: P,w :: vs,0,m,nd,h1,h2,hk=>by
  simp at h1 h2;subst h1;subst h2;show bindC kindOf ((p,w) :: P.zip vs) m p=_;unfold bindC;rw[qE fun v hv=>(OO.mp nd).1 (Vv hv).1,if_neg hk];simp
 |p :: P,w :: vs,i+1,m,nd,h1,h2,hk=>by
  show bindC kindOf ((p,w) :: P.zip vs) m x=_;unfold bindC;exact qF (i:=i) (OO.mp nd).2 (by simpa using h1) (by simpa using h2) hk
noncomputable def start(N:List Str)(vs:List V):St:=vs.map some++PM (N.length-vs.length) none
noncomputable def nZ(CX:qN)(P:Oo)(w:OD)(K:Fg)(mg:Str->Option NY)(base:Heap)(N:List Str)(qual:Str)(scope:Scope)(f:Addr)(cd:NY)(A:O1)(outer:List Env)(s:N5)(H:Hp)(E:XK):Cx where
 prog:=P
 w:=w
 K:=K
 mg:=mg
 base:=base
 A:=A.deeper (envOfC qual scope s.heap.objs.size f cd)
 N:=N
 s₀:=s
 H₀:=H
 env:=envOfC qual scope s.heap.objs.size f cd
 outer:=outer
 stack:=envOfC qual scope s.heap.objs.size f cd :: outer
 ex:=[]
 calm:=true
 fn:=fun _=>true
 pn:=[]
 xe:=fun e s'=>wpAny (model P w) (A.deeper (envOfC qual scope s.heap.objs.size f cd)) (leaving (envOfC qual scope s.heap.objs.size f cd) e) (fun _ s''=>CX outer H s E e s'') (fun e' s''=>CX outer H s E e' s'') s'
theorem vB{sc:Scope}(h:sc.names.lookup x=some .cell):∃c,(cellsFrom n sc.names []).lookup x=some c:=by
 have q:=Vh sc.names n [] (.inl h);exact Ss.mp q
theorem zG{CX:qN}{K:Fg}{A:O1}{vs:List V}
  (S:aw N ps scope) (hd:A.handled=none) (e0:DY P w K mg base A outer s H) (hl:vs.length=ps.length) (r:Vals vs us)
  (x:InCallC s s.heap.objs.size (bindL (envOfC qual scope s.heap.objs.size f cd).kindOf (ps.zip us) fun _=>none) (cellsFrom (s.heap.objs.size+1) scope.names []) (bindC (envOfC qual scope s.heap.objs.size f cd).kindOf (ps.zip us) fun _=>none) s1) :
  Inv (nZ CX P w K mg base N qual scope f cd A outer s H E) [] (start N vs) H s1:=by
 have Y_:ps.length<=N.length:=by have:=congrArg QD S.pre;rw[Ot] at this;lia
 obtain⟨h1,tk,rfl,hk⟩:=x.done;have noA:∀b:Addr,b∉(nZ CX P w K mg base N qual scope f cd A outer s H E).ex:=fun b z=>absurd (show b∈([]:List Addr) from z) (by simp)
 refine⟨⟨e0.mod,S.kind,rfl,rfl,N4 _,fun y z c h1 h2=>?_,fun y hy=>?_,fun y c _ h=>?_,fun _=>hd,O1.frames_deeper e0.frames,.inr ⟨rfl,rfl⟩,fun b z=>absurd z (noA b),e0.bs,e0.bsz,fun b _ _=>noA b,fun b z=>absurd z (noA b),e0.funs,e0.frf⟩,
  rfl,e0.bare,Un.kept hk,⟨_,x.toInCall.ns,fun i y v h1 h2 h3=>?_⟩,fun y c h=>⟨_,x.cell y c h⟩,e0.hok.fresh (N4 _),fun y c h=>?_,fun p hp=>absurd (show p∈([]:List (Addr×Obj)) from hp) (by simp),e0.hok.kept hk,?_⟩
 ·exact name_of_addr x.apart (Rj h1) (Rj h2)
 ·have hy:scope.names.lookup y=some .cell\/scope.names.lookup y=some .free:=hy;rcases hy with hy|hy
  ·exact vB hy
  ·exact absurd rfl (S.nofree _ (Rj hy))
 ·exact Qa (x.above y c (Rj h))
 ·have hi:i<vs.length:=by
   unfold start at h2;by_cases hi:i<vs.length
   ·exact hi
   ·rw[Pj (by simpa using hi)] at h2;rw[List.getElem?_replicate] at h2;split at h2 <;> cases h2
  have ha:vs[i]?=some v:=by
   unfold start at h2;rw[O5 (by simpa using hi),NW] at h2;cases e:vs[i]? with
   |none=>rw[e] at h2;cases h2
   |some a=>rw[e] at h2;cases h2;rfl
  obtain⟨u,hu,rv⟩:=r.get ha
  have hp:ps[i]?=some y:=by
   rw[<- S.pre,UQ (by lia)];exact h1
  have ndP:ps.Nodup:=by rw[<- S.pre];exact S.nd.sublist (SX _ _)
  refine⟨u,rv,?_⟩;rcases S.par y (N2 hp) with k|k
  ·exact .inl ⟨k,qD ndP hp hu k⟩
  ·obtain⟨c,e⟩:=vB (n:=s.heap.objs.size+1) k;refine .inr ⟨.inl k,c,e,?_⟩;have q:=x.cell y c e;rw[qF ndP hp hu (by show scope.names.lookup y≠_;rw[k];decide)] at q;exact q
 ·exact e0.hok.fresh (Qa (x.above y c (Rj h)))
 ·unfold start;show _=N.length;rw[N6,NQ,P4];lia
theorem Nc{CX:qN}{K:Fg}{dV kV pm oc:NY}{od:Option Addr}
  {ZG:Array (Option NY)}  {sp:Sp} (lk:K.lookup f=some ⟨oc,od,.func (Ql name qual params body scope dV kV doc pm an cdv ct),ZG⟩) (hcd:RY K cdv qual=true) (S:aw N ps scope)
  (len:∀vs H Q E,sp vs H Q E->vs.length=ps.length)
  (hbody:∀(A:O1) (outer:List Env) (s:N5) (H:Hp) (vs:List V) (Q:VK) (E:XK),Room k (A.deeper (envOfC qual scope s.heap.objs.size f cdv))->sp vs H Q E ->
   ∃t,PSs (nZ CX P w K mg base N qual scope f cdv A outer s H E) body t/\t {nx:=fun _ H'=>Q .non H',rt:=Q} (start N vs) H) :
  FnOk P w K mg base CX (k+1) f (Ql name qual params body scope dV kV doc pm an cdv ct) ps sp:=by
 refine⟨len,fun A outer s H args us vs Q E hr e0 hb r hsp=>?_⟩;have hl:=len _ _ _ _ hsp;have KX:K.In s.heap:=e0.mod.kin.keeps fun b o e=>(e0.bs b o e).1
 have lim:s.heap.NoLimit:=e0.mod.nolimit.keeps fun b o e=>(e0.bs b o e).1
 have hkind:∀y∈ps.zip us,scope.names.lookup y.1=some .local\/(scope.names.lookup y.1=some .cell/\((cellsFrom (s.heap.objs.size+1) scope.names []).lookup y.1).isSome=true):=fun⟨n,v⟩ hy=>by
  rcases S.par n (Vv hy).1 with q|q
  ·exact .inl q
  ·exact .inr ⟨q,Vh _ _ _ (.inl q)⟩
 refine codeAny_call_function hr.depth (KX _ _ lk) rfl S.co S.gen rfl (PySem.W.codeRec_of KX hcd) (hb _ _ _ _ ?_);refine wpAny_newFunctionEnv_cells S.kind hkind fun env he s1 x=>?_
 subst he;refine⟨lim.keeps x.toInCall.keep,codeAny_func ?_⟩;obtain⟨t,ht,hq⟩:=hbody A outer s H vs Q E (hr.deeper _) hsp;have I:Inv (nZ CX P w K mg base N qual scope f cdv A outer s H E) [] (start N vs) H s1:=zG S hr.hd e0 hl r x;refine O_ (ht [] s1 (start N vs) H _ I hq) (fun fl s' hs=>?_) fun e s' hs=>hs
 have fin:∀{σ':St} {H':Hp} {v:V} {u:NY},Inv (nZ CX P w K mg base N qual scope f cdv A outer s H E) [] σ' H' s'->RelV v u->Q v H'->CE outer P w H s Q u s' :=
  fun {σ' H' v u} J rv q=>⟨v,H',J.os,J.bare,J.base,J.hok,rv,q⟩
 cases fl with
 |ret u =>
  obtain⟨v,σ',H',J,rv,q⟩:=hs;exact fin J rv q
 |next =>
  obtain⟨σ',H',J,q⟩:=hs;exact fin (v:=V.non) (u:=P1) J rfl q
 |brk =>
  obtain⟨_,_,_,q⟩:=hs;exact Rt q
 |cont =>
  obtain⟨_,_,_,q⟩:=hs;exact Rt q
section
variable{X:Cx}{x:Str}{p pos:Pos}{e:Expr}{es:List Expr}{t:TA}{id T:String}{r:List V->Hp->VK->Prop}
noncomputable def aZ(r:List V->Hp->VK->Prop)(t:TA):TE:=fun σ H Q=>t σ H fun vs H1=>r vs H1 Q
theorem dJ(hc:dZ X (.builtin id) r) (hg:Gl X x) (hm:X.mg x=none) (hv:bootBuiltins x=some (.builtin id)) (ha:PA X (e :: es) t) (hn:x≠"__name__":=by decide) (hdb:(x == ("__debug__":Str))=false:=by decide)
  (he:starEach (e :: es) X.env=(false,eval e X.env) :: starEach es X.env:=by rfl) (Y_:(backTo pos (starEach es X.env)).any (·.1)=false:=by rfl):PE X (.Call (.Name x p) (e :: es) [] pos) (aZ r t):=by
 intro ν s σ H Q I h;refine Qv (f7 I hg hm hv ?_ hn hdb);exact Tp (bg (ha pos ν s σ H _ I h) fun us s1 ⟨vs,H1,I1,r1,q1⟩=>hc ν s1 σ H1 vs us Q I1 r1 q1) he Y_
theorem jx(hc:dZ X (.type T) r) (hg:Gl X x) (hm:X.mg x=none) (hv:bootBuiltins x=some (.type T)) (ha:PA X (e :: es) t) (hn:x≠"__name__":=by decide) (hdb:(x == ("__debug__":Str))=false:=by decide)
  (he:starEach (e :: es) X.env=(false,eval e X.env) :: starEach es X.env:=by rfl) (Y_:(backTo pos (starEach es X.env)).any (·.1)=false:=by rfl):PE X (.Call (.Name x p) (e :: es) [] pos) (aZ r t):=by
 intro ν s σ H Q I h;refine Qv (f7 I hg hm hv ?_ hn hdb);exact Pu (bg (ha pos ν s σ H _ I h) fun us s1 ⟨vs,H1,I1,r1,q1⟩=>hc ν s1 σ H1 vs us Q I1 r1 q1) he Y_
end
end L2
namespace HT
open PySem PyProof.Rows
section
variable{prog:Oo}{w:OD}{A:O1}{E:NY->N5->Prop}{s:N5}
noncomputable def sIx(n d:Nat):Option Int->Nat
 |none=>d
 |some v=>if v<0 then (v+(n:Int)).toNat else min v.toNat n
end
end HT
namespace L2
open PySem PySem.Spec PyProof.Rows
noncomputable abbrev TO:=St->Hp->(Option Int->Hp->Prop)->Prop
noncomputable def PO(X:Cx)(e:Option Expr)(t:TO):Prop :=
 ∀(ν:List (Addr×Obj)) (s:N5) (σ:St) (H:Hp) (Q:Option Int->Hp->Prop),Inv X ν σ H s->t σ H Q ->
  wpAny (model X.prog X.w) X.A (evalPart e X.env) (fun u s'=>∃o H',Inv X ν σ H' s'/\IsPart u o/\Q o H') X.xe s
noncomputable def mz:TO:=fun _ H Q=>Q none H
noncomputable def Bm(t:TE):TO:=fun σ H Q=>t σ H fun x H1=>∃i,x=.int i/\Q (some i) H1
theorem intsAre_of{ns:List Int}:∀{us:List NY},Vals (ns.map V.int) us->RT us ns:=by
 induction ns with
 |nil=>intro us r;rw[R_] at r;cases r;exact .nil
 |cons n ns ih =>
  intro us r;rw[OS] at r;cases r with
  |cons r1 r2 =>
   obtain⟨t,e⟩:=r1;subst e;exact .cons n t (ih r2)
section
variable{X:Cx}{e:Expr}{te:TE}{lo hi:Option Expr}{tl th:TO}{pos p2:Pos}
theorem Gw:PO X none mz:=by
 intro ν s σ H Q I h;rw[evalPart_none];exact Oc ⟨none,H,I,.none,h⟩
theorem Gv(h:PE X e te):PO X (some e) (Bm te):=by
 intro ν s σ H Q I hw;rw[evalPart_some];refine bg (h ν s σ H _ I hw) fun u s1 ⟨x,H1,I1,r1,q1⟩=>?_
 obtain⟨i,rfl,q⟩:=q1;obtain⟨t,rfl⟩:=r1;exact⟨some i,H1,I1,.int i t,q⟩
noncomputable def LR(X:Cx)(r:V->Option Int->Option Int->Hp->VK->Prop):Prop :=
 ∀(ν:List (Addr×Obj)) (s:N5) (σ:St) (H:Hp) (x:V) (v vl vu:NY) (lo hi:Option Int) (sl:Addr) (Q:VK),Inv X ν σ H s->RelV x v->s.heap.IsSliceOf sl vl vu .none->IsPart vl lo->IsPart vu hi->r x lo hi H Q ->
  ∃T id,typeLookup (.type T) "__getitem__"=pure (some (.builtin id))/\s.TypeIs v T/\wpAny (model X.prog X.w) X.A (getItem v (.ref sl)) (EP X ν σ Q) X.xe s
noncomputable def LL(r:V->Option Int->Option Int->Hp->VK->Prop)(te:TE)(tl th:TO):TE:=fun σ H Q=>te σ H fun x H1=>tl σ H1 fun l H2=>th σ H2 fun u H3=>r x l u H3 Q
theorem CD(hr:LR X r)(he:PE X e te)(hl:PO X lo tl)(hu:PO X hi th):PE X (.Subscript e (.Slice lo hi none p2) pos) (LL r te tl th):=by
 intro ν s σ H Q I h;refine Subscript_ (bg (he ν s σ H _ I h) fun v s1 ⟨x,H1,I1,r1,q1⟩=>?_);refine wpAny_Slice (bg (hl ν s1 σ H1 _ I1 q1) fun vl s2 ⟨l,H2,I2,pl,q2⟩=>bg (hu ν s2 σ H2 _ I2 q2) fun vu s3 ⟨u,H3,I3,pu,q3⟩=>?_);rw[evalPart_none];refine Oc ?_;have I4:Inv X ν σ H3 {s3 with heap:=s3.heap.push {cls:=.type "slice",data:=.fields #[vl,vu,.none]}}:=I3.kept (t':=s3.toks) fun b ob q=>N3 _ q
 obtain⟨T,id,hT,ht,hg⟩:=hr ν {s3 with heap:=s3.heap.push {cls:=.type "slice",data:=.fields #[vl,vu,.none]}} σ H3 x v vl vu l u s3.heap.objs.size Q I4 r1 (Heap.IsSliceOf.new ..) pl pu q3;show wpAny (model X.prog X.w) X.A (subscriptTail e (.Slice lo hi none p2) v (.ref s3.heap.objs.size)) (EP X ν σ Q) X.xe {s3 with heap:=s3.heap.push {cls:=.type "slice",data:=.fields #[vl,vu,.none]}};exact tail_any (ops:=[.ref s3.heap.objs.size,v]) ht hT hg (by with_unfolding_all rfl)
noncomputable def wt(xs:List V)(lo hi:Option Int):List V:=(xs.drop (HT.sIx xs.length 0 lo)).take (HT.sIx xs.length xs.length hi-HT.sIx xs.length 0 lo)
theorem tM(xs:List V)(lo hi:Option Int):(wt xs lo hi).length<=xs.length:=by
 unfold wt;rw[Ot,PX];lia
end
noncomputable def HP(n:Nat)(i:Int):Option Nat:=if 0<=i then (if i<n then some i.toNat else none) else if -(n:Int)<=i then some (i+n).toNat else none
noncomputable def tT{α:Type}(xs:List α)(i:Int):Option α:=(HP xs.length i).bind fun j=>xs[j]?
theorem Hg{j:Nat}(h:HP n i=some j):seqIndex? i n=some j/\j<n/\-(n:Int)<=i/\i<n:=by
 unfold HP at h;by_cases h0:0<=i
 ·rw[if_pos h0] at h;by_cases h1:i<n
  ·rw[if_pos h1] at h;have e:i.toNat=j:=Oq h;exact⟨by rw[seqIndex_of h0 h1,e],by lia,by lia,h1⟩
  ·rw[if_neg h1] at h;cases h
 ·rw[if_neg h0] at h;by_cases h1 : -(n:Int)<=i
  ·rw[if_pos h1] at h;have e:(i+n).toNat=j:=Oq h;exact⟨by rw[seqIndex_neg (by lia) h1,e],by lia,h1,by lia⟩
  ·rw[if_neg h1] at h;cases h
theorem tS{α:Type}{xs:List α}{v:α}(h:tT xs i=some v):∃j,seqIndex? i xs.length=some j/\xs[j]?=some v/\j<xs.length/\-(xs.length:Int)<=i/\i<xs.length:=by
 unfold tT at h;cases e:HP xs.length i with
 |none=>rw[e] at h;cases h
 |some j =>
  rw[e] at h;obtain⟨h1,h2,h3,h4⟩:=Hg e;exact⟨j,h1,h,h2,h3,h4⟩
theorem aG{α:Type}{xs:List α}{j:Nat}{v:α}(h:xs[j]?=some v):tT xs (j:Int)=some v:=by
 have hj:j<xs.length:=(NT.mp h).1
 have e:HP xs.length (j:Int)=some j:=by
  unfold HP;rw[if_pos (by lia),if_pos (by lia)];simp
 unfold tT;rw[e];exact h
noncomputable def HF(b:Expr):Prop:=∀o i,subscripted b false o i=operate [o,i] (getItem o i)
noncomputable def IxR(X:Cx)(r:R2):Prop :=
 ∀(value slice:Expr) (ν:List (Addr×Obj)) (s:N5) (σ:St) (H:Hp) (x y:V) (v u:NY) (Q:VK),Inv X ν σ H s->RelV x v->RelV y u->r x y H Q ->
  subscripted slice false v u=operate [v,u] (getItem v u)->wpAny (model X.prog X.w) X.A (subscriptTail value slice v u) (EP X ν σ Q) X.xe s
noncomputable def LU(X:Cx)(id:String)(r:V->List V->Hp->VK->Prop):Prop :=
 ∀(ν:List (Addr×Obj)) (s:N5) (σ:St) (H:Hp) (x:V) (xs:List V) (v:NY) (us:List NY) (Q:VK),Inv X ν σ H s->RelV x v->Vals xs us->r x xs H Q ->
  wpAny (model X.prog X.w) X.A (call (.builtin id) (v :: us)) (EP X ν σ Q) X.xe s
section
variable{X:Cx}{a b:Expr}{ta tb:TE}{pos:Pos}
theorem IxR.or(h:IxR X r)(h':IxR X r'):IxR X (fun x y H Q=>r x y H Q\/r' x y H Q):=by
 intro value slice ν s σ H x y v u Q I rx ry q hs;rcases q with q|q
 ·exact h value slice ν s σ H x y v u Q I rx ry q hs
 ·exact h' value slice ν s σ H x y v u Q I rx ry q hs
theorem Me(hr:IxR X r)(ha:PE X a ta)(hb:PE X b tb)(hs:HF b):PE X (.Subscript a b pos) (aq r ta tb):=by
 intro ν s σ H Q I h;exact Subscript_ (Hz ha hb I h fun v u s2 x y H2 I2 rx ry q=>hr a b ν s2 σ H2 x y v u Q I2 rx ry q (hs _ _))
noncomputable def bX(K:Fg):R2:=fun x y H Q=>∃p xs i v,x=.ref p/\y=.int i/\SqL K H p xs/\tT xs i=some v/\Q v H
noncomputable def aE(K:Fg):R2:=fun x y H Q=>∃p xs i v,x=.ref p/\y=.int i/\SqT K H p xs/\tT xs i=some v/\Q v H
noncomputable def Ct:R2:=fun x y H Q=>∃z i c,x=.str z/\y=.int i/\z.length<=sizeLine/\tT z.cps.toList i=some c/\Q (.str ⟨#[c]⟩) H
theorem zC:IxR X (bX X.K):=by
 intro value slice ν s σ H x y v u Q I rx ry h hs;obtain⟨p,xs,i,z,rfl,rfl,hq,he,q⟩:=h;cases rx;obtain⟨t,rfl⟩:=ry;obtain⟨dk,r,pl,hz⟩:=I.list hq;obtain⟨j,h1,h2,h3,h4,h5⟩:=tS he;obtain⟨w,ew,Zd⟩:=r.get h2;have hl:=r.length;have hn:=uU;have fin:EP X ν σ Q w s:=⟨z,H,I,Zd,q⟩
 by_cases h0:0<=i
 ·have hj:i.toNat=j:=by
   rw[seqIndex_of h0 h5] at h1;exact Oq h1
  exact item_listR pl.isList h0 (by lia) (by rw[hj];simpa using ew) fin hs
 ·have hj:(i+(dk.toArray.size:Int)).toNat=j:=by
   rw[seqIndex_neg (by lia) h4] at h1;rw[Ov,<- hl];exact Oq h1
  exact Vi (x:=w) pl.isList.typeIs slot_list_getitem.lookup
   (wpAny_getItem_list_neg (Q:=fun r s'=>r=w/\EP X ν σ Q r s') pl.isList (by lia) (by rw[Ov] <;> lia) (by lia) (by rw[hj];simpa using ew) ⟨rfl,fin⟩) hs
theorem EQ:IxR X (aE X.K):=by
 intro value slice ν s σ H x y v u Q I rx ry h hs;obtain⟨p,xs,i,z,rfl,rfl,hq,he,q⟩:=h;cases rx;obtain⟨t,rfl⟩:=ry;obtain⟨dk,r,pl,hz⟩:=I.tuple hq;obtain⟨j,h1,h2,h3,h4,h5⟩:=tS he;obtain⟨w,ew,Zd⟩:=r.get h2;have hl:=r.length;have hn:=uU;have fin:EP X ν σ Q w s:=⟨z,H,I,Zd,q⟩
 exact Vi (x:=w) pl.typeIs slot_tuple_getitem.lookup
  (getItem_tuple (j:=j) (Q:=fun r s'=>r=w/\EP X ν σ Q r s') pl (by lia) (by lia) (by rw[Ov,<- hl];exact h1) (by simpa using ew) ⟨rfl,fin⟩) hs
theorem ES:IxR X Ct:=by
 intro value slice ν s σ H x y v u Q I rx ry h hs;obtain⟨z,i,c,rfl,rfl,hz,he,q⟩:=h;obtain⟨t,rfl⟩:=rx;obtain⟨t',rfl⟩:=ry;obtain⟨j,h1,h2,h3,h4,h5⟩:=tS he;have hl:z.cps.toList.length=z.length:=by simp[XU]
 rw[hl] at h1 h4 h5;have hn:=uU
 exact tail_any (typeIs_str s z t) slot_str_getitem.lookup (getItem_str (c:=c) (by
  have e1:decide (i < -(2 ^ 63:Int))=false:=decide_eq_false (by lia)
  have e2:decide (i≥2 ^ 63)=false:=decide_eq_false (by lia)
  rw[e1,e2,X7]) (by rw[h1];simpa using h2) ⟨.str ⟨#[c]⟩,H,I.tok _,⟨_,rfl⟩,q⟩) hs
noncomputable def Gh(K:Fg):R2:=fun x y H Q=>bX K x y H Q\/aE K x y H Q\/Ct x y H Q
theorem KC:IxR X (Gh X.K):=zC.or (EQ.or ES)
theorem oN(lo hi:Option Int)(n:Nat):(sliceBounds lo hi none n).1=((HT.sIx n 0 lo:Nat):Int)/\(sliceBounds lo hi none n).2.1=((HT.sIx n n hi:Nat):Int)/\(sliceBounds lo hi none n).2.2=1:=by
 refine⟨?_,?_,rfl⟩
 ·cases lo with
  |none=>simp[sliceBounds,HT.sIx]
  |some i =>
   simp only[sliceBounds,HT.sIx,Xh,show(1:Int) > 0 by decide,if_true];by_cases h:i<0
   ·simp only[h,if_true] <;> lia
   ·simp only[h,if_false] <;> lia
 ·cases hi with
  |none=>simp[sliceBounds,HT.sIx]
  |some i =>
   simp only[sliceBounds,HT.sIx,Xh,show(1:Int) > 0 by decide,if_true];by_cases h:i<0
   ·simp only[h,if_true] <;> lia
   ·simp only[h,if_false] <;> lia
theorem mP(dk:List NY)(lo hi:Option Int):slicePick dk.toArray lo hi none=((dk.drop (HT.sIx dk.length 0 lo)).take (HT.sIx dk.length dk.length hi-HT.sIx dk.length 0 lo)).toArray:=by
 obtain⟨h1,h2,h3⟩:=oN lo hi dk.toArray.size;unfold slicePick;rw[h1,h2,h3];simp only[sliceRange_one,pick_run,Ov] <;> rfl
noncomputable def IN(K:Fg):V->Option Int->Option Int->Hp->VK->Prop:=fun x lo hi H Q=>∃a xs,x=.ref a/\SqL K H a xs/\∀p,H p=none->Q (.ref p) (upd H p (.lst (wt xs lo hi)))
theorem FE:LR X (IN X.K):=by
 intro ν s σ H x v vl vu lo hi sl Q I rx hs pl pu h;obtain⟨a,xs,rfl,hx,q⟩:=h;cases rx;obtain⟨dk,r,ht,hz⟩:=I.list hx;have hlen:=r.length;refine⟨"list",_,slot_list_getitem.lookup,ht.isList.typeIs,?_⟩;refine wpAny_getItem_list_slice ht.isList hs pl pu .none (by simp) ?_ (by rw[Ov] <;> lia);rw[mP,<- hlen];refine⟨.ref s.heap.objs.size,_,I.laid (t':=s.toks) (o:=.lst (wt xs lo hi)) (fun b ob q=>N3 _ q) (N4 _) ?_,rfl,q _ (I.hok.fresh (N4 _))⟩;exact⟨Oi (tM xs lo hi) hz,_,0,(r.drop (HT.sIx xs.length 0 lo)).take (HT.sIx xs.length xs.length hi-HT.sIx xs.length 0 lo),OC _ rfl⟩
theorem qu:dZ X (.builtin "len") (fun xs H Q=>∃p ys,xs=[.ref p]/\(SqL X.K H p ys\/SqT X.K H p ys)/\Q (.int ys.length) H):=by
 intro ν s σ H xs us Q I r h;obtain⟨p,ys,rfl,hq,q⟩:=h;obtain⟨u,rfl,rx⟩:=vals1 r;cases rx;have hn:=uU;rcases hq with hq|hq
 ·obtain⟨dk,r',pl,hz⟩:=I.list hq;have hlen:=r'.length;exact Calls.call_len_list pl.isList (by simp only[Ov] <;> lia) ⟨.int ys.length,H,I.tok _,⟨s.toks+1,by rw[Ov,hlen]⟩,q⟩
 ·obtain⟨dk,r',pl,hz⟩:=I.tuple hq;have hlen:=r'.length;exact len_tuple pl (by simp only[Ov] <;> lia) ⟨.int ys.length,H,I.tok _,⟨s.toks+1,by rw[Ov,hlen]⟩,q⟩
theorem qt:dZ X (.type "list") (fun xs H Q=>∃p ys,xs=[.ref p]/\(SqL X.K H p ys\/SqT X.K H p ys)/\∀l,H l=none->Q (.ref l) (upd H l (.lst ys))):=by
 intro ν s σ H xs us Q I r h;obtain⟨p,ys,rfl,hq,q⟩:=h;obtain⟨u,rfl,rx⟩:=vals1 r;cases rx
 have fin:∀(dk:List NY),Vals ys dk->ys.length<=sizeLine->∀(h':Heap) (c':Nat),(∀b o',s.heap.get? b=some o'->h'.get? b=some o') ->
   h'.get? s.heap.objs.size=some {cls:=.type "list",dict:=none,data:=.seq dk.toArray c',slots:=#[]}->EP X ν σ Q (.ref s.heap.objs.size) {s with heap:=h'}:=fun dk r' hz h' c' kp e =>
  ⟨.ref s.heap.objs.size,_,I.laid (t':=s.toks) kp (N4 _) (show b9 X.prog X.w _ h' _ (.lst ys) from⟨hz,dk,c',r',e⟩),rfl,q _ (I.hok.fresh (N4 _))⟩
 rcases hq with hq|hq
 ·obtain⟨dk,r',pl,hz⟩:=I.list hq;have hlen:=r'.length;obtain⟨o,ho,hc,n,hd⟩:=pl.isList;exact call_list_seq p (.inl rfl) ho hc hd (fun h' c' kp e=>fin dk r' hz h' c' kp e) (by simp only[Ov] <;> lia)
 ·obtain⟨dk,r',pl,hz⟩:=I.tuple hq;have hlen:=r'.length;obtain⟨o,ho,hc,n,hd⟩:=pl;exact call_list_seq p (.inr rfl) ho hc hd (fun h' c' kp e=>fin dk r' hz h' c' kp e) (by simp only[Ov] <;> lia)
theorem n9:dZ X (.type "tuple") (fun xs H Q=>∃p ys,xs=[.ref p]/\((SqL X.K H p ys/\∀l,H l=none->Q (.ref l) (upd H l (.tup ys)))\/(SqT X.K H p ys/\Q (.ref p) H))):=by
 intro ν s σ H xs us Q I r h;obtain⟨p,ys,rfl,h⟩:=h;obtain⟨u,rfl,rx⟩:=vals1 r;cases rx;rcases h with⟨hq,q⟩|⟨hq,q⟩
 ·obtain⟨dk,r',pl,hz⟩:=I.list hq;have hlen:=r'.length;refine call_tuple_list pl.isList (fun h' kp=>?_) (by simp only[Ov] <;> lia);have I1:Inv X ν σ H {s with heap:=h'}:=I.kept (t':=s.toks) kp
  have I2:Inv X ν σ (upd H h'.objs.size (.tup ys)) {s with heap:=h'.push {cls:=.type "tuple",data:=.seq dk.toArray}} :=
   I1.laid (t':=s.toks) (fun b o e=>N3 _ e) (N4 _) (show b9 X.prog X.w _ _ _ (.tup ys) from⟨hz,dk,r',TupD.new _ _⟩)
  exact⟨.ref h'.objs.size,_,I2,rfl,q _ (I1.hok.fresh (N4 _))⟩
 ·obtain⟨dk,r',pl,hz⟩:=I.tuple hq;exact call_tuple_same pl ⟨.ref p,H,I,rfl,q⟩
noncomputable def D9(K:Fg)(T:String)(x:V)(H:Hp):Prop:=match x with
 |.str _=>T = "str"
 |.int _=>T = "int"
 |.ref p=>(T = "list"/\∃xs,SqL K H p xs)\/(T = "tuple"/\∃o,K.lookup p=some o/\o.cls=.type "tuple"/\o.dict=none) \/
   (T = "dict"/\((∃de,H p=some (.dK de))\/∃de,H p=some (.dT de)))\/(T = "set"/\∃S n,H p=some (.set S n))
 |_=>False
theorem D8{H:Hp}{T:String}(I:Inv X ν σ H s)(r:RelV x v)(ty:D9 X.K T x H) :
  s.TypeIs v T/\∀a,v=.ref a->∃ob,s.heap.get? a=some ob/\ob.dict=none:=by
 cases x with
 |str z =>
  obtain⟨t,rfl⟩:=r;cases (show T = "str" from ty);exact⟨typeIs_str s z t,fun _ e=>nomatch e⟩
 |int i =>
  obtain⟨t,rfl⟩:=r;cases (show T = "int" from ty);exact⟨typeIs_int s i t,fun _ e=>nomatch e⟩
 |ref p =>
  cases r;rcases ty with⟨rfl,xs,hq⟩|⟨rfl,o,hk,hc,hd⟩|⟨rfl,hk⟩|⟨rfl,S,n,hk⟩
  ·obtain⟨dk,_,pl,_⟩:=I.list hq;refine⟨pl.isList.typeIs,fun a e=>?_⟩;cases e;obtain⟨o,n,e,c,hd,_⟩:=pl;exact⟨o,e,hd⟩
  ·refine⟨⟨o,I.kIn p o hk,hc⟩,fun a e=>?_⟩;cases e;exact⟨o,I.kIn _ o hk,hd⟩
  ·have z:∃o,s.heap.get? p=some o/\o.ExactDict:=by
    rcases hk with⟨de,hk⟩|⟨de,hk⟩
    ·obtain⟨_,_,_,_,o,_,_,e,ex,_⟩:=I.hok p _ hk;exact⟨o,e,ex⟩
    ·obtain⟨_,_,_,_,o,_,_,e,ex,_⟩:=I.hok p _ hk;exact⟨o,e,ex⟩
   obtain⟨o,e,ex⟩:=z;refine⟨⟨o,e,ex.1⟩,fun a e2=>?_⟩;cases e2;exact⟨o,e,ex.2.1⟩
  ·obtain⟨o,_,_,_,e,ex,_⟩:=I.hok p _ hk;refine⟨⟨o,e,ex.1⟩,fun a e2=>?_⟩;cases e2;exact⟨o,e,ex.2.1⟩
 |_=>exact Rt ty
noncomputable def vQ(K:Fg)(T:String)(r:V->List V->Hp->VK->Prop)(to:TE):TE:=fun σ H Q=>to σ H fun x H1=>D9 K T x H1/\r x [] H1 Q
noncomputable def eJ(K:Fg)(T:String)(r:V->List V->Hp->VK->Prop)(to:TE)(t:TA):TE:=fun σ H Q=>to σ H fun x H1=>D9 K T x H1/\t σ H1 fun xs H2=>r x xs H2 Q
variable{o e:Expr}{es:List Expr}{to:TE}{t:TA}{name:Str}{apos Yx:Pos}{T id:String}{r:V->List V->Hp->VK->Prop}
theorem Ex(pa:PlainAttrs T) (slot:Slot T name id) (hty:typeOf (.builtin id)=pure (.type "method_descriptor")) (hm:LU X id r) (ho:PE X o to)
  (hbase:attributeBase o name X.env (eval o X.env)=eval o X.env:=by rfl) (hline:(apos.endLine == Yx.line)=true:=by rfl):PE X (.Call (.Attribute o name apos) [] [] Yx) (vQ X.K T r to):=by
 intro ν s σ H Q I h;refine wpAny_Call_method0_late hbase hline (bg (ho ν s σ H _ I h) fun v s1 ⟨x,H1,I1,r1,ty,q1⟩=>?_);obtain⟨h1,h2⟩:=D8 I1 r1 ty;exact⟨T,id,pa,slot,hty,h1,h2,SY rfl (PySem.evalArgs_none (hm ν s1 σ H1 x [] v [] Q I1 r1 .nil q1))⟩
theorem yJ(pa:PlainAttrs T) (slot:Slot T name id) (hty:typeOf (.builtin id)=pure (.type "method_descriptor")) (hm:LU X id r) (ho:PE X o to) (ha:PA X (e :: es) t)
  (hbase:attributeBase o name X.env (eval o X.env)=eval o X.env:=by rfl)
  (hfew:((backTo Yx (starEach (e :: es) X.env)).all (fun x=>!x.1) && (backToKw Yx (keywordEach [] X.env)).all (fun x=>x.1.isSome)
   && decide ((e :: es).length+([]:List XN).length+(if ([]:List XN).isEmpty then 0 else 1)<30))=true:=by rfl)
  (hline:(apos.endLine == Yx.line)=true:=by rfl) (hs:starEach (e :: es) X.env=(false,eval e X.env) :: starEach es X.env:=by rfl) (hplain:(backTo Yx (starEach es X.env)).any (·.1)=false:=by rfl) :
  PE X (.Call (.Attribute o name apos) (e :: es) [] Yx) (eJ X.K T r to t):=by
 intro ν s σ H Q I h;refine wpAny_Call_method_late hbase hfew hline rfl (bg (ho ν s σ H _ I h) fun v s1 ⟨x,H1,I1,r1,ty,q1⟩=>?_);obtain⟨h1,h2⟩:=D8 I1 r1 ty;refine⟨T,id,pa,slot,hty,h1,h2,?_⟩;have hA:=ha Yx ν s1 σ H1 _ I1 q1;rw[hs] at hA ⊢;refine SY (by show(false || (backTo Yx (starEach es X.env)).any (·.1))=false;rw[hplain] <;> rfl) (VP ?_);exact bg hA fun us s2 ⟨vs,H2,I2,r2,q2⟩=>hm ν s2 σ H2 x vs v us Q I2 r1 r2 q2
end
noncomputable def Ly(X:Cx)(id:String)(r:V->List V->Hp->VK->Prop):Prop :=
 ∀(ν:List (Addr×Obj)) (s:N5) (σ:St) (H:Hp) (x:V) (xs:List V) (v:NY) (us:List NY) (Q:VK),Inv X ν σ H s->RelV x v->Vals xs us->r x xs H Q ->
  wpAny (model X.prog X.w) X.A (call (.builtin id) (v :: us)) (EP X ν σ Q) X.xe s
theorem Vals.one:∀{x:V} {us:List NY},Vals [x] us->∃u,us=[u]/\RelV x u
 |_,_,.cons r .nil=>⟨_,rfl,r⟩
theorem Vals.zero:∀{us:List NY},Vals [] us->us=[]
 |_,.nil=>rfl
theorem Vals.dropLast(h:Vals xs us):Vals xs.dropLast us.dropLast:=by
 induction h with
 |nil=>exact .nil
 |cons r t ih =>
  cases t with
  |nil=>exact .nil
  |cons q t'=>exact .cons r ih
theorem Vals.eraseIdx:∀{xs:List V} {us:List NY} (i:Nat),Vals xs us->Vals (xs.eraseIdx i) (us.eraseIdx i)
 |_,_,_,.nil=>.nil
 |_,_,0,.cons _ t=>t
 |_,_,i+1,.cons r t=>.cons r (Vals.eraseIdx i t)
theorem wg{α:Type}(l:List α):l.eraseIdx (l.length-1)=l.dropLast:=by
 induction l with
 |nil=>rfl
 |cons a r ih =>
  cases r with
  |nil=>rfl
  |cons b r =>
   have e:(a :: b :: r).length-1=((b :: r).length-1)+1:=by
    have h1:(a :: b :: r).length=r.length+2:=rfl;have h2:(b :: r).length=r.length+1:=rfl;lia
   rw[e,List.eraseIdx_cons_succ,ih]
   all_goals rfl
theorem pT{α:Type}:∀(l:List α) (i:Nat),(l.eraseIdx i).length<=l.length
 |[],_=>N4 _
 |_ :: _,0=>UD _
 |_ :: r,i+1=>Sa (pT r i)
section
variable{X:Cx}{ν:List (Addr×Obj)}{σ:St}{H:Hp}{s:N5}{l b:Addr}{xs ys zs:List V}
theorem Inv.lset{dk its':List NY}{f:Array NY->Array NY}{t':Nat}(I:Inv X ν σ H s)(hH:H l=some (.lst xs))
  (e:s.heap.get? l=some {cls:=.type "list",data:=.seq dk.toArray n}) (hf:f dk.toArray=its'.toArray) (hv:Vals ys its') (hz:ys.length<=sizeLine) :
  Inv X ν σ (upd H l (.lst ys)) {s with heap:=s.heap.update l (Vj f),toks:=t'}:=by
 have q:=PySem.IsL.update e f;rw[hf] at q;refine I.write (x:=l) (e:=l) (by rw[hH];exact trivial) (.inl rfl) (fun b' u hb hu=>(Heap.get?_update_other s.heap (Vj f) (SW hb)).trans hu) ⟨_,q⟩ ?_;exact⟨hz,its',_,hv,q⟩
theorem Inv.lnew{t':Nat}(I:Inv X ν σ H s)(hv:Vals ys dk)(hz:ys.length<=sizeLine) :
  Inv X ν σ (upd H s.heap.objs.size (.lst ys)) {s with heap:=s.heap.push {cls:=.type "list",data:=.seq dk.toArray},toks:=t'} :=
 I.laid (fun _ _ q=>N3 _ q) (N4 _) ⟨hz,dk,0,hv,OC _ rfl⟩
theorem Inv.fresh(I:Inv X ν σ H s):H s.heap.objs.size=none:=I.hok.fresh (N4 _)
theorem Inv.lstM(I:Inv X ν σ H s) (hH:H l=some (.lst xs)):xs.length<=sizeLine/\∃(dk:List NY) (n:Nat),Vals xs dk/\xs.length=dk.length/\s.heap.get? l=some {cls:=.type "list",data:=.seq dk.toArray n}:=by
 obtain⟨z,dk,n,r,e⟩:=I.hok l _ hH;exact⟨z,dk,n,r,r.length,e⟩
theorem CY{n:Nat}(h:n<=sizeLine):Su n=false:=by
 unfold Su;exact decide_eq_false (by lia)
end
section
variable{X:Cx}
noncomputable def aM:V->List V->Hp->VK->Prop:=fun x vs H Q=>∃l xs y,x=.ref l/\vs=[y]/\H l=some (.lst xs)/\xs.length<sizeLine/\Q .non (upd H l (.lst (xs++[y])))
theorem jF:Ly X "list.append" aM:=by
 intro ν s σ H x vs v us Q I rx rv h;obtain⟨l,xs,y,rfl,rfl,hH,hz,q⟩:=h;cases rx;obtain⟨u,rfl,ru⟩:=rv.one;obtain⟨z,dk,n,r,hl,e⟩:=I.lstM hH;refine Tq F.slot_list_append ⟨_,e,rfl⟩ F.entry_list_append (F.args_list_append_2 _ _) (PySem.list_append l dk.toArray n u (by rw[Ov];lia)) ⟨e,?_⟩;refine⟨.non,_,I.lset (its':=dk++[u]) hH e (by simp) (r.append (.cons ru .nil)) ?_,rfl,q⟩;rw[N6,Qt];lia
noncomputable def jr:V->List V->Hp->VK->Prop:=fun x vs H Q=>∃l b xs zs,x=.ref l/\vs=[.ref b]/\H l=some (.lst xs)/\H b=some (.lst zs)/\xs.length+zs.length<=sizeLine/\Q .non (upd H l (.lst (xs++zs)))
theorem yY:Ly X "list.extend" jr:=by
 intro ν s σ H x vs v us Q I rx rv h;obtain⟨l,b,xs,zs,rfl,rfl,hH,hB,hz,q⟩:=h;cases rx;obtain⟨u,rfl,ru⟩:=rv.one;cases ru;obtain⟨z,dk,n,r,hl,e⟩:=I.lstM hH;obtain⟨z2,Zc,n2,r2,Y8,e2⟩:=I.lstM hB;have hsz:dk.toArray.size+Zc.toArray.size<=sizeLine:=by rw[Ov,Ov];lia
 have hlong : ¬ (!dk.toArray.isEmpty && Su (dk.toArray.size+Zc.toArray.size))=true:=by
  rw[CY hsz,Bool.and_false];exact OH
 refine Tq F.slot_list_extend ⟨_,e,rfl⟩ F.entry_list_extend (F.args_list_extend_2 _ _)
  (AutoSeq1.list_extend_list_list_0 l dk.toArray n b Zc.toArray n2 hlong (by rw[Ov];lia) (by lia)) ⟨e,e2,?_⟩
 refine⟨.non,_,I.lset (its':=dk++Zc) hH e (by simp) (r.append r2) ?_,rfl,q⟩;rw[N6];lia
noncomputable def Cq:V->List V->Hp->VK->Prop:=fun x vs H Q=>∃l xs y,x=.ref l/\vs=[]/\H l=some (.lst xs)/\xs[xs.length-1]?=some y/\Q y (upd H l (.lst xs.dropLast))
theorem JQ:Ly X "list.pop" Cq:=by
 intro ν s σ H x vs v us Q I rx rv h;obtain⟨l,xs,y,rfl,rfl,hH,hy,q⟩:=h;cases rx;have hus:=rv.zero;subst hus;obtain⟨z,dk,n,r,hl,e⟩:=I.lstM hH;obtain⟨u,hu,ru⟩:=r.get hy
 have hy':dk.toArray[dk.toArray.size-1]?=some u:=by
  show dk.toArray[dk.length-1]?=some u;rw[<- OI,<- hl];exact hu
 refine Tq F.slot_list_pop ⟨_,e,rfl⟩ Xi (F.args_list_pop_1 _) (MeetsSeq.list_pop_last l dk.toArray n u hy' (by rw[Ov];lia)) ⟨e,?_⟩;refine⟨y,_,I.lset (its':=dk.dropLast) hH e ?_ r.dropLast ?_,ru,q⟩
 ·show dk.toArray.eraseIdxIfInBounds (dk.toArray.size-1)=dk.dropLast.toArray;rw[Ov,Tf,wg]
 ·rw[List.length_dropLast];lia
noncomputable def yj:V->List V->Hp->VK->Prop:=fun x vs H Q=>∃l xs i k y,x=.ref l/\vs=[.int i]/\H l=some (.lst xs)/\-(2 ^ 63)<=i/\i<2 ^ 63/\seqIndex? i xs.length=some k/\xs[k]?=some y/\Q y (upd H l (.lst (xs.eraseIdx k)))
theorem CZ:Ly X "list.pop" yj:=by
 intro ν s σ H x vs v us Q I rx rv h;obtain⟨l,xs,i,k,y,rfl,rfl,hH,h1,h2,hk,hy,q⟩:=h;cases rx;obtain⟨u,rfl,ru⟩:=rv.one;obtain⟨t,rfl⟩:=ru;obtain⟨z,dk,n,r,hl,e⟩:=I.lstM hH;obtain⟨w,hw,Zd⟩:=r.get hy
 refine Tq F.slot_list_pop ⟨_,e,rfl⟩ Xi (F.args_list_pop_2 _ _)
  (MeetsSeq.list_pop_at l dk.toArray n i t k w (fitsIndex_both h1 h2) (by rw[Ov,<- hl];exact hk) (by rw[<- OI];exact hw) (by rw[Ov];lia)) ⟨e,?_⟩
 refine⟨y,_,I.lset (its':=dk.eraseIdx k) hH e ?_ (r.eraseIdx k) ?_,Zd,q⟩
 ·show dk.toArray.eraseIdxIfInBounds k=(dk.eraseIdx k).toArray;rw[Tf]
 ·have:=pT xs k
  lia
noncomputable def uB:V->List V->Hp->VK->Prop:=fun x vs H Q=>∃l xs,x=.ref l/\vs=[]/\H l=some (.lst xs)/\Q .non (upd H l (.lst []))
theorem C1:Ly X "list.clear" uB:=by
 intro ν s σ H x vs v us Q I rx rv h;obtain⟨l,xs,rfl,rfl,hH,q⟩:=h;cases rx;have hus:=rv.zero;subst hus;obtain⟨z,dk,n,r,hl,e⟩:=I.lstM hH;refine Tq F.slot_list_clear ⟨_,e,rfl⟩ F.entry_list_clear (F.args_list_clear_1 _) (AutoSeq1.list_clear_list_0 l dk.toArray n (by rw[Ov];lia)) ⟨e,?_⟩;exact⟨.non,_,I.lset (its':=[]) (ys:=[]) hH e rfl .nil (OR _),rfl,q⟩
noncomputable def mW:R2:=fun x y H Q=>∃l b xs zs,x=.ref l/\y=.ref b/\H l=some (.lst xs)/\H b=some (.lst zs)/\xs.length+zs.length<=sizeLine/\∀p,H p=none->Q (.ref p) (upd H p (.lst (xs++zs)))
theorem JG:f_ X (binaryOp .Add) mW:=by
 intro ν s σ H x y v u Q I rx ry h;obtain⟨l,b,xs,zs,rfl,rfl,hH,hB,hz,q⟩:=h;cases rx;cases ry;obtain⟨z,dk,n,r,hl,e⟩:=I.lstM hH;obtain⟨z2,Zc,n2,r2,Y8,e2⟩:=I.lstM hB;refine PySem.P.add_list e e2 ?_ (by rw[Ov,Ov];lia);have ea:dk.toArray++Zc.toArray=(dk++Zc).toArray:=by simp
 rw[ea];exact⟨.ref _,_,I.lnew (t':=s.toks) (r.append r2) (by rw[N6];lia),rfl,q _ I.fresh⟩
end
end L2
namespace Att
open PySem PySem.W PySem.Calls PyProof.Rows
theorem jQ:∀(ns:List Int) (vs:List NY),WellAll P h vs (ns.map WData.int)->RT vs ns:=by
 intro ns
 induction ns with
 |nil =>
  intro vs w;rw[R_] at w;cases w;exact .nil
 |cons n ns ih =>
  intro vs w;rw[OS] at w;cases w with
  |cons a b =>
   cases a;exact .cons _ _ (ih _ b)
theorem xW{l:OpenLaw}{n:Nat}(hn:l.most=some n)
  (hpre:l.row.toRowW.claim.pre args=true) (hwl:WellAll P h vals args) :
  ∃a vs ns,vals=[O9 a]/\args=[WData.list (ns.map WData.int)]/\h.get? a=some {cls:=.type "list",data:=.seq vs.toArray}/\RT vs ns/\ns.length<=n:=by
 have hsh:WShape.hasAll [] args [.list .int]=true:=(pre_splitW hpre).1;have hc:l.pre.holds [] {args:=args}=true:=(pre_splitW hpre).2;obtain⟨d,r,rfl,h1,h2⟩:=hasAllW_cons hsh;obtain rfl:=hasAllW_nil h2;obtain⟨xs,rfl,h3⟩:=hasW_list h1;obtain⟨ns,rfl⟩:=items_int h3
 have hlen:ns.length<=n:=by
  unfold OpenLaw.pre at hc
  have h4:(WTm.not (.lt (.lit (.int (n:Int))) (.len (.arg 0)))).holds [] {args:=[.list (ns.map .int)]}=true:=by
   have h4:=(holds_andW hc).1;rw[hn] at h4;exact h4
  have h5:=condW_of h4 (w_not (w_lt w_lit (w_len_list (w_arg rfl))));rw[NQ] at h5;refine Nat.le_of_not_lt fun q=>?_
  have q':(n:Int)<((ns.length:Nat):Int):=by lia
  first
   |(rw[decide_eq_true q'] at h5;exact absurd h5 (by decide))
   |(simp at h5;omega)
 cases hwl with
 |cons w1 w2 =>
  cases w2;cases w1 with
  |list ho hall=>exact⟨_,_,ns,rfl,rfl,ho,jQ ns _ hall,hlen⟩
theorem yx(l:OpenLaw)(args:List WData):l.row.toRowW.claim.post args (.bool true) args=true :=
 postW_of (r:=l.row.toRowW) (X:=(true == true))
  (show WShape.has [] (.bool true) .bool=true by first|rfl|decide|simp[WShape.has,WShape.arms,WShape.armsAll])
  (show(WTm.eq .res (.lit (.bool true))).value [] {args:=args,res:=some (.bool true),after:=args}=some (.bool (true == true)) from w_eq_bool (w_res rfl) w_lit) rfl
theorem tQ{l:OpenLaw}{n:Nat}{XP:(Str->Option NY)->Heap->Prop}{YP:OD->Heap->Prop}{d:DefRec}
  (hn:l.most=some n) (hdf:d.params.defaults=[])
  (call:∀(w:OD) (s₀ s₁:N5) (mg mb:Str->Option NY) (fa:Addr) (o:Obj) (pm cd doc:NY) (a:Addr) (vs:List NY) (ns:List Int),
   Ground q loose [] XP w s₀ mg mb s₁.heap->YP w s₁.heap ->
   s₁.heap.get? fa=some o->o.data=.func (docDef d.name d.params d.body d.scope pm cd doc)->s₁.heap.CodeRec cd d.name->mg d.name=some (.ref fa) ->
   s₁.heap.get? a=some {cls:=.type "list",data:=.seq vs.toArray}->RT vs ns->ns.length<=n->s₁.gens = #[] ->
   codeAny (model l.prog w) callerA (.call (.ref fa) ⟨[.ref a],[]⟩) (fun r s'=>r=.ok (.ret (.bool true))/\OldK s₁.heap s'.heap/\s'.os=s₁.os/\UB s'.gens) s₁) :
  WalkO q loose XP YP l.row.toRowW d [] (fun f vs=>Wv f vs):=by
 intro w s₀ s₁ mg mb G Y fa o pm cd doc dV kV ho hd hcd hD hmg hg args vals as hpre hlay hrd hwl hlo;obtain rfl:dV=.none:=Dflts.none hD hdf;obtain rfl:kV=.none:=Dflts.noKw hD;obtain⟨a,vs,ns,rfl,rfl,hobj,hints,hlen⟩:=xW hn hpre hwl;refine enter_call (Ub (call w s₀ s₁ mg mb fa o pm cd doc a vs ns G Y ho (fd_plain hd) hcd hmg hobj hints hlen hg) fun r s' hq=>?_);obtain⟨rfl,h2,h3,h4⟩:=hq;exact⟨.inl ⟨.bool true,.bool true,[],rfl,fun _=>rfl,.bool true,yx l _,fun _=>⟨UE,fun _ hm=>(nomatch hm)⟩⟩,h2,h3,h4⟩
end Att
namespace L2
open PySem PySem.Spec PyProof.Rows
theorem oC:∀{vs:List NY} {ns:List Int},RT vs ns->Vals (ns.map V.int) vs
 |_,_,.nil=>.nil
 |_,_,.cons n t h=>.cons ⟨t,rfl⟩ (oC h)
noncomputable def HG(H:Hp):Prop:=∀b,H b=none\/∃o xs,H b=some (.frz o (.lst xs))
theorem C_{K:Fg}{CX:qN}{a:Addr}{x:Str}{sp:Sp}{s₁:N5}{vs:List NY}
  (KX:K.In s₁.heap) (ZE:s₁.heap.Ns mainGlobals mg) (hb:s₁.heap.Ns builtinsNs mb) (hbb:∀x:Str,x≠"__name__"->mb x=bootBuiltins x) (hlim:s₁.heap.NoLimit) (hg:s₁.gens = #[])
  (ha:s₁.heap.get? a=some {cls:=.type "list",data:=.seq vs.toArray}) (hi:RT vs ns) (hl:ns.length<=sizeLine) (hr:Room k callerA)
  (F:∀base:Heap,K.In base->base.Ns mainGlobals mg->FnOk P w K mg base CX k fa fd [x] sp) (hbind:∀(s:N5) (u:NY),WQ s fd ⟨[u],[]⟩ [(x,u)])
  (hsp:∀H:Hp,HG H->SqL K H a (ns.map V.int)->sp [.ref a] H (fun v _=>v=.bl true) fun _ _ _=>False)
  (hCX:∀H e s',CX [] H s₁ (fun _ _ _=>False) e s'->False) :
  codeAny (model P w) callerA (.call (.ref fa) ⟨[.ref a],[]⟩) (fun r s'=>r=.ok (.ret (.bool true))/\OldK s₁.heap s'.heap/\s'.os=s₁.os/\UB s'.gens) s₁:=by
 have rv:=oC hi;have lenV:=hi.length
 have core:∀H:Hp,HG H->SqL K H a (ns.map V.int)->HOk P w H s₁.heap->(∀b,H b≠none->b=a)->(H a≠none->K.lookup a=none) ->
   codeAny (model P w) callerA (.call (.ref fa) ⟨[.ref a],[]⟩) (fun r s'=>r=.ok (.ret (.bool true))/\OldK s₁.heap s'.heap/\s'.os=s₁.os/\UB s'.gens) s₁:=by
  intro H hO hS hok hA hK;have Ze:∀{b:Addr} {o:Obj},s₁.heap.get? b=some o->H b=none->(nP s₁.heap H).get? b=some o:=fun e n=>Dw e n
  have noA:∀{b:Addr} {o:Obj} {es:Array Ul} {ep:Nat},s₁.heap.get? b=some o->o.data=.dict es ep->H b=none:=fun {b o es ep} e d=>by
   cases q:H b with
   |none=>rfl
   |some u =>
    have e':b=a:=hA b (by rw[q];simp);subst e';rw[ha] at e;cases e;have d':Yh vs.toArray _=Data.dict es ep:=d;cases d'
  have nsK:∀{b:Addr} {m:Str->Option NY},s₁.heap.Ns b m->(nP s₁.heap H).Ns b m:=fun {b m} ⟨o,es,ep,e,d,r⟩=>⟨o,es,ep,Ze e (noA e d),d,r⟩
  have hKb:K.In (nP s₁.heap H):=fun b o e=>Ze (KX b o e) (by
   cases q:H b with
   |none=>rfl
   |some u =>
    have e':b=a:=hA b (by rw[q];simp)
    subst e'
    rw[hK (by rw[q];simp)] at e;cases e)
  have hM:Mod K mg (nP s₁.heap H):=⟨hKb,nsK ZE,⟨mb,nsK hb,hbb⟩,let ⟨mc,h1,h2⟩:=hlim;⟨mc,nsK h1,h2⟩⟩
  have e0:DY P w K mg (nP s₁.heap H) callerA [] s₁ H:=⟨rfl,hM,fun b o e=>GU e,Nat.le_of_eq (zK _ _),trivial,fun b hb=>absurd (show b∈([]:List Addr) from hb) (by simp),hok,.of_eq hg⟩
  refine Ub ((F _ hKb (nsK ZE)).run callerA [] s₁ H ⟨[.ref a],[]⟩ [.ref a] [.ref a] _ _ hr e0 (hbind s₁ (.ref a)) (.cons rfl .nil) (hsp H hO hS)) fun r s' h=>?_
  cases r with
  |error e=>exact(hCX H e s' h).elim
  |ok fl =>
   cases fl with
   |next=>exact Rt h
   |brk=>exact Rt h
   |cont=>exact Rt h
   |ret u =>
    obtain⟨v,H',os,bare,un,hok',r',q⟩:=h;have q':v=.bl true:=q;subst q';obtain rfl:u=Vf true:=r';refine⟨rfl,OldK.of_keep fun b o e=>?_,os,bare⟩;cases q:H b with
    |none=>exact un.keep b o e q (by intro z;exact absurd (show b∈([]:List Addr) from z) (by simp)) (by simp)
    |some u =>
     rcases hO b with z|⟨ob,xs,z⟩
     ·rw[q] at z;cases z
     ·have z2:=un.frzs b ob _ z;obtain⟨e1,_⟩:=hok b _ z;obtain⟨e2,_⟩:=hok' b _ z2;rw[e] at e1;cases e1;exact e2
 cases hk:K.lookup a with
 |some o =>
  have e:=KX a o hk;rw[ha] at e;cases e;refine core (fun _=>none) (fun _=>.inl rfl) (.inr ⟨_,vs.toArray,_,hk,rfl,rfl,rfl,by rw[Ov,lenV];exact hl,by simpa using rv⟩) (fun b u z=>by have z':(none:Option HO)=some u:=z;cases z') (fun b z=>absurd rfl z) fun z=>absurd rfl z
 |none =>
  refine core (fun b=>if b=a then some (.frz {cls:=.type "list",data:=.seq vs.toArray} (.lst (ns.map V.int))) else none) (fun b=>?_) (.inl (.inr ⟨{cls:=.type "list",data:=.seq vs.toArray},if_pos rfl⟩)) (fun b u z=>?_) (fun b z=>?_) fun _=>hk
  ·by_cases hb:b=a
   ·exact .inr ⟨_,_,if_pos hb⟩
   ·exact .inl (if_neg hb)
  ·by_cases hb:b=a
   ·have z':=(if_pos hb).symm.trans z;cases z';subst hb;exact⟨ha,by rw[NQ];exact hl,vs,_,rv,ha⟩
   ·have z':=(if_neg hb).symm.trans z;cases z'
  ·by_cases hb:b=a
   ·exact hb
   ·exact absurd (if_neg hb) z
theorem Fh{l:XA}{n:Nat}{XP:(Str->Option NY)->Heap->Prop}{YP:OD->Heap->Prop}{d:DefRec}{K:Params->WK}{CX:OD->qN}{sp:OD->Sp}{x:Str}
  (hn:l.most=some n) (hn2:n<=sizeLine) (hdf:d.params.defaults=[]) (hr:Room k callerA)
  (hY:∀(w:OD) (h:Heap),YP w h->(K w.params).In h)
  (F:∀(w:OD) (mg:Str->Option NY) (fa:Addr) (h:Heap),(K w.params).In h->h.Ns mainGlobals mg->mg d.name=some (.ref fa) ->
   ∃fd:QP,(∀(s:N5) (u:NY),WQ s fd ⟨[u],[]⟩ [(x,u)]) /\
    ∀base:Heap,(K w.params).In base->base.Ns mainGlobals mg->FnOk l.prog w (K w.params) mg base (CX w) k fa fd [x] (sp w))
  (hsp:∀(w:OD) (H:Hp) (a:Addr) (ns:List Int),ns.length<=n->HG H->SqL (K w.params) H a (ns.map V.int)->sp w [.ref a] H (fun v _=>v=.bl true) fun _ _ _=>False)
  (hCX:∀(w:OD) (H:Hp) (s:N5) (e:NY) (s':N5),CX w [] H s (fun _ _ _=>False) e s'->False) :
  Wg q loose XP YP l.row.toRowW d [] (fun f vs=>Wv f vs):=by
 refine Att.tQ hn hdf fun w s₀ s₁ mg mb fa o pm cd doc a vs ns G Y ho hd hcd hmg hobj hints hlen hg=>?_
 have KX:=hY w _ Y;obtain⟨fd,hb,hF⟩:=F w mg fa _ KX G.T.g hmg;exact C_ KX G.T.g G.T.b G.T.builtins G.T.nolimit hg hobj hints (Oi hlen hn2) hr hF hb (fun H hO hS=>hsp w H a ns hlen hO hS) fun H e s'=>hCX w H s₁ e s'
noncomputable def di(s:Stmt):Arguments:=match s with
 |.FunctionDef _ a _ _ _ _ _ _ _ _=>a
 |_=>{posonlyargs:=[],args:=[],vararg:=none,kwonlyargs:=[],kw_defaults:=[],kwarg:=none,defaults:=[]}
noncomputable def cu(s:Stmt):List Stmt:=match s with
 |.FunctionDef _ _ b _ _ _ _ _ _ _=>b
 |_=>[]
noncomputable def ao(s:Stmt):Scope:=match s with
 |.FunctionDef _ _ _ _ _ _ sc _ _ _=>sc
 |_=>{kind:=.function,names:=[],isGenerator:=false,isCoroutine:=false}
noncomputable abbrev bK:qN:=fun _ _ _ _ _ _=>False
noncomputable abbrev E0:XK:=fun _ _ _=>False
theorem Mg:ou bK X E0:=fun _ _ _ _ _ _ _ h=>h.elim
structure Fun (K:Fg) (x qual:Str) (st:Stmt) (f:Addr) (fd:QP):Prop where
 ex:∃(oc:NY) (od:Option Addr) (kV doc pm:NY) (an:Option Addr) (cdv ct:NY) (ZG:Array (Option NY)),
  fd=Ql x qual (di st) (cu st) (ao st) .none kV doc pm an cdv ct/\K.lookup f=some ⟨oc,od,.func fd,ZG⟩/\RY K cdv qual=true
 kp:Rm K (.ref f)=true
section
variable{P:Oo}{w:OD}{K:Fg}{mg:Str->Option NY}{base:Heap}
theorem Fun.ok{st:Stmt}{sp:Sp}(F:Fun K x qual st f fd)(S:aw N ps (ao st))(len:∀vs H Q E,sp vs H Q E->vs.length=ps.length)
  (hbody:∀(cdv:NY) (A:O1) (outer:List Env) (s:N5) (H:Hp) (vs:List V) (Q:VK) (E:XK),Room k (A.deeper (envOfC qual (ao st) s.heap.objs.size f cdv))->sp vs H Q E ->
   ∃t,PSs (nZ bK P w K mg base N qual (ao st) f cdv A outer s H E).nox (cu st) t/\t {nx:=fun _ H'=>Q .non H',rt:=Q} (start N vs) H):FnOk P w K mg base bK (k+1) f fd ps sp:=by
 obtain⟨oc,od,kV,doc,pm,an,cdv,ct,ZG,rfl,lk,hcd⟩:=F.ex;refine Nc lk hcd S len fun A outer s H vs Q E hr hsp=>?_
 obtain⟨t,h,q⟩:=hbody cdv A outer s H vs Q E hr hsp;exact⟨t,h.nox,q⟩
theorem Fun.binds{st:Stmt}{ps:List Str}(F:Fun K x qual st f fd)
  (h:∀(kV doc pm:NY) (an:Option Addr) (cdv ct:NY) (us:List NY),us.length=ps.length->bindArgs (Ql x qual (di st) (cu st) (ao st) .none kV doc pm an cdv ct) ⟨us,[]⟩=pure (ps.zip us)):Binds K fd ps []:=by
 obtain⟨oc,od,kV,doc,pm,an,cdv,ct,ZG,rfl,lk,hcd⟩:=F.ex;exact .all (h kV doc pm an cdv ct)
theorem EW{st:Stmt}{oc:NY}{od:Option Addr}{ZG:Array (Option NY)}{kV pm:NY}(l:K.lookup f=some ⟨oc,od,.func (Ql x qual (di st) (cu st) (ao st) .none kV doc pm an cdv ct),ZG⟩)
  (c:RY K cdv qual=true) (k:Rm K (.ref f)=true):Fun K x qual st f (Ql x qual (di st) (cu st) (ao st) .none kV doc pm an cdv ct):=⟨⟨oc,od,kV,doc,pm,an,cdv,ct,ZG,rfl,l,c⟩,k⟩
end
theorem M5(hr:Room k A):A.units+1<cLine:=Oy (T8 (by decide:1<=64) _) hr.units
theorem ar{n:Nat}(h:n<=1000):n<sizeLine:=Oy h (by decide)
section
variable{X:Cx}
theorem pv(i:Nat) {x:Str}  (hN:X.N[i]?=some x:=by rfl) (hv:LO X.env.scope x:=by first|exact Or.inl rfl|exact Or.inr (Or.inl rfl)|exact Or.inr (Or.inr rfl)) (hd:(x == ("__debug__":Str))=false:=by decide)
  (hcd:(x == ("__classdict__":Str))=false:=by decide):PE X (.Name x pos) (aa i):=Jk hN hv hd hcd
end
theorem zE{A B:Prop}(h:B):if false=true then A else B:=by
 rw[if_neg OH];exact h
theorem we{A B:Prop}(h:A):if true=true then A else B:=by
 rw[if_pos rfl];exact h
noncomputable def Same(H H':Hp):Prop:=∀b o,H b=some o->H' b=some o
theorem Same.refl(H:Hp):Same H H:=fun _ _ h=>h
theorem Same.trans(a:Same H H1)(b:Same H1 H2):Same H H2:=fun c o h=>b c o (a c o h)
theorem Same.free(e:Same H H')(h:H' l=Option.none):H l=Option.none:=by
 cases q:H l with
 |none=>rfl
 |some o =>
  rw[e l o q] at h;cases h
theorem Same.seq{K:Fg}(e:Same H H')(h:SqL K H a xs):SqL K H' a xs:=by
 rcases h with(h|⟨o,h⟩)|h
 ·exact .inl (.inl (e _ _ h))
 ·exact .inl (.inr ⟨o,e _ _ h⟩)
 ·exact .inr h
section
variable{κ:Type}[DecidableEq κ]
noncomputable def bI(de:List (κ×V))(k:κ):Option V:=(de.find? fun kv=>decide (kv.1=k)).map (·.2)
noncomputable def cm(de:List (κ×V))(k:κ)(v:V):List (κ×V) :=
 if (de.any fun kv=>decide (kv.1=k))=true then de.map (fun kv=>if kv.1=k then (kv.1,v) else kv) else de++[(k,v)]
theorem ua{k:κ}:bI ([]:List (κ×V)) k=none:=rfl
theorem bA{p:κ×V}{r:List (κ×V)}{k:κ}(e:p.1=k):bI (p :: r) k=some p.2:=by simp[bI,Qq,e]
theorem bo{p:κ×V}{r:List (κ×V)}{k:κ}(e : ¬ p.1=k):bI (p :: r) k=bI r k:=by simp[bI,Qq,e]
theorem fA(k:κ):∀de:List (κ×V),(de.any fun kv=>decide (kv.1=k))=(bI de k).isSome
 |[]=>rfl
 |p :: r=>by
  rw[UR];by_cases e:p.1=k
  ·simp only[bA e,decide_eq_true e,Bool.true_or,Option.isSome_some]
  ·rw[bo e,decide_eq_false e,X8];exact fA k r
theorem ub(k j:κ)(y:V):∀de:List (κ×V),bI (de.map fun kv=>if kv.1=k then (kv.1,y) else kv) j=(bI de j).map fun x=>if j=k then y else x
 |[]=>rfl
 |p :: r=>by
  have ih:=ub k j y r;rw[OS];by_cases h:p.1=k
  ·rw[if_pos h];by_cases e:p.1=j
   ·rw[bA (p:=(p.1,y)) e,bA e,TZ,if_pos (e.symm.trans h)]
   ·rw[bo (p:=(p.1,y)) e,bo e,ih]
  ·rw[if_neg h];by_cases e:p.1=j
   ·rw[bA (p:=p) e,bA e,TZ,if_neg (fun z=>h (e.trans z))]
   ·rw[bo (p:=p) e,bo e,ih]
theorem oD(k j:κ)(y:V):∀de:List (κ×V),bI de k=none->bI (de++[(k,y)]) j=if j=k then some y else bI de j
 |[],_=>by
  by_cases e:k=j
  ·rw[if_pos e.symm];exact bA (p:=(k,y)) e
  ·rw[if_neg (fun z=>e z.symm)];exact bo (p:=(k,y)) e
 |p :: r,hn=>by
  rw[UZ];have hk : ¬ p.1=k:=fun z=>by rw[bA z] at hn;cases hn
  rw[bo hk] at hn;have ih:=oD k j y r hn;by_cases e:p.1=j
  ·rw[bA e,bA e,if_neg (fun z=>hk (e.trans z))]
  ·rw[bo e,bo e,ih]
theorem lQ(de:List (κ×V))(k j:κ)(y:V):bI (cm de k y) j=if j=k then some y else bI de j:=by
 unfold cm;by_cases a:(de.any fun kv=>decide (kv.1=k))=true
 ·rw[if_pos a,ub];rw[fA] at a;by_cases e:j=k
  ·obtain⟨x,hx⟩:=Ss.mp a;rw[if_pos e,e,hx,TZ,if_pos rfl]
  ·rw[if_neg e];cases bI de j with
   |none=>rfl
   |some x=>rw[TZ,if_neg e]
 ·rw[if_neg a];refine oD k j y de ?_;rw[fA] at a;cases q:bI de k with
  |none=>rfl
  |some x=>rw[q] at a;exact(a rfl).elim
theorem cr(de:List (κ×V))(k:κ)(v:V):(cm de k v).length<=de.length+1:=by
 unfold cm;split
 ·rw[NQ];lia
 ·rw[N6,Oz,SD];lia
theorem RelO.jP(r:RelO o u):o.isSome=u.isSome:=by
 cases o with
 |none=>cases u with
  |none=>rfl
  |some _=>exact(show False from r).elim
 |some _=>cases u with
  |none=>exact(show False from r).elim
  |some _=>rfl
theorem RelO.getD(r:RelO o u)(rd:RelV d d'):RelV (o.getD d) (u.getD d'):=by
 cases o with
 |none=>cases u with
  |none=>exact rd
  |some _=>exact(show False from r).elim
 |some _=>cases u with
  |none=>exact(show False from r).elim
  |some _=>exact r
theorem KV.val{de:List (κ×V)}{vs:List (κ×NY)}(r:KV de vs)(k:κ):RelO (bI de k) (valueAt vs k):=by
 unfold KV at r
 induction r with
 |nil=>exact Rg
 |@cons p q ps qs h t ih =>
  obtain⟨h1,h2⟩:=h;by_cases e:p.1=k
  ·have e':q.1=k:=h1.symm.trans e;have b:valueAt (q :: qs) k=some q.2:=by simp[valueAt,Qq,e']
   rw[bA e,b];exact h2
  ·have e' : ¬ q.1=k:=fun z=>e (h1.trans z)
   have b:valueAt (q :: qs) k=valueAt qs k:=by simp[valueAt,Qq,e']
   rw[bo e,b];exact ih
theorem KV.any{de:List (κ×V)}{vs:List (κ×NY)}(r:KV de vs)(k:κ):(de.any fun kv=>decide (kv.1=k))=vs.any fun kv=>decide (kv.1=k):=by
 unfold KV at r
 induction r with
 |nil=>rfl
 |cons h t ih=>rw[UR,UR,ih,h.1]
theorem KV.repl{de:List (κ×V)}{vs:List (κ×NY)}(r:KV de vs)(k:κ)(ry:RelV y u) :
  KV (de.map fun kv=>if kv.1=k then (kv.1,y) else kv) (vs.map fun kv=>if kv.1=k then (kv.1,u) else kv):=by
 unfold KV at r ⊢
 induction r with
 |nil=>exact .nil
 |@cons p q ps qs h t ih =>
  rw[OS,OS];refine .cons ?_ ih;obtain⟨h1,h2⟩:=h;by_cases e:p.1=k
  ·rw[if_pos e,if_pos (h1.symm.trans e)];exact⟨h1,ry⟩
  ·rw[if_neg e,if_neg (fun z=>e (h1.trans z))];exact⟨h1,h2⟩
theorem KV.put{de:List (κ×V)}{vs:List (κ×NY)}(r:KV de vs)(k:κ)(ry:RelV y u):KV (cm de k y) (stored vs k u):=by
 unfold cm stored;rw[r.any k];by_cases e:(vs.any fun kv=>decide (kv.1=k))=true
 ·rw[if_pos e,if_pos e];exact r.repl k ry
 ·rw[if_neg e,if_neg e];exact Paired.snoc r ⟨rfl,ry⟩
theorem KV.keys{de:List (κ×V)}{vs:List (κ×NY)}(r:KV de vs):de.map (·.1)=vs.map (·.1):=by
 unfold KV at r
 induction r with
 |nil=>rfl
 |cons h t ih=>rw[OS,OS,ih,h.1]
theorem KV.length{de:List (κ×V)}{vs:List (κ×NY)}(r:KV de vs):de.length=vs.length:=Sr r
end
theorem wc{k:bf}(r:RelV (kV k) u):(bC P w).is k u=true:=by
 cases k with
 |inl i=>obtain⟨t,e⟩:=(show ∃t,u=R4 i t from r);subst e;exact sX P w i t
 |inr x=>obtain⟨t,e⟩:=(show ∃t,u=V5 x t from r);subst e;exact sW P w x t
theorem qi{P:Oo}{w:OD}:∀{ks:List bf} {us:List NY},Vals (ks.map kV) us->ItemsAre (bC P w) ks us
 |[],_,r=>by rw[R_] at r;cases r;exact .nil
 |k :: ks,_,r=>by
  rw[OS] at r;cases r with
  |cons h t=>exact .cons (wc h) (qi t)
noncomputable abbrev KT(H:Hp):List (List bf×V)->List (List bf×Addr×NY)->Prop:=Paired fun p q=>p.1=q.1/\H q.2.1=some (.tup (p.1.map kV))/\RelV p.2 q.2.2
theorem KT.val{de:List (List bf×V)}{xs:List (List bf×Addr×NY)}(r:KT H de xs)(k:List bf):RelO (bI de k) ((atKey xs k).map (·.2)):=by
 induction r with
 |nil=>exact Rg
 |@cons p q ps qs h t ih =>
  obtain⟨h1,_,h2⟩:=h;by_cases e:p.1=k
  ·have e':q.1=k:=h1.symm.trans e;have b:atKey (q :: qs) k=some q.2:=by simp[atKey,Qq,e']
   rw[bA e,b];exact h2
  ·have e' : ¬ q.1=k:=fun z=>e (h1.trans z)
   have b:atKey (q :: qs) k=atKey qs k:=by simp[atKey,Qq,e']
   rw[bo e,b];exact ih
theorem KT.repl{de:List (List bf×V)}{xs:List (List bf×Addr×NY)}(r:KT H de xs)(k:List bf)(ry:RelV y u) :
  KT H (de.map fun kv=>if kv.1=k then (kv.1,y) else kv) (xs.map (putAt k u)):=by
 induction r with
 |nil=>exact .nil
 |@cons p q ps qs h t ih =>
  rw[OS,OS];refine .cons ?_ ih;obtain⟨h1,h2,h3⟩:=h;unfold putAt;by_cases e:p.1=k
  ·rw[if_pos e,if_pos (h1.symm.trans e)];exact⟨h1,h2,ry⟩
  ·rw[if_neg e,if_neg (fun z=>e (h1.trans z))];exact⟨h1,h2,h3⟩
theorem KT.put{de:List (List bf×V)}{xs:List (List bf×Addr×NY)}(r:KT H de xs)(k:List bf)(hb:H b=some (.tup (k.map kV)))(ry:RelV y u) :
  KT H (cm de k y) (storedH xs k b u):=by
 have e:(de.any fun kv=>decide (kv.1=k))=(atKey xs k).isSome:=by
  rw[fA,(r.val k).jP,WR]
 unfold cm storedH;rw[e];by_cases q:(atKey xs k).isSome=true
 ·rw[if_pos q,if_pos q];exact r.repl k ry
 ·rw[if_neg q,if_neg q];exact Paired.snoc r ⟨rfl,hb,ry⟩
theorem KT.keeps{H':Hp}{de:List (List bf×V)}{xs:List (List bf×Addr×NY)}(r:KT H de xs)(ht:∀b ys,H b=some (.tup ys)->H' b=some (.tup ys)):KT H' de xs :=
 Paired.mapP r fun _ _ z=>⟨z.1,ht _ _ z.2.1,z.2.2⟩
section
variable{P:Oo}{w:OD}{H:Hp}{h:Heap}{a:Addr}
theorem II(ok:HOk P w H h)(e:Rd H a u):b9 P w H h a u:=e.ok ok
theorem tG{de:List (bf×V)}(ok:HOk P w H h)(e:Rd H a (.dK de)):de.length<=sizeLine/\(a == sysModules)=false/\∃vs,KV de vs/\h.DictOf (bC P w) a vs :=
 show b9 P w H h a (.dK de) from II ok e
theorem Ht{de:List (bf×V)}(ok:HOk P w H h)(e:H a=some (.dK de)):de.length<=sizeLine/\(a == sysModules)=false/\∃vs,KV de vs/\h.DictOf (bC P w) a vs:=tG ok (.inl e)
theorem qc{ks:List bf}(ok:HOk P w H h)(e:H a=some (.tup (ks.map kV))):(tupleKind (bC P w)).is h ks a:=by
 obtain⟨_,dk,r,o,h1,⟨h2,n,h3⟩,_⟩:=(show b9 P w H h a (.tup (ks.map kV)) from ok a _ e)
 exact⟨o,dk.toArray,n,h1,h2,h3,by simpa using qi r⟩
theorem wk{de:List (List bf×V)}(ok:HOk P w H h)(e:Rd H a (.dT de)):de.length<=sizeLine/\(a == sysModules)=false /\
  ∃xs,KT H de xs/\h.DictOfH (tupleKind (bC P w)) a xs:=by
 obtain⟨z,y,xs,r,o,es,ep,h1,h2,h3,h4,h5⟩:=(show b9 P w H h a (.dT de) from II ok e)
 refine⟨z,y,xs,r,o,es,ep,h1,h2,h3,h4,fun x hx=>?_,h5⟩
 have all:∀{l:List (List bf×V)} {m:List (List bf×Addr×NY)},KT H l m->∀x∈m,(tupleKind (bC P w)).is h x.1 x.2.1:=by
  intro l m q
  induction q with
  |nil=>intro x hx;exact nomatch hx
  |@cons p q ps qs hq t ih =>
   intro x hx;rcases Od.mp hx with e|hx
   ·subst e;exact qc ok (by rw[<- hq.1];exact hq.2.1)
   ·exact ih x hx
 exact all r x hx
theorem KR{de:List (List bf×V)}(ok:HOk P w H h)(e:H a=some (.dT de)):de.length<=sizeLine/\(a == sysModules)=false /\
  ∃xs,KT H de xs/\h.DictOfH (tupleKind (bC P w)) a xs:=wk ok (.inl e)
end
noncomputable def DGet(H:Hp)(a:Addr)(y:V)(r:Option V):Prop :=
 (∃de k,Rd H a (.dK de)/\y=kV k/\r=bI de k)\/∃de k b,Rd H a (.dT de)/\y=.ref b/\H b=some (.tup (k.map kV))/\r=bI de k
noncomputable def DPut(H:Hp)(a:Addr)(y v:V)(H':Hp):Prop :=
 (∃de k,H a=some (.dK de)/\y=kV k/\de.length<sizeLine/\H'=upd H a (.dK (cm de k v))) \/
 ∃de k b,H a=some (.dT de)/\y=.ref b/\H b=some (.tup (k.map kV))/\de.length<sizeLine/\H'=upd H a (.dT (cm de k v))
theorem DGet.k{H:Hp}{de:List (bf×V)}{k:bf}(e:H a=some (.dK de)):DGet H a (kV k) (bI de k):=.inl ⟨de,k,.inl e,rfl,rfl⟩
theorem DGet.t{H:Hp}{de:List (List bf×V)}{k:List bf}(e:H a=some (.dT de))(eb:H b=some (.tup (k.map kV))):DGet H a (.ref b) (bI de k):=.inr ⟨de,k,b,.inl e,rfl,eb,rfl⟩
theorem DPut.k{H:Hp}{de:List (bf×V)}{k:bf}(e:H a=some (.dK de))(hl:de.length<sizeLine):DPut H a (kV k) v (upd H a (.dK (cm de k v))):=.inl ⟨de,k,e,rfl,hl,rfl⟩
theorem DPut.t{H:Hp}{de:List (List bf×V)}{k:List bf}(e:H a=some (.dT de))(eb:H b=some (.tup (k.map kV)))(hl:de.length<sizeLine) :
  DPut H a (.ref b) v (upd H a (.dT (cm de k v))):=.inr ⟨de,k,b,e,rfl,eb,hl,rfl⟩
section
variable{X:Cx}{ν:List (Addr×Obj)}{σ:St}{H:Hp}{s:N5}{a:Addr}{y v:V}{u r:NY}{o:Option V}{A:O1}{E:NY->N5->Prop}
theorem Inv.big(I:Inv X ν σ H s):sysModules<s.heap.objs.size:=by
 have h:mainGlobals<s.heap.objs.size:=(I.mod.glob.keeps I.bk).lt;exact OL (by decide) h
theorem Am{Q:NY->N5->Prop}(hu:A.units+1<cLine)(I:Inv X ν σ H s)(g:DGet H a y (some v))(ry:RelV y u)(h:∀w' s',Inv X ν σ H s'->RelV v w'->Q w' s') :
  wpAny (model X.prog X.w) A (getItem (.ref a) u) Q E s:=by
 rcases g with⟨de,k,e,ey,l⟩|⟨de,k,b,e,ey,eb,l⟩
 ·subst ey;obtain⟨z,hd,vs,rel,dd⟩:=tG I.hok e;obtain⟨w',hw,Zd⟩:=RelO.some_of (v:=v) (o:=valueAt vs k) (by rw[l];exact rel.val k);exact wpAny_getItem_of (wc ry) dd.mapOf hw (h w' _ (I.tok _) Zd)
 ·subst ey;cases (show u=O9 b from ry);obtain⟨z,hd,xs,rel,dd⟩:=wk I.hok e;obtain⟨w',hw,Zd⟩:=RelO.some_of (v:=v) (o:=(atKey xs k).map (·.2)) (by rw[l];exact rel.val k);obtain⟨p,hp,hp2⟩:=N8.mp hw;refine wpAny_getItem_heap (SK hu) (qc I.hok eb) dd hp ?_;rw[hp2];exact h w' _ (I.tok _) Zd
theorem Hu{Q:NY->N5->Prop}(hu:A.units+1<cLine)(I:Inv X ν σ H s)(g:DGet H a y o)(ry:RelV y u)(h:∀s',Inv X ν σ H s'->Q (.bool (!o.isSome)) s') :
  wpAny (model X.prog X.w) A (compareOp .NotIn u (.ref a)) Q E s:=by
 rcases g with⟨de,k,e,ey,l⟩|⟨de,k,b,e,ey,eb,l⟩
 ·subst ey;obtain⟨z,hd,vs,rel,dd⟩:=tG I.hok e;refine wpAny_notIn_of (wc ry) hd dd.mapOf ?_;rw[<- (rel.val k).jP,<- l];exact h _ (I.tok _)
 ·subst ey;cases (show u=O9 b from ry);obtain⟨z,hd,xs,rel,dd⟩:=wk I.hok e;refine wpAny_notIn_heap (SK hu) (qc I.hok eb) hd dd ?_;have q:=(rel.val k).jP;rw[WR] at q;rw[<- q,<- l];exact h _ (I.tok _)
theorem tI{t':Nat}(I:Inv X ν σ H s)(mu:Lx (H a))(hs:Qx a s.heap h')(he:∃q,h'.get? a=some q)(new:b9 X.prog X.w (upd H a ob) h' a ob) :
  Inv X ν σ (upd H a ob) {s with heap:=h',toks:=t'} :=
 I.write (x:=a) (e:=a) mu (.inl rfl) (fun b q hb z=>(hs.2 b hb).trans z) he new
theorem EZ{h':Heap}{de:List (bf×V)}{vs:List (bf×NY)}(z:de.length<=sizeLine)(hd:(a == sysModules)=false)(rel:KV de vs)(dd:h'.DictOf (bC P w) a vs) :
  b9 P w H' h' a (.dK de):=⟨z,hd,vs,rel,dd⟩
theorem Al{Q:Unit->N5->Prop}(hu:A.units+1<cLine)(I:Inv X ν σ H s)(g:DPut H a y v H')(ry:RelV y u)(rv:RelV v r)(h:∀s',Inv X ν σ H' s'->Q () s') :
  wpAny (model X.prog X.w) A (setItem (.ref a) u r) Q E s:=by
 rcases g with⟨de,k,e,ey,l,eH⟩|⟨de,k,b,e,ey,eb,l,eH⟩
 ·subst ey eH;obtain⟨z,hd,vs,rel,dd⟩:=Ht I.hok e;have hz:vs.length<=sizeLine:=by rw[<- rel.length];exact z
  have hl:(cm de k v).length<=sizeLine:=by have:=cr de k v;lia
  refine wpAny_setItem_pairs (hsz:=hz) (wc ry) dd fun h' dd' hs=>h _ ?_
  have he:∃q,h'.get? a=some q:=let ⟨q,_,_,hq,_⟩:=dd';⟨q,hq⟩
  exact tI I (by rw[e];exact Rg) hs he (EZ hl hd (rel.put k rv) dd')
 ·subst ey eH;cases (show u=O9 b from ry);obtain⟨z,hd,xs,rel,dd⟩:=KR I.hok e;have hz:xs.length<=sizeLine:=by rw[<- Sr rel];exact z
  have hl:(cm de k v).length<=sizeLine:=by have:=cr de k v;lia
  refine wpAny_setItem_heap (hsz:=hz) (SK hu) (qc I.hok eb) dd fun h' dd' hs=>h _ ?_
  obtain⟨q,es,ep,hq,h2,h3,h4,_,h5⟩:=dd';refine tI I (by rw[e];exact Rg) hs ⟨q,hq⟩ ⟨hl,hd,_,(rel.put k eb rv).keeps fun c ys ec=>?_,q,es,ep,hq,h2,h3,h4,h5⟩;rw[aB (kD ec e (fun z=>nomatch z))];exact ec
end
section
variable{X:Cx}{ν:List (Addr×Obj)}{σ:St}{H:Hp}{s:N5}{a:Addr}{de:List (bf×V)}{k:bf}{u:NY}{A:O1}{E:NY->N5->Prop}
theorem Nd{Q:NY->N5->Prop} (I:Inv X ν σ H s) (e:Rd H a (.dK de)) (h:∀t s',Inv X ν σ H s'->Q (.int de.length t) s'):wpAny (model X.prog X.w) A (call (.builtin "len") [.ref a]) Q E s:=by
 obtain⟨z,hd,vs,rel,dd⟩:=tG I.hok e;refine call_len_dict hd dd (by rw[<- rel.length];rw[Rr] at z;lia) ?_;rw[<- rel.length];exact h _ _ (I.tok _)
end
noncomputable def Lw(i:Expr):Prop:=∀ov iv,subscripted i false ov iv=operate [ov,iv] (getItem ov iv)
theorem Fw{T id:String}
  (hl:typeLookup (.type T) "__getitem__"=pure (some (.builtin id))) (hs:Lw slice)
  (h:wpAny (model prog w) A (eval value env) (fun o s₁=>wpAny (model prog w) A (eval slice env) (fun i s₂=>s₂.TypeIs o T/\wpAny (model prog w) A (getItem o i) Q E s₂) E s₁) E s) :
  wpAny (model prog w) A (eval (.Subscript value slice pos) env) Q E s:=by
 refine Subscript_ (O_ h (fun o s₁ h₁=>O_ h₁ (fun i s₂ h₂=>?_) fun _ _ x=>x) fun _ _ x=>x);obtain⟨hT,h₂⟩:=h₂;unfold subscriptTail;refine NU ?_;rw[getitemInPython_of_ne hT.not_modules];refine NU (wpAny_specialOf hT hl ?_)
 have fin:wpAny (model prog w) A (subscripted slice false o i) (fun r s₃=>wpAny (model prog w) A (letTemporaryGo value o r >>= fun _=>pure r) Q E s₃) E s₂:=by
  rw[hs o i];exact wpAny_operating (O_ h₂ (fun r s₃ h₃=>NU (wpAny_letTemporaryGo (Oc h₃))) fun _ _ x=>x)
 first
  |exact Oc (NU fin)
  |exact NU (Oc (NU fin))
  |exact NU fin
theorem tH{H:Hp}     (I:Inv X ν σ H s) (g:DGet H a y o):s.TypeIs (.ref a) "dict":=by
 rcases g with⟨de,k,e,_,_⟩|⟨de,k,b,e,_,_,_⟩
 ·obtain⟨_,_,vs,_,dd⟩:=tG I.hok e;exact dd.typeIs
 ·obtain⟨_,_,xs,_,dd⟩:=wk I.hok e;exact dd.typeIs
noncomputable def rO(td ty:TE):TE:=fun σ H Q=>td σ H fun x H1=>ty σ H1 fun y H2=>∃a v,x=.ref a/\DGet H2 a y (some v)/\Q v H2
noncomputable def rN(ty td:TE):TE:=fun σ H Q=>ty σ H fun y H1=>td σ H1 fun x H2=>∃a o,x=.ref a/\DGet H2 a y o/\Q (.bl (!o.isSome)) H2
noncomputable def o7(td ty tv:TE):TS:=fun D σ H=>tv σ H fun v H1=>td σ H1 fun x H2=>ty σ H2 fun y H3=>∃a H4,x=.ref a/\DPut H3 a y v H4/\D.nx σ H4
section
variable{X:Cx}{o i e value:Expr}{pos pos' tpos:Pos}{td ty tv:TE}
theorem GC(hu:X.A.units+1<cLine)(ho:PE X o td)(hi:PE X i ty)(hs:Lw i):PE X (.Subscript o i pos) (rO td ty):=by
 intro ν s σ H Q I h;refine Fw PySem.F.slot_dict_getitem.lookup hs (bg (ho ν s σ H _ I h) fun u s1 ⟨x,H1,I1,rx,q1⟩=>bg (hi ν s1 σ H1 _ I1 q1) fun iv s2 ⟨y,H2,I2,ry,a,v,ex,g,q2⟩=>?_);subst ex;obtain rfl:u=O9 a:=rx;exact⟨tH I2 g,Am hu I2 g ry fun w' s3 I3 Zd=>⟨v,H2,I3,Zd,q2⟩⟩
theorem yK(hu:X.A.units+1<cLine)(hi:PE X i ty)(ho:PE X o td):PC X .NotIn i o (rN ty td):=by
 intro ν s σ H Q I h;refine bg (hi ν s σ H _ I h) fun iv s1 ⟨y,H1,I1,ry,q1⟩=>bg (ho ν s1 σ H1 _ I1 q1) fun u s2 ⟨x,H2,I2,rx,a,ov,ex,g,q2⟩=>?_
 subst ex;obtain rfl:u=O9 a:=rx;exact Hu hu I2 g ry fun s3 I3=>⟨.bl (!ov.isSome),H2,I3,rfl,q2⟩
theorem Gq(hu:X.A.units+1<cLine)(ho:PE X o td)(hi:PE X i ty)(hv:PE X value tv)(hs:swapsWith value (some (.Subscript o i pos')) pos.line X.env=pure false) :
  PS X (.Assign [.Subscript o i pos'] value pos) (o7 td ty tv):=by
 intro ν s σ H D I h;refine wpAny_Assign_Subscript (bg (hv ν s σ H _ I h) fun r s1 ⟨v,H1,I1,rv,q1⟩=>bg (ho ν s1 σ H1 _ I1 q1) fun u s2 ⟨x,H2,I2,rx,q2⟩=>bg (hi ν s2 σ H2 _ I2 q2) fun iv s3 ⟨y,H3,I3,ry,a,H4,ex,g,q3⟩=>?_) hs;subst ex;obtain rfl:u=O9 a:=rx;exact Al hu I3 g ry rv fun s4 I4=>⟨σ,H4,I4,q3⟩
end
theorem vA(h:Heap) (hb:sysModules<h.objs.size):b9 P w H (h.push {cls:=.type "dict",data:=.dict #[]}) h.objs.size (.dK []) :=
 ⟨OR _,beq_eq_false_iff_ne.mpr (SW (Ou hb)),[],.nil,Heap.DictOf.new h⟩
theorem DH(h:Heap) (hb:sysModules<h.objs.size):b9 P w H (h.push {cls:=.type "dict",data:=.dict #[]}) h.objs.size (.dT []) :=
 ⟨OR _,beq_eq_false_iff_ne.mpr (SW (Ou hb)),[],.nil,_,#[],0,OC _ rfl,⟨rfl,rfl,rfl⟩,rfl,rfl,P5⟩
noncomputable def Eb:TE:=fun _ H Q=>∀p,H p=none->Q (.ref p) (upd H p (.dK []))
noncomputable def xq:TE:=fun _ H Q=>∀p,H p=none->Q (.ref p) (upd H p (.dT []))
section
variable{X:Cx}{pos:Pos}
theorem CH:PE X (.Dict [] [] pos) Eb:=fun ν s σ H Q I h =>
 wpAny_Dict_empty ⟨.ref s.heap.objs.size,_,I.laid (a:=s.heap.objs.size) (o:=.dK []) (t':=s.toks) (fun _ _ q=>N3 _ q) (N4 _) (vA s.heap I.big),rfl,h _ (I.hok.fresh (N4 _))⟩
theorem CG:PE X (.Dict [] [] pos) xq:=fun ν s σ H Q I h =>
 wpAny_Dict_empty ⟨.ref s.heap.objs.size,_,I.laid (a:=s.heap.objs.size) (o:=.dT []) (t':=s.toks) (fun _ _ q=>N3 _ q) (N4 _) (DH s.heap I.big),rfl,h _ (I.hok.fresh (N4 _))⟩
end
noncomputable def iX:List (TE×TE)->St->Hp->(List (V×V)->Hp->Prop)->Prop
 |[],_,H,Q=>Q [] H
 |(tk,tv) :: r,σ,H,Q=>tk σ H fun x H1=>tv σ H1 fun y H2=>iX r σ H2 fun ps H3=>Q ((x,y) :: ps) H3
noncomputable abbrev VV:List (V×V)->List (NY×NY)->Prop:=Paired fun p q=>RelV p.1 q.1/\RelV p.2 q.2
noncomputable def Lv(X:Cx)(pos:Pos)(keys:List (Option Expr))(values:List Expr)(trs:List (TE×TE)):Prop :=
 ∀(ν:List (Addr×Obj)) (s:N5) (σ:St) (H:Hp) (Q:List (V×V)->Hp->Prop),Inv X ν σ H s->iX trs σ H Q ->
  wpAny (model X.prog X.w) X.A (evalPairs (pairTrees keys values X.env pos)) (fun vs s'=>∃ps H',Inv X ν σ H' s'/\VV ps vs/\Q ps H') X.xe s
theorem Gs:Lv X pos [] [] []:=fun ν s σ H Q I h=>pairTrees_nil_walk ⟨[],H,I,.nil,h⟩
theorem CB{vs:List Expr}{tk:TE}(hk:PE X k tk)(hv:PE X v tv)(hr:Lv X pos ks vs trs) :
  Lv X pos (some k :: ks) (v :: vs) ((tk,tv) :: trs):=fun ν s σ H Q I h =>
 pairTrees_cons_walk (bg (hk ν s σ H _ I h) fun u s1 ⟨x,H1,I1,rx,q1⟩=>bg (hv ν s1 σ H1 _ I1 q1) fun w2 s2 ⟨y,H2,I2,ry,q2⟩ =>
  bg (hr ν s2 σ H2 _ I2 q2) fun ws s3 ⟨ps,H3,I3,rel,q3⟩=>⟨(x,y) :: ps,H3,I3,.cons ⟨rx,ry⟩ rel,q3⟩)
noncomputable def d_(de more:List (bf×V)):List (bf×V):=more.foldl (fun acc kv=>cm acc kv.1 kv.2) de
theorem KV.merge:∀{more:List (bf×V)} {rs:List (bf×NY)} {de:List (bf×V)} {vs:List (bf×NY)},KV more rs->KV de vs->KV (d_ de more) (merged vs rs):=by
 intro more rs de vs r;unfold KV at r
 induction r generalizing de vs with
 |nil=>intro q;exact q
 |@cons p q ps qs h t ih =>
  intro r0
  have e:KV (cm de p.1 p.2) (stored vs q.1 q.2):=by
   have:=r0.put p.1 h.2
   rw[<- h.1];exact this
  exact ih e
theorem gL:∀(more de:List (bf×V)),(d_ de more).length<=de.length+more.length
 |[],de=>by show de.length<=de.length+0;lia
 |p :: r,de=>by
  have h1:=gL r (cm de p.1 p.2);have h2:=cr de p.1 p.2;show(d_ (cm de p.1 p.2) r).length<=_;rw[Oz];lia
theorem k_{P:Oo}{w:OD}:∀{de:List (bf×V)} {ws:List (NY×NY)},VV (de.map fun kv=>(kV kv.1,kv.2)) ws->∃rs,Carries (bC P w) ws rs/\KV de rs
 |[],_,r=>by rw[R_] at r;cases r;exact⟨[],Rg,.nil⟩
 |p :: de,_,r=>by
  rw[OS] at r;cases r with
  |@cons a b as bs h t =>
   obtain⟨rs,c,q⟩:=k_ (P:=P) (w:=w) t;obtain⟨b1,b2⟩:=b;exact⟨(p.1,b2) :: rs,⟨wc h.1,rfl,c⟩,.cons ⟨rfl,h.2⟩ q⟩
noncomputable def Fv(trs:List (TE×TE)):TE:=fun σ H Q=>∀p,H p=none->iX trs σ (upd H p (.dK [])) fun ps H2=>H2 p=some (.dK [])/\∃de:List (bf×V),ps=de.map (fun kv=>(kV kv.1,kv.2))/\de.length<=15/\Q (.ref p) (upd H2 p (.dK (d_ [] de)))
theorem GB(h:Lv X pos keys values trs)(hall:keys.all (·.isSome)=true)(hl:keys.length=values.length)(h0:keys≠[])
  (h15:keys.length<=15):PE X (.Dict keys values pos) (Fv trs):=by
 intro ν s σ H Q I q;have hn:=I.hok.fresh (N4 s.heap.objs.size);have I1:=I.laid (a:=s.heap.objs.size) (o:=.dK []) (h':=s.heap.push {cls:=.type "dict",data:=.dict #[]}) (t':=s.toks) (fun _ _ q=>N3 _ q) (N4 _) (vA s.heap I.big);refine wpAny_Dict_walk (knd:=bC X.prog X.w) hall hl h0 h15 (bg (h ν _ σ _ _ I1 (q _ hn)) fun ws s2 ⟨ps,H2,I2,rel,e,de,ep,lk,q2⟩=>?_);subst ep;obtain⟨rs,c,rk⟩:=k_ (P:=X.prog) (w:=X.w) rel;obtain⟨z,hd,vs0,r0,dd⟩:=Ht I2.hok e;cases r0;refine⟨rs,c,dd,fun h' dd' hs=>⟨.ref s.heap.objs.size,_,?_,rfl,q2⟩⟩
 have hz:(d_ [] de).length<=sizeLine:=by
  have h1:=gL de [];rw[SD] at h1;rw[Rr];lia
 have he:∃q,h'.get? s.heap.objs.size=some q:=let ⟨q,_,_,hq,_⟩:=dd';⟨q,hq⟩
 exact tI I2 (by rw[e];exact Rg) hs he (EZ hz hd (rk.merge .nil) dd')
structure M1 (X:Cx) (o:Expr) (m:Str) (apos:Pos) (e:Expr) (Yx:Pos):Prop where
 base:attributeBase o m X.env (eval o X.env)=eval o X.env
 few:((backTo Yx (starEach [e] X.env)).all (fun x=>!x.1) && (backToKw Yx (keywordEach [] X.env)).all (fun x=>x.1.isSome)
  && decide (([e]:List Expr).length+([]:List XN).length+(if ([]:List XN).isEmpty then 0 else 1)<30))=true
 line:(apos.endLine == Yx.line)=true
 trees:backTo Yx (starEach [e] X.env)=[(false,eval e X.env)]
noncomputable def No(H:Hp)(a:Addr):Prop:=(∃de,Rd H a (.dK de))\/∃de,Rd H a (.dT de)
theorem KH{H:Hp}(I:Inv X ν σ H s)(d:No H a) :
  s.TypeIs (.ref a) "dict"/\(∀b,O9 a=.ref b->∃ob,s.heap.get? b=some ob/\ob.dict=none)/\(a == sysModules)=false:=by
 rcases d with⟨de,e⟩|⟨de,e⟩
 ·obtain⟨_,hd,vs,_,dd⟩:=tG I.hok e;refine⟨dd.typeIs,fun b q=>?_,hd⟩;cases q;obtain⟨ob,_,_,h1,h2,_⟩:=dd;exact⟨ob,h1,h2.2.1⟩
 ·obtain⟨_,hd,xs,_,dd⟩:=wk I.hok e;refine⟨dd.typeIs,fun b q=>?_,hd⟩;cases q;obtain⟨ob,_,_,h1,h2,_⟩:=dd;exact⟨ob,h1,h2.2.1⟩
section
variable{X:Cx}{ν:List (Addr×Obj)}{σ:St}{H:Hp}{s:N5}{a:Addr}{y d:V}{u r:NY}{o:Option V}{A:O1}{E:NY->N5->Prop}
theorem KS{Q:NY->N5->Prop}(hu:A.units+1<cLine)(I:Inv X ν σ H s)(g:DGet H a y o)(ry:RelV y u)(h:∀w' s',Inv X ν σ H s'->RelV (o.getD .non) w'->Q w' s') :
  wpAny (model X.prog X.w) A (call (.builtin "dict.get") [.ref a,u]) Q E s:=by
 rcases g with⟨de,k,e,ey,l⟩|⟨de,k,b,e,ey,eb,l⟩
 ·subst ey;obtain⟨z,hd,vs,rel,dd⟩:=tG I.hok e;refine call_meetsIn Th dd.typeIs Vk (U3 _ _) (meets_dict_get (bC X.prog X.w) a (wc ry) hd) ⟨_,dd.mapOf,h _ _ (I.tok _) ?_⟩;rw[l];exact(rel.val k).getD rfl
 ·subst ey;cases (show u=O9 b from ry);obtain⟨z,hd,xs,rel,dd⟩:=wk I.hok e;refine call_meetsIn Th dd.typeIs Vk (U3 _ _) (meetsH_dict_get (tupleKind (bC X.prog X.w)) a b hd) ⟨SK hu,k,xs,qc I.hok eb,dd,h _ _ (I.tok _) ?_⟩;rw[l];exact(rel.val k).getD rfl
end
noncomputable def xt(td ty:TE):TE:=fun σ H Q=>td σ H fun x H1=>∃a,x=.ref a/\No H1 a/\ty σ H1 fun y H2=>∃o,DGet H2 a y o/\Q (o.getD .non) H2
section
variable{X:Cx}{o e f:Expr}{apos Yx:Pos}{td ty tx:TE}
theorem CJ(hu:X.A.units+1<cLine) (ho:PE X o td) (he:PE X e ty) (m:M1 X o "get" apos e Yx):PE X (.Call (.Attribute o "get" apos) [e] [] Yx) (xt td ty):=by
 intro ν s σ H Q I h;refine wpAny_Call_method m.base m.few m.line PySem.F.plainAttrs_dict Th PySem.F.type_dict_get (bg (ho ν s σ H _ I h) fun u s1 ⟨x,H1,I1,rx,a,ex,d,q1⟩=>?_);subst ex;obtain rfl:u=O9 a:=rx;obtain⟨t1,t2,_⟩:=KH I1 d;refine⟨t1,t2,?_⟩;rw[m.trees];refine SY rfl (VP (QN (bg (he ν s1 σ H1 _ I1 q1) fun iv s2 ⟨y,H2,I2,ry,ov,g,q2⟩=>Q6 ?_)));exact KS hu I2 g ry fun w' s3 I3 Zd=>⟨_,H2,I3,Zd,q2⟩
end
section
variable{X:Cx}
theorem AB:dZ X (.builtin "len") (fun xs H Q=>∃a de,xs=[V.ref a]/\H a=some (.dK de)/\Q (.int de.length) H):=by
 intro ν s σ H xs us Q I r h;obtain⟨a,de,rfl,ha,q⟩:=h;obtain⟨u,rfl,ru⟩:=vals1 r;cases ru;exact Nd I (.inl ha) fun t s' I'=>⟨.int de.length,H,I',⟨t,rfl⟩,q⟩
end
open PySem PySem.W
noncomputable def Nz(K:Frag):List Str->Prop
 |[]=>True
 |n :: r=>nsIn K mainGlobals n=some none/\Nz K r
end L2
namespace K87H
open PySem PySem.Spec PyProof.Rows L2
noncomputable def top(i:Nat):Stmt:=PW87.main.body.getD i (.Pass ⟨0,0,0,0⟩)
noncomputable def spLaw(K:Fg):Sp:=fun vs H Q _=>∃(a:Addr) (ns:List Int),vs=[.ref a]/\SqL K H a (ns.map V.int)/\ns.length<=63/\∀H',Q (.bl true) H'
noncomputable def HH(K:Fg)(n:Str)(st:Stmt):Prop:=∃(f:Addr) (od an:Option Addr) (sl:Array (Option NY)) (oc kV dc pm cd ct:NY),Uc K mainGlobals n=some (some (.ref f))/\K.lookup f=some ⟨oc,od,.func (Ql n n (di st) (cu st) (ao st) .none kV dc pm an cd ct),sl⟩/\RY K cd n=true/\Rm K (.ref f)=true
theorem fnIn{K:Fg}{st:Stmt}{od:Option Addr}{sl:Array (Option NY)}{oc kV pm:NY}(a:Uc K mainGlobals n=some (some (.ref f)))(l:K.lookup f=some ⟨oc,od,.func (Ql n n (di st) (cu st) (ao st) .none kV dc pm an cd ct),sl⟩)(c:RY K cd n=true)(k:Rm K (.ref f)=true):HH K n st:=⟨f,od,an,sl,oc,kV,dc,pm,cd,ct,a,l,c,k⟩
local macro_rules | `(tactic| fail "f")=>`(tactic| (refine' fnIn ?a ?l ?c ?k;(case a=>k_is);(case l=>k_is);(case c=>k_is);(case k=>k_is)))
noncomputable def DX(K:Fg):List (Str×Nat)->Prop
 |[]=>True
 |(n,i) :: r=>HH K n (top i)/\DX K r
local macro_rules | `(tactic| walk_at "all")=>`(tactic| repeat' first|exact trivial|(refine And.intro ?_ ?_)|k_is|k_exc|fail "f"|exact rfl|decide)
theorem walk{l:XA}{XP:(Str->Option NY)->Heap->Prop}{YP:OD->Heap->Prop}{d:DefRec}{K:Params->WK}(hn:l.most=some 63)(hdf:d.params.defaults=[])
  (hY:∀(w:OD) (h:Heap),YP w h->(K w.params).In h)
  (F:∀(w:OD) (mg:Str->Option NY) (fa:Addr) (h:Heap),(K w.params).In h->h.Ns mainGlobals mg->mg d.name=some (.ref fa) ->
   ∃fd:QP,(∀(s:N5) (u:NY),WQ s fd ⟨[u],[]⟩ [("_law_script",u)])/\∀base:Heap,(K w.params).In base->base.Ns mainGlobals mg->FnOk l.prog w (K w.params) mg base bK 9 fa fd ["_law_script"] (spLaw (K w.params))) :
  Wg q loose XP YP l.row.toRowW d [] (fun f vs=>Wv f vs) :=
 L2.Fh (n:=63) (k:=9) (x:="_law_script") (CX:=fun _=>bK) (sp:=fun w=>spLaw (K w.params)) hn (by decide) hdf ⟨rfl,by decide,by decide⟩ hY F (fun _ _ a ns hl _ hS=>⟨a,ns,rfl,hS,hl,fun _=>rfl⟩) fun _ _ _ _ _ z=>z
open PySem.W in
theorem headed(hW:∀{w:OD} {K:Fg} {h:Heap} {mg:Str->Option NY} {fa:Addr} (X:K.In h) (G:h.Ns mainGlobals mg) (hfa:mg "law"=some (.ref fa))
  (P0:DX K [("whole",5),("greatest_divisor",6),("fraction",7),("plus",8),("times",9),("first_place",11),("unit_row",12),("unit_rows",13),("common_divisor",14),("lowest",15),("cleared",16),("sifted",17),("nought_makers",18),("heaps_of",21),("heaps",22),("heap_numbers",24),("places_of",25),("lots",26),("check_heap",27),("road",28)]) (P20:DX K [("first_astray",29),("lot_marks",31),("lack_rows",32),("taken_out",34),("split",35),("place_with_divisor",36),("apart",37),("turnings_from",40),("picks",41),("is_tree",42),("pace_product",43),("tree_weight",44),("tree_weights",45),("weight_powers",47),("even",48),("_law_cell_at",50),("_law_mixed",51),("_law_divisor",52),("_law_lowest",53),("_law_words",54)]) (P40:DX K [("_law_heap",55),("_law_pool",56),("_law_pairs",57),("_law_pace",58),("_law_vessel",59),("_law_whole",60),("_law_heaps",61),("_law_ends",62),("_law_reach",63),("_law_times",65),("_law_parts",66),("_law_often",67),("_law_is_one",68),("_law_even_vessel",69),("_law_same",70),("_law_row_holds",71),("law",72)]) (Z:Nz K ["len","abs","range","isinstance","int","bool","tuple","list","str","zip","set","all","any","min","max","sum","sorted","enumerate","reversed","dict","ord","divmod"])
  {tn0 tn1 to0 to1:Tok} {nq oq:Addr} {nqd oqd:Option Addr} {nqn oqn:Nat} {nqs oqs:Array (Option NY)}
  (hcnN:Uc K mainGlobals "NOUGHT"=some (some (.ref nq)))
  (hcnL:K.lookup nq=some ⟨.type "tuple",nqd,.seq #[.int 0 tn0,.int 1 tn1] nqn,nqs⟩)
  (hcnO:Uc K mainGlobals "ONE"=some (some (.ref oq)))
  (hcnM:K.lookup oq=some ⟨.type "tuple",oqd,.seq #[.int 1 to0,.int 1 to1] oqn,oqs⟩)
  ,∃fd:QP,(∀(s:N5) (v:NY),WQ s fd ⟨[v],[]⟩ [("_law_script",v)])/\∀base:Heap,K.In base->base.Ns mainGlobals mg->FnOk PySem.Challenge.rw_vesselhall_k87_even_hands.prog w K mg base bK 9 fa fd ["_law_script"] (spLaw K)):PySem.Challenge.rw_vesselhall_k87_even_hands.Holds:=by
 refine said ?_
 w_on
 refine Ws (q:=qv) (loose:=[]) (Xt:=fun s=>SV qv [] s && So [] s) (XP:=XQ qv []) (Yf:=Xd (TC pre.heap_1 asl asl_ok)) (Ya:=Xe (TC pre.heap_1 asl asl_ok)) (YP:=WN (TC pre.heap_1 asl asl_ok)) (N:=5062) hooks (Xz (TC pre.heap_1 asl asl_ok)) (Wu (TC pre.heap_1 asl asl_ok)) (fun s e=>X6 s (RX.mp e).1) Xf (by rfl) (by rfl) (by rfl) (fun s e=>V8 (RX.mp e).2) (by rfl) (by first|assumption|decide +kernel) (by decide +kernel) ⟨rfl,rfl,rfl,rfl,rfl,by decide +kernel⟩ ?_ ?_
 ·clear hW;w_witness2
 k_fill
 refine walk (l:=PySem.Challenge.rw_vesselhall_k87_even_hands) rfl rfl (fun w h Y=>PySem.W.kIn_of Y) ?F
 case F =>
  intro w mg fa h KX G hmg;refine' hW KX G hmg ?_ ?_ ?_ ?_ ?_ ?_ ?_ ?_
  all_goals try walk_at "all"
end K87H
namespace L2
open PySem PySem.Spec PyProof.Rows
section
variable{X:Cx}{a b c:Expr}{ta tb tc:TE}{pos:Pos}
noncomputable def LJ(_ j:Int):Prop:=j≠0/\j.natAbs<2 ^ 9000
theorem CN:f_ X (binaryOp .FloorDiv) (rI LJ fun i j=>.int (i.fdiv j)):=GM fun i j _ _ _ _ _ hc q=>by
 have h0:j.natAbs≠0:=by have:=hc.1;lia
 exact floordiv_int hc.1 q (.inl (PyProof.noPylong_of_log2 ((VQ h0).mpr hc.2)))
noncomputable def Bb(i j:Int):Prop:=i.natAbs<2 ^ 20000/\j.natAbs<2 ^ 20000
theorem Bb.ok(h:Bb i j):IntMulOk i j:=by
 have h1:=U4 h.1;have h2:=U4 h.2;unfold IntMulOk
 have e:VB ((V9 i:Int)+(V9 j:Int))=false:=by
  unfold VB;refine decide_eq_false ?_
  have:(40000:Int)<=bitsLine:=by decide
  lia
 intro q;rw[e] at q;simp at q
theorem GJ:f_ X (binaryOp .Mult) (rI Bb fun i j=>.int (i*j)):=GM fun _ _ _ _ _ _ _ hc q=>mul_int q hc.ok
theorem DP:dZ X (.builtin "isinstance") (fun xs H Q=>∃x n t b,xs=[x,.ty n]/\TyOf X.K H x t/\OA X.K t (.type n)=some b/\Q (.bl b) H):=by
 intro ν s σ H xs us Q I r h;obtain⟨x,n,t,b,rfl,ty,e,q⟩:=h;obtain⟨u,u',rfl,rx,ry⟩:=vals2 r;obtain rfl:u'=To n:=ry;exact zF I rx ty e fun tk=>⟨.bl b,H,I.tok tk,rfl,q⟩
end
structure FnC (P:Oo) (w:OD) (K:Fg) (mg:Str->Option NY) (base:Heap) (CX:qN) (k:Nat) (x:Str) (ps:List Str) (sp:Sp):Prop where
 ex:∃(f:Addr) (fd:QP),FnOk P w K mg base CX k f fd ps sp/\mg x=some (.ref f)/\Rm K (.ref f)=true/\Binds K fd ps []
structure aP (K:Fg) (mg:Str->Option NY) (x:Str) (st:Stmt) (ps:List Str):Prop where
 ex:∃(f:Addr) (fd:QP),Fun K x x st f fd/\mg x=some (.ref f)/\Binds K fd ps []
section
variable{P:Oo}{w:OD}{K:Fg}{mg:Str->Option NY}{base:Heap}{CX:qN}
theorem Dz{st:Stmt}{ps:List Str}{oc:NY}{od:Option Addr}{ZG:Array (Option NY)}{kV pm:NY}(X:K.In h)(G:h.Ns mainGlobals mg)
  (a:Uc K mainGlobals x=some (some (.ref f))) (l:K.lookup f=some ⟨oc,od,.func (Ql x x (di st) (cu st) (ao st) .none kV doc pm an cdv ct),ZG⟩)
  (c:RY K cdv x=true) (k:Rm K (.ref f)=true)
  (hb:∀(kV doc pm:NY) (an:Option Addr) (cdv ct:NY) (us:List NY),us.length=ps.length->bindArgs (Ql x x (di st) (cu st) (ao st) .none kV doc pm an cdv ct) ⟨us,[]⟩=pure (ps.zip us)) :
  aP K mg x st ps:=by
 have F:=EW (K:=K) (x:=x) (qual:=x) (st:=st) l c k;exact⟨f,_,F,US X G a,F.binds hb⟩
theorem FnC.mono{k:Nat}(F:FnC P w K mg base CX j x ps sp)(h:j<=k):FnC P w K mg base CX k x ps sp :=
 let ⟨f,fd,G,r⟩:=F.ex
 ⟨f,fd,G.mono h,r⟩
theorem aP.ok{st:Stmt}{sp:Sp}(F:aP K mg x st ps)(S:aw N ps (ao st))(len:∀vs H Q E,sp vs H Q E->vs.length=ps.length)
  (hbody:∀(f:Addr) (cdv:NY) (A:O1) (outer:List Env) (s:N5) (H:Hp) (vs:List V) (Q:VK) (E:XK),Room k (A.deeper (envOfC x (ao st) s.heap.objs.size f cdv))->sp vs H Q E ->
   ∃t,PSs (nZ bK P w K mg base N x (ao st) f cdv A outer s H E).nox (cu st) t/\t {nx:=fun _ H'=>Q .non H',rt:=Q} (start N vs) H):FnC P w K mg base bK (k+1) x ps sp:=by
 obtain⟨f,fd,G,hm,hb⟩:=F.ex;exact⟨f,fd,G.ok S len (hbody f),hm,G.kp,hb⟩
end
section
variable{X:Cx}{CX:qN}{k:Nat}{ps:List Str}{sp:Sp}{E:XK}{x:Str}{p pos:Pos}{e:Expr}{es:List Expr}{t:TA}
theorem CK(F:FnC X.prog X.w X.K X.mg X.base CX k x ps sp)(hr:Room k X.A)(hg:Gl X x)(hx:ou CX X E)(ha:PA X (e :: es) t)
  (hdb:(x == ("__debug__":Str))=false:=by decide) (he:starEach (e :: es) X.env=(false,eval e X.env) :: starEach es X.env:=by rfl) (Y_:(backTo pos (starEach es X.env)).any (·.1)=false:=by rfl) :
  PE X (.Call (.Name x p) (e :: es) [] pos) (ay sp [] E t):=by
 obtain⟨f,fd,G,hm,kp,hb⟩:=F.ex;exact GE G hr hg hm kp hb .nil hx ha hdb he Y_
theorem CL(F:FnC X.prog X.w X.K X.mg X.base bK k x ps sp)(hr:Room k X.A)(hg:Gl X x)(ha:PA X (e :: es) t)
  (hdb:(x == ("__debug__":Str))=false:=by decide) (he:starEach (e :: es) X.env=(false,eval e X.env) :: starEach es X.env:=by rfl) (Y_:(backTo pos (starEach es X.env)).any (·.1)=false:=by rfl) :
  PE X (.Call (.Name x p) (e :: es) [] pos) (ay sp [] E0 t):=CK F hr hg Mg ha hdb he Y_
end
theorem aj{H:Hp}(h:H p=none)(o:HO):Same H (upd H p o):=fun b u q=>by rw[aB (au q h)];exact q
theorem Same.seqT{K:Fg}(e:Same H H')(h:SqT K H a xs):SqT K H' a xs:=by
 rcases h with(h|⟨o,h⟩)|h
 ·exact .inl (.inl (e _ _ h))
 ·exact .inl (.inr ⟨o,e _ _ h⟩)
 ·exact .inr h
structure b_ (mg:Str->Option NY):Prop where
 len:mg "len"=none
 abs:mg "abs"=none
 range:mg "range"=none
 isinstance:mg "isinstance"=none
 int:mg "int"=none
 bool:mg "bool"=none
 tuple:mg "tuple"=none
 list:mg "list"=none
 str:mg "str"=none
 zip:mg "zip"=none
 set:mg "set"=none
 all:mg "all"=none
 any:mg "any"=none
 min:mg "min"=none
 max:mg "max"=none
 sum:mg "sum"=none
 sorted:mg "sorted"=none
 enumerate:mg "enumerate"=none
 reversed:mg "reversed"=none
 dict:mg "dict"=none
 ord:mg "ord"=none
 divmod:mg "divmod"=none
theorem K_:bootBuiltins "len"=some (.builtin "len"):=by decide +kernel
theorem Lb:bootBuiltins "abs"=some (.builtin "abs"):=by decide +kernel
theorem oi:bootBuiltins "isinstance"=some (.builtin "isinstance"):=by decide +kernel
theorem E7:bootBuiltins "int"=some (.type "int"):=by decide +kernel
theorem HA:bootBuiltins "bool"=some (.type "bool"):=by decide +kernel
theorem vC:bootBuiltins "tuple"=some (.type "tuple"):=by decide +kernel
theorem tP:bootBuiltins "list"=some (.type "list"):=by decide +kernel
theorem K6:bootBuiltins "str"=some (.type "str"):=by decide +kernel
theorem KF{y z:Int}{A B:Prop}(h1:y≠z->A)(h2:y=z->B):if (!decide (V.int y=V.int z))=true then A else B:=by
 by_cases h:y=z
 ·subst h;rw[decide_eq_true rfl];exact zE (h2 rfl)
 ·rw[decide_eq_false (fun q=>h (V.int.inj q))];exact we (h1 h)
theorem KG[Decidable c]{A B:Prop}(h1:c->A)(h2 : ¬ c->B):if decide c=true then A else B:=by
 by_cases h:c
 ·rw[decide_eq_true h];exact we (h1 h)
 ·rw[decide_eq_false h];exact zE (h2 h)
noncomputable abbrev bG:R2:=sK fun i j=>.int (i+j)
noncomputable abbrev vX:R2:=sK fun i j=>.int (i-j)
noncomputable abbrev jq:R2:=rI Bb fun i j=>.int (i*j)
noncomputable abbrev c8:R2:=rI HL fun i j=>.int (i / j)
noncomputable abbrev iI:R2:=rI LJ fun i j=>.int (i.fdiv j)
noncomputable abbrev bi:R2:=rI (fun _ j=>0<j) fun i j=>.int (i % j)
noncomputable abbrev Cr:R2:=rI (fun _ j=>j≠0) fun i j=>.int (i.fmod j)
noncomputable abbrev Cp:R2:=rI LI fun i j=>.int (i ^ j.toNat)
noncomputable abbrev Cs:R2:=sK fun i j=>.bl (decide (i<j))
noncomputable abbrev Nu:R2:=sK fun i j=>.bl (decide (i<=j))
noncomputable abbrev vW:R2:=sK fun i j=>.bl (decide (j<i))
noncomputable abbrev NG:R2:=sK fun i j=>.bl (decide (j<=i))
noncomputable abbrev ky:R2:=fun x y H Q=>y=.non/\Q (.bl (decide (x=.non))) H
noncomputable abbrev IP:R2:=fun x y H Q=>y=.non/\Q (.bl (!decide (x=.non))) H
noncomputable abbrev Gj:R2:=fun x y H Q=>∃i j,x=.str i/\y=.str j/\i.length+j.length<=sizeLine/\Q (.str (i++j)) H
noncomputable abbrev Cu:List V->Hp->VK->Prop:=fun xs H Q=>∃i,xs=[.int i]/\Q (.int (if i<0 then -i else i)) H
noncomputable abbrev bM(K:Fg):List V->Hp->VK->Prop:=fun xs H Q=>∃p ys,xs=[.ref p]/\(SqL K H p ys\/SqT K H p ys)/\Q (.int ys.length) H
noncomputable abbrev bN(K:Fg):List V->Hp->VK->Prop:=fun xs H Q=>∃x n t b,xs=[x,.ty n]/\TyOf K H x t/\OA K t (.type n)=some b/\Q (.bl b) H
noncomputable abbrev IT:List V->Hp->VK->Prop:=fun xs H Q=>(∃i,xs=[.int i]/\Q (.int i) H)\/∃k,xs=[.bl k]/\Q (.int (if k then 1 else 0)) H
noncomputable abbrev jo(K:Fg):List V->Hp->VK->Prop:=fun xs H Q=>∃p ys,xs=[.ref p]/\((SqL K H p ys/\∀l,H l=none->Q (.ref l) (upd H l (.tup ys)))\/(SqT K H p ys/\Q (.ref p) H))
noncomputable abbrev eU(K:Fg):List V->Hp->VK->Prop:=fun xs H Q=>∃p ys,xs=[.ref p]/\(SqL K H p ys\/SqT K H p ys)/\∀l,H l=none->Q (.ref l) (upd H l (.lst ys))
theorem J3{K:Fg}:OA K (.type "int") (.type "int")=some true:=by rfl
theorem J4{K:Fg}:OA K (.type "int") (.type "bool")=some false:=by
 show Ol K (.type "int") (.type "bool")=some false;unfold Ol
 kernel_rfl
structure Nn (X:Cx):Prop where
 stk:X.stack=X.env :: X.outer
 eQ:X.env.frame=some X.env.locals
 exs:X.ex=[]
section
variable{P:Oo}{w:OD}{K:Fg}{mg:Str->Option NY}{base:Heap}{x:Str}{st:Stmt}{N ps:List Str}{k:Nat}{sp:Sp}
theorem jc:1<=sizeLine:=by decide
theorem aQ:2<=sizeLine:=by decide
theorem ja:3<=sizeLine:=by decide
theorem aU{N:List Str}{n:Nat}(hN:N.length=n)(vs:List V):L2.start N vs=vs.map some++PM (n-vs.length) none:=by
 subst hN;rfl
theorem aP.okN(F:aP K mg x st ps)(S:aw N ps (ao st))(len:∀vs H Q E,sp vs H Q E->vs.length=ps.length)
  (hbody:∀(f:Addr) (cdv:NY) (A:O1) (outer:List Env) (s:N5) (H:Hp) (vs:List V) (Q:VK) (E:XK),N.Nodup->Room k (A.deeper (envOfC x (ao st) s.heap.objs.size f cdv))->(A.deeper (envOfC x (ao st) s.heap.objs.size f cdv)).units+64<cLine->(A.deeper (envOfC x (ao st) s.heap.objs.size f cdv)).units+1<cLine->(∀{M:Model} {A:O1} {env:Env},PassesOwn M A env fun _ _=>False)->Nn (nZ bK P w K mg base N x (ao st) f cdv A outer s H E).nox->sp vs H Q E ->
   ∃t,PSs (nZ bK P w K mg base N x (ao st) f cdv A outer s H E).nox (cu st) t/\t {nx:=fun _ H'=>Q .non H',rt:=Q} (start N vs) H):FnC P w K mg base bK (k+1) x ps sp :=
 F.ok S len fun f cdv A outer s H vs Q E hr h=>hbody f cdv A outer s H vs Q E S.nd hr hr.units (Oy (T8 (by decide:1<=64) _) hr.units) SE ⟨rfl,rfl,rfl⟩ h
end
open PySem PySem.Spec PyProof.Rows PySem.W Builtin Builtin.ObjectAttr Builtin.Getset_descriptor
open PySem PySem.Spec PyProof.Rows PySem.W
open PySem.W (Dat kqdP kqdPs kqdOk)
mutual
inductive Rep (K:Fg) (H:Hp):V->Dat->Prop
 |non:Rep K H .non .none
 |bl (b:Bool):Rep K H (.bl b) (.bool b)
 |int (i:Int):Rep K H (.int i) (.int i)
 |str (x:Str):Rep K H (.str x) (.str x)
 |tup {a:Addr} {xs:List V} {ds:List Dat}:SqT K H a xs->RepL K H xs ds->Rep K H (.ref a) (.tuple ds)
 |lst {a:Addr} {xs:List V} {ds:List Dat}:SqL K H a xs->RepL K H xs ds->Rep K H (.ref a) (.list ds)
inductive RepL (K:Fg) (H:Hp):List V->List Dat->Prop
 |nil:RepL K H [] []
 |cons {v:V} {d:Dat} {vs:List V} {ds:List Dat}:Rep K H v d->RepL K H vs ds->RepL K H (v :: vs) (d :: ds)
end
section
variable{X:Cx}{ν:List (Addr×Obj)}{σ:St}{H:Hp}{s:N5}
mutual
theorem Rep.reads(I:Inv X ν σ H s):∀{v:V} {d:Dat} {u:NY},Rep X.K H v d->RelV v u->∃as,Reads s.heap u (kqdP d) as
 |_,_,u,.non,r=>by
  cases (show u=P1 from r);exact⟨_,Reads.none⟩
 |_,_,u,.bl b,r=>by
  cases (show u=Vf b from r);exact⟨_,Reads.bool b⟩
 |_,_,u,.int i,r=>by
  obtain⟨t,e⟩:=(show ∃t,u=R4 i t from r)
  cases e;exact⟨_,Reads.int i t⟩
 |_,_,u,.str x,r=>by
  obtain⟨t,e⟩:=(show ∃t,u=V5 x t from r)
  cases e;exact⟨_,Reads.str x t⟩
 |_,_,u,@Rep.tup _ _ a xs ds h q,r=>by
  cases (show u=O9 a from r);obtain⟨dk,rv,⟨o,e,c,n,dd⟩,_⟩:=I.tuple h;obtain⟨as,p⟩:=RepL.reads I q rv;rw[kqdP];exact⟨_,Reads.tuple e c dd (by simpa using p)⟩
 |_,_,u,@Rep.lst _ _ a xs ds h q,r=>by
  cases (show u=O9 a from r);obtain⟨dk,rv,⟨o,n,e,c,_,dd⟩,_⟩:=I.list h;obtain⟨as,p⟩:=RepL.reads I q rv;rw[kqdP];exact⟨_,Reads.list e c dd (by simpa using p)⟩
theorem RepL.reads(I:Inv X ν σ H s):∀{vs:List V} {ds:List Dat} {us:List NY},RepL X.K H vs ds->Vals vs us->∃as,ReadsAll s.heap us (kqdPs ds) as
 |_,_,_,.nil,.nil=>by
  rw[kqdPs];exact⟨_,ReadsAll.nil⟩
 |_,_,_,.cons h q,.cons r rr=>by
  obtain⟨as,p⟩:=Rep.reads I h r;obtain⟨bs,p'⟩:=RepL.reads I q rr;rw[kqdPs];exact⟨_,ReadsAll.cons p p'⟩
end
open Classical in
theorem tU{ds:List Dat}(ha:∀e∈ds,kqdOk 8 e=true)(hd:kqdOk 8 d=true):((kqdPs ds).any fun y=>Ru y (kqdP d))=decide (d∈ds):=by
 by_cases z:d∈ds
 ·rw[decide_eq_true z];exact(XB ds d ha hd).mpr z
 ·rw[decide_eq_false z];exact Bool.eq_false_iff.mpr fun y=>z ((XB ds d ha hd).mp y)
open Classical in
noncomputable def hE(K:Fg)(neg:Bool):R2:=fun x y H Q=>∃d ds,Rep K H x d/\Rep K H y (.list ds)/\(∀e∈ds,kqdOk 8 e=true)/\kqdOk 8 d=true/\Q (.bl (if neg then !decide (d∈ds) else decide (d∈ds))) H
theorem zI{A:O1}(hd:kqdOk 8 d=true)(hu:A.units+64<cLine):A.units+1+min (SG (kqdPs ds)) (kqdP d).depth<cLine:=by
 have l:=(QI 8 d hd).2
 have:=Ts (SG (kqdPs ds)) (kqdP d).depth
 lia
theorem JE(hu:X.A.units+64<cLine):f_ X (compareOp .In) (hE X.K false):=by
 intro ν s σ H x y v u Q I rx ry h;obtain⟨d,ds,hd,he,ka,kd,q⟩:=h;obtain⟨as,ra⟩:=Rep.reads I hd rx;obtain⟨bs,rb⟩:=Rep.reads I he ry;rw[kqdP] at rb;exact SeqAt.in_list_reads rb ra (Tt ka).1 (QI 8 d kd).1 (zI kd hu) ⟨_,H,I,(by rw[tU ka kd];rfl),q⟩
theorem yN(hu:X.A.units+64<cLine):f_ X (compareOp .NotIn) (hE X.K true):=by
 intro ν s σ H x y v u Q I rx ry h;obtain⟨d,ds,hd,he,ka,kd,q⟩:=h;obtain⟨as,ra⟩:=Rep.reads I hd rx;obtain⟨bs,rb⟩:=Rep.reads I he ry;rw[kqdP] at rb;exact SeqAt.notIn_list_reads rb ra (Tt ka).1 (QI 8 d kd).1 (zI kd hu) ⟨_,H,I,(by rw[tU ka kd];rfl),q⟩
end
noncomputable def aX(X:Cx)(ys M:List Str)(scope:Scope)(cl:List (Str×Addr))(C:Addr)(s:N5)(H:Hp)(fp:List Addr)(ν:List (Addr×Obj)):Cx where
 prog:=X.prog
 w:=X.w
 K:=X.K
 mg:=X.mg
 base:=X.base
 A:=X.A
 N:=ys++M
 s₀:=s
 H₀:=H
 env:=compEnvC scope cl C X.env
 outer:=X.stack
 stack:=X.stack
 ex:=fp
 fn:=fun _=>false
 calm:=X.calm
 pn:=X.pn++ν
 xe:=fun _ _=>False
structure lH (X:Cx) (ys M:List Str) (scope:Scope) (cl:List (Str×Addr)):Prop where
 kind:scope.kind=.function
 nocell:∀y∈scope.names,y.2≠.cell
 names:∀y∈scope.names,y.2=.local->scope.names.lookup y.1=some .local
 own:∀y∈ys,scope.names.lookup y=some .local
 clos:closureFor scope X.env=pure cl
 nd:(ys++M).Nodup
 len:M.length=X.N.length
 same:∀p∈M.zip X.N,p.1=p.2\/(relabel scope X.env).names.lookup p.1=none
 apart:∀y∈M,(relabel scope X.env).names.lookup y≠some .local
 cells:∀y c,cl.lookup y=some c->X.env.cells.lookup y=some c/\(X.env.scope.names.lookup y=some .cell\/X.env.scope.names.lookup y=some .free)
 has:∀y,((relabel scope X.env).names.lookup y=some .cell\/(relabel scope X.env).names.lookup y=some .free)->∃c,cl.lookup y=some c
section
variable{X:Cx}{ys M:List Str}{scope:Scope}{cl:List (Str×Addr)}{C:Addr}{s:N5}{H:Hp}{fp:List Addr}{ν:List (Addr×Obj)}{σ:St}
theorem uX{h1:Heap}{tk:Nat}(I:Inv X ν σ H s)(c:lH X ys M scope cl)(eC:C=s.heap.objs.size)(ZE:h1.Ns C (fun _=>none))(ZP:Qx C (s.heap.push o) h1)
  (fk:∀b∈fp,gu X ν H b/\∃o,s.heap.get? b=some o):Inv (aX X ys M scope cl C s H fp ν) [] (PM ys.length none ++ σ) H {s with heap:=h1,toks:=tk}:=by
 have keep:∀b u,s.heap.get? b=some u->h1.get? b=some u:=fun b u e=>ZP.extBut b u (by rw[eC];exact Ou (Op e)) (N3 _ e)
 have neC:∀b u,s.heap.get? b=some u->b≠C:=fun b u e=>by rw[eC];exact Ou (Op e)
 have out:∀{b:Addr},b≠X.env.locals->b∉X.fs->b∉wC X.stack:=fun h1 h2 z=>(Od.mp (I.xC _ z)).elim h1 h2
 refine⟨⟨I.ok.mod,c.kind,I.ok.glob,I.ok.blt,by rw[eC];exact N4 _,fun y z a h1 h2=>I.ok.inj y z a (c.cells y a h1).1 (c.cells z a h2).1,c.has,fun y a z _=>Bool.noConfusion z,I.ok.hd,I.ok.frames,.inl rfl,fun b hb=>?_,I.bs,Oi I.ok.bsz I.sz,fun b u e hb=>?_,fun b hb=>?_,I.stack,I.xD⟩,
  rfl,I.bare,Un.kept keep,⟨_,ZE,fun i y v e1 e2 e3=>?_⟩,fun y a e=>?_,I.hok.fresh (by rw[eC];exact N4 _),fun y a e=>I.freeC y a (c.cells y a e).1,fun p hp=>?_,I.hok.kept keep,?_⟩
 ·obtain⟨⟨_,_,_,_,f5,_⟩,u,e⟩:=fk b hb;exact⟨neC b u e,fun y a q=>f5 y a (c.cells y a q).1⟩
 ·obtain⟨⟨_,_,_,f4,_,_⟩,_⟩:=fk b hb;rcases f4 with z|z
  ·exact I.ok.noex b u e z
  ·exact absurd (OB (Op (I.ok.bs b u e).1) z) (Rf _)
 ·obtain⟨⟨_,f2,f3,_,_,_⟩,_⟩:=fk b hb;exact out f2 f3
 ·by_cases lt:i<ys.length
  ·have Z0:(PM ys.length (none:Option V) ++ σ)[i]?=some (some v):=e2;rw[O5 (by simpa using lt),List.getElem?_replicate_of_lt lt] at Z0;cases Z0
  ·have e0:M[i-ys.length]?=some y:=by
    have e1':(ys++M)[i]?=some y:=e1
    rwa [Pj (by lia)] at e1'
   have Z0:σ[i-ys.length]?=some (some v):=by
    have Z0:(PM ys.length (none:Option V) ++ σ)[i]?=some (some v):=e2
    rwa [Pj (by simpa using lt),P4] at Z0
   have hy:y∈M:=N2 e0
   have vis0:(relabel scope X.env).names.lookup y≠none:=by
    rcases e3 with z|z|z <;> (intro q;have q':=(show(relabel scope X.env).names.lookup y=some _ from z).symm.trans q;cases q')
   have e1':X.N[i-ys.length]?=some y:=by
    have Ad:i-ys.length<X.N.length:=by rw[<- c.len];exact(NT.mp e0).1
    have hz:(y,X.N[i-ys.length])∈M.zip X.N:=by
     refine N2 (i:=i-ys.length) ?_;rw[List.getElem?_zip_eq_some];exact⟨e0,NR Ad⟩
    rcases c.same _ hz with q|q
    ·rw[NR Ad];exact congrArg some q.symm
    ·exact absurd q vis0
   have e3':(relabel scope X.env).names.lookup y=some .cell\/(relabel scope X.env).names.lookup y=some .free:=by
    rcases e3 with z|z|z
    ·exact absurd z (c.apart y hy)
    ·exact .inl z
    ·exact .inr z
   obtain⟨a,ea⟩:=c.has y e3';obtain⟨q1,q2⟩:=c.cells y a ea;obtain⟨m,_,hl⟩:=I.loc;have vis:LO X.env.scope y:=.inr q2;obtain⟨u,ru,lu⟩:=hl (i-ys.length) y v e1' Z0 vis;refine⟨u,ru,.inr ⟨e3',a,ea,?_⟩⟩;rcases lu with⟨z,_⟩|⟨_,a',ea',⟨oc,hoc,hd⟩⟩
   ·have z':X.env.scope.names.lookup y=some .local:=z;rcases q2 with q2|q2 <;> (rw[z'] at q2;cases q2)
   ·rw[q1] at ea';cases ea';exact⟨oc,keep _ _ hoc,hd⟩
 ·obtain⟨v,oc,hoc,hd⟩:=I.cell y a (c.cells y a e).1;exact⟨v,oc,keep _ _ hoc,hd⟩
 ·have ZM:p∈X.pn++ν:=by simpa[aX] using hp
  obtain⟨q1,q2,q3,q4,q5⟩:=I.pin p ZM;exact⟨keep _ _ q1,q2,neC _ _ q1,out q3 q4,q5⟩
 ·show(PM ys.length none ++ σ).length=(ys++M).length;rw[N6,N6,P4,I.len,c.len]
theorem kU(I:Inv X ν σ H s)(fk:∀b∈fp,gu X ν H b/\∃o,s.heap.get? b=some o)(I':Inv (aX X ys M scope cl C s H fp ν) ZC σ' H' s1):Inv X ν σ H' s1 :=
 I.call' (ch:=fp) I'.os I'.base I'.hok I'.bare fun b hb=>let ⟨⟨_,f2,_,f4,f5,f6⟩,_⟩:=fk b hb;⟨f4,f2,f5,f6⟩
noncomputable def wA(J:It)(n:Nat)(g:TG)(te:TE)(σ:St)(Q:VK)(H1:Hp):Prop:=∀D,H1 D=none->∃W:Nat->Nat->Hp->Prop,(∃m,W 0 m (upd H1 D (.lst [])))/\∀i m H,W i m H ->
 (J.stop i H/\Q (.ref D) H)\/(J.go i H/\∀v H',J.yld i H v H'->∀us:St,us.length=n->g v (us ++ σ) H' fun σ2 H2=>(∃Y2:St,Y2.length=n/\σ2=Y2 ++ σ)/\te σ2 H2 fun y H3=>∃xs,H3 D=some (.lst xs)/\xs.length<sizeLine/\∃m',m'<m/\W (i+1) m' (upd H3 D (.lst (xs++[y]))))
noncomputable def fW(wi:TI)(n:Nat)(g:TG)(te:TE):TE:=fun σ H Q=>wi σ H fun J H1=>wA J n g te σ Q H1
noncomputable def cW(J:It)(te:TE)(σ:St)(Q:VK)(H1:Hp):Prop:=∀D,H1 D=none->∃W:Nat->Nat->Hp->Prop,(∃m,W 0 m (upd H1 D (.lst [])))/\∀i m H,W i m H ->
 (J.stop i H/\Q (.ref D) H)\/(J.go i H/\∀v H',J.yld i H v H'->te (some v :: σ) H' fun y H2=>∃xs,H2 D=some (.lst xs)/\xs.length<sizeLine/\∃m',m'<m/\W (i+1) m' (upd H2 D (.lst (xs++[y]))))
noncomputable def eI(wi:TI)(te:TE):TE:=fun σ H Q=>wi σ H fun J H1=>cW J te σ Q H1
theorem DN{σ:St}{Q:VK}(h:cW J te σ Q H1):wA J 1 (ak 0) te σ Q H1:=by
 intro D nD;obtain⟨W,h0,hs⟩:=h D nD;refine⟨W,h0,fun i m H w=>?_⟩;rcases hs i m H w with q|⟨go,st⟩
 ·exact .inl q
 ·refine .inr ⟨go,fun v H' y us hu=>?_⟩;obtain⟨u,rfl⟩:∃u,us=[u]:=PL.mp hu;exact⟨⟨[some v],rfl,rfl⟩,st v H' y⟩
theorem Aq{R:VO->N5->Prop}{s:N5}{iter:Expr}{scope:Scope}{acc:NY}(I:Nat->N5->Prop)
  (turn:∀n s,I n s->wpAny (model prog w) A (pyNext it) (fun r s1=>match r with
   |none=>R (.ok .next) s1
   |some v=>wpAny (model prog w) A (letOwnedTupleGo target it v) (fun _ s2=>wpAny (model prog w) A (assign target env v) (fun _ s3=>wpAny (model prog w) A (eval elt env) (fun x s4 =>
     wpAny (model prog w) A (call (.builtin "list.append") [acc,x]) (fun _ s5=>∃m,m<n/\I m s5) (fun _ _=>False) s4) (fun _ _=>False) s3) (fun _ _=>False) s2) (fun _ _=>False) s1) (fun _ _=>False) s) (n:Nat) (h:I n s) :
  codeAny (model prog w) A (.compLoop (.ListComp elt [⟨target,iter,[],0⟩] scope pos) 0 it acc env) R s:=by
 refine codeAny_loop rfl I (fun k s1 hI=>?_) n h;have no:∀{α:Type} {t:Sem α} {P:α->N5->Prop} {E:NY->N5->Prop} {z:N5},wpAny (model prog w) A t P (fun _ _=>False) z->wpAny (model prog w) A t P E z:=fun q=>O_ q (fun _ _ z=>z) fun _ _ z=>z.elim
 show wpAny _ _ ((compTurn (.ListComp elt [⟨target,iter,[],0⟩] scope pos) 0 it acc env).onRaise _) _ _ s1;refine wpAny_noted ?_;rw[compTurn_list1];refine NU (UP (NU (no (O_ (turn k s1 hI) (fun r s2 h2=>?_) fun _ _ z=>z))));cases r with
 |none=>exact Oc h2
 |some v =>
  refine NU (no (O_ h2 (fun _ s3 h3=>?_) fun _ _ z=>z));refine NU (no (O_ h3 (fun _ s4 h4=>?_) fun _ _ z=>z));refine NU (NU (no (O_ h4 (fun x s5 h5=>?_) fun _ _ z=>z)));exact NU (no (O_ h5 (fun _ s6 h6=>Oc (Oc ⟨rfl,h6⟩)) fun _ _ z=>z))
theorem Ar{iter:Expr}{E:NY->N5->Prop}{QQ:Addr->Hp->Prop}{RR:NY->Addr->VO->N5->Prop}(I:Inv X ν σ H s)(c:lH X ys M scope cl)(hc:X.calm=true)
  (hg:∀C s₀ H₀ fp ν,PG (aX X ys M scope cl C s₀ H₀ fp ν) tg g) (he:∀C s₀ H₀ fp ν,PE (aX X ys M scope cl C s₀ H₀ fp ν) elt te) (T:qI X.prog X.w X.K tg J fp it tn) (st:tn 0 s.heap) (fk:∀b∈fp,gu X ν H b)
  (h:∀D,H D=none->∃W:Nat->Nat->Hp->Prop,(∃m,W 0 m (upd H D (.lst [])))/\∀i m H,W i m H ->
   (J.stop i H/\QQ D H)\/(J.go i H/\∀v H',J.yld i H v H'->∀us:St,us.length=ys.length->g v (us ++ σ) H' fun σ2 H2=>(∃Y2:St,Y2.length=ys.length/\σ2=Y2 ++ σ)/\te σ2 H2 fun y H3=>∃xs,H3 D=some (.lst xs)/\xs.length<sizeLine/\∃m',m'<m/\W (i+1) m' (upd H3 D (.lst (xs++[y])))))
  (fin:∀D C H' s',s.heap.objs.size<=C->s'.heap.get? C≠none->(∃m,s'.heap.Ns C m)->H' C=none->Inv X ν σ H' s'->QQ D H'->RR (.ref D) C (.ok .next) s') :
  wpAny (model X.prog X.w) X.A (newList []) (fun acc s₃=>wpAny (model X.prog X.w) X.A (newFunctionEnv scope X.env.globals cl [] X.env.qual none .none (some X.env)) (fun Zs s₄ =>
   codeAny (model X.prog X.w) X.A (.compStart (.ListComp elt [⟨tg,iter,[],0⟩] scope pos) 0 (.ref it) acc {Zs with scope:=relabel scope X.env}) (RR acc Zs.locals) s₄) E s₃) E s:=by
 refine PK (VR c.nocell (by intro y hy;simp at hy) (fun h1 ZE ZP=>?_) c.kind);dsimp only at ZE ZP ⊢;have hf:H s.heap.objs.size=none:=I.hok.fresh (N4 _)
 have I3:Inv X ν σ (upd H s.heap.objs.size (.lst [])) {s with heap:=s.heap.push {cls:=.type "list",dict:=none,data:=.seq ([]:List NY).toArray}} :=
  I.laid (t':=s.toks) (fun b u e=>N3 _ e) (N4 _) ⟨by decide,[],_,.nil,OC _ rfl⟩
 have eD:∀b u,s.heap.get? b=some u->b≠s.heap.objs.size:=fun b u e=>Ou (Op e)
 have ZH:∀b∈fp,gu X ν (upd H s.heap.objs.size (.lst [])) b/\∃o,(s.heap.push {cls:=.type "list",dict:=none,data:=.seq ([]:List NY).toArray}).get? b=some o:=fun b hb=>by
  obtain⟨o,eo,_⟩:=T.obj 0 _ st b hb;obtain⟨f1,f2⟩:=fk b hb;exact⟨⟨by rw[aB (eD b o eo)];exact f1,f2⟩,o,N3 _ eo⟩
 have I4:=uX (tk:=s.toks+([]:List (Str×NY)).length) I3 c rfl ZE ZP ZH;obtain⟨W,⟨m0,w0⟩,turn⟩:=h _ hf
 have st4:tn 0 h1:=T.keep 0 _ _ st fun b hb o e=>by
  have e2:=N3 {cls:=.type "list",dict:=none,data:=.seq ([]:List NY).toArray} e;exact ZP.extBut b o (Ou (Op e2)) (N3 _ e2)
 have YX:∀{H':Hp},(∀b∈fp,H' b=none)->∀b∈fp,gu (aX X ys M scope cl (s.heap.push {cls:=.type "list",dict:=none,data:=.seq ([]:List NY).toArray}).objs.size {s with heap:=s.heap.push {cls:=.type "list",dict:=none,data:=.seq ([]:List NY).toArray}} (upd H s.heap.objs.size (.lst [])) fp ν) [] H' b :=
  fun hn b hb=>⟨hn b hb,(I4.ok.exf b hb).1,I4.ok.exfs b hb,.inl hb,(I4.ok.exf b hb).2,fun p hp=>(ZH b hb).1.2.2.2.2.2 p (by simpa[aX] using hp)⟩
 have loop:∀s4:N5,s4 = {s with heap:=h1,toks:=s.toks+([]:List (Str×NY)).length} ->
   codeAny (model X.prog X.w) X.A (.compLoop (.ListComp elt [⟨tg,iter,[],0⟩] scope pos) 0 (.ref it) (.ref s.heap.objs.size) (compEnvC scope cl (s.heap.push {cls:=.type "list",dict:=none,data:=.seq ([]:List NY).toArray}).objs.size X.env))
    (RR (.ref s.heap.objs.size) (s.heap.push {cls:=.type "list",dict:=none,data:=.seq ([]:List NY).toArray}).objs.size) s4:=by
  rintro s4 rfl
  refine Aq (fun n s'=>∃(i:Nat) (us:St) (H':Hp),us.length=ys.length/\Inv (aX X ys M scope cl (s.heap.push {cls:=.type "list",dict:=none,data:=.seq ([]:List NY).toArray}).objs.size {s with heap:=s.heap.push {cls:=.type "list",dict:=none,data:=.seq ([]:List NY).toArray}} (upd H s.heap.objs.size (.lst [])) fp ν) [] (us ++ σ) H' s'/\tn i s'.heap/\(∀b∈fp,H' b=none)/\W i n H')
   ?_ m0 ⟨0,_,_,P4,I4,st4,fun b hb=>(ZH b hb).1.1,w0⟩
  rintro n s5 ⟨i,us,H5,lu,I5,ZV,fr5,w5⟩;rcases turn i n H5 w5 with⟨stop,q⟩|⟨go,step⟩
  ·refine bg (T.done (aX X ys M scope cl _ _ _ _ _) rfl rfl rfl hc i [] s5 _ H5 _ I5 (YX fr5) ZV stop) fun r s6 ⟨er,I6⟩=>?_
   subst er;obtain⟨m,hn6,_⟩:=id I6.loc;obtain⟨o6,_,_,ho6,_⟩:=id hn6;exact fin _ _ H5 s6 (by rw[Rn];exact UD _) (fun z=>by have z':=ho6.symm.trans z;cases z') ⟨m,hn6⟩ I6.free (kU I3 ZH I6) q
  ·refine bg (T.item (aX X ys M scope cl _ _ _ _ _) rfl rfl rfl hc i [] s5 _ H5 _ I5 (YX fr5) ZV go) fun r s6 ⟨u,er,h6⟩=>?_
   subst er;refine bg h6 fun _ s7 ⟨v',H7,I7,r7,y7,ZW,fr7⟩=>?_
   have I7':=I7.pinned (YX fr7) (T.obj _ _ ZW);refine O_ (hg _ _ _ _ _ _ s7 _ H7 v' u _ I7' r7 (step v' H7 y7 us lu)) (fun _ s8 ⟨σ8,H8,I8,⟨Y2,lu',e8⟩,q8⟩=>?_) fun _ _ z=>z.elim
   refine O_ (he _ _ _ _ _ _ s8 _ H8 _ I8 q8) (fun y s9 ⟨yv,H9,I9,ry,xs,ZQ,hlen,m',hm,w9⟩=>?_) fun _ _ z=>z.elim
   refine O_ (jF (X:=aX X ys M scope cl _ _ _ _ _) _ s9 _ H9 (.ref s.heap.objs.size) [yv] (.ref s.heap.objs.size) [y] (fun _ YC=>YC=upd H9 s.heap.objs.size (.lst (xs++[yv]))) I9 rfl (.cons ry .nil) ⟨_,xs,yv,rfl,rfl,ZQ,hlen,rfl⟩) (fun _ s10 ⟨z,YC,I10,rz,ZU⟩=>?_) fun _ _ z=>z.elim
   subst ZU;subst e8;refine⟨m',hm,i+1,Y2,_,lu',I10.fC (ν:=[]),T.keep _ _ _ ZW fun b hb o e=>(I10.pin (b,o) (Ob _ (Ob _ (bZ hb e)))).1,fun b hb=>?_,w9⟩;obtain⟨o,e,_⟩:=T.obj _ _ ZW b hb;exact(I10.pin (b,o) (Ob _ (Ob _ (bZ hb e)))).2.1
 exact Vl (loop _ rfl) (T.self _ 0 _ _ _ st4 (loop _ rfl))
end
section
variable{X:Cx}{ys M:List Str}{x:Str}{scope:Scope}{cl:List (Str×Addr)}
theorem uG{iter:Expr}(c:lH X ys M scope cl)(hc:X.calm=true)(hi:PI X tg iter wi)(hg:∀C s₀ H₀ fp ν,PG (aX X ys M scope cl C s₀ H₀ fp ν) tg g)(he:∀C s₀ H₀ fp ν,PE (aX X ys M scope cl C s₀ H₀ fp ν) elt te)
  (hs:∀v,foldedSetIterable iter X.env v=pure v:=by intro _;rfl):PE X (.ListComp elt [⟨tg,iter,[],0⟩] scope pos) (fW wi ys.length g te):=by
 intro ν s σ H Q I h;rw[eval_ListComp];refine Sv (use:=none) rfl hs c.clos c.kind c.names (bg (hi ν s σ H _ I h) fun v s1 h1=>bg h1 fun Z5 s2 h2=>?_);obtain⟨it,fp,tn,J,H2,rfl,I2,T,st2,fk2,h3⟩:=h2;refine Ar (E:=X.xe) (QQ:=fun D H'=>Q (.ref D) H') I2 c hc hg he T st2 fk2 h3 fun D C H' s' hC hl ns fr I' q=>?_
 obtain⟨m,hn⟩:=ns;refine⟨m,hn,fun h' hs'=>?_⟩;have sz:=I2.sz;exact⟨.ref D,H',I'.turned (t':=s'.toks) (fun b o hb e=>(hs'.2 b hb).trans e) fr (I2.fpOk hC fr).2.1 (I2.fpOk hC fr).2.2.2.1 (I2.fpOk hC fr).2.2.2.2.1 (I2.fpOk hC fr).2.2.2.2.2,rfl,q⟩
theorem Jx(c:lH X [x] M scope cl)(C:Addr)(s₀:N5)(H₀:Hp)(fp:List Addr)(ν:List (Addr×Obj)):PG (aX X [x] M scope cl C s₀ H₀ fp ν) (.Name x px) (ak 0):=by
 have hx:(relabel scope X.env).names.lookup x=some .local:=lookup_relabel_local (c.own x (by simp));exact yG (X:=aX X [x] M scope cl C s₀ H₀ fp ν) (i:=0) c.nd rfl (.inl hx) (.inr hx)
end
noncomputable def BL(scope sc:Scope):List (Str×U2):=scope.names.map fun(n,k)=>if (k == .free && sc.kind == .function && sc.names.lookup n == some .cell) then (n,.cell) else (n,k)
noncomputable def gR(scope:Scope)(cells:List (Str×Addr)):List (Str×Addr):=((scope.names.filter fun n=>n.2 == .free).map fun n=>(n.1,(cells.lookup n.1).getD 0)).reverse
structure oA (sc:Scope) (N M ys:List Str) (scope:Scope):Prop where
 kind:scope.kind=.function
 nocell:∀y∈scope.names,y.2≠.cell
 names:∀y∈scope.names,y.2=.local->scope.names.lookup y.1=some .local
 own:∀y∈ys,scope.names.lookup y=some .local
 nd:(ys++M).Nodup
 len:M.length=N.length
 same:∀p∈M.zip N,p.1=p.2\/(BL scope sc).lookup p.1=none
 apart:∀y∈M,(BL scope sc).lookup y≠some .local
 free:∀n∈scope.names,n.2=.free->sc.names.lookup n.1=some .cell
theorem iw{g:Str->Addr}:∀{l:List (Str×Addr)} {y:Str},(∀n∈l,n.2=g n.1)->∀{c:Addr},l.lookup y=some c->c=g y/\∃n∈l,n.1=y
 |[],_,_,_,h=>by simp at h
 |(n,a) :: r,y,hg,c,h=>by
  by_cases e:y=n
  ·subst e;rw[QM,beq_self_eq_true] at h;have h':a=c:=Oq h;exact⟨by rw[<- h'];exact hg (y,a) NX,_,NX,rfl⟩
  ·have e':(y == n)=false:=beq_eq_false_iff_ne.mpr e;rw[QM,e'] at h;obtain⟨h1,m,hm,h2⟩:=iw (fun n hn=>hg n (NZ _ hn)) h;exact⟨h1,m,NZ _ hm,h2⟩
theorem tf{l:List (Str×Addr)}{y:Str}:(∃n∈l,n.1=y)->∃c,l.lookup y=some c:=by
 induction l with
 |nil=>rintro⟨n,hn,_⟩;cases hn
 |cons a r ih =>
  rintro⟨n,hn,e⟩;obtain⟨m,b⟩:=a;by_cases e':y=m
  ·subst e';exact⟨b,by rw[QM,beq_self_eq_true]⟩
  ·have e2:(y == m)=false:=beq_eq_false_iff_ne.mpr e';rw[QM,e2];refine ih ?_;rcases Od.mp hn with z|z
   ·rw[z] at e;exact absurd e.symm e'
   ·exact⟨n,z,e⟩
theorem n6{n:Str×Addr}:n∈gR scope cells↔∃m∈scope.names,m.2=.free/\n=(m.1,(cells.lookup m.1).getD 0):=by
 unfold gR;rw[List.mem_reverse,N9];constructor
 ·rintro⟨m,hm,rfl⟩;rw[Os] at hm;exact⟨m,hm.1,beq_iff_eq.mp hm.2,rfl⟩
 ·rintro⟨m,hm,hk,rfl⟩;exact⟨m,Os.mpr ⟨hm,beq_iff_eq.mpr hk⟩,rfl⟩
theorem k9{env:Env}:∀(names:List (Str×U2)) (acc:List (Str×Addr)),(∀n∈names,n.2=.free->∃c,env.cells.lookup n.1=some c) ->
  (forIn names acc fun x r=>do
   let (name,kind):=x
   if kind == .free then do
    let c <- cellOf env name
    pure (XC ((name,c) :: r))
   else pure (XC r):Sem (List (Str×Addr)))=pure (((names.filter fun n=>n.2 == .free).map fun n=>(n.1,(env.cells.lookup n.1).getD 0)).reverse++acc)
 |[],acc,_=>rfl
 |(n,k) :: r,acc,h=>by
  have ih:=fun acc=>k9 r acc fun m hm=>h m (NZ _ hm)
  rw[Vw];by_cases hk:k=.free
  ·subst hk;obtain⟨c,hc⟩:=h (n,.free) NX rfl;have e1:cellOf env n=pure c:=by unfold cellOf;rw[hc]
   simp only[beq_self_eq_true,if_true,e1,pure_bind,U5,OS,List.reverse_cons,Pi,Tj];rw[hc];exact ih _
  ·have hb:(k == X9)=false:=beq_eq_false_iff_ne.mpr hk;simp only[hb,Rv,if_false,pure_bind,U5];exact ih _
theorem oA.sc{X:Cx}(c:oA X.env.scope X.N M ys scope)(ok:X.Ok):lH X ys M scope (gR scope X.env.cells):=by
 have hfc:∀n∈scope.names,n.2=.free->∃a,X.env.cells.lookup n.1=some a:=fun n hn hk=>ok.has n.1 (.inl (c.free n hn hk))
 refine⟨c.kind,c.nocell,c.names,c.own,?_,c.nd,c.len,c.same,c.apart,fun y a h=>?_,fun y h=>?_⟩
 ·have z:=k9 (env:=X.env) scope.names [] hfc;rw[Qb] at z;exact(congrArg (fun m:Sem (List (Str×Addr))=>m >>= fun cs=>pure cs) z).trans rfl
 ·obtain⟨h1,n,hn,e⟩:=iw (g:=fun z=>(X.env.cells.lookup z).getD 0) (fun n hn=>by obtain⟨m,_,_,rfl⟩:=n6.mp hn;rfl) h;obtain⟨m,hm,hk,e2⟩:=n6.mp hn;have ey:m.1=y:=by rw[<- e,e2]
  obtain⟨a',ha'⟩:=hfc m hm hk;rw[ey] at ha';refine⟨?_,.inl (by rw[<- ey];exact c.free m hm hk)⟩;rw[h1,ha'];rfl
 ·have hm:∃m∈scope.names,m.1=y/\m.2=.free:=by
   have go:∀names:List (Str×U2),(∀z∈names,z.2≠.cell)->((names.map fun(n,k)=>if (k == .free && X.env.scope.kind == .function && X.env.kindOf n == some .cell) then (n,UT) else (n,k)).lookup y=some .cell\/(names.map fun(n,k)=>if (k == .free && X.env.scope.kind == .function && X.env.kindOf n == some .cell) then (n,UT) else (n,k)).lookup y=some .free)->∃m∈names,m.1=y/\m.2=.free:=by
    intro names
    induction names with
    |nil=>intro _ h;simp at h
    |cons a r ih =>
     intro nc h;obtain⟨n,k⟩:=a;by_cases e:y=n
     ·subst e;refine⟨_,NX,rfl,?_⟩;have nk:k≠.cell:=nc (y,k) NX;by_cases hk:k=.free
      ·exact hk
      ·have hb:(k == X9)=false:=beq_eq_false_iff_ne.mpr hk;simp only[OS,hb,XS,Rv,if_false,QM,beq_self_eq_true] at h;rcases h with z|z
       ·exact absurd (Oq z) nk
       ·exact absurd (Oq z) hk
     ·have e':(y == n)=false:=beq_eq_false_iff_ne.mpr e
      have h':(r.map fun(n,k)=>if (k == .free && X.env.scope.kind == .function && X.env.kindOf n == some .cell) then (n,UT) else (n,k)).lookup y=some .cell\/(r.map fun(n,k)=>if (k == .free && X.env.scope.kind == .function && X.env.kindOf n == some .cell) then (n,UT) else (n,k)).lookup y=some .free:=by
       by_cases hb:(k == .free && X.env.scope.kind == .function && X.env.kindOf n == some .cell)=true
       ·simpa only[OS,hb,if_true,QM,e'] using h
       ·simpa only[OS,hb,Rv,if_false,QM,e'] using h
      obtain⟨m,hm,r1⟩:=ih (fun z hz=>nc z (NZ _ hz)) h';exact⟨m,NZ _ hm,r1⟩
   exact go scope.names c.nocell h
  obtain⟨m,hm,e,hk⟩:=hm;exact tf ⟨_,n6.mpr ⟨m,hm,hk,rfl⟩,e⟩
section
variable{X:Cx}{x:Str}{ys M:List Str}{scope:Scope}
theorem Jr{iter:Expr}(c:oA X.env.scope X.N M ys scope)(hc:X.calm=true)(hi:PI X tg iter wi)(hg:∀C s₀ H₀ fp ν,PG (aX X ys M scope (gR scope X.env.cells) C s₀ H₀ fp ν) tg g)(he:∀C s₀ H₀ fp ν,PE (aX X ys M scope (gR scope X.env.cells) C s₀ H₀ fp ν) elt te)
  (hs:∀v,foldedSetIterable iter X.env v=pure v:=by intro _;rfl):PE X (.ListComp elt [⟨tg,iter,[],0⟩] scope pos) (fW wi ys.length g te):=fun ν s σ H Q I h=>uG (c.sc I.ok) hc hi hg he hs ν s σ H Q I h
theorem GA{elt iter:Expr}{px pos:Pos}{wi:TI}{te:TE}(c:oA X.env.scope X.N M [x] scope)(hN:X.N.Nodup)(hc:X.calm=true)(hi:PI X (.Name x px) iter wi)(he:∀C s₀ H₀ fp ν,PE (aX X [x] M scope (gR scope X.env.cells) C s₀ H₀ fp ν) elt te)
  (hs:∀v,foldedSetIterable iter X.env v=pure v:=by intro _;rfl):PE X (.ListComp elt [⟨.Name x px,iter,[],0⟩] scope pos) (eI wi te):=by
 intro ν s σ H Q I h
 have Zo:PI X (.Name x px) iter (fun σ H R=>∃R',(∀J H1,R' J H1->R J H1)/\wi σ H R'):=by
  intro ν s σ H R I ⟨R',hR,hw⟩;refine bg (hi ν s σ H R' I hw) fun v s1 h1=>bg h1 fun Z5 s2 ⟨it,fp,tn,J,H',e,I',T,t0,fk,r⟩=>⟨it,fp,tn,J,H',e,I',T,t0,fk,hR J H' r⟩
 exact uG (c.sc I.ok) hc Zo (fun C s₀ H₀ fp ν=>Jx (c.sc I.ok) C s₀ H₀ fp ν) he hs ν s σ H Q I ⟨_,fun J H1 q=>DN q,h⟩
end
noncomputable def HE(D:Addr)(Pv:Hp->Prop):VK:=fun y H2=>∃xs,H2 D=some (.lst xs)/\xs.length<sizeLine/\Pv (upd H2 D (.lst (xs++[y])))
section
variable{K:Fg}{te:TE}{σ:St}{Q:VK}{H:Hp}
noncomputable def oz(D:Addr)(n i:Nat)(Pv:Nat->Hp->Prop):VK:=fun y H2=>∃xs,H2 D=some (.lst xs)/\xs.length<sizeLine/\∃m',m'<n-i/\m'=n-(i+1)/\i+1<=n/\Pv (i+1) (upd H2 D (.lst (xs++[y])))
noncomputable def LV(te:TE)(σ:St)(v:V)(H:Hp)(D:Addr)(n i:Nat)(Pv:Nat->Hp->Prop):Prop:=te (some v :: σ) H (oz D n i Pv)
theorem aR{D:Addr}{n i:Nat}{Pv:Nat->Hp->Prop}(hi:i<n)(h:HE D (Pv (i+1)) y H2):oz D n i Pv y H2:=by
 obtain⟨xs,h1,h2,h3⟩:=h;exact⟨xs,h1,h2,n-(i+1),by lia,rfl,hi,h3⟩
theorem dD{lo:Int}{n:Nat}(h:∀D,H D=none->∃Pv:Nat->Hp->Prop,Pv 0 (upd H D (.lst []))/\(∀i H2,i<n->Pv i H2->LV te σ (.int (lo+i)) H2 D n i Pv)/\∀H2,Pv n H2->Q (.ref D) H2):cW (vI lo n) te σ Q H:=by
 intro D nD;obtain⟨Pv,h0,hs,hd⟩:=h D nD;refine⟨fun i m H=>m=n-i/\i<=n/\Pv i H,⟨n,by simp,OR _,h0⟩,?_⟩;rintro i m H ⟨rfl,hi,p⟩;by_cases Ad:i<n
 ·refine .inr ⟨Ad,fun v H' y=>?_⟩;obtain⟨e,y⟩:=y;subst e y;exact hs i _ Ad p
 ·have e:i=n:=by lia
  subst e;exact .inl ⟨N4 _,hd H p⟩
theorem cf{xs:List V}(h:∀D,H D=none->∃Pv:Nat->Hp->Prop,Pv 0 (upd H D (.lst []))/\(∀i H2,i<=xs.length->Pv i H2->SqL K H2 a xs)/\(∀i x H2,xs[i]?=some x->Pv i H2->LV te σ x H2 D xs.length i Pv)/\∀H2,Pv xs.length H2->Q (.ref D) H2):cW (tY K a) te σ Q H:=by
 intro D nD;obtain⟨Pv,h0,hl,hs,hd⟩:=h D nD;refine⟨fun i m H=>m=xs.length-i/\i<=xs.length/\Pv i H,⟨xs.length,by simp,OR _,h0⟩,?_⟩;rintro i m H ⟨rfl,hi,p⟩;have q:=hl i H hi p;by_cases Ad:i<xs.length
 ·refine .inr ⟨⟨xs,xs[i],q,by simp[Ad]⟩,fun v H' y=>?_⟩;obtain⟨e,y⟩:=y;subst e;exact hs i v _ (y xs q) p
 ·have e:i=xs.length:=by lia
  subst e;exact .inl ⟨⟨xs,q,N4 _⟩,hd H p⟩
theorem DL{xs:List V}(h:∀D,H D=none->∃Pv:Nat->Hp->Prop,Pv 0 (upd H D (.lst []))/\(∀i H2,i<=xs.length->Pv i H2->SqT K H2 a xs)/\(∀i x H2,xs[i]?=some x->Pv i H2->LV te σ x H2 D xs.length i Pv)/\∀H2,Pv xs.length H2->Q (.ref D) H2):cW (wz K a) te σ Q H:=by
 intro D nD;obtain⟨Pv,h0,hl,hs,hd⟩:=h D nD;refine⟨fun i m H=>m=xs.length-i/\i<=xs.length/\Pv i H,⟨xs.length,by simp,OR _,h0⟩,?_⟩;rintro i m H ⟨rfl,hi,p⟩;have q:=hl i H hi p;by_cases Ad:i<xs.length
 ·refine .inr ⟨⟨xs,xs[i],q,by simp[Ad]⟩,fun v H' y=>?_⟩;obtain⟨e,y⟩:=y;subst e;exact hs i v _ (y xs q) p
 ·have e:i=xs.length:=by lia
  subst e;exact .inl ⟨⟨xs,q,N4 _⟩,hd H p⟩
end
open PySem.W (Dat kqdOk)
section
variable{K:Fg}{σ:St}{H:Hp}{Q:VK}{D:cx}{ta tb tc te:TE}{t u:TS}{c:TT}{QB:Bool->Hp->Prop}{QA:List V->Hp->Prop}{QS:St->Hp->Prop}
theorem MB(h:t {D with nx:=u D} σ H):am t u D σ H:=h
theorem Kl(h:D.nx σ H):aO D σ H:=h
theorem Hb(h:te σ H fun _ H1=>D.nx σ H1):bE te D σ H:=h
theorem MC(h:te σ H D.rt):aA te D σ H:=h
theorem MQ(h:c σ H fun b H1=>if b=true then t D σ H1 else u D σ H1):aI c t u D σ H:=h
theorem Kz{g:TG}(h:te σ H fun x H1=>g x σ H1 D.nx):av te g D σ H:=h
theorem zA{v:V}(h:QS (σ.set i (some v)) H):ak i v σ H QS:=h
theorem J_{i:Nat}{v:V}(e:σ[i]?=some (some v))(h:Q v H):aa i σ H Q:=⟨v,e,h⟩
theorem NK(h:Q v H):tC v σ H Q:=h
theorem MH{r:R2}(h:ta σ H fun x H1=>tb σ H1 fun y H2=>r x y H2 Q):aq r ta tb σ H Q:=h
theorem Mx{r:V->Hp->VK->Prop}(h:ta σ H fun x H1=>r x H1 Q):Ig r ta σ H Q:=h
theorem Kg{g:Int->V}(h:Q (g i) H):rU g (.int i) H Q:=⟨i,rfl,h⟩
theorem MD{g:Int->Int->V}(h:Q (g i j) H):sK g (.int i) (.int j) H Q:=⟨i,j,rfl,rfl,h⟩
theorem jN{C:Int->Int->Prop}{g:Int->Int->V}(hc:C i j)(h:Q (g i j) H):rI C g (.int i) (.int j) H Q:=⟨i,j,rfl,rfl,hc,h⟩
theorem MU{i j:Int}(h:Q (.bl (decide (i=j))) H):fF (.int i) (.int j) H Q:=⟨rfl,by
 have e:decide (V.int i=V.int j)=decide (i=j):=by
  by_cases z:i=j
  ·subst z;simp
  ·simp[z]
 rw[e];exact h⟩
theorem MJ{i j:Int}(h:Q (.bl (!decide (i=j))) H):kP (.int i) (.int j) H Q:=⟨rfl,by
 have e:decide (V.int i=V.int j)=decide (i=j):=by
  by_cases z:i=j
  ·subst z;simp
  ·simp[z]
 rw[e];exact h⟩
theorem MT{i j:Str}(h:Q (.bl (decide (i=j))) H):fF (.str i) (.str j) H Q:=⟨rfl,by
 have e:decide (V.str i=V.str j)=decide (i=j):=by
  by_cases z:i=j
  ·subst z;simp
  ·simp[z]
 rw[e];exact h⟩
theorem MV{i j:Bool}(h:Q (.bl (decide (i=j))) H):fF (.bl i) (.bl j) H Q:=⟨rfl,by
 have e:decide (V.bl i=V.bl j)=decide (i=j):=by
  by_cases z:i=j
  ·subst z;simp
  ·simp[z]
 rw[e];exact h⟩
theorem MK{i j:Bool}(h:Q (.bl (!decide (i=j))) H):kP (.bl i) (.bl j) H Q:=⟨rfl,by
 have e:decide (V.bl i=V.bl j)=decide (i=j):=by
  by_cases z:i=j
  ·subst z;simp
  ·simp[z]
 rw[e];exact h⟩
theorem MO{x:V}(h:Q (.bl (decide (x=.non))) H):ky x .non H Q:=⟨rfl,h⟩
theorem Kj{x:V}(h:Q (.bl (!decide (x=.non))) H):IP x .non H Q:=⟨rfl,h⟩
theorem Ka(h:te σ H fun x H'=>∃k,x=.bl k/\QB k H'):aH te σ H QB:=h
theorem Mz(h:te σ H fun x H'=>∃k,x=.bl k/\QB k H'):tB te σ H QB:=h
theorem M0{P:Bool->Prop}(h:P b):∃k,V.bl b=.bl k/\P k:=⟨b,rfl,h⟩
theorem Kk(h:c σ H fun b H1=>QB (!b) H1):fR c σ H QB:=h
theorem M2{c':TT}(h:c σ H fun b H1=>if b=true then c' σ H1 QB else QB false H1):kn c c' σ H QB:=h
theorem MG{c':TT}(h:c σ H fun b H1=>if b=true then QB true H1 else c' σ H1 QB):qO c c' σ H QB:=h
theorem KA(h:ta σ H fun x H1=>∃k,x=.bl k/\if k=true then tb σ H1 Q else Q (.bl false) H1):cZ ta tb σ H Q:=h
theorem Ki(h:ta σ H fun x H1=>∃k,x=.bl k/\Q (.bl (!k)) H1):mn ta σ H Q:=h
theorem MR(h:c σ H fun b H1=>if b=true then ta σ H1 Q else tb σ H1 Q):Ii c ta tb σ H Q:=h
theorem Hf{r r':R2}(h:ta σ H fun x H1=>tb σ H1 fun y H2=>r x y H2 fun z H3=>∃k,z=.bl k/\(if k=true then tc σ H3 fun w' H4=>r' y w' H4 Q else Q (.bl false) H3)):xu r r' ta tb tc σ H Q:=h
theorem Df(h:QA [] H):ae σ H QA:=h
theorem Kw{tr:TA}(h:ta σ H fun x H1=>tr σ H1 fun xs H2=>QA (x :: xs) H2):ac ta tr σ H QA:=h
theorem Ky{sp:Sp}{eK:List V}{ts:TA}(h:ts σ H fun vs H1=>sp (vs++eK) H1 Q E):ay sp eK E ts σ H Q:=h
theorem MX{r:List V->Hp->VK->Prop}{ts:TA}(h:ts σ H fun vs H1=>r vs H1 Q):aZ r ts σ H Q:=h
theorem My{ts:TA}(h:ts σ H fun xs H1=>xs.length<=sizeLine/\∀p,H1 p=none->Q (.ref p) (upd H1 p (.tup xs))):bJ ts σ H Q:=h
theorem ML{ts:TA}(h:ts σ H fun xs H1=>xs.length<=sizeLine/\∀p,H1 p=none->Q (.ref p) (upd H1 p (.lst xs))):ca ts σ H Q:=h
theorem MA{r:V->Option Int->Option Int->Hp->VK->Prop}{tl th:TO}(h:te σ H fun x H1=>tl σ H1 fun l H2=>th σ H2 fun u H3=>r x l u H3 Q):LL r te tl th σ H Q:=h
theorem De{QO:Option Int->Hp->Prop}(h:QO none H):mz σ H QO:=h
theorem Kh{QO:Option Int->Hp->Prop}(h:te σ H fun x H1=>∃i,x=.int i/\QO (some i) H1):Bm te σ H QO:=h
theorem MP{P:Int->Prop}(h:P i):∃j,V.int i=.int j/\P j:=⟨i,rfl,h⟩
theorem a6[Decidable p]{A B:Prop}(h1:p->A)(h2 : ¬ p->B):if decide p=true then A else B:=KG h1 h2
theorem cH[Decidable p]{A B:Prop}(h1 : ¬ p->A)(h2:p->B):if (!decide p)=true then A else B:=by
 by_cases h:p
 ·rw[decide_eq_true h];exact zE (h2 h)
 ·rw[decide_eq_false h];exact we (h1 h)
theorem G9{A B:Prop}(h:A):if (!false)=true then A else B:=we h
theorem G8{A B:Prop}(h:B):if (!true)=true then A else B:=zE h
noncomputable def wE(J:It)(g:TG)(tb:TS)(D:cx)(σ:St)(H1:Hp):Prop:=∃W:Nat->Nat->St->Hp->Prop,(∃m,W 0 m σ H1)/\∀i m σ H,W i m σ H ->
 (J.stop i H/\D.nx σ H)\/(J.go i H/\∃N:St->Hp->Prop,(∀σ' H',N σ' H'->∃m',m'<m/\W (i+1) m' σ' H')/\∀x H',J.yld i H x H'->g x σ H' fun σ2 H2=>tb {D with nx:=N,ct:=N,bk:=D.nx} σ2 H2)
theorem MS{wi:TI}{tb:TS}(h:wi σ H fun J H1=>wE J g tb D σ H1):be wi g tb D σ H:=h
theorem Kx{wi:TI}(h:wi σ H fun J H1=>cW J te σ Q H1):eI wi te σ H Q:=h
theorem Ke{ts:TA}{R:It->Hp->Prop}(h:ts σ H fun vs H1=>∃j:Int,vs=[.int j]/\-(2 ^ 62)<=j/\j<2 ^ 62/\R (vI 0 j.toNat) H1):cC ts σ H R:=h
theorem ME{tb:TS}{j:Int}(h0 : -(2 ^ 62)<=j/\j<2 ^ 62)(h:wE (vI 0 j.toNat) g tb D σ H):∃i:Int,[V.int j]=[.int i]/\-(2 ^ 62)<=i/\i<2 ^ 62/\wE (vI 0 i.toNat) g tb D σ H:=⟨j,rfl,h0.1,h0.2,h⟩
theorem MF{j:Int}(h0 : -(2 ^ 62)<=j/\j<2 ^ 62)(h:cW (vI 0 j.toNat) te σ Q H):∃i:Int,[V.int j]=[.int i]/\-(2 ^ 62)<=i/\i<2 ^ 62/\cW (vI 0 i.toNat) te σ Q H:=⟨j,rfl,h0.1,h0.2,h⟩
theorem G_{R:It->Hp->Prop}(h:te σ H fun x H1=>∃a,x=.ref a/\(∃xs,SqL K H1 a xs)/\R (tY K a) H1):bQ K te σ H R:=h
theorem Kq{R:It->Hp->Prop}(h:te σ H fun x H1=>∃a,x=.ref a/\(∃xs,SqT K H1 a xs)/\R (wz K a) H1):tt K te σ H R:=h
theorem gO{tb:TS}(e:SqL K H a xs)(h:wE (tY K a) g tb D σ H):∃b,V.ref a=.ref b/\(∃xs,SqL K H b xs)/\wE (tY K b) g tb D σ H:=⟨a,rfl,⟨xs,e⟩,h⟩
theorem kH(e:SqL K H a xs)(h:cW (tY K a) te σ Q H):∃b,V.ref a=.ref b/\(∃xs,SqL K H b xs)/\cW (tY K b) te σ Q H:=⟨a,rfl,⟨xs,e⟩,h⟩
theorem Kb{tb:TS}(e:SqT K H a xs)(h:wE (wz K a) g tb D σ H):∃b,V.ref a=.ref b/\(∃xs,SqT K H b xs)/\wE (wz K b) g tb D σ H:=⟨a,rfl,⟨xs,e⟩,h⟩
theorem Kc(e:SqT K H a xs)(h:cW (wz K a) te σ Q H):∃b,V.ref a=.ref b/\(∃xs,SqT K H b xs)/\cW (wz K b) te σ Q H:=⟨a,rfl,⟨xs,e⟩,h⟩
theorem a8{lo:Int}{n:Nat}{g:TG}{tb:TS}(Pv:Nat->St->Hp->Prop)(h0:Pv 0 σ H)
  (hs:∀i σ H,i<n->Pv i σ H->g (.int (lo+i)) σ H fun σ2 H2=>tb {D with nx:=Pv (i+1),ct:=Pv (i+1),bk:=D.nx} σ2 H2) (hd:∀σ H,Pv n σ H->D.nx σ H):wE (vI lo n) g tb D σ H:=Ac Pv h0 hs hd
theorem bj{xs:List V}{g:TG}{tb:TS}(Pv:Nat->St->Hp->Prop)(h0:Pv 0 σ H)(hl:∀i σ H,i<=xs.length->Pv i σ H->SqL K H a xs)
  (hs:∀i x σ H,xs[i]?=some x->Pv i σ H->g x σ H fun σ2 H2=>tb {D with nx:=Pv (i+1),ct:=Pv (i+1),bk:=D.nx} σ2 H2) (hd:∀σ H,Pv xs.length σ H->D.nx σ H):wE (tY K a) g tb D σ H:=DC Pv h0 hl hs hd
theorem tw{xs:List V}{g:TG}{tb:TS}(Pv:Nat->St->Hp->Prop)(h0:Pv 0 σ H)(hl:∀i σ H,i<=xs.length->Pv i σ H->SqT K H a xs)
  (hs:∀i x σ H,xs[i]?=some x->Pv i σ H->g x σ H fun σ2 H2=>tb {D with nx:=Pv (i+1),ct:=Pv (i+1),bk:=D.nx} σ2 H2) (hd:∀σ H,Pv xs.length σ H->D.nx σ H):wE (wz K a) g tb D σ H:=Hm Pv h0 hl hs hd
theorem MW{v:V}{D:Addr}(h:te (some v :: σ) H (oz D n i Pv)):LV te σ v H D n i Pv:=h
theorem bP{n:Nat}{ts:DV}(e:SqT K H a xs)(l:xs.length=n)(h:ts xs σ H QS):cF K n ts (.ref a) σ H QS:=⟨a,xs,rfl,e,l,h⟩
theorem Ha{tg:TG}{ts:DV}(h:tg v σ H fun σ' H'=>ts r σ' H' QS):a7 tg ts (v :: r) σ H QS:=⟨v,r,rfl,h⟩
theorem Kr(h:QS σ H):cG [] σ H QS:=⟨rfl,h⟩
theorem bH(e:SqL K H p xs)(h:Q (.int xs.length) H):bM K [.ref p] H Q:=⟨p,xs,rfl,.inl e,h⟩
theorem jO(e:SqT K H p xs)(h:Q (.int xs.length) H):bM K [.ref p] H Q:=⟨p,xs,rfl,.inr e,h⟩
theorem cj{v:V}(e:SqL K H p xs)(a:tT xs i=some v)(h:Q v H):bX K (.ref p) (.int i) H Q:=⟨p,xs,i,v,rfl,rfl,e,a,h⟩
theorem aF{v:V}(e:SqT K H p xs)(a:tT xs i=some v)(h:Q v H):aE K (.ref p) (.int i) H Q:=⟨p,xs,i,v,rfl,rfl,e,a,h⟩
theorem MN{z:Str}{c:Nat}(e:z.length<=sizeLine)(a:tT z.cps.toList i=some c)(h:Q (.str ⟨#[c]⟩) H):Ct (.str z) (.int i) H Q:=⟨z,i,c,rfl,rfl,e,a,h⟩
theorem qe(e:SqL K H p xs)(h:∀l,H l=none->Q (.ref l) (upd H l (.tup xs))):jo K [.ref p] H Q:=⟨p,xs,rfl,.inl ⟨e,h⟩⟩
theorem nL(e:SqL K H p xs)(h:∀l,H l=none->Q (.ref l) (upd H l (.lst xs))):eU K [.ref p] H Q:=⟨p,xs,rfl,.inl e,h⟩
theorem zy(e:SqT K H p xs)(h:∀l,H l=none->Q (.ref l) (upd H l (.lst xs))):eU K [.ref p] H Q:=⟨p,xs,rfl,.inr e,h⟩
theorem MZ{T:String}{r:V->List V->Hp->VK->Prop}{to:TE}{ts:TA}(h:to σ H fun x H1=>D9 K T x H1/\ts σ H1 fun xs H2=>r x xs H2 Q):eJ K T r to ts σ H Q:=h
theorem MY{T:String}{r:V->List V->Hp->VK->Prop}{to:TE}(h:to σ H fun x H1=>D9 K T x H1/\r x [] H1 Q):vQ K T r to σ H Q:=h
theorem qd(e:H p=some (.lst xs)):D9 K "list" (.ref p) H:=.inl ⟨rfl,xs,SqL.of e⟩
theorem Di{y:V}(e:H l=some (.lst xs))(n:xs.length<sizeLine)(h:Q .non (upd H l (.lst (xs++[y])))):aM (.ref l) [y] H Q:=⟨l,xs,y,rfl,rfl,e,n,h⟩
theorem zB(e:H l=some (.lst xs))(h:Q .non (upd H l (.lst []))):uB (.ref l) [] H Q:=⟨l,xs,rfl,rfl,e,h⟩
theorem Km{b:Bool}(h:Q (.int (if b then 1 else 0)) H):IT [.bl b] H Q:=.inr ⟨b,rfl,h⟩
theorem M3{i:Int}(h:Q (.int (if i<0 then -i else i)) H):Cu [.int i] H Q:=⟨i,rfl,h⟩
theorem aY{b:Bool}(e:TyOf K H x ty)(k:OA K ty (.type n)=some b)(h:Q (.bl b) H):bN K [x,.ty n] H Q:=⟨x,n,ty,b,rfl,e,k,h⟩
theorem EO{i j:Str}(n:i.length+j.length<=sizeLine)(h:Q (.str (i++j)) H):Gj (.str i) (.str j) H Q:=⟨i,j,rfl,rfl,n,h⟩
end
mutual
inductive Rp (K:Fg) (S:Addr->Prop) (H:Hp):V->Dat->Prop
 |non:Rp K S H .non .none
 |bl (b:Bool):Rp K S H (.bl b) (.bool b)
 |int (i:Int):Rp K S H (.int i) (.int i)
 |str (x:Str):Rp K S H (.str x) (.str x)
 |tup {a:Addr} {xs:List V} {ds:List Dat}:H a=some (.tup xs)->RpL K S H xs ds->Rp K S H (.ref a) (.tuple ds)
 |lst {a:Addr} {xs:List V} {ds:List Dat}:S a->H a=some (.lst xs)->RpL K S H xs ds->Rp K S H (.ref a) (.list ds)
inductive RpL (K:Fg) (S:Addr->Prop) (H:Hp):List V->List Dat->Prop
 |nil:RpL K S H [] []
 |cons {v:V} {d:Dat} {vs:List V} {ds:List Dat}:Rp K S H v d->RpL K S H vs ds->RpL K S H (v :: vs) (d :: ds)
end
structure Agr (S:Addr->Prop) (H H':Hp):Prop where
 tup:∀a xs,H a=some (.tup xs)->H' a=some (.tup xs)
 lst:∀a xs,S a->H a=some (.lst xs)->H' a=some (.lst xs)
section
variable{K:Fg}{S S':Addr->Prop}{H H':Hp}
theorem Agr.of_same(e:Same H H'):Agr S H H':=⟨fun a xs h=>e _ _ h,fun a xs _ h=>e _ _ h⟩
theorem Agr.eY(hl:H l=some (.lst ys))(ns : ¬ S l):Agr S H (upd H l o):=by
 refine⟨fun a xs h=>?_,fun a xs s h=>?_⟩
 ·have ne:a≠l:=by
   rintro rfl;rw[hl] at h;cases h
  rw[aB ne];exact h
 ·have ne:a≠l:=by
   rintro rfl;exact ns s
  rw[aB ne];exact h
mutual
theorem Rp.agr(e:Agr S H H'):∀{v:V} {d:Dat},Rp K S H v d->Rp K S H' v d
 |_,_,.non=>.non
 |_,_,.bl b=>.bl b
 |_,_,.int i=>.int i
 |_,_,.str x=>.str x
 |_,_,.tup h r=>.tup (e.tup _ _ h) (RpL.agr e r)
 |_,_,.lst s h r=>.lst s (e.lst _ _ s h) (RpL.agr e r)
theorem RpL.agr(e:Agr S H H'):∀{vs:List V} {ds:List Dat},RpL K S H vs ds->RpL K S H' vs ds
 |_,_,.nil=>.nil
 |_,_,.cons h r=>.cons (Rp.agr e h) (RpL.agr e r)
end
mutual
theorem Rp.mono(e:∀a,S a->S' a):∀{v:V} {d:Dat},Rp K S H v d->Rp K S' H v d
 |_,_,.non=>.non
 |_,_,.bl b=>.bl b
 |_,_,.int i=>.int i
 |_,_,.str x=>.str x
 |_,_,.tup h r=>.tup h (RpL.mono e r)
 |_,_,.lst s h r=>.lst (e _ s) h (RpL.mono e r)
theorem RpL.mono(e:∀a,S a->S' a):∀{vs:List V} {ds:List Dat},RpL K S H vs ds->RpL K S' H vs ds
 |_,_,.nil=>.nil
 |_,_,.cons h r=>.cons (Rp.mono e h) (RpL.mono e r)
end
mutual
theorem Rp.rep:∀{v:V} {d:Dat},Rp K S H v d->Rep K H v d
 |_,_,.non=>.non
 |_,_,.bl b=>.bl b
 |_,_,.int i=>.int i
 |_,_,.str x=>.str x
 |_,_,.tup h r=>.tup (SqT.of h) (RpL.rep r)
 |_,_,.lst _ h r=>.lst (SqL.of h) (RpL.rep r)
theorem RpL.rep:∀{vs:List V} {ds:List Dat},RpL K S H vs ds->RepL K H vs ds
 |_,_,.nil=>.nil
 |_,_,.cons h r=>.cons (Rp.rep h) (RpL.rep r)
end
theorem Rp.same(e:Same H H')(h:Rp K S H v d):Rp K S H' v d:=h.agr (Agr.of_same e)
theorem RpL.same(e:Same H H'){vs:List V}(h:RpL K S H vs ds):RpL K S H' vs ds:=h.agr (Agr.of_same e)
theorem RpL.length:∀{vs:List V} {ds:List Dat},RpL K S H vs ds->vs.length=ds.length
 |_,_,.nil=>rfl
 |_,_,.cons _ r=>congrArg (· + 1) (RpL.length r)
theorem RpL.get:∀{vs:List V} {ds:List Dat} {i:Nat} {v:V},RpL K S H vs ds->vs[i]?=some v->∃d,ds[i]?=some d/\Rp K S H v d
 |_,_,_,_,.nil,e=>by simp at e
 |_,_,0,_,.cons h _,e=>by simp at e;subst e;exact⟨_,rfl,h⟩
 |_,_,i+1,v,.cons _ r,e=>by
  obtain⟨d,h1,h2⟩:=RpL.get (i:=i) (v:=v) r (by simpa using e);exact⟨d,by simpa using h1,h2⟩
theorem RpL.get':∀{vs:List V} {ds:List Dat} {i:Nat} {d:Dat},RpL K S H vs ds->ds[i]?=some d->∃v,vs[i]?=some v/\Rp K S H v d
 |_,_,_,_,.nil,e=>by simp at e
 |_,_,0,_,.cons h _,e=>by simp at e;subst e;exact⟨_,rfl,h⟩
 |_,_,i+1,v,.cons _ r,e=>by
  obtain⟨d,h1,h2⟩:=RpL.get' (i:=i) (d:=v) r (by simpa using e);exact⟨d,by simpa using h1,h2⟩
theorem RpL.append:∀{vs ws:List V} {ds es:List Dat},RpL K S H vs ds->RpL K S H ws es->RpL K S H (vs++ws) (ds++es)
 |_,_,_,_,.nil,s=>s
 |_,_,_,_,.cons h r,s=>.cons h (RpL.append r s)
theorem RpL.ints:∀ns:List Int,RpL K S H (ns.map V.int) (ns.map O4)
 |[]=>.nil
 |n :: ns=>.cons (.int n) (RpL.ints ns)
theorem RpL.strs:∀ns:List Str,RpL K S H (ns.map V.str) (ns.map UF)
 |[]=>.nil
 |n :: ns=>.cons (.str n) (RpL.strs ns)
theorem RpL.ints_of:∀{vs:List V} {ns:List Int},RpL K S H vs (ns.map O4)->vs=ns.map V.int
 |_,[],.nil=>rfl
 |_,n :: ns,.cons h r=>by cases h;rw[RpL.ints_of r];rfl
theorem RpL.xA:∀{vs:List V} {ns:List Str},RpL K S H vs (ns.map UF)->vs=ns.map V.str
 |_,[],.nil=>rfl
 |_,n :: ns,.cons h r=>by cases h;rw[RpL.xA r];rfl
theorem Rp.Ie(h:Rp K S H v (.tuple ds)):∃a xs,v=.ref a/\SqT K H a xs/\RpL K S H xs ds:=by
 cases h with
 |tup h r=>exact⟨_,_,rfl,SqT.of h,r⟩
theorem Rp.cP(h:Rp K S H v (.tuple ds)):∃a xs,v=.ref a/\H a=some (.tup xs)/\RpL K S H xs ds:=by
 cases h with
 |tup h r=>exact⟨_,_,rfl,h,r⟩
theorem Rp.iu(h:Rp K S H v (.list ds)):∃a xs,v=.ref a/\S a/\H a=some (.lst xs)/\RpL K S H xs ds:=by
 cases h with
 |lst s h r=>exact⟨_,_,rfl,s,h,r⟩
end
noncomputable def F0:Addr->Prop:=fun _=>False
noncomputable abbrev Rz(K:Fg)(H:Hp):V->Dat->Prop:=Rp K F0 H
noncomputable abbrev RzL(K:Fg)(H:Hp):List V->List Dat->Prop:=RpL K F0 H
section
variable{K:Fg}{S:Addr->Prop}{H H':Hp}
theorem RpL.z{vs:List V}(h:RzL K H vs ds):RpL K S H vs ds:=h.mono fun _ z=>z.elim
theorem Rz.upd(h:Rz K H v d)(hl:H l=some (.lst ys)):Rz K (L2.upd H l o) v d:=h.agr (Agr.eY hl fun z=>z)
theorem RzL.upd(h:RzL K H v d)(hl:H l=some (.lst ys)):RzL K (L2.upd H l o) v d:=h.agr (Agr.eY hl fun z=>z)
end
structure Acc (K:Fg) (H0:Hp) (l:Addr) (H:Hp) (ds:List Dat):Prop where
 same:Same H0 H
 new:H0 l=none
 at_:∃xs,H l=some (.lst xs)/\RpL K (fun a=>H0 a=none/\a≠l) H xs ds
section
variable{K:Fg}{H0 H H':Hp}{l:Addr}{ds:List Dat}
theorem Acc.start(n:H0 l=none):Acc K H0 l (upd H0 l (.lst [])) []:=⟨aj n _,n,[],ag,.nil⟩
theorem Acc.on(A:Acc K H0 l H ds)(e:Same H H'):Acc K H0 l H' ds:=by
 obtain⟨xs,h1,h2⟩:=A.at_;exact⟨A.same.trans e,A.new,xs,e _ _ h1,h2.same e⟩
theorem Acc.ref(A:Acc K H0 l H ds):Rp K (fun a=>H0 a=none) H (.ref l) (.list ds):=by
 obtain⟨xs,h1,h2⟩:=A.at_;exact .lst A.new h1 (h2.mono fun _ z=>z.1)
theorem Acc.push(A:Acc K H0 l H ds)(r:Rp K S H y d)(hS:∀a,S a->H0 a=none/\a≠l):∃xs,H l=some (.lst xs)/\xs.length=ds.length/\Acc K H0 l (upd H l (.lst (xs++[y]))) (ds++[d]):=by
 obtain⟨xs,h1,h2⟩:=A.at_;refine⟨xs,h1,h2.length,⟨fun b o q=>?_,A.new,xs++[y],ag,?_⟩⟩
 ·rw[aB (au q A.new)];exact A.same b o q
 ·exact(h2.append (.cons (r.mono hS) .nil)).agr (Agr.eY h1 fun z=>z.2 rfl)
theorem Acc.L9(A:Acc K H0 l H ds)(e:Same H H')(r:Rp K (fun a=>H a=none) H' y d):∃xs,H' l=some (.lst xs)/\xs.length=ds.length/\Acc K H0 l (upd H' l (.lst (xs++[y]))) (ds++[d]) :=
 (A.on e).push r fun a z=>⟨A.same.free z,fun q=>by obtain⟨xs,h1,_⟩:=A.at_;rw[q,h1] at z;cases z⟩
theorem Acc.ci(A:Acc K H0 l H ds)(e:Same H H')(r:Rp K (fun a=>H a=none) H' y d)(n:ds.length<sizeLine){Pv:Hp->Prop}(h:∀H2,Acc K H0 l H2 (ds++[d])->Pv H2):HE l Pv y H':=by
 obtain⟨xs,h1,h2,h3⟩:=A.L9 e r;exact⟨xs,h1,by rw[h2];exact n,h _ h3⟩
end
theorem Acc.ty{K:Fg}    (A:Acc K H0 l H ds):D9 K "list" (.ref l) H:=by
 obtain⟨xs,h1,_⟩:=A.at_;exact qd h1
structure AccZ (K:Fg) (H0:Hp) (l:Addr) (H:Hp) (ds:List Dat):Prop where
 same:Same H0 H
 new:H0 l=none
 at_:∃xs,H l=some (.lst xs)/\RzL K H xs ds
section
variable{K:Fg}{H0 H H':Hp}{l m:Addr}{ds:List Dat}
theorem AccZ.start(e:Same H0 H)(n:H l=none):AccZ K H0 l (upd H l (.lst [])) []:=⟨e.trans (aj n _),e.free n,[],ag,.nil⟩
theorem AccZ.on(A:AccZ K H0 l H ds)(e:Same H H'):AccZ K H0 l H' ds:=by
 obtain⟨xs,h1,h2⟩:=A.at_;exact⟨A.same.trans e,A.new,xs,e _ _ h1,h2.same e⟩
theorem AccZ.ref(A:AccZ K H0 l H ds):Rp K (fun a=>H0 a=none) H (.ref l) (.list ds):=by
 obtain⟨xs,h1,h2⟩:=A.at_;exact .lst A.new h1 h2.z
theorem AccZ.rep(A:AccZ K H0 l H ds):Rep K H (.ref l) (.list ds):=A.ref.rep
theorem AccZ.ty(A:AccZ K H0 l H ds):D9 K "list" (.ref l) H:=by
 obtain⟨xs,h1,_⟩:=A.at_;exact qd h1
theorem AccZ.sq(A:AccZ K H0 l H ds):∃xs,SqL K H l xs/\xs.length=ds.length/\RzL K H xs ds:=by
 obtain⟨xs,h1,h2⟩:=A.at_;exact⟨xs,SqL.of h1,h2.length,h2⟩
theorem AccZ.ag(A:AccZ K H0 l H ds):Same H0 (L2.upd H l o):=fun b u q=>by
 rw[L2.aB (au q A.new)];exact A.same b u q
theorem AccZ.other(A:AccZ K H0 l H ds)(ne:l≠m)(n:H0 m=none)(h:H m=some (.lst ys)):AccZ K H0 l (upd H m o) ds:=by
 obtain⟨xs,h1,h2⟩:=A.at_;refine⟨fun b u q=>?_,A.new,xs,by rw[aB ne];exact h1,h2.upd h⟩;rw[aB (au q n)];exact A.same b u q
end
theorem cB{K:Fg}{Q:VK}(A:AccZ K H0 l H ds)(r:Rz K H y d)(n:ds.length<sizeLine)
  (h:∀H2,AccZ K H0 l H2 (ds++[d])->(∀{v:V} {e:Dat},Rz K H v e->Rz K H2 v e)->(∀b,b≠l->H2 b=H b)->(∀{m:Addr} {es:List Dat},m≠l->AccZ K H0 m H es->AccZ K H0 m H2 es)->Q .non H2):aM (.ref l) [y] H Q:=by
 obtain⟨xs,h1,h2⟩:=A.at_;refine⟨l,xs,y,rfl,rfl,h1,by rw[h2.length];exact n,h _ ⟨A.ag,A.new,xs++[y],ag,?_⟩ (fun q=>Rz.upd q h1) (fun b nb=>aB nb) fun ne B=>B.other ne A.new h1⟩;exact RzL.upd (h2.append (.cons r .nil)) h1
section
variable{K:Fg}{H:Hp}{Q:VK}{x y:V}{d e:Dat}{ds:List Dat}
open Classical in
theorem fI(hd:Rep K H x d)(he:Rep K H y (.list ds))(ka:∀e∈ds,kqdOk 8 e=true)(kd:kqdOk 8 d=true)(h1:d∉ds->Q (.bl true) H)(h2:d∈ds->Q (.bl false) H):hE K true x y H Q:=by
 refine⟨d,ds,hd,he,ka,kd,?_⟩;by_cases z:d∈ds
 ·have q:=h2 z;simpa[z] using q
 ·have q:=h1 z;simpa[z] using q
open Classical in
theorem Ko(hd:Rep K H x d)(he:Rep K H y (.list ds))(ka:∀e∈ds,kqdOk 8 e=true)(kd:kqdOk 8 d=true)(h1:d∈ds->Q (.bl true) H)(h2:d∉ds->Q (.bl false) H):hE K false x y H Q:=by
 refine⟨d,ds,hd,he,ka,kd,?_⟩;by_cases z:d∈ds
 ·have q:=h1 z;simpa[z] using q
 ·have q:=h2 z;simpa[z] using q
end
noncomputable def Dx(n:Nat):Option Int->Nat
 |none=>n
 |some j=>min j.toNat n
noncomputable def Hi(l:List Nat):Option Int->List Nat
 |none=>l
 |some j=>l.take j.toNat
theorem EU(n:Nat)(hi:Option Int):Dx n hi<=n:=by
 cases hi with
 |none=>exact N4 _
 |some j=>exact Ts _ _
noncomputable def kq(z:Str)(lo hi:Option Int):Str:=⟨((Hi z.cps.toList hi).drop (lo.getD 0).toNat).toArray⟩
noncomputable def NN:Option Int->Prop
 |none=>True
 |some i=>0<=i
theorem L4{lo:Option Int}(n:Nat)(hl:NN lo)(hh:NN hi):O7 lo hi 1 n=(Oa (Dx n hi-min (lo.getD 0).toNat n)).map (fun k=>min (lo.getD 0).toNat n+k):=by
 have core:∀(a b:Nat),a<=n->b<=n->sliceRange (a:Int) (b:Int) 1=(Oa (b-a)).map (fun k=>a+k):=by
  intro a b ha hb;simp only[sliceRange,show((1:Int) > 0)=True from by simp,if_true];by_cases Ad:(a:Int)<b
  ·have e3:(((b:Int)-a+1-1) / 1).toNat=b-a:=by rw[Int.ediv_one];lia
   simp only[Ad,if_true,e3];refine Py fun k _=>?_
   lia
  ·have:b-a=0:=by lia
   simp[Ad,this]
 have clip:∀i:Int,0<=i->max (0:Int) (min (if i<0 then i+n else i) n)=((min i.toNat n:Nat):Int):=by
  intro i hi;rw[if_neg (by lia)];lia
 cases lo with
 |none =>
  cases hi with
  |none =>
   have:=core 0 n (by lia) (by lia)
   simpa[O7,Dx] using this
  |some j =>
   have:=core 0 (min j.toNat n) (by lia) (by lia)
   simp only[O7,show((1:Int) > 0)=True from by simp,if_true];rw[clip j hh];simpa[Dx] using this
 |some i =>
  cases hi with
  |none =>
   have:=core (min i.toNat n) n (by lia) (by lia)
   simp only[O7,show((1:Int) > 0)=True from by simp,if_true];rw[clip i hl];simpa[Dx] using this
  |some j =>
   have:=core (min i.toNat n) (min j.toNat n) (by lia) (by lia)
   simp only[O7,show((1:Int) > 0)=True from by simp,if_true];rw[clip i hl,clip j hh];simpa[Dx] using this
theorem Bz(z:Str){lo:Option Int}(hl:NN lo)(hh:NN hi):Yd z lo hi=kq z lo hi:=by
 have len:z.cps.toList.length=z.length:=by simp[XU]
 have e:=L4 z.length hl hh;have p:=StrLaws.picks z.cps.toList (Dx z.length hi-min (lo.getD 0).toNat z.length) (min (lo.getD 0).toNat z.length) (by have:=EU z.length hi;rw[len];lia)
 have q:(z.cps.toList.drop (min (lo.getD 0).toNat z.length)).take (Dx z.length hi-min (lo.getD 0).toNat z.length)=(Hi z.cps.toList hi).drop (lo.getD 0).toNat:=by
  generalize (lo.getD 0).toNat=a;cases hi with
  |none =>
   show SM (z.length-min a z.length) (V7 (min a z.length) z.cps.toList)=V7 a z.cps.toList;by_cases ha:a<=z.length
   ·rw[SJ ha,Oh (by rw[PX,len];exact N4 _)]
   ·rw[Sb (by lia),Rx (by rw[len];exact N4 _),Rx (by rw[len];lia)];simp
  |some j =>
   show SM (min j.toNat z.length-min a z.length) (V7 (min a z.length) z.cps.toList)=V7 a (z.cps.toList.take j.toNat);rw[List.drop_take];generalize j.toNat=b;by_cases ha:a<=z.length
   ·rw[SJ ha];by_cases hb:b<=z.length
    ·rw[SJ hb]
    ·rw[Sb (by lia),Oh (by rw[PX,len];exact N4 _),Oh (by rw[PX,len];lia)]
   ·rw[Sb (by lia:z.length<=a),Rx (by rw[len];exact N4 _),Rx (by rw[len];lia)];simp
 have r:(O7 lo hi 1 z.length).filterMap (z.cps[·]?)=(Hi z.cps.toList hi).drop (lo.getD 0).toNat:=by
  rw[<- q,<- p,e];simp
 unfold Yd kq;split
 ·rename_i c;have c':(O7 lo hi 1 z.length).length=z.length:=by simpa using c
  rw[e,NQ,On] at c'
  have w:(z.cps.toList.drop (min (lo.getD 0).toNat z.length)).take (Dx z.length hi-min (lo.getD 0).toNat z.length)=z.cps.toList:=by
   have b:=EU z.length hi;by_cases h0:z.length=0
   ·have:z.cps.toList=[]:=Pb.mp (by rw[len];exact h0)
    rw[this];simp
   ·have a0:min (lo.getD 0).toNat z.length=0:=by lia
    rw[a0,List.drop_zero,Oh (by rw[len];lia)]
  rw[<- q,w]
 ·rw[r]
noncomputable def IM:V->Option Int->Option Int->Hp->VK->Prop:=fun x lo hi H Q=>∃z,x=.str z/\z.length<=sizeLine/\NN lo/\NN hi/\Q (.str (kq z lo hi)) H
noncomputable def L7:List V->Hp->VK->Prop:=fun xs H Q=>∃i j,xs=[.int i,.int j]/\Q (.int (if j<i then j else i)) H
section
variable{X:Cx}
theorem Iv:LR X IM:=by
 intro ν s σ H x v vl vu lo hi sl Q I rx hs pl pu h;obtain⟨z,rfl,hz,hl,hh,q⟩:=h;obtain⟨t,rfl⟩:=rx;refine⟨"str",_,F.slot_str_getitem.lookup,typeIs_str _ _ _,?_⟩
 have fin:∀(l u:Option (Int×Tok)),l.map (·.1)=lo->u.map (·.1)=hi->(sliceMade z t l u none).post (EP X ν σ Q) s:=by
  intro l u el eu
  have e:sliceMade z t l u none=if ((1:Int) == 1 && (O7 lo hi 1 z.length).length == z.length)=true then Made.val (.str z t) else .str ⟨((O7 lo hi 1 z.length).filterMap (z.cps[·]?)).toArray⟩:=by
   unfold sliceMade slicePicked;rw[el,eu];rfl
  rw[e];have lt:=Txt.slice_le z lo hi;have eq:=Bz z hl hh;unfold Yd at lt eq;refine post_val_or_str ⟨Oi lt hz,fun t' k=>⟨.str (kq z lo hi),H,I.tok k,⟨t',?_⟩,q⟩⟩;rw[eq]
 cases pl with
 |none =>
  cases pu with
  |none=>exact Ro (l:=none) (u:=none) (st:=none) hs rfl (fin none none rfl rfl)
  |int j tj=>exact Ro (l:=none) (u:=some (j,tj)) (st:=none) hs rfl (fin none (some (j,tj)) rfl rfl)
 |int i ti =>
  cases pu with
  |none=>exact Ro (l:=some (i,ti)) (u:=none) (st:=none) hs rfl (fin (some (i,ti)) none rfl rfl)
  |int j tj=>exact Ro (l:=some (i,ti)) (u:=some (j,tj)) (st:=none) hs rfl (fin (some (i,ti)) (some (j,tj)) rfl rfl)
end
noncomputable def RawD(h:Heap)(d:Addr)(es:Array Ul)(ep:Nat):Prop:=∃o,h.get? d=some o/\o.ExactDict/\o.data=.dict es ep
section
variable{prog:Oo}{w:OD}{A:O1}{E:NY->N5->Prop}{s:N5}{d it:Addr}{es:Array Ul}{ep i:Nat}
theorem RawD.ty(m:RawD s.heap d es ep):s.TypeIs (.ref d) "dict":=by
 obtain⟨o,a,b,_⟩:=m;exact⟨o,a,b.1⟩
theorem RawD.at{h':Heap}(m:RawD h d es ep)(k:∀o,h.get? d=some o->h'.get? d=some o):RawD h' d es ep:=by
 obtain⟨o,a,b⟩:=m;exact⟨o,k o a,b⟩
theorem Ck{Q:NY->N5->Prop} (lo:(d == sysModules)=false) (m:RawD s.heap d es ep) (q:Q (.ref s.heap.objs.size) {s with heap:=s.heap.push {cls:=.type "dict_keyiterator",data:=.fields #[.ref d,.int 0 0,.int es.size 0,.int ep 0]}}) :
  wpAny (model prog w) A (pyIter (.ref d)) Q E s:=by
 have ty:=m.ty;obtain⟨o,ho,_,dt⟩:=m;refine UG ty Xj (PF Xj ty F.entry_dict_iter ?_ (F.args_dict_iter_1 _));unfold Qw.«dict.__iter__» Qw.Dict.dictSlotNone;refine NU (NU (wpAny_notOrdered_dict ty ?_));show wpAny _ _ (pure (O9 d)) _ _ s;refine Oc ?_;show wpAny _ _ (VC d >>= _) _ _ s;unfold VC;rw[if_neg (fun z=>by rw[lo] at z;cases z)];refine NU (Oc (NU (UH ho dt (NU (Vx ho dt ?_)))));refine NU (PK (Oc ⟨_,rfl,"dict_keyiterator",_,⟨_,OC _ rfl,rfl⟩,Qc.lookup,?_⟩));simpa[rawInt] using q
theorem uy{Q:Option NY->N5->Prop}(ki:s.heap.IsKeyIter it d i es.size ep)(m:RawD s.heap d es ep) :
  (∀e,es[i]?=some e->(∀h',h'.IsKeyIter it d (i+1) es.size ep->Qx it s.heap h'->Q (some e.key) {s with heap:=h'})->wpAny (model prog w) A (pyNext (.ref it)) Q E s) /\
  (A.handled=none->es[i]?=none->(∀h',UI it s.heap h'->Q none {s with heap:=h'})->wpAny (model prog w) A (pyNext (.ref it)) Q E s):=by
 obtain⟨o,ho,oc,od⟩:=id ki;obtain⟨dd,hd,_,dt⟩:=id m;have own:Qw.Dict_items.ownsTuple "dict_keyiterator"=false:=by decide
 have nn : ¬ ((O9 d == P1)=true):=OH;constructor
 ·intro e he hq;unfold pyNext;refine NU (Sw (PH (name:=Ry "__next__") ki.typeIs Qc (PF Qc ki.typeIs TK ?_ (Tu _))));refine NU (Oc (NU (NU (NU (QE ki.typeIs (Oc (NU (Us ho od ?_))))))));simp only[own,Rv,if_false];show wpAny _ _ (if (O9 d == P1)=true then _ else _) _ _ s;rw[if_neg nn];refine NU (Oc (NU (UH hd dt ?_)));rw[if_neg (by simp)];refine NU (Oc (NU (Vx hd dt ?_)));rw[if_neg (by simp)];refine Oc ?_;simp only[show ¬ ((i:Int)<0) from by lia,if_false,OT,he];refine NU (NU (QE ki.typeIs (Oc (NU (VD ki.typeIs ?_)))));show wpAny _ _ (setField (.ref it) 1 (rawInt ((i:Int)+1)) >>= _) _ _ s;refine NU (Rq ho od (by simp) ?_);have k2:(s.heap.update it (Qy (·.setIfInBounds 1 (rawInt ((i:Int)+1))))).IsKeyIter it d (i+1) es.size ep:=⟨_,Qu _ ho (RP (Qd od _)),(SZ ..).trans oc,by rw[Qd od];simp[rawInt]⟩
  refine NU (TF (NU (VD (s:={s with heap:=s.heap.update it (Qy (·.setIfInBounds 1 (rawInt ((i:Int)+1))))}) k2.typeIs ?_)));show wpAny _ _ (pure e.key) _ _ _;exact Oc (Oc ⟨_,rfl,Oc (hq _ k2 (Pm ..))⟩)
 ·intro hh he hq;unfold pyNext;refine NU (Sw (PH (name:=Ry "__next__") ki.typeIs Qc (PF Qc ki.typeIs TK ?_ (Tu _))));refine NU (Oc (NU (NU (NU (QE ki.typeIs (Oc (NU (Us ho od ?_))))))));simp only[own,Rv,if_false];show wpAny _ _ (if (O9 d == P1)=true then _ else _) _ _ s;rw[if_neg nn];refine NU (Oc (NU (UH hd dt ?_)));rw[if_neg (by simp)];refine NU (Oc (NU (Vx hd dt ?_)));rw[if_neg (by simp)];refine Oc ?_;simp only[show ¬ ((i:Int)<0) from by lia,if_false,OT,he];refine NU (NU (QE ki.typeIs (Oc ?_)));show wpAny _ _ (setField (.ref it) 0 .none >>= _) _ _ s;refine NU (Rq ho od (by simp) ?_);show wpAny _ _ (newExc (.type "StopIteration") [] >>= _) _ _ _;refine NU ?_;simp only[newExc,newTuple];refine NU (PK ?_ (by size_fits));refine NU (m:=firstArgMember _ _) (UJ (a:=P1) (by simp only[firstArgMember];rfl) (PK ?_ (by size_fits)));simp only[raiseNew];refine NU (Wi ?_);rw[show A.in1.handled=none from hh];refine NU (Oc (Xv ?_));refine NU (Tv (T:="StopIteration") (b:=true) ⟨_,OC _ rfl,rfl⟩ VS ?_);exact Oc (hq _ (((Pm ..).extBut.push _).push _))
theorem yg(hh:A.handled=none)(I d:Addr)(ne:d≠I)(es:Array Ul)(ep:Nat):Xu prog w A I [I,d] [I] es.size (fun i v=>∃e,es[i]?=some e/\v=e.key) (fun i h=>h.IsKeyIter I d i es.size ep/\RawD h d es ep) where
 sub:=fun b hb=>by rw[N7.mp hb];simp
 frame:=fun _ _ _ st hk=>⟨st.1.at fun o e=>hk I (by simp) o e,st.2.at fun o e=>hk d (by simp) o e⟩
 item:=fun i s Q E hi st hq=>by
  refine(uy st.1 st.2).1 es[i] (by simp[hi]) fun h' k1 k2=>?_
  exact hq _ h' s.toks ⟨es[i],by simp[hi],rfl⟩ ⟨k1,st.2.at fun o e=>k2.extBut d o ne e⟩ fun b o hb e=>k2.extBut b o (fun z=>hb (by simp[z])) e
 done:=fun s Q E st hq=>(uy st.1 st.2).2 hh (by simp) fun h' k=>hq h' s.toks fun b o hb e=>k b o (fun z=>hb (by simp[z])) e
 self:=fun _ _ _ _ st hq=>wpAny_pyIter_keyiter st.1 hq
theorem yh(lo:(d == sysModules)=false):XV prog w "dict" d d es.size (fun i v=>∃e,es[i]?=some e/\v=e.key) (fun h=>RawD h d es ep) where
 type:=fun _ m=>m.ty
 there:=fun _ ⟨_,e,_⟩=>⟨Op e,Op e⟩
 keep:=fun _ _ m hk=>m.at fun o e=>hk d (.inl rfl) o e
 notList:=by decide
 notTuple:=by decide
 hint:=fun _ _ _ _ m q=>PySem.W.kdl_hint_dict m.ty q
 iter:=fun _ _ hh m=>⟨_,_,(fun _ _ q=>Ck lo m q),yg hh _ d (by obtain⟨_,e,_⟩:=m;exact Ou (Op e)) es ep,⟨⟨_,OC _ rfl,rfl,rfl⟩,m.at fun _ e=>N3 _ e⟩⟩
end
theorem o9:∀ys:List (List bf×Addr×NY),Vals (ys.map (V.ref∘fun y=>y.2.1)) (ys.map fun y=>O9 y.2.1)
 |[]=>.nil
 |_ :: ys=>.cons rfl (o9 ys)
theorem G6{de:List (List bf×V)}{ys:List (List bf×Addr×NY)}(r:KT H de ys):Paired (fun(p:List bf×V) b=>H b=some (.tup (p.1.map kV))) de (ys.map fun y=>y.2.1):=by
 induction r with
 |nil=>exact .nil
 |cons h t ih=>exact .cons h.2.1 ih
noncomputable def El:List V->Hp->VK->Prop:=fun xs H Q=>∃a de,xs=[.ref a]/\H a=some (.dT de)/\∀(l:Addr) (bs:List Addr),H l=none->Paired (fun(p:List bf×V) b=>H b=some (.tup (p.1.map kV))) de bs->Q (.ref l) (upd H l (.lst (bs.map V.ref)))
theorem ww{X:Cx} (hc:X.calm=true):dZ X (.type "list") El:=by
 intro ν s σ H xs us Q I r h;obtain⟨a,de,rfl,ha,q⟩:=h;obtain⟨u,rfl,ru⟩:=vals1 r;cases ru;obtain⟨z,lo,ys,kt,o,es,ep,ho,ex,dt,he,_,_⟩:=KR I.hok ha;have sz:es.size=de.length:=by rw[<- OJ,he,NQ];exact(Sr kt).symm
 refine Xk (yh (es:=es) (ep:=ep) lo) (I.ok.hd hc) ⟨o,ho,ex,dt⟩ (by rw[sz];exact z) fun h' tk acc c kp hl hit=>?_
 have Za:acc.toList=ys.map fun y=>O9 y.2.1:=by
  refine RU fun j=>?_
  by_cases lt:j<es.size
  ·have hj:j<acc.toList.length:=by rw[OJ];rw[hit.1];exact lt
   have e1:acc.toList[j]?=some acc.toList[j]:=NR hj;obtain⟨e,ee,ev⟩:=hit.2 j acc.toList[j] (by rw[<- OI];exact e1);rw[e1,ev];rw[<- OI,he,NW] at ee;obtain⟨y,hy1,hy2⟩:=N8.mp ee;rw[NW,hy1,<- hy2];rfl
  ·rw[OG (by rw[OJ,hit.1];lia),OG];rw[NQ]
   have:=Sr kt
   lia
 have vals:Vals ((ys.map fun y=>y.2.1).map V.ref) acc.toList:=by
  rw[Za,Ph];exact o9 ys
 have aW:Paired (fun(p:List bf×V) b=>H b=some (.tup (p.1.map kV))) de (ys.map fun y=>y.2.1):=by
  exact G6 kt
 refine⟨.ref s.heap.objs.size,_,I.laid (t':=tk) kp (N4 _) (show b9 X.prog X.w _ h' _ (.lst ((ys.map fun y=>y.2.1).map V.ref)) from⟨?_,acc.toList,c,vals,by rw[TL];exact hl⟩),rfl,q _ _ (I.hok.fresh (N4 _)) aW⟩;rw[NQ,NQ,<- Sr kt];exact z
section
variable{X:Cx}{ν:List (Addr×Obj)}{σ:St}{H:Hp}{s:N5}{h':Heap}
theorem Inv.lU{t':Nat}{fp:List Addr}(I:Inv X ν σ H s)(k:∀b o,b∉fp->s.heap.get? b=some o->h'.get? b=some o)(hf:∀b∈fp,gu X ν H b):Inv X ν σ H {s with heap:=h',toks:=t'}:=by
 have nit:∀b u,H b=some u->b∉fp:=fun b u e z=>by
  have q:=(hf b z).1;rw[q] at e;cases e
 refine I.step (g':=s.gens) (d':=s.drawn) (ch:=fp) (fun b hb=>⟨(hf b hb).2.2.2.1,(hf b hb).2.1,(hf b hb).2.2.2.2.1,(hf b hb).2.2.2.2.2⟩) (fun b o _ _ hc e _=>k b o hc e) (fun b o _ _ hc e _=>⟨o.slots,k b o hc e⟩) (fun _ _ _ _ n=>n)
  (fun b o hc e=>⟨o,k b o hc e⟩) (fun _ _ e=>e) (fun _ _ _ e=>e) (fun b ps e=>⟨#[],by rw[e,Wo]⟩) (fun m hm=>?_) (fun b u e=>?_) I.bare
 ·obtain⟨o,es,ep,ho,r⟩:=hm;exact⟨o,es,ep,k _ o (fun z=>(hf _ z).2.1 rfl) ho,r⟩
 ·refine(I.hok b u e).stay (fun c v hc q=>k c v ?_ q) (fun _ q=>q) fun _ _ q=>q
  rcases hc with z|z
  ·rw[z];exact nit b u e
  ·exact nit c _ z
end
structure LA (prog:Oo) (w:OD) (it l:Addr) (xs:Array NY) (St:Nat->Heap->Prop):Prop where
 keep:∀k h h',St k h->(∀b,b=it\/b=l->∀o,h.get? b=some o->h'.get? b=some o)->St k h'
 there:∀k h,St k h->it<h.objs.size/\∃o,h.get? it=some o/\∀v,o.data≠.cell v
 item:∀(A:O1) (E:NY->N5->Prop) (s:N5) (k:Nat) (x:NY) (Q:NY->N5->Prop),St k s.heap->xs[k]?=some x->(∀h',St (k+1) h'->Qx it s.heap h'->Q x {s with heap:=h'})->wpAny (model prog w) A (Po (.ref it)) Q E s
 fin:∀(A:O1) (E:NY->N5->Prop) (s:N5) (k:Nat) (Q:NY->N5->Prop),A.handled=none->St k s.heap->xs[k]?=none ->
  (∀h' e,UI it s.heap h'->(∃o,h'.get? e=some o/\o.cls=.type "StopIteration")->E (.ref e) {s with heap:=h'})->wpAny (model prog w) A (Po (.ref it)) Q E s
section
variable{prog:Oo}{w:OD}{A:O1}{E:NY->N5->Prop}{s:N5}
theorem DJ(it l:Addr)(ne:l≠it)(xs:Array NY):LA prog w it l xs (fun k h=>h.IsListIter it l k/\h.IsList l xs) where
 keep:=fun k h h' st hk=>⟨st.1.at fun o e=>hk it (.inl rfl) o e,st.2.at fun o e=>hk l (.inr rfl) o e⟩
 there:=fun k h ⟨⟨o,e,_,d⟩,_⟩=>⟨Op e,o,e,fun v z=>by rw[d] at z;cases z⟩
 item:=fun A E s k x Q st hx q=>wpAny_nextOf_list_item st.1 st.2 hx fun h' a b=>q h' ⟨a,st.2.at fun o e=>b.extBut l o ne e⟩ b
 fin:=fun A E s k Q hh st hx q=>wpAny_nextOf_list_end hh st.1 st.2 hx q
theorem Hr(it l:Addr)(ne:l≠it)(xs:Array NY):LA prog w it l xs (fun k h=>h.IsTupleIter it l k/\h.IsTuple l xs) where
 keep:=fun k h h' st hk=>⟨st.1.at fun o e=>hk it (.inl rfl) o e,by obtain⟨o,e,r⟩:=st.2;exact⟨o,hk l (.inr rfl) o e,r⟩⟩
 there:=fun k h ⟨⟨o,e,_,d⟩,_⟩=>⟨Op e,o,e,fun v z=>by rw[d] at z;cases z⟩
 item:=fun A E s k x Q st hx q=>by
  obtain⟨o,ho,oc,od⟩:=id st.1;obtain⟨ol,hl,_,nl,dl⟩:=id st.2;unfold Po;refine NU (PH (name:=Ry "__next__") st.1.typeIs QR (PF QR st.1.typeIs Ud ?_ (T0 _)));show wpAny _ _ (field (.ref it) 0 >>= _) _ _ s;refine NU (QF ho od (x:=.ref l) rfl ?_);show wpAny _ _ (if (O9 l == P1)=true then _ else _) _ _ s;rw[if_neg (show ¬ ((O9 l == P1)=true) from OH)];show wpAny _ _ (field (.ref it) 1 >>= _) _ _ s;refine NU (QF ho od (x:=.int k 0) rfl ?_);show wpAny _ _ (seqItems? (.ref l) >>= _) _ _ s;refine NU (QT hl dl ?_);simp only[OT,hx];have k2:(s.heap.update it (Qy (·.setIfInBounds 1 (rawInt ((k:Int)+1))))).IsTupleIter it l (k+1):=⟨_,Qu _ ho (RP (Qd od _)),(SZ ..).trans oc,by rw[Qd od];simp[rawInt]⟩
  exact NU (Rq ho od (by simp) (Oc ⟨x,rfl,Oc (q _ ⟨k2,⟨ol,(Pm ..).extBut l ol ne hl,by assumption,nl,dl⟩⟩ (Pm ..))⟩))
 fin:=fun A E s k Q hh st hx q=>by
  obtain⟨o,ho,oc,od⟩:=id st.1;obtain⟨ol,hl,_,nl,dl⟩:=id st.2;unfold Po;refine NU (PH (name:=Ry "__next__") st.1.typeIs QR (PF QR st.1.typeIs Ud ?_ (T0 _)));show wpAny _ _ (field (.ref it) 0 >>= _) _ _ s;refine NU (QF ho od (x:=.ref l) rfl ?_);show wpAny _ _ (if (O9 l == P1)=true then _ else _) _ _ s;rw[if_neg (show ¬ ((O9 l == P1)=true) from OH)];show wpAny _ _ (field (.ref it) 1 >>= _) _ _ s;refine NU (QF ho od (x:=.int k 0) rfl ?_);show wpAny _ _ (seqItems? (.ref l) >>= _) _ _ s;refine NU (QT hl dl ?_);simp only[OT,hx];refine NU (Up (NU (Rq ho od (by simp) ?_)));show wpAny _ _ (newExc (.type "StopIteration") [] >>= _) _ _ _;refine NU ?_;simp only[newExc,newTuple];refine NU (PK ?_ (by size_fits));refine NU (m:=firstArgMember _ _) (UJ (a:=P1) (by simp only[firstArgMember];rfl) ?_);refine PK ?_ (by size_fits);simp only[raiseNew];refine NU (Wi ?_);rw[show A.in1.handled=none from hh];exact NU (Oc (Xv (q _ _ (((Pm ..).extBut.push _).push _) ⟨_,OC _ rfl,rfl⟩)))
end
structure Nl (z TI TO i1 i2 l1 l2:Addr):Prop where
 a:i1<i2
 b:i2<TI
 c:TI<TO
 d:TO<z
 e:l1<i1
 f:l2<i1
theorem wF{z TI TO i1 i2 l1 l2:Nat}(a:i1<i2)(b:i2<TI)(c:TI<TO)(d:TO<z)(e:l1<i1)(f:l2<i1) :
  i1≠z/\i2≠z/\TO≠i1/\TO≠i2/\TO≠z/\TI≠z/\TI≠TO/\TI≠i1/\TI≠i2/\i1≠i2/\l1≠z/\l1≠TO/\l1≠i2/\l2≠z/\l2≠TO/\l2≠i1:=by
 have iT:=OL b c;have iz:=OL iT d;have jI:=OL a b;have jT:=OL a iT;have jz:=OL a iz;have tz:=OL c d;exact⟨Ou jz,Ou iz,Qk jT,Qk iT,Ou d,Ou tz,Ou c,Qk jI,Qk b,Ou a,Ou (OL e jz),Ou (OL e jT),Ou (OL e a),Ou (OL f jz),Ou (OL f jT),Ou f⟩
section
variable{prog:Oo}{w:OD}{A:O1}{E:NY->N5->Prop}{s:N5}{z TI TO i1 i2 l1 l2:Addr}{xs ys:Array NY}{S1 S2:Nat->Heap->Prop}{k:Nat}
structure NO (z TI TO i1 i2:Addr) (S1 S2:Nat->Heap->Prop) (k:Nat) (h:Heap):Prop where
 z:VT h z TI TO .none
 i:Sj h TI (.ref i1) (.ref i2)
 o:∃a b,Sj h TO a b
 s1:S1 k h
 s2:S2 k h
theorem qS{T:Addr}   {Q:Unit->N5->Prop} (hT:Sj s.heap T a b) (q:∀h',h'.get? T=some {cls:=.type "tuple",data:=.seq ((#[a,b]:Array NY).setIfInBounds j x)}->Qx T s.heap h'->Q () {s with heap:=h'}) :
  wpAny (model prog w) A (updateSeq T (·.setIfInBounds j x)) Q E s:=wpAny_updateSeq_pair hT q
theorem DZ(D:Nl z TI TO i1 i2 l1 l2)(W1:LA prog w i1 l1 xs S1)(W2:LA prog w i2 l2 ys S2)(st:NO z TI TO i1 i2 S1 S2 k s.heap){Q:Option NY->N5->Prop} :
  (∀x y,xs[k]?=some x->ys[k]?=some y->(∀h',VT h' z TI TO (rawInt s.heap.objs.size)->Sj h' TI (.ref i1) (.ref i2)->(∃a b,Sj h' TO a b)->S1 (k+1) h'->S2 (k+1) h'->Sj h' s.heap.objs.size x y ->
   (∀c o,c∉[z,TI,TO,i1,i2]->s.heap.get? c=some o->h'.get? c=some o)->Q (some (.ref s.heap.objs.size)) {s with heap:=h'})->wpAny (model prog w) A (pyNext (.ref z)) Q E s) /\
  (A.handled=none->(xs[k]?=none\/ys[k]?=none)->(∀h',(∀c o,c∉[z,TI,TO,i1,i2]->s.heap.get? c=some o->h'.get? c=some o)->Q none {s with heap:=h'})->wpAny (model prog w) A (pyNext (.ref z)) Q E s):=by
 obtain⟨d1,d2,d3,d4,d5,d6⟩:=D;obtain⟨hz,hI,⟨a,b,hO⟩,t1,t2⟩:=st;have ty:s.TypeIs (.ref z) "zip":=⟨_,hz,rfl⟩
 obtain⟨n1,n2,nO1,nO2,Z7,nIz,nIO,nI1,nI2,n12,q1,q2,q3,q4,q5,q6⟩:=wF d1 d2 d3 d4 d5 d6
 have m1:∀{c h h':_},c∈[z,TO,i2]->UI c h h'->∀k,S1 k h->S1 k h':=fun {c h h'} hc x k t=>W1.keep k h h' t fun b hb o e=>x b o (by
  rcases hb with rfl|rfl <;> (simp only[Od,OY,or_false] at hc;rcases hc with rfl|rfl|rfl <;> first|assumption|(apply SW;assumption))) e
 have m2:∀{c h h':_},c∈[z,TO,i1]->UI c h h'->∀k,S2 k h->S2 k h':=fun {c h h'} hc x k t=>W2.keep k h h' t fun b hb o e=>x b o (by
  rcases hb with rfl|rfl <;> (simp only[Od,OY,or_false] at hc;rcases hc with rfl|rfl|rfl <;> first|assumption|(apply SW;assumption))) e
 constructor
 ·intro x y hx hy q;unfold pyNext;refine NU (Sw (PH (name:=Ry "__next__") ty T5 (PF T5 ty Xl ?_ (WS _))));show wpAny _ _ (field (.ref z) 2 >>= _) _ _ _;refine NU (QF hz rfl (x:=.bool false) rfl ?_);show wpAny _ _ (field (.ref z) 3 >>= _) _ _ _;refine NU (QF hz rfl (x:=.ref TI) rfl (NU (QT hI rfl ?_)));show wpAny _ _ (P6 (.ref z) >>= _) _ _ _;refine NU ?_;unfold P6;refine NU (QF hz rfl (x:=.none) rfl (Oc ?_));simp only[if_true];refine NU (Up (NU (QF hz rfl (x:=.ref TO) rfl (NU (QU hz (by simp) fun h1 Z4 Y5=>?_)))));replace Z4:VT h1 z TI TO .ellipsis:=Z4;refine NU ?_;simp only[Xm,XD,Vw,XW];refine NU (NU (UU ?_));show wpAny _ _ (Po (.ref i1) >>= _) _ _ _;refine NU (W1.item _ _ _ k x _ (m1 (by simp) Y5.extBut k t1) hx fun h2 t12 YV=>Oc ?_);have hO2:Sj h2 TO a b:=YV.extBut _ _ nO1 (Y5.extBut _ _ Z7 hO);refine NU (QT hO2 rfl (NU (qS hO2 fun h3 hO3 Zm=>?_)));replace hO3:Sj h3 TO x b:=hO3;refine NU (Xw (Oc (NU (NU (UU ?_)))));show wpAny _ _ (Po (.ref i2) >>= _) _ _ _;refine NU (W2.item _ _ _ k y _ (m2 (by simp) Zm.extBut k (m2 (by simp) YV.extBut k (m2 (by simp) Y5.extBut k t2))) hy fun h4 t24 ZN=>Oc ?_);have hO4:Sj h4 TO x b:=ZN.extBut _ _ nO2 hO3;refine NU (QT hO4 rfl (NU (qS hO4 fun h5 hO5 ZO=>?_)));replace hO5:Sj h5 TO x y:=hO5;refine NU (Xw (Oc (Oc (NU (QT hO5 rfl (NU (wpAny_newTuple ?_)))))));have sz:h5.objs.size=s.heap.objs.size:=by rw[ZO.1,ZN.1,Zm.1,YV.1,Y5.1]
  have hz5:VT h5 z TI TO .ellipsis:=ZO.extBut _ _ Z7.symm (ZN.extBut _ _ n2.symm (Zm.extBut _ _ Z7.symm (YV.extBut _ _ n1.symm Z4)))
  have all5:∀c o,c∉[z,TI,TO,i1,i2]->s.heap.get? c=some o->h5.get? c=some o:=fun c o hc e=>by
   simp only[Od,OY,or_false,not_or] at hc;exact ZO.extBut _ _ hc.2.2.1 (ZN.extBut _ _ hc.2.2.2.2 (Zm.extBut _ _ hc.2.2.1 (YV.extBut _ _ hc.2.2.2.1 (Y5.extBut _ _ hc.1 e))))
  have hI5:Sj h5 TI (.ref i1) (.ref i2):=ZO.extBut _ _ nIO (ZN.extBut _ _ nI2 (Zm.extBut _ _ nIO (YV.extBut _ _ nI1 (Y5.extBut _ _ nIz hI))));have zlt:z<h5.objs.size:=Op hz5;show wpAny _ _ (Sk (.ref z) (.ref h5.objs.size) >>= _) _ _ _;refine NU ?_;unfold Sk;have hz6:VT (h5.push {cls:=.type "tuple",data:=.seq #[x,y]}) z TI TO .ellipsis:=N3 _ hz5;refine NU (QU hz6 (by simp) fun h7 hz7 hs7=>?_);replace hz7:VT h7 z TI TO (rawInt h5.objs.size):=hz7;refine QU hz7 (by simp) fun h8 hz8 hs8=>?_;replace hz8:VT h8 z TI TO (rawInt h5.objs.size):=hz8
  have up:∀c o,c≠z->h5.get? c=some o->h8.get? c=some o:=fun c o c1 e=>hs8.extBut _ _ c1 (hs7.extBut _ _ c1 (N3 _ e))
  have hT:Sj h8 h5.objs.size x y:=hs8.extBut _ _ (Qk zlt) (hs7.extBut _ _ (Qk zlt) (OC _ rfl));have t1':S1 (k+1) h8:=W1.keep _ _ _ (m1 (by simp) ZO.extBut _ (m1 (by simp) ZN.extBut _ (m1 (by simp) Zm.extBut _ t12))) fun c hc o e=>up c o (by rcases hc with rfl|rfl <;> first|assumption|(apply SW;assumption)) e
  have t2':S2 (k+1) h8:=W2.keep _ _ _ (m2 (by simp) ZO.extBut _ t24) fun c hc o e=>up c o (by rcases hc with rfl|rfl <;> first|assumption|(apply SW;assumption)) e
  rw[sz] at hz8 hT;refine Oc ⟨_,rfl,?_⟩;show wpAny _ _ (pure (some (O9 h5.objs.size))) _ _ _;rw[sz];exact Oc (q h8 hz8 (up _ _ nIz hI5) ⟨_,_,up _ _ Z7 hO5⟩ t1' t2' hT fun c o hc e=>up c o (fun x=>hc (by simp[x])) (all5 c o hc e))
 ·intro hh hend q
  have stop:∀(h9:Heap) (e:Addr),(∀c o,c∉[z,TI,TO,i1,i2]->s.heap.get? c=some o->h9.get? c=some o)->(∃o,h9.get? e=some o/\o.cls=.type "StopIteration") ->
    wpAny (model prog w) A (isInstance (.ref e) (.type "StopIteration") >>= fun b=>if b=true then pure none else throw (.ref e)) Q E {s with heap:=h9}:=fun h9 e kp ⟨o,ho,oc⟩ =>
   NU (Tv (T:="StopIteration") (b:=true) ⟨o,ho,oc⟩ VS (Oc (q _ kp)))
  unfold pyNext;refine NU (Sw (PH (name:=Ry "__next__") ty T5 (PF T5 ty Xl ?_ (WS _))));show wpAny _ _ (field (.ref z) 2 >>= _) _ _ _;refine NU (QF hz rfl (x:=.bool false) rfl ?_);show wpAny _ _ (field (.ref z) 3 >>= _) _ _ _;refine NU (QF hz rfl (x:=.ref TI) rfl (NU (QT hI rfl ?_)));show wpAny _ _ (P6 (.ref z) >>= _) _ _ _;refine NU ?_;unfold P6;refine NU (QF hz rfl (x:=.none) rfl (Oc ?_));simp only[if_true];refine NU (Up (NU (QF hz rfl (x:=.ref TO) rfl (NU (QU hz (by simp) fun h1 Z4 Y5=>?_)))));replace Z4:VT h1 z TI TO .ellipsis:=Z4;refine NU ?_;simp only[Xm,XD,Vw,XW];refine NU (NU (UU ?_));show wpAny _ _ (Po (.ref i1) >>= _) _ _ _;cases hx:xs[k]? with
  |none =>
   refine NU (W1.fin _ _ _ k _ hh (m1 (by simp) Y5.extBut k t1) hx fun h2 e YV ⟨oe,hoe,hce⟩=>?_);have hz2:VT h2 z TI TO .ellipsis:=YV _ _ n1.symm Z4;have ez:e≠z:=fun x=>by subst x;rw[hz2] at hoe;cases hoe;simp at hce
   refine QU hz2 (by simp) fun h3 _ Zm=>stop h3 e (fun c o hc u=>?_) ⟨oe,Zm.extBut _ _ ez hoe,hce⟩
   simp only[Od,OY,or_false,not_or] at hc;exact Zm.extBut _ _ hc.1 (YV _ _ hc.2.2.2.1 (Y5.extBut _ _ hc.1 u))
  |some x =>
   have hy:ys[k]?=none:=by rcases hend with u|u;rw[hx] at u;cases u;exact u
   refine NU (W1.item _ _ _ k x _ (m1 (by simp) Y5.extBut k t1) hx fun h2 t12 YV=>Oc ?_);have hO2:Sj h2 TO a b:=YV.extBut _ _ nO1 (Y5.extBut _ _ Z7 hO);refine NU (QT hO2 rfl (NU (qS hO2 fun h3 hO3 Zm=>?_)));refine NU (Xw (Oc (NU (NU (UU ?_)))));show wpAny _ _ (Po (.ref i2) >>= _) _ _ _;refine NU (W2.fin _ _ _ k _ hh (m2 (by simp) Zm.extBut k (m2 (by simp) YV.extBut k (m2 (by simp) Y5.extBut k t2))) hy fun h4 e ZN ⟨oe,hoe,hce⟩=>?_);have hz4:VT h4 z TI TO .ellipsis:=ZN _ _ n2.symm (Zm.extBut _ _ Z7.symm (YV.extBut _ _ n1.symm Z4));have ez:e≠z:=fun x=>by subst x;rw[hz4] at hoe;cases hoe;simp at hce
   refine QU hz4 (by simp) fun h5 _ ZO=>stop h5 e (fun c o hc u=>?_) ⟨oe,ZO.extBut _ _ ez hoe,hce⟩
   simp only[Od,OY,or_false,not_or] at hc;exact ZO.extBut _ _ hc.1 (ZN _ _ hc.2.2.2.2 (Zm.extBut _ _ hc.2.2.1 (YV.extBut _ _ hc.2.2.2.1 (Y5.extBut _ _ hc.1 u))))
end
inductive Kn|L|T
noncomputable def Kn.sq(k:Kn)(K:Fg)(H:Hp)(a:Addr)(xs:List V):Prop:=match k with
 |.L=>SqL K H a xs
 |.T=>SqT K H a xs
noncomputable def Kn.it(k:Kn)(h:Heap)(i l:Addr)(j:Nat):Prop:=match k with
 |.L=>h.IsListIter i l j
 |.T=>h.IsTupleIter i l j
noncomputable def Kn.seq(k:Kn)(h:Heap)(l:Addr)(xs:Array NY):Prop:=match k with
 |.L=>h.IsList l xs
 |.T=>h.IsTuple l xs
noncomputable def Kn.obj(k:Kn)(l:Addr):Obj:=match k with
 |.L=>{cls:=.type "list_iterator",data:=.fields #[.ref l,.int 0 0]}
 |.T=>{cls:=.type "tuple_iterator",data:=.fields #[.ref l,.int 0 0]}
section
variable{prog:Oo}{w:OD}{A:O1}{E:NY->N5->Prop}{s:N5}
theorem Kn.drw(k:Kn)(it l:Addr)(ne:l≠it)(xs:Array NY):LA prog w it l xs (fun j h=>k.it h it l j/\k.seq h l xs):=by
 cases k
 ·exact DJ it l ne xs
 ·exact Hr it l ne xs
theorem Kn.itAt(k:Kn){h':Heap}{it:Addr}(t:k.it h it l j)(e:∀o,h.get? it=some o->h'.get? it=some o):k.it h' it l j:=by
 cases k
 ·exact Heap.IsListIter.at t e
 ·exact Heap.IsTupleIter.at t e
theorem Kn.Dm(k:Kn){it:Addr}(t:k.it h it l j):∃o,h.get? it=some o/\∀v,o.data≠.cell v:=by
 cases k <;> (obtain⟨o,e,_,d⟩:=t;exact⟨o,e,fun v z=>by rw[d] at z;cases z⟩)
theorem Kn.FG(k:Kn){h':Heap}(t:k.seq h l xs)(e:∀o,h.get? l=some o->h'.get? l=some o):k.seq h' l xs:=by
 cases k
 ·exact Heap.IsList.at t e
 ·obtain⟨o,a,b⟩:=t;exact⟨o,e o a,b⟩
theorem Kn.lt(k:Kn)(t:k.seq h l xs):l<h.objs.size:=by
 cases k <;> (obtain⟨o,a,_⟩:=t;exact Op a)
theorem Kn.inv{H:Hp}{s:N5}(k:Kn)(I:Inv X ν σ H s)(q:k.sq X.K H a xs):∃dk:List NY,Vals xs dk/\k.seq s.heap a dk.toArray:=by
 cases k
 ·obtain⟨dk,r,p,_⟩:=I.list q;exact⟨dk,r,p.isList⟩
 ·obtain⟨dk,r,p,_⟩:=I.tuple q;exact⟨dk,r,p⟩
theorem Kn.inj{H:Hp}{s:N5}(k:Kn)(I:Inv X ν σ H s)(q:k.sq X.K H a xs)(r:k.sq X.K H a ys):xs=ys:=by
 cases k
 ·exact I.nu q r
 ·exact I.oE q r
theorem Kn.iter(k:Kn){Q:NY->N5->Prop}(t:k.seq s.heap l xs)(q:Q (.ref s.heap.objs.size) {s with heap:=s.heap.push (k.obj l)}):wpAny (model prog w) A (pyIter (.ref l)) Q E s:=by
 cases k
 ·exact UC t q
 ·exact Wx t q
theorem Kn.it0(k:Kn)(h:Heap)(l:Addr):k.it (h.push (k.obj l)) h.objs.size l 0:=by
 cases k <;> exact⟨_,OC _ rfl,rfl,rfl⟩
noncomputable def zh (h:Heap) (k1 k2:Kn) (l1 l2:Addr):Heap:=(((((h.push (k1.obj l1)).push (k2.obj l2)).push {cls:=.type "tuple",data:=.seq #[.ref h.objs.size,.ref (h.push (k1.obj l1)).objs.size]}).push {cls:=.type "tuple",data:=.seq #[.none,.none]}).push
 {cls:=.type "zip",data:=.fields #[.none,.bool false,.bool false,.ref ((h.push (k1.obj l1)).push (k2.obj l2)).objs.size,.ref (((h.push (k1.obj l1)).push (k2.obj l2)).push {cls:=.type "tuple",data:=.seq #[.ref h.objs.size,.ref (h.push (k1.obj l1)).objs.size]}).objs.size]})
theorem Fd(k1 k2:Kn) (l1 l2:Addr) (xs ys:Array NY):Meets (Qw.«zip.__new__» ⟨[.type "zip",.ref l1,.ref l2],[]⟩) (fun _ R s=>k1.seq s.heap l1 xs/\k2.seq s.heap l2 ys /\
  R (.ok (.ret (.ref ((((s.heap.push (k1.obj l1)).push (k2.obj l2)).push {cls:=.type "tuple",data:=.seq #[.ref s.heap.objs.size,.ref (s.heap.push (k1.obj l1)).objs.size]}).push {cls:=.type "tuple",data:=.seq #[.none,.none]}).objs.size))) {s with heap:=zh s.heap k1 k2 l1 l2}) :=
 .of_wp fun prog w A R s h=>by
  obtain⟨hp,g,d,tk,os⟩:=s;obtain⟨a1,a2,h⟩:=h;have hsub:=sub_zip;have c1:k1.seq (N5.heap ⟨hp,g,d,tk,os⟩) l1 xs:=a1;have c2:k2.seq (N5.heap ⟨hp.push (k1.obj l1),g,d,tk,os⟩) l2 ys:=k2.FG a2 fun o e=>N3 _ e
  wp_walk using Kn.iter k1 c1,Kn.iter k2 c2;exact⟨_,rfl,h⟩
theorem HV{k1 k2:Kn}{Q:NY->N5->Prop}(a1:k1.seq s.heap l1 xs)(a2:k2.seq s.heap l2 ys)
  (q:∀h' (z TI TO i1 i2:Addr),Nl z TI TO i1 i2 l1 l2->s.heap.objs.size<=i1->VT h' z TI TO .none->Sj h' TI (.ref i1) (.ref i2)->(∃a b,Sj h' TO a b)->k1.it h' i1 l1 0->k2.it h' i2 l2 0->(∀c o,s.heap.get? c=some o->h'.get? c=some o)->Q (.ref z) {s with heap:=h'}) :
  wpAny (model prog w) A (call (.type "zip") [.ref l1,.ref l2]) Q E s:=by
 refine callType_new F.called_zip (by decide) (F.typeCall_zip_2 _ _) (F.newCall_zip_2 _ _) (fun obj=>F.args_object_init_3 obj _ _) F.entry_zip_new (Fd k1 k2 l1 l2 xs ys) ⟨a1,a2,?_⟩;have lt1:=k1.lt a1;have lt2:=k2.lt a2;have g5:(zh s.heap k1 k2 l1 l2).get? _=some _:=OC ((((s.heap.push (k1.obj l1)).push (k2.obj l2)).push {cls:=.type "tuple",data:=.seq #[.ref s.heap.objs.size,.ref (s.heap.push (k1.obj l1)).objs.size]}).push {cls:=.type "tuple",data:=.seq #[.none,.none]}) (o:={cls:=.type "zip",data:=.fields #[.none,.bool false,.bool false,.ref ((s.heap.push (k1.obj l1)).push (k2.obj l2)).objs.size,.ref (((s.heap.push (k1.obj l1)).push (k2.obj l2)).push {cls:=.type "tuple",data:=.seq #[.ref s.heap.objs.size,.ref (s.heap.push (k1.obj l1)).objs.size]}).objs.size]}) rfl;have g4:(zh s.heap k1 k2 l1 l2).get? _=some _:=N3 _ (OC (((s.heap.push (k1.obj l1)).push (k2.obj l2)).push {cls:=.type "tuple",data:=.seq #[.ref s.heap.objs.size,.ref (s.heap.push (k1.obj l1)).objs.size]}) (o:={cls:=.type "tuple",data:=.seq #[.none,.none]}) rfl);have g3:(zh s.heap k1 k2 l1 l2).get? _=some _:=N3 _ (N3 _ (OC ((s.heap.push (k1.obj l1)).push (k2.obj l2)) (o:={cls:=.type "tuple",data:=.seq #[.ref s.heap.objs.size,.ref (s.heap.push (k1.obj l1)).objs.size]}) rfl));have g2:k2.it (zh s.heap k1 k2 l1 l2) (s.heap.push (k1.obj l1)).objs.size l2 0:=k2.itAt (k2.it0 _ l2) fun o e=>N3 _ (N3 _ (N3 _ e))
 have g1:k1.it (zh s.heap k1 k2 l1 l2) s.heap.objs.size l1 0:=k1.itAt (k1.it0 _ l1) fun o e=>N3 _ (N3 _ (N3 _ (N3 _ e)))
 show _/\_;refine⟨⟨_,g5,rfl⟩,q _ _ _ _ _ _ ⟨?_,?_,?_,?_,lt1,lt2⟩ (N4 _) g5 g3 ⟨_,_,g4⟩ g1 g2 fun c o x=>N3 _ (N3 _ (N3 _ (N3 _ (N3 _ x))))⟩ <;>
 ·simp only[Rn];exact Tx _
end
noncomputable def Lz(K:Fg)(k1 k2:Kn)(a b:Addr):It :=
 ⟨fun i H=>∃xs ys,k1.sq K H a xs/\k2.sq K H b ys/\i<xs.length/\i<ys.length,fun i H v H'=>∃T x y,H T=none/\v=.ref T/\H'=upd H T (.tup [x,y])/\(∀xs,k1.sq K H a xs->xs[i]?=some x)/\(∀ys,k2.sq K H b ys->ys[i]?=some y),
  fun i H=>∃xs ys,k1.sq K H a xs/\k2.sq K H b ys/\(xs.length<=i\/ys.length<=i)⟩
theorem Bh{K:Fg}{x1}{TI TO:Addr}(D:Nl z TI TO i1 i2 a b) :
  qI P w K (.Tuple elts x1 pos) (Lz K k1 k2 a b) [z,TI,TO,i1,i2] z (fun i h=>VT h z TI TO .none/\Sj h TI (.ref i1) (.ref i2)/\(∃x y,Sj h TO x y)/\k1.it h i1 a i/\k2.it h i2 b i) where
 mem:=by simp
 obj:=fun i h ⟨hz,hI,⟨x,y,hO⟩,t1,t2⟩ c hc=>by
  simp only[Od,OY,or_false] at hc;rcases hc with rfl|rfl|rfl|rfl|rfl
  ·exact⟨_,hz,fun v q=>by cases (show Xs _=V6 v from q)⟩
  ·exact⟨_,hI,fun v q=>by cases (show Yh _ _=V6 v from q)⟩
  ·exact⟨_,hO,fun v q=>by cases (show Yh _ _=V6 v from q)⟩
  ·exact k1.Dm t1
  ·exact k2.Dm t2
 keep:=fun i h h' ⟨hz,hI,⟨x,y,hO⟩,t1,t2⟩ kp=>⟨kp z (by simp) _ hz,kp TI (by simp) _ hI,⟨x,y,kp TO (by simp) _ hO⟩,k1.itAt t1 fun o e=>kp i1 (by simp) o e,k2.itAt t2 fun o e=>kp i2 (by simp) o e⟩
 item:=by
  intro X hP hw hK hc i ν s σ H E I hf ⟨hz,hI,hO,t1,t2⟩ hg;subst hP hw hK;obtain⟨xs,ys,q1,q2,l1,l2⟩:=hg;obtain⟨v1,r1,p1⟩:=k1.inv I q1;obtain⟨v2,r2,p2⟩:=k2.inv I q2;obtain⟨u1,e1,ru1⟩:=r1.get (NR l1);obtain⟨u2,e2,ru2⟩:=r2.get (NR l2);obtain⟨n1,n2,nO1,nO2,Z7,nIz,nIO,nI1,nI2,n12,c1,c2,c3,c4,c5,c6⟩:=wF D.a D.b D.c D.d D.e D.f;refine(DZ D (k1.drw i1 a (Ou D.e) v1.toArray) (k2.drw i2 b (Ou (OL D.f D.a)) v2.toArray) ⟨hz,hI,hO,⟨t1,p1⟩,⟨t2,p2⟩⟩).1 u1 u2 (by simpa using e1) (by simpa using e2) fun h' hz' hI' hO' s1' s2' hT all=>⟨_,rfl,?_⟩
  refine wpAny_letOwnedTupleGo_zip hz' fun h2 hz2 sb=>?_
  have nT:∀c∈[z,TI,TO,i1,i2],c≠s.heap.objs.size:=fun c Yz=>by
   simp only[Od,OY,or_false] at Yz;rcases Yz with rfl|rfl|rfl|rfl|rfl
   ·exact Ou (Op hz)
   ·exact Ou (Op hI)
   ·obtain⟨_,_,q⟩:=hO;exact Ou (Op q)
   ·obtain⟨_,q,_⟩:=k1.Dm t1;exact Ou (Op q)
   ·obtain⟨_,q,_⟩:=k2.Dm t2;exact Ou (Op q)
  have hfr:H s.heap.objs.size=none:=I.hok.fresh (N4 _)
  have I1:Inv X ν σ (upd H s.heap.objs.size (.tup [xs[i],ys[i]])) {s with heap:=s.heap.push {cls:=.type "tuple",data:=.seq #[u1,u2]}} :=
   I.laid (t':=s.toks) (fun b u e=>N3 _ e) (N4 _) ⟨aQ,[u1,u2],.cons ru1 (.cons ru2 .nil),TupD.new _ _⟩
  have zT:s.heap.objs.size≠z:=(nT z (by simp)).symm
  have I2:Inv X ν σ (upd H s.heap.objs.size (.tup [xs[i],ys[i]])) {s with heap:=h2}:=Inv.lU (s:={s with heap:=s.heap.push {cls:=.type "tuple",data:=.seq #[u1,u2]}}) (t':=s.toks) (fp:=[z,TI,TO,i1,i2]) I1 (fun c o Yz e=>by
   have hcz:c≠z:=fun x=>Yz (by simp[x])
   rcases VU e with⟨ec,eo⟩|e
   ·rw[ec,eo];exact sb.extBut _ _ zT hT
   ·exact sb.extBut _ _ hcz (all c o Yz e)) fun c Yz=>⟨by rw[aB (nT c Yz)];exact(hf c Yz).1,(hf c Yz).2⟩
  refine⟨.ref s.heap.objs.size,_,I2,rfl,⟨s.heap.objs.size,xs[i],ys[i],hfr,rfl,rfl,fun zs hz=>?_,fun zs hz=>?_⟩,⟨hz2,sb.extBut _ _ nIz hI',?_,k1.itAt s1'.1 fun o e=>sb.extBut _ _ n1 e,k2.itAt s2'.1 fun o e=>sb.extBut _ _ n2 e⟩,fun c Yz=>by rw[aB (nT c Yz)];exact(hf c Yz).1⟩
  ·rw[k1.inj I hz q1,NR l1]
  ·rw[k2.inj I hz q2,NR l2]
  ·obtain⟨x,y,q⟩:=hO';exact⟨x,y,sb.extBut _ _ Z7 q⟩
 done:=by
  intro X hP hw hK hc i ν s σ H E I hf ⟨hz,hI,hO,t1,t2⟩ hg;subst hP hw hK;obtain⟨xs,ys,q1,q2,le⟩:=hg;obtain⟨v1,r1,p1⟩:=k1.inv I q1;obtain⟨v2,r2,p2⟩:=k2.inv I q2;have e1:=r1.length;have e2:=r2.length
  refine(DZ D (k1.drw i1 a (Ou D.e) v1.toArray) (k2.drw i2 b (Ou (OL D.f D.a)) v2.toArray) ⟨hz,hI,hO,⟨t1,p1⟩,⟨t2,p2⟩⟩).2 (I.ok.hd hc) (by
   rcases le with q|q
   ·exact .inl (by simp;lia)
   ·exact .inr (by simp;lia)) fun h' all=>⟨rfl,I.lU (t':=s.toks) (fun c o Yz e=>all c o Yz e) hf⟩
 self:=fun _ _ _ _ _ st q=>wpAny_pyIter_zip st.1 q
section
variable{X:Cx}
noncomputable def zJ(K:Fg)(k1 k2:Kn)(ta:TA):TI:=fun σ H R=>ta σ H fun vs H1=>∃a b xs ys,vs=[.ref a,.ref b]/\k1.sq K H1 a xs/\k2.sq K H1 b ys/\R (Lz K k1 k2 a b) H1
theorem K4:bootBuiltins "zip"=some (.type "zip"):=by decide +kernel
theorem Jh{x y:Expr} {ta:TA}  {x1} {p pos:Pos} (hg:Gl X "zip") (hm:X.mg "zip"=none) (ha:PA X [x,y] ta) (hs:starEach [x,y] X.env=[(false,eval x X.env),(false,eval y X.env)]:=by rfl) (YV:starEach [y] X.env=[(false,eval y X.env)]:=by rfl) :
  PI X (.Tuple elts x1 tp) (.Call (.Name "zip" p) [x,y] [] pos) (zJ X.K k1 k2 ta):=by
 intro ν s σ H R I h;refine Call_ (f7 I hg hm K4 (Pu (bg (ha pos ν s σ H _ I h) fun us s1 ⟨vs,H1,I1,r1,q1⟩=>?_) (by rw[hs,YV]) (by rw[YV];rfl)));obtain⟨a,b,xs,ys,e,s1q,s2q,q⟩:=q1;subst e;obtain⟨u1,u2,rfl,ra,rb⟩:=vals2 r1;cases ra;cases rb;obtain⟨v1,w1,p1⟩:=k1.inv I1 s1q;obtain⟨v2,w2,p2⟩:=k2.inv I1 s2q;refine HV p1 p2 fun h' z TI TO i1 i2 D le hz hI hO t1 t2 kp=>?_
 refine wpAny_pyIter_zip (s:={s1 with heap:=h'}) hz ?_;refine⟨z,[z,TI,TO,i1,i2],_,_,H1,rfl,I1.kept (t':=s1.toks) kp,Bh D,⟨hz,hI,hO,t1,t2⟩,fun c hc=>?_,q⟩
 have le2:s1.heap.objs.size<=c:=by
  have d1:=D.a;have d2:=D.b;have d3:=D.c;have d4:=D.d;simp only[Od,OY,or_false] at hc;rcases hc with rfl|rfl|rfl|rfl|rfl
  ·exact Qa (Oy le (OL d1 (OL d2 (OL d3 d4))))
  ·exact Qa (Oy le (OL d1 d2))
  ·exact Qa (Oy le (OL d1 (OL d2 d3)))
  ·exact le
  ·exact Qa (Oy le d1)
 exact I1.fpOk le2 (I1.hok.fresh le2)
end
section
variable{K:Fg}{te:TE}{σ:St}{Q:VK}{H:Hp}
noncomputable def HI(g:TG)(n:Nat)(te:TE)(σ:St)(v:V)(H:Hp)(D:Addr)(m i:Nat)(Pv:Nat->Hp->Prop):Prop:=∀us:St,us.length=n->g v (us ++ σ) H fun σ2 H2=>(∃Y2:St,Y2.length=n/\σ2=Y2 ++ σ)/\te σ2 H2 (oz D m i Pv)
theorem DK{k1 k2:Kn}{xs ys:List V}(h:∀D,H D=none->∃Pv:Nat->Hp->Prop,Pv 0 (upd H D (.lst []))/\(∀i H2,i<=min xs.length ys.length->Pv i H2->k1.sq K H2 a xs/\k2.sq K H2 b ys) /\
  (∀i x y H2 T,xs[i]?=some x->ys[i]?=some y->Pv i H2->H2 T=none->HI g n te σ (.ref T) (upd H2 T (.tup [x,y])) D (min xs.length ys.length) i Pv)/\∀H2,Pv (min xs.length ys.length) H2->Q (.ref D) H2):wA (Lz K k1 k2 a b) n g te σ Q H:=by
 intro D nD;obtain⟨Pv,h0,hl,hs,hd⟩:=h D nD;refine⟨fun i m H=>m=min xs.length ys.length-i/\i<=min xs.length ys.length/\Pv i H,⟨_,rfl,OR _,h0⟩,?_⟩;rintro i m H ⟨rfl,hi,p⟩;obtain⟨q1,q2⟩:=hl i H hi p;by_cases Ad:i<min xs.length ys.length
 ·refine .inr ⟨⟨xs,ys,q1,q2,by lia,by lia⟩,fun v H' y us hu=>?_⟩;obtain⟨T,x,y,nT,rfl,rfl,z1,z2⟩:=y;exact hs i x y H T (z1 xs q1) (z2 ys q2) p nT us hu
 ·have e:i=min xs.length ys.length:=by lia
  subst e;refine .inl ⟨⟨xs,ys,q1,q2,?_⟩,hd H p⟩;rcases Nat.le_total xs.length ys.length with q|q
  ·exact .inl (by rw[SJ q];exact N4 _)
  ·exact .inr (by rw[Sb q];exact N4 _)
end
open PySem.W (Dat kqdOk)
theorem AccZ.ci{K:Fg}(A:AccZ K H0 l H ds)(r:Rz K H y d)(n:ds.length<sizeLine){Pv:Hp->Prop}(h:∀H2,AccZ K H0 l H2 (ds++[d])->Pv H2):HE l Pv y H:=by
 obtain⟨xs,h1,h2⟩:=A.at_;refine⟨xs,h1,by rw[h2.length];exact n,h _ ⟨A.ag,A.new,xs++[y],L2.ag,?_⟩⟩;exact RzL.upd (h2.append (.cons r .nil)) h1
open PySem
section
variable{K:Fg}{σ:St}{H:Hp}{Q:VK}{te:TE}
theorem Hd{wi:TI}(h:wi σ H fun J H1=>wA J n g te σ Q H1):fW wi n g te σ H Q:=h
theorem Mw{k1 k2:Kn}{ta:TA}{R:It->Hp->Prop}(h:ta σ H fun vs H1=>∃a b xs ys,vs=[.ref a,.ref b]/\k1.sq K H1 a xs/\k2.sq K H1 b ys/\R (Lz K k1 k2 a b) H1):zJ K k1 k2 ta σ H R:=h
end
open PySem
section
variable{K:Fg}{σ:St}{H:Hp}{Q:VK}{D:cx}{td ty tv te tk:TE}
theorem Ku(h:tv σ H fun v H1=>td σ H1 fun x H2=>ty σ H2 fun y H3=>∃a H4,x=.ref a/\DPut H3 a y v H4/\D.nx σ H4):o7 td ty tv D σ H:=h
end
section
variable{X:Cx}{scope:Scope}
theorem yH{elt iter tg:Expr}{pos:Pos}{wi:TI}{g:TG}{te:TE}{n:Nat}(ys M:List Str)(c:oA X.env.scope X.N M ys scope)(hc:X.calm=true)(hi:PI X tg iter wi)(hg:∀C s₀ H₀ fp ν,PG (aX X ys M scope (gR scope X.env.cells) C s₀ H₀ fp ν) tg g)(he:∀C s₀ H₀ fp ν,PE (aX X ys M scope (gR scope X.env.cells) C s₀ H₀ fp ν) elt te)
  (hn:ys.length=n:=by rfl) (hs:∀v,foldedSetIterable iter X.env v=pure v:=by intro _;rfl):PE X (.ListComp elt [⟨tg,iter,[],0⟩] scope pos) (fW wi n g te):=by
 subst hn;exact Jr c hc hi hg he hs
end
section
variable{X:Cx}
noncomputable def Gi(K:Fg):List V->Hp->VK->Prop:=fun xs H Q=>∃(a:Addr) (bs:List Bool),xs=[.ref a]/\SqL K H a (bs.map V.bl)/\Q (.bl (bs.all id)) H
theorem qA:∀{bs:List Bool} {us:List NY},Vals (bs.map V.bl) us->LSm.BoolsAre us bs
 |[],_,.nil=>.nil
 |b :: bs,_,.cons r rr=>by
  cases (show _=Vf b from r);exact .cons b (qA rr)
theorem vL{M:Model}{A:O1}{E:NY->N5->Prop}{H:Hp}{bs:List Bool}(d:Bool)(I:Inv X ν σ H s)(q1:SqL X.K H a (bs.map V.bl))(hh:A.handled=none)(hM:M=model X.prog X.w)
  {Qr:Bool->NY->N5->Prop} {f:(Nat->Bool)->Nat->Bool} {r:Bool} (hf:f (fun i=>(bs[i]?).getD d) bs.length=r) (q:∀h' tk,Inv X ν σ H {s with heap:=h',toks:=tk}->Qr r (.bool r) {s with heap:=h',toks:=tk}) :
  wpAny M A (pyIter (.ref a)) (fun it s₂=>∃I fp wr n P St tr,it=.ref I/\Xu X.prog X.w A I fp wr n P St/\St 0 s₂.heap/\TruthOf X.prog X.w A P tr/\∀h' tk,(∀b o,b∉wr->s₂.heap.get? b=some o->h'.get? b=some o)->Qr r (.bool (f tr n)) {s₂ with heap:=h',toks:=tk}) E s:=by
 subst hM;obtain⟨dk,rv,p,_⟩:=I.list q1;have hl:s.heap.IsList a dk.toArray:=p.isList;have hb:=qA rv;have Ad:a<s.heap.objs.size:=by obtain⟨_,e,_⟩:=hl;exact Op e
 refine UC hl ⟨s.heap.objs.size,[s.heap.objs.size,a],[s.heap.objs.size],dk.toArray.size,_,_,fun i=>(bs[i]?).getD d,rfl,Xu.list hh _ a (Ou Ad) dk.toArray,⟨⟨_,OC _ rfl,rfl,rfl⟩,hl.push _⟩,fun i v s' Q' E' hP hQ=>?_,fun h' tk hk=>?_⟩
 ·obtain⟨b,e,rfl⟩:=hb.get i v (by simpa using hP);dsimp only at hQ;rw[e] at hQ;exact Qj hQ
 ·rw[Ov,hb.length,hf];exact q h' tk (I.kept (t':=tk) fun b o e=>hk b o (fun z=>absurd (Op e) (by rw[N7.mp z];exact Rf _)) (N3 _ e))
theorem DQ(hc:X.calm=true):dZ X (.builtin "all") (Gi X.K):=by
 intro ν s σ H xs us Q I r h;obtain⟨a,bs,rfl,q1,q⟩:=h;obtain⟨u,rfl,ru⟩:=vals1 r;cases ru;refine call_all_walk (vL (f:=fun tr n=>(Oa n).all tr) (r:=bs.all id) true I q1 (by have:=I.ok.hd hc;simpa using this) rfl (LSm.range_all bs) (Qr:=fun _ v s'=>EP X ν σ Q v s') fun h' tk I2=>⟨.bl _,H,I2,rfl,q⟩)
theorem La:bootBuiltins "all"=some (.builtin "all"):=by decide +kernel
end
noncomputable def qK(J:It)(n:Nat)(g:TG)(tc:TT)(te:TE)(σ:St)(Q:VK)(H1:Hp):Prop:=∀D,H1 D=none->∃W:Nat->Nat->Hp->Prop,(∃m,W 0 m (upd H1 D (.lst [])))/\∀i m H,W i m H ->
 (J.stop i H/\Q (.ref D) H)\/(J.go i H/\∀v H',J.yld i H v H'->∀us:St,us.length=n->g v (us ++ σ) H' fun σ2 H2=>(∃Y2:St,Y2.length=n/\σ2=Y2 ++ σ)/\tc σ2 H2 fun b H3 =>
  if b=true then te σ2 H3 fun y H4=>∃xs,H4 D=some (.lst xs)/\xs.length<sizeLine/\∃m',m'<m/\W (i+1) m' (upd H4 D (.lst (xs++[y]))) else ∃m',m'<m/\W (i+1) m' H3)
noncomputable def gE(wi:TI)(n:Nat)(g:TG)(tc:TT)(te:TE):TE:=fun σ H Q=>wi σ H fun J H1=>qK J n g tc te σ Q H1
section
variable{X:Cx}{ys M:List Str}{scope:Scope}{cl:List (Str×Addr)}{C:Addr}{s:N5}{H:Hp}{fp:List Addr}{ν:List (Addr×Obj)}{σ:St}
theorem wu{R:VO->N5->Prop}{s:N5}{iter:Expr}{scope:Scope}{acc:NY}(I:Nat->N5->Prop)
  (turn:∀n s,I n s->wpAny (model prog w) A (pyNext it) (fun r s1=>match r with
   |none=>R (.ok .next) s1
   |some v=>wpAny (model prog w) A (letOwnedTupleGo target it v) (fun _ s2=>wpAny (model prog w) A (assign target env v) (fun _ s3=>wpAny (model prog w) A (isTrue c env (eval c env)) (fun ok s4 =>
     if ok=true then wpAny (model prog w) A (eval elt env) (fun x s5=>wpAny (model prog w) A (call (.builtin "list.append") [acc,x]) (fun _ s6=>∃m,m<n/\I m s6) (fun _ _=>False) s5) (fun _ _=>False) s4
     else ∃m,m<n/\I m s4) (fun _ _=>False) s3) (fun _ _=>False) s2) (fun _ _=>False) s1) (fun _ _=>False) s) (n:Nat) (h:I n s) :
  codeAny (model prog w) A (.compLoop (.ListComp elt [⟨target,iter,[c],0⟩] scope pos) 0 it acc env) R s:=by
 refine codeAny_loop rfl I (fun k s1 hI=>?_) n h;have no:∀{α:Type} {t:Sem α} {P:α->N5->Prop} {E:NY->N5->Prop} {z:N5},wpAny (model prog w) A t P (fun _ _=>False) z->wpAny (model prog w) A t P E z:=fun q=>O_ q (fun _ _ z=>z) fun _ _ z=>z.elim
 show wpAny _ _ ((compTurn (.ListComp elt [⟨target,iter,[c],0⟩] scope pos) 0 it acc env).onRaise _) _ _ s1;refine wpAny_noted ?_;rw[compTurn_list];refine NU (UP (NU (no (O_ (turn k s1 hI) (fun r s2 h2=>?_) fun _ _ z=>z))));cases r with
 |none=>exact Oc h2
 |some v =>
  refine NU (no (O_ h2 (fun _ s3 h3=>?_) fun _ _ z=>z));refine NU (no (O_ h3 (fun _ s4 h4=>?_) fun _ _ z=>z));refine NU (wpAny_tests_one (no (O_ h4 (fun ok s5 h5=>?_) fun _ _ z=>z)));cases ok with
  |true =>
   rw[if_pos rfl] at h5;refine NU (NU (no (O_ h5 (fun x s6 h6=>?_) fun _ _ z=>z)));exact NU (no (O_ h6 (fun _ s7 h7=>Oc (Oc ⟨rfl,h7⟩)) fun _ _ z=>z))
  |false =>
   rw[if_neg OH] at h5;exact Oc ⟨rfl,h5⟩
theorem kZ{iter:Expr}{E:NY->N5->Prop}{QQ:Addr->Hp->Prop}{RR:NY->Addr->VO->N5->Prop}(I:Inv X ν σ H s)(c:lH X ys M scope cl)(hc:X.calm=true)
  (hg:∀C s₀ H₀ fp ν,PG (aX X ys M scope cl C s₀ H₀ fp ν) tg g) (ht:∀C s₀ H₀ fp ν,PT (aX X ys M scope cl C s₀ H₀ fp ν) cn tc) (he:∀C s₀ H₀ fp ν,PE (aX X ys M scope cl C s₀ H₀ fp ν) elt te) (T:qI X.prog X.w X.K tg J fp it tn) (st:tn 0 s.heap) (fk:∀b∈fp,gu X ν H b)
  (h:qK J ys.length g tc te σ (fun v H'=>∃D,v=.ref D/\QQ D H') H)
  (fin:∀D C H' s',s.heap.objs.size<=C->s'.heap.get? C≠none->(∃m,s'.heap.Ns C m)->H' C=none->Inv X ν σ H' s'->QQ D H'->RR (.ref D) C (.ok .next) s') :
  wpAny (model X.prog X.w) X.A (newList []) (fun acc s₃=>wpAny (model X.prog X.w) X.A (newFunctionEnv scope X.env.globals cl [] X.env.qual none .none (some X.env)) (fun Zs s₄ =>
   codeAny (model X.prog X.w) X.A (.compStart (.ListComp elt [⟨tg,iter,[cn],0⟩] scope pos) 0 (.ref it) acc {Zs with scope:=relabel scope X.env}) (RR acc Zs.locals) s₄) E s₃) E s:=by
 refine PK (VR c.nocell (by intro y hy;simp at hy) (fun h1 ZE ZP=>?_) c.kind);dsimp only at ZE ZP ⊢;have hf:H s.heap.objs.size=none:=I.hok.fresh (N4 _)
 have I3:Inv X ν σ (upd H s.heap.objs.size (.lst [])) {s with heap:=s.heap.push {cls:=.type "list",dict:=none,data:=.seq ([]:List NY).toArray}} :=
  I.laid (t':=s.toks) (fun b u e=>N3 _ e) (N4 _) ⟨by decide,[],_,.nil,OC _ rfl⟩
 have eD:∀b u,s.heap.get? b=some u->b≠s.heap.objs.size:=fun b u e=>Ou (Op e)
 have ZH:∀b∈fp,gu X ν (upd H s.heap.objs.size (.lst [])) b/\∃o,(s.heap.push {cls:=.type "list",dict:=none,data:=.seq ([]:List NY).toArray}).get? b=some o:=fun b hb=>by
  obtain⟨o,eo,_⟩:=T.obj 0 _ st b hb;obtain⟨f1,f2⟩:=fk b hb;exact⟨⟨by rw[aB (eD b o eo)];exact f1,f2⟩,o,N3 _ eo⟩
 have I4:=uX (tk:=s.toks+([]:List (Str×NY)).length) I3 c rfl ZE ZP ZH;obtain⟨W,⟨m0,w0⟩,turn⟩:=h _ hf
 have st4:tn 0 h1:=T.keep 0 _ _ st fun b hb o e=>by
  have e2:=N3 {cls:=.type "list",dict:=none,data:=.seq ([]:List NY).toArray} e;exact ZP.extBut b o (Ou (Op e2)) (N3 _ e2)
 have YX:∀{H':Hp},(∀b∈fp,H' b=none)->∀b∈fp,gu (aX X ys M scope cl (s.heap.push {cls:=.type "list",dict:=none,data:=.seq ([]:List NY).toArray}).objs.size {s with heap:=s.heap.push {cls:=.type "list",dict:=none,data:=.seq ([]:List NY).toArray}} (upd H s.heap.objs.size (.lst [])) fp ν) [] H' b :=
  fun hn b hb=>⟨hn b hb,(I4.ok.exf b hb).1,I4.ok.exfs b hb,.inl hb,(I4.ok.exf b hb).2,fun p hp=>(ZH b hb).1.2.2.2.2.2 p (by simpa[aX] using hp)⟩
 have loop:∀s4:N5,s4 = {s with heap:=h1,toks:=s.toks+([]:List (Str×NY)).length} ->
   codeAny (model X.prog X.w) X.A (.compLoop (.ListComp elt [⟨tg,iter,[cn],0⟩] scope pos) 0 (.ref it) (.ref s.heap.objs.size) (compEnvC scope cl (s.heap.push {cls:=.type "list",dict:=none,data:=.seq ([]:List NY).toArray}).objs.size X.env))
    (RR (.ref s.heap.objs.size) (s.heap.push {cls:=.type "list",dict:=none,data:=.seq ([]:List NY).toArray}).objs.size) s4:=by
  rintro s4 rfl
  refine wu (fun n s'=>∃(i:Nat) (us:St) (H':Hp),us.length=ys.length/\Inv (aX X ys M scope cl (s.heap.push {cls:=.type "list",dict:=none,data:=.seq ([]:List NY).toArray}).objs.size {s with heap:=s.heap.push {cls:=.type "list",dict:=none,data:=.seq ([]:List NY).toArray}} (upd H s.heap.objs.size (.lst [])) fp ν) [] (us ++ σ) H' s'/\tn i s'.heap/\(∀b∈fp,H' b=none)/\W i n H')
   ?_ m0 ⟨0,_,_,P4,I4,st4,fun b hb=>(ZH b hb).1.1,w0⟩
  rintro n s5 ⟨i,us,H5,lu,I5,ZV,fr5,w5⟩;rcases turn i n H5 w5 with⟨stop,Dq,eDq,q⟩|⟨go,step⟩
  ·cases eDq;refine bg (T.done (aX X ys M scope cl _ _ _ _ _) rfl rfl rfl hc i [] s5 _ H5 _ I5 (YX fr5) ZV stop) fun r s6 ⟨er,I6⟩=>?_
   subst er;obtain⟨m,hn6,_⟩:=id I6.loc;obtain⟨o6,_,_,ho6,_⟩:=id hn6;exact fin _ _ H5 s6 (by rw[Rn];exact UD _) (fun z=>by have z':=ho6.symm.trans z;cases z') ⟨m,hn6⟩ I6.free (kU I3 ZH I6) q
  ·refine bg (T.item (aX X ys M scope cl _ _ _ _ _) rfl rfl rfl hc i [] s5 _ H5 _ I5 (YX fr5) ZV go) fun r s6 ⟨u,er,h6⟩=>?_
   subst er;refine bg h6 fun _ s7 ⟨v',H7,I7,r7,y7,ZW,fr7⟩=>?_
   have I7':=I7.pinned (YX fr7) (T.obj _ _ ZW);refine O_ (hg _ _ _ _ _ _ s7 _ H7 v' u _ I7' r7 (step v' H7 y7 us lu)) (fun _ s8 ⟨σ8,H8,I8,⟨Y2,lu',e8⟩,q8⟩=>?_) fun _ _ z=>z.elim
   refine O_ (ht _ _ _ _ _ _ s8 _ H8 _ I8 q8) (fun ok s9 ⟨H9,I9,q9⟩=>?_) fun _ _ z=>z.elim
   subst e8;cases ok with
   |true =>
    rw[if_pos rfl] at q9 ⊢;refine O_ (he _ _ _ _ _ _ s9 _ H9 _ I9 q9) (fun y s10 ⟨yv,YC,I10,ry,xs,ZQ,hlen,m',hm,w10⟩=>?_) fun _ _ z=>z.elim
    refine O_ (jF (X:=aX X ys M scope cl _ _ _ _ _) _ s10 _ YC (.ref s.heap.objs.size) [yv] (.ref s.heap.objs.size) [y] (fun _ Y3=>Y3=upd YC s.heap.objs.size (.lst (xs++[yv]))) I10 rfl (.cons ry .nil) ⟨_,xs,yv,rfl,rfl,ZQ,hlen,rfl⟩) (fun _ s11 ⟨z,Y3,I11,rz,q11⟩=>?_) fun _ _ z=>z.elim
    subst q11;refine⟨m',hm,i+1,Y2,_,lu',I11.fC (ν:=[]),T.keep _ _ _ ZW fun b hb o e=>(I11.pin (b,o) (Ob _ (Ob _ (bZ hb e)))).1,fun b hb=>?_,w10⟩;obtain⟨o,e,_⟩:=T.obj _ _ ZW b hb;exact(I11.pin (b,o) (Ob _ (Ob _ (bZ hb e)))).2.1
   |false =>
    rw[if_neg OH] at q9 ⊢;obtain⟨m',hm,w9⟩:=q9;refine⟨m',hm,i+1,Y2,_,lu',I9.fC (ν:=[]),T.keep _ _ _ ZW fun b hb o e=>(I9.pin (b,o) (Ob _ (Ob _ (bZ hb e)))).1,fun b hb=>?_,w9⟩;obtain⟨o,e,_⟩:=T.obj _ _ ZW b hb;exact(I9.pin (b,o) (Ob _ (Ob _ (bZ hb e)))).2.1
 exact Vl (loop _ rfl) (T.self _ 0 _ _ _ st4 (loop _ rfl))
theorem Js{elt iter tg cn:Expr}{pos:Pos}{wi:TI}{g:TG}{tc:TT}{te:TE}{n:Nat}(ys M:List Str)(c0:oA X.env.scope X.N M ys scope)(hc:X.calm=true)(hi:PI X tg iter wi)(hg:∀C s₀ H₀ fp ν,PG (aX X ys M scope (gR scope X.env.cells) C s₀ H₀ fp ν) tg g)
  (ht:∀C s₀ H₀ fp ν,PT (aX X ys M scope (gR scope X.env.cells) C s₀ H₀ fp ν) cn tc) (he:∀C s₀ H₀ fp ν,PE (aX X ys M scope (gR scope X.env.cells) C s₀ H₀ fp ν) elt te)
  (hn:ys.length=n:=by rfl) (hs:∀v,foldedSetIterable iter X.env v=pure v:=by intro _;rfl):PE X (.ListComp elt [⟨tg,iter,[cn],0⟩] scope pos) (gE wi n g tc te):=by
 subst hn;intro ν s σ H Q I h;have c:=c0.sc I.ok
 have Zo:PI X tg iter (fun σ H R=>∃R',(∀J H1,R' J H1->R J H1)/\wi σ H R'):=by
  intro ν s σ H R I ⟨R',hR,hw⟩;refine bg (hi ν s σ H R' I hw) fun v s1 h1=>bg h1 fun Z5 s2 ⟨it,fp,tn,J,H',e,I',T,t0,fk,r⟩=>⟨it,fp,tn,J,H',e,I',T,t0,fk,hR J H' r⟩
 rw[eval_ListComp];refine Sv (use:=none) rfl hs c.clos c.kind c.names (bg (Zo ν s σ H (fun J H1=>qK J ys.length g tc te σ (fun v H'=>∃D,v=.ref D/\Q (.ref D) H') H1) I ⟨_,fun J H1 q D nD=>?_,h⟩) fun v s1 h1=>bg h1 fun Z5 s2 h2=>?_)
 ·obtain⟨W,w0,t⟩:=q D nD;exact⟨W,w0,fun i m H w=>(t i m H w).imp (fun z=>⟨z.1,D,rfl,z.2⟩) id⟩
 obtain⟨it,fp,tn,J,H2,rfl,I2,T,st2,fk2,h3⟩:=h2;refine kZ (E:=X.xe) (QQ:=fun D H'=>Q (.ref D) H') I2 c hc hg ht he T st2 fk2 h3 fun D C H' s' hC hl ns fr I' q=>?_
 obtain⟨m,hn⟩:=ns;refine⟨m,hn,fun h' hs'=>?_⟩;have sz:=I2.sz;exact⟨.ref D,H',I'.turned (t':=s'.toks) (fun b o hb e=>(hs'.2 b hb).trans e) fr (I2.fpOk hC fr).2.1 (I2.fpOk hC fr).2.2.2.1 (I2.fpOk hC fr).2.2.2.2.1 (I2.fpOk hC fr).2.2.2.2.2,rfl,q⟩
theorem Jc{elt iter tg cn:Expr}{pos py sp:Pos}{wi:TI}{g:TG}{tc:TT}{te:TE}{i n:Nat}{y:Str}(ys M:List Str)(hN:X.N.Nodup)(hy:X.N[i]?=some y)(ly:X.env.scope.names.lookup y=some .local)(c0:oA X.env.scope X.N M ys scope)(hc:X.calm=true)(hi:PI X tg iter wi)
  (hg:∀C s₀ H₀ fp ν,PG (aX X ys M scope (gR scope X.env.cells) C s₀ H₀ fp ν) tg g) (ht:∀C s₀ H₀ fp ν,PT (aX X ys M scope (gR scope X.env.cells) C s₀ H₀ fp ν) cn tc) (he:∀C s₀ H₀ fp ν,PE (aX X ys M scope (gR scope X.env.cells) C s₀ H₀ fp ν) elt te) (hn:ys.length=n:=by rfl)
  (hsw:swapsWith (.ListComp elt [⟨tg,iter,[cn],0⟩] scope pos) (some (.Name y py)) sp.line X.env=pure true:=by rfl) (hs:∀v,foldedSetIterable iter X.env v=pure v:=by intro _;rfl) :
  PS X (.Assign [.Name y py] (.ListComp elt [⟨tg,iter,[cn],0⟩] scope pos) sp) (av (gE wi n g tc te) (ak i)):=by
 subst hn;intro ν s σ H D I h;have c:=c0.sc I.ok
 have Zo:PI X tg iter (fun σ H R=>∃R',(∀J H1,R' J H1->R J H1)/\wi σ H R'):=by
  intro ν s σ H R I ⟨R',hR,hw⟩;refine bg (hi ν s σ H R' I hw) fun v s1 h1=>bg h1 fun Z5 s2 ⟨it,fp,tn,J,H',e,I',T,t0,fk,r⟩=>⟨it,fp,tn,J,H',e,I',T,t0,fk,hR J H' r⟩
 rw[exec_Assign_Name_used _ _ _ _ hsw];refine NU (UP (NU ?_));show wpAny _ X.A (do let _ <- comprehension (.ListComp elt [⟨tg,iter,[cn],0⟩] scope pos) scope X.env _ (newList []) false (eval iter X.env) (some (assign (.Name y py) X.env))) _ _ s;refine NU (O_ (Sv (use:=some (assign (.Name y py) X.env)) (Q:=fun _ s'=>SP X ν D .next s') rfl hs c.clos c.kind c.names (bg (Zo ν s σ H (fun J H1=>qK J ys.length g tc te σ (fun v H'=>∃Da,v=.ref Da/\D.nx (σ.set i (some (.ref Da))) H') H1) I ⟨_,fun J H1 q Da nD=>?_,h⟩) fun v s1 h1=>bg h1 fun Z5 s2 h2=>?_)) (fun _ s' hq=>Oc (Oc hq)) fun _ _ z=>z)
 ·obtain⟨W,w0,t⟩:=q Da nD;exact⟨W,w0,fun i m H w=>(t i m H w).imp (fun z=>⟨z.1,Da,rfl,z.2⟩) id⟩
 obtain⟨it,fp,tn,J,H2,rfl,I2,T,st2,fk2,h3⟩:=h2;refine kZ (E:=X.xe) (QQ:=fun Da H'=>D.nx (σ.set i (some (.ref Da))) H') I2 c hc hg ht he T st2 fk2 h3 fun Da C H' s' hC hl ns fr I' q=>?_
 obtain⟨m,hn⟩:=ns;refine wpAny_assign_Name (oH I' hN hy (.inl ly) (v:=.ref Da) rfl (fun s3 I3 ⟨a,hsa,ha⟩=>?_) (.inr ly))
 have nC:C≠a:=by
  rcases ha with z|z
  ·rw[z];exact(I2.fpOk hC fr).2.1
  ·exact fun w'=>(I2.fpOk hC fr).2.2.2.2.1 y a z w'.symm
 refine⟨m,hn.sameBut hsa nC,fun h' hs'=>⟨_,H',I3.turned (t':=s3.toks) (fun b o hb e=>(hs'.2 b hb).trans e) fr (I2.fpOk hC fr).2.1 (I2.fpOk hC fr).2.2.2.1 (I2.fpOk hC fr).2.2.2.2.1 (I2.fpOk hC fr).2.2.2.2.2,q⟩⟩
end
section
variable{K:Fg}{tc:TT}{te:TE}{σ:St}{Q:VK}{H:Hp}
theorem He{wi:TI}(h:wi σ H fun J H1=>qK J n g tc te σ Q H1):gE wi n g tc te σ H Q:=h
noncomputable def NA(n i:Nat)(Pv:Nat->Hp->Prop):Hp->Prop:=fun H2=>∃m',m'<n-i/\m'=n-(i+1)/\i+1<=n/\Pv (i+1) H2
noncomputable def HJ(g:TG)(n:Nat)(tc:TT)(te:TE)(σ:St)(v:V)(H:Hp)(D:Addr)(m i:Nat)(Pv:Nat->Hp->Prop):Prop:=∀us:St,us.length=n->g v (us ++ σ) H fun σ2 H2=>(∃Y2:St,Y2.length=n/\σ2=Y2 ++ σ)/\tc σ2 H2 fun b H3=>if b=true then te σ2 H3 (oz D m i Pv) else NA m i Pv H3
theorem fE{n i:Nat}{Pv:Nat->Hp->Prop}(hi:i<n)(h:Pv (i+1) H2):NA n i Pv H2:=⟨n-(i+1),by lia,rfl,hi,h⟩
end
section
variable{K:Fg}{te:TE}{σ:St}{Q:VK}{H:Hp}
theorem KB{bs:List Bool}(e:SqL K H a (bs.map V.bl))(h:Q (.bl (bs.all id)) H):Gi K [.ref a] H Q:=⟨a,bs,rfl,e,h⟩
theorem DM{D:Addr}{n i:Nat}{Pv:Nat->Hp->Prop}(hn:n<=1000)(hi:i<n)(hP:∀j H3,Pv j H3↔AccZ K H0 D H3 ((PM j b).map U6))(A:Pv i H2)(S:Same H2 H3):oz D n i Pv (.bl b) H3:=by
 have A2:=((hP i H2).mp A).on S;refine aR hi (A2.ci (.bl b) (by rw[NQ,P4,show sizeLine=16777216 by decide];lia) fun H4 A4=>?_);rw[hP,List.replicate_succ',N1];exact A4
theorem AccZ.bls{bs:List Bool}(A:AccZ K H0 l H (bs.map U6)):SqL K H l (bs.map V.bl):=by
 obtain⟨xs,h1,h2⟩:=A.at_
 have:∀{vs:List V} {bs:List Bool},RzL K H vs (bs.map U6)->vs=bs.map V.bl:=by
  intro vs bs
  induction bs generalizing vs with
  |nil=>intro h;cases h;rfl
  |cons b bs ih =>
   intro h;cases h with
   |cons h1 h2 =>
    cases h1;rw[ih h2];rfl
 rw[this h2] at h1;exact SqL.of h1
end
end L2
namespace Gd
noncomputable def gd(a b:Int):Int:=(WT a b:Nat)
theorem zQ(a b:Int):gd b (WU a b)=gd a b:=by
 unfold gd
 have e:WU a b=a+b*(-(VW a b)):=by
  rw[WV,RZ];lia
 rw[e,Int.gcd_add_mul_left_right,Int.gcd_comm]
theorem zS{b:Int}(h:b≠0):(WU a b).natAbs<b.natAbs:=by
 rcases (by lia:0<b\/b<0) with p|p
 ·have h1:=Vm a p;have h2:=WA a p;lia
 ·have e:WU a b = -(WU (-a) (-b)):=by
   rw[WV,WV,Int.neg_fdiv_neg];rw[Qg];lia
  have h1:=Vm (-a) (b:=-b) (by lia);have h2:=WA (-a) (b:=-b) (by lia);lia
theorem Hk(a:Int):gd a 0=(a.natAbs:Int):=by
 unfold gd;rw[Int.gcd_zero_right]
theorem EV(a:Int):(if a<0 then -a else a)=gd a 0:=by
 rw[Hk];split <;> lia
theorem vb{b:Int}(h:b≠0):0<gd a b:=by
 unfold gd
 have:WT a b≠0:=fun e=>h (Int.gcd_eq_zero_iff.mp e).2
 lia
theorem zR(a b:Int):0<=gd a b:=Ut _
theorem KN{b:Int}(h:b≠0):gd a b<=(b.natAbs:Int):=by
 unfold gd
 have:=Int.gcd_le_natAbs_right a h
 lia
structure Low (top Z_ q p:Int):Prop where
 pos:0<p
 low:gd q p=1
 worth:q*Z_=top*p
theorem zb{b d:Int}(hb:b≠0)(hd:d=gd t b/\0<b\/d = - gd t b/\b<0):Low t b (VW t d) (VW b d):=by
 have gp:=vb (a:=t) hb;have d1:gd t b∣t:=U7 t b;have d2:gd t b∣b:=UK t b;have e1:d∣t:=by rcases hd with⟨e,_⟩|⟨e,_⟩ <;> rw[e];exact d1;exact UL.mpr d1
 have e2:d∣b:=by rcases hd with⟨e,_⟩|⟨e,_⟩ <;> rw[e];exact d2;exact UL.mpr d2
 have d0:d≠0:=by rcases hd with⟨e,_⟩|⟨e,_⟩ <;> lia
 obtain⟨q,rfl⟩:=e1;obtain⟨p,rfl⟩:=e2;rw[Sx _ d0,Sx _ d0];refine⟨?_,?_,?_⟩
 ·rcases hd with⟨e,z⟩|⟨e,z⟩
  ·exact UV z (by lia) |> fun h=>h
  ·have z':0<(-d)*p:=by rw[Qg];lia
   exact UV z' (by lia)
 ·have m:gd (d*q) (d*p)=(d.natAbs:Int)*gd q p:=by
   unfold gd;rw[U8];simp
  have n:gd (d*q) (d*p)=(d.natAbs:Int):=by
   rcases hd with⟨e,z⟩|⟨e,z⟩ <;> lia
  rw[n] at m;have k:(d.natAbs:Int)*gd q p=(d.natAbs:Int)*1:=by lia
  exact QZ (by lia) k
 ·rw[<- OE,O0 q d]
theorem nV{t d:Int}(h:d≠0)(hd:d∣t):(VW t d).natAbs<=t.natAbs:=by
 obtain⟨q,rfl⟩:=hd;rw[Sx _ h,OU];exact Qm _ (by lia)
theorem zd{b d:Int}(hb:b≠0)(hd:d=gd t b/\0<b\/d = - gd t b/\b<0):(VW t d).natAbs<=t.natAbs/\(VW b d).natAbs<=b.natAbs:=by
 have gp:=vb (a:=t) hb;have d1:gd t b∣t:=U7 t b;have d2:gd t b∣b:=UK t b;have d0:d≠0:=by rcases hd with⟨e,_⟩|⟨e,_⟩ <;> lia
 refine⟨nV d0 ?_,nV d0 ?_⟩
 ·rcases hd with⟨e,_⟩|⟨e,_⟩ <;> rw[e];exact d1;exact UL.mpr d1
 ·rcases hd with⟨e,_⟩|⟨e,_⟩ <;> rw[e];exact d2;exact UL.mpr d2
end Gd
namespace Fr
open PySem L2
noncomputable def ko:Sp:=fun vs H Q _=>∃a b:Int,vs=[.int a,.int b]/\Q (.int (Gd.gd a b)) H
noncomputable def Ij:TS:=(am (fV (aH (aq kP (aa 1) (tC (.int 0))))
 (am (av (aq Cr (aa 0) (aa 1)) (ak 2))
 (am (av (aa 1) (ak 0))
 (av (aa 2) (ak 1)))))
 (aA (aZ Cu (ac (aa 0) ae))))
theorem IK(a b:Int)(H:Hp)(D:cx)(k:D.rt (.int (Gd.gd a b)) H):Ij D [some (.int a),some (.int b),none] H:=by
 refine gD (fun σ H'=>H'=H/\∃(i j:Int) (v:Option V),σ=[some (.int i),some (.int j),v]/\Gd.gd i j=Gd.gd a b)
  (fun σ _=>match σ with | [_,some (.int j),_]=>j.natAbs|_=>0) ⟨rfl,a,b,none,rfl,rfl⟩ ?_ ?_
 ·rintro σ H' ⟨rfl,i,j,v,rfl,e⟩;refine⟨_,rfl,rfl,_,rfl,KF (fun hj=>?_) (fun hj=>?_)⟩
  ·refine⟨_,rfl,_,rfl,_,_,rfl,rfl,hj,_,rfl,_,rfl,⟨rfl,j,i.fmod j,_,rfl,(Gd.zQ i j).trans e⟩,?_⟩;exact Gd.zS hj
  ·subst hj;refine⟨_,rfl,_,rfl,?_⟩;rw[Gd.EV,e];exact k
 ·rintro σ H' R R' h ⟨v,e,sc,c,ec,q⟩;exact⟨v,e,sc,c,ec,h _ _ q⟩
open PySem.W (Dat kqdOk)
noncomputable def cellOf(ns:List Int)(k:Int):Int:=(ns[k.toNat]?).getD 0
noncomputable def i7(K:Fg):Sp:=fun vs H Q _=>∃(a:Addr) (ns:List Int) (k:Int),vs=[.ref a,.int k]/\SqL K H a (ns.map V.int)/\0<=k/\Q (.int (cellOf ns k)) H
noncomputable def Ik(K:Fg):TS:=(am (aI (aH (aq Cs (aa 1) (aZ (bM K) (ac (aa 0) ae))))
 (aA (aq (bX K) (aa 0) (aa 1)))
 aO)
 (aA (tC (.int 0))))
theorem Ga{K:Fg}{ns:List Int}{k:Int}{D:cx}(hS:SqL K H a (ns.map V.int))(h0:0<=k)(q:D.rt (.int (cellOf ns k)) H):Ik K D [some (.ref a),some (.int k)] H:=by
 have el:(ns.map V.int).length=ns.length:=NQ _;refine⟨_,rfl,_,rfl,a,_,rfl,.inl hS,_,_,rfl,rfl,_,rfl,KG (fun c=>?_) (fun c=>?_)⟩
 ·rw[el] at c;have hk:k.toNat<ns.length:=by lia
  have e:k=((k.toNat:Nat):Int):=by lia
  have z:cellOf ns k=ns[k.toNat]:=by
   unfold cellOf;rw[NR hk];rfl
  have w:tT (ns.map V.int) ((k.toNat:Nat):Int)=some (.int ns[k.toNat]):=aG (by rw[NW];simp[hk]);rw[<- e] at w;rw[z] at q;exact⟨_,rfl,_,rfl,a,_,_,_,rfl,rfl,hS,w,q⟩
 ·rw[el] at c
  have z:cellOf ns k=0:=by
   unfold cellOf;rw[OG (by lia)];rfl
  rw[z] at q;exact q
noncomputable def g6:Sp:=fun vs H Q _=>∃i:Int,vs=[.int i]/\Q (.bl true) H
noncomputable def xp (K:Fg):TS:=(aA (cZ (aZ (bN K) (ac (aa 0) (ac (tC (.ty "int")) ae))) (mn (aZ (bN K) (ac (aa 0) (ac (tC (.ty "bool")) ae))))))
theorem ux{K:Fg}{D:cx}(q:D.rt (.bl true) H):xp K D [some (.int i)] H :=
 ⟨_,rfl,_,_,_,_,rfl,TyOf.int i,J3,_,rfl,we ⟨_,rfl,_,_,_,_,rfl,TyOf.int i,J4,_,rfl,q⟩⟩
end Fr
namespace Kd
end Kd
namespace Ex0
end Ex0
namespace L2
open PySem PySem.SetTable
theorem gP{α:Type}(l:List α)(p:Nat)(x:α)(_hp:p<=l.length):insertAt l.toArray p x=(l.take p++x :: l.drop p).toArray:=by
 unfold insertAt;apply Array.ext';simp[List.extract_eq_take_drop];rw[Oh (by simp)]
theorem vS{t:P7}{l:List Nat}(hp:t.place=l.toArray)(hd:t.dummies = #[]){j:Nat}(h:j∉l):t.slot j=.empty:=by
 unfold P7.slot;rw[hp,hd];show(if l.toArray[below l.toArray j]? == some j then _ else _)=_;rw[if_neg,if_neg]
 ·simp[has,below,below.go]
 ·intro e;exact h (N2 (by simpa using e))
theorem va{α:Type}{l:List α}{p:Nat}(hp:p<=l.length)(x:α)(i:Nat):(l.take p++x :: l.drop p)[i]? = if i<p then l[i]? else if i=p then some x else l[i-1]?:=by
 have ht:(l.take p).length=p:=by rw[Ot];lia
 by_cases h1:i<p
 ·rw[if_pos h1,O5 (by lia),WB,if_pos h1]
 ·rw[if_neg h1,Pj (by lia),ht];by_cases h2:i=p
  ·rw[if_pos h2,h2,Vn];rfl
  ·rw[if_neg h2,show i-p=(i-p-1)+1 by lia,Qh,WC];congr 1;lia
open PySem PySem.Spec PyProof.Rows
open PySem.W (Dat kqdP kqdOk)
section
variable{prog:Oo}{w:OD}{A:O1}{R:VO->N5->Prop}{I:Addr}{fp wr:List Addr}{n:Nat}{P:Nat->NY->Prop}{St:Nat->Heap->Prop}
theorem By(W:Xu prog w A.in1 I fp wr n P St)(S:Addr)(nS:S∉fp)(Z:Nat->Heap->Prop)(zk:∀i h h',Z i h->(∀b o,b∉wr->h.get? b=some o->h'.get? b=some o)->Z i h')
  (za:∀i v (s:N5) (Q:Bool->N5->Prop) (E:NY->N5->Prop),i<n->P i v->Z i s.heap->(∀r h' tk,Z (i+1) h'->(∀b,b≠S->h'.get? b=s.heap.get? b)->Q r {s with heap:=h',toks:=tk})->wpAny (model prog w) A.in1 (setAdd S v) Q E s) :
  ∀(k i:Nat) (s:N5),n-i=k->i<=n->St i s.heap->Z i s.heap->(∀h' tk,Z n h'->(∀b o,b∉S :: wr->s.heap.get? b=some o->h'.get? b=some o)->R (.ok (.ret .none)) {s with heap:=h',toks:=tk}) ->
   codeAny (model prog w) A (.builtin "set.update.loop" ⟨[.ref S,.ref I],[]⟩) R s:=by
 have nw:S∉wr:=fun h=>nS (W.sub _ h)
 intro k
 induction k with
 |zero =>
  intro i s hk hi hst hz hR;obtain rfl:i=n:=by lia
  refine RK U9 ?_;rw[Q7 SN _];refine(show wpAny _ A.in1 (pyNext (.ref I) >>= _) _ _ s from NU (W.done s _ _ hst fun h' tk hm=>?_));refine(show wpAny _ A.in1 (ret P1) _ _ _ from Oc (hR h' tk (zk _ _ _ hz hm) fun b o hb e=>hm b o (fun z=>hb (NZ _ z)) e))
 |succ k ih =>
  intro i s hk hi hst hz hR;have Ad:i<n:=by lia
  refine RK U9 ?_;rw[Q7 SN _];refine(show wpAny _ A.in1 (pyNext (.ref I) >>= _) _ _ s from NU (W.item i s _ _ Ad hst fun v h' tk hP hst' hm=>?_));refine(show wpAny _ A.in1 (holding [v] (setAdd S v) >>= _) _ _ _ from NU (TF (za i v _ _ _ Ad hP (zk _ _ _ hz hm) fun r h2 tk2 z2 k2=>?_)));refine Oc ⟨UW SN _,ih (i+1) _ (by lia) Ad (W.frame _ _ _ hst' fun b hb o e=>?_) z2 fun h3 tk3 z3 k3=>hR h3 tk3 z3 fun b o hb e=>?_⟩
  ·exact(k2 b fun z=>nS (z ▸ hb)).trans e
  ·refine k3 b o hb ((k2 b fun z=>hb (z ▸ NX)).trans (hm b o (fun z=>hb (NZ _ z)) e))
end
namespace F
theorem sub_tuple_set:isSubtype (.type "tuple") (.type "set")=pure false:=by rw[S_];kernel_rfl
theorem sub_tuple_frozenset:isSubtype (.type "tuple") (.type "frozenset")=pure false:=by rw[S_];kernel_rfl
end F
section
variable{prog:Oo}{w:OD}{A:O1}{E:NY->N5->Prop}{s:N5}
theorem Kn.walks(k:Kn)(hh:A.handled=none)(I ax:Addr)(YU:ax≠I)(items:Array NY):Xu prog w A I [I,ax] [I] items.size (fun i v=>items[i]?=some v) (fun i h=>k.it h I ax i/\k.seq h ax items):=by
 cases k
 ·exact Xu.list hh I ax YU items
 ·exact Xu.tuple hh I ax YU items
noncomputable def um (led:Bool):Obj:={cls:=.type "set",dict:=none,data:=.set #[] 0 (.fresh 0 0 led)}
end
theorem K7:bootBuiltins "set"=some (.type "set"):=by decide +kernel
open PySem PySem.Spec PyProof.Rows PySem.SetTable
noncomputable def HR(K:Fg)(a:Addr):It :=
 ⟨fun i H=>∃xs,SqL K H a xs/\i<xs.length,fun i H v H'=>∃T x,H T=none/\v=.ref T/\H'=upd H T (.tup [.int i,x])/\∀xs,SqL K H a xs->xs[i]?=some x,fun i H=>∃xs,SqL K H a xs/\xs.length<=i⟩
theorem wL{K:Fg}{x1}{a e it:Addr}(n1:e≠it)(n2:a≠it) :
  qI P w K (.Tuple elts x1 pos) (HR K a) [e,it] e (fun i h=>(∃old,IsEnum h e it (i:Int) old)/\h.IsListIter it a i) where
 mem:=by simp
 obj:=fun i h ⟨⟨old,he⟩,t⟩ c hc=>by
  simp only[Od,OY,or_false] at hc;rcases hc with rfl|rfl
  ·exact⟨_,he,fun v q=>by cases (show Xs _=V6 v from q)⟩
  ·obtain⟨o,ho,_,d⟩:=t;exact⟨o,ho,fun v q=>by rw[d] at q;cases q⟩
 keep:=fun i h h' ⟨⟨old,he⟩,t⟩ kp=>⟨⟨old,kp e (by simp) _ he⟩,t.at fun o z=>kp it (by simp) o z⟩
 item:=by
  intro X hP hw hK hc i ν s σ H E I hf ⟨⟨old,he⟩,t⟩ hg;subst hP hw hK;obtain⟨xs,q1,l1⟩:=hg;obtain⟨dk,r1,p,_⟩:=I.list q1;obtain⟨u1,e1,ru1⟩:=r1.get (NR l1);refine wpAny_pyNext_enum_item he t p.isList (x:=u1) (by simpa using e1) n1 fun h' he' t' hT sz all=>⟨_,rfl,?_⟩
  refine wpAny_letOwnedTupleGo_enum (s:={s with heap:=h',toks:=s.toks+1}) he' fun h2 he2 sb=>?_
  have hfr:H s.heap.objs.size=none:=I.hok.fresh (N4 _)
  have nT:∀c∈[e,it],c≠s.heap.objs.size:=fun c Yz=>by
   simp only[Od,OY,or_false] at Yz;rcases Yz with rfl|rfl
   ·exact Ou (Op he)
   ·obtain⟨o,ho,_⟩:=t;exact Ou (Op ho)
  have I1:Inv X ν σ (upd H s.heap.objs.size (.tup [.int i,xs[i]])) {s with heap:=s.heap.push {cls:=.type "tuple",data:=.seq #[.int i s.toks,u1]}} :=
   I.laid (t':=s.toks) (fun b u z=>N3 _ z) (N4 _) ⟨aQ,[.int i s.toks,u1],.cons ⟨_,rfl⟩ (.cons ru1 .nil),TupD.new _ _⟩
  have I2:Inv X ν σ (upd H s.heap.objs.size (.tup [.int i,xs[i]])) {s with heap:=h2,toks:=s.toks+1}:=Inv.lU (s:={s with heap:=s.heap.push {cls:=.type "tuple",data:=.seq #[.int i s.toks,u1]}}) (t':=s.toks+1) (fp:=[e,it]) I1 (fun c o Yz z=>by
   have c1:c≠e:=fun x=>Yz (by simp[x])
   have c2:c≠it:=fun x=>Yz (by simp[x])
   rcases VU z with⟨ec,eo⟩|z
   ·rw[ec,eo];exact sb.extBut _ _ (nT e (by simp)).symm hT
   ·exact sb.extBut _ _ c1 (all c o c1 c2 z)) fun c Yz=>⟨by rw[aB (nT c Yz)];exact(hf c Yz).1,(hf c Yz).2⟩
  exact⟨.ref s.heap.objs.size,_,I2,rfl,⟨s.heap.objs.size,xs[i],hfr,rfl,rfl,fun zs hz=>by rw[I.nu hz q1,NR l1]⟩,⟨⟨_,he2⟩,t'.at fun o z=>sb.extBut _ _ n1.symm z⟩,fun c Yz=>by rw[aB (nT c Yz)];exact(hf c Yz).1⟩
 done:=by
  intro X hP hw hK hc i ν s σ H E I hf ⟨⟨old,he⟩,t⟩ hg;subst hP hw hK;obtain⟨xs,q1,le⟩:=hg;obtain⟨dk,r1,p,_⟩:=I.list q1;have e1:=r1.length;exact wpAny_pyNext_enum_end (I.ok.hd hc) he t p.isList (by simp;lia) fun h' all=>⟨rfl,I.lU (t':=s.toks) (fun c o Yz z=>all c o (fun x=>Yz (by simp[x])) z) hf⟩
 self:=fun _ _ _ _ _ st q=>let ⟨⟨_,he⟩,_⟩:=st;wpAny_pyIter_enum he q
noncomputable def jR(K:Fg)(ta:TA):TI:=fun σ H R=>ta σ H fun vs H1=>∃a xs,vs=[.ref a]/\SqL K H1 a xs/\R (HR K a) H1
theorem qG:bootBuiltins "enumerate"=some (.type "enumerate"):=by decide +kernel
section
variable{X:Cx}
theorem Gy{x:Expr} {ta:TA}  {x1} {p pos:Pos} (hg:Gl X "enumerate") (hm:X.mg "enumerate"=none) (ha:PA X [x] ta) (hs:starEach [x] X.env=[(false,eval x X.env)]:=by rfl) :
  PI X (.Tuple elts x1 tp) (.Call (.Name "enumerate" p) [x] [] pos) (jR X.K ta):=by
 intro ν s σ H R I h;refine Call_ (f7 I hg hm qG (Pu (bg (ha pos ν s σ H _ I h) fun us s1 ⟨vs,H1,I1,r1,q1⟩=>?_) (by rw[hs];rfl) (by rfl)));obtain⟨a,xs,e,sq,q⟩:=q1;subst e;obtain⟨u1,rfl,ra⟩:=vals1 r1;cases ra;obtain⟨dk,rv,p1,_⟩:=I1.list sq;have lt:a<s1.heap.objs.size:=by obtain⟨_,z,_⟩:=p1.isList;exact Op z
 refine call_enumerate_list p1.isList fun h' he t sz kp=>?_
 refine wpAny_pyIter_enum (s:={s1 with heap:=h'}) he ?_;refine⟨s1.heap.objs.size+1,[s1.heap.objs.size+1,s1.heap.objs.size],_,_,H1,rfl,I1.kept (t':=s1.toks) kp,wL (Nat.succ_ne_self _) (Ou lt),⟨⟨_,he⟩,t⟩,fun c hc=>?_,q⟩
 have le2:s1.heap.objs.size<=c:=by
  simp only[Od,OY,or_false] at hc;rcases hc with rfl|rfl
  ·exact UD _
  ·exact N4 _
 exact I1.fpOk le2 (I1.hok.fresh le2)
end
section
variable{K:Fg}{te:TE}{tc:TT}{σ:St}{Q:VK}{H:Hp}{D:cx}
theorem Kt{ta:TA}{R:It->Hp->Prop}(h:ta σ H fun vs H1=>∃a xs,vs=[.ref a]/\SqL K H1 a xs/\R (HR K a) H1):jR K ta σ H R:=h
theorem fK{xs:List V}{g:TG}{tb:TS}(Pv:Nat->St->Hp->Prop)(h0:Pv 0 σ H)(hl:∀i σ H,i<=xs.length->Pv i σ H->SqL K H a xs)
  (hs:∀i x σ H T,xs[i]?=some x->Pv i σ H->H T=none->g (.ref T) σ (upd H T (.tup [.int i,x])) fun σ2 H2=>tb {D with nx:=Pv (i+1),ct:=Pv (i+1),bk:=D.nx} σ2 H2) (hd:∀σ H,Pv xs.length σ H->D.nx σ H):wE (HR K a) g tb D σ H:=by
 refine⟨fun i m σ H=>m=xs.length-i/\i<=xs.length/\Pv i σ H,⟨_,rfl,OR _,h0⟩,?_⟩;rintro i m σ H ⟨rfl,hi,p⟩;have q:=hl i σ H hi p;by_cases Ad:i<xs.length
 ·refine .inr ⟨⟨xs,q,Ad⟩,Pv (i+1),fun σ' H' p'=>⟨xs.length-(i+1),by lia,rfl,Ad,p'⟩,fun v H' y=>?_⟩;obtain⟨T,x,nT,rfl,rfl,z⟩:=y;exact hs i x σ H T (z xs q) p nT
 ·have e:i=xs.length:=by lia
  subst e;exact .inl ⟨⟨xs,q,N4 _⟩,hd σ H p⟩
end
noncomputable def Gg:R2:=fun x y H Q=>∃z i,x=.str z/\y=.int i/\(i=0\/i=1)/\Q (.str (if i=0 then U1 else z)) H
section
variable{X:Cx}
theorem GH:f_ X (binaryOp .Mult) Gg:=by
 intro ν s σ H x y v u Q I rx ry h;obtain⟨z,i,rfl,rfl,hi,q⟩:=h;obtain⟨t,rfl⟩:=rx;obtain⟨t',rfl⟩:=ry;rcases hi with rfl|rfl
 ·exact P.mul_str_none (by decide) (by decide) ⟨.str U1,H,I.tok _,⟨_,rfl⟩,q⟩
 ·refine P.mul_str (by decide) (fun _ e=>by simp at e) (fun _ e=>by simp at e) ?_;rw[if_neg (by decide),if_pos (by simp)];exact⟨.str z,H,I,⟨_,rfl⟩,q⟩
theorem Kf{Q:VK}{z:Str}{i:Int}(hi:i=0\/i=1)(q:Q (.str (if i=0 then U1 else z)) H):Gg (.str z) (.int i) H Q:=⟨z,i,rfl,rfl,hi,q⟩
end
open PySem.W (Dat kqdOk kqdP kqdPs)
noncomputable def uA(K:Fg):V->List V->Hp->VK->Prop:=fun x xs H Q=>∃(a:Addr) (y:V) (ds:List Dat) (d:Dat) (j:Nat),x=.ref a/\xs=[y]/\Rep K H y d/\Rep K H (.ref a) (.list ds)/\(∀e∈ds,kqdOk 8 e=true)/\kqdOk 8 d=true/\ds[j]?=some d/\(∀m,m<j->ds[m]?≠some d)/\ds.length<=1000/\Q (.int j) H
open Classical in
theorem vk(he:kqdOk 8 e=true)(hd:kqdOk 8 d=true):Ru (kqdP e) (kqdP d)=decide (d=e):=by
 have h:=tU (ds:=[e]) (d:=d) (fun x hx=>by rw[N7.mp hx];exact he) hd;rw[kqdPs,kqdPs,UR,List.any_nil,X7] at h;rw[h];by_cases z:d=e
 ·simp[z]
 ·simp[z]
theorem jK:∀{ds:List Dat} {i:Nat},(kqdPs ds)[i]? = (ds[i]?).map kqdP
 |[],i=>by rw[kqdPs];simp
 |d :: ds,0=>by rw[kqdPs];rfl
 |d :: ds,i+1=>by rw[kqdPs,Qh,Qh,jK]
theorem jJ:∀ds:List Dat,(kqdPs ds).length=ds.length
 |[]=>by rw[kqdPs];rfl
 |d :: ds=>by rw[kqdPs,Oz,Oz,jJ]
open Classical in
theorem C0{X:Cx} (hu:X.A.units+64<cLine):LU X "list.index" (uA X.K):=by
 intro ν s σ H x xs v us Q I rx rv h;obtain⟨a,y,ds,d,j,rfl,rfl,hd,he,ka,kd,e1,e2,ln,q⟩:=h;obtain⟨u,rfl,ru⟩:=vals1 rv;obtain⟨as,ra⟩:=Rep.reads I hd ru;obtain⟨bs,rb⟩:=Rep.reads I he rx;rw[kqdP] at rb;cases rx;generalize hp:kqdPs ds=ps at rb;cases rb with
 |@list _ o dk n _ _ h1 h2 h3 h4 =>
  obtain⟨c,dct,dt,sl⟩:=o;replace h2:c=.type "list":=h2;replace h3:dt=.seq dk n:=h3;subst h2 h3;have ZQ:UM ps=true:=by rw[<- hp];exact(Tt ka).1
  have Zw:=WD ps _ _ ZQ h4;have lj:j<ds.length:=(NT.mp e1).1
  have at_:∀m (hm:m<dk.size),Ru (Q8 s.heap dk[m]) (kqdP d)=decide (ds[m]?=some d):=by
   intro m hm;have g:(dk.toList.map (Q8 s.heap))[m]?=some (Q8 s.heap dk[m]):=by rw[NW,OI,Array.getElem?_eq_getElem hm];rfl
   rw[Zw,<- hp,jK] at g;obtain⟨e,ge,gp⟩:=N8.mp g;rw[<- gp,vk (ka e (N2 ge)) kd,ge];by_cases z:d=e
   ·simp[z]
   ·have:e≠d:=fun w=>z w.symm
    simp[z,this]
  have szl:dk.size=ds.length:=by
   have:=congrArg QD Zw
   rw[NQ,OJ,<- hp] at this;rw[this,jJ]
  have hm:wpAny (model X.prog X.w) X.A (call (.builtin "list.index") [.ref a,u]) (EP X ν σ Q) X.xe s:=by
   refine Tq F.slot_list_index ⟨_,h1,rfl⟩ F.entry_list_index (F.args_list_index_2 _ _) (SeqAt.list_indexAt a dk n dct sl u (fun y=>Ru (Q8 s.heap y) (kqdP d)) j (by lia) (by lia) ?_ ?_) ⟨h1,Xn h4 ra ZQ (QI 8 d kd).1 ?_,⟨.int j,H,I.tok _,⟨_,rfl⟩,q⟩⟩
   ·rw[at_ j (by lia),e1];simp
   ·intro m hm hmj;rw[at_ m hm];exact decide_eq_false (e2 m hmj)
   ·have l:=(QI 8 d kd).2
    have:=Ts (SG ps) (kqdP d).depth
    lia
  exact hm
theorem zz{K:Fg}{Q:VK}{j:Nat}(hd:Rep K H y d)(he:Rep K H (.ref a) (.list ds))(ka:∀e∈ds,kqdOk 8 e=true)(kd:kqdOk 8 d=true)(e1:ds[j]?=some d)(e2:∀m,m<j->ds[m]?≠some d)(l:ds.length<=1000)(q:Q (.int j) H):uA K (.ref a) [y] H Q :=
 ⟨a,y,ds,d,j,rfl,rfl,hd,he,ka,kd,e1,e2,l,q⟩
section
variable{K:Fg}{σ:St}{Q:VK}{H:Hp}{td ty:TE}{D:cx}
theorem Kv(h:td σ H fun x H1=>ty σ H1 fun y H2=>∃a v,x=.ref a/\DGet H2 a y (some v)/\Q v H2):rO td ty σ H Q:=h
theorem Dg(h:ty σ H fun y H1=>td σ H1 fun x H2=>∃a o,x=.ref a/\DGet H2 a y o/\Q (.bl (!o.isSome)) H2):rN ty td σ H Q:=h
theorem Hc(h:td σ H fun x H1=>∃a,x=.ref a/\No H1 a/\ty σ H1 fun y H2=>∃o,DGet H2 a y o/\Q (o.getD .non) H2):xt td ty σ H Q:=h
end
section
variable{K:Fg}{te:TE}{tc:TT}{σ:St}{Q:VK}{H:Hp}
theorem fM{xs:List V}(h:∀D,H D=none->∃Pv:Nat->Hp->Prop,Pv 0 (upd H D (.lst []))/\(∀i H2,i<=xs.length->Pv i H2->SqL K H2 a xs)/\(∀i x H2,xs[i]?=some x->Pv i H2->HI g n te σ x H2 D xs.length i Pv)/\∀H2,Pv xs.length H2->Q (.ref D) H2):wA (tY K a) n g te σ Q H:=by
 intro D nD;obtain⟨Pv,h0,hl,hs,hd⟩:=h D nD;refine⟨fun i m H=>m=xs.length-i/\i<=xs.length/\Pv i H,⟨_,rfl,OR _,h0⟩,?_⟩;rintro i m H ⟨rfl,hi,p⟩;have q:=hl i H hi p;by_cases Ad:i<xs.length
 ·refine .inr ⟨⟨xs,xs[i],q,NR Ad⟩,fun v H' y us hu=>?_⟩;obtain⟨rfl,z⟩:=y;exact hs i v _ (z xs q) p us hu
 ·have e:i=xs.length:=by lia
  subst e;exact .inl ⟨⟨xs,q,N4 _⟩,hd H p⟩
theorem ig{xs:List V}(h:∀D,H D=none->∃Pv:Nat->Hp->Prop,Pv 0 (upd H D (.lst []))/\(∀i H2,i<=xs.length->Pv i H2->SqL K H2 a xs)/\(∀i x H2,xs[i]?=some x->Pv i H2->HJ g n tc te σ x H2 D xs.length i Pv)/\∀H2,Pv xs.length H2->Q (.ref D) H2):qK (tY K a) n g tc te σ Q H:=by
 intro D nD;obtain⟨Pv,h0,hl,hs,hd⟩:=h D nD;refine⟨fun i m H=>m=xs.length-i/\i<=xs.length/\Pv i H,⟨_,rfl,OR _,h0⟩,?_⟩;rintro i m H ⟨rfl,hi,p⟩;have q:=hl i H hi p;by_cases Ad:i<xs.length
 ·refine .inr ⟨⟨xs,xs[i],q,NR Ad⟩,fun v H' y us hu=>?_⟩;obtain⟨rfl,z⟩:=y;exact hs i v _ (z xs q) p us hu
 ·have e:i=xs.length:=by lia
  subst e;exact .inl ⟨⟨xs,q,N4 _⟩,hd H p⟩
theorem k8{xs:List V}(h:∀D,H D=none->∃Pv:Nat->Hp->Prop,Pv 0 (upd H D (.lst []))/\(∀i H2,i<=xs.length->Pv i H2->SqL K H2 a xs) /\
  (∀i x H2 T,xs[i]?=some x->Pv i H2->H2 T=none->HJ g n tc te σ (.ref T) (upd H2 T (.tup [.int i,x])) D xs.length i Pv)/\∀H2,Pv xs.length H2->Q (.ref D) H2):qK (HR K a) n g tc te σ Q H:=by
 intro D nD;obtain⟨Pv,h0,hl,hs,hd⟩:=h D nD;refine⟨fun i m H=>m=xs.length-i/\i<=xs.length/\Pv i H,⟨_,rfl,OR _,h0⟩,?_⟩;rintro i m H ⟨rfl,hi,p⟩;have q:=hl i H hi p;by_cases Ad:i<xs.length
 ·refine .inr ⟨⟨xs,q,Ad⟩,fun v H' y us hu=>?_⟩;obtain⟨T,x,nT,rfl,rfl,z⟩:=y;exact hs i x H T (z xs q) p nT us hu
 ·have e:i=xs.length:=by lia
  subst e;exact .inl ⟨⟨xs,q,N4 _⟩,hd H p⟩
end
theorem gW:∀{xs:List V} {us:List NY} (j:Nat),Vals xs us->Vals (xs.eraseIdx j) (us.eraseIdx j)
 |_,_,_,.nil=>.nil
 |_,_,0,.cons _ r=>r
 |_,_,j+1,.cons h r=>.cons h (gW j r)
theorem BK(l:Addr)(items:Array NY)(n:Nat)(x:NY)(e:NY->Bool)(j:Nat)(hj:j<items.size)(hit:e items[j]=true)(Y5:items.size<=sizeLine)(k:Nat) :
  ∀i:Nat,j-i=k->i<=j->(∀m (hm:m<items.size),i<=m->m<j->e items[m]=false)->Meets (Qw.«list.remove.loop» ⟨[.ref l,x,rawInt i],[]⟩)
   (fun A R s=>s.heap.get? l=some {cls:=.type "list",dict:=none,data:=.seq items n,slots:=#[]}/\(∀y,y∈items->Ww A.in1 s y x (e y))/\R (.ok (.ret .none)) {s with heap:=s.heap.update l (Vj fun xs=>xs.eraseIdxIfInBounds j)}):=by
 induction k with
 |zero =>
  intro i hk hij hno prog w A R s h;obtain⟨hp,g,d,tk,os⟩:=s;obtain⟨hl,he,h⟩:=h;have hij':i=j:=by lia
  subst hij';wp_walk using Rh hl;have hi:items[((i:Nat):Int).toNat]?=some items[i]:=by simp[hj]
  rw[hi];refine NU (he _ (WW hj) prog w _ _ ?_);rw[hit];have hz':(items.eraseIdxIfInBounds i).size<=sizeLine+1:=Oi (MeetsSeq.size_erased items _) (UO Y5);wp_walk using(wpAny_updateSeq hl rfl (hz:=Y5) (_hz':=hz')),Rh hl;simpa using h
 |succ k ih =>
  intro i hk hij hno prog w A R s h;obtain⟨hp,g,d,tk,os⟩:=s;obtain⟨hl,he,h⟩:=h;have Ad:i<items.size:=by lia
  wp_walk using Rh hl;have hi:items[((i:Nat):Int).toNat]?=some items[i]:=by simp[Ad]
  have hc:((i:Int)+1)=((i+1:Nat):Int):=by lia
  rw[hi];refine NU (he _ (WW Ad) prog w _ _ ?_);rw[hno i Ad (N4 _) (by lia)];wp_walk;rw[hc];exact⟨UW QW _,RK Uu (by rw[Q7 QW _];exact ih (i+1) (by lia) (by lia) (fun m hm h1 h2=>hno m hm (by lia) h2) prog w A R _ ⟨hl,he,h⟩)⟩
noncomputable def yi(K:Fg):V->List V->Hp->VK->Prop:=fun x ys H Q=>∃(l:Addr) (xs:List V) (y:V) (ds:List Dat) (d:Dat) (j:Nat),x=.ref l/\ys=[y]/\H l=some (.lst xs)/\RepL K H xs ds/\Rep K H y d/\(∀e∈ds,kqdOk 8 e=true)/\kqdOk 8 d=true/\ds[j]?=some d/\(∀m,m<j->ds[m]?≠some d)/\Q .non (upd H l (.lst (xs.eraseIdx j)))
open Classical in
theorem yX{X:Cx} (hu:X.A.units+64<cLine):LU X "list.remove" (yi X.K):=by
 intro ν s σ H x ys v us Q I rx rv h;obtain⟨l,xs,y,ds,d,j,rfl,rfl,hH,rxs,hd,ka,kd,e1,e2,q⟩:=h;cases rx;obtain⟨u,rfl,ru⟩:=vals1 rv;obtain⟨as,ra⟩:=Rep.reads I hd ru;obtain⟨z,dk,n,r,hl,e⟩:=I.lstM hH;obtain⟨bs,rb⟩:=RepL.reads I rxs r;have ZQ:UM (kqdPs ds)=true:=(Tt ka).1;have Zw:=WD (kqdPs ds) _ _ ZQ rb
 have szl:dk.length=ds.length:=by
  have:=congrArg QD Zw
  rw[NQ,jJ] at this;exact this
 have lj:j<ds.length:=(NT.mp e1).1
 have at_:∀m (hm:m<dk.toArray.size),Ru (Q8 s.heap dk.toArray[m]) (kqdP d)=decide (ds[m]?=some d):=by
  intro m hm;have ZK:m<dk.length:=by simpa using hm
  have g:(dk.map (Q8 s.heap))[m]?=some (Q8 s.heap dk.toArray[m]):=by rw[NW,NR ZK];rfl
  rw[Zw,jK] at g;obtain⟨e0,ge,gp⟩:=N8.mp g;rw[<- gp,vk (ka e0 (N2 ge)) kd,ge];by_cases z:d=e0
  ·simp[z]
  ·have:e0≠d:=fun w=>z w.symm
   simp[z,this]
 have Y5:dk.toArray.size<=sizeLine:=by rw[Ov];lia
 have M:Meets (Qw.«list.remove» ⟨[.ref l,u],[]⟩) (fun A R s'=>s'.heap.get? l=some {cls:=.type "list",dict:=none,data:=.seq dk.toArray n,slots:=#[]}/\(∀y,y∈dk.toArray->Ww A.in1 s' y u (Ru (Q8 s.heap y) (kqdP d)))/\R (.ok (.ret .none)) {s' with heap:=s'.heap.update l (Vj fun xs=>xs.eraseIdxIfInBounds j)}):=by
  intro prog w A R s' h;obtain⟨hp,g,d',tk,os⟩:=s';obtain⟨hl',he,h⟩:=h;wp_walk using Rh hl';exact⟨UW QW _,RK Uu (by rw[Q7 QW _];exact BK l dk.toArray n u (fun y=>Ru (Q8 s.heap y) (kqdP d)) j (by simp;lia) (by rw[at_ j (by simp;lia),e1];simp) Y5 _ 0 rfl (OR _) (fun m hm _ h2=>by rw[at_ m hm];exact decide_eq_false (e2 m h2)) prog w A R _ ⟨hl',he,h⟩)⟩
 refine Tq F.slot_list_remove ⟨_,e,rfl⟩ F.entry_list_remove (F.args_list_remove_2 _ _) M ⟨e,Xn (by simpa using rb) ra ZQ (QI 8 d kd).1 ?_,?_⟩
 ·have l:=(QI 8 d kd).2
  have:=Ts (SG (kqdPs ds)) (kqdP d).depth
  lia
 ·refine⟨.non,_,I.lset (its':=dk.eraseIdx j) hH e (by simp) (gW j r) ?_,rfl,q⟩
  have:=List.length_eraseIdx_le dk j
  have e3:=(gW j r).length;have e4:=r.length;lia
theorem fz:∀{ns:List Int} {us:List NY},Vals (ns.map V.int) us->∃l:List (Int×Tok),us=l.map (fun p=>R4 p.1 p.2)/\l.map (·.1)=ns
 |[],_,.nil=>⟨[],rfl,rfl⟩
 |n :: ns,_,.cons r rr=>by
  obtain⟨t,rfl⟩:=r;obtain⟨l,e1,e2⟩:=fz rr;exact⟨(n,t) :: l,by rw[e1];rfl,by rw[<- e2];rfl⟩
noncomputable def IR(K:Fg):List V->Hp->VK->Prop:=fun xs H Q=>∃(a:Addr) (ns:List Int),xs=[.ref a]/\SqL K H a (ns.map V.int)/\ns≠[]/\∀m,m∈ns->(∀x∈ns,x<=m)->Q (.int m) H
noncomputable def Gf(K:Fg):List V->Hp->VK->Prop:=fun xs H Q=>∃(a:Addr) (ns:List Int),xs=[.ref a]/\SqL K H a (ns.map V.int)/\Q (.int ns.sum) H
section
variable{X:Cx}
theorem Az(hc:X.calm=true):dZ X (.builtin "max") (IR X.K):=by
 intro ν s σ H xs us Q I r h;obtain⟨a,ns,rfl,q1,ne,q⟩:=h;obtain⟨u,rfl,ru⟩:=vals1 r;cases ru;obtain⟨dk,rv,p,_⟩:=I.list q1;obtain⟨l,e1,e2⟩:=fz rv
 have hl:s.heap.IsList a (intItems l.toArray):=by
  have:=p.isList
  rw[e1] at this;simpa[intItems] using this
 have ln:l.length=ns.length:=by rw[<- e2,NQ]
 have pos:=Sn.mpr ne;refine max_intList (I.ok.hd hc) hl (by simp;lia) fun v h' tk hv hk=>?_
 obtain⟨t,rfl⟩:=intItems_at hv;obtain⟨h1,h2⟩:=argBest_gt (numAt l.toArray) (l.toArray.size-1);have el:l.toArray.toList.map (·.1)=ns:=by simpa using e2
 refine⟨.int _,H,I.kept (t':=tk) hk,⟨_,rfl⟩,q _ ?_ fun x hx=>?_⟩
 ·rw[XX,el];exact getD_mem (by have h3:l.toArray.size=l.length:=Ov ..;lia)
 ·obtain⟨j,hj,rfl⟩:=mem_getD hx;rw[<- el,<- XX];exact h2 j (by have h3:l.toArray.size=l.length:=Ov ..;lia)
theorem Aw(hc:X.calm=true):dZ X (.builtin "sum") (Gf X.K):=by
 intro ν s σ H xs us Q I r h;obtain⟨a,ns,rfl,q1,q⟩:=h;obtain⟨u,rfl,ru⟩:=vals1 r;cases ru;obtain⟨dk,rv,p,_⟩:=I.list q1;obtain⟨l,e1,e2⟩:=fz rv
 have hl:s.heap.IsList a (intItems l.toArray):=by
  have:=p.isList
  rw[e1] at this;simpa[intItems] using this
 refine sum_intListG (I.ok.hd hc) hl fun h' tk t' hk=>⟨.int _,H,I.kept (t':=tk) hk,⟨_,rfl⟩,?_⟩
 rw[preSum_eq,Oh (by simp)];have el:l.toArray.toList.map (·.1)=ns:=by simpa using e2
 rw[el];exact q
theorem K9:bootBuiltins "max"=some (.builtin "max"):=by decide +kernel
theorem K5:bootBuiltins "sum"=some (.builtin "sum"):=by decide +kernel
end
end L2
namespace Rk
noncomputable def pt(r:List Int)(p:Nat):Int:=r.getD p 0
noncomputable def aN:List Int->List (List Int)->Nat->Int
 |a :: as,r :: rs,p=>a*pt r p+aN as rs p
 |_,_,_=>0
noncomputable def bh(R:List (List Int)):Prop:=∀a:List Int,a.length=R.length->(∀p,aN a R p=0)->∀c∈a,c=0
theorem jX(a:List Int)(p:Nat):aN a [] p=0:=by cases a <;> rfl
theorem bY:∀{a:List Int} {R:List (List Int)} (b:List Int) (S:List (List Int)) (p:Nat),a.length=R.length->aN (a++b) (R++S) p=aN a R p+aN b S p
 |[],[],b,S,p,_=>by simp[aN]
 |x :: a,r :: R,b,S,p,h=>by
  have ih:=bY (a:=a) (R:=R) b S p (by simpa using h);show x*pt r p+aN (a++b) (R++S) p=(x*pt r p+aN a R p)+aN b S p;rw[ih,Int.add_assoc]
theorem ce(k:Int):∀(a:List Int) (R:List (List Int)) (p:Nat),aN (a.map fun x=>k*x) R p=k*aN a R p
 |[],R,p=>by cases R <;> simp[aN]
 |x :: a,[],p=>by simp[aN]
 |x :: a,r :: R,p=>by
  have ih:=ce k a R p;show k*x*pt r p+aN (a.map fun x=>k*x) R p=k*(x*pt r p+aN a R p);rw[ih,Px,OE]
theorem split_len{a:List Int}{R S:List (List Int)}(h:a.length=(R++S).length):∃b c,a=b++c/\b.length=R.length/\c.length=S.length:=by
 refine⟨a.take R.length,a.drop R.length,(VE _ _).symm,?_,?_⟩
 ·rw[Ot,h,N6];lia
 ·rw[PX,h,N6];lia
theorem DA{R S:List (List Int)}{r:List Int}:bh (R++r :: S)↔bh (r :: (R++S)):=by
 constructor
 ·intro h a la ha c hc;obtain⟨x,b,rfl⟩:∃x b,a=x :: b:=PJ (by rw[la];simp);obtain⟨b1,b2,rfl,l1,l2⟩:=split_len (a:=b) (R:=R) (S:=S) (by simpa using la)
  have h':=h (b1++x :: b2) (by simp[l1,l2]) fun p=>by
   have e:=ha p;have e':x*pt r p+aN (b1++b2) (R++S) p=0:=e;rw[bY _ _ _ l1] at e';rw[bY _ _ _ l1];show aN b1 R p+(x*pt r p+aN b2 S p)=0;lia
  refine h' c ?_;simp only[Od,N_] at hc ⊢;rcases hc with hc|hc|hc
  ·exact .inr (.inl hc)
  ·exact .inl hc
  ·exact .inr (.inr hc)
 ·intro h a la ha c hc;obtain⟨b1,b,rfl,l1,l⟩:=split_len (R:=R) (S:=r :: S) la;obtain⟨x,b2,rfl⟩:∃x b2,b=x :: b2:=PJ (by rw[l];simp)
  have h':=h (x :: (b1++b2)) (by simp[l1] at l ⊢;lia) fun p=>by
   have e:=ha p;rw[bY _ _ _ l1] at e;have e':aN b1 R p+(x*pt r p+aN b2 S p)=0:=e;show x*pt r p+aN (b1++b2) (R++S) p=0;rw[bY _ _ _ l1];lia
  refine h' c ?_;simp only[Od,N_] at hc ⊢;rcases hc with hc|hc|hc
  ·exact .inr (.inl hc)
  ·exact .inl hc
  ·exact .inr (.inr hc)
noncomputable def fT(by_:List Int)(p:Nat)(r:List Int):List Int:=RA (fun one Bf=>one*pt by_ p-pt r p*Bf) r by_
theorem ir{by_ r:List Int}(h:r.length=by_.length):pt (fT by_ p r) q=pt r q*pt by_ p-pt r p*pt by_ q:=by
 unfold pt fT;rw[NS,RQ,NS (l:=r) (i:=q),NS (l:=by_) (i:=q)];by_cases l:q<r.length
 ·rw[NR l,NR (by lia)];rfl
 ·rw[OG (by lia),OG (by lia)];simp
noncomputable def Wide(w:Nat)(R:List (List Int)):Prop:=∀r∈R,r.length=w
theorem tE{w:Nat}{by_:List Int}{p:Nat}(hb:by_.length=w):∀(a:List Int) (R:List (List Int)) (q:Nat),Wide w R->aN a (R.map (fT by_ p)) q=pt by_ p*aN a R q-aN a R p*pt by_ q
 |[],R,q,_=>by cases R <;> simp[aN]
 |x :: a,[],q,_=>by simp[aN]
 |x :: a,r :: R,q,h=>by
  have ih:=tE (p:=p) hb a R q fun s hs=>h s (NZ _ hs)
  have e:=ir (p:=p) (q:=q) (by_:=by_) (r:=r) (by rw[h r NX,hb]);show x*pt (fT by_ p r) q+aN a (R.map (fT by_ p)) q=pt by_ p*(x*pt r q+aN a R q)-(x*pt r p+aN a R p)*pt by_ q;rw[ih,e,TM,Px,Q9];have e1:x*(pt r q*pt by_ p)=pt by_ p*(x*pt r q):=by rw[<- OE,O0]
  have e2:x*(pt r p*pt by_ q)=x*pt r p*pt by_ q:=by rw[OE]
  lia
theorem DB{w:Nat}{by_:List Int}(hb:by_.length=w)(hR:Wide w R)(n:pt by_ p≠0):bh (by_ :: R)↔bh (R.map (fT by_ p)):=by
 constructor
 ·intro h a la ha;have la':a.length=R.length:=by rw[la,NQ]
  have h':=h ((-aN a R p) :: a.map fun x=>pt by_ p*x) (by simp[la']) fun q=>by
   have e:=ha q;rw[tE hb _ _ _ hR] at e;show -aN a R p*pt by_ q+aN (a.map fun x=>pt by_ p*x) R q=0;rw[ce,Qg];lia
  intro c hc
  have:=h' (pt by_ p*c) (NZ _ (N9.mpr ⟨c,hc,rfl⟩))
  exact(OP.mp this).resolve_left n
 ·intro h a la ha;obtain⟨x,b,rfl⟩:∃x b,a=x :: b:=PJ (by rw[la];simp);have lb:b.length=R.length:=by simpa using la
  have at_:∀q,x*pt by_ q+aN b R q=0:=ha
  have h':=h b (by rw[lb,NQ]) fun q=>by
   rw[tE hb _ _ _ hR];have e1:=at_ q;have e2:=at_ p;have e3:aN b R q = -(x*pt by_ q):=by lia
   have e4:aN b R p = -(x*pt by_ p):=by lia
   rw[e3,e4,RZ,Qg];have e5:pt by_ p*(x*pt by_ q)=x*pt by_ p*pt by_ q:=by rw[<- OE,O0 (pt by_ p) x]
   lia
  have z:aN b R p=0:=by
   have:∀(b:List Int) (R:List (List Int)),(∀c∈b,c=0)->aN b R p=0:=by
    intro b
    induction b with
    |nil=>intro R _;cases R <;> rfl
    |cons c b ih =>
     intro R hc;cases R with
     |nil=>rfl
     |cons r R =>
      show c*pt r p+aN b R p=0;rw[hc c NX,ih R fun d hd=>hc d (NZ _ hd)];lia
   exact this b R h'
  have x0:x=0:=by
   have e:=at_ p;rw[z,PP] at e;exact(OP.mp e).resolve_right n
  intro c hc;rcases Od.mp hc with rfl|hc
  ·exact x0
  ·exact h' c hc
theorem gq{by_ r:List Int}(h:r.length=by_.length):(fT by_ p r).length=by_.length:=by
 unfold fT;rw[T9];lia
noncomputable def HN(by_:List Int):List (List Int)->List (List Int)
 |[]=>[]
 |r :: R=>if r=by_ then R else r :: HN by_ R
noncomputable def ip(st:Nat×List (List Int))(p:Nat):Nat×List (List Int) :=
 match st.2.filter (fun r=>pt r p≠0) with
 |[]=>st
 |by_ :: _=>(st.1+1,(HN by_ st.2).map (fT by_ p))
noncomputable def size(w:Nat)(R:List (List Int)):Nat:=((Oa w).foldl ip (0,R)).1
theorem jh{by_:List Int}:∀{R:List (List Int)},by_∈R->∃A B,R=A++by_ :: B/\HN by_ R=A++B
 |r :: R,m=>by
  unfold HN;by_cases e:r=by_
  ·rw[if_pos e];exact⟨[],R,by rw[e];rfl,rfl⟩
  ·rw[if_neg e];obtain⟨A,B,h1,h2⟩:=jh ((Od.mp m).resolve_left fun z=>e z.symm);exact⟨r :: A,B,by rw[h1];rfl,by rw[h2];rfl⟩
structure LQ (w n p:Nat) (fr:Prop) (st:Nat×List (List Int)):Prop where
 wide:Wide w st.2
 len:st.1+st.2.length=n
 nought:∀r∈st.2,∀q<p,pt r q=0
 free:bh st.2↔fr
theorem Bn{st:Nat×List (List Int)}(I:LQ w n p fr st):LQ w n (p+1) fr (ip st p):=by
 unfold ip;split
 ·rename_i e;refine⟨I.wide,I.len,fun r hr q hq=>?_,I.free⟩;by_cases z:q<p
  ·exact I.nought r hr q z
  ·have eq:q=p:=by lia
   subst eq;by_cases y:pt r q=0
   ·exact y
   ·have:r∈st.2.filter (fun r=>pt r q≠0):=Os.mpr ⟨hr,by simpa using y⟩
    rw[e] at this;cases this
 ·rename_i by_ rest e;have mb:by_∈st.2.filter (fun r=>pt r p≠0):=by rw[e];exact NX
  obtain⟨Zz,mb2⟩:=Os.mp mb;have nb:pt by_ p≠0:=by simpa using mb2
  obtain⟨A,B,h1,h2⟩:=jh Zz;have hb:=I.wide by_ Zz
  have wAB:Wide w (A++B):=fun r hr=>I.wide r (by
   rw[h1]
   rcases N_.mp hr with z|z
   ·exact Oe _ z
   ·exact Ob _ (NZ _ z))
  refine⟨fun r hr=>?_,?_,fun r hr q hq=>?_,?_⟩
  ·obtain⟨s,hs,rfl⟩:=N9.mp hr;rw[h2] at hs;rw[gq (by rw[wAB s hs,hb]),hb]
  ·have:=I.len
   rw[h1] at this;show st.1+1+((HN by_ st.2).map (fT by_ p)).length=n;rw[NQ,h2];simp only[N6,Oz] at this ⊢;lia
  ·obtain⟨s,hs,rfl⟩:=N9.mp hr;rw[h2] at hs
   have ms:s∈st.2:=by
    rw[h1];rcases N_.mp hs with z|z
    ·exact Oe _ z
    ·exact Ob _ (NZ _ z)
   rw[ir (by rw[wAB s hs,hb])];by_cases z:q<p
   ·rw[I.nought s ms q z,I.nought by_ Zz q z];simp
   ·have eq:q=p:=by lia
    subst eq;rw[O0];lia
  ·show bh ((HN by_ st.2).map (fT by_ p))↔fr;rw[h2,<- I.free,h1,DA];exact(DB hb wAB nb).symm
theorem Ec{w n:Nat}{fr:Prop}{st:Nat×List (List Int)}(I:LQ w n 0 fr st):∀k,LQ w n k fr ((Oa k).foldl ip st)
 |0=>I
 |k+1=>by
  rw[Ps,PQ];exact Bn (Ec I k)
theorem Aa(hw:Wide w R)(z:∀r∈R,∀q<w,pt r q=0):bh R↔R=[]:=by
 have zero:∀r∈R,∀q,pt r q=0:=fun r hr q=>by
  by_cases l:q<w
  ·exact z r hr q l
  ·unfold pt;rw[NS,OG (by rw[hw r hr];lia)];rfl
 constructor
 ·intro h;cases R with
  |nil=>rfl
  |cons r R =>
   have all:∀(S:List (List Int)) (a:List Int),(∀r∈S,∀q,pt r q=0)->∀p,aN a S p=0:=by
    intro S
    induction S with
    |nil=>intro a _ p;exact jX a p
    |cons s S ih =>
     intro a hs p;cases a with
     |nil=>rfl
     |cons x a =>
      show x*pt s p+aN a S p=0;rw[hs s NX,ih a (fun r hr=>hs r (NZ _ hr))];lia
   have:=h (1 :: R.map fun _=>0) (by simp) (all (r :: R) _ zero) 1 NX
   cases this
 ·rintro rfl a la _ c hc
  have:a=[]:=Pb.mp la
  rw[this] at hc;cases hc
theorem xS(hw:Wide w R):(size w R=R.length↔bh R)/\size w R<=R.length:=by
 have I:=Ec (w:=w) (n:=R.length) (fr:=bh R) (st:=(0,R)) ⟨hw,by simp,fun r hr q hq=>absurd hq (PD _),Iff.rfl⟩ w;have e:=Aa I.wide I.nought;have l:=I.len;unfold size;refine⟨?_,by lia⟩;rw[<- I.free,e,<- Pb];lia
theorem vw{b:List Int}(h:∀c∈b,c=0):∀(R:List (List Int)) (p:Nat),aN b R p=0:=by
 induction b with
 |nil=>intro R p;cases R <;> rfl
 |cons c b ih =>
  intro R p;cases R with
  |nil=>rfl
  |cons r R =>
   show c*pt r p+aN b R p=0;rw[h c NX,ih (fun d hd=>h d (NZ _ hd))];lia
theorem tF:∀(a b:List Int) (R:List (List Int)) (p:Nat),a.length=b.length->aN (RA (· + ·) a b) R p=aN a R p+aN b R p
 |[],[],R,p,_=>by cases R <;> simp[aN]
 |x :: a,y :: b,[],p,_=>by simp[aN]
 |x :: a,y :: b,r :: R,p,h=>by
  have ih:=tF a b R p (by simpa using h);show(x+y)*pt r p+aN (RA (· + ·) a b) R p=(x*pt r p+aN a R p)+(y*pt r p+aN b R p)
  rw[ih,Q9];lia
theorem kX{S T:List (List Int)}{d:List Int}{c G:Int}(ld:d.length=S.length)(hc:c≠0)(hG:G≠0)(e:∀q,G*pt s q=c*pt r q+aN d S q)(h:bh (S++r :: T)):bh (S++s :: T):=by
 intro a la ha;obtain⟨a1,a',rfl,l1,l'⟩:=split_len la;obtain⟨x,a2,rfl⟩:∃x a2,a'=x :: a2:=PJ (by rw[l'];simp);have l2:a2.length=T.length:=by simpa using l'
 have at_:∀q,aN a1 S q+(x*pt s q+aN a2 T q)=0:=fun q=>by
  have:=ha q
  rw[bY _ _ _ l1] at this;exact this
 have h':=h (RA (· + ·) (a1.map fun y=>G*y) (d.map fun y=>x*y)++(x*c) :: a2.map fun y=>G*y) (by simp[l1,l2,ld]) fun q=>by
  rw[bY _ _ _ (by simp[l1,ld])];show aN (RA (· + ·) (a1.map fun y=>G*y) (d.map fun y=>x*y)) S q+(x*c*pt r q+aN (a2.map fun y=>G*y) T q)=0;rw[tF _ _ _ _ (by simp[l1,ld]),ce,ce,ce];have e1:=at_ q;have e2:=e q;have e3:G*(aN a1 S q+(x*pt s q+aN a2 T q))=0:=by rw[e1,Pz]
  rw[Px,Px] at e3;have e4:G*(x*pt s q)=x*(c*pt r q+aN d S q):=by rw[<- e2,<- OE,<- OE,O0 G x]
  rw[e4,Px] at e3;have e5:x*(c*pt r q)=x*c*pt r q:=by rw[OE]
  lia
 have x0:x=0:=by
  have:=h' (x*c) (Ob _ NX)
  exact(OP.mp this).resolve_right hc
 have a20:∀y∈a2,y=0:=fun y hy=>by
  have:=h' (G*y) (Ob _ (NZ _ (N9.mpr ⟨y,hy,rfl⟩)))
  exact(OP.mp this).resolve_left hG
 have a10:∀y∈a1,y=0:=fun y hy=>by
  obtain⟨i,hi,rfl⟩:=Pa.mp hy
  have m:G*a1[i]+x*d[i]'(by lia)∈RA (· + ·) (a1.map fun y=>G*y) (d.map fun y=>x*y):=by
   refine Pa.mpr ⟨i,by simp;lia,by simp⟩
  have:=h' _ (Oe _ m)
  rw[x0,Qz,PP] at this;exact(OP.mp this).resolve_left hG
 intro y hy;rcases N_.mp hy with z|z
 ·exact a10 y z
 ·rcases Od.mp z with rfl|z
  ·exact x0
  ·exact a20 y z
theorem qm{S T:List (List Int)}{d:List Int}{c G:Int}(ld:d.length=S.length)(hc:c≠0)(hG:G≠0)(e:∀q,G*pt s q=c*pt r q+aN d S q):bh (S++r :: T)↔bh (S++s :: T) :=
 ⟨kX ld hc hG e,kX (d:=d.map fun y=>(-1)*y) (by simp[ld]) hG hc fun q=>by rw[ce];have:=e q;lia⟩
noncomputable def Eqv(F S:List (List Int)):Prop:=∀T,bh (F++T)↔bh (S++T)
theorem Eqv.snoc{d:List Int}{c G:Int}(h:Eqv F S)(ld:d.length=S.length)(hc:c≠0)(hG:G≠0)(e:∀q,G*pt s q=c*pt r q+aN d S q):Eqv (F++[r]) (S++[s]):=fun T=>by
 rw[Pi,Pi,h,Tj,Tj];exact qm ld hc hG e
inductive cw:List (List Int)->List Nat->Prop
 |nil:cw [] []
 |cons {s:List Int} {p:Nat} {S:List (List Int)} {ps:List Nat}:pt s p≠0->(∀t∈S,pt t p=0)->cw S ps->cw (s :: S) (p :: ps)
theorem cw.snoc{s:List Int}{p:Nat}:∀{S:List (List Int)} {ps:List Nat},cw S ps->(∀q∈ps,pt s q=0)->pt s p≠0->cw (S++[s]) (ps++[p])
 |_,_,.nil,_,h=>.cons h (by simp) .nil
 |_,_,.cons (s:=t) (p:=q) h1 h2 r,z,h=>.cons h1 (fun u hu=>by
   rcases N_.mp hu with m|m
   ·exact h2 u m
   ·rw[N7.mp m];exact z q NX) (cw.snoc r (fun q hq=>z q (NZ _ hq)) h)
theorem kM{x:List Int}:∀{S:List (List Int)} {ps:List Nat},cw S ps->(∀q∈ps,pt x q=0)->(bh (S++[x])↔∃q,pt x q≠0)
 |[],[],.nil,_=>by
  constructor
  ·intro h;by_cases z:∃q,pt x q≠0
   ·exact z
   ·have:=h [1] rfl (fun p=>by
     show 1*pt x p+aN [] [] p=0
     have:pt x p=0:=Decidable.byContradiction fun y=>z ⟨p,y⟩
     rw[this];rfl) 1 NX
    cases this
  ·rintro⟨q,hq⟩ a la ha c hc;obtain⟨y,rfl⟩:∃y,a=[y]:=PL.mp la
   have:=ha q
   have e:y*pt x q+0=0:=this;rw[PP] at e;rw[N7.mp hc];exact(OP.mp e).resolve_right hq
 |s :: S,p :: ps,.cons h1 h2 r,z=>by
  have ih:=kM r fun q hq=>z q (NZ _ hq)
  have zp:∀t∈S++[x],pt t p=0:=fun t ht=>by
   rcases N_.mp ht with m|m
   ·exact h2 t m
   ·rw[N7.mp m];exact z p NX
  have nought:∀(b:List Int) (R:List (List Int)),(∀t∈R,pt t p=0)->aN b R p=0:=by
   intro b
   induction b with
   |nil=>intro R _;cases R <;> rfl
   |cons c b ihb =>
    intro R hR;cases R with
    |nil=>rfl
    |cons t R =>
     show c*pt t p+aN b R p=0;rw[hR t NX,ihb R fun t ht=>hR t (NZ _ ht)];lia
  rw[<- ih];constructor
  ·intro h a la ha c hc
   exact h (0 :: a) (by simp[la]) (fun q=>by
    show 0*pt s q+aN a (S++[x]) q=0
    rw[ha q];lia) c (NZ _ hc)
  ·intro h a la ha;obtain⟨y,b,rfl⟩:∃y b,a=y :: b:=PJ (by rw[la];simp);have at_:∀q,y*pt s q+aN b (S++[x]) q=0:=ha
   have y0:y=0:=by
    have:=at_ p
    rw[nought b _ zp,PP] at this;exact(OP.mp this).resolve_right h1
   have:=h b (by simpa using la) fun q=>by
    have:=at_ q
    rw[y0] at this;lia
   intro c hc;rcases Od.mp hc with rfl|hc
   ·exact y0
   ·exact this c hc
structure Clrd (S:List (List Int)) (ps:List Nat) (x x':List Int):Prop where
 made:∃(d:List Int) (c G:Int),d.length=S.length/\c≠0/\G≠0/\∀q,G*pt x' q=c*pt x q+aN d S q
 nought:∀q∈ps,pt x' q=0
 len:x'.length=x.length
theorem Clrd.snoc{z s:List Int}{p:Nat}{g:Int}(h:Clrd S ps x y)(st:cw (S++[s]) (ps++[p]))(lp:S.length=ps.length)(ls:y.length=s.length)(hg:g≠0)(lz:z.length=y.length)(ez:∀q,g*pt z q=pt (fT s p y) q):Clrd (S++[s]) (ps++[p]) x z:=by
 obtain⟨d,c,G,ld,hc,hG,e⟩:=h.made
 have sp:pt s p≠0:=by
  have:∀{S:List (List Int)} {ps:List Nat},cw (S++[s]) (ps++[p])->S.length=ps.length->pt s p≠0:=by
   intro S
   induction S with
   |nil =>
    intro ps st l
    have:ps=[]:=Pb.mp l.symm
    subst this;cases st with
    |cons h _ _=>exact h
   |cons t S ih =>
    intro ps st l;cases ps with
    |nil=>simp at l
    |cons q ps =>
     cases st with
     |cons _ _ r=>exact ih r (by simpa using l)
  exact this st lp
 have s0:∀q∈ps,pt s q=0:=by
  have:∀{S:List (List Int)} {ps:List Nat},cw (S++[s]) (ps++[p])->S.length=ps.length->∀q∈ps,pt s q=0:=by
   intro S
   induction S with
   |nil =>
    intro ps st l q hq
    have:ps=[]:=Pb.mp l.symm
    subst this;cases hq
   |cons t S ih =>
    intro ps st l q hq;cases ps with
    |nil=>simp at l
    |cons q0 ps =>
     cases st with
     |cons _ h2 r =>
      rcases Od.mp hq with rfl|hq
      ·exact h2 s (Ob _ (N7.mpr rfl))
      ·exact ih r (by simpa using l) q hq
  exact this st lp
 have ec:∀q,g*pt z q=pt y q*pt s p-pt y p*pt s q:=fun q=>by rw[ez q,ir ls]
 have zero:∀q,pt y q*pt s p-pt y p*pt s q=0->pt z q=0:=fun q h0=>by
  have:=ec q
  rw[h0] at this;exact(OP.mp this).resolve_left hg
 refine⟨⟨(d.map fun v=>pt s p*v)++[-(G*pt y p)],pt s p*c,G*g,by simp[ld],fun w=>?_,fun w=>?_,fun q=>?_⟩,fun q hq=>?_,by rw[lz,h.len]⟩
 ·rcases OP.mp w with w|w
  ·exact sp w
  ·exact hc w
 ·rcases OP.mp w with w|w
  ·exact hG w
  ·exact hg w
 ·rw[bY _ _ _ (by simp[ld]),ce];show G*g*pt z q=pt s p*c*pt x q+(pt s p*aN d S q+(-(G*pt y p)*pt s q+0))
  have e1:=e q;rw[OE,ec q,TM,PP,Qg];have a1:G*(pt y q*pt s p)=pt s p*(c*pt x q+aN d S q):=by rw[<- e1,<- OE,O0]
  have a2:G*(pt y p*pt s q)=G*pt y p*pt s q:=by rw[OE]
  have a3:pt s p*(c*pt x q+aN d S q)=pt s p*c*pt x q+pt s p*aN d S q:=by rw[Px,OE]
  lia
 ·rcases N_.mp hq with m|m
  ·refine zero q ?_;rw[h.nought q m,s0 q m];simp
  ·rw[N7.mp m];refine zero p ?_;lia
theorem Clrd.start{x:List Int}:Clrd [] [] x x:=⟨⟨[],1,1,rfl,by decide,by decide,fun q=>by simp[aN]⟩,by simp,rfl⟩
theorem Au(E:Eqv F S)(st:cw S ps)(c:Clrd S ps x x'):bh (F++[x])↔∃q,pt x' q≠0:=by
 obtain⟨d,c0,G,ld,hc,hG,e⟩:=c.made;rw[E [x]];rw[qm (T:=[]) ld hc hG e];exact kM st c.nought
end Rk
namespace Dn
end Dn
namespace L2
open PySem PySem.Spec PyProof.Rows
open PySem.W (Dat KasT kas_sort kas_ask KatLex KatTups)
section
variable{X:Cx}
theorem AH:bootBuiltins "sorted"=some (.builtin "sorted"):=by decide +kernel
end
end L2
namespace L2
open PySem PySem.Spec PyProof.Rows
noncomputable def tV(es:Array (Int×NY))(t:P7)(h:Int)(x:NY)(i:Int):Array (Int×NY)×P7 :=
 match es.toList.findIdx? (fun e=>Qp i e.2) with
 |some _=>(es,t)
 |none=>if (!(layNew t es h x).2.2.1 && (layNew t es h x).2.1.tooFull)=true then ((relayAll (layNew t es h x).2.1 (layNew t es h x).1 (Qn (layNew t es h x).1.size)).1,(relayAll (layNew t es h x).2.1 (layNew t es h x).1 (Qn (layNew t es h x).1.size)).2.1)
  else ((layNew t es h x).1,(layNew t es h x).2.1)
section
variable{prog:Oo}{w:OD}{A:O1}{E:NY->N5->Prop}{s:N5}
theorem HB{a:Addr}      {Q:Bool->N5->Prop} (ho:s.heap.get? a=some {cls:=.type "set",dict:=none,data:=.set es ep t,slots:=#[]}) (hf:t.fits es.size=true) (hel:ElemsOf (intKind prog w) es.toList) (hb:es.size+2<scanBound)
  (h:∀h' ep' r tk,Qx a s.heap h'->h'.get? a=some {cls:=.type "set",dict:=none,data:=.set (tV es t (hashInt i) (.int i u) i).1 ep' (tV es t (hashInt i) (.int i u) i).2,slots:=#[]}->Q r {s with heap:=h',toks:=tk}) :
  wpAny (model prog w) A (setAdd a (.int i u)) Q E s:=by
 unfold setAdd;refine TF (NU (wpAny_pyHash_int ?_));unfold setAddHashed setAddHashedIn;refine TF (NU (Ta ho rfl hf ?_));dsimp only;rw[byScan_of (knd:=intKind prog w) (show XE (.int i u)=true from rfl) (by lia) hel];simp only[↓reduceIte];unfold setAddByScan;refine NU (NU (Up (NU (wpAny_setScan_of (knd:=intKind prog w) (k:=i) (show Qp i (.int i u)=true by simp[Qp]) ho rfl hf hel ?_))));unfold tV at h;cases hr:es.toList.findIdx? (fun e=>Qp i e.2) with
 |some j =>
  rw[hr] at h;rw[show(es.toList.findIdx? fun e=>(intKind prog w).is i e.2)=some j from hr];dsimp only;refine Oc (Oc ?_);exact h s.heap ep _ _ (Qx.refl a s.heap) ho
 |none =>
  rw[hr] at h;rw[show(es.toList.findIdx? fun e=>(intKind prog w).is i e.2)=none from hr];dsimp only
  have sz:(layNew t es (hashInt i) (.int i u)).1.size=es.size+1:=by
   have:=(layNew_perm t es (hashInt i) (.int i u)).length_eq
   rw[OJ,OJ,Array.size_push] at this;exact this
  generalize layNew t es (hashInt i) (.int i u)=L at h sz ⊢;obtain⟨es1,t1,wd,gv⟩:=L;dsimp only at h sz ⊢
  have gw:∀(b:Bool) (s₁:N5) (R:Unit->N5->Prop) (m:Bool->Sem Unit),m=(fun b=>match b with|true=>rule "set.scan.the-table-gave-way" | false=>pure ())->R () s₁->wpAny (model prog w) A (m b) R E s₁:=by
   rintro b s₁ R m rfl hq;cases b <;> first|exact Oc hq|exact Up hq
  have fin:∀(s':N5),(∃tk,s' = {s with heap:=s.heap,toks:=tk})->wpAny (model prog w) A (do
    storeSet a es1 t1
    if (!wd && t1.tooFull)=true then do
      (match (relayAll t1 es1 (Qn es1.size)).2.2 with|true=>rule "set.scan.the-table-gave-way" | false=>pure ())
      storeSet a (relayAll t1 es1 (Qn es1.size)).1 (relayAll t1 es1 (Qn es1.size)).2.1
      pure (some true)
     else pure (some true)) (fun r s''=>wpAny (model prog w) A (match r with|some added=>pure added|none=>setAddHashedIn a (.int i u) (hashInt i) 99999) Q E s'') E s':=by
   rintro s' ⟨tk,rfl⟩
   have e1:(s.heap.update a (Uv es1 t1)).get? a=some {cls:=.type "set",dict:=none,data:=.set es1 (ep+1) t1,slots:=#[]}:=by
    have:=Qu (Uv es1 t1) ho (by rw[Xo es1 t1 rfl];rfl)
    rw[Xo es1 t1 rfl] at this;exact this
   refine NU (wpAny_storeSet_of (s:={s with heap:=s.heap,toks:=tk}) ho rfl ?_ (fits_of_scanBound (by lia)));by_cases c:(!wd && t1.tooFull)=true
   ·rw[if_pos c] at h ⊢
    have sz2:(relayAll t1 es1 (Qn es1.size)).1.size=es1.size:=by
     have:=(relayAll_perm t1 es1 (Qn es1.size)).length_eq
     rw[OJ,OJ] at this;exact this
    generalize relayAll t1 es1 (Qn es1.size)=Rl at h sz2 ⊢;obtain⟨es2,t2,gv2⟩:=Rl;dsimp only at h sz2 ⊢
    have e2:((s.heap.update a (Uv es1 t1)).update a (Uv es2 t2)).get? a=some {cls:=.type "set",dict:=none,data:=.set es2 (ep+1+1) t2,slots:=#[]}:=by
     have:=Qu (Uv es2 t2) e1 (by rw[Xo es2 t2 rfl];rfl)
     rw[Xo es2 t2 rfl] at this;exact this
    refine NU (gw gv2 _ _ _ rfl ?_);refine NU (wpAny_storeSet_of (s:={s with heap:=s.heap.update a (Uv es1 t1),toks:=tk}) e1 rfl ?_ (fits_of_scanBound (by lia)));exact Oc (Oc (h _ _ _ _ ((Pm ..).trans (Pm ..)) e2))
   ·rw[if_neg c] at h ⊢;exact Oc (Oc (h _ _ _ _ (Pm ..) e1))
  refine NU (gw gv _ _ _ rfl ?_);split
  ·refine NU ?_;rw[hashByValue_scannable 8 (show XE (.int i u)=true from rfl)];refine Oc ?_;exact fin _ ⟨_,rfl⟩
  ·refine NU (Oc ?_);exact fin _ ⟨_,rfl⟩
end
noncomputable def aD(b:Nat):List Nat:=(Oa 8).filter fun k=>b.testBit k
noncomputable def bz(b k:Nat):Nat:=if (aD b).contains k then b else b+2 ^ k
theorem fH:∀b<256,(aD b).length<=8:=by decide +kernel
theorem nO:∀b<256,∀k<8,bz b k<256:=by decide +kernel
theorem Do:∀b<256,∀k<8,∀j<8,(aD (bz b k)).contains j=((aD b).contains j || j == k):=by decide +kernel
noncomputable def Nw(b k:Nat):Bool:=(aD b).contains k || ((aD b).take (QX (aD b).toArray k)++k :: (aD b).drop (QX (aD b).toArray k) == aD (b+2 ^ k) && QX (aD b).toArray k<=(aD b).length)
theorem IW:∀b<256,∀k<8,Nw b k=true:=by decide +kernel
noncomputable def Nx(b:Nat):Bool:=match WX 31 ((aD b).map fun k:Nat=>(k:Int)).toArray with
 |some o=>((Oa 32).filterMap fun j=>(o.getD j none).map (j,·)) == (aD b).zipIdx
 |none=>false
theorem JZ:∀b<256,Nx b=true:=by decide +kernel
theorem KL:∀k<8,hashInt ((k:Nat):Int)=(k:Int):=by decide +kernel
theorem K1:∀k<8,Wj ((k:Nat):Int) % 8=k/\Wj ((k:Nat):Int) % 32=k:=by decide +kernel
noncomputable def ER(es:Array (Int×NY))(l:List Nat):Prop:=es.size=l.length/\∀(i k:Nat),l[i]?=some k->∃tk,es[i]?=some ((k:Int),.int (k:Int) tk)
structure TR (led:Bool) (t:P7) (b:Nat):Prop where
 place:t.place=(aD b).toArray
 dum:t.dummies = #[]
 led:t.led=led
 plain:t.plain=true
 mask:(t.mask=7/\(aD b).length<=4)\/t.mask=31
theorem TR.fill{led:Bool}(T:TR led t b):t.fill=(aD b).length:=by
 unfold TH;rw[T.place,T.dum];simp
theorem TR.fits{led:Bool}{n:Nat}(T:TR led t b)(hb:b<256)(hn:n=(aD b).length):t.fits n=true:=by
 have l8:=fH b hb;unfold Wk;rw[T.fill,T.place];simp only[Ov,U_,beq_iff_eq,decide_eq_true_eq];rcases T.mask with⟨m,l⟩|m <;> rw[m] <;> lia
theorem ER.elems(R:ER es (aD b))(h8:∀k∈aD b,k<8):ElemsOf (intKind prog w) es.toList:=by
 intro e he;obtain⟨i,li,ei⟩:=Pa.mp he;have l2:i<(aD b).length:=by rw[<- R.1];simpa using li
 obtain⟨tk,et⟩:=R.2 i _ (NR l2);have e2:es.toList[i]?=some e:=by rw[NR li,ei]
 rw[OI] at e2;rw[et] at e2;cases e2;refine⟨⟨((aD b)[i]:Int),by simp[intKind,Qp],?_⟩,rfl⟩;exact(KL _ (h8 _ (OZ l2))).symm
theorem sY(b:Nat):∀k∈aD b,k<8:=fun k hk=>by
 unfold aD at hk;exact Ow.mp (Os.mp hk).1
theorem Dr{k:Nat}(R:ER es l)(h:k∉l):es.toList.findIdx? (fun e=>Qp (k:Int) e.2)=none:=by
 rw[Q0];intro e he;obtain⟨i,li,ei⟩:=Pa.mp he;have l2:i<l.length:=by rw[<- R.1];simpa using li
 obtain⟨tk,et⟩:=R.2 i _ (NR l2);have e2:es.toList[i]?=some e:=by rw[NR li,ei]
 rw[OI,et] at e2;cases e2;have ne:l[i]≠k:=fun z=>h (z ▸ OZ l2)
 have : ¬ ((l[i]:Int)=(k:Int)):=by lia
 simp[Qp,this]
theorem Dp{k:Nat}(R:ER es l)(h:k∈l):∃j,es.toList.findIdx? (fun e=>Qp (k:Int) e.2)=some j:=by
 cases e:es.toList.findIdx? (fun e=>Qp (k:Int) e.2) with
 |some j=>exact⟨j,rfl⟩
 |none =>
  rw[Q0] at e;obtain⟨i,li,ei⟩:=Pa.mp h;obtain⟨tk,et⟩:=R.2 i k (by rw[NR li,ei])
  have:=e ((k:Int),.int (k:Int) tk) (N2 (by rw[OI];exact et))
  simp[Qp] at this
theorem M9{led:Bool}{k:Nat}(T:TR led t b)(hk:k<8)(h:k∉aD b):t.freeSlot (k:Int)=some (k,false):=by
 have ej:(t.probeStart (k:Int)).j=k:=by
  show Wj (k:Int) % (t.mask+1)=k;rcases T.mask with⟨m,_⟩|m <;> rw[m]
  ·exact(K1 k hk).1
  ·exact(K1 k hk).2
 have sl:=vS T.place T.dum h;obtain⟨n,hn⟩:∃n,10*VX t.mask=n+1:=⟨10*VX t.mask-1,by unfold VX;lia⟩
 unfold P7.freeSlot XY;rw[hn];unfold XY.go;rw[ej,sl];rfl
theorem jm{α:Type}:∀l:List α,(Oa l.length).filterMap (fun i=>l[i]?)=l
 |[]=>rfl
 |x :: l=>by
  rw[Oz,List.range_succ_eq_map,Si];show x :: (Yg Nat.succ (Oa l.length)).filterMap (fun i=>(x :: l)[i]?)=x :: l;rw[List.filterMap_map];congr 1;exact jm l
theorem range_all{α:Type}(a:Array α):(Oa a.size).toArray.filterMap (fun x=>a[x]?)=a:=by
 obtain⟨l⟩:=a;apply Array.toList_inj.mp;rw[Array.toList_filterMap];simpa using jm l
theorem Fc(l:List Nat):l.zipIdx.map (·.1)=l:=by simp
theorem Fb(l:List Nat):l.zipIdx.map (·.2)=Oa l.length:=by simp[List.range_eq_range']
theorem HC{led:Bool}{b k:Nat}(hb:b<256)(hk:k<8)(R:ER es (aD b))(T:TR led t b) :
  ER (tV es t (hashInt (k:Int)) (.int (k:Int) u) (k:Int)).1 (aD (bz b k))/\TR led (tV es t (hashInt (k:Int)) (.int (k:Int) u) (k:Int)).2 (bz b k):=by
 rw[KL k hk];have l8:=fH b hb;by_cases h:k∈aD b
 ·obtain⟨j,e⟩:=Dp R h;have ei:bz b k=b:=by unfold bz;rw[if_pos (by simpa using h)]
  unfold tV;rw[e,ei];exact⟨R,T⟩
 ·have ei:bz b k=b+2 ^ k:=by unfold bz;rw[if_neg (by simpa using h)]
  have pk:=IW b hb k hk;unfold Nw at pk;rw[show(aD b).contains k=false by simpa using h,X8,U_,beq_iff_eq,decide_eq_true_eq] at pk;obtain⟨p1,p2⟩:=pk;have l8':=fH (bz b k) (nO b hb k hk);rw[<- ei] at p1
  have ll:(aD (bz b k)).length=(aD b).length+1:=by
   rw[<- p1,N6,Oz,Ot,PX];lia
  generalize hp:QX (aD b).toArray k=p at p1 p2
  have put:t.put k=({t with place:=(aD (bz b k)).toArray,dummies:=#[]},p):=by
   unfold P7.put;rw[T.place,T.dum,hp];dsimp only;rw[gP _ _ _ p2,p1,if_neg (by simp[P7.has,QX,QX.go])]
  have esl:Q_ es p ((k:Int),.int (k:Int) u)=(es.toList.take p++((k:Int),R4 (k:Int) u) :: es.toList.drop p).toArray:=by
   have:=gP es.toList p ((k:Int),R4 (k:Int) u) (by rw[OJ,R.1];exact p2)
   simpa using this
  have R1:ER (Q_ es p ((k:Int),.int (k:Int) u)) (aD (bz b k)):=by
   refine⟨?_,fun i j hj=>?_⟩
   ·rw[esl,ll,<- R.1];simp;lia
   ·rw[esl];rw[<- p1,va p2] at hj;rw[Tk,va (by rw[OJ,R.1];exact p2)];split at hj
    ·rename_i c;rw[if_pos c,OI];exact R.2 i j hj
    ·rename_i c;rw[if_neg c];split at hj
     ·rename_i c2;cases hj;rw[if_pos c2];exact⟨u,rfl⟩
     ·rename_i c2;rw[if_neg c2,OI];exact R.2 _ j hj
  have sz1:(Q_ es p ((k:Int),.int (k:Int) u)).size=(aD (bz b k)).length:=R1.1
  have ft:({t with place:=(aD (bz b k)).toArray,dummies:=#[]}:P7).fits (Q_ es p ((k:Int),.int (k:Int) u)).size=true:=by
   unfold Wk TH;rw[sz1];simp only[Ov,U_,beq_iff_eq,decide_eq_true_eq];refine⟨trivial,?_⟩;show(aD (bz b k)).length+0<=t.mask;rcases T.mask with⟨m,l⟩|m <;> rw[m] <;> lia
  have lay:layNew t es (k:Int) (.int (k:Int) u)=(Q_ es p ((k:Int),.int (k:Int) u),{t with place:=(aD (bz b k)).toArray,dummies:=#[]},false,false):=by
   unfold layNew;rw[M9 T hk h];dsimp only;rw[put];dsimp only;unfold P7.orStandIn;rw[ft];rfl
  unfold tV;rw[Dr R h,lay];dsimp only;generalize Q_ es p ((k:Int),.int (k:Int) u)=es1 at R1 sz1 ft
  have hs:es1.map (·.1)=((aD (bz b k)).map fun k:Nat=>(k:Int)).toArray:=by
   apply Array.ext_getElem?;intro i;simp only[Array.getElem?_map,Tk,NW];by_cases li:i<(aD (bz b k)).length
   ·obtain⟨tk,et⟩:=R1.2 i _ (NR li);rw[et,NR li];rfl
   ·rw[RB (by lia),OG (by lia)];rfl
  by_cases c:(!false && ({t with place:=(aD (bz b k)).toArray,dummies:=#[]}:P7).tooFull)=true
  ·rw[if_pos c]
   have c2:((aD (bz b k)).length+0)*5≥t.mask*3:=by
    have c1:({t with place:=(aD (bz b k)).toArray,dummies:=#[]}:P7).tooFull=true:=by simpa using c
    unfold Xp TH at c1;simpa using c1
   have n5:(aD (bz b k)).length=5:=by
    rcases T.mask with⟨m,l⟩|m <;> rw[m] at c2 <;> lia
   have g20:P7.sizeAbove (Qn es1.size)-1=31:=by rw[sz1,n5];decide
   have lk:=JZ (bz b k) (nO b hb k hk);unfold Nx at lk
   have rel:∃mv,relayAll ({t with place:=(aD (bz b k)).toArray,dummies:=#[]}:P7) es1 (Qn es1.size)=(es1,{mask:=31,place:=(aD (bz b k)).toArray,dummies:=#[],finger:=t.finger,led:=t.led,moves:=mv,plain:=t.plain},false):=by
    cases lc:WX 31 ((aD (bz b k)).map fun k:Nat=>(k:Int)).toArray with
    |none=>rw[lc] at lk;cases lk
    |some o =>
     rw[lc] at lk;have lz:((Oa 32).filterMap fun j=>(o.getD j none).map (j,·))=(aD (bz b k)).zipIdx:=by simpa using lk
     refine⟨({t with place:=(aD (bz b k)).toArray,dummies:=#[]}:P7).movedTo 31,?_⟩;unfold relayAll P7.relaid P7.laid;rw[hs,g20,lc];simp only[Option.bind_eq_bind,Option.bind_some,lz,Fc,Fb];dsimp only[Option.pure_def];have ef:(Oa (aD (bz b k)).length).toArray.filterMap (fun x=>es1[x]?)=es1:=by rw[<- sz1];exact range_all es1
     rw[ef]
     have cv:coversAll (Oa (aD (bz b k)).length).toArray es1.size=true:=by
      unfold coversAll;rw[sz1,n5];rfl
     have ft2:({mask:=31,place:=(aD (bz b k)).toArray,dummies:=#[],finger:=t.finger,led:=t.led,moves:=({t with place:=(aD (bz b k)).toArray,dummies:=#[]}:P7).movedTo 31,plain:=t.plain}:P7).fits es1.size=true:=by
      unfold Wk TH;rw[sz1];simp;lia
     rw[cv,ft2];rfl
   obtain⟨mv,rel⟩:=rel;rw[rel];exact⟨R1,rfl,rfl,T.led,T.plain,.inr rfl⟩
  ·rw[if_neg c]
   have c2 : ¬ ((aD (bz b k)).length+0)*5≥t.mask*3:=fun z=>c (by
    show(true && ({t with place:=(aD (bz b k)).toArray,dummies:=#[]}:P7).tooFull)=true
    unfold Xp TH
    simpa using z)
   refine⟨R1,rfl,rfl,T.led,T.plain,?_⟩;rcases T.mask with⟨m,l⟩|m
   ·refine .inl ⟨m,?_⟩;rw[m] at c2;lia
   ·exact .inr m
structure jZ (led:Bool) (h:Heap) (a:Addr) (b:Nat):Prop where
 b8:b<256
 at_:∃es ep t,h.get? a=some {cls:=.type "set",dict:=none,data:=.set es ep t,slots:=#[]}/\ER es (aD b)/\TR led t b
theorem jZ.keep{led:Bool}{h':Heap}(S:jZ led h a b)(k:∀o,h.get? a=some o->h'.get? a=some o):jZ led h' a b:=by
 obtain⟨es,ep,t,e,r⟩:=S.at_;exact⟨S.b8,es,ep,t,k _ e,r⟩
section
variable{prog:Oo}{w:OD}{A:O1}{E:NY->N5->Prop}{s:N5}
theorem iq{led:Bool}{k:Nat}{Q:Bool->N5->Prop}(S:jZ led s.heap a b)(hk:k<8)(h:∀h' r tk,Qx a s.heap h'->jZ led h' a (bz b k)->Q r {s with heap:=h',toks:=tk}) :
  wpAny (model prog w) A (setAdd a (.int (k:Int) u)) Q E s:=by
 obtain⟨es,ep,t,e,R,T⟩:=S.at_;have l8:=fH b S.b8;have sb:scanBound=4096:=rfl;refine HB e (T.fits S.b8 R.1) (R.elems (sY b)) (by rw[R.1,sb];lia) fun h' ep' r tk sm e'=>?_
 obtain⟨R',T'⟩:=HC (u:=u) S.b8 hk R T;exact h h' r tk sm ⟨nO b S.b8 k hk,_,ep',_,e',R',T'⟩
noncomputable def iO (w:OD):Bool:=w.params.followText "set-order"
theorem sA(a:NY){Q₁:NY->N5->Prop}(h:Q₁ (.ref s.heap.objs.size) {s with heap:=s.heap.push (um (!iO w))}) :
  codeAny (model prog w) A (.call (.builtin "set.__new__") ⟨[.type "set",a],[]⟩) (wants Q₁ E) s:=by
 refine codeAny_of_tree (show wpAny _ A.in1 (do checkBuiltinCall "set.__new__" ⟨[.type "set",a],[]⟩;again (.builtin "set.__new__" ⟨[.type "set",a],[]⟩)) _ _ s from ?_);refine NU (UJ (F.newCall_set_1 a) (Oc ⟨UW F.plain_set_new _,RK F.entry_set_new ?_⟩));rw[Q7 F.plain_set_new _];unfold Qw.«set.__new__» Qw.Frozenset.newClass;have hsub:=sub_set_self;obtain⟨hp,g,d,tk,os⟩:=s;dsimp only;wp_walk;refine Sc (Oc ?_);dsimp only;simp only[newObj];refine NU (wpAny_alloc (Oc (Oc ?_)));exact h
end
section
variable{prog:Oo}{w:OD}{A:O1}{E:NY->N5->Prop}{s:N5}
theorem xU(k:Kn){Q:NY->N5->Prop}(hh:A.handled=none)(hl:k.seq s.heap l items)(Z:Nat->Heap->Prop)
  (z0:∀h,h.get? s.heap.objs.size=some (um (!iO w))->(∀b o,s.heap.get? b=some o->h.get? b=some o)->Z 0 h) (zk:∀i h h',Z i h->(∀b o,b≠s.heap.objs.size+1->h.get? b=some o->h'.get? b=some o)->Z i h')
  (za:∀(A':O1) i v (s':N5) (Q:Bool->N5->Prop) (E:NY->N5->Prop),A'.units<=A.units+8->i<items.size->items[i]?=some v->Z i s'.heap->(∀r h' tk,Z (i+1) h'->(∀b,b≠s.heap.objs.size->h'.get? b=s'.heap.get? b)->Q r {s' with heap:=h',toks:=tk})->wpAny (model prog w) A' (setAdd s.heap.objs.size v) Q E s')
  (q:∀h' tk,Z items.size h'->(∀b o,b<s.heap.objs.size->s.heap.get? b=some o->h'.get? b=some o)->Q (.ref s.heap.objs.size) {s with heap:=h',toks:=tk}):wpAny (model prog w) A (call (.type "set") [.ref l]) Q E s:=by
 obtain⟨c,tl,hmro⟩:=RC.mro;have hmade:=RC.made;have hsub:=RC.sub;refine wpAny_call (codeAny_of_tree ?_);show wpAny _ _ (callAny (.type "set") _) _ _ _;refine Oc ⟨Code.quiet_builtin _ (by decide +kernel),RK F.entry_type_call ?_⟩;rw[O1.under_plain (weight_type_call_type "set" [.ref l] []) rfl];have h1:=RC.notType;have h2:=RC.canCreate;have hct:=F.typeCall_set_1 (.ref l)
 repeat (any_goals (first|assumption|wp_step))
 refine Ub (sA (.ref l) (E:=E) (Q₁:=fun obj s₁=>∃led:Bool,led = !iO w/\obj=.ref s.heap.objs.size/\s₁ = {s with heap:=s.heap.push (um led)}) ⟨_,rfl,rfl,rfl⟩) fun r s₁ hr=>?_
 cases r with
 |error e=>exact hr
 |ok fl =>
  cases fl with
  |ret obj =>
   obtain⟨led,hled,rfl,rfl⟩:=hr;have hS:(s.heap.push (um led)).get? s.heap.objs.size=some (um led):=OC _ rfl;have hT:N5.TypeIs {s with heap:=s.heap.push (um led)} (.ref s.heap.objs.size) "set":=⟨_,hS,rfl⟩
   have hli:=RC.init.lookup;have hbi:=RC.init.bind (.ref s.heap.objs.size)
   repeat (any_goals (first|assumption|wp_step))
   refine Ub (codeAny_call_builtin (R:=wants (fun r s₂=>r=.none/\∃h' tk,s₂ = {s with heap:=h',toks:=tk}/\Z items.size h'/\(∀b o,b<s.heap.objs.size->s.heap.get? b=some o->h'.get? b=some o)) E) RC.init.plain F.entry_set_init (check_set_init_1 hT ?_)) fun r₂ s₂ Zx=>?_
   ·have Ad:l<s.heap.objs.size:=k.lt hl;have hl1:k.seq (s.heap.push (um led)) l items:=k.FG hl fun o e=>N3 _ e
    have nI:l≠(s.heap.push (um led)).objs.size:=by rw[Rn];exact Ou (Tb Ad)
    have nS:s.heap.objs.size∉[(s.heap.push (um led)).objs.size,l]:=by
     rw[Rn];simp only[Od,OY,or_false,not_or];exact⟨Ou (Tx _),Qk Ad⟩
    have fin:∀(A':O1) (R':VO->N5->Prop),A'.in1.handled=none->A'.in1.units<=A.units+8->(∀h' tk,Z items.size h'->(∀b o,b<s.heap.objs.size->s.heap.get? b=some o->h'.get? b=some o)->R' (.ok (.ret .none)) {s with heap:=h',toks:=tk}) ->
      codeAny (model prog w) A' (.builtin "set.update.loop" ⟨[.ref s.heap.objs.size,.ref (s.heap.push (um led)).objs.size],[]⟩) R' {s with heap:=(s.heap.push (um led)).push (k.obj l)}:=by
     intro A' R' ha hu hR;refine By (k.walks ha _ l nI items) s.heap.objs.size nS Z (fun i h h' z kp=>zk i h h' z fun b o hb e=>kp b o (by rw[Rn];simpa using hb) e) (fun i v s' Q' E' hi hv hz hq=>za _ i v s' Q' E' hu hi hv hz hq) (items.size-0) 0 _ rfl (OR _) ⟨k.it0 _ l,k.FG hl1 fun o e=>N3 _ e⟩ (z0 _ (hled ▸ N3 _ hS) fun b o e=>N3 _ (N3 _ e)) fun h' tk z kp=>hR h' tk z fun b o hb e=>kp b o ?_ (N3 _ (N3 _ e))
     rw[Rn];simp only[Od,OY,or_false,not_or];exact⟨Ou hb,Ou (Tb hb)⟩
    cases k
    ·have Y8:(s.heap.push (um led)).IsList l items:=hl1;obtain⟨ol,hol,hcl,nl,hdl⟩:=hl1;obtain⟨ocls,odict,odata,oslots⟩:=ol;simp only at hcl hdl;subst hcl;subst hdl;have hsls:=F.sub_list_set;have hslf:=F.sub_list_frozenset;have YU:(To "list" == To "dict")=false:=by decide
     unfold Qw.«set.__init__» noKeywords T6;generalize hPI:pyIter=PI;wp_walk;subst hPI;refine Kn.iter .L Y8 (NU (wpAny_runValue (fin _ _ (by simp[hh]) (by simp) fun h' tk z kp=>?_)));refine(show wpAny _ _ _ _ _ _ from Oc (show wpAny _ _ (ret P1) _ _ _ from Oc ⟨rfl,h',tk,rfl,z,kp⟩))
    ·have Y8:(s.heap.push (um led)).IsTuple l items:=hl1;obtain⟨ol,hol,hcl,nl,hdl⟩:=hl1;obtain⟨ocls,odict,odata,oslots⟩:=ol;simp only at hcl hdl;subst hcl;subst hdl;have hsls:=F.sub_tuple_set;have hslf:=F.sub_tuple_frozenset;have YU:(To "tuple" == To "dict")=false:=by decide
     unfold Qw.«set.__init__» noKeywords T6;generalize hPI:pyIter=PI;wp_walk;subst hPI;refine Kn.iter .T Y8 (NU (wpAny_runValue (fin _ _ (by simp[hh]) (by simp) fun h' tk z kp=>?_)));refine(show wpAny _ _ _ _ _ _ from Oc (show wpAny _ _ (ret P1) _ _ _ from Oc ⟨rfl,h',tk,rfl,z,kp⟩))
   ·cases r₂ with
    |error e=>exact Zx
    |ok fl₂ =>
     cases fl₂ with
     |ret r =>
      obtain⟨rfl,h',tk,rfl,hz,Y4⟩:=Zx
      repeat (any_goals (first|assumption|wp_step))
      exact q _ _ hz Y4
     |_=>exact Zx.elim
  |_=>exact hr.elim
noncomputable def d8:List Nat->Nat->Nat
 |[],b=>b
 |k :: l,b=>d8 l (bz b k)
theorem kO:∀(l:List Nat) (k b:Nat),d8 (l++[k]) b=bz (d8 l b) k
 |[],_,_=>rfl
 |j :: l,k,b=>kO l k (bz b j)
theorem gK:aD 0=[]:=by decide
theorem Bw(led:Bool)(h:Heap)(a:Addr)(e:h.get? a=some (um led)):jZ led h a 0:=by
 refine⟨by decide,#[],0,_,e,⟨by rw[gK];rfl,fun i k hk=>by rw[gK] at hk;cases hk⟩,?_⟩;exact⟨by rw[gK];rfl,rfl,rfl,rfl,.inl ⟨rfl,by rw[gK];decide⟩⟩
theorem FD{items:List NY}{ks:List Nat}{Q:NY->N5->Prop}(hh:A.handled=none)(hl:s.heap.IsList l items.toArray)(hi:RT items (ks.map fun k:Nat=>(k:Int)))(h8:∀k∈ks,k<8)
  (q:∀h' tk,jZ (!iO w) h' s.heap.objs.size (d8 ks 0)->(∀b o,b<s.heap.objs.size->s.heap.get? b=some o->h'.get? b=some o)->Q (.ref s.heap.objs.size) {s with heap:=h',toks:=tk}):wpAny (model prog w) A (call (.type "set") [.ref l]) Q E s:=by
 have li:items.length=ks.length:=by have:=RT.length hi;rw[NQ] at this;exact this
 refine xU .L (items:=items.toArray) hh hl (fun i h=>jZ (!iO w) h s.heap.objs.size (d8 (ks.take i) 0)) (fun h e _=>by simpa[d8] using Bw _ h _ e) (fun i h h' z k=>z.keep fun o e=>k _ o (Ou (Tx _)) e) (fun A' i v s' Q' E' _ Ad hv z hq=>?_) (fun h' tk z k=>q h' tk (by simpa[li] using z) k);have lt:i<ks.length:=by rw[<- li];simpa using Ad
 have hk:=h8 _ (OZ lt)
 obtain⟨u,rfl⟩:∃u,v=.int ((ks[i]:Nat):Int) u:=by
  have:∀{vs:List NY} {ns:List Int} (i:Nat),RT vs ns->∀v,vs[i]?=some v->∃n u,ns[i]?=some n/\v=.int n u:=by
   intro vs ns i h
   induction h generalizing i with
   |nil=>intro v e;cases e
   |cons n t r ih =>
    intro v e;cases i with
    |zero=>cases e;exact⟨n,t,rfl,rfl⟩
    |succ i=>exact ih i v e
  obtain⟨n,u,e1,e2⟩:=this i hi v (by simpa using hv);rw[NW,NR lt] at e1;cases e1;exact⟨u,e2⟩
 refine iq z hk fun h' r tk sm z'=>?_
 refine hq r h' tk ?_ fun b hb=>?_
 ·show jZ _ h' _ (d8 (ks.take (i+1)) 0);rw[Oj,NR lt];show jZ _ h' _ (d8 (ks.take i++[ks[i]]) 0);rw[kO];exact z'
 ·exact sm.2 b hb
end
namespace F7
theorem kI:entryFor table "set.__iter__"=some Qw.«frozenset.__iter__»:=entryFor_alias (id':="frozenset.__iter__") (by kernel_rfl) (by first|rfl|decide +kernel|(unfold XZ;simp +decide [WY])) (by decide +kernel) (by kernel_rfl)
theorem slot_next:Slot "set_iterator" "__next__" "set_iterator.__next__":=.of (owner:="set_iterator") (n:="__next__") (by rw[typeLookup_type,VF];kernel_rfl) (by decide +kernel) (by decide +kernel) (by decide +kernel) (by first|exact .inl (by decide +kernel)|exact .inr (by decide +kernel)) (by rw[S_];kernel_rfl)
theorem entry_next:entryFor table "set_iterator.__next__"=some Qw.«set_iterator.__next__»:=entryFor_of_tree (by kernel_rfl)
theorem args_next(a:NY):argsOk "set_iterator.__next__" ⟨[a],[]⟩:=by unfold argsOk;kernel_rfl
theorem oM:Slot "set_iterator" "__iter__" "set_iterator.__iter__":=.of (owner:="set_iterator") (n:="__iter__") (by rw[typeLookup_type,VF];kernel_rfl) (by decide +kernel) (by decide +kernel) (by decide +kernel) (by first|exact .inl (by decide +kernel)|exact .inr (by decide +kernel)) (by rw[S_];kernel_rfl)
theorem wj:entryFor table "set_iterator.__iter__"=some Qw.«dict_keyiterator.__iter__»:=entryFor_alias (id':="dict_keyiterator.__iter__") (by kernel_rfl) (by first|rfl|decide +kernel|(unfold XZ;simp +decide [WY])) (by decide +kernel) (by kernel_rfl)
theorem AJ(a:NY):argsOk "set_iterator.__iter__" ⟨[a],[]⟩:=by unfold argsOk;kernel_rfl
end F7
noncomputable def LS (h:Heap) (I S:Addr) (sl i n ep:Nat):Prop:=∃o,h.get? I=some o/\o.cls=.type "set_iterator"/\o.data=.fields #[.int (sl:Int) 0,.int (i:Int) 0,.ref S,.int (n:Int) 0,.int (ep:Int) 0]
noncomputable def wy (h:Heap) (S:Addr) (es:Array (Int×NY)) (ep:Nat) (t:P7):Prop:=h.get? S=some {cls:=.type "set",dict:=none,data:=.set es ep t,slots:=#[]}
section
variable{prog:Oo}{w:OD}{A:O1}{E:NY->N5->Prop}{s:N5}{S I:Addr}{es:Array (Int×NY)}{ep:Nat}{t:P7}
theorem FC{Q:NY->N5->Prop} (m:wy s.heap S es ep t) (hf:t.fits es.size=true) (pl:t.plain=true) (q:Q (.ref s.heap.objs.size) {s with heap:=s.heap.push {cls:=.type "set_iterator",data:=.fields #[.int 0 0,.int 0 0,.ref S,.int (es.size:Int) 0,.int (ep:Int) 0]}}) :
  wpAny (model prog w) A (pyIter (.ref S)) Q E s:=by
 have ty:s.TypeIs (.ref S) "set":=⟨_,m,rfl⟩
 refine UG ty F.slot_set_iter (PF F.slot_set_iter ty F7.kI ?_ (F.args_set_iter_1 _));unfold Qw.«frozenset.__iter__»;refine NU (UJ (a:=S) rfl ?_);unfold Qw.Frozenset.sizeOf;refine NU (NU (T_ m rfl hf (Oc ?_)));rw[show setDrawn S=(do let x <- setState S;let b <- setsByText;return !b && (!x.2.2.plain && decide (x.1.size > 1))) from rfl];refine NU (NU (Ta m rfl hf ?_));unfold setsByText;refine NU (NU (Sc (Oc (Oc ?_))));dsimp only;rw[pl,show(!(model prog w).w.params.followText "set-order" && (!true && decide (es.size > 1)))=false by simp,if_neg (by simp)];refine NU (Oc (NU (wpAny_setEpoch_of m rfl hf ?_)));refine NU (PK (Oc ⟨_,rfl,"set_iterator",_,⟨_,OC _ rfl,rfl⟩,F7.slot_next.lookup,?_⟩));simpa[rawInt] using q
theorem xP{Q:Option NY->N5->Prop}(it:LS s.heap I S sl i es.size ep)(m:wy s.heap S es ep t)(hf:t.fits es.size=true) :
  (∀v nx,(∀(R:Option (NY×Nat)->N5->Prop) (E':NY->N5->Prop),R (some (v,nx)) s->wpAny (model prog w) A.in1 (setNext S sl i ep) R E' s)->(∀h',LS h' I S nx (i+1) es.size ep->Qx I s.heap h'->Q (some v) {s with heap:=h'})->wpAny (model prog w) A (pyNext (.ref I)) Q E s) /\
  (A.handled=none->(∀(R:Option (NY×Nat)->N5->Prop) (E':NY->N5->Prop),R none s->wpAny (model prog w) A.in1 (setNext S sl i ep) R E' s)->(∀h',UI I s.heap h'->Q none {s with heap:=h'})->wpAny (model prog w) A (pyNext (.ref I)) Q E s):=by
 obtain⟨o,ho,oc,od⟩:=id it;have ty:s.TypeIs (.ref I) "set_iterator":=⟨_,ho,oc⟩
 constructor
 ·intro v nx hn hq;unfold pyNext;refine NU (Sw (PH (name:=Ry "__next__") ty F7.slot_next (PF F7.slot_next ty F7.entry_next ?_ (F7.args_next _))));unfold Qw.«set_iterator.__next__»;refine NU (Oc (NU (Us ho od ?_)));dsimp only;refine NU (T_ m rfl hf ?_);rw[if_neg (by simp)];simp only[OT];refine NU (hn _ _ ?_);dsimp only;refine NU (Rq ho od (by simp) ?_);have od1:(Qy (·.setIfInBounds 0 (rawInt (nx:Int))) o).data=.fields #[.int (nx:Int) 0,.int (i:Int) 0,.ref S,.int (es.size:Int) 0,.int (ep:Int) 0]:=by rw[Qd od];simp[rawInt]
  have ho1:(s.heap.update I (Qy (·.setIfInBounds 0 (rawInt (nx:Int))))).get? I=some (Qy (·.setIfInBounds 0 (rawInt (nx:Int))) o):=Qu _ ho (RP (Qd od _));refine NU (Rq (s:={s with heap:=s.heap.update I (Qy (·.setIfInBounds 0 (rawInt (nx:Int))))}) ho1 od1 (by simp) ?_);have ho2:=Qu (Qy (·.setIfInBounds 1 (rawInt ((i:Int)+1)))) ho1 (RP (Qd od1 _));have k2:LS ((s.heap.update I (Qy (·.setIfInBounds 0 (rawInt (nx:Int))))).update I (Qy (·.setIfInBounds 1 (rawInt ((i:Int)+1))))) I S nx (i+1) es.size ep:=⟨_,ho2,(SZ ..).trans ((SZ ..).trans oc),by rw[Qd od1];simp[rawInt]⟩
  exact Oc ⟨_,rfl,Oc (hq _ k2 ((Pm ..).trans (Pm ..)))⟩
 ·intro hh hn hq;unfold pyNext;refine NU (Sw (PH (name:=Ry "__next__") ty F7.slot_next (PF F7.slot_next ty F7.entry_next ?_ (F7.args_next _))));unfold Qw.«set_iterator.__next__»;refine NU (Oc (NU (Us ho od ?_)));dsimp only;refine NU (T_ m rfl hf ?_);rw[if_neg (by simp)];simp only[OT];refine NU (hn _ _ ?_);dsimp only;refine NU (Rq ho od (by simp) ?_);show wpAny _ _ (newExc (.type "StopIteration") [] >>= _) _ _ _;refine NU ?_;simp only[newExc,newTuple];refine NU (PK ?_ (by size_fits));refine NU (m:=firstArgMember _ _) (UJ (a:=P1) (by simp only[firstArgMember];rfl) (PK ?_ (by size_fits)));simp only[raiseNew];refine NU (Wi ?_);rw[show A.in1.handled=none from hh];refine NU (Oc (Xv ?_));refine NU (Tv (T:="StopIteration") (b:=true) ⟨_,OC _ rfl,rfl⟩ VS ?_);exact Oc (hq _ (((Pm ..).extBut.push _).push _))
noncomputable def fS(w:OD)(S:Addr)(ep:Nat)(es:Array (Int×NY)):Array (Int×NY):=if iO w then pickOrder (w.params.setOrder S ep) es else es
noncomputable def slotAt(w:OD)(l:List Nat)(i:Nat):Nat:=if iO w then 0 else if i=0 then 0 else l.getD (i-1) 0+1
theorem K3:∀b<256,∀i<9,(aD b).length<i\/QX (aD b).toArray (if i=0 then 0 else (aD b).getD (i-1) 0+1)=i:=by decide +kernel
theorem kY{α:Type}:∀(l:List α) (i:Nat) (h:i<l.length),(l[i] :: l.eraseIdx i).Perm l
 |x :: l,0,_=>X0 _
 |x :: l,i+1,h=>by
  have h':i<l.length:=Nat.lt_of_succ_lt_succ h;exact(Ye.swap x l[i] (l.eraseIdx i)).trans ((kY l i h').cons x)
theorem yE{α:Type}(f:Nat->Nat):∀(n k:Nat) (left:List α) (out:Array α),n=left.length->(pickOrder.go f n k left out).toList.Perm (out.toList++left)
 |0,k,left,out,h=>by
  have:left=[]:=Pb.mp h.symm
  subst this;show out.toList.Perm (out.toList++[]);rw[Qb]
 |n+1,k,left,out,h=>by
  have lt:f k % left.length<left.length:=Nat.mod_lt _ (by lia);unfold pickOrder.go;rw[NR lt];refine(yE f n (k+1) _ _ (by rw[TN,if_pos lt];lia)).trans ?_;rw[Array.toList_push,Pi];refine Ye.append_left _ ?_;exact kY left _ lt
theorem m6{es:Array (Int×NY)}:(fS w S ep es).toList.Perm es.toList:=by
 unfold fS;split
 ·have:=yE (w.params.setOrder S ep) es.size 0 es.toList #[] (by simp)
  simpa[pickOrder] using this
 ·exact X0 _
theorem mZ{es:Array (Int×NY)}:(fS w S ep es).size=es.size:=by
 have:=(m6 (w:=w) (S:=S) (ep:=ep) (es:=es)).length_eq
 simpa using this
theorem ut{b i:Nat}{R:Option (NY×Nat)->N5->Prop}(m:wy s.heap S es ep t)(hb:b<256)(T:TR (!iO w) t b)(hr:ER es (aD b))(hi:i<=es.size)(h:R ((fS w S ep es)[i]?.map fun e=>(e.2,slotAt w (aD b) (i+1))) s) :
  wpAny (model prog w) A (setNext S (slotAt w (aD b) i) i ep) R E' s:=by
 have hf:=T.fits hb hr.1;have l8:=fH b hb;unfold setNext;refine NU (Ta m rfl hf ?_);dsimp only;unfold setsByText;refine NU (NU (Sc (Oc ?_)));cases bt:iO w with
 |true =>
  have bt':(model prog w).w.params.followText "set-order"=true:=bt;dsimp only;rw[bt',if_pos rfl,if_neg (by simp)];unfold setWalk;refine NU (NU (Ta m rfl hf ?_));dsimp only;unfold setsByText;refine NU (NU (Sc (Oc ?_)));dsimp only;rw[bt',if_pos rfl];refine NU (Sc (Oc (Oc ?_)));unfold fS slotAt at h;rw[bt] at h;unfold slotAt;rw[bt];exact h
 |false =>
  have bt':(model prog w).w.params.followText "set-order"=false:=bt;dsimp only;rw[bt',if_neg (by simp)];have sl:slotAt w (aD b) i=if i=0 then 0 else (aD b).getD (i-1) 0+1:=by unfold slotAt;rw[bt];rfl
  have sl2:slotAt w (aD b) (i+1)=(aD b).getD i 0+1:=by unfold slotAt;rw[bt];rfl
  have bl:QX t.place (slotAt w (aD b) i)=i:=by
   rw[sl,T.place];rcases K3 b hb i (by have:=hr.1;lia) with z|z
   ·have:=hr.1;lia
   ·exact z
  have eo:fS w S ep es=es:=by unfold fS;rw[bt];rfl
  rw[eo,sl2] at h;split
  ·rename_i z;have z2:(!t.plain && decide (es.size > 1))=true:=z;rw[T.plain] at z2;cases z2
  ·refine NU (show wpAny _ _ (if (!t.led && !es.isEmpty)=true then unsupported "set:maker-not-led" else pure ()) _ _ _ from ?_);rw[T.led,bt,if_neg (by simp)];refine Oc (Oc ?_);rw[bl,T.place];by_cases li:i<es.size
   ·have l2:i<(aD b).length:=by rw[<- hr.1];exact li
    obtain⟨tk,et⟩:=hr.2 i _ (NR l2);rw[et] at h ⊢;rw[Tk,NR l2];rw[NS,NR l2] at h;exact h
   ·have en:es[i]?=none:=RB (by lia);rw[en] at h ⊢;exact h
theorem Bv(hh:A.handled=none)(I S:Addr)(ne:S≠I){b:Nat}(hb:b<256)(T:TR (!iO w) t b)(hr:ER es (aD b)):Xu prog w A I [I,S] [I] es.size (fun i v=>∃e,(fS w S ep es)[i]?=some e/\v=e.2) (fun i h=>LS h I S (slotAt w (aD b) i) i es.size ep/\wy h S es ep t) where
 sub:=fun b hb=>by rw[N7.mp hb];simp
 frame:=fun _ _ _ st hk=>⟨by obtain⟨o,e,r⟩:=st.1;exact⟨o,hk I (by simp) o e,r⟩,hk S (by simp) _ st.2⟩
 item:=fun i s Q E hi st hq=>by
  have lo:(fS w S ep es).size=es.size:=mZ;have ei:(fS w S ep es)[i]?=some (fS w S ep es)[i]:=by simp[lo,hi]
  refine(xP st.1 st.2 (T.fits hb hr.1)).1 (fS w S ep es)[i].2 (slotAt w (aD b) (i+1)) (fun R E' h=>ut st.2 hb T hr (Qa hi) (by rw[ei];exact h)) fun h' k1 k2=>?_
  exact hq _ h' s.toks ⟨_,ei,rfl⟩ ⟨k1,k2.extBut S _ ne st.2⟩ fun b o hb e=>k2.extBut b o (fun z=>hb (by simp[z])) e
 done:=fun s Q E st hq=>(xP st.1 st.2 (T.fits hb hr.1)).2 hh (fun R E' h=>ut st.2 hb T hr (N4 _) (by rw[show(fS w S ep es)[es.size]?=none from RB (by rw[mZ];exact N4 _)];exact h)) fun h' k=>hq h' s.toks fun b o hb e=>k b o (fun z=>hb (by simp[z])) e
 self:=fun _ s _ _ st hq=>by
  obtain⟨o,ho,oc,od⟩:=st.1;have ty:s.TypeIs (.ref I) "set_iterator":=⟨_,ho,oc⟩
  refine UG ty F7.oM (PF F7.oM ty F7.wj (show wpAny _ _ (ret (.ref I)) _ _ s from Oc ⟨_,rfl,"set_iterator",_,ty,F7.slot_next.lookup,hq⟩) (F7.AJ _))
theorem Du{Q:Bool->N5->Prop} (hT:s.TypeIs (.ref r) "set") (h:Q false s):wpAny (model prog w) A (Ue (.ref r)) Q E s:=by
 unfold Ue;refine NU (wpAny_specialOf hT PySem.F.slot_set_len.lookup ?_);generalize hid:("set.__len__" : String)=id0;wp_delta;rw[show splitId id0=some ("set","__len__") from by subst hid;decide +kernel];subst hid;refine NU (Tv (T:="set") (b:=true) hT (by rw[S_];kernel_rfl) ?_);refine wpAny_ite_split (fun hab=>absurd hab (by decide)) (fun _=>?_);refine wpAny_ite_split (fun _=>?_) (fun hab=>absurd (by decide +kernel) hab);refine NU (wpAny_typeOf hT ?_);exact Oc h
theorem Iu{b:Nat} (hb:b<256) (T:TR (!iO w) t b) (hr:ER es (aD b)):XV prog w "set" S S es.size (fun i v=>∃e,(fS w S ep es)[i]?=some e/\v=e.2) (fun h=>wy h S es ep t) where
 type:=fun _ m=>⟨_,m,rfl⟩
 there:=fun _ m=>⟨Op m,Op m⟩
 keep:=fun _ _ m hk=>hk S (.inl rfl) _ m
 notList:=by decide
 notTuple:=by decide
 hint:=fun _ _ _ _ m q=>Du ⟨_,m,rfl⟩ q
 iter:=fun _ _ hh m=>⟨_,_,(fun _ _ q=>FC m (T.fits hb hr.1) T.plain q),Bv hh _ S (Ou (Op m)) hb T hr,⟨⟨_,OC _ rfl,rfl,by unfold slotAt;simp⟩,N3 _ m⟩⟩
theorem ints_of:∀{vs:List NY} {ns:List Int},vs.length=ns.length->(∀(j:Nat) (v:NY),vs[j]?=some v->∃n u,ns[j]?=some n/\v=R4 n u)->RT vs ns
 |[],[],_,_=>.nil
 |[],_ :: _,h,_=>by cases h
 |_ :: _,[],h,_=>by cases h
 |v :: vs,n :: ns,h,k=>by
  obtain⟨n',u,e1,rfl⟩:=k 0 v rfl;cases e1;exact .cons n u (ints_of (by simpa using h) fun j v hj=>k (j+1) v hj)
theorem GX:∀b<256,((aD b).map fun k:Nat=>(k:Int)).Pairwise (· < ·):=by decide +kernel
theorem i9:∀{a b:List Int},a.Perm b->a.Pairwise (·<=·)->b.Pairwise (· < ·)->a=b
 |[],b,p,_,_=>p.nil_eq
 |x :: a,[],p,_,_=>by have:=p.length_eq;cases this
 |x :: a,y :: b,p,h1,h2=>by
  obtain⟨x1,x2⟩:=RD.mp h1;obtain⟨y1,y2⟩:=RD.mp h2
  have e:x=y:=by
   have m1:y∈x :: a:=p.mem_iff.mpr NX;have m2:x∈y :: b:=p.mem_iff.mp NX;rcases Od.mp m1 with e|m1
   ·exact e.symm
   ·rcases Od.mp m2 with e|m2
    ·exact e
    ·have:=x1 y m1
     have:=y1 x m2
     lia
  subst e;rw[i9 (Ye.cons_inv p) x2 y2]
theorem xO{Q:NY->N5->Prop} (hh:A.handled=none) (m:jZ (!iO w) s.heap S b) (q:∀(h1 h':Heap) (tk:Nat) (D:Addr) (vs:List NY) (c:Nat),(∀b o,s.heap.get? b=some o->h1.get? b=some o)->(∀b o,h1.get? b=some o->h'.get? b=some o)->h1.objs.size<=D->h'.get? D=some (seqObj "list" (List.toArray vs) c)->RT vs ((aD b).map fun k:Nat=>(k:Int))->Q (.ref D) {s with heap:=h',toks:=tk}) :
  wpAny (model prog w) A (call (.builtin "sorted") [.ref S]) Q E s:=by
 obtain⟨es,ep,t,e,hr,T⟩:=m.at_;have l8:=fH b m.b8;have raw:wy s.heap S es ep t:=e;refine Calls.call_function_entry kind_sorted plain_sorted entry_sorted (args_sorted1 _) ?_;unfold Qw.«sorted»;refine NU (m:=checkCount "sorted" 1 1 _) (Oc ?_);refine NU (PySem.W.kdu_collect (A:=A.in1) (Iu m.b8 T hr) hh raw (by rw[hr.1,Rr];lia) fun h' tk acc hk hacc=>?_);have la:acc.size=es.size:=hacc.1;have lo:(fS w S ep es).size=es.size:=mZ
 have ent:∀e∈es.toList,∃(k:Int) (tk:Tok),e=(k,R4 k tk):=fun e he=>by
  obtain⟨i,li,ei⟩:=Pa.mp he;have l2:i<(aD b).length:=by rw[<- hr.1];simpa using li
  obtain⟨tk,et⟩:=hr.2 i _ (NR l2);have e2:es.toList[i]?=some e:=by rw[NR li,ei]
  rw[OI,et] at e2;cases e2;exact⟨_,tk,rfl⟩
 have hs:es.toList.map (·.1)=(aD b).map fun k:Nat=>(k:Int):=by
  apply RU;intro i;rw[NW,NW,OI];by_cases li:i<(aD b).length
  ·obtain⟨tk,et⟩:=hr.2 i _ (NR li);rw[et,NR li];rfl
  ·rw[RB (by rw[hr.1];lia),OG (by lia)];rfl
 have hI:RT acc.toList ((fS w S ep es).toList.map (·.1)):=ints_of (by rw[OJ,NQ,OJ,la,lo]) fun j v hj=>by
  rw[OI] at hj;obtain⟨e,e1,e2⟩:=hacc.2 j v hj;obtain⟨k,tk,rfl⟩:=ent e (m6.mem_iff.mp (N2 (by rw[OI];exact e1)));exact⟨_,tk,by rw[NW,OI,e1];rfl,e2⟩
 have l64:acc.toList.length<64:=by rw[OJ,la,hr.1];lia
 refine NU (wpAny_newList ?_ (by rw[Rr];lia));have hoL:(h'.push (seqObj "list" acc.toList.toArray 0)).get? h'.objs.size=some (seqObj "list" acc.toList.toArray 0):=OC _ rfl;refine NU (TF (PF (s:={s with heap:=h'.push (seqObj "list" acc.toList.toArray 0),toks:=tk}) slot_list_sort ⟨_,hoL,rfl⟩ entry_list_sort (list_sort_tree hoL hI l64 fun out ns' i' p' pw=>⟨_,rfl,?_⟩) (args_list_sort _)));have en:ns'=(aD b).map fun k:Nat=>(k:Int):=i9 (p'.trans (by rw[<- hs];exact m6.map _)) pw (GX b m.b8)
 subst en
 have keep2:∀c o,c≠h'.objs.size->(h'.push (seqObj "list" acc.toList.toArray 0)).get? c=some o->(sortedHeap (h'.push (seqObj "list" acc.toList.toArray 0)) h'.objs.size acc.toList out).get? c=some o:=fun c o hc e2=>by
  unfold sortedHeap;rw[V_ _ _ _ _ hc];exact N3 _ (N3 _ (by rw[V_ _ _ _ _ hc];exact e2))
 obtain⟨e1,ho1⟩:∃e1,((h'.push (seqObj "list" acc.toList.toArray 0)).update h'.objs.size (Vj fun _=>(#[]:Array NY))).get? h'.objs.size=some (seqObj "list" #[] e1):=⟨_,get?_update_seq hoL fun _=>#[]⟩
 obtain⟨c2,ho2⟩:∃c2,(sortedHeap (h'.push (seqObj "list" acc.toList.toArray 0)) h'.objs.size acc.toList out).get? h'.objs.size=some (seqObj "list" out c2):=⟨_,get?_update_seq (N3 _ (N3 _ ho1)) fun _=>out⟩
 exact Oc ⟨_,rfl,q h' _ tk h'.objs.size out.toList c2 hk (fun c o e2=>keep2 c o (Ou (Op e2)) (N3 _ e2)) (N4 _) (by simpa using ho2) i'⟩
end
open PySem.W (Dat)
theorem kN:∀(ks:List Nat) (b:Nat),b<256->(∀k∈ks,k<8)->∀j,j∈aD (d8 ks b)↔j∈aD b\/j∈ks
 |[],b,_,_,j=>by simp[d8]
 |k :: ks,b,h,g,j=>by
  have hk:=g k NX;rw[d8,kN ks (bz b k) (nO b h k hk) (fun j hj=>g j (NZ _ hj)) j,Od]
  have:j∈aD (bz b k)↔j∈aD b\/j=k:=by
   by_cases j8:j<8
   ·have:=Do b h k hk j j8
    rw[QH] at this;simpa using this
   ·exact⟨fun z=>absurd (sY _ _ z) j8,fun z=>by
     rcases z with z|z
     ·exact absurd (sY _ _ z) j8
     ·exact absurd (z ▸ hk) j8⟩
  rw[this];constructor
  ·rintro((z|z)|z)
   ·exact .inl z
   ·exact .inr (.inl z)
   ·exact .inr (.inr z)
  ·rintro(z|z|z)
   ·exact .inl (.inl z)
   ·exact .inl (.inr z)
   ·exact .inr z
noncomputable def cY(ks:List Nat):List Nat:=(Oa 8).filter fun k=>ks.contains k
theorem xV{ks:List Nat}(g:∀k∈ks,k<8):aD (d8 ks 0)=cY ks:=by
 unfold cY;have e:=kN ks 0 (by decide) g;unfold aD at e ⊢;refine WZ fun k hk=>?_
 have:=e k
 rw[Os] at this;rw[QH,Tl];refine⟨fun z=>?_,fun z=>(this.mpr (.inr z)).2⟩;rcases this.mp ⟨hk,z⟩ with y|y
 ·rw[Os] at y;simp at y
 ·exact y
theorem t_{vs:List NY}(h:RT vs ns):Vals (ns.map V.int) vs:=by
 induction h with
 |nil=>exact .nil
 |cons n t r ih=>exact .cons ⟨t,rfl⟩ ih
section
variable{X:Cx}
noncomputable def uz(K:Fg):V->Hp->VK->Prop:=fun x H Q=>∃(a:Addr) (ks:List Nat),x=.ref a/\SqL K H a (ks.map fun k:Nat=>.int (k:Int))/\(∀k∈ks,k<8)/\∀l,H l=none->Q (.ref l) (upd H l (.lst ((cY ks).map fun k:Nat=>.int (k:Int))))
noncomputable def ml(K:Fg)(te:TE):TE:=fun σ H Q=>te σ H fun x H1=>uz K x H1 Q
theorem vY{p p2 pos YW:Pos} (hc:X.calm=true) (hgl:Gl X "sorted") (hml:X.mg "sorted"=none) (hgs:Gl X "set") (hms:X.mg "set"=none) (he:PE X e te)
  (hs:starEach [e] X.env=[(false,eval e X.env)]:=by rfl) (YV:starEach [Expr.Call (.Name "set" p2) [e] [] YW] X.env=[(false,eval (.Call (.Name "set" p2) [e] [] YW) X.env)]:=by rfl) :
  PE X (.Call (.Name "sorted" p) [.Call (.Name "set" p2) [e] [] YW] [] pos) (ml X.K te):=by
 intro ν s σ H Q I h;refine Qv (f7 I hgl hml AH ?_);refine Tp ?_ YV rfl;rw[YV];refine(show wpAny _ _ (spliced ((false,eval (.Call (.Name "set" p2) [e] [] YW) X.env) :: backTo pos [])) _ _ s from QN ?_);refine Qv (f7 I hgs hms K7 ?_);refine Pu ?_ hs rfl;rw[hs];refine(show wpAny _ _ (spliced ((false,eval e X.env) :: backTo YW [])) _ _ s from QN (bg (he ν s σ H _ I h) fun u s1 ⟨x,H1,I1,r1,q1⟩=>Q6 ?_));obtain⟨a,ks,rfl,hq,g8,q⟩:=q1;cases r1;obtain⟨dk,rv,pl,_⟩:=I1.list hq;have hl:s1.heap.IsList a dk.toArray:=pl.isList;have hi:RT dk (ks.map fun k:Nat=>(k:Int)):=intsAre_of (by rw[Ph];exact rv);have hh:=I1.ok.hd hc;refine FD hh hl hi g8 fun h' tk sm kp=>Q6 ?_
 refine xO (s:={s1 with heap:=h',toks:=tk}) hh sm fun h1 h2 tk2 D vs c k1 k2 lD eD iD=>?_
 have keep:∀b o,s1.heap.get? b=some o->h2.get? b=some o:=fun b o e=>k2 b o (k1 b o (kp b o (Op e) e))
 rw[xV g8] at iD;have l8:(cY ks).length<=8:=by unfold cY;exact O6 _ _
 have lS:s1.heap.objs.size<=D:=by
  obtain⟨es,ep,t,e,_⟩:=sm.at_
  have:=Op (k1 _ _ e)
  exact Oi (Qa this) lD
 refine⟨.ref D,_,I1.laid (t':=tk2) (o:=.lst ((cY ks).map fun k:Nat=>.int (k:Int))) keep lS ⟨?_,vs,c,?_,eD⟩,rfl,q D (I1.hok.fresh lS)⟩
 ·rw[NQ,Rr];lia
 ·have:=t_ iD
  rw[Ph] at this;exact this
noncomputable def gZ(te:TE):TE:=fun σ H Q=>te σ H fun x H1=>∃n:Nat,x=.int (n:Int)/\n<=1000/\∀l,H1 l=none->Q (.ref l) (upd H1 l (.lst ((Oa n).map fun k:Nat=>.int (k:Int))))
theorem pi{p p2 pos YW:Pos} (hc:X.calm=true) (hgl:Gl X "list") (hml:X.mg "list"=none) (hgs:Gl X "range") (hms:X.mg "range"=none) (he:PE X e te)
  (hs:starEach [e] X.env=[(false,eval e X.env)]:=by rfl) (YV:starEach [Expr.Call (.Name "range" p2) [e] [] YW] X.env=[(false,eval (.Call (.Name "range" p2) [e] [] YW) X.env)]:=by rfl) :
  PE X (.Call (.Name "list" p) [.Call (.Name "range" p2) [e] [] YW] [] pos) (gZ te):=by
 intro ν s σ H Q I h;refine Qv (f7 I hgl hml tP ?_);refine Pu ?_ YV rfl;rw[YV];refine(show wpAny _ _ (spliced ((false,eval (.Call (.Name "range" p2) [e] [] YW) X.env) :: backTo pos [])) _ _ s from QN ?_);refine Qv (f7 I hgs hms boot_range ?_);refine Pu ?_ hs rfl;rw[hs];refine(show wpAny _ _ (spliced ((false,eval e X.env) :: backTo YW [])) _ _ s from QN (bg (he ν s σ H _ I h) fun u s1 ⟨x,H1,I1,r1,q1⟩=>Q6 ?_));obtain⟨n,rfl,hn,q⟩:=q1;obtain⟨t,rfl⟩:=r1;refine call_range_1 (Q6 ?_);refine call_list_range (n:=n) (I1.ok.hd hc) (IsRange.new ..) (small_one (by lia) (by lia) (by lia) (by lia)) (by rw[rangeSize_nat];lia) (by lia) fun h' tk acc c kp ha hit=>?_
 have hsz:(s1.heap.push {cls:=.type "range",data:=.fields #[.int 0 s1.toks,.int (n:Int) t,.int 1 (s1.toks+1)]}).objs.size=s1.heap.objs.size+1:=size_push' _ _
 have hi:RT acc.toList ((Oa n).map fun k:Nat=>(k:Int)):=ints_of (by rw[OJ,NQ,On];exact hit.1) fun j v hj=>by
  rw[OI] at hj;obtain⟨u,e2⟩:=hit.2 j v hj
  have lj:j<n:=by
   have:=(Array.getElem?_eq_some_iff.mp hj).1
   rw[hit.1] at this;exact this
  exact⟨_,u,by rw[NW,OW lj];rfl,by rw[e2];simp⟩
 have lS:s1.heap.objs.size<=(s1.heap.push {cls:=.type "range",data:=.fields #[.int 0 s1.toks,.int (n:Int) t,.int 1 (s1.toks+1)]}).objs.size:=by rw[hsz];exact UD _
 refine⟨.ref _,_,I1.laid (t':=tk) (o:=.lst ((Oa n).map fun k:Nat=>.int (k:Int))) (fun b o e=>kp b o (N3 _ e)) lS ⟨?_,acc.toList,c,?_,by rw[TL];exact ha⟩,rfl,q _ (I1.hok.fresh lS)⟩
 ·rw[NQ,On,Rr];lia
 ·have:=t_ hi
  rw[Ph] at this;exact this
noncomputable def L8:List V->Hp->VK->Prop:=fun xs H Q=>∃i j,xs=[.int i,.int j]/\Q (.int (if j > i then j else i)) H
end
noncomputable def IQ(K:Fg):List V->Hp->VK->Prop:=fun xs H Q=>∃(a:Addr) (ns:List Int),xs=[.ref a]/\SqL K H a (ns.map V.int)/\ns≠[]/\∀m,m∈ns->(∀x∈ns,m<=x)->Q (.int m) H
section
variable{X:Cx}
theorem Ax(hc:X.calm=true):dZ X (.builtin "min") (IQ X.K):=by
 intro ν s σ H xs us Q I r h;obtain⟨a,ns,rfl,q1,ne,q⟩:=h;obtain⟨u,rfl,ru⟩:=vals1 r;cases ru;obtain⟨dk,rv,p,_⟩:=I.list q1;obtain⟨l,e1,e2⟩:=fz rv
 have hl:s.heap.IsList a (intItems l.toArray):=by
  have:=p.isList
  rw[e1] at this;simpa[intItems] using this
 have ln:l.length=ns.length:=by rw[<- e2,NQ]
 have pos:=Sn.mpr ne;refine min_intList (I.ok.hd hc) hl (by simp;lia) fun v h' tk hv hk=>?_
 obtain⟨t,rfl⟩:=intItems_at hv;obtain⟨h1,h2⟩:=argBest_lt (numAt l.toArray) (l.toArray.size-1);have el:l.toArray.toList.map (·.1)=ns:=by simpa using e2
 refine⟨.int _,H,I.kept (t':=tk) hk,⟨_,rfl⟩,q _ ?_ fun x hx=>?_⟩
 ·rw[XX,el];exact getD_mem (by have h3:l.toArray.size=l.length:=Ov ..;lia)
 ·obtain⟨j,hj,rfl⟩:=mem_getD hx;rw[<- el,<- XX];exact h2 j (by have h3:l.toArray.size=l.length:=Ov ..;lia)
end
noncomputable def IS:List V->Hp->VK->Prop:=fun xs H Q=>∃a de,xs=[V.ref a]/\H a=some (.dK de)/\Q (.int de.length) H
theorem FN{k:bf}(h:nK k v=true):RelV (kV k) v:=by
 cases k with
 |inl i =>
  cases v <;> simp[nK,Qp] at h
  subst h;exact⟨_,rfl⟩
 |inr x =>
  cases v <;> simp[nK,Wh] at h
  subst h;exact⟨_,rfl⟩
theorem p_{P:Oo}{w:OD}:∀{es:List Ul} {vs:List (bf×NY)},Pairs (bC P w) es vs->Vals (vs.map fun kv=>kV kv.1) (es.map fun e=>e.key)
 |_,_,.nil=>.nil
 |_,_,.cons h _ r=>.cons (FN h) (p_ r)
theorem pairs_len{P:Oo}{w:OD}:∀{es:List Ul} {vs:List (bf×NY)},Pairs (bC P w) es vs->es.length=vs.length
 |_,_,.nil=>rfl
 |_,_,.cons _ _ r=>congrArg (· + 1) (pairs_len r)
noncomputable def yk:List V->Hp->VK->Prop:=fun xs H Q=>∃a de,xs=[.ref a]/\H a=some (.dK de)/\∀l:Addr,H l=none->Q (.ref l) (upd H l (.lst (de.map fun kv=>kV kv.1)))
theorem tO{X:Cx} (hc:X.calm=true):dZ X (.type "list") yk:=by
 intro ν s σ H xs us Q I r h;obtain⟨a,de,rfl,ha,q⟩:=h;obtain⟨u,rfl,ru⟩:=vals1 r;cases ru;obtain⟨z,lo,vs,kv,o,es,ep,ho,ex,dt,_,pr,_⟩:=Ht I.hok ha
 have ek:(de.map fun kv=>kV kv.1)=vs.map fun kv=>kV kv.1:=by
  have:=congrArg (Yg kV) kv.keys
  rw[Ph,Ph] at this;exact this
 have lk:de.length=vs.length:=by have:=congrArg QD ek;rwa [NQ,NQ] at this
 have sz:es.size=de.length:=by rw[<- OJ,pairs_len pr,lk]
 refine Xk (yh (es:=es) (ep:=ep) lo) (I.ok.hd hc) ⟨o,ho,ex,dt⟩ (by rw[sz];exact z) fun h' tk acc c kp hl hit=>?_
 have Za:acc.toList=es.toList.map fun e=>e.key:=by
  refine RU fun j=>?_
  by_cases lt:j<es.size
  ·have hj:j<acc.toList.length:=by rw[OJ];rw[hit.1];exact lt
   have e1:acc.toList[j]?=some acc.toList[j]:=NR hj;obtain⟨e,ee,ev⟩:=hit.2 j acc.toList[j] (by rw[<- OI];exact e1);rw[e1,ev,NW,OI,ee];rfl
  ·rw[OG (by rw[OJ,hit.1];lia),OG];rw[NQ,OJ];lia
 have vals:Vals (de.map fun kv=>kV kv.1) acc.toList:=by
  rw[Za,ek];exact p_ pr
 refine⟨.ref s.heap.objs.size,_,I.laid (t':=tk) kp (N4 _) (show b9 X.prog X.w _ h' _ (.lst (de.map fun kv=>kV kv.1)) from⟨?_,acc.toList,c,vals,by rw[TL];exact hl⟩),rfl,q _ (I.hok.fresh (N4 _))⟩;rw[NQ];exact z
open PySem.Builtin.Str (occurrences lastOccurrence strSub subAt partsBetween)
open PySem PySem.Spec PyProof.Rows PySem.W
end L2
namespace L2
open PySem PySem.Spec PyProof.Rows
open PySem.Builtin.Str (strSub subAt occurrences)
theorem oA.of{sc scope:Scope}{N M ys:List Str}(h:decide (scope.kind=.function/\(∀y∈scope.names,y.2≠.cell)/\(∀y∈scope.names,y.2=.local->scope.names.lookup y.1=some .local)/\(∀y∈ys,scope.names.lookup y=some .local)/\(ys++M).Nodup/\M.length=N.length/\(∀p∈M.zip N,p.1=p.2\/(BL scope sc).lookup p.1=none)/\(∀y∈M,(BL scope sc).lookup y≠some .local)/\∀n∈scope.names,n.2=.free->sc.names.lookup n.1=some .cell)=true):oA sc N M ys scope:=by
 obtain⟨a,b,c,d,e,f,g,i,j⟩:=of_decide_eq_true h;exact⟨a,b,c,d,e,f,g,i,j⟩
noncomputable def LY:Expr->List Str
 |.Name x _=>[x]
 |.Tuple es _ _=>es.map fun e=>match e with|.Name x _=>x|_=>U1
 |_=>[]
section
variable{X:Cx}{x:Str}{scope:Scope}{elt iter tg cn:Expr}{pos py sp:Pos}{wi:TI}{g:TG}{tc:TT}{te:TE}{n i:Nat}{y:Str}
noncomputable def NJ:=@GA X x X.N scope
noncomputable def NH:=@yH X scope elt iter tg pos wi g te n (LY tg) X.N
noncomputable def NI:=@Js X scope elt iter tg cn pos wi g tc te n (LY tg) X.N
noncomputable def NE:=@Jc X scope elt iter tg cn pos py sp wi g tc te i n y (LY tg) X.N
end
end L2
namespace Gn
end Gn
open L2
local macro_rules | `(tactic| fail "z")=>`(tactic| first
 |(show(0:Int)<_;omega)
 |(unfold HL;omega)
 |(unfold CMul;omega)
 |exact⟨by decide,by decide,by decide⟩)
local macro_rules | `(tactic| fail "1")=>`(tactic| first
 |(with_reducible first|refine MB ?_|refine Kz ?_|refine zA ?_)
 |((with_reducible refine' J_ ?k1 ?_);(case k1=>exact rfl))
 |(with_reducible first|refine NK ?_|refine MH ?_|refine MD ?_|refine MU ?_|refine MJ ?_|refine MT ?_|refine MV ?_|refine MK ?_|refine MQ ?_|refine Ka ?_|refine Mz ?_|refine M0 ?_|refine MC ?_|refine Kl ?_|refine Hb ?_|refine Kk ?_|refine M2 ?_|refine MG ?_|refine KA ?_|refine k_orV ?_|refine Ki ?_|refine MR ?_|refine Hf ?_|refine Df ?_|refine Kw ?_|refine Ky ?_|refine MX ?_|refine My ?_|refine ML ?_|refine Mx ?_|refine Kg ?_|refine MA ?_|refine De ?_|refine Kh ?_|refine MP ?_|refine k_retN ?_|refine Ku ?_|refine k_revT ?_|refine Hd ?_|refine He ?_|refine k_iStr ?_|refine k_iSeq ?_|refine k_isLT ?_|refine Kt ?_|refine k_rev ?_|refine Kv ?_|refine Dg ?_|refine Hc ?_|refine k_par ?_|refine k_fmtS ?_|refine k_fmtI ?_|refine k_jn ?_|refine k_jn0 ?_|refine Mw ?_|refine MO ?_|refine Kj ?_|refine MS ?_|refine Kx ?_|refine Ke ?_|refine k_rng2 ?_|refine G_ ?_|refine Kq ?_|refine MZ ?_|refine MY ?_|refine MW ?_|refine Ha ?_|refine Kr ?_|refine k_break ?_|refine k_cont ?_|refine k_int1 ?_|refine Km ?_|refine M3 ?_|refine we ?_|refine zE ?_|refine G8 ?_|refine G9 ?_|refine k_iteNNT ?_|refine k_iteNNF ?_)
 |((with_reducible refine' jN ?k1 ?_);(case k1=>fail "z"))
 |((with_reducible refine' ME ?k1 ?_);(case k1=>(constructor <;> omega)))
 |((with_reducible refine' MF ?k1 ?_);(case k1=>(constructor <;> omega))))
local macro_rules | `(tactic| walk_at "")=>`(tactic| repeat fail "1")
namespace G1
open PySem L2 Fr
open PySem.W (Dat kqdOk)
noncomputable abbrev ends(Q:VK):cx:={nx:=fun _ H'=>Q .non H',rt:=Q}
noncomputable def e_(n:Nat)(hs:List Int):Prop:=hs.length=n/\∀x∈hs,0<=x/\x<=3
noncomputable abbrev dI(ns:List Int):Dat:=.tuple (ns.map O4)
theorem AccZ.ints{K:Fg}{ns:List Int}(A:AccZ K H0 l H (ns.map O4)):H l=some (.lst (ns.map V.int)):=by
 obtain⟨xs,h1,h2⟩:=A.at_;rw[RpL.ints_of h2] at h1;exact h1
theorem AccZ.strs{K:Fg}{ns:List Str}(A:AccZ K H0 l H (ns.map UF)):H l=some (.lst (ns.map V.str)):=by
 obtain⟨xs,h1,h2⟩:=A.at_;rw[RpL.xA h2] at h1;exact h1
noncomputable abbrev az:Str:="abcdefghijklmnopqrstuvwxyz"
theorem Nj:∀j:Nat,j<26->az.cps.toList[j]?=some (97+j):=by decide +kernel
theorem Le:az.length<=sizeLine:=by decide +kernel
theorem Ni{i:Int}(h0:0<=i)(h1:i<26):tT az.cps.toList i=some (97+i.toNat):=by
 have e:i=((i.toNat:Nat):Int):=by lia
 have q:=aG (Nj i.toNat (by lia));rw[<- e] at q;exact q
noncomputable def Low(z:Str):Prop:=∀x∈z.cps.toList,97<=x/\x<=122
theorem E6(z:Str):z.cps.toList.length=z.length:=by simp[XU]
theorem GZ{c:Nat}(h0:97<=c)(h1:c<=122):Low ⟨#[c]⟩:=fun x hx=>by
 have:x=c:=by simpa using hx
 lia
theorem G0{lo:Option Int}(h:Low z):Low (kq z lo hi):=fun x hx=>by
 have q:x∈(Hi z.cps.toList hi).drop (lo.getD 0).toNat:=by simpa[kq] using hx
 have q2:=TQ q;cases hi with
 |none=>exact h x q2
 |some j=>exact h x (Qi q2)
theorem BA(z:Str)(lo hi:Option Int):(kq z lo hi).length=(Hi z.cps.toList hi).length-(lo.getD 0).toNat:=by
 show(V7 (lo.getD 0).toNat (Hi z.cps.toList hi)).toArray.size=_;rw[Ov,PX]
noncomputable def Li(w:Str):Prop:=1<=w.length/\w.length<=8/\Low w
noncomputable def tW(ws:List Str):Prop:=ws.Nodup/\∀w∈ws,Li w
theorem cq{α:Type}{xs:List α}{x:α}(h:xs.Nodup)(n:x∉xs):(xs++[x]).Nodup:=by
 rw[RV];refine⟨h,by simp,?_⟩;intro a ha b hb e;rw[N7.mp hb] at e;exact n (e ▸ ha)
theorem cy{α:Type}{P:α->Prop}{xs:List α}{x:α}(h:∀y∈xs,P y)(n:P x):∀y∈xs++[x],P y:=fun y hy=>by
 rcases N_.mp hy with q|q
 ·exact h y q
 ·rw[N7.mp q];exact n
noncomputable def j3(q d:Int):Prop:=0<q/\0<d/\Gd.gd q d=1/\q<=10000000000/\d<=10000000000
theorem jE(ns:List Int)(n:Nat):kqdOk (n+1) (dI ns)=true:=by
 show((ns.map O4).all (kqdOk n))=true;rw[Va];intro x hx;obtain⟨i,_,rfl⟩:=N9.mp hx;cases n <;> rfl
theorem An(h:dI a=dI b):a=b:=by
 have:=Dat.tuple.inj h
 exact(WE (fun x y e=>VY e)).mp this
theorem y6{hs:List (List Int)}:dI a∈hs.map dI↔a∈hs:=by
 rw[N9];constructor
 ·rintro⟨b,hb,e⟩;rw[<- An e];exact hb
 ·intro h;exact⟨a,h,rfl⟩
noncomputable def AS(n:Nat)(hs:List (List Int)):Prop:=hs.Nodup/\∀h∈hs,e_ n h
end G1
namespace G1
open PySem L2 Fr
open PySem.W (Dat kqdOk)
structure Tn where
 fr:List Int
 to:List Int
 q:Int
 d:Int
noncomputable def dT(t:Tn):Dat:=.tuple [dI t.fr,dI t.to,dI [t.q,t.d]]
noncomputable def TurnOk(hs:List (List Int))(t:Tn):Prop:=t.fr∈hs/\t.to∈hs/\t.fr≠t.to/\j3 t.q t.d
noncomputable def cM(t:Tn):List Int×List Int:=(t.fr,t.to)
structure AM (hs:List (List Int)) (ts:List Tn):Prop where
 ne:ts≠[]
 le:ts.length<=8
 nd:(ts.map cM).Nodup
 ok:∀t∈ts,TurnOk hs t
noncomputable def dP(p:Nat×Nat):Dat:=dI [(p.1:Int),(p.2:Int)]
theorem KU(h:dP a=dP b):a=b:=by
 have e:=An h;have e1:(a.1:Int)=b.1:=(Sy e).1;have e2:(a.2:Int)=b.2:=(Sy (Sy e).2).1;obtain⟨a1,a2⟩:=a;obtain⟨b1,b2⟩:=b;have e1':a1=b1:=RO e1;have Z0:a2=b2:=RO e2;rw[e1',Z0]
theorem JV{ps:List (Nat×Nat)}:dP a∈ps.map dP↔a∈ps:=by
 rw[N9];constructor
 ·rintro⟨b,hb,e⟩;rw[<- KU e];exact hb
 ·intro h;exact⟨a,h,rfl⟩
noncomputable def vH(n:Nat)(p:Nat×Nat):Prop:=p.1<n/\p.2<n/\p.1≠p.2
noncomputable def Bf(hs:List (List Int))(p:Nat×Nat):List Int×List Int:=(hs.getD p.1 [],hs.getD p.2 [])
structure Good (hs:List (List Int)) (ps:List (Nat×Nat)) (ts:List Tn):Prop where
 nd:ps.Nodup
 le:ps.length<=8
 eq:ts.map cM=ps.map (Bf hs)
 ok:∀p∈ps,vH hs.length p
 pc:∀t∈ts,j3 t.q t.d
theorem getD_mem{hs:List (List Int)}{i:Nat}(h:i<hs.length):hs.getD i []∈hs:=by
 rw[NS,NR h];exact OZ h
theorem jS{hs:List (List Int)}(nd:hs.Nodup){i j:Nat}(hi:i<hs.length)(hj:j<hs.length)(e:hs.getD i []=hs.getD j []):i=j:=by
 rw[NS,NR hi,NS,NR hj] at e;have e':hs[i]=hs[j]:=e;have pw:=List.pairwise_iff_getElem.mp nd;rcases W3 i j with z|z|z
 ·exact absurd e' (pw i j hi hj z)
 ·exact z
 ·exact absurd e'.symm (pw j i hj hi z)
theorem nodup_map_on{α β:Type}{f:α->β}:∀{xs:List α},xs.Nodup->(∀a∈xs,∀b∈xs,f a=f b->a=b)->(xs.map f).Nodup
 |[],_,_=>P5
 |x :: xs,h,hf=>by
  rw[OS,OO];refine⟨fun hm=>?_,nodup_map_on (OO.mp h).2 fun a ha b hb=>hf a (NZ _ ha) b (NZ _ hb)⟩;obtain⟨y,hy,e⟩:=N9.mp hm;rw[<- hf y (NZ _ hy) x NX e] at h;exact(OO.mp h).1 hy
theorem Good.turns(g:Good hs ps ts)(nd:hs.Nodup)(ne:ps≠[]):AM hs ts:=by
 have len:ts.length=ps.length:=by have:=congrArg QD g.eq;simpa using this
 refine⟨fun z=>?_,by rw[len];exact g.le,?_,fun t ht=>?_⟩
 ·rw[z] at len;exact ne (Pb.mp len.symm)
 ·rw[g.eq];refine nodup_map_on g.nd fun a ha b hb e=>?_
  have oa:=g.ok a ha;have ob:=g.ok b hb;have e1:=jS nd oa.1 ob.1 (congrArg Vb e);have e2:=jS nd oa.2.1 ob.2.1 (congrArg Uw e);obtain⟨a1,a2⟩:=a;obtain⟨b1,b2⟩:=b;simp only at e1 e2;rw[e1,e2]
 ·have hm:cM t∈ps.map (Bf hs):=by rw[<- g.eq];exact N9.mpr ⟨t,ht,rfl⟩
  obtain⟨p,hp,e⟩:=N9.mp hm;have op:=g.ok p hp;have e1:hs.getD p.1 []=t.fr:=congrArg Vb e;have e2:hs.getD p.2 []=t.to:=congrArg Uw e;refine⟨e1 ▸ getD_mem op.1,e2 ▸ getD_mem op.2.1,fun z=>op.2.2 ?_,g.pc t ht⟩;rw[<- e1,<- e2] at z;exact jS nd op.1 op.2.1 z
structure wx (ws:List Str) (ts:List Tn):Prop where
 words:tW ws
 w1:1<=ws.length
 w5:ws.length<=5
 turns:∃hs,AS ws.length hs/\hs.length<=8/\AM hs ts
noncomputable def dV(ws:List Str)(ts:List Tn):Dat:=.tuple [.tuple (ws.map UF),.tuple (ts.map dT)]
end G1
namespace L2
open PySem PySem.Spec PyProof.Rows
open PySem.W (Dat kqdOk)
theorem dA{K:Fg}:OA K (.type "NoneType") (.type "bool")=some false:=by
 show Ol K (.type "NoneType") (.type "bool")=some false;unfold Ol;kernel_rfl
theorem eE{K:Fg}:OA K (.type "NoneType") (.type "int")=some false:=by
 show Ol K (.type "NoneType") (.type "int")=some false;unfold Ol;kernel_rfl
theorem eA{K:Fg}:OA K (.type "NoneType") (.type "str")=some false:=by
 show Ol K (.type "NoneType") (.type "str")=some false;unfold Ol;kernel_rfl
theorem gN{K:Fg}:OA K (.type "NoneType") (.type "tuple")=some false:=by
 show Ol K (.type "NoneType") (.type "tuple")=some false;unfold Ol;kernel_rfl
theorem ia{K:Fg}:OA K (.type "NoneType") (.type "list")=some false:=by
 show Ol K (.type "NoneType") (.type "list")=some false;unfold Ol;kernel_rfl
theorem cK{K:Fg}:OA K (.type "bool") (.type "bool")=some true:=by rfl
theorem pZ{K:Fg}:OA K (.type "bool") (.type "int")=some true:=by
 show Ol K (.type "bool") (.type "int")=some true;unfold Ol;kernel_rfl
theorem pY{K:Fg}:OA K (.type "bool") (.type "str")=some false:=by
 show Ol K (.type "bool") (.type "str")=some false;unfold Ol;kernel_rfl
theorem kG{K:Fg}:OA K (.type "bool") (.type "tuple")=some false:=by
 show Ol K (.type "bool") (.type "tuple")=some false;unfold Ol;kernel_rfl
theorem nJ{K:Fg}:OA K (.type "bool") (.type "list")=some false:=by
 show Ol K (.type "bool") (.type "list")=some false;unfold Ol;kernel_rfl
theorem cA{K:Fg}:OA K (.type "int") (.type "bool")=some false:=by
 show Ol K (.type "int") (.type "bool")=some false;unfold Ol;kernel_rfl
theorem dO{K:Fg}:OA K (.type "int") (.type "int")=some true:=by rfl
theorem tm{K:Fg}:OA K (.type "int") (.type "str")=some false:=by
 show Ol K (.type "int") (.type "str")=some false;unfold Ol;kernel_rfl
theorem gM{K:Fg}:OA K (.type "int") (.type "tuple")=some false:=by
 show Ol K (.type "int") (.type "tuple")=some false;unfold Ol;kernel_rfl
theorem iA{K:Fg}:OA K (.type "int") (.type "list")=some false:=by
 show Ol K (.type "int") (.type "list")=some false;unfold Ol;kernel_rfl
theorem iy{K:Fg}:OA K (.type "str") (.type "bool")=some false:=by
 show Ol K (.type "str") (.type "bool")=some false;unfold Ol;kernel_rfl
theorem jM{K:Fg}:OA K (.type "str") (.type "int")=some false:=by
 show Ol K (.type "str") (.type "int")=some false;unfold Ol;kernel_rfl
theorem jL{K:Fg}:OA K (.type "str") (.type "str")=some true:=by rfl
theorem nG{K:Fg}:OA K (.type "str") (.type "tuple")=some false:=by
 show Ol K (.type "str") (.type "tuple")=some false;unfold Ol;kernel_rfl
theorem pU{K:Fg}:OA K (.type "str") (.type "list")=some false:=by
 show Ol K (.type "str") (.type "list")=some false;unfold Ol;kernel_rfl
theorem kF{K:Fg}:OA K (.type "tuple") (.type "bool")=some false:=by
 show Ol K (.type "tuple") (.type "bool")=some false;unfold Ol;kernel_rfl
theorem nF{K:Fg}:OA K (.type "tuple") (.type "int")=some false:=by
 show Ol K (.type "tuple") (.type "int")=some false;unfold Ol;kernel_rfl
theorem nB{K:Fg}:OA K (.type "tuple") (.type "str")=some false:=by
 show Ol K (.type "tuple") (.type "str")=some false;unfold Ol;kernel_rfl
theorem cb{K:Fg}:OA K (.type "tuple") (.type "tuple")=some true:=by rfl
theorem f9{K:Fg}:OA K (.type "tuple") (.type "list")=some false:=by
 show Ol K (.type "tuple") (.type "list")=some false;unfold Ol;kernel_rfl
theorem nH{K:Fg}:OA K (.type "list") (.type "bool")=some false:=by
 show Ol K (.type "list") (.type "bool")=some false;unfold Ol;kernel_rfl
theorem pX{K:Fg}:OA K (.type "list") (.type "int")=some false:=by
 show Ol K (.type "list") (.type "int")=some false;unfold Ol;kernel_rfl
theorem pV{K:Fg}:OA K (.type "list") (.type "str")=some false:=by
 show Ol K (.type "list") (.type "str")=some false;unfold Ol;kernel_rfl
theorem df{K:Fg}:OA K (.type "list") (.type "tuple")=some false:=by
 show Ol K (.type "list") (.type "tuple")=some false;unfold Ol;kernel_rfl
theorem cJ{K:Fg}:OA K (.type "list") (.type "list")=some true:=by rfl
noncomputable abbrev Ra(K:Fg)(H:Hp):V->Dat->Prop:=Rp K (fun _=>True) H
noncomputable def Mo:Nat->Dat->Bool
 |_,.none=>true
 |_,.bool _=>true
 |_,.int _=>true
 |_,.str _=>true
 |n+1,.tuple ds=>decide (ds.length<=1000) && ds.all (Mo n)
 |n+1,.list ds=>decide (ds.length<=1000) && ds.all (Mo n)
 |_,_=>false
theorem EM{K:Fg}{Q:VK}{v:V}(e:SqT K H p xs)(a:tT xs i=some v)(h:Q v H):Gh K (.ref p) (.int i) H Q:=.inr (.inl (aF e a h))
theorem EN{K:Fg}{Q:VK}{v:V}(e:SqL K H p xs)(a:tT xs i=some v)(h:Q v H):Gh K (.ref p) (.int i) H Q:=.inl (cj e a h)
end L2
namespace Sm
open PySem L2 G1
open PySem.W (Dat kqdOk)
noncomputable def oJ(K:Fg)(n:Nat):Sp:=fun vs H Q _=>∃(v1 v2:V) (d1 d2:Dat),vs=[v1,v2]/\Ra K H v1 d1/\Ra K H v2 d2/\Mo n d2=true/\(d1=d2->Q (.bl true) H)/\(d1≠d2->Q (.bl false) H)
theorem zm{K:Fg}{vs:List V}{x y:Str}(h:oJ K n vs H Q E):vs.length=[x,y].length:=by
 obtain⟨a,b,c,d,rfl,_⟩:=h;rfl
noncomputable def qZ (K:Fg):TS:=(am (aI (tB (aZ (bN K) (ac (aa 1) (ac (tC (.ty "bool")) ae))))
 (aA (cZ (aZ (bN K) (ac (aa 0) (ac (tC (.ty "bool")) ae))) (aq fF (aa 0) (aa 1))))
 aO)
 (am (aI (tB (aZ (bN K) (ac (aa 1) (ac (tC (.ty "int")) ae))))
 (aA (cZ (aZ (bN K) (ac (aa 0) (ac (tC (.ty "int")) ae))) (cZ (mn (aZ (bN K) (ac (aa 0) (ac (tC (.ty "bool")) ae)))) (aq fF (aa 0) (aa 1)))))
 aO)
 (am (aI (tB (aZ (bN K) (ac (aa 1) (ac (tC (.ty "str")) ae))))
 (aA (cZ (aZ (bN K) (ac (aa 0) (ac (tC (.ty "str")) ae))) (aq fF (aa 0) (aa 1))))
 aO)
 (aA (cZ (aq ky (aa 1) (tC .non)) (aq ky (aa 0) (tC .non)))))))
noncomputable def q_ (K:Fg):TS:=(am (aI (qO (tB (aZ (bN K) (ac (aa 1) (ac (tC (.ty "tuple")) ae)))) (tB (aZ (bN K) (ac (aa 1) (ac (tC (.ty "list")) ae)))))
 oG
 aO)
 (qZ K))
theorem FS{K:Fg}{Q:VK}{u:Option V}(r1:Ra K H v1 d1)(r2:Ra K H v2 d2)(n1:∀ds,d2≠.tuple ds)(n2:∀ds,d2≠.list ds)(h1:d1=d2->Q (.bl true) H)(h2:d1≠d2->Q (.bl false) H) :
  qZ K (ends Q) [some v1,some v2,u] H:=by
 have no:∀{a b:Dat},(a=b->False)->d1=a->d2=b->Q (.bl false) H:=fun q e1 e2=>h2 fun z=>q (e1.symm.trans (z.trans e2))
 unfold qZ;cases r2 with
 |non =>
  walk_at "";refine aY .non dA ?_;walk_at "";refine aY .non eE ?_;walk_at "";refine aY .non eA ?_;walk_at "";refine a6 (fun _=>?_) (fun z=>absurd rfl z);walk_at "";cases r1 with
  |non=>exact h1 rfl
  |bl b=>exact h2 (fun z=>by cases z)
  |int b=>exact h2 (fun z=>by cases z)
  |str b=>exact h2 (fun z=>by cases z)
  |tup e r=>exact h2 (fun z=>by cases z)
  |lst s e r=>exact h2 (fun z=>by cases z)
 |bl b =>
  walk_at "";refine aY (.bl b) cK ?_;walk_at "";cases r1 with
  |non =>
   refine aY .non dA ?_;walk_at "";exact h2 (fun z=>by cases z)
  |bl c =>
   refine aY (.bl c) cK ?_;walk_at "";by_cases z:c=b
   ·rw[decide_eq_true z];exact h1 (by rw[z])
   ·rw[decide_eq_false z];exact h2 (fun q=>z (Dat.bool.inj q))
  |int c =>
   refine aY (.int c) cA ?_;walk_at "";exact h2 (fun z=>by cases z)
  |str c =>
   refine aY (.str c) iy ?_;walk_at "";exact h2 (fun z=>by cases z)
  |tup e r =>
   refine aY (.tup e) kF ?_;walk_at "";exact h2 (fun z=>by cases z)
  |lst s e r =>
   refine aY (.lst e) nH ?_;walk_at "";exact h2 (fun z=>by cases z)
 |int b =>
  walk_at "";refine aY (.int b) cA ?_;walk_at "";refine aY (.int b) dO ?_;walk_at "";cases r1 with
  |non =>
   refine aY .non eE ?_;walk_at "";exact h2 (fun z=>by cases z)
  |bl c =>
   refine aY (.bl c) pZ ?_;walk_at "";refine aY (.bl c) cK ?_;walk_at "";exact h2 (fun z=>by cases z)
  |int c =>
   refine aY (.int c) dO ?_;walk_at "";refine aY (.int c) cA ?_;walk_at "";by_cases z:c=b
   ·rw[decide_eq_true z];exact h1 (by rw[z])
   ·rw[decide_eq_false z];exact h2 (fun q=>z (VY q))
  |str c =>
   refine aY (.str c) jM ?_;walk_at "";exact h2 (fun z=>by cases z)
  |tup e r =>
   refine aY (.tup e) nF ?_;walk_at "";exact h2 (fun z=>by cases z)
  |lst s e r =>
   refine aY (.lst e) pX ?_;walk_at "";exact h2 (fun z=>by cases z)
 |str b =>
  walk_at "";refine aY (.str b) iy ?_;walk_at "";refine aY (.str b) jM ?_;walk_at "";refine aY (.str b) jL ?_;walk_at "";cases r1 with
  |non =>
   refine aY .non eA ?_;walk_at "";exact h2 (fun z=>by cases z)
  |bl c =>
   refine aY (.bl c) pY ?_;walk_at "";exact h2 (fun z=>by cases z)
  |int c =>
   refine aY (.int c) tm ?_;walk_at "";exact h2 (fun z=>by cases z)
  |str c =>
   refine aY (.str c) jL ?_;walk_at "";by_cases z:c=b
   ·rw[decide_eq_true z];exact h1 (by rw[z])
   ·rw[decide_eq_false z];exact h2 (fun q=>z (UF.inj q))
  |tup e r =>
   refine aY (.tup e) nB ?_;walk_at "";exact h2 (fun z=>by cases z)
  |lst s e r =>
   refine aY (.lst e) pV ?_;walk_at "";exact h2 (fun z=>by cases z)
 |tup e r=>exact absurd rfl (n1 _)
 |lst s e r=>exact absurd rfl (n2 _)
theorem BR{K:Fg}{vs:List V}{N:List Str}(hN:N.length=3)(h:oJ K 0 vs H Q E):q_ K (ends Q) (L2.start N vs) H:=by
 obtain⟨v1,v2,d1,d2,rfl,r1,r2,ok,h1,h2⟩:=h;rw[L2.aU hN];walk_at "t";have n1:∀ds,d2≠.tuple ds:=fun ds z=>by rw[z] at ok;cases ok
 have n2:∀ds,d2≠.list ds:=fun ds z=>by rw[z] at ok;cases ok
 have fin:=FS (u:=none) r1 r2 n1 n2 h1 h2;unfold q_;cases r2 with
 |non =>
  walk_at "";refine aY .non gN ?_;walk_at "";refine aY .non ia ?_;walk_at "";exact fin
 |bl b =>
  walk_at "";refine aY (.bl b) kG ?_;walk_at "";refine aY (.bl b) nJ ?_;walk_at "";exact fin
 |int b =>
  walk_at "";refine aY (.int b) gM ?_;walk_at "";refine aY (.int b) iA ?_;walk_at "";exact fin
 |str b =>
  walk_at "";refine aY (.str b) nG ?_;walk_at "";refine aY (.str b) pU ?_;walk_at "";exact fin
 |tup e r=>exact absurd rfl (n1 _)
 |lst s e r=>exact absurd rfl (n2 _)
end Sm
namespace Vs
open PySem L2 Fr G1 Sm
open PySem.W (Dat kqdOk)
noncomputable def b7(hs:List (List Int))(h:List Int):List (List Int):=if h∈hs then hs else hs++[h]
noncomputable def iN(hs:List (List Int))(ts:List Tn):List (List Int):=ts.foldl (fun hs t=>b7 (b7 hs t.fr) t.to) hs
noncomputable def aC(ts:List Tn):List (List Int):=iN [] ts
theorem nN(hs:List (List Int))(h:List Int):(b7 hs h).length<=hs.length+1:=by
 unfold b7;split
 ·lia
 ·simp
theorem nU:∀(ts:List Tn) (hs:List (List Int)),(iN hs ts).length<=hs.length+2*ts.length
 |[],hs=>by simp[iN]
 |t :: ts,hs=>by
  have h1:=nU ts (b7 (b7 hs t.fr) t.to);have h2:=nN (b7 hs t.fr) t.to;have h3:=nN hs t.fr;show(iN (b7 (b7 hs t.fr) t.to) ts).length<=_;rw[Oz];lia
theorem qj(hs:List (List Int))(ts:List Tn)(t:Tn):iN hs (ts++[t])=b7 (b7 (iN hs ts) t.fr) t.to:=by
 unfold iN;rw[PQ];rfl
noncomputable def iP(h:List Int):List bf:=h.map R3
theorem kJ(h:List Int):(iP h).map kV=h.map V.int:=by
 unfold iP;rw[Ph];rfl
theorem wN(h:iP a=iP b):a=b:=(WE (fun x y e=>SL e)).mp h
theorem o_{de:List (List bf×V)}{hs:List (List Int)}(e:de.map (·.1)=hs.map iP)(h:List Int)(v:V):(cm de (iP h) v).map (·.1)=(b7 hs h).map iP:=by
 have any:(de.any fun kv=>decide (kv.1=iP h))=decide (h∈hs):=by
  rw[QH,List.any_eq_true,decide_eq_true_iff];constructor
  ·rintro⟨kv,hm,q⟩
   have:kv.1∈hs.map iP:=by rw[<- e];exact N9.mpr ⟨kv,hm,rfl⟩
   obtain⟨g,hg,eg⟩:=N9.mp this;rw[of_decide_eq_true q] at eg;rw[<- wN eg];exact hg
  ·intro hm
   have:iP h∈de.map (·.1):=by rw[e];exact N9.mpr ⟨h,hm,rfl⟩
   obtain⟨kv,hk,ek⟩:=N9.mp this;exact⟨kv,hk,decide_eq_true ek⟩
 unfold cm b7;rw[any];by_cases z:h∈hs
 ·rw[if_pos z,decide_eq_true z,if_pos rfl,Ph,<- e];refine Py fun kv _=>?_
  show(if kv.1=iP h then (kv.1,v) else kv).1=kv.1;split <;> rfl
 ·rw[if_neg z,decide_eq_false z,if_neg OH,N1,N1,e];rfl
theorem zr{K:Fg}{H:Hp}:∀{de:List (List bf×V)} {hs:List (List Int)} {bs:List Addr},de.map (·.1)=hs.map iP->Paired (fun(p:List bf×V) b=>H b=some (.tup (p.1.map kV))) de bs->RzL K H (bs.map V.ref) (hs.map dI)
 |[],[],_,_,.nil=>.nil
 |[],h :: hs,_,e,_=>by simp at e
 |kv :: de,[],_,e,_=>by simp at e
 |kv :: de,h :: hs,_,e,.cons q t=>by
  have e1:kv.1=iP h:=(Sy e).1;have e2:=(Sy e).2;rw[e1,kJ] at q;exact .cons (.tup q (RpL.ints h)) (zr e2 t)
noncomputable def i5(K:Fg):Sp:=fun vs H Q _=>∃(v:V) (ts:List Tn),vs=[v]/\Rz K H v (.tuple (ts.map dT))/\ts.length<=100/\∀(p:Addr) (H':Hp),AccZ K H p H' ((aC ts).map dI)->Q (.ref p) H'
noncomputable def iW(K:Fg):TS:=(am (av xq (ak 1))
 (am (be (tt K (aa 0)) (ak 2)
 (am (o7 (aa 1) (aq (aE K) (aa 2) (tC (.int 0))) (tC (.bl true)))
 (o7 (aa 1) (aq (aE K) (aa 2) (tC (.int 1))) (tC (.bl true)))))
 (aA (aZ El (ac (aa 1) ae)))))
theorem tL{K:Fg}(h:Rz K H v (dT t)):∃(a:Addr) (v1 v2 v3:V),v=.ref a/\H a=some (.tup [v1,v2,v3])/\Rz K H v1 (dI t.fr)/\Rz K H v2 (dI t.to)/\Rz K H v3 (dI [t.q,t.d]):=by
 obtain⟨a,xs,e,ha,r⟩:=h.cP;cases r with
 |cons r1 r =>
  cases r with
  |cons r2 r =>
   cases r with
   |cons r3 r =>
    cases r;exact⟨a,_,_,_,e,ha,r1,r2,r3⟩
theorem eM{K:Fg}(h:Rz K H v (dI ns)):∃a:Addr,v=.ref a/\H a=some (.tup (ns.map V.int)):=by
 obtain⟨a,xs,e,ha,r⟩:=h.cP;rw[RpL.ints_of r] at ha;exact⟨a,e,ha⟩
theorem vV{K:Fg}{vs:List V}{N:List Str}(hN:N.length=3)(h:i5 K vs H Q E):iW K (ends Q) (L2.start N vs) H:=by
 obtain⟨v,ts,rfl,rv,hl,k⟩:=h;obtain⟨a,xs,rfl,ha,rx⟩:=rv.cP;rw[L2.aU hN];walk_at "t";have lx:xs.length=ts.length:=by rw[rx.length,NQ]
 unfold iW;walk_at "";intro d nd;walk_at "";refine Kb (SqT.of ((aj nd _) _ _ ha)) ?_;refine tw (xs:=xs) (fun i σ H2=>∃(de:List (List bf×V)) (u:Option V),σ=[some (.ref a),some (.ref d),u]/\Same H H2/\H2 d=some (.dT de)/\de.map (·.1)=(aC (ts.take i)).map iP) ⟨[],none,rfl,aj nd _,ag,rfl⟩ ?_ ?_ ?_
 ·rintro i σ H2 _ ⟨de,u,rfl,S,ed,ek⟩;exact SqT.of (S _ _ ha)
 ·rintro i z σ H2 hz ⟨de,u,rfl,S,ed,ek⟩;obtain⟨dd,g1,g2⟩:=rx.get hz;rw[NW] at g1;obtain⟨t,ht,rfl⟩:=N8.mp g1;obtain⟨at_,v1,v2,v3,rfl,hat,r1,r2,_⟩:=tL (g2.same S);obtain⟨b1,rfl,Zb⟩:=eM r1;obtain⟨b2,rfl,Zu⟩:=eM r2;have ti:i<ts.length:=(NT.mp ht).1;have kl:de.length=(aC (ts.take i)).length:=by have:=congrArg QD ek;simpa using this
  have Y8:=nU (ts.take i) [];rw[Ot] at Y8;have kl2:de.length<=2*i:=by rw[kl];unfold aC;simp only[SD] at Y8;lia
  have e1:=o_ ek t.fr (.bl true);have e2:=o_ e1 t.to (.bl true);have le1:=cr de (iP t.fr) (.bl true);have n1:b1≠d:=kD Zb ed (by intro z;cases z);have n2:b2≠d:=kD Zu ed (by intro z;cases z);have n3:at_≠d:=kD hat ed (by intro z;cases z);walk_at "";refine aF (SqT.of hat) (v:=.ref b1) rfl ?_;refine⟨d,_,rfl,DPut.t ed (k:=iP t.fr) (by rw[kJ];exact Zb) (ar (by lia)),?_⟩;walk_at "";refine aF (SqT.of (by rw[aB n3];exact hat)) (v:=.ref b2) rfl ?_;refine⟨d,_,rfl,DPut.t ag (k:=iP t.to) (by rw[kJ,aB n2];exact Zu) (ar (by lia)),?_⟩;rw[Fi];refine⟨_,_,rfl,fun b o q=>?_,ag,?_⟩
  ·rw[aB (au q nd)];exact S _ _ q
  ·rw[e2];congr 1;have et:ts.take (i+1)=ts.take i++[t]:=by rw[Oj,ht];rfl
   rw[et];exact(qj [] (ts.take i) t).symm
 ·rintro σ H2 ⟨de,u,rfl,S,ed,ek⟩;rw[lx,Oh (N4 _)] at ek;walk_at "";refine⟨d,de,rfl,ed,fun l bs nl pr=>?_⟩;have S2:=aj nl (.lst (bs.map V.ref));exact k l _ ⟨S.trans S2,S.free nl,_,ag,(zr ek pr).same S2⟩
noncomputable def c7(K:Fg):Sp:=fun vs H Q _=>∃(v:V) (ws:List Str) (ts:List Tn),vs=[v]/\Rz K H v (dV ws ts)/\ts.length<=100/\∀(p:Addr) (H':Hp),AccZ K H p H' ((aC ts).map dI)->Q (.ref p) H'
theorem tJ{K:Fg}(h:Rz K H v (dV ws ts)):∃(a:Addr) (v1 v2:V),v=.ref a/\H a=some (.tup [v1,v2])/\Rz K H v1 (.tuple (ws.map UF))/\Rz K H v2 (.tuple (ts.map dT)):=by
 obtain⟨a,xs,e,ha,r⟩:=h.cP;cases r with
 |cons r1 r =>
  cases r with
  |cons r2 r =>
   cases r;exact⟨a,_,_,e,ha,r1,r2⟩
noncomputable def rG(K:Fg):TS:=(aA (ay (i5 K) [] E0 (ac (aq (aE K) (aa 0) (tC (.int 1))) ae)))
theorem Cd{K:Fg}{vs:List V}{N:List Str}(hN:N.length=1)(h:c7 K vs H Q E):rG K (ends Q) (L2.start N vs) H:=by
 obtain⟨v,ws,ts,rfl,rv,hl,k⟩:=h;obtain⟨a,v1,v2,rfl,ha,r1,r2⟩:=tJ rv;rw[L2.aU hN];walk_at "t";unfold rG;walk_at "";refine aF (SqT.of ha) (v:=v2) rfl ?_;exact⟨v2,ts,rfl,r2,hl,k⟩
end Vs
namespace G2
open PySem L2 Fr G1
open PySem.W (Dat kqdOk)
noncomputable def NP(n:Int):Prop:=0<=n/\n<2147483587
noncomputable def fX:Sp:=fun vs H Q _=>∃c p:Int,vs=[.int c,.int p]/\0<=p/\p<=1000/\∀m:Int,NP m->Q (.int m) H
noncomputable def wV(K:Fg):TS:=(am (av (aq bi (aq bG (aq bG (aq (rI CMul fun i j=>.int (i*j)) (aq bi (aa 0) (tC (.int 2147483629))) (tC (.int 16807))) (aq (rI CMul fun i j=>.int (i*j)) (tC (.int 69621)) (aa 1))) (tC (.int 11))) (tC (.int 2147483629))) (ak 2))
 (am (av (aq bi (aq bG (aq bG (aq (rI CMul fun i j=>.int (i*j)) (aa 2) (aa 2)) (aq (rI CMul fun i j=>.int (i*j)) (tC (.int 48271)) (aa 1))) (tC (.int 7))) (tC (.int 2147483629))) (ak 2))
 (aA (aq bi (aq bG (aq (rI CMul fun i j=>.int (i*j)) (aa 2) (aa 2)) (tC (.int 69621))) (tC (.int 2147483587))))))
theorem FY{K:Fg}{vs:List V}{N:List Str}(hN:N.length=3)(h:fX vs H Q E):wV K (ends Q) (L2.start N vs) H:=by
 obtain⟨c,p,rfl,h0,h1,k⟩:=h;rw[L2.aU hN];walk_at "t";unfold wV;walk_at "";generalize hx:(c % 2147483629*16807+69621*p+11) % 2147483629=x;have x0:0<=x/\x<2147483629:=by lia
 walk_at "";generalize hy:(x*x+48271*p+7) % 2147483629=y;have y0:0<=y/\y<2147483629:=by lia
 walk_at "";exact k _ ⟨by lia,by lia⟩
noncomputable def xj(K:Fg):TS:=(am (fV (aH (aq kP (aa 1) (tC (.int 0))))
 (Ih 0 1 (ac (aa 1) (ac (aq Cr (aa 0) (aa 1)) ae))))
 (aA (aZ Cu (ac (aa 0) ae))))
theorem F8{K:Fg}{vs:List V}{N:List Str}(hN:N.length=2)(h:ko vs H Q E):xj K (ends Q) (L2.start N vs) H:=by
 obtain⟨a,b,rfl,k⟩:=h;rw[L2.aU hN];walk_at "t";unfold xj
 refine gD (fun σ H'=>H'=H/\∃i j:Int,σ=[some (.int i),some (.int j)]/\Gd.gd i j=Gd.gd a b)
  (fun σ _=>match σ with | [_,some (.int j)]=>j.natAbs|_=>0) ⟨rfl,a,b,rfl,rfl⟩ ?_ ?_
 ·rintro σ H' ⟨rfl,i,j,rfl,e⟩;refine⟨_,rfl,rfl,_,rfl,KF (fun hj=>?_) (fun hj=>?_)⟩
  ·refine⟨_,rfl,_,rfl,_,rfl,_,_,rfl,rfl,hj,_,_,rfl,⟨rfl,j,i.fmod j,rfl,(Gd.zQ i j).trans e⟩,?_⟩;exact Gd.zS hj
  ·subst hj;refine⟨_,rfl,_,rfl,?_⟩;rw[Gd.EV,e];exact k
 ·rintro σ H' R R' h ⟨v,e,sc,c,ec,q⟩;exact⟨v,e,sc,c,ec,h _ _ q⟩
noncomputable def sj(K:Fg):Sp:=fun vs H Q _=>∃a b:Int,vs=[.int a,.int b]/\∀(p:Addr) (q d:Int) (H':Hp),Same H H'->j3 q d->Rz K H' (.ref p) (dI [q,d])->Q (.ref p) H'
theorem p9:(10:Int) ^ (9:Int).toNat=1000000000:=by decide +kernel
theorem M8:Gd.gd 1 1=1:=by decide +kernel
noncomputable def mC(K:Fg):Sp:=fun vs H Q _=>∃n m:Int,vs=[.int n,.int m]/\0<=n/\1<=m/\m<=5/\∀(p:Addr) (H':Hp) (ws:List Str),Same H H'->tW ws->ws.length=m.toNat->Rz K H' (.ref p) (.tuple (ws.map UF))->Q (.ref p) H'
theorem Fe:∀j:Nat,j<4->(kq "xyz" none (some (j:Int))).length<=3/\Low (kq "xyz" none (some (j:Int))):=by
 intro j hj;have sl:=BA ("xyz":Str) none (some (j:Int));have l3:(("xyz":Str)).length=3:=by decide +kernel
 refine⟨?_,G0 ?_⟩
 ·rw[sl];simp only[Hi,Ot,E6,l3,Option.getD];lia
 ·intro x hx
  have:(("xyz":Str)).cps.toList=[120,121,122]:=by decide +kernel
  rw[this] at hx;simp only[Od,OY,or_false] at hx;lia
theorem jY(a b:Str):(a++b).cps.toList=a.cps.toList++b.cps.toList:=by
 show(a.cps++b.cps).toList=_;exact Array.toList_append
theorem zc(h1:Low a)(h2:Low b):Low (a++b):=fun x hx=>by
 rw[jY] at hx;rcases N_.mp hx with q|q
 ·exact h1 x q
 ·exact h2 x q
noncomputable def lV (K:Fg):TS:=(am (av (tC (.str "abcdefghijklmnopqrstuvwxyz")) (ak 2))
 (am (av (ca ae) (ak 3))
 (am (be (cC (ac (aa 1) ae)) (ak 4)
 (am (av (aq Ct (aa 2) (aq bi (aq bG (aa 0) (aq (rI CMul fun i j=>.int (i*j)) (tC (.int 5)) (aa 4))) (tC (.int 26)))) (ak 5))
 (bE (eJ K "list" aM (aa 3) (ac (aq Gj (aq Gj (aa 5) (LL IM (tC (.str "xyz")) mz (Bm (aq bi (aq c8 (aa 0) (tC (.int 26))) (tC (.int 4)))))) (aq Gg (aa 5) (aq bi (aq c8 (aa 0) (tC (.int 104))) (tC (.int 2))))) ae)))))
 (aA (aZ (jo K) (ac (aa 3) ae))))))
theorem x5{K:Fg}{vs:List V}{N:List Str}(hN:N.length=6)(h:mC K vs H Q E):lV K (ends Q) (L2.start N vs) H:=by
 obtain⟨n,m,rfl,n0,m1,m5,k⟩:=h;rw[L2.aU hN];walk_at "t";unfold lV;walk_at "";refine⟨by decide,fun l nl=>?_⟩;walk_at ""
 refine a8 (fun i σ H2=>∃(ws:List Str) (v4 v5:Option V),σ=[some (.int n),some (.int m),some (.str az),some (.ref l),v4,v5]/\AccZ K H l H2 (ws.map UF)/\ws.length=i/\tW ws /\
   ∀(j:Nat) (w:Str),ws[j]?=some w->w.cps.toList[0]?=some (97+((n+5*(j:Int)) % 26).toNat))
  ⟨[],none,none,rfl,AccZ.start (Same.refl _) nl,rfl,⟨P5,by simp⟩,by simp⟩ ?_ ?_
 ·rintro i σ H2 hi ⟨ws,v4,v5,rfl,A,hl,hw,hj⟩;have e0:(0:Int)+(i:Int)=(i:Int):=by lia
  rw[e0];have f0:=QJ (n+5*(i:Int)) (b:=26) (by lia);have f1:=Qe (n+5*(i:Int)) (b:=26) (by lia);walk_at "";refine MN Le (Ni f0 f1) ?_;have lf:=GZ (c:=97+((n+5*(i:Int)) % 26).toNat) (by lia) (by lia);have ZR:(⟨#[97+((n+5*(i:Int)) % 26).toNat]⟩:Str).length=1:=rfl;have hd1:(⟨#[97+((n+5*(i:Int)) % 26).toNat]⟩:Str).cps.toList[0]?=some (97+((n+5*(i:Int)) % 26).toNat):=rfl;generalize hf:(⟨#[97+((n+5*(i:Int)) % 26).toNat]⟩:Str)=fw at lf ZR hd1 ⊢;walk_at "";refine⟨A.ty,?_⟩;walk_at "";have j0:0<=n / 26 % 4:=by lia
  have ej:n / 26 % 4=(((n / 26 % 4).toNat:Nat):Int):=by lia
  have xc:=Fe (n / 26 % 4).toNat (by lia);rw[<- ej] at xc;refine⟨_,rfl,by decide +kernel,trivial,j0,?_⟩;generalize kq "xyz" none (some (n / 26 % 4))=mid at xc ⊢;refine EO (by rw[ZR,show sizeLine=16777216 by decide];lia) ?_;walk_at "";refine Kf (by lia) ?_;generalize he:(if n / 104 % 2=0 then U1 else fw)=tl
  have tlo:tl.length<=1/\Low tl:=by
   rw[<- he];split
   ·exact⟨by decide,fun x hx=>by cases hx⟩
   ·exact⟨by lia,lf⟩
  have lnew:(fw++mid++tl).length=fw.length+mid.length+tl.length:=by rw[Wl,Wl]
  refine EO (by rw[Wl,ZR,show sizeLine=16777216 by decide];lia) ?_;walk_at "";refine cB A (.str _) (ar (by rw[NQ];lia)) fun H3 A3 _ _ _=>?_
  have hd2:(fw++mid++tl).cps.toList[0]?=some (97+((n+5*(i:Int)) % 26).toNat):=by
   rw[jY,jY,Pi,O5 (by rw[E6,ZR];lia)];exact hd1
  walk_at "";refine⟨ws++[fw++mid++tl],_,_,rfl,by rw[N1];exact A3,by simp[hl],⟨cq hw.1 fun hx=>?_,cy hw.2 ⟨by lia,by lia,zc (zc lf xc.2) tlo.2⟩⟩,fun j w e=>?_⟩
  ·obtain⟨j,hj1,hj2⟩:=Pa.mp hx;have g:=hj j _ (by rw[NR hj1,hj2]);rw[hd2] at g;have g':=Oq g;omega
  ·by_cases lt:j<ws.length
   ·rw[O5 lt] at e;exact hj j w e
   ·rw[Pj (by lia)] at e
    have z:j-ws.length=0:=by
     rcases WF (j-ws.length) with z|z
     ·exact z
     ·rw[OG (by simp;lia)] at e;cases e
    rw[z] at e;have e':fw++mid++tl=w:=by simpa using e
    have ej2:j=i:=by lia
    rw[<- e',ej2];exact hd2
 ·rintro σ H2 ⟨ws,v4,v5,rfl,A,hl,hw,hj⟩;have e:=AccZ.strs A;walk_at "";refine qe (SqL.of e) fun p np=>?_
  exact k p _ ws (A.same.trans (aj np _)) hw hl (.tup ag (RpL.strs ws))
noncomputable def so(K:Fg):Sp:=fun vs H Q _=>∃(c k m t:Int) (pl:Bool),vs=[.int c,.int k,.int m,.int t,.bl pl]/\0<=k/\k<=100/\0<=m/\m<=5/\2<=t/\t<=4/\∀(p:Addr) (H':Hp) (hs:List Int),Same H H'->e_ m.toNat hs->Rz K H' (.ref p) (dI hs)->Q (.ref p) H'
noncomputable def rH(K:Fg):TS:=(am (av (aa 0) (ak 5))
 (am (aI (aH (aq vW (aa 1) (tC (.int 5))))
 (av (aq c8 (aa 0) (tC (.int 1024))) (ak 5))
 aO)
 (am (av (ca ae) (ak 6))
 (am (be (cC (ac (aa 2) ae)) (ak 7)
 (aI (tB (aa 4))
 (am (bE (eJ K "list" aM (aa 6) (ac (aq bi (aa 5) (aa 3)) ae)))
 (av (aq c8 (aa 5) (aa 3)) (ak 5)))
 (bE (eJ K "list" aM (aa 6) (ac (aq bi (ay fX [] E0 (ac (aa 0) (ac (aq bG (aq (rI CMul fun i j=>.int (i*j)) (tC (.int 5)) (aa 1)) (aa 7)) ae))) (aa 3)) ae)))))
 (aA (aZ (jo K) (ac (aa 6) ae)))))))
theorem Ce{K:Fg}{vs:List V}{N:List Str}(hN:N.length=8)(h:so K vs H Q E):rH K (ends Q) (L2.start N vs) H:=by
 obtain⟨c,kk,m,t,pl,rfl,k0,k1,m0,m5,t2,t4,k⟩:=h;rw[L2.aU hN];walk_at "t";unfold rH;walk_at "";have rest:∀z0:Int,(am (av (ca ae) (ak 6)) (am (be (cC (ac (aa 2) ae)) (ak 7)
 (aI (tB (aa 4))
 (am (bE (eJ K "list" aM (aa 6) (ac (aq bi (aa 5) (aa 3)) ae)))
 (av (aq c8 (aa 5) (aa 3)) (ak 5)))
 (bE (eJ K "list" aM (aa 6) (ac (aq bi (ay fX [] E0 (ac (aa 0) (ac (aq bG (aq (rI CMul fun i j=>.int (i*j)) (tC (.int 5)) (aa 1)) (aa 7)) ae))) (aa 3)) ae)))))
 (aA (aZ (jo K) (ac (aa 6) ae))))) (ends Q) [some (.int c),some (.int kk),some (.int m),some (.int t),some (.bl pl),some (.int z0),none,none] H:=by
  intro z0;walk_at "";refine⟨by decide,fun l nl=>?_⟩;walk_at "";refine a8 (fun i σ H2=>∃(ns:List Int) (z:Int) (v:Option V),σ=[some (.int c),some (.int kk),some (.int m),some (.int t),some (.bl pl),some (.int z),some (.ref l),v]/\AccZ K H l H2 (ns.map O4)/\e_ i ns) ⟨[],z0,none,rfl,AccZ.start (Same.refl _) nl,rfl,by simp⟩ ?_ ?_
  ·rintro i σ H2 hi ⟨ns,z,v,rfl,A,hl,hb⟩
   have one:∀x:Int,e_ (i+1) (ns++[x % t]):=fun x=>⟨by simp[hl],fun y hy=>by
    rcases N_.mp hy with q|q
    ·exact hb y q
    ·rw[N7.mp q]
     have e1:=QJ x (b:=t) (by lia)
     have e2:=Qe x (b:=t) (by lia)
     exact⟨by lia,by lia⟩⟩
   walk_at "";cases pl with
   |true =>
    walk_at "";refine⟨A.ty,?_⟩;walk_at "";refine cB A (.int _) (ar (by rw[NQ];lia)) fun H3 A3 _ _ _=>?_
    walk_at "";exact⟨ns++[z % t],_,_,rfl,by simpa using A3,one z⟩
   |false =>
    walk_at "";refine⟨A.ty,?_⟩;walk_at "";refine⟨c,5*kk+(0+(i:Int)),rfl,by lia,by lia,fun x hx=>?_⟩;walk_at "";refine cB A (.int _) (ar (by rw[NQ];lia)) fun H3 A3 _ _ _=>?_
    walk_at "";exact⟨ns++[x % t],_,_,rfl,by simpa using A3,one x⟩
  ·rintro σ H2 ⟨ns,z,v,rfl,A,hh⟩;walk_at "";have e:=AccZ.ints A;refine qe (SqL.of e) fun p np=>?_
   exact k p _ ns (A.same.trans (aj np _)) hh (.tup ag (RpL.ints ns))
 refine a6 (fun _=>?_) (fun _=>?_)
 ·fail "1";fail "1";fail "1";fail "1";fail "1";fail "1";exact rest _
 ·exact rest _
theorem om{K:Fg}(S:Same H H3)(A:AccZ K H3 l H' ds):AccZ K H l H' ds:=⟨S.trans A.same,S.free A.new,A.at_⟩
noncomputable def eS(h1:Int)(m:Nat):List Int:=(Oa m).map fun j=>if j=0 then (if decide (h1=0)=true then 1 else 0) else 0
noncomputable def rZ(K:Fg):Sp:=fun vs H Q _=>∃(a:Addr) (ns:List Int) (t m s tp:Int) (pl:Bool),vs=[.ref a,.int t,.int m,.int s,.int tp,.bl pl]/\SqL K H a (ns.map V.int)/\0<=t/\1<=m/\m<=5/\2<=s/\s<=8/\2<=tp/\tp<=4 /\
 ∀(p:Addr) (H':Hp) (hs:List (List Int)),AccZ K H p H' (hs.map dI)->AS m.toNat hs->2<=hs.length->hs.length<=8->Q (.ref p) H'
noncomputable def rf(K:Fg):TS:=(am (av (ca ae) (ak 6))
 (am (be (cC (ac (aa 3) ae)) (ak 7)
 (am (av (ay (so K) [] E0 (ac (ay (i7 K) [] E0 (ac (aa 0) (ac (aq bG (aa 1) (aq bi (aa 7) (tC (.int 6)))) ae))) (ac (aa 7) (ac (aa 2) (ac (aa 4) (ac (aa 5) ae)))))) (ak 8))
 (aI (aH (aq (hE K true) (aa 8) (aa 6)))
 (bE (eJ K "list" aM (aa 6) (ac (aa 8) ae)))
 aO)))
 (am (aI (aH (aq fF (aZ (bM K) (ac (aa 6) ae)) (tC (.int 1))))
 (bE (eJ K "list" aM (aa 6) (ac (aZ (jo K) (ac (eI (cC (ac (aa 2) ae)) (aZ IT (ac (cZ (aq fF (aa 0) (tC (.int 0))) (aq fF (aq (aE K) (aq (bX K) (aa 7) (tC (.int 0))) (tC (.int 0))) (tC (.int 0)))) ae))) ae)) ae)))
 aO)
 (aA (aa 6)))))
theorem BU{K:Fg}{vs:List V}{N:List Str}(hN:N.length=9)(h:rZ K vs H Q E):rf K (ends Q) (L2.start N vs) H:=by
 obtain⟨a,ns,t,m,s,tp,pl,rfl,hS,t0,m1,m5,s2,s8,p2,p4,k⟩:=h;rw[L2.aU hN];walk_at "t";unfold rf;walk_at "";refine⟨by decide,fun l nl=>?_⟩;walk_at ""
 refine a8 (fun i σ H2=>∃(hs:List (List Int)) (v7 v8:Option V),σ=[some (.ref a),some (.int t),some (.int m),some (.int s),some (.int tp),some (.bl pl),some (.ref l),v7,v8]/\AccZ K H l H2 (hs.map dI)/\hs.length<=i/\AS m.toNat hs/\(0<i->hs≠[]))
  ⟨[],none,none,rfl,AccZ.start (Same.refl _) nl,N4 _,⟨P5,by simp⟩,by simp⟩ ?_ ?_
 ·rintro i σ H2 hi ⟨hs,v7,v8,rfl,A,hl,hp,_⟩;walk_at "";refine⟨a,ns,t+(0+(i:Int)) % 6,rfl,A.same.seq hS,by lia,?_⟩;generalize cellOf ns (t+(0+(i:Int)) % 6)=c1;walk_at "";refine⟨c1,0+(i:Int),m,tp,pl,rfl,by lia,by lia,by lia,by lia,p2,p4,fun ph H4 h S4' oh rh=>?_⟩;have A4:=A.on S4';walk_at "";refine fI rh.rep A4.rep (fun e he=>by obtain⟨b,_,rfl⟩:=N9.mp he;exact jE b 7) (jE h 7) (fun nm=>?_) (fun mm=>?_)
  ·walk_at "";refine⟨A4.ty,?_⟩;walk_at "";refine cB A4 rh (ar (by rw[NQ];lia)) fun H5 A5 _ _ _=>?_
   walk_at "";exact⟨hs++[h],_,_,rfl,by rw[N1];exact A5,by simp;lia,⟨cq hp.1 fun z=>nm (y6.mpr z),cy hp.2 oh⟩,by simp⟩
  ·walk_at "";exact⟨hs,_,_,rfl,A4,by lia,hp,fun _ z=>by rw[z] at mm;cases mm⟩
 ·rintro σ H2 ⟨hs,v7,v8,rfl,A,hl,hp,YU⟩;have ne:=YU (by lia);obtain⟨xs,sx,lx,rx⟩:=A.sq;rw[NQ] at lx;walk_at "";refine bH sx ?_;walk_at "";refine a6 (fun few=>?_) (fun few=>?_)
  ·have l1:hs.length=1:=by lia
   obtain⟨h,rfl⟩:∃x,hs=[x]:=PL.mp l1;have oh:=hp.2 h (by simp);obtain⟨h1,hr,eh⟩:∃h1 hr,h=h1 :: hr:=PJ (by have:=oh.1;lia);obtain⟨v,ev,rv⟩:=RpL.get' (i:=0) rx (d:=dI h) rfl;obtain⟨ah,ys,e1,sh,rh⟩:=rv.Ie;cases e1;cases RpL.ints_of rh;walk_at "";refine⟨A.ty,?_⟩;walk_at "";refine dD fun Dl nD=>⟨fun j H4=>AccZ K H2 Dl H4 ((eS h1 j).map O4),AccZ.start (Same.refl _) nD,?_,?_⟩
   ·intro j H4 hj B
    have put:∀x:Int,x=(if j=0 then (if decide (h1=0)=true then 1 else 0) else 0)->oz Dl m.toNat j (fun j H4=>AccZ K H2 Dl H4 ((eS h1 j).map O4)) (.int x) H4:=by
     intro x ex;refine aR hj (B.ci (.int x) (ar ?_) fun H5 B5=>?_)
     ·rw[NQ];unfold eS;rw[NQ,On];lia
     ·show AccZ K H2 Dl H5 ((eS h1 (j+1)).map O4);unfold eS;rw[Ps,N1,N1,WG,WG,<- ex];exact B5
    walk_at "";refine a6 (fun j0=>?_) (fun j0=>?_)
    ·walk_at "";refine cj (B.same.seq sx) (aG (j:=0) ev) ?_;walk_at "";refine aF (B.same.seqT sh) (v:=.int h1) (aG (j:=0) (by rw[eh];rfl)) ?_;walk_at "";refine put _ ?_;rw[if_pos (show j=0 by lia)]
    ·walk_at "";refine put _ ?_;rw[if_neg (show ¬ j=0 by lia)];rfl
   ·intro H4 B;have eB:=AccZ.ints B;walk_at "";refine qe (SqL.of eB) fun p np=>?_
    walk_at "";have Sp:=aj np (.tup ((eS h1 m.toNat).map V.int));have A5:=(A.on B.same).on Sp;refine cB A5 (d:=dI (eS h1 m.toNat)) (.tup ag (RpL.ints _)) (ar (by simp)) fun H6 A6 _ _ _=>?_
    walk_at ""
    have e0:(eS h1 m.toNat)[0]?=some (if decide (h1=0)=true then 1 else 0):=by
     unfold eS;rw[NW,OW (by lia)];rfl
    refine k l H6 ([h]++[_]) (by rw[N1];exact A6) ⟨cq hp.1 fun z=>?_,cy hp.2 ⟨?_,fun x hx=>?_⟩⟩ (by simp) (by simp)
    ·have z':=N7.mp z;rw[z',eh] at e0;have z2:h1=(if decide (h1=0)=true then 1 else 0):=Oq e0;by_cases h10:h1=0
     ·rw[decide_eq_true h10] at z2;simp at z2;lia
     ·rw[decide_eq_false h10] at z2;simp at z2;lia
    ·unfold eS;rw[NQ,On]
    ·unfold eS at hx;obtain⟨j,_,rfl⟩:=N9.mp hx;split
     ·split <;> decide
     ·decide
  ·walk_at ""
   have:0<hs.length:=Sn.mpr ne
   exact k l H2 hs A hp (by lia) (by lia)
noncomputable def E4(p:Int×Int):Dat:=dI [p.1,p.2]
noncomputable def FP(s:Int)(p:Int×Int):Prop:=0<=p.1/\p.1<s/\0<=p.2/\p.1≠p.2
noncomputable def mH(K:Fg):Sp:=fun vs H Q _=>∃(a:Addr) (ns:List Int) (t s kd:Int) (pl:Bool),vs=[.ref a,.int t,.int s,.int kd,.bl pl]/\SqL K H a (ns.map V.int)/\0<=t/\2<=s/\s<=8/\0<=kd/\kd<=3 /\
 ∀(p:Addr) (H':Hp) (ps:List (Nat×Nat)),AccZ K H p H' (ps.map dP)->ps.Nodup->ps.length<=8->ps≠[]->(∀q∈ps,vH s.toNat q)->Q (.ref p) H'
noncomputable def lZ(K:Fg):TS:=(am (av (ca ae) (ak 5))
 (am (be (cC (ac (aa 2) ae)) (ak 6)
 (am (av (aq bi (aq bG (aa 6) (tC (.int 1))) (aa 2)) (ak 7))
 (am (aI (kn (aH (aq fF (aa 3) (tC (.int 3)))) (aH (aq vW (aa 2) (tC (.int 3)))))
 (bE (eJ K "list" aM (aa 5) (ac (bJ (ac (aa 6) (ac (aq bG (aq (rI CMul fun i j=>.int (i*j)) (aq c8 (aa 6) (tC (.int 2))) (tC (.int 2))) (aq bi (aq bG (aa 6) (tC (.int 1))) (tC (.int 2)))) ae))) ae)))
 (aI (aH (aq vW (aa 3) (tC (.int 0))))
 (bE (eJ K "list" aM (aa 5) (ac (bJ (ac (aa 6) (ac (aa 7) ae))) ae)))
 aO))
 (aI (aH (aq fF (aa 3) (tC (.int 2))))
 (bE (eJ K "list" aM (aa 5) (ac (bJ (ac (aa 7) (ac (aa 6) ae))) ae)))
 aO))))
 (am (be (cC (ac (tC (.int 8)) ae)) (ak 6)
 (am (av (ay (i7 K) [] E0 (ac (aa 0) (ac (aq bG (aa 1) (aa 6)) ae))) (ak 8))
 (aI (qO (aH (aq fF (aa 3) (tC (.int 0)))) (aH (aq fF (aq bi (aa 8) (tC (.int 5))) (tC (.int 1)))))
 (am (av (aq bi (ay fX [] E0 (ac (aa 8) (ac (tC (.int 50)) ae))) (aa 2)) (ak 9))
 (am (av (aq bi (ay fX [] E0 (ac (aa 8) (ac (tC (.int 51)) ae))) (aq vX (aa 2) (tC (.int 1)))) (ak 10))
 (am (aI (tB (aa 4))
 (am (av (aq bi (aq bi (aq c8 (aa 8) (tC (.int 5))) (tC (.int 8))) (aa 2)) (ak 9))
 (av (aq bi (aq bi (aq c8 (aa 8) (tC (.int 40))) (tC (.int 8))) (aq vX (aa 2) (tC (.int 1)))) (ak 10)))
 aO)
 (bE (eJ K "list" aM (aa 5) (ac (bJ (ac (aa 9) (ac (aq bi (aq bG (aq bG (aa 9) (tC (.int 1))) (aa 10)) (aa 2)) ae))) ae))))))
 aO)))
 (am (av (ca ae) (ak 11))
 (am (be (bQ K (aa 5)) (cF K 2 (a7 (ak 9) (a7 (ak 12) cG)))
 (aI (kn (aH (aq (hE K true) (bJ (ac (aa 9) (ac (aa 12) ae))) (aa 11))) (kn (aH (aq Cs (aa 12) (aa 2))) (aH (aq Cs (aZ (bM K) (ac (aa 11) ae)) (tC (.int 8))))))
 (bE (eJ K "list" aM (aa 11) (ac (bJ (ac (aa 9) (ac (aa 12) ae))) ae)))
 aO))
 (aA (aa 11)))))))
theorem kT{K:Fg}{fs:List (Int×Int)}{x y:Int}{Q:VK}(A:AccZ K H l H2 (fs.map E4))(n:fs.length<=100)(k:∀H3,AccZ K H l H3 ((fs++[(x,y)]).map E4)->Q .non H3) :
  ([V.int x,.int y].length<=sizeLine/\∀p,H2 p=none->ae σ (upd H2 p (.tup [.int x,.int y])) fun xs H3=>aM (.ref l) (.ref p :: xs) H3 Q):=by
 refine⟨aQ,fun p np=>?_⟩;have S:=aj np (.tup [V.int x,.int y]);refine Df ?_;refine cB (A.on S) (d:=E4 (x,y)) (.tup ag (RpL.ints [x,y])) (ar (by rw[NQ];lia)) fun H3 A3 _ _ _=>k H3 ?_
 rw[N1];exact A3
theorem ib{fs:List (Int×Int)}(h:∀q∈fs,FP s q)(n:FP s p):∀q∈fs++[p],FP s q:=cy h n
theorem JO{n u v:Int}(h1:0<=u)(h2:u<n)(h3:0<=v)(h4:v<n-1):(u+1+v) % n≠u:=by
 intro e;by_cases z:u+1+v<n
 ·rw[W4 (by lia) z] at e;lia
 ·have e2:(u+1+v) % n=u+1+v-n:=by
   rw[<- Int.sub_emod_right,W4 (by lia) (by lia)]
  lia
theorem Ag{s:Int}{fs:List (Int×Int)}{p:Int×Int}(h:∃q∈fs,q.2<s):∃q∈fs++[p],q.2<s:=by
 obtain⟨q,h1,h2⟩:=h;exact⟨q,Oe _ h1,h2⟩
theorem jW{s:Int}{fs:List (Int×Int)}{p:Int×Int}(h:p.2<s):∃q∈fs++[p],q.2<s:=⟨p,Ob _ (N7.mpr rfl),h⟩
theorem x_{K:Fg}{vs:List V}{N:List Str}(hN:N.length=13)(h:mH K vs H Q E):lZ K (ends Q) (L2.start N vs) H:=by
 obtain⟨a,ns,t,s,kd,pl,rfl,hS,t0,s2,s8,k0,k3,k⟩:=h;rw[L2.aU hN];walk_at "t";unfold lZ;walk_at "";refine⟨by decide,fun l nl=>?_⟩;walk_at ""
 refine a8 (fun i σ H2=>∃(fs:List (Int×Int)) (v6 v7:Option V),σ=[some (.ref a),some (.int t),some (.int s),some (.int kd),some (.bl pl),some (.ref l),v6,v7,none,none,none,none,none]/\AccZ K H l H2 (fs.map E4)/\fs.length<=2*i/\(∀q∈fs,FP s q)/\(0<i->0<kd->∃q∈fs,q.2<s))
  ⟨[],none,none,rfl,AccZ.start (Same.refl _) nl,N4 _,by simp,by simp⟩ ?_ ?_
 ·rintro i σ H2 hi ⟨fs,v6,v7,rfl,A,hl,hf,hx⟩;have i8:(i:Int)<s:=by lia
  have hm0:=QJ (0+(i:Int)+1) (b:=s) (by lia);have hm1:=Qe (0+(i:Int)+1) (b:=s) (by lia)
  have YU:(0+(i:Int)+1) % s≠0+(i:Int):=by
   have z:=JO (n:=s) (u:=0+(i:Int)) (v:=0) (by lia) (by lia) (by lia) (by lia);rw[PP] at z;exact z
  have back:∀(gs:List (Int×Int)) (H3:Hp) (D':cx),AccZ K H l H3 (gs.map E4)->gs.length<=2*i+1->(∀q∈gs,FP s q)->(0<kd->∃q∈gs,q.2<s) ->
    (∀σ' H',(∃(fs:List (Int×Int)) (v6 v7:Option V),σ'=[some (.ref a),some (.int t),some (.int s),some (.int kd),some (.bl pl),some (.ref l),v6,v7,none,none,none,none,none]/\AccZ K H l H' (fs.map E4)/\fs.length<=2*(i+1)/\(∀q∈fs,FP s q)/\(0<i+1->0<kd->∃q∈fs,q.2<s))->D'.nx σ' H') ->
    (aI (aH (aq fF (aa 3) (tC (.int 2))))
     (bE (eJ K "list" aM (aa 5) (ac (bJ (ac (aa 7) (ac (aa 6) ae))) ae))) aO) D' [some (.ref a),some (.int t),some (.int s),some (.int kd),some (.bl pl),some (.ref l),some (.int (0+(i:Int))),some (.int ((0+(i:Int)+1) % s)),none,none,none,none,none] H3:=by
   intro gs H3 D' B lg fg xg fin;walk_at "";refine a6 (fun _=>?_) (fun _=>?_)
   ·walk_at "";refine⟨B.ty,?_⟩;walk_at "";refine kT B (by lia) fun H4 B4=>?_
    exact fin _ _ ⟨_,_,_,rfl,B4,by simp;lia,ib fg ⟨hm0,hm1,by dsimp only;lia,fun e=>YU e⟩,fun _ z=>Ag (xg z)⟩
   ·walk_at "";exact fin _ _ ⟨gs,_,_,rfl,B,by lia,fg,fun _ z=>xg z⟩
  walk_at "";refine a6 (fun e3=>?_) (fun e3=>?_)
  ·walk_at "";refine a6 (fun s3=>?_) (fun s3=>?_)
   ·walk_at "";refine⟨A.ty,?_⟩;walk_at "";refine kT A (by lia) fun H3 B=>?_
    refine back _ _ _ B (by simp;lia) (ib hf ⟨by dsimp only;lia,by dsimp only;lia,by dsimp only;lia,by dsimp only;lia⟩) (fun z=>?_) fun σ' H' z=>z
    by_cases i0:0<i
    ·exact Ag (hx i0 z)
    ·exact jW (by dsimp only;lia)
   ·walk_at "";refine a6 (fun _=>?_) (fun z=>absurd z (by lia));walk_at "";refine⟨A.ty,?_⟩;walk_at "";refine kT A (by lia) fun H3 B=>?_
    exact back _ _ _ B (by simp;lia) (ib hf ⟨by dsimp only;lia,by dsimp only;lia,hm0,fun e=>YU e.symm⟩) (fun z=>jW hm1) fun σ' H' z=>z
  ·walk_at "";refine a6 (fun kp=>?_) (fun kp=>?_)
   ·walk_at "";refine⟨A.ty,?_⟩;walk_at "";refine kT A (by lia) fun H3 B=>?_
    exact back _ _ _ B (by simp;lia) (ib hf ⟨by dsimp only;lia,by dsimp only;lia,hm0,fun e=>YU e.symm⟩) (fun z=>jW hm1) fun σ' H' z=>z
   ·exact back fs _ _ A (by lia) hf (fun z=>absurd z kp) fun σ' H' z=>z
 rintro σ H2 ⟨fs,v6,v7,rfl,A,hl,hf,hx⟩;have s8':s.toNat<=8:=by lia
 walk_at ""
 refine a8 (fun i σ H3=>∃(gs:List (Int×Int)) (u6 u7 u8 u9 ZD:Option V),σ=[some (.ref a),some (.int t),some (.int s),some (.int kd),some (.bl pl),some (.ref l),u6,u7,u8,u9,ZD,none,none]/\AccZ K H l H3 (gs.map E4)/\gs.length<=16+i/\(∀q∈gs,FP s q)/\(0<kd\/0<i->∃q∈gs,q.2<s))
  ⟨fs,v6,v7,none,none,none,rfl,A,by lia,hf,fun z=>hx (by lia) (by lia)⟩ ?_ ?_
 ·rintro i σ H3 hi ⟨gs,u6,u7,u8,u9,ZD,rfl,B,lg,fg,xg⟩;walk_at "";refine⟨a,ns,t+(0+(i:Int)),rfl,B.same.seq hS,by lia,?_⟩;generalize cellOf ns (t+(0+(i:Int)))=c
  have draw:∀(D':cx),(∀σ' H',(∃(gs:List (Int×Int)) (u6 u7 u8 u9 ZD:Option V),σ'=[some (.ref a),some (.int t),some (.int s),some (.int kd),some (.bl pl),some (.ref l),u6,u7,u8,u9,ZD,none,none]/\AccZ K H l H' (gs.map E4)/\gs.length<=16+(i+1)/\(∀q∈gs,FP s q)/\(0<kd\/0<i+1->∃q∈gs,q.2<s))->D'.nx σ' H') ->
    (am (av (aq bi (ay fX [] E0 (ac (aa 8) (ac (tC (.int 50)) ae))) (aa 2)) (ak 9))
    (am (av (aq bi (ay fX [] E0 (ac (aa 8) (ac (tC (.int 51)) ae))) (aq vX (aa 2) (tC (.int 1)))) (ak 10))
    (am (aI (tB (aa 4))
    (am (av (aq bi (aq bi (aq c8 (aa 8) (tC (.int 5))) (tC (.int 8))) (aa 2)) (ak 9))
    (av (aq bi (aq bi (aq c8 (aa 8) (tC (.int 40))) (tC (.int 8))) (aq vX (aa 2) (tC (.int 1)))) (ak 10)))
    aO)
    (bE (eJ K "list" aM (aa 5) (ac (bJ (ac (aa 9) (ac (aq bi (aq bG (aq bG (aa 9) (tC (.int 1))) (aa 10)) (aa 2)) ae))) ae)))))) D'
     [some (.ref a),some (.int t),some (.int s),some (.int kd),some (.bl pl),some (.ref l),some (.int (0+(i:Int))),u7,some (.int c),u9,ZD,none,none] H3:=by
   intro D' fin
   have last:∀o st:Int,0<=o->o<s->0<=st->st<s-1->FP s (o,(o+1+st) % s)/\(o+1+st) % s<s:=fun o st h1 h2 h3 h4 =>
    ⟨⟨h1,h2,QJ _ (by lia),fun e=>JO h1 h2 h3 h4 e.symm⟩,Qe _ (by lia)⟩
   walk_at "";refine⟨c,50,rfl,by decide,by decide,fun y hy=>?_⟩;have y0:=QJ y (b:=s) (by lia);have y1:=Qe y (b:=s) (by lia);walk_at "";refine⟨c,51,rfl,by decide,by decide,fun w hw=>?_⟩;have w0:=QJ w (b:=s-1) (by lia);have w1:=Qe w (b:=s-1) (by lia);walk_at "";cases pl with
   |true =>
    have z0:=QJ (c / 5 % 8) (b:=s) (by lia);have z1:=Qe (c / 5 % 8) (b:=s) (by lia);have x0:=QJ (c / 40 % 8) (b:=s-1) (by lia);have x1:=Qe (c / 40 % 8) (b:=s-1) (by lia);walk_at "";refine⟨B.ty,?_⟩;walk_at "";refine kT B (by lia) fun H4 B4=>?_
    obtain⟨o1,o2⟩:=last (c / 5 % 8 % s) (c / 40 % 8 % (s-1)) z0 z1 x0 x1;exact fin _ _ ⟨_,_,_,_,_,_,rfl,B4,by simp;lia,ib fg o1,fun _=>jW o2⟩
   |false =>
    walk_at "";refine⟨B.ty,?_⟩;walk_at "";refine kT B (by lia) fun H4 B4=>?_
    obtain⟨o1,o2⟩:=last (y % s) (w % (s-1)) y0 y1 w0 w1;exact fin _ _ ⟨_,_,_,_,_,_,rfl,B4,by simp;lia,ib fg o1,fun _=>jW o2⟩
  walk_at "";refine a6 (fun z=>?_) (fun z=>?_)
  ·fail "1";exact draw _ fun σ' H' z=>z
  ·walk_at "";refine a6 (fun y=>?_) (fun y=>?_)
   ·exact draw _ fun σ' H' z=>z
   ·walk_at "";exact⟨gs,_,_,_,_,_,rfl,B,by lia,fg,fun _=>xg (.inl (by lia))⟩
 rintro σ H3 ⟨gs,u6,u7,u8,u9,ZD,rfl,B,lg,fg,xg⟩;have xg':=xg (.inr (by decide));obtain⟨xs,hl3,rx⟩:=B.at_;have lx:xs.length=gs.length:=by rw[rx.length,NQ]
 walk_at "";refine⟨by decide,fun l2 nl2=>?_⟩;walk_at "";have S2:=aj nl2 (.lst []);refine gO (SqL.of (S2 _ _ hl3)) ?_
 refine bj (xs:=xs) (fun i σ H4=>∃(ps:List (Nat×Nat)) (w6 w7 w8 w9 w10 w12:Option V),σ=[some (.ref a),some (.int t),some (.int s),some (.int kd),some (.bl pl),some (.ref l),w6,w7,w8,w9,w10,some (.ref l2),w12]/\AccZ K H3 l2 H4 (ps.map dP)/\ps.Nodup/\ps.length<=8/\(∀q∈ps,vH s.toNat q)/\((∃q∈gs.take i,q.2<s)->ps≠[]))
  ⟨[],u6,u7,u8,u9,ZD,none,rfl,AccZ.start (Same.refl _) nl2,P5,by decide,by simp,by simp⟩ ?_ ?_ ?_
 ·rintro i σ H4 _ ⟨ps,w6,w7,w8,w9,w10,w12,rfl,C,_⟩;exact SqL.of (C.same _ _ hl3)
 ·rintro i z σ H4 hz ⟨ps,w6,w7,w8,w9,w10,w12,rfl,C,nd,l8,ZS,YU⟩;obtain⟨dd,g1,g2⟩:=rx.get hz;rw[NW] at g1;obtain⟨g,eg,rfl⟩:=N8.mp g1;have og:=fg g (N2 eg);obtain⟨tz,zs,e1,st,rt⟩:=(g2.same C.same).cP;cases e1;cases RpL.ints_of (ns:=[g.1,g.2]) rt;obtain⟨x,y⟩:=g;obtain⟨o0,o1,o2,o3⟩:=og;dsimp only at o0 o1 o2 o3
  have oo:y<s->vH s.toNat (x.toNat,y.toNat):=fun ys=>by
   clear YU xg xg' hx;exact⟨by show x.toNat<s.toNat;lia,by show y.toNat<s.toNat;lia,by show x.toNat≠y.toNat;lia⟩
  have tk:gs.take (i+1)=gs.take i++[(x,y)]:=by rw[Oj,eg];rfl
  have old:(∃q∈gs.take (i+1),q.2<s)->¬ y<s->∃q∈gs.take i,q.2<s:=by
   rintro⟨q,h1,h2⟩ ny;rw[tk] at h1;rcases N_.mp h1 with h|h
   ·exact⟨q,h,h2⟩
   ·rw[N7.mp h] at h2;exact absurd h2 ny
  have Zk:H4 tz=some (.tup [.int x,.int y]):=st;refine bP (SqT.of Zk) rfl ?_;walk_at "";refine⟨aQ,fun p np=>?_⟩;have S5:=aj np (.tup [V.int x,.int y]);have C5:=C.on S5;have r5:Rz K (upd H4 p (.tup [V.int x,.int y])) (.ref p) (dI [x,y]):=.tup ag (RpL.ints [x,y])
  have eP:dI [x,y]=dP (x.toNat,y.toNat):=by
   show dI [x,y]=dI [((x.toNat:Nat):Int),((y.toNat:Nat):Int)];rw[Wa o0,Wa o2]
  rw[eP] at r5;walk_at "";refine fI r5.rep C5.rep (fun e he=>by obtain⟨b,_,rfl⟩:=N9.mp he;exact jE _ 7) (jE _ 7) (fun nm=>?_) (fun mm=>?_)
  ·walk_at "";refine a6 (fun ys=>?_) (fun ys=>?_)
   ·obtain⟨xs5,s5,n5,_⟩:=C5.sq;rw[NQ] at n5;walk_at "";refine bH s5 ?_;walk_at "";refine a6 (fun lt=>?_) (fun ge=>?_)
    ·walk_at "";refine⟨C5.ty,?_⟩;walk_at "";refine⟨aQ,fun p' np'=>?_⟩;have S6:=aj np' (.tup [V.int x,.int y]);refine Df ?_;refine cB (C5.on S6) (d:=dP (x.toNat,y.toNat)) (by rw[<- eP];exact .tup ag (RpL.ints [x,y])) (ar (by rw[NQ];lia)) fun H6 C6 _ _ _=>?_
     walk_at "";exact⟨ps++[(x.toNat,y.toNat)],_,_,_,_,_,_,rfl,by rw[N1];exact C6,cq nd fun z=>nm (JV.mpr z),by simp;lia,cy ZS (oo ys),by simp⟩
    ·have lz:ps=[]->False:=fun z=>by
      have z0:ps.length=0:=by rw[z];rfl
      clear YU xg xg' hx;lia
     walk_at "";exact⟨ps,_,_,_,_,_,_,rfl,C5,nd,l8,ZS,fun _ z=>lz z⟩
   ·walk_at "";exact⟨ps,_,_,_,_,_,_,rfl,C5,nd,l8,ZS,fun z=>YU (old z ys)⟩
  ·walk_at "";exact⟨ps,_,_,_,_,_,_,rfl,C5,nd,l8,ZS,fun _ z=>by rw[z] at mm;cases mm⟩
 ·rintro σ H4 ⟨ps,w6,w7,w8,w9,w10,w12,rfl,C,nd,l8,ZS,YU⟩;rw[lx,Oh (N4 _)] at YU;walk_at "";exact k l2 H4 ps (om B.same C) nd l8 (YU xg') ZS
noncomputable def ui(K:Fg):Sp:=fun vs H Q _=>∃(a:Addr) (ns:List Int) (t:Int),vs=[.ref a,.int t]/\SqL K H a (ns.map V.int)/\0<=t/\∀(p:Addr) (H':Hp) (ws:List Str) (ts:List Tn),Same H H'->wx ws ts->Rz K H' (.ref p) (dV ws ts)->Q (.ref p) H'
noncomputable def wP(K:Fg):TS:=(am (av (ay fX [] E0 (ac (ay (i7 K) [] E0 (ac (aa 0) (ac (aa 1) ae))) (ac (tC (.int 1)) ae))) (ak 2))
 (am (av (aq bG (tC (.int 1)) (aq bi (aa 2) (tC (.int 5)))) (ak 3))
 (am (av (aq bG (tC (.int 2)) (aq bi (aq c8 (aa 2) (tC (.int 5))) (tC (.int 3)))) (ak 4))
 (am (av (aq fF (aq bi (aq c8 (aa 2) (tC (.int 1260))) (tC (.int 2))) (tC (.int 1))) (ak 5))
 (am (av (ay (rZ K) [] E0 (ac (aa 0) (ac (aq bG (aa 1) (tC (.int 1))) (ac (aa 3) (ac (aq bG (tC (.int 2)) (aq bi (aq c8 (aa 2) (tC (.int 15))) (tC (.int 7)))) (ac (aa 4) (ac (aa 5) ae))))))) (ak 6))
 (am (av (ay (mH K) [] E0 (ac (aa 0) (ac (aq bG (aa 1) (tC (.int 7))) (ac (aZ (bM K) (ac (aa 6) ae)) (ac (aq bi (aq c8 (aa 2) (tC (.int 105))) (tC (.int 4))) (ac (aa 5) ae)))))) (ak 7))
 (am (av (ca ae) (ak 8))
 (am (be (cC (ac (aZ (bM K) (ac (aa 7) ae)) ae)) (ak 9)
 (am (av (ay (i7 K) [] E0 (ac (aa 0) (ac (aq bG (aq bG (aa 1) (tC (.int 7))) (aa 9)) ae))) (ak 10))
 (am (av (aq (bX K) (aa 7) (aa 9)) (cF K 2 (a7 (ak 11) (a7 (ak 12) cG))))
 (bE (eJ K "list" aM (aa 8) (ac (bJ (ac (aq (bX K) (aa 6) (aa 11)) (ac (aq (bX K) (aa 6) (aa 12)) (ac (ay (sj K) [] E0 (ac (aq c8 (aa 10) (tC (.int 320))) (ac (aq bi (aq c8 (aa 2) (tC (.int 420))) (tC (.int 3))) ae))) ae)))) ae))))))
 (aA (bJ (ac (ay (mC K) [] E0 (ac (aq c8 (aa 2) (tC (.int 2520))) (ac (aa 3) ae))) (ac (aZ (jo K) (ac (aa 8) ae)) ae))))))))))))
theorem FO{K:Fg}{vs:List V}{N:List Str}(hN:N.length=13)(h:ui K vs H Q E):wP K (ends Q) (L2.start N vs) H:=by
 obtain⟨a,ns,t,rfl,hS,t0,k⟩:=h;rw[L2.aU hN];walk_at "t";unfold wP;walk_at "";refine⟨a,ns,t,rfl,hS,t0,?_⟩;generalize cellOf ns t=c;walk_at "";refine⟨c,1,rfl,by decide,by decide,fun n ⟨n0,_⟩=>?_⟩;walk_at "";generalize decide (n / 1260 % 2=1)=pl;refine⟨a,ns,t+1,1+n % 5,2+n / 15 % 7,2+n / 5 % 3,pl,rfl,hS,by lia,by lia,by lia,by lia,by lia,by lia,by lia,fun pp H1 hs A1 op h2 h8=>?_⟩;obtain⟨xs,hpp,rz⟩:=A1.at_;have lx:xs.length=hs.length:=by rw[rz.length,NQ]
 have S1:=A1.same;walk_at "";refine bH (SqL.of hpp) ?_;walk_at "";refine⟨a,ns,t+7,(xs.length:Int),n / 105 % 4,pl,rfl,S1.seq hS,by lia,by lia,by lia,by lia,by lia,fun pr H2 ps A2 nd l8 ne ZS=>?_⟩;obtain⟨ys,hpr,ry⟩:=A2.at_;have ly:ys.length=ps.length:=by rw[ry.length,NQ]
 have S2:=A2.same;have S02:=S1.trans S2;walk_at "";refine⟨by decide,fun l nl=>?_⟩;walk_at "";have Sl:=aj nl (.lst []);refine bH (SqL.of (Sl _ _ hpr)) ?_;rw[ly];walk_at "";have et:((ps.length:Nat):Int).toNat=ps.length:=by lia
 rw[et]
 refine a8 (fun i σ H3=>∃(ts:List Tn) (v9 v10 v11 v12:Option V),σ=[some (.ref a),some (.int t),some (.int n),some (.int (1+n % 5)),some (.int (2+n / 5 % 3)),some (.bl pl),some (.ref pp),some (.ref pr),some (.ref l),v9,v10,v11,v12]/\AccZ K H2 l H3 (ts.map dT)/\ts.map cM=(ps.take i).map (Bf hs)/\∀t∈ts,j3 t.q t.d)
  ⟨[],none,none,none,none,rfl,AccZ.start (Same.refl _) nl,rfl,by simp⟩ ?_ ?_
 ·rintro i σ H3 hi ⟨ts,v9,v10,v11,v12,rfl,A,em,pc⟩;have S3:=A.same
  have lts:ts.length=i:=by
   have:=congrArg QD em
   rw[NQ,NQ,Ot] at this;lia
  have eq1:ps[i]?=some ps[i]:=NR hi;have oq:=ZS _ (OZ hi);generalize ps[i]=q at eq1 oq;have oq1:q.1<hs.length:=by have:=oq.1;lia
  have oq2:q.2<hs.length:=by have:=oq.2.1;lia
  obtain⟨w,ew,rw_⟩:=ry.get' (i:=i) (d:=dP q) (by rw[NW,eq1];rfl);walk_at "";refine⟨a,ns,t+7+(0+(i:Int)),rfl,(S02.trans S3).seq hS,by lia,?_⟩;generalize cellOf ns (t+7+(0+(i:Int)))=c2;walk_at "";refine cj (SqL.of (S3 _ _ hpr)) (v:=w) (by rw[PY];exact aG ew) ?_;obtain⟨tz,zs,rfl,st,rt⟩:=(rw_.same S3).cP;cases RpL.ints_of (ns:=[(q.1:Int),(q.2:Int)]) rt;have Zk:H3 tz=some (.tup [.int (q.1:Int),.int (q.2:Int)]):=st;refine bP (SqT.of Zk) rfl ?_;have g1:(hs.map dI)[q.1]?=some (dI (hs.getD q.1 [])):=by rw[NW,NS,NR oq1];rfl
  have g2:(hs.map dI)[q.2]?=some (dI (hs.getD q.2 [])):=by rw[NW,NS,NR oq2];rfl
  obtain⟨w1,ew1,rw1⟩:=rz.get' g1;obtain⟨w2,ew2,rw2⟩:=rz.get' g2;have S13:=S2.trans S3;walk_at "";refine⟨A.ty,?_⟩;walk_at "";refine cj (SqL.of (S13 _ _ hpp)) (aG ew1) ?_;walk_at "";refine cj (SqL.of (S13 _ _ hpp)) (aG ew2) ?_;walk_at "";refine⟨_,_,rfl,fun pa pq pd H4 S4 ok4 r4=>?_⟩;walk_at "";refine⟨ja,fun pt npt=>?_⟩;have S5:=aj npt (.tup [w1,w2,.ref pa]);have S15:=S13.trans (S4.trans S5);have r5:Rz K (upd H4 pt (.tup [w1,w2,.ref pa])) (.ref pt) (dT ⟨hs.getD q.1 [],hs.getD q.2 [],pq,pd⟩):=.tup ag (.cons (rw1.same S15) (.cons (rw2.same S15) (.cons (r4.same S5) .nil)));walk_at "";refine cB (A.on (S4.trans S5)) r5 (ar (by rw[NQ];lia)) fun H6 A6 _ _ _=>?_
  walk_at "";refine⟨ts++[_],_,_,_,_,rfl,by rw[N1];exact A6,?_,cy pc ok4⟩;rw[N1,em,Oj,eq1,N1];rfl
 ·rintro σ H3 ⟨ts,v9,v10,v11,v12,rfl,A,em,pc⟩;rw[Oh (N4 _)] at em;have S3:=A.same;obtain⟨zs,hl,rzs⟩:=A.at_;have gd:G1.Good hs ps ts:=⟨nd,l8,em,fun p hp=>by have:=ZS p hp;have e:((xs.length:Nat):Int).toNat=hs.length:=(by lia);rw[e] at this;exact this,pc⟩
  have tk:=gd.turns op.1 ne;walk_at "";refine⟨n / 2520,1+n % 5,rfl,by lia,by lia,by lia,fun pw H4 ws S4 ow lw r4=>?_⟩;walk_at "";refine qe (SqL.of (S4 _ _ hl)) fun p np=>?_
  have S5:=aj np (.tup zs);walk_at "";refine⟨aQ,fun r nr=>?_⟩;have S6:=aj nr (.tup [.ref pw,.ref p]);have r5:Rz K (upd H4 p (.tup zs)) (.ref p) (.tuple (ts.map dT)):=.tup ag ((rzs.same S4).same S5);refine k r _ ws ts (S02.trans (S3.trans (S4.trans (S5.trans S6)))) ⟨ow,by lia,by lia,hs,?_,h8,tk⟩ (.tup ag (.cons ((r4.same S5).same S6) (.cons (r5.same S6) .nil)));rw[lw];exact op
end G2
namespace Ti
open PySem L2 Fr G1 Sm Vs G2
open PySem.W (Dat kqdOk)
noncomputable def ix:List (List Int)->List Int->Nat
 |[],_=>0
 |x :: xs,h=>if x=h then 0 else ix xs h+1
theorem zD:∀{hs:List (List Int)} {h:List Int},h∈hs->hs[ix hs h]?=some h
 |x :: xs,h,m=>by
  unfold ix;by_cases e:x=h
  ·rw[if_pos e,e];rfl
  ·rw[if_neg e,Qh];exact zD ((Od.mp m).resolve_left fun z=>e z.symm)
theorem uW:∀{hs:List (List Int)} {h:List Int} {m:Nat},m<ix hs h->hs[m]?≠some h
 |[],_,m,l=>by unfold ix at l;lia
 |x :: xs,h,m,l=>by
  unfold ix at l;by_cases e:x=h
  ·rw[if_pos e] at l;lia
  ·rw[if_neg e] at l;cases m with
   |zero=>intro z;exact e (Oq z)
   |succ m=>rw[Qh];exact uW (by lia)
theorem KD:∀{hs:List (List Int)} {h:List Int} {i:Nat},hs.Nodup->hs[i]?=some h->ix hs h=i
 |x :: xs,h,0,nd,e=>by
  unfold ix;rw[if_pos (Oq e)]
 |x :: xs,h,i+1,nd,e=>by
  rw[OO] at nd;rw[Qh] at e;unfold ix;rw[if_neg (show ¬ x=h from fun z=>nd.1 (by rw[z];exact N2 e)),KD nd.2 e]
theorem KE{hs:List (List Int)}{h:List Int}(m:h∈hs):ix hs h<hs.length:=(NT.mp (zD m)).1
theorem nM{hs:List (List Int)}{x:List Int}(m:x∈hs):x∈b7 hs h:=by
 unfold b7;split
 ·exact m
 ·exact Oe _ m
theorem uY(hs:List (List Int))(h:List Int):h∈b7 hs h:=by
 unfold b7;split
 ·assumption
 ·exact Ob _ (N7.mpr rfl)
theorem nR:∀{ts:List Tn} {hs:List (List Int)} {x:List Int},x∈hs->x∈iN hs ts
 |[],_,_,m=>m
 |t :: ts,hs,x,m=>nR (ts:=ts) (nM (nM m))
theorem dU:∀{ts:List Tn} {hs:List (List Int)} {t:Tn},t∈ts->t.fr∈iN hs ts/\t.to∈iN hs ts
 |u :: ts,hs,t,m=>by
  rcases Od.mp m with rfl|m
  ·exact⟨nR (ts:=ts) (nM (uY _ _)),nR (ts:=ts) (uY _ _)⟩
  ·exact dU (ts:=ts) m
theorem zH{hs:List (List Int)}(nd:hs.Nodup):(b7 hs h).Nodup:=by
 unfold b7;split
 ·exact nd
 ·rename_i z;exact cq nd z
theorem zM:∀(ts:List Tn) {hs:List (List Int)},hs.Nodup->(iN hs ts).Nodup
 |[],_,nd=>nd
 |t :: ts,_,nd=>zM ts (zH (zH nd))
theorem uZ(ts:List Tn):(aC ts).Nodup:=zM ts P5
theorem nQ{ts:List Tn}(l:ts.length<=100):(aC ts).length<=200:=by
 have:=nU ts []
 unfold aC;simp only[SD] at this;lia
noncomputable def al(ts:List Tn):List (Nat×Nat):=ts.map fun t=>(ix (aC ts) t.fr,ix (aC ts) t.to)
noncomputable def HS(n:Nat)(es:List (Nat×Nat)):Prop:=∀e∈es,e.1<n/\e.2<n
theorem cc(ts:List Tn):HS (aC ts).length (al ts):=fun e he=>by
 obtain⟨t,ht,rfl⟩:=N9.mp he
 have:=dU (hs:=[]) ht
 exact⟨KE this.1,KE this.2⟩
noncomputable def l_(K:Fg):TS:=(am (av (ca ae) (ak 1))
 (am (be (tt K (aq (aE K) (aa 0) (tC (.int 1)))) (cF K 3 (a7 (ak 2) (a7 (ak 3) (a7 (ak 4) cG))))
 (be (bQ K (ca (ac (aa 2) (ac (aa 3) ae)))) (ak 5)
 (aI (aH (aq (hE K true) (aa 5) (aa 1)))
 (bE (eJ K "list" aM (aa 1) (ac (aa 5) ae)))
 aO)))
 (aA (aa 1))))
noncomputable def EA(hs:List (List Int))(t:Tn):Nat->List (List Int)
 |0=>hs
 |1=>b7 hs t.fr
 |_=>b7 (b7 hs t.fr) t.to
theorem yc{K:Fg}{vs:List V}{N:List Str}(hN:N.length=6)(h:c7 K vs H Q E):l_ K (ends Q) (L2.start N vs) H:=by
 obtain⟨v,ws,ts,rfl,rv,hl,k⟩:=h;obtain⟨a0,y1,y2,rfl,ZI,_,r2⟩:=tJ rv;obtain⟨a,xs,rfl,ha,rx⟩:=r2.cP;rw[L2.aU hN];walk_at "t";have lx:xs.length=ts.length:=by rw[rx.length,NQ]
 unfold l_;walk_at "";refine⟨by decide,fun l nl=>?_⟩;have Sl:=aj nl (.lst []);walk_at "";refine aF (SqT.of (Sl _ _ ZI)) (v:=.ref a) rfl ?_;refine Kb (SqT.of (Sl _ _ ha)) ?_;refine tw (xs:=xs) (fun i σ H2=>∃u2 u3 u4 u5:Option V,σ=[some (.ref a0),some (.ref l),u2,u3,u4,u5]/\AccZ K H l H2 ((aC (ts.take i)).map dI)) ⟨none,none,none,none,rfl,AccZ.start (Same.refl _) nl⟩ ?_ ?_ ?_
 ·rintro i σ H2 _ ⟨u2,u3,u4,u5,rfl,A⟩;exact SqT.of (A.same _ _ ha)
 ·rintro i z σ H2 hz ⟨u2,u3,u4,u5,rfl,A⟩;obtain⟨dd,g1,g2⟩:=rx.get hz;rw[NW] at g1;obtain⟨t,ht,rfl⟩:=N8.mp g1;obtain⟨at_,v1,v2,v3,rfl,hat,r1,r2,_⟩:=tL (g2.same A.same);have ti:i<ts.length:=(NT.mp ht).1;refine bP (SqT.of hat) rfl ?_;walk_at "";refine⟨aQ,fun pt npt=>?_⟩;have S3:=aj npt (.lst [v1,v2]);have hpt:upd H2 pt (.lst [v1,v2]) pt=some (.lst [v1,v2]):=ag;have A3:=A.on S3;have q1:=r1.same S3;have q2:=r2.same S3
  have npl:pt≠l:=by
   obtain⟨_,z,_⟩:=A.at_;exact(au z npt).symm
  generalize upd H2 pt (.lst [v1,v2])=H3 at S3 hpt A3 q1 q2 ⊢;refine gO (SqL.of hpt) ?_;have Y8:(aC (ts.take i)).length<=200:=nQ (by rw[Ot];lia);generalize hhs:aC (ts.take i)=hs at A3 Y8 A ⊢;refine bj (xs:=[v1,v2]) (fun j σ H4=>∃u:Option V,σ=[some (.ref a0),some (.ref l),some v1,some v2,some v3,u]/\AccZ K H l H4 ((EA hs t j).map dI)/\H4 pt=some (.lst [v1,v2])/\Rz K H4 v1 (dI t.fr)/\Rz K H4 v2 (dI t.to)) ⟨_,rfl,A3,hpt,q1,q2⟩ ?_ ?_ ?_
  ·rintro j σ H4 _ ⟨u,rfl,_,e,_⟩;exact SqL.of e
  ·rintro j y σ H4 hy ⟨u,rfl,B,e,p1,p2⟩
   have go:∀(w:V) (g:List Int) (ds:List (List Int)) (D':cx),Rz K H4 w (dI g)->AccZ K H l H4 (ds.map dI)->ds.length<=300->(∀H5,AccZ K H l H5 ((b7 ds g).map dI)->H5 pt=some (.lst [v1,v2])->Rz K H5 v1 (dI t.fr)->Rz K H5 v2 (dI t.to)->D'.nx [some (.ref a0),some (.ref l),some v1,some v2,some v3,some w] H5) ->
     (aI (aH (aq (hE K true) (aa 5) (aa 1))) (bE (eJ K "list" aM (aa 1) (ac (aa 5) ae))) aO) D' [some (.ref a0),some (.ref l),some v1,some v2,some v3,some w] H4:=by
    intro w g ds D' rw_ Bd ld fin;walk_at "";refine fI rw_.rep Bd.rep (fun e he=>by obtain⟨b,_,rfl⟩:=N9.mp he;exact jE b 7) (jE g 7) (fun nm=>?_) (fun mm=>?_)
    ·walk_at "";refine⟨Bd.ty,?_⟩;walk_at "";refine cB Bd rw_ (ar (by rw[NQ];lia)) fun H5 A5 Z6 keepB _=>?_
     refine fin H5 ?_ ((keepB pt npl).trans e) (Z6 p1) (Z6 p2);unfold b7;rw[if_neg (fun z=>nm (y6.mpr z)),N1];exact A5
    ·walk_at "";refine fin H4 ?_ e p1 p2;unfold b7;rw[if_pos (y6.mp mm)];exact Bd
   match j,hy with
   |0,hy =>
    cases Oq hy;exact go v1 t.fr hs _ p1 B (by lia) fun H5 A5 e5 z1 z2=>⟨_,rfl,A5,e5,z1,z2⟩
   |1,hy =>
    cases Oq hy;exact go v2 t.to (b7 hs t.fr) _ p2 B (by have:=nN hs t.fr;lia) fun H5 A5 e5 z1 z2=>⟨_,rfl,A5,e5,z1,z2⟩
   |j+2,hy=>simp at hy
  ·rintro σ H4 ⟨u,rfl,B,e,p1,p2⟩;refine⟨_,_,_,_,rfl,?_⟩;have et:ts.take (i+1)=ts.take i++[t]:=by rw[Oj,ht];rfl
   have ep:aC (ts.take (i+1))=EA hs t 2:=by
    rw[et,<- hhs];exact qj [] (ts.take i) t
   rw[ep];exact B
 ·rintro σ H2 ⟨u2,u3,u4,u5,rfl,A⟩;rw[lx,Oh (N4 _)] at A;walk_at "";exact k l H2 A
noncomputable def fY(K:Fg):Sp:=fun vs H Q _=>∃(v:V) (ws:List Str) (ts:List Tn),vs=[v]/\Rz K H v (dV ws ts)/\ts.length<=100/\∀(p:Addr) (H':Hp),AccZ K H p H' ((al ts).map dP)->Q (.ref p) H'
theorem Ah{K:Fg}{H:Hp}{σ:St}{Q:VK}{te:TE}{ts:List Tn}(l:ts.length<=100)(hb:H b=some (.tup xs))(rx:RzL K H xs (ts.map dT))
  (ht:∀(H2:Hp) (v:V) (t:Tn) (Q':VK),t∈ts->Same H H2->Rz K H2 v (dT t)->(∀p,H2 p=none->Q' (.ref p) (upd H2 p (.tup [.int (ix (aC ts) t.fr),.int (ix (aC ts) t.to)])))->te (some v :: σ) H2 Q')
  (hq:∀(D:Addr) (H':Hp),AccZ K H D H' ((al ts).map dP)->Q (.ref D) H'):cW (wz K b) te σ Q H:=by
 have lx:xs.length=ts.length:=by rw[rx.length,NQ]
 refine DL (xs:=xs) fun D nD=>⟨fun i H2=>AccZ K H D H2 (((ts.take i).map fun t=>(ix (aC ts) t.fr,ix (aC ts) t.to)).map dP),AccZ.start (Same.refl _) nD,fun i H2 _ A=>SqT.of (A.same _ _ hb),?_,?_⟩
 ·intro i z H2 hz A;obtain⟨dd,g1,g2⟩:=rx.get hz;rw[NW] at g1;obtain⟨t,et,rfl⟩:=N8.mp g1;have li:i<ts.length:=(NT.mp et).1;refine ht H2 z t _ (N2 et) A.same (g2.same A.same) fun p np=>?_
  have S3:=aj np (.tup [V.int (ix (aC ts) t.fr),.int (ix (aC ts) t.to)]);refine aR (by lia) ((A.on S3).ci (d:=dP (ix (aC ts) t.fr,ix (aC ts) t.to)) (.tup ag (RpL.ints [_,_])) (ar ?_) fun H4 A4=>?_)
  ·rw[NQ,NQ,Ot];lia
  ·show AccZ K H D H4 (((ts.take (i+1)).map fun t=>(ix (aC ts) t.fr,ix (aC ts) t.to)).map dP);rw[Oj,et,N1,N1];exact A4
 ·intro H2 A;rw[lx,Oh (N4 _)] at A;exact hq D H2 A
noncomputable def rD(K:Fg):TS:=(am (av (ay (c7 K) [] E0 (ac (aa 0) ae)) (ak 1))
 (aA (eI (tt K (aq (aE K) (aa 0) (tC (.int 1)))) (bJ (ac (eJ K "list" (uA K) (aa 2) (ac (aq (aE K) (aa 0) (tC (.int 0))) ae)) (ac (eJ K "list" (uA K) (aa 2) (ac (aq (aE K) (aa 0) (tC (.int 1))) ae)) ae))))))
theorem Ca{K:Fg}{vs:List V}{N:List Str}(hN:N.length=2)(h:fY K vs H Q E):rD K (ends Q) (L2.start N vs) H:=by
 obtain⟨v,ws,ts,rfl,rv,hl,k⟩:=h;rw[L2.aU hN];walk_at "t";unfold rD;walk_at "";refine⟨v,ws,ts,rfl,rv,hl,fun p H1 A1=>?_⟩;have S1:=A1.same;obtain⟨a0,y1,y2,rfl,ZI,_,r2⟩:=tJ (rv.same S1);obtain⟨a,xs,rfl,ha,rx⟩:=r2.cP;have Y8:=nQ hl;walk_at "";refine aF (SqT.of ZI) (v:=.ref a) rfl ?_;refine Kc (SqT.of ha) ?_;refine Ah hl ha rx (fun H2 z t Q' mt S2 rz q=>?_) fun D H' A=>k D H' (om S1 A)
 obtain⟨b,w1,w2,w3,rfl,hb,q1,q2,_⟩:=tL rz;have mm:=dU (hs:=[]) mt;have A2:=A1.on S2;have okd:∀e∈(aC ts).map dI,kqdOk 8 e=true:=fun e he=>by obtain⟨b,_,rfl⟩:=N9.mp he;exact jE b 7
 have first:∀{g:List Int} {m:Nat},m<ix (aC ts) g->((aC ts).map dI)[m]?≠some (dI g):=fun hm z=>by
  rw[NW] at z;obtain⟨g',e1,e2⟩:=N8.mp z;exact uW hm (by rw[e1,An e2])
 have at_:∀{g:List Int},g∈aC ts->((aC ts).map dI)[ix (aC ts) g]?=some (dI g):=fun m=>by rw[NW,zD m];rfl
 walk_at "";refine⟨A2.ty,?_⟩;walk_at "";refine aF (SqT.of hb) (v:=w1) rfl ?_;walk_at "";refine zz q1.rep A2.rep okd (jE _ 7) (at_ mm.1) (fun m hm=>first hm) (by rw[NQ];lia) ?_;walk_at "";refine⟨A2.ty,?_⟩;walk_at "";refine aF (SqT.of hb) (v:=w2) rfl ?_;walk_at "";refine zz q2.rep A2.rep okd (jE _ 7) (at_ mm.2) (fun m hm=>first hm) (by rw[NQ];lia) ?_;walk_at "";exact⟨aQ,q⟩
noncomputable def w_(K:Fg):TS:=(am (av xq (ak 1))
 (am (be (jR K (ac (ay (c7 K) [] E0 (ac (aa 0) ae)) ae)) (cF K 2 (a7 (ak 2) (a7 (ak 3) cG)))
 (o7 (aa 1) (aa 3) (aa 2)))
 (aA (eI (tt K (aq (aE K) (aa 0) (tC (.int 1)))) (bJ (ac (rO (aa 2) (aq (aE K) (aa 0) (tC (.int 0)))) (ac (rO (aa 2) (aq (aE K) (aa 0) (tC (.int 1)))) ae)))))))
theorem F3{K:Fg}{vs:List V}{N:List Str}(hN:N.length=4)(h:fY K vs H Q E):w_ K (ends Q) (L2.start N vs) H:=by
 obtain⟨v,ws,ts,rfl,rv,hl,k⟩:=h;rw[L2.aU hN];walk_at "t";have Y8:=nQ hl;have nd:=uZ ts;unfold w_;walk_at "";intro d fd;have S0:=aj fd (.dT []);walk_at "";refine⟨v,ws,ts,rfl,rv.same S0,hl,fun p H1 A1=>?_⟩;obtain⟨xs,hp,rx⟩:=A1.at_;have lx:xs.length=(aC ts).length:=by rw[rx.length,NQ]
 have S1:=A1.same;have e1:H1 d=some (.dT []):=S1 _ _ ag;walk_at "";refine⟨p,xs,rfl,SqL.of hp,?_⟩
 refine fK (xs:=xs) (fun i σ H2=>∃(de:List (List bf×V)) (u2 u3:Option V),σ=[some v,some (.ref d),u2,u3]/\Same H H2/\(∀b o,b≠d->H1 b=some o->H2 b=some o)/\H2 d=some (.dT de)/\de.length<=i/\∀g:List Int,g∈(aC ts).take i->bI de (iP g)=some (.int (ix (aC ts) g)))
  ⟨[],none,none,rfl,S0.trans S1,fun _ _ _ z=>z,e1,N4 _,by simp⟩ ?_ ?_ ?_
 ·rintro i σ H2 _ ⟨de,u2,u3,rfl,S,kp,ed,ek,eg⟩;exact SqL.of (kp p _ (kD hp e1 (by intro z;cases z)) hp)
 ·rintro i z σ H2 T hz ⟨de,u2,u3,rfl,S,kp,ed,ek,eg⟩ nT;obtain⟨dd,g1,g2⟩:=rx.get hz;rw[NW] at g1;obtain⟨g,hg,rfl⟩:=N8.mp g1;have li:i<(aC ts).length:=(NT.mp hg).1;obtain⟨b,rfl,hb⟩:=eM g2;have nbd:b≠d:=kD hb e1 (by intro z;cases z);have S2:=aj nT (.tup [.int (i:Int),.ref b]);have nTd:T≠d:=(au ed nT).symm;have ed2:=S2 _ _ ed;have Zu:=S2 _ _ (kp b _ nbd hb);refine bP (SqT.of ag) rfl ?_;walk_at "";refine⟨d,_,rfl,DPut.t ed2 (k:=iP g) (by rw[kJ];exact Zu) (ar (by lia)),?_⟩;have le1:=cr de (iP g) (.int (i:Int));refine⟨_,_,_,rfl,fun b' o q=>?_,fun b' o n q=>?_,ag,by lia,fun g' mg=>?_⟩
  ·rw[aB (au q fd)];exact S2 _ _ (S _ _ q)
  ·rw[aB n];exact S2 _ _ (kp b' o n q)
  ·rw[lQ];by_cases e:iP g'=iP g
   ·rw[if_pos e,wN e,KD nd hg]
   ·rw[if_neg e];refine eg g' ?_;rw[Oj,hg] at mg;rcases N_.mp mg with m|m
    ·exact m
    ·exact absurd (by rw[N7.mp m]) e
 ·rintro σ H2 ⟨de,u2,u3,rfl,S,kp,ed,ek,eg⟩;rw[lx,Oh (N4 _)] at eg;obtain⟨a0,y1,y2,rfl,ZI,_,r2⟩:=tJ (rv.same S);obtain⟨a,zs,rfl,ha,rz⟩:=r2.cP;walk_at "";refine aF (SqT.of ZI) (v:=.ref a) rfl ?_;refine Kc (SqT.of ha) ?_;refine Ah hl ha rz (fun H3 z t Q' mt S3 rt q=>?_) fun D H' A=>k D H' (om S A)
  obtain⟨b,w1,w2,w3,rfl,hb,q1,q2,_⟩:=tL rt;obtain⟨b1,rfl,Zb⟩:=eM q1;obtain⟨b2,rfl,Zu⟩:=eM q2;have mm:=dU (hs:=[]) mt;walk_at "";refine aF (SqT.of hb) (v:=.ref b1) rfl ?_;refine⟨d,_,rfl,(by have:=DGet.t (S3 _ _ ed) (k:=iP t.fr) (b:=b1) (by rw[kJ];exact Zb);rw[eg t.fr mm.1] at this;exact this),?_⟩;walk_at "";refine aF (SqT.of hb) (v:=.ref b2) rfl ?_;refine⟨d,_,rfl,(by have:=DGet.t (S3 _ _ ed) (k:=iP t.to) (b:=b2) (by rw[kJ];exact Zu);rw[eg t.to mm.2] at this;exact this),?_⟩;walk_at "";exact⟨aQ,q⟩
theorem a5{α:Type}[DecidableEq α]:∀{l hs:List α},l.Nodup->(∀x∈l,x∈hs)->l.length<=hs.length
 |[],_,_,_=>OR _
 |x :: l,hs,nd,sub=>by
  rw[OO] at nd;have hx:=sub x NX
  have h:=a5 (l:=l) (hs:=hs.erase x) nd.2 fun y hy=>by
   refine(TU ?_).mpr (sub y (NZ _ hy));rintro rfl;exact nd.1 hy
  rw[SA hx] at h
  have:=RE hx
  rw[Oz];lia
theorem wa{α:Type}[DecidableEq α]{l hs:List α}(nd:l.Nodup)(sub:∀x∈l,x∈hs)(le:hs.length<=l.length):∀y∈hs,y∈l:=fun y hy=>by
 by_cases z:y∈l
 ·exact z
 ·have h:=a5 (l:=l) (hs:=hs.erase y) nd fun x hx=>(TU (by rintro rfl;exact z hx)).mpr (sub x hx)
  rw[SA hy] at h
  have:=RE hy
  lia
inductive Rch (es:List (Nat×Nat)) (a:Nat):Nat->Prop
 |refl:Rch es a a
 |step {x y:Nat}:Rch es a x->(x,y)∈es->Rch es a y
noncomputable def Cl(es:List (Nat×Nat))(S:List Nat):Prop:=∀e∈es,e.1∈S->e.2∈S
theorem Ek{S:List Nat}{a:Nat}(ha:a∈S)(c:Cl es S)(h:Rch es a b):b∈S:=by
 induction h with
 |refl=>exact ha
 |step _ m ih=>exact c _ m ih
noncomputable def dN(n:Nat):Dat:=.int (n:Int)
theorem uN{ns:List Nat}:dN x∈ns.map dN↔x∈ns:=by
 rw[N9];constructor
 ·rintro⟨b,hb,e⟩;have e':=VY e
  have:b=x:=RO e'
  rw[<- this];exact hb
 ·intro h;exact⟨x,h,rfl⟩
theorem JM(ns:List Nat):∀e∈ns.map dN,kqdOk 8 e=true:=fun e he=>by
 obtain⟨b,_,rfl⟩:=N9.mp he;rfl
noncomputable def mF(K:Fg):Sp:=fun vs H Q _=>∃(p:Addr) (xs:List V) (es:List (Nat×Nat)) (a:Nat),vs=[.ref p,.int (a:Int)]/\H p=some (.lst xs)/\RzL K H xs (es.map dP)/\es.length<=100 /\
 ∀(q:Addr) (H':Hp) (ns:List Nat),AccZ K H q H' (ns.map dN)->ns.Nodup->(∀x,x∈ns↔Rch es a x)->Q (.ref q) H'
theorem qp{K:Fg}(h:Rz K H v (dP q)):∃a:Addr,v=.ref a/\H a=some (.tup [.int (q.1:Int),.int (q.2:Int)]):=by
 obtain⟨a,xs,e,ha,r⟩:=h.cP;cases RpL.ints_of (ns:=[(q.1:Int),(q.2:Int)]) r;exact⟨a,e,ha⟩
noncomputable def re(K:Fg):TS:=(am (av (ca (ac (aa 1) ae)) (ak 2))
 (am (be (cC (ac (aZ (bM K) (ac (aa 0) ae)) ae)) (ak 3)
 (be (bQ K (aa 0)) (cF K 2 (a7 (ak 4) (a7 (ak 5) cG)))
 (aI (kn (aH (aq (hE K false) (aa 4) (aa 2))) (aH (aq (hE K true) (aa 5) (aa 2))))
 (bE (eJ K "list" aM (aa 2) (ac (aa 5) ae)))
 aO)))
 (aA (aa 2))))
theorem BS{K:Fg}{vs:List V}{N:List Str}(hN:N.length=6)(h:mF K vs H Q E):re K (ends Q) (L2.start N vs) H:=by
 obtain⟨p,xs,es,a,rfl,hp,rx,le,k⟩:=h;rw[L2.aU hN];walk_at "t";have lx:xs.length=es.length:=by rw[rx.length,NQ]
 unfold re;walk_at "";refine⟨jc,fun l nl=>?_⟩;have Sl:=aj nl (.lst [.int (a:Int)]);have A0:AccZ K H l (upd H l (.lst [.int (a:Int)])) ([a].map dN):=⟨Sl,nl,[.int (a:Int)],ag,.cons (.int _) .nil⟩
 walk_at "";refine bH (SqL.of (Sl _ _ hp)) ?_;rw[lx];walk_at "";have et:((es.length:Nat):Int).toNat=es.length:=by lia
 rw[et]
 refine a8 (fun i σ H2=>∃(ns:List Nat) (u3 u4 u5:Option V),σ=[some (.ref p),some (.int (a:Int)),some (.ref l),u3,u4,u5]/\AccZ K H l H2 (ns.map dN)/\ns.Nodup/\(∀x∈ns,Rch es a x)/\a∈ns/\(∀x∈ns,x∈a :: es.map (·.2))/\(Cl es ns\/i+1<=ns.length))
  ⟨[a],none,none,none,rfl,A0,by simp,fun x hx=>by rw[N7.mp hx];exact .refl,by simp,fun x hx=>by rw[N7.mp hx];exact NX,.inr (N4 _)⟩ ?_ ?_
 ·rintro i σ H2 hi ⟨ns,u3,u4,u5,rfl,A,nd,rc,ma,sub,cl⟩;walk_at "";refine gO (SqL.of (A.same _ _ hp)) ?_
  refine bj (xs:=xs) (fun j σ H3=>∃(ms:List Nat) (w4 w5:Option V),σ=[some (.ref p),some (.int (a:Int)),some (.ref l),some (.int (0+(i:Int))),w4,w5]/\AccZ K H l H3 (ms.map dN)/\ms.Nodup/\(∀x∈ms,Rch es a x)/\a∈ms/\(∀x∈ms,x∈a :: es.map (·.2)) /\
    ((ms=ns/\∀m<j,∀e,es[m]?=some e->e.1∈ns->e.2∈ns)\/(ns.length<ms.length/\¬ Cl es ns)))
   ⟨ns,u4,u5,rfl,A,nd,rc,ma,sub,.inl ⟨rfl,fun m hm=>absurd hm (PD _)⟩⟩ ?_ ?_ ?_
  ·rintro j σ H3 _ ⟨ms,w4,w5,rfl,B,_⟩;exact SqL.of (B.same _ _ hp)
  ·rintro j z σ H3 hz ⟨ms,w4,w5,rfl,B,nd2,rc2,ma2,Zn,alt⟩;obtain⟨dd,g1,g2⟩:=rx.get hz;rw[NW] at g1;obtain⟨e,he,rfl⟩:=N8.mp g1;obtain⟨x,y⟩:=e;obtain⟨b,rfl,hb⟩:=qp (g2.same B.same);have mem:(x,y)∈es:=N2 he
   have lm:ms.length<=101:=by
    have:=a5 nd2 Zn
    rw[Oz,NQ] at this;lia
   have keep:(x∈ms->y∈ms)->((ms=ns/\∀m<j+1,∀e,es[m]?=some e->e.1∈ns->e.2∈ns)\/(ns.length<ms.length/\¬ Cl es ns)):=fun z=>by
    rcases alt with⟨e1,e2⟩|q
    ·refine .inl ⟨e1,fun m hm e' ge=>?_⟩;by_cases mj:m<j
     ·exact e2 m mj e' ge
     ·have:m=j:=by lia
      rw[this,he] at ge;cases Oq ge;rw[<- e1];exact z
    ·exact .inr q
   refine bP (SqT.of hb) rfl ?_;walk_at "";refine Ko (d:=dN x) (.int _) B.rep (JM ms) rfl (fun mx=>?_) (fun mx=>?_)
   ·walk_at "";refine fI (d:=dN y) (.int _) B.rep (JM ms) rfl (fun my=>?_) (fun my=>?_)
    ·have ny:y∉ms:=fun z=>my (uN.mpr z)
     have mx':=uN.mp mx;walk_at "";refine⟨B.ty,?_⟩;walk_at "";refine cB B (d:=dN y) (.int _) (ar (by rw[NQ];lia)) fun H4 B4 _ _ _=>?_
     walk_at "";refine⟨ms++[y],_,_,rfl,by rw[N1];exact B4,cq nd2 ny,cy rc2 (.step (rc2 x mx') mem),Oe _ ma2,cy Zn (NZ _ (N9.mpr ⟨_,mem,rfl⟩)),.inr ?_⟩;rcases alt with⟨e1,e2⟩|⟨q1,q2⟩
     ·rw[<- e1];exact⟨by simp,fun c=>ny (c _ mem mx')⟩
     ·exact⟨by simp;lia,q2⟩
    ·walk_at "";exact⟨ms,_,_,rfl,B,nd2,rc2,ma2,Zn,keep fun _=>uN.mp my⟩
   ·walk_at "";exact⟨ms,_,_,rfl,B,nd2,rc2,ma2,Zn,keep fun z=>absurd (uN.mpr z) mx⟩
  ·rintro σ H3 ⟨ms,w4,w5,rfl,B,nd2,rc2,ma2,Zn,alt⟩;refine⟨ms,_,_,_,rfl,B,nd2,rc2,ma2,Zn,?_⟩;rcases alt with⟨e1,e2⟩|⟨q1,q2⟩
   ·refine .inl fun e he=>?_
    obtain⟨m,hm,ge⟩:=Pa.mp he;rw[e1];exact e2 m (by lia) e (by rw[NR hm,ge])
   ·exact .inr (by have:=cl.resolve_left q2;lia)
 ·rintro σ H2 ⟨ns,u3,u4,u5,rfl,A,nd,rc,ma,sub,cl⟩
  have c:Cl es ns:=by
   rcases cl with c|l1
   ·exact c
   ·have f:=wa nd sub (by rw[Oz,NQ];exact l1);exact fun e he _=>f _ (NZ _ (N9.mpr ⟨e,he,rfl⟩))
  walk_at "";exact k l H2 ns A nd fun x=>⟨rc x,Ek ma c⟩
noncomputable def ul(K:Fg):Sp:=fun vs H Q _=>∃(v:V) (ws:List Str) (ts:List Tn) (n:Nat),vs=[v,.int (n:Int)]/\Rz K H v (dV ws ts)/\ts.length<=100/\n<(aC ts).length/\∀H',Same H H'->Q .non H'
noncomputable def xl(K:Fg):TS:=(aI (qO (fR (tB (ay g6 [] E0 (ac (aa 1) ae)))) (fR (aH (xu Nu Cs (tC (.int 0)) (aa 1) (aZ (bM K) (ac (ay (c7 K) [] E0 (ac (aa 0) ae)) ae))))))
 oG
 aO)
theorem F_{K:Fg}{vs:List V}{N:List Str}(hN:N.length=2)(h:ul K vs H Q E):xl K (ends Q) (L2.start N vs) H:=by
 obtain⟨v,ws,ts,n,rfl,rv,hl,ln,k⟩:=h;rw[L2.aU hN];walk_at "t";unfold xl;walk_at "";refine⟨(n:Int),rfl,?_⟩;walk_at "";refine a6 (fun _=>?_) (fun z=>absurd z (by lia));walk_at "";refine⟨v,ws,ts,rfl,rv,hl,fun p H1 A1=>?_⟩;obtain⟨xs,hp,lx,_⟩:=A1.sq;rw[NQ] at lx;walk_at "";refine bH hp ?_;walk_at "";refine cH (fun z=>absurd z (by lia)) (fun _=>?_);walk_at "";exact k H1 A1.same
structure RI (es:List (Nat×Nat)) (a n:Nat) (H3:Hp) (rd ct:Addr) (cs:List Nat) (H:Hp):Prop where
 same:Same H3 H
 dict:∃de:List (bf×V),H rd=some (.dK de)/\de.length<=cs.length/\(∀c:Nat,(bI de (.inl (c:Int))).isSome=true↔c∈cs)/\∀k v,bI de k=some v->∃q xs,v=.ref q/\H q=some (.lst xs)/\q≠ct/\xs.length<=cs.length
 come:H ct=some (.lst (cs.map fun c:Nat=>V.int (c:Int)))
 nd:cs.Nodup
 lt:∀c∈cs,c<n
 one:a∈cs
 rch:∀c∈cs,Rch es a c
theorem RI.on(R:RI es a n H3 rd ct cs H)(S:Same H H'):RI es a n H3 rd ct cs H':=by
 obtain⟨de,h1,h2,h3,h4⟩:=R.dict;refine⟨R.same.trans S,⟨de,S _ _ h1,h2,h3,fun k v e=>?_⟩,S _ _ R.come,R.nd,R.lt,R.one,R.rch⟩;obtain⟨q,xs,e1,e2,e3⟩:=h4 k v e;exact⟨q,xs,e1,S _ _ e2,e3⟩
theorem RI.len(R:RI es a n H3 rd ct cs H):cs.length<=n:=by
 have:=a5 (hs:=Oa n) R.nd fun x hx=>Ow.mpr (R.lt x hx)
 rwa [On] at this
theorem RI.more{de:List (bf×V)}{y:Nat}(R:RI es a n H3 rd ct cs H)(nr:H3 rd=none)(nc:H3 ct=none)(ed:H rd=some (.dK de))(ny:y∉cs)(ly:y<n)(ry:Rch es a y)
  (hp:H p=some (.lst xs)) (npc:p≠ct) (lxs:xs.length<=cs.length+1) :
  RI es a n H3 rd ct (cs++[y]) (upd (upd H rd (.dK (cm de (.inl (y:Int)) (.ref p)))) ct (.lst ((cs.map fun c:Nat=>V.int (c:Int))++[.int (y:Int)]))):=by
 obtain⟨kvs',h1,h2,h3,h4⟩:=R.dict;rw[ed] at h1;cases h1;have ncr:rd≠ct:=kD ed R.come (by intro z;cases z);have lp:=cr de (R3 (y:Int):bf) (.ref p);refine⟨fun b o q=>?_,⟨_,by rw[aB ncr];exact ag,by rw[N6];simp only[Qt];lia,fun c=>?_,fun k v e=>?_⟩,by rw[ag,N1];rfl,cq R.nd ny,cy R.lt ly,Oe _ R.one,cy R.rch ry⟩
 ·rw[aB (au q nc),aB (au q nr)];exact R.same b o q
 ·rw[lQ,N_,N7];by_cases e:c=y
  ·subst e;simp
  ·rw[if_neg (show ¬ ((R3 (c:Int):bf)=R3 (y:Int)) from fun z=>e (RO (SL z))),h3 c];simp[e]
 ·rw[lQ] at e
  have keep:∀q ys,H q=some (.lst ys)->q≠ct->upd (upd H rd (.dK (cm de (.inl (y:Int)) (.ref p)))) ct (.lst ((cs.map fun c:Nat=>V.int (c:Int))++[.int (y:Int)])) q=some (.lst ys):=fun q ys hq nq=>by
   rw[aB nq,aB (kD hq ed (by intro z;cases z))];exact hq
  rw[N6];simp only[Qt];by_cases ek:k=.inl (y:Int)
  ·rw[if_pos ek] at e;exact⟨p,xs,(Oq e).symm,keep p xs hp npc,npc,lxs⟩
  ·rw[if_neg ek] at e;obtain⟨q,ys,e1,e2,e3,e4⟩:=h4 k v e;exact⟨q,ys,e1,keep q ys e2 e3,e3,by lia⟩
noncomputable def xK(K:Fg):Sp:=fun vs H Q _=>∃(v:V) (ws:List Str) (ts:List Tn) (a b:Nat),vs=[v,.int (a:Int),.int (b:Int)]/\Rz K H v (dV ws ts)/\ts.length<=100/\a<(aC ts).length/\b<(aC ts).length /\
 (Rch (al ts) a b->∀(p:Addr) (H':Hp),Same H H'->Q (.ref p) H')/\(¬ Rch (al ts) a b->∀H',Same H H'->Q .non H')
noncomputable def wT(K:Fg):TS:=(am (bE (ay (ul K) [] E0 (ac (aa 0) (ac (aa 1) ae))))
 (am (bE (ay (ul K) [] E0 (ac (aa 0) (ac (aa 2) ae))))
 (am (av (ay (fY K) [] E0 (ac (aa 0) ae)) (ak 3))
 (am (av (Fv [((aa 1),(ca ae))]) (ak 4))
 (am (av (ca (ac (aa 1) ae)) (ak 5))
 (am (av (tC (.int 0)) (ak 6))
 (am (fV (aH (aq Cs (aa 6) (aZ (bM K) (ac (aa 5) ae))))
 (am (av (aq (bX K) (aa 5) (aa 6)) (ak 7))
 (am (be (jR K (ac (aa 3) ae)) (cF K 2 (a7 (ak 8) (a7 (ak 9) cG)))
 (aI (kn (aH (aq fF (aq (aE K) (aa 9) (tC (.int 0))) (aa 7))) (tB (rN (aq (aE K) (aa 9) (tC (.int 1))) (aa 4))))
 (am (o7 (aa 4) (aq (aE K) (aa 9) (tC (.int 1))) (aq mW (rO (aa 4) (aa 7)) (ca (ac (aa 8) ae))))
 (bE (eJ K "list" aM (aa 5) (ac (aq (aE K) (aa 9) (tC (.int 1))) ae))))
 aO))
 (av (aq bG (aa 6) (tC (.int 1))) (ak 6)))))
 (aA (xt (aa 4) (aa 2))))))))))
theorem FU{K:Fg}{vs:List V}{N:List Str}(hN:N.length=10)(h:xK K vs H Q E):wT K (ends Q) (L2.start N vs) H:=by
 obtain⟨v,ws,ts,a,b,rfl,rv,hl,la,lb,Zy,kno⟩:=h;rw[L2.aU hN];walk_at "t";have Y8:=nQ hl;have eo:=cc ts;unfold wT;walk_at "";refine⟨v,ws,ts,a,rfl,rv,hl,la,fun H1 S1=>?_⟩;walk_at "";refine⟨v,ws,ts,b,rfl,rv.same S1,hl,lb,fun H2 S2=>?_⟩;walk_at "";refine⟨v,ws,ts,rfl,(rv.same S1).same S2,hl,fun pe H3 A3=>?_⟩;have S03:=S1.trans (S2.trans A3.same);obtain⟨xs,YY,rx⟩:=A3.at_;have le:(al ts).length=ts.length:=by unfold al;rw[NQ]
 have lx:xs.length=(al ts).length:=by rw[rx.length,NQ]
 generalize al ts=es at Zy kno rx lx eo le;generalize (aC ts).length=n at la lb Y8 eo;walk_at "";intro rd nr;have T1:=aj nr (.dK []);unfold iX;walk_at "";refine⟨by decide,fun q0 nq0=>?_⟩;have T2:=aj nq0 (.lst []);unfold iX;refine⟨T2 _ _ ag,[(.inl (a:Int),.ref q0)],rfl,by show 1<=15;decide,?_⟩;have nq:q0≠rd:=(au (show upd H3 rd (.dK []) rd=some _ from ag) nq0).symm
 have S4:Same H3 (upd (upd (upd H3 rd (.dK [])) q0 (.lst [])) rd (.dK (d_ [] [(.inl (a:Int),.ref q0)]))):=fun b' o q=>by
  rw[aB (au q nr)];exact T2 _ _ (T1 _ _ q)
 have ed:upd (upd (upd H3 rd (.dK [])) q0 (.lst [])) rd (.dK (d_ [] [(.inl (a:Int),.ref q0)])) rd=some (.dK [((.inl (a:Int):bf),.ref q0)]):=ag;have eq0:upd (upd (upd H3 rd (.dK [])) q0 (.lst [])) rd (.dK (d_ [] [(.inl (a:Int),.ref q0)])) q0=some (.lst []):=by rw[aB nq];exact ag
 generalize upd (upd (upd H3 rd (.dK [])) q0 (.lst [])) rd (.dK (d_ [] [(.inl (a:Int),.ref q0)]))=H4 at S4 ed eq0 ⊢;walk_at "";refine⟨jc,fun ct nct=>?_⟩;have S5:=aj nct (.lst [.int (a:Int)]);have nc:H3 ct=none:=S4.free nct
 have R0:RI es a n H3 rd ct [a] (upd H4 ct (.lst [.int (a:Int)])):=by
  refine⟨S4.trans S5,⟨_,S5 _ _ ed,by simp,fun c=>?_,fun k v e=>?_⟩,ag,by simp,fun c hc=>by rw[N7.mp hc];exact la,by simp,fun c hc=>by rw[N7.mp hc];exact .refl⟩
  ·by_cases e:c=a
   ·subst e;rw[bA rfl];simp
   ·rw[bo (show ¬ (R3 (a:Int):bf)=R3 (c:Int) from fun z=>e (RO (SL z)).symm)];simp[e,ua]
  ·by_cases e':(R3 (a:Int):bf)=k
   ·rw[bA e'] at e;exact⟨q0,[],(Oq e).symm,S5 _ _ eq0,au eq0 nct,by simp⟩
   ·rw[bo e',ua] at e;cases e
 generalize upd H4 ct (.lst [.int (a:Int)])=H5 at R0;walk_at ""
 refine gD (fun σ H6=>∃(cs:List Nat) (pl:Nat) (u7 u8 u9:Option V),σ=[some v,some (.int (a:Int)),some (.int (b:Int)),some (.ref pe),some (.ref rd),some (.ref ct),some (.int (pl:Int)),u7,u8,u9]/\RI es a n H3 rd ct cs H6/\pl<=cs.length/\∀j<pl,∀x,cs[j]?=some x->∀y,(x,y)∈es->y∈cs)
  (fun σ _=>match σ with | [_,_,_,_,_,_,some (.int pl),_,_,_]=>n-pl.toNat|_=>0) ⟨[a],0,none,none,none,rfl,R0,OR _,fun j hj=>absurd hj (PD _)⟩ ?_ ?_
 ·rintro σ H6 ⟨cs,pl,u7,u8,u9,rfl,R,lpl,done⟩;have lcs:=R.len;walk_at "";refine bH (SqL.of R.come) ?_;rw[NQ];walk_at "";refine a6 (fun lt=>?_) (fun ge=>?_)
  ·have lt':pl<cs.length:=by lia
   have Zt:cs[pl]?=some cs[pl]:=NR lt';have ZA:=OZ lt';generalize cs[pl]=hr at Zt ZA;walk_at "";refine cj (SqL.of R.come) (v:=.int (hr:Int)) (aG (by rw[NW,Zt];rfl)) ?_;walk_at "";refine⟨pe,xs,rfl,SqL.of (R.same _ _ YY),?_⟩
   refine fK (xs:=xs) (fun i σ H7=>∃(ex:List Nat) (w8 w9:Option V),σ=[some v,some (.int (a:Int)),some (.int (b:Int)),some (.ref pe),some (.ref rd),some (.ref ct),some (.int (pl:Int)),some (.int (hr:Int)),w8,w9]/\RI es a n H3 rd ct (cs++ex) H7/\∀j<i,∀y,es[j]?=some (hr,y)->y∈cs++ex)
    ⟨[],u8,u9,rfl,by rw[Qb];exact R,fun j hj=>absurd hj (PD _)⟩ ?_ ?_ ?_
   ·rintro i σ H7 _ ⟨ex,w8,w9,rfl,R7,_⟩;exact SqL.of (R7.same _ _ YY)
   ·rintro i z σ H7 T hz ⟨ex,w8,w9,rfl,R7,dn⟩ nT;obtain⟨dd,g1,g2⟩:=rx.get hz;rw[NW] at g1;obtain⟨e,he,rfl⟩:=N8.mp g1;obtain⟨x,y⟩:=e;have mem:(x,y)∈es:=N2 he;have oe:=eo _ mem;have S8:=aj nT (.tup [.int (i:Int),z]);have R8:=R7.on S8;obtain⟨pb,rfl,Y9⟩:=qp ((g2.same R7.same).same S8)
    have keep:(x=hr->y∈cs++ex)->∀j<i+1,∀y',es[j]?=some (hr,y')->y'∈cs++ex:=fun q j hj y' ge=>by
     by_cases ji:j<i
     ·exact dn j ji y' ge
     ·have:j=i:=by lia
      rw[this,he] at ge;have e1:=Oq ge;have e2:x=hr:=congrArg Vb e1;have e3:y=y':=congrArg Uw e1;rw[<- e3];exact q e2
    have hT:upd H7 T (.tup [.int (i:Int),.ref pb]) T=some (.tup [.int (i:Int),.ref pb]):=ag;refine bP (SqT.of ag) rfl ?_;walk_at "";generalize upd H7 T (.tup [.int (i:Int),.ref pb])=H8 at S8 R8 Y9 hT ⊢;refine aF (SqT.of Y9) (v:=.int (x:Int)) rfl ?_;walk_at "";refine a6 (fun ex1=>?_) (fun ex1=>?_)
    ·have exh:x=hr:=RO ex1;walk_at "";refine aF (SqT.of Y9) (v:=.int (y:Int)) rfl ?_;walk_at "";obtain⟨de,d1,d2,d3,d4⟩:=id R8.dict;refine⟨rd,_,rfl,(DGet.k d1:DGet H8 rd (kV (.inl (y:Int))) _),?_⟩;by_cases my:y∈cs++ex
     ·rw[(d3 y).mpr my];walk_at "";exact⟨ex,_,_,rfl,R8,keep fun _=>my⟩
     ·have nv:(bI de (.inl (y:Int))).isSome=false:=by
       cases hh:(bI de (.inl (y:Int):bf)).isSome with
       |false=>rfl
       |true=>exact absurd ((d3 y).mp hh) my
      rw[nv];walk_at "";obtain⟨vh,evh⟩:=Ss.mp ((d3 hr).mpr (Oe _ ZA));obtain⟨q,zs,rfl,hq,nqc,lz⟩:=d4 _ _ evh;have lall:=R8.len;refine⟨rd,_,rfl,(by have:=(DGet.k d1:DGet H8 rd (kV (.inl (hr:Int))) _);rw[evh] at this;exact this),?_⟩;walk_at "";refine⟨jc,fun p1 np1=>?_⟩;have S9:=aj np1 (.lst [.int (i:Int)]);have hp1:upd H8 p1 (.lst [.int (i:Int)]) p1=some (.lst [.int (i:Int)]):=ag;have R9:=R8.on S9;have d9:=S9 _ _ d1;have hq9:=S9 _ _ hq;have hpb9:=S9 _ _ Y9;generalize upd H8 p1 (.lst [.int (i:Int)])=H9 at S9 hp1 R9 d9 hq9 hpb9 ⊢;refine⟨q,p1,zs,_,rfl,rfl,hq9,hp1,by rw[show sizeLine=16777216 by decide];simp only[Qt];lia,fun p2 np2=>?_⟩;have S10:=aj np2 (.lst (zs++[.int (i:Int)]));have hp2:upd H9 p2 (.lst (zs++[.int (i:Int)])) p2=some (.lst (zs++[.int (i:Int)])):=ag;have R10:=R9.on S10;have d10:=S10 _ _ d9;have Zj:=S10 _ _ hpb9;have np2c:p2≠ct:=(au R9.come np2).symm;generalize upd H9 p2 (.lst (zs++[.int (i:Int)]))=YC at S10 hp2 R10 d10 Zj ⊢;walk_at "";refine aF (SqT.of Zj) (v:=.int (y:Int)) rfl ?_;refine⟨rd,_,rfl,(DPut.k d10 (ar (by lia)):DPut YC rd (kV (.inl (y:Int))) _ _),?_⟩;have ncr:ct≠rd:=(kD d10 R10.come (by intro z;cases z)).symm;have npr:pb≠rd:=kD Zj d10 (by intro z;cases z);have hc11:upd YC rd (.dK (cm de (.inl (y:Int)) (.ref p2))) ct=some (.lst ((cs++ex).map fun c:Nat=>V.int (c:Int))):=by rw[aB ncr];exact R10.come
      have R11:=R10.more (y:=y) (p:=p2) (xs:=zs++[.int (i:Int)]) nr nc d10 my oe.2 (.step (R8.rch x (exh ▸ Oe _ ZA)) mem) hp2 np2c (by rw[N6];simp only[Qt];lia);walk_at "";refine⟨qd hc11,?_⟩;walk_at "";refine aF (SqT.of (by rw[aB npr];exact Zj)) (v:=.int (y:Int)) rfl ?_;refine Df ?_;refine Di hc11 (ar (by rw[NQ];lia)) ?_;walk_at "";refine⟨ex++[y],_,_,rfl,by rw[<- Pi];exact R11,fun j hj y' ge=>?_⟩;rw[<- Pi];by_cases ji:j<i
      ·exact Oe _ (dn j ji y' ge)
      ·have:j=i:=by lia
       rw[this,he] at ge;have e3:y=y':=congrArg Uw (Oq ge);exact Ob _ (by rw[e3];exact N7.mpr rfl)
    ·walk_at "";exact⟨ex,_,_,rfl,R8,keep fun z=>absurd (by rw[z]) ex1⟩
   ·rintro σ H7 ⟨ex,w8,w9,rfl,R7,dn⟩;walk_at "";refine⟨⟨cs++ex,pl+1,_,_,_,rfl,R7,by rw[N6];lia,fun j hj x gx y my=>?_⟩,?_⟩
    ·by_cases jp:j<pl
     ·rw[O5 (by lia)] at gx;exact Oe _ (done j jp x gx y my)
     ·have:j=pl:=by lia
      rw[this,O5 lt',Zt] at gx;cases Oq gx;obtain⟨m,hm,ge⟩:=Pa.mp my;exact dn m (by lia) y (by rw[NR hm,ge])
    ·show n-((pl:Int)+1).toNat<n-((pl:Int)).toNat;lia
  ·have epl:pl=cs.length:=by lia
   have cl:Cl es cs:=fun e he m1=>by
    obtain⟨j,hj,gj⟩:=Pa.mp m1;exact done j (by lia) e.1 (by rw[NR hj,gj]) e.2 he
   obtain⟨de,d1,d2,d3,d4⟩:=id R.dict;walk_at "";refine⟨rd,rfl,.inl ⟨de,.inl d1⟩,?_⟩;walk_at "";refine⟨_,(DGet.k d1:DGet H6 rd (kV (.inl (b:Int))) _),?_⟩;cases hv:bI de (.inl (b:Int)) with
   |none =>
    refine kno (fun r=>?_) H6 (S03.trans R.same)
    have:=(d3 b).mpr (Ek R.one cl r)
    rw[hv] at this;cases this
   |some w =>
    obtain⟨q,zs,rfl,_⟩:=d4 _ _ hv;exact Zy (R.rch b ((d3 b).mp (by rw[hv];rfl))) q H6 (S03.trans R.same)
 ·rintro σ H' R R' h ⟨w1,e1,w2,e2,p,ys,e3,e4,i,j,e5,e6,kk,e7,q⟩;exact⟨w1,e1,w2,e2,p,ys,e3,e4,i,j,e5,e6,kk,e7,h _ _ q⟩
end Ti
namespace Sz
open PySem L2 Fr G1 Sm Vs G2 Rk
open PySem.W (Dat kqdOk)
noncomputable def dL(r:List Int):Dat:=.list (r.map O4)
theorem GR(ns:List Int)(n:Nat):kqdOk (n+1) (dL ns)=true:=by
 show((ns.map O4).all (kqdOk n))=true;rw[Va];intro x hx;obtain⟨i,_,rfl⟩:=N9.mp hx;cases n <;> rfl
theorem wn{K:Fg}(h:Rp K S H v (dL r)):∃b,v=.ref b/\S b/\H b=some (.lst (r.map V.int)):=by
 obtain⟨b,xs,rfl,s,hb,rx⟩:=Rp.iu h;rw[RpL.ints_of rx] at hb;exact⟨b,rfl,s,hb⟩
theorem wm{K:Fg}{S:Addr->Prop}{H:Hp}{r:List Int}(s:S b)(h:H b=some (.lst (r.map V.int))):Rp K S H (.ref b) (dL r):=.lst s h (RpL.ints r)
noncomputable def wB(n:Nat)(R:List (List Int)):Prop:=∀r∈R,∀c∈r,c.natAbs<2 ^ n
theorem kQ{n:Nat}{r:List Int}(h:∀c∈r,c.natAbs<2 ^ n)(p:Nat):(pt r p).natAbs<2 ^ n:=by
 unfold pt;rw[NS];cases e:r[p]? with
 |none=>exact XF n
 |some c=>exact h c (N2 e)
theorem Av{n:Nat}{by_ r:List Int}(hb:∀c∈by_,c.natAbs<2 ^ n)(hr:∀c∈r,c.natAbs<2 ^ n):∀c∈fT by_ p r,c.natAbs<2 ^ (2*n+1):=by
 intro c hc;unfold fT at hc;obtain⟨i,hi⟩:=ON hc;rw[RQ] at hi;cases e1:r[i]? with
 |none=>rw[e1] at hi;simp at hi
 |some one =>
  cases e2:by_[i]? with
  |none=>rw[e1,e2] at hi;simp at hi
  |some Bf =>
   rw[e1,e2] at hi;have Zo:=Oq hi;subst Zo
   have m1:(one*pt by_ p).natAbs<2 ^ n*2 ^ n:=by
    rw[OU];exact Tz (hr one (N2 e1)) (kQ hb p)
   have m2:(pt r p*Bf).natAbs<2 ^ n*2 ^ n:=by
    rw[OU];exact Tz (kQ hr p) (hb Bf (N2 e2))
   have e:2 ^ (2*n+1)=2 ^ n*2 ^ n+2 ^ n*2 ^ n:=by
    rw[PZ,Nat.two_mul n,SO];lia
   rw[e];generalize one*pt by_ p=x at m1 ⊢;generalize pt r p*Bf=y at m2 ⊢;generalize 2 ^ n*2 ^ n=z at m1 m2 ⊢;show(x-y).natAbs<z+z;lia
noncomputable def Bp(R:List (List Int))(i:Nat):Nat×List (List Int):=(Oa i).foldl ip (0,R)
theorem xx(R:List (List Int))(i:Nat):Bp R (i+1)=ip (Bp R i) i:=by
 unfold Bp;rw[Ps,PQ];rfl
theorem ED{n:Nat}{x y:Int}(h:n<=20000)(hx:x.natAbs<2 ^ n)(hy:y.natAbs<2 ^ n):Bb x y:=⟨OB hx (Om (by decide) h),OB hy (Om (by decide) h)⟩
theorem tR{r:List Int}{i:Nat}(h:i<r.length):tT (r.map V.int) ((i:Nat):Int)=some (V.int (pt r i)):=by
 refine aG ?_;unfold pt;rw[NW,NS,NR h];rfl
noncomputable def KY(t:Tn):List Int:=RA (fun a b=>b-a) t.fr t.to
end Sz
namespace Sf
open Rk Sz
noncomputable def fp(r:List Int):Option Nat:=r.findIdx? (fun x=>decide (x≠0))
theorem dh{i:Nat}(h:fp r=some i):i<r.length/\pt r i≠0/\∀j,j<i->pt r j=0:=by
 unfold fp at h;rw[QY] at h;obtain⟨l,h1,h2⟩:=h;refine⟨l,?_,fun j hj=>?_⟩
 ·unfold pt;rw[NS,NR l];simpa using h1
 ·have:=h2 j hj
  unfold pt;rw[NS,NR (by lia)];simpa using this
theorem Ab(h:fp r=none)(q:Nat):pt r q=0:=by
 unfold fp at h;rw[Q0] at h;unfold pt;rw[NS];cases e:r[q]? with
 |none=>rfl
 |some c=>simpa using h c (N2 e)
noncomputable def cE(r:List Int):Int:=r.foldl Gd.gd 0
theorem KO(a b:Int):Gd.gd a b∣a/\Gd.gd a b∣b:=⟨U7 ..,UK ..⟩
theorem iS:∀(r:List Int) (g:Int),r.foldl Gd.gd g∣g/\∀x∈r,r.foldl Gd.gd g∣x
 |[],g=>⟨Int.dvd_refl g,by simp⟩
 |y :: r,g=>by
  obtain⟨h1,h2⟩:=iS r (Gd.gd g y);obtain⟨d1,d2⟩:=KO g y;refine⟨Int.dvd_trans h1 d1,fun x hx=>?_⟩;rcases Od.mp hx with rfl|hx
  ·exact Int.dvd_trans h1 d2
  ·exact h2 x hx
theorem zU(h:pt r i≠0):cE r≠0:=by
 intro z;unfold pt at h;rw[NS] at h;cases e:r[i]? with
 |none=>rw[e] at h;exact h rfl
 |some c =>
  rw[e] at h
  have:=(iS r 0).2 c (N2 e)
  unfold cE at z;rw[z] at this;exact h (Int.zero_dvd.mp this)
noncomputable def eK(r:List Int)(i:Nat):Int:=if pt r i<0 then -cE r else cE r
noncomputable def bw(r:List Int):List Int:=match fp r with
 |none=>r
 |some i=>r.map fun x=>x.fdiv (eK r i)
theorem vn(h:pt r i≠0):eK r i≠0:=by
 have:=zU h
 unfold eK;split <;> lia
theorem tD(r:List Int)(i:Nat):∀x∈r,eK r i∣x:=fun x hx=>by
 have:=(iS r 0).2 x hx
 unfold eK;split
 ·exact(UL).mpr this
 ·exact this
theorem cV(r:List Int):(bw r).length=r.length:=by
 unfold bw;split
 ·rfl
 ·rw[NQ]
theorem eZ(r:List Int):∃g:Int,g≠0/\∀q,g*pt (bw r) q=pt r q:=by
 unfold bw;split
 ·exact⟨1,by decide,fun q=>SQ _⟩
 ·rename_i i e
  have:=(dh e).2.1
  refine⟨eK r i,vn this,fun q=>?_⟩;unfold pt;rw[NS,NW,NS];cases e2:r[q]? with
  |none=>exact Pz _
  |some c=>exact TV (tD r i c (N2 e2))
theorem uR{n:Nat}{r:List Int}(h:∀c∈r,c.natAbs<2 ^ n):∀c∈bw r,c.natAbs<2 ^ n:=by
 unfold bw;split
 ·exact h
 ·rename_i i e;intro c hc;obtain⟨x,hx,rfl⟩:=N9.mp hc;exact Oy (Gd.nV (vn (dh e).2.1) (tD r i x hx)) (h x hx)
noncomputable def cQ(row s:List Int):List Int:=bw (fT s ((fp s).getD 0) row)
noncomputable def aT(row:List Int)(S:List (List Int)):List Int:=S.foldl cQ row
noncomputable def bp(n i:Nat):List Int:=(Oa n).map fun o=>if o=i then 1 else 0
structure ot where
 stairs:List (List Int)
 free:List Nat
 makers:List (List Int)
noncomputable def cz(n:Nat)(st:ot)(i:Nat)(r:List Int):List Int:=aT (r++bp n i) st.stairs
noncomputable def g_(n:Nat)(st:ot)(i:Nat)(r:List Int):ot :=
 if (fp (cz n st i r)).getD (r.length+n)<r.length then ⟨st.stairs++[cz n st i r],st.free++[i],st.makers⟩
 else ⟨st.stairs,st.free,st.makers++[bw ((cz n st i r).drop r.length)]⟩
noncomputable def mU(R:List (List Int)):Nat->ot
 |0=>⟨[],[],[]⟩
 |i+1=>g_ R.length (mU R i) i (R.getD i [])
noncomputable def rowsOf(R:List (List Int))(ix:List Nat):List (List Int):=ix.map fun i=>R.getD i []
open Classical in
noncomputable def grd (R:List (List Int)):Nat->List Nat
 |0=>[]
 |i+1=>if bh (rowsOf R (grd R i)++[R.getD i []]) then grd R i++[i] else grd R i
open Classical in
theorem cD{R:List (List Int)}{r:List Int}(e:R.getD i []=r)(h:bh (rowsOf R (grd R i)++[r])):grd R (i+1)=grd R i++[i]:=by
 subst e;exact if_pos h
open Classical in
theorem dC{R:List (List Int)}{r:List Int}(e:R.getD i []=r)(h : ¬ bh (rowsOf R (grd R i)++[r])):grd R (i+1)=grd R i:=by
 subst e;exact if_neg h
theorem eV{s:List Int}:pt (s.take w) q=if q<w then pt s q else 0:=by
 unfold pt;rw[NS,WB,NS];split
 ·rfl
 ·rfl
theorem vz{w q:Nat}:∀(d:List Int) (S:List (List Int)),aN d (S.map (SM w)) q=if q<w then aN d S q else 0
 |[],S=>by cases S <;> simp[aN]
 |x :: d,[]=>by simp[aN]
 |x :: d,s :: S=>by
  have ih:=vz (w:=w) (q:=q) d S;show x*pt (s.take w) q+aN d (S.map (SM w)) q=_;rw[ih,eV];split
  ·rfl
  ·simp
theorem kK{w:Nat}:∀{S:List (List Int)} {ps:List Nat},cw S ps->(∀p∈ps,p<w)->cw (S.map (SM w)) ps
 |_,_,.nil,_=>.nil
 |_,_,.cons h1 h2 r,hp=>.cons (by rw[eV,if_pos (hp _ NX)];exact h1) (fun t ht=>by
   obtain⟨u,hu,rfl⟩:=N9.mp ht
   rw[eV,if_pos (hp _ NX)]
   exact h2 u hu) (kK r fun p hpp=>hp p (NZ _ hpp))
theorem qq{w:Nat}(c:Clrd S ps x x')(hp:∀p∈ps,p<w):Clrd (S.map (SM w)) ps (x.take w) (x'.take w):=by
 obtain⟨d,c0,G,ld,hc,hG,e⟩:=c.made;refine⟨⟨d,c0,G,by rw[ld,NQ],hc,hG,fun q=>?_⟩,fun q hq=>by rw[eV,if_pos (hp q hq)];exact c.nought q hq,by rw[Ot,Ot,c.len]⟩;rw[eV,eV,vz];split
 ·exact e q
 ·simp
theorem DO{x:List Int}{L:Nat}(lx:x.length=L):∀{S:List (List Int)} {ps:List Nat},cw S ps->(∀s∈S,s.length=L)->S.map fp=ps.map some->Clrd S ps x (aT x S):=by
 have go:∀(T:List (List Int)) (qs:List Nat) (S:List (List Int)) (ps:List Nat) (y:List Int),Clrd S ps x y->S.length=ps.length->cw (S++T) (ps++qs)->(∀s∈T,s.length=L)->T.map fp=qs.map some->Clrd (S++T) (ps++qs) x (aT y T):=by
  intro T
  induction T with
  |nil =>
   intro qs S ps y c _ _ _ e;cases qs with
   |nil=>simpa[aT] using c
   |cons=>simp at e
  |cons s T ih =>
   intro qs S ps y c l st hl e;cases qs with
   |nil=>simp at e
   |cons p qs =>
    obtain⟨e1,e2⟩:=Sy e;rw[show S++s :: T=(S++[s])++T by simp,show ps++p :: qs=(ps++[p])++qs by simp] at st ⊢
    have Zk:cw (S++[s]) (ps++[p]):=by
     have:∀(T:List (List Int)) {S:List (List Int)} {qs ps:List Nat},S.length=ps.length->cw (S++T) (ps++qs)->cw S ps:=by
      intro T S
      induction S with
      |nil =>
       intro qs ps l _
       have:ps=[]:=Pb.mp l.symm
       subst this;exact .nil
      |cons t S ihS =>
       intro qs ps l h;cases ps with
       |nil=>simp at l
       |cons q ps =>
        cases h with
        |cons h1 h2 r=>exact .cons h1 (fun u hu=>h2 u (Oe _ hu)) (ihS (by simpa using l) r)
     exact this T (by simp[l]) st
    obtain⟨g,hg,eg⟩:=eZ (fT s ((fp s).getD 0) y);have ls:s.length=L:=hl s NX;have ly:y.length=s.length:=by rw[c.len,lx,ls]
    have lz:(cQ y s).length=y.length:=by
     unfold cQ;rw[cV,gq ly,ly]
    refine ih qs (S++[s]) (ps++[p]) (cQ y s) (Clrd.snoc c Zk l ly hg lz fun q=>?_) (by simp[l]) st (fun u hu=>hl u (NZ _ hu)) e2
    have:=eg q
    rw[e1] at this;unfold cQ;rw[e1];exact this
 intro S ps st hl e
 have:=go S ps [] [] x Clrd.start rfl st hl e
 simpa using this
noncomputable def bits(b k:Nat):Nat:=(b+1)*2 ^ k-1
theorem qB(b k:Nat):bits b (k+1)=2*bits b k+1:=by
 unfold bits;have pos:0<(b+1)*2 ^ k:=Pf (Nat.succ_pos _) (XF k)
 have:(b+1)*2 ^ (k+1)=2*((b+1)*2 ^ k):=by rw[PZ,<- OV,PB]
 lia
theorem gS{k m:Nat}(h:k<=m):bits b k<=bits b m:=by
 unfold bits
 have:=OK (b+1) (Om (by decide:0<2) h)
 lia
noncomputable def HM(b:Nat)(S:List (List Int)):Prop:=∀k s,S[k]?=some s->∀c∈s,c.natAbs<2 ^ bits b k
theorem gr{b:Nat}{x:List Int}(hx:∀c∈x,c.natAbs<2 ^ b){S:List (List Int)}(hS:HM b S):∀k,k<=S.length->∀c∈aT x (S.take k),c.natAbs<2 ^ bits b k
 |0,_=>by simpa[aT,bits] using hx
 |k+1,h=>by
  have ih:=gr hx hS k (by lia);have lk:k<S.length:=by lia
  rw[Oj,NR lk];show ∀c∈(S.take k++[S[k]]).foldl cQ x,c.natAbs<2 ^ bits b (k+1);rw[PQ];show ∀c∈cQ (aT x (S.take k)) S[k],c.natAbs<2 ^ bits b (k+1);rw[qB];exact uR (Av (hS k _ (NR lk)) ih)
theorem kR{w j:Nat}{r:List Int}(lr:r.length=w):pt (r++bp n i) (w+j)=if j<n/\j=i then 1 else 0:=by
 unfold pt bp;rw[NS,Pj (by lia),lr,show w+j-w=j by lia,NW];by_cases h:j<n
 ·rw[OW h];by_cases e:j=i
  ·simp[e,e ▸ h]
  ·simp[e]
 ·rw[OG (by simpa using h)];simp[h]
theorem cO:∀{S:List (List Int)},(∀s∈S,pt s q=0)->aN d S q=0:=by
 induction d with
 |nil=>intro S _;cases S <;> rfl
 |cons x d ih =>
  intro S h;cases S with
  |nil=>rfl
  |cons s S =>
   show x*pt s q+aN d S q=0;rw[h s NX,ih fun t ht=>h t (NZ _ ht)];lia
structure SI (R:List (List Int)) (w b i:Nat) (st:ot):Prop where
 sta:∃ps,cw st.stairs ps/\(∀p∈ps,p<w)/\st.stairs.map fp=ps.map some/\Eqv (rowsOf R st.free) (st.stairs.map (SM w))
 len:∀s∈st.stairs,s.length=w+R.length
 own:∀s∈st.stairs,∀j,i<=j->pt s (w+j)=0
 cnt:st.stairs.length<=i
 bnd:HM b st.stairs
 free:st.free=grd R i
 mks:st.makers.length<=i
structure RI (R:List (List Int)) (w b i:Nat) (st:ot) (r rest:List Int):Prop where
 len:rest.length=w+R.length
 ne:∃q,fp rest=some q/\q<=w+i
 bnd:∀c∈rest,c.natAbs<2 ^ bits b st.stairs.length
 own:∀j,i+1<=j->pt rest (w+j)=0
 free:bh (rowsOf R (grd R i)++[r])↔∃q,fp rest=some q/\q<w
theorem x4{st:ot}{r:List Int}(I:SI R w b i st)(hb:1<=b)(hi:i<R.length)(lr:r.length=w)(br:∀c∈r,c.natAbs<2 ^ b) :
  RI R w b i st r (cz R.length st i r)/\∃ps,cw st.stairs ps/\(∀p∈ps,p<w)/\st.stairs.map fp=ps.map some/\Eqv (rowsOf R st.free) (st.stairs.map (SM w))/\Clrd st.stairs ps (r++bp R.length i) (cz R.length st i r):=by
 obtain⟨ps,s1,s2,s3,s4⟩:=I.sta;have lx:(r++bp R.length i).length=w+R.length:=by unfold bp;rw[N6,NQ,On,lr]
 have C:=DO lx s1 I.len s3
 have hx:∀c∈r++bp R.length i,c.natAbs<2 ^ b:=by
  intro c hc;rcases N_.mp hc with m|m
  ·exact br c m
  ·unfold bp at m;obtain⟨o,_,rfl⟩:=N9.mp m
   have:2 ^ 1<=2 ^ b:=Om (by decide) hb
   split <;> lia
 have hbn:=gr hx I.bnd st.stairs.length (N4 _);rw[O3] at hbn;obtain⟨d,c,G,ld,hc,hG,e⟩:=C.made
 have Y6:pt (cz R.length st i r) (w+i)≠0:=by
  intro z;have e1:=e (w+i);have z':pt (aT (r++bp R.length i) st.stairs) (w+i)=0:=z;rw[z',kR lr,cO fun s hs=>I.own s hs i (N4 _),if_pos ⟨hi,rfl⟩] at e1;lia
 have fq:∃q,fp (cz R.length st i r)=some q/\q<=w+i:=by
  cases f:fp (cz R.length st i r) with
  |none=>exact absurd (Ab f (w+i)) Y6
  |some q =>
   refine⟨q,rfl,?_⟩;by_cases l:q<=w+i
   ·exact l
   ·exact absurd ((dh f).2.2 (w+i) (by lia)) Y6
 have tk:(r++bp R.length i).take w=r:=by rw[TW (by lia),Oh (by lia)]
 refine⟨⟨?_,fq,hbn,fun j hj=>?_,?_⟩,ps,s1,s2,s3,s4,C⟩
 ·show(aT _ _).length=_;rw[C.len,lx]
 ·have e1:=e (w+j);rw[kR lr,cO fun s hs=>I.own s hs j (by lia),if_neg (by lia)] at e1
  have:G*pt (cz R.length st i r) (w+j)=0:=by
   show G*pt (aT (r++bp R.length i) st.stairs) (w+j)=0;rw[e1];lia
  exact(OP.mp this).resolve_left hG
 ·rw[<- I.free]
  have:=Au s4 (kK s1 s2) (qq C s2)
  rw[tk] at this;rw[this];constructor
  ·rintro⟨q,hq⟩;rw[eV] at hq;split at hq
   ·rename_i lq;obtain⟨q',f1,f2⟩:=fq;refine⟨q',f1,?_⟩;by_cases l:q'<w
    ·exact l
    ·exact absurd ((dh f1).2.2 q (by lia)) hq
   ·exact absurd rfl hq
  ·rintro⟨q,f1,f2⟩;refine⟨q,?_⟩;rw[eV,if_pos f2];exact(dh f1).2.1
theorem Jy{st:ot}{r:List Int}(I:SI R w b i st)(hb:1<=b)(hi:i<R.length)(lr:r.length=w)(br:∀c∈r,c.natAbs<2 ^ b):pt (cz R.length st i r) (w+i)≠0:=by
 obtain⟨_,ps,_,_,_,_,C⟩:=x4 I hb hi lr br;obtain⟨d,c,G,ld,hc,hG,e⟩:=C.made;intro z;have e1:=e (w+i);rw[z,kR lr,cO fun s hs=>I.own s hs i (N4 _),if_pos ⟨hi,rfl⟩] at e1;lia
theorem FF{st:ot}{r:List Int}(I:SI R w b i st)(hb:1<=b)(hr:R[i]?=some r)(lr:r.length=w)(br:∀c∈r,c.natAbs<2 ^ b):SI R w b (i+1) (g_ R.length st i r):=by
 have hi:i<R.length:=(NT.mp hr).1;obtain⟨Y,ps,s1,s2,s3,s4,C⟩:=x4 I hb hi lr br;have er:R.getD i []=r:=by rw[NS,hr];rfl
 unfold g_;generalize hz:cz R.length st i r=z at Y C;obtain⟨q,f1,f2⟩:=Y.ne;rw[f1];show SI R w b (i+1) (if q<r.length then _ else _);split
 ·rename_i lq;rw[lr] at lq;have fr:bh (rowsOf R (grd R i)++[r]):=Y.free.mpr ⟨q,f1,lq⟩;have tk:(r++bp R.length i).take w=r:=by rw[TW (by lia),Oh (by lia)]
  refine⟨⟨ps++[q],s1.snoc C.nought (dh f1).2.1,fun p hp=>?_,?_,?_⟩,fun s hs=>?_,fun s hs j hj=>?_,?_,fun k s hk=>?_,?_,UO I.mks⟩
  ·rcases N_.mp hp with m|m
   ·exact s2 p m
   ·rw[N7.mp m];exact lq
  ·show(st.stairs++[z]).map fp=_;rw[N1,N1,s3];show _++[fp z]=_++[some q]
   rw[f1]
  ·show Eqv (rowsOf R (st.free++[i])) ((st.stairs++[z]).map (SM w));unfold rowsOf at s4 ⊢;rw[N1,N1];show Eqv (_++[R.getD i []]) (_++[z.take w]);rw[er];obtain⟨d,c,G,ld,hc,hG,e⟩:=(qq C s2).made;rw[tk] at e;exact s4.snoc ld hc hG e
  ·rcases N_.mp hs with m|m
   ·exact I.len s m
   ·rw[N7.mp m];exact Y.len
  ·rcases N_.mp hs with m|m
   ·exact I.own s m j (by lia)
   ·rw[N7.mp m];exact Y.own j hj
  ·show(st.stairs++[z]).length<=i+1;rw[N6];exact Sa I.cnt
  ·have Y4:(st.stairs++[z])[k]?=some s:=hk;by_cases l:k<st.stairs.length
   ·rw[O5 l] at Y4;exact I.bnd k s Y4
   ·rw[Pj (by lia)] at Y4
    have k0:k=st.stairs.length:=by
     have:=(NT.mp Y4).1
     simp at this;lia
    subst k0;rw[Vn] at Y4;rw[<- Oq Y4];exact Y.bnd
  ·show st.free++[i]=grd R (i+1);rw[I.free];rw[cD er fr]
 ·rename_i lq;rw[lr] at lq
  have nf : ¬ bh (rowsOf R (grd R i)++[r]):=fun h=>by
   obtain⟨q',g1,g2⟩:=Y.free.mp h;rw[f1] at g1;cases g1;exact lq g2
  refine⟨I.sta,I.len,fun s hs j hj=>I.own s hs j (by lia),UO I.cnt,I.bnd,?_,?_⟩
  ·show st.free=grd R (i+1);rw[I.free];rw[dC er nf]
  ·show(st.makers++[_]).length<=i+1;rw[N6];exact Sa I.mks
theorem Bx{R:List (List Int)}{w b:Nat}(hw:Wide w R)(hb:1<=b)(br:wB b R):∀i,i<=R.length->SI R w b i (mU R i)
 |0,_=>⟨⟨[],.nil,(by simp),rfl,fun T=>Iff.rfl⟩,(fun s hs=>by cases hs),(fun s hs=>by cases hs),N4 _,(fun k s hk=>by simp[mU] at hk),rfl,N4 _⟩
 |i+1,h=>by
  have hr:R[i]?=some (R.getD i []):=by rw[NS,NR (by lia)];rfl
  exact FF (Bx hw hb br i (by lia)) hb hr (hw _ (N2 hr)) (br _ (N2 hr))
end Sf
namespace Rw
open PySem L2 Fr G1 Sm Vs G2 Rk Sz Sf
open PySem.W (Dat kqdOk)
noncomputable def EX(r:List Int):V:=match fp r with
 |some i=>.int i
 |none=>.non
noncomputable def i6(K:Fg):Sp:=fun vs H Q _=>∃(a:Addr) (r:List Int),vs=[.ref a]/\H a=some (.lst (r.map V.int))/\∀H',Same H H'->Q (EX r) H'
theorem Nb{i:Nat}{c:Int}(h:∀j,j<i->pt r j=0)(hi:r[i]?=some c)(hc:c≠0):fp r=some i:=by
 unfold fp;rw[QY];obtain⟨l,e⟩:=NT.mp hi;refine⟨l,by rw[e];simpa using hc,fun j hj=>?_⟩
 have:=h j hj
 unfold pt at this;rw[NS,NR (by lia)] at this;simpa using this
theorem Na{r:List Int}(h:∀j,j<r.length->pt r j=0):fp r=none:=by
 unfold fp;rw[Q0];intro x hx;obtain⟨j,l,rfl⟩:=Pa.mp hx
 have:=h j l
 unfold pt at this;rw[NS,NR l] at this;simpa using this
noncomputable def rK(K:Fg):TS:=(am (be (jR K (ac (aa 0) ae)) (cF K 2 (a7 (ak 1) (a7 (ak 2) cG)))
 (aI (aH (aq kP (aa 2) (tC (.int 0))))
 (aA (aa 1))
 aO))
 (aA (tC .non)))
theorem Ch{K:Fg}{vs:List V}{N:List Str}(hN:N.length=3)(h:i6 K vs H Q E):rK K (ends Q) (L2.start N vs) H:=by
 obtain⟨a,r,rfl,ha,k⟩:=h;rw[L2.aU hN];walk_at "t";unfold rK;walk_at "";refine⟨a,_,rfl,SqL.of ha,?_⟩;refine fK (xs:=r.map V.int) (fun i σ H2=>∃u1 u2:Option V,σ=[some (.ref a),u1,u2]/\Same H H2/\∀j<i,pt r j=0) ⟨none,none,rfl,Same.refl _,fun j hj=>absurd hj (PD _)⟩ (fun i σ H2 _ ⟨_,_,_,S,_⟩=>SqL.of (S _ _ ha)) ?_ ?_
 ·rintro i z σ H2 T hz ⟨u1,u2,rfl,S,d⟩ nT;rw[NW] at hz;obtain⟨c,hc,rfl⟩:=N8.mp hz;have S2:=S.trans (aj nT (.tup [.int (i:Int),.int c]));have hT:upd H2 T (.tup [.int (i:Int),.int c]) T=some (.tup [.int (i:Int),.int c]):=ag;generalize upd H2 T (.tup [.int (i:Int),.int c])=H3 at S2 hT ⊢;refine bP (SqT.of hT) rfl ?_;walk_at "";have ec:pt r i=c:=by unfold pt;rw[NS,hc];rfl
  refine cH (fun nz=>?_) (fun z=>?_)
  ·walk_at ""
   have:=k H3 S2
   unfold EX at this;rw[Nb d hc nz] at this;exact this
  ·walk_at "";refine⟨_,_,rfl,S2,fun j hj=>?_⟩;by_cases e:j=i
   ·rw[e,ec,z]
   ·exact d j (by lia)
 ·rintro σ H2 ⟨u1,u2,rfl,S,d⟩;walk_at ""
  have:=k H2 S
  unfold EX at this;rw[Na fun j hj=>d j (by rw[NQ];exact hj)] at this;exact this
noncomputable def uj(K:Fg):Sp:=fun vs H Q _=>∃(a:Addr) (r:List Int),vs=[.ref a]/\H a=some (.lst (r.map V.int))/\r.length<=100/\(∀c∈r,c.natAbs<2 ^ 9000)/\∀(p:Addr) (H':Hp),AccZ K H p H' ((bw r).map O4)->Q (.ref p) H'
theorem zW{r:List Int}{i:Nat}{c:Int}(h:r[i]?=some c):(r.take (i+1)).foldl Gd.gd 0=Gd.gd ((r.take i).foldl Gd.gd 0) c:=by
 rw[Oj,h,PQ];rfl
theorem Hl{n:Nat}(h:pt r i≠0)(hb:∀c∈r,c.natAbs<2 ^ n):(cE r).natAbs<2 ^ n:=by
 have d:cE r∣pt r i:=by
  unfold pt at h ⊢;rw[NS] at h ⊢;cases e:r[i]? with
  |none=>rw[e] at h;exact absurd rfl h
  |some c=>exact(iS r 0).2 c (N2 e)
 have:=QC (by lia) (Int.natAbs_dvd_natAbs.mpr d)
 exact Oy this (kQ hb i)
noncomputable def FA(K:Fg):Sp:=fun vs H Q _=>∃(a:Addr) (r:List Int),vs=[.ref a]/\H a=some (.lst (r.map V.int))/\∀H',Same H H'->Q (.int (cE r)) H'
noncomputable def Fu(K:Fg):TS:=(am (av (tC (.int 0)) (ak 1))
 (am (be (bQ K (aa 0)) (ak 2)
 (av (ay ko [] E0 (ac (aa 1) (ac (aa 2) ae))) (ak 1)))
 (aA (aa 1))))
theorem IL{K:Fg}{vs:List V}{N:List Str}(hN:N.length=3)(h:FA K vs H Q E):Fu K (ends Q) (L2.start N vs) H:=by
 obtain⟨a,r,rfl,ha,k⟩:=h;rw[L2.aU hN];walk_at "t";unfold Fu;walk_at "";refine gO (SqL.of ha) ?_;refine bj (xs:=r.map V.int) (fun j σ H2=>∃u3:Option V,σ=[some (.ref a),some (.int ((r.take j).foldl Gd.gd 0)),u3]/\Same H H2) ⟨_,rfl,Same.refl _⟩ (fun j σ H2 _ ⟨_,_,S⟩=>SqL.of (S _ _ ha)) ?_ ?_
 ·rintro j z σ H2 hz ⟨u3,rfl,S⟩;rw[NW] at hz;obtain⟨c,hc,rfl⟩:=N8.mp hz;walk_at "";refine⟨_,_,rfl,?_⟩;walk_at "";refine⟨_,by rw[zW hc];rfl,S⟩
 ·rintro σ H2 ⟨u3,rfl,S⟩;rw[Oh (by rw[NQ];exact N4 _)];walk_at "";exact k H2 S
noncomputable def wX(K:Fg):TS:=(am (av (ay (i6 K) [] E0 (ac (aa 0) ae)) (ak 1))
 (am (aI (aH (aq ky (aa 1) (tC .non)))
 (aA (aZ (eU K) (ac (aa 0) ae)))
 aO)
 (am (av (ay (FA K) [] E0 (ac (aa 0) ae)) (ak 2))
 (am (aI (aH (aq Cs (aq (bX K) (aa 0) (aa 1)) (tC (.int 0))))
 (av (Ig (rU fun i=>.int (-i)) (aa 2)) (ak 2))
 aO)
 (aA (eI (bQ K (aa 0)) (aq iI (aa 0) (aa 3))))))))
theorem FZ{K:Fg}{vs:List V}{N:List Str}(hN:N.length=3)(h:uj K vs H Q E):wX K (ends Q) (L2.start N vs) H:=by
 obtain⟨a,r,rfl,ha,hl,hb,k⟩:=h;rw[L2.aU hN];walk_at "t";unfold wX;walk_at "";refine⟨a,r,rfl,ha,fun H1 S1=>?_⟩;unfold EX;cases f:fp r with
 |none =>
  walk_at "";refine a6 (fun _=>?_) (fun z=>absurd rfl z);walk_at "";refine nL (SqL.of (S1 _ _ ha)) fun l nl=>?_
  have e:bw r=r:=by unfold bw;rw[f]
  rw[e] at k;exact k l _ ⟨S1.trans (aj nl _),S1.free nl,_,ag,RpL.ints r⟩
 |some i =>
  obtain⟨f1,f2,f3⟩:=dh f;walk_at "";refine a6 (fun z=>by cases z) (fun _=>?_);walk_at "";refine⟨a,r,rfl,S1 _ _ ha,fun H2 S2=>?_⟩;have S:=S1.trans S2;walk_at "";refine cj (SqL.of (S _ _ ha)) (tR f1) ?_
  have fin:cW (tY K a) (aq iI (aa 0) (aa 3)) [some (.ref a),some (.int i),some (.int (eK r i))] (ends Q).rt H2:=by
   refine cf (xs:=r.map V.int) fun D nD=>⟨fun j H3=>AccZ K H D H3 (((bw r).take j).map O4),by simpa using AccZ.start S nD,fun j H3 _ A=>SqL.of (A.same _ _ ha),?_,?_⟩
   ·intro j x H3 hx A;have lj:=(NT.mp hx).1;rw[NW] at hx;obtain⟨c,hc,rfl⟩:=N8.mp hx;walk_at "";refine⟨c,eK r i,rfl,rfl,⟨vn f2,?_⟩,?_⟩
    ·have:=Hl f2 hb
     have e:(eK r i).natAbs=(cE r).natAbs:=by unfold eK;split <;> lia
     rw[e];exact this
    refine aR lj ?_;refine A.ci (.int _) (ar (by rw[NQ,Ot,cV];lia)) fun H4 A4=>?_
    have e:(bw r)[j]?=some (c.fdiv (eK r i)):=by unfold bw;rw[f];show(r.map _)[j]? = _;rw[NW,hc];rfl
    show AccZ K H D H4 (((bw r).take (j+1)).map O4);rw[Oj,e,N1];exact A4
   ·intro H3 A;rw[Oh (by rw[cV,NQ];exact N4 _)] at A;exact k D H3 A
  walk_at "";refine a6 (fun ng=>?_) (fun ng=>?_)
  ·walk_at "";refine kH (SqL.of (S _ _ ha)) ?_;have e:eK r i = -cE r:=by unfold eK;rw[if_pos ng]
   rw[e] at fin;exact fin
  ·walk_at "";refine kH (SqL.of (S _ _ ha)) ?_;have e:eK r i=cE r:=by unfold eK;rw[if_neg ng]
   rw[e] at fin;exact fin
noncomputable def Lr(K:Fg)(S:Addr->Prop)(H:Hp)(a:Addr)(T:List (List Int)):Prop:=∃xs,H a=some (.lst xs)/\RpL K S H xs (T.map dL)
noncomputable def FB(K:Fg):Sp:=fun vs H Q _=>∃(a s:Addr) (r:List Int) (T:List (List Int)) (b:Nat),vs=[.ref a,.ref s]/\H a=some (.lst (r.map V.int))/\Lr K (fun _=>True) H s T/\r.length<=100/\(∀t∈T,t.length=r.length/\∃i,fp t=some i)/\(∀c∈r,c.natAbs<2 ^ b)/\HM b T/\bits b T.length<=9000 /\
 ∀(p:Addr) (H':Hp),Same H H'->(p=a\/H p=none)->H' p=some (.lst ((aT r T).map V.int))->Q (.ref p) H'
theorem qr{r:List Int}:∀{T:List (List Int)},(∀t∈T,t.length=r.length)->(aT r T).length=r.length:=by
 intro T
 have go:∀(T:List (List Int)) (y:List Int),y.length=r.length->(∀t∈T,t.length=r.length)->(aT y T).length=r.length:=by
  intro T
  induction T with
  |nil=>intro y ly _;exact ly
  |cons t T ih =>
   intro y ly h;refine ih (cQ y t) ?_ fun u hu=>h u (NZ _ hu)
   unfold cQ
   have:=h t NX
   rw[cV,gq (by lia)];exact this
 exact go T r rfl
theorem n4{t:List Int}{T:List (List Int)}{i:Nat}(h:T[i]?=some t):aT r (T.take (i+1))=cQ (aT r (T.take i)) t:=by
 unfold aT;rw[Oj,h,PQ];rfl
noncomputable def xk(K:Fg):TS:=(am (be (bQ K (aa 1)) (ak 2)
 (am (av (ay (i6 K) [] E0 (ac (aa 2) ae)) (ak 3))
 (av (ay (uj K) [] E0 (ac (fW (zJ K .L .L (ac (aa 0) (ac (aa 2) ae))) 2 (cF K 2 (a7 (ak 0) (a7 (ak 1) cG))) (aq vX (aq jq (aq (bX K) (aa 4) (aa 5)) (aa 0)) (aq jq (aq (bX K) (aa 2) (aa 5)) (aa 1)))) ae)) (ak 0))))
 (aA (aa 0)))
theorem F9{K:Fg}{vs:List V}{N:List Str}(hN:N.length=4)(h:FB K vs H Q E):xk K (ends Q) (L2.start N vs) H:=by
 obtain⟨a,s,r,T,b,rfl,ha,⟨xs,hs,rx⟩,hl,hT,hb,hB,Zv,k⟩:=h;rw[L2.aU hN];walk_at "t";have lx:xs.length=T.length:=by rw[rx.length,NQ]
 unfold xk;walk_at "";refine gO (SqL.of hs) ?_;refine bj (xs:=xs) (fun j σ H2=>∃(p:Addr) (u2 u3:Option V),σ=[some (.ref p),some (.ref s),u2,u3]/\Same H H2/\(p=a\/H p=none)/\H2 p=some (.lst ((aT r (T.take j)).map V.int))) ⟨a,none,none,rfl,Same.refl _,.inl rfl,by simpa[aT] using ha⟩ (fun j σ H2 _ ⟨_,_,_,_,S,_⟩=>SqL.of (S _ _ hs)) ?_ ?_
 ·rintro j z σ H2 hz ⟨p,u2,u3,rfl,S,hp,h2⟩;obtain⟨d,g1,g2⟩:=rx.get hz;rw[NW] at g1;obtain⟨t,ht,rfl⟩:=N8.mp g1;obtain⟨b0,rfl,_,hb0⟩:=wn g2;obtain⟨lt,i,fi⟩:=hT t (N2 ht);obtain⟨f1,f2,f3⟩:=dh fi;have lj:j<T.length:=(NT.mp ht).1;have ly:(aT r (T.take j)).length=r.length:=qr fun t ht=>(hT t (Qi ht)).1
  have by_:=gr hb hB j (by lia);have bm:bits b (j+1)<=bits b T.length:=gS (by lia);rw[qB] at bm;have hBt:=hB j t ht;rw[n4 ht];generalize aT r (T.take j)=y at h2 ly by_ ⊢;walk_at "";refine⟨b0,t,rfl,S _ _ hb0,fun H3 S3=>?_⟩;have fv:EX t=.int i:=by unfold EX;rw[fi]
  rw[fv];have S4:=S.trans S3;have h3:=S3 _ _ h2;walk_at "";refine⟨p,b0,_,_,rfl,SqL.of h3,SqL.of (S4 _ _ hb0),?_⟩;refine DK (xs:=y.map V.int) (ys:=t.map V.int) fun D nD=>⟨fun m H5=>AccZ K H3 D H5 (((fT t i y).take m).map O4),AccZ.start (Same.refl _) nD,fun m H5 _ C=>⟨SqL.of (C.same _ _ h3),SqL.of (C.same _ _ (S4 _ _ hb0))⟩,?_,?_⟩
  ·intro m y1 y2 H5 T' e1 e2 C nT us hu
   obtain⟨u1,u2',rfl⟩:∃u0 u1,us=[u0,u1]:=ex2 hu
   rw[NW] at e1 e2;obtain⟨m1,g1,rfl⟩:=N8.mp e1;obtain⟨m2,g2,rfl⟩:=N8.mp e2;have ec:(fT t i y)[m]?=some (m1*pt t i-pt y i*m2):=by unfold fT;rw[RQ,g1,g2]
   have lm:=(NT.mp g1).1;have lm2:=(NT.mp g2).1;have C2:=C.on (aj nT (.tup [.int m1,.int m2]));have hT':upd H5 T' (.tup [.int m1,.int m2]) T'=some (.tup [.int m1,.int m2]):=ag;generalize upd H5 T' (.tup [.int m1,.int m2])=H7 at C2 hT' ⊢;refine bP (SqT.of hT') rfl ?_;walk_at "";refine⟨⟨[some (.int m1),some (.int m2)],rfl,rfl⟩,?_⟩;walk_at "";refine cj (SqL.of (C2.same _ _ (S4 _ _ hb0))) (tR f1) ?_;walk_at "";refine⟨pt t i,m1,rfl,rfl,ED (by lia) (kQ hBt i) (by_ _ (N2 g1)),?_⟩;walk_at "";refine cj (SqL.of (C2.same _ _ h3)) (tR (by lia)) ?_;walk_at "";refine⟨pt y i,m2,rfl,rfl,ED (by lia) (kQ by_ i) (hBt _ (N2 g2)),?_⟩;walk_at "";refine aR (by rw[NQ,NQ];lia) ?_;rw[O0 (pt t i) m1];refine C2.ci (.int _) (ar ?_) fun H8 C8=>?_
   ·rw[NQ,Ot];lia
   ·show AccZ K H3 D H8 (((fT t i y).take (m+1)).map O4);rw[Oj,ec,N1];exact C8
  ·intro H5 C;have lc:(fT t i y).length=t.length:=gq (by lia);rw[Oh (by rw[NQ,NQ];lia)] at C;walk_at "";refine⟨D,fT t i y,rfl,AccZ.ints C,by lia,fun c hc=>?_,fun p2 H6 A6=>?_⟩
   ·exact OB (Av hBt by_ c hc) (Om (by decide) (by lia))
   ·walk_at "";refine⟨p2,_,_,rfl,S4.trans (C.same.trans A6.same),.inr ((S4.trans C.same).free A6.new),?_⟩;have e:cQ y t=bw (fT t i y):=by unfold cQ;rw[fi];rfl
    rw[e];exact AccZ.ints A6
 ·rintro σ H2 ⟨p,u2,u3,rfl,S,hp,h2⟩;rw[Oh (by lia)] at h2;walk_at "";exact k p H2 S hp h2
noncomputable def SS(H:Hp)(D1 D2 D3:Addr):Addr->Prop:=fun a=>H a=none/\a≠D1/\a≠D2/\a≠D3
noncomputable def ni(l:List Nat):List Int:=l.map fun i:Nat=>(i:Int)
structure SH (K:Fg) (H H2:Hp) (D1 D2 D3:Addr) (st:ot):Prop where
 same:Same H H2
 n1:H D1=none
 n2:H D2=none
 n3:H D3=none
 d12:D1≠D2
 d13:D1≠D3
 d23:D2≠D3
 a1:∃xs,H2 D1=some (.lst xs)/\RpL K (SS H D1 D2 D3) H2 xs (st.stairs.map dL)
 a2:H2 D2=some (.lst ((ni st.free).map V.int))
 a3:∃xs,H2 D3=some (.lst xs)/\RpL K (SS H D1 D2 D3) H2 xs (st.makers.map dL)
theorem SH.on{K:Fg}{st:ot}(A:SH K H H2 D1 D2 D3 st)(e:Same H2 H3):SH K H H3 D1 D2 D3 st:=by
 obtain⟨xs,h1,r1⟩:=A.a1;obtain⟨zs,h3,r3⟩:=A.a3;exact⟨A.same.trans e,A.n1,A.n2,A.n3,A.d12,A.d13,A.d23,⟨xs,e _ _ h1,r1.same e⟩,e _ _ A.a2,⟨zs,e _ _ h3,r3.same e⟩⟩
theorem SH.LZ{K:Fg}{H H2:Hp}{D1 D2 D3:Addr}{st:ot}{p:Addr}{z:List Int}{i:Nat}(A:SH K H H2 D1 D2 D3 st)(hp:SS H D1 D2 D3 p)(h:H2 p=some (.lst (z.map V.int))):∃xs,H2 D1=some (.lst xs)/\xs.length=st.stairs.length/\upd H2 D1 (.lst (xs++[.ref p])) D2=some (.lst ((ni st.free).map V.int)) /\
  SH K H (upd (upd H2 D1 (.lst (xs++[.ref p]))) D2 (.lst ((ni st.free).map V.int++[.int i]))) D1 D2 D3 ⟨st.stairs++[z],st.free++[i],st.makers⟩:=by
 obtain⟨xs,h1,r1⟩:=A.a1;obtain⟨zs,h3,r3⟩:=A.a3;have e2:upd H2 D1 (.lst (xs++[.ref p])) D2=some (.lst ((ni st.free).map V.int)):=by rw[aB A.d12.symm];exact A.a2
 refine⟨xs,h1,by rw[r1.length,NQ],e2,⟨fun b o q=>?_,A.n1,A.n2,A.n3,A.d12,A.d13,A.d23,⟨xs++[.ref p],?_,?_⟩,?_,⟨zs,?_,?_⟩⟩⟩
 ·rw[aB (au q A.n2),aB (au q A.n1)];exact A.same b o q
 ·rw[aB A.d12];exact ag
 ·show RpL K (SS H D1 D2 D3) _ _ ((st.stairs++[z]).map dL);rw[N1];exact((r1.append (.cons (wm hp h) .nil)).agr (Agr.eY h1 fun w=>w.2.1 rfl)).agr (Agr.eY e2 fun w=>w.2.2.1 rfl)
 ·show upd _ D2 _ D2=some (.lst ((ni (st.free++[i])).map V.int));rw[ag];unfold ni;rw[N1,N1];rfl
 ·rw[aB A.d23.symm,aB A.d13.symm];exact h3
 ·exact(r3.agr (Agr.eY h1 fun w=>w.2.1 rfl)).agr (Agr.eY e2 fun w=>w.2.2.1 rfl)
theorem SH.maker{K:Fg}{st:ot}{z:List Int}(A:SH K H H2 D1 D2 D3 st)(hp:SS H D1 D2 D3 p)(h:H2 p=some (.lst (z.map V.int))):∃xs,H2 D3=some (.lst xs)/\xs.length=st.makers.length /\
  SH K H (upd H2 D3 (.lst (xs++[.ref p]))) D1 D2 D3 ⟨st.stairs,st.free,st.makers++[z]⟩:=by
 obtain⟨xs,h1,r1⟩:=A.a1;obtain⟨zs,h3,r3⟩:=A.a3;refine⟨zs,h3,by rw[r3.length,NQ],⟨fun b o q=>?_,A.n1,A.n2,A.n3,A.d12,A.d13,A.d23,⟨xs,?_,?_⟩,?_,⟨zs++[.ref p],ag,?_⟩⟩⟩
 ·rw[aB (au q A.n3)];exact A.same b o q
 ·rw[aB A.d13];exact h1
 ·exact r1.agr (Agr.eY h3 fun w=>w.2.2.2 rfl)
 ·rw[aB A.d23];exact A.a2
 ·show RpL K (SS H D1 D2 D3) _ _ ((st.makers++[z]).map dL);rw[N1];exact(r3.append (.cons (wm hp h) .nil)).agr (Agr.eY h3 fun w=>w.2.2.2 rfl)
noncomputable def RowV(H:Hp)(x:V)(r:List Int):Prop:=∃c,x=.ref c/\(H c=some (.lst (r.map V.int))\/H c=some (.tup (r.map V.int)))
noncomputable def AR(H:Hp)(a:Addr)(R:List (List Int)):Prop:=∃xs,H a=some (.lst xs)/\xs.length=R.length/\∀(i:Nat) (x:V) (r:List Int),xs[i]?=some x->R[i]?=some r->RowV H x r
theorem RowV.same(h:RowV H x r)(e:Same H H'):RowV H' x r:=by
 obtain⟨c,rfl,h⟩:=h;exact⟨c,rfl,h.imp (e _ _) (e _ _)⟩
noncomputable def LM(R:List (List Int)):ot:=mU R R.length
noncomputable def dS(st:ot):Dat:=.tuple [dL (ni st.free),.list (st.makers.map dL)]
noncomputable def xI(K:Fg):Sp:=fun vs H Q _=>∃(a:Addr) (R:List (List Int)) (w b:Nat),vs=[.ref a]/\AR H a R/\Wide w R/\R.length<=20/\w<=20/\wB b R/\1<=b/\bits b R.length<=9000 /\
 ∀(p:Addr) (H':Hp),Same H H'->Rp K (fun a=>H a=none) H' (.ref p) (dS (LM R))->Q (.ref p) H'
theorem BH{R:List (List Int)}{i:Nat}{r:List Int}(h:R[i]?=some r):mU R (i+1)=g_ R.length (mU R i) i r:=by
 show g_ R.length (mU R i) i (R.getD i [])=_;rw[NS,h];rfl
theorem G7{K:Fg}{Q:VK}(e:RowV H x r)(h:∀l,H l=none->Q (.ref l) (upd H l (.lst (r.map V.int)))):eU K [x] H Q:=by
 obtain⟨c,rfl,e|e⟩:=e
 ·exact nL (SqL.of e) h
 ·exact zy (SqT.of e) h
theorem EL{K:Fg}{Q:VK}(e:RowV H x r)(h:Q (.int r.length) H):bM K [x] H Q:=by
 obtain⟨c,rfl,e|e⟩:=e
 ·exact bH (SqL.of e) (by rw[NQ];exact h)
 ·exact jO (SqT.of e) (by rw[NQ];exact h)
theorem Ao(xs:List V)(k:Nat):wt xs (some (k:Int)) none=xs.drop k:=by
 have e:HT.sIx xs.length 0 (some (k:Int))=min k xs.length:=by
  show(if (k:Int)<0 then ((k:Int)+(xs.length:Nat)).toNat else min (k:Int).toNat xs.length)=_;rw[if_neg (by lia),OT]
 have e2:HT.sIx xs.length xs.length none=xs.length:=rfl;unfold wt;rw[e,e2];by_cases h:k<=xs.length
 ·rw[SJ h,Oh (by rw[PX];exact N4 _)]
 ·rw[Sb (by lia),Vo (N4 _),Vo (by lia),List.take_nil]
noncomputable def rS(K:Fg):Sp:=fun vs H Q _=>∃n i:Nat,vs=[.int (n:Int),.int (i:Int)]/\n<=100/\∀(p:Addr) (H':Hp),AccZ K H p H' ((bp n i).map O4)->Q (.ref p) H'
theorem uI(n i:Nat):(bp n i).length=n:=by unfold bp;rw[NQ,On]
noncomputable def qV(K:Fg):TS:=(aA (eI (cC (ac (aa 0) ae)) (Ii (aH (aq fF (aa 0) (aa 2))) (tC (.int 1)) (tC (.int 0)))))
theorem BN{K:Fg}{vs:List V}{N:List Str}(hN:N.length=2)(h:rS K vs H Q E):qV K (ends Q) (L2.start N vs) H:=by
 obtain⟨n,i,rfl,hn,k⟩:=h;rw[L2.aU hN];walk_at "t";unfold qV;walk_at "";rw[OT];refine dD (n:=n) fun D nD=>⟨fun j H4=>AccZ K H D H4 (((bp n i).take j).map O4),by simpa using AccZ.start (Same.refl _) nD,?_,?_⟩
 ·intro j H4 hj B;have eo:(bp n i)[j]?=some (if j=i then 1 else 0):=by unfold bp;rw[NW,OW hj];rfl
  have fin:∀(v:Int),v=(if j=i then 1 else 0)->oz D n j (fun j H4=>AccZ K H D H4 (((bp n i).take j).map O4)) (.int v) H4:=by
   rintro v rfl;refine aR hj ?_;refine B.ci (.int _) (ar (by rw[NQ,Ot];lia)) fun H5 B5=>?_
   show AccZ K H D H5 (((bp n i).take (j+1)).map O4);rw[Oj,eo,N1];exact B5
  rw[PY];walk_at "";refine a6 (fun e=>?_) (fun e=>?_)
  ·walk_at "";exact fin 1 (by rw[if_pos (by lia)])
  ·walk_at "";exact fin 0 (by rw[if_neg (by lia)])
 intro H4 B;rw[Oh (by rw[uI];exact N4 _)] at B;exact k D H4 B
noncomputable def pA(n:Nat):List (List Int):=(Oa n).map (bp n)
theorem yL(n:Nat):(pA n).length=n:=by unfold pA;rw[NQ,On]
theorem uH{n i:Nat}(h:i<n):(pA n)[i]?=some (bp n i):=by unfold pA;rw[NW,OW h];rfl
noncomputable def rQ(K:Fg):Sp:=fun vs H Q _=>∃n:Nat,vs=[.int (n:Int)]/\n<=100/\∀(p:Addr) (H':Hp),Acc K H p H' ((pA n).map dL)->Q (.ref p) H'
noncomputable def qU(K:Fg):TS:=(aA (eI (cC (ac (aa 0) ae)) (ay (rS K) [] E0 (ac (aa 1) (ac (aa 0) ae)))))
theorem BM{K:Fg}{vs:List V}{N:List Str}(hN:N.length=1)(h:rQ K vs H Q E):qU K (ends Q) (L2.start N vs) H:=by
 obtain⟨n,rfl,hn,k⟩:=h;rw[L2.aU hN];walk_at "t";unfold qU;walk_at "";rw[OT];refine dD (n:=n) fun D nD=>⟨fun j H3=>Acc K H D H3 (((pA n).take j).map dL),by simpa using Acc.start nD,?_,?_⟩
 ·intro j H3 hj A;rw[PY];walk_at "";refine⟨n,j,rfl,hn,fun p H4 C=>?_⟩;refine aR hj ?_;refine A.ci C.same (d:=dL (bp n j)) C.ref (ar (by rw[NQ,Ot];lia)) fun H5 A5=>?_
  show Acc K H D H5 (((pA n).take (j+1)).map dL);rw[Oj,uH hj,N1];exact A5
 ·intro H3 A;rw[Oh (by rw[yL];exact N4 _)] at A;exact k D H3 A
structure UN (K:Fg) (H H2:Hp) (D1 D2 D3 U:Addr) (n:Nat):Prop where
 s:SS H D1 D2 D3 U
 at_:∃xs,H2 U=some (.lst xs)/\RpL K (SS H D1 D2 D3) H2 xs ((pA n).map dL)
theorem UN.on{K:Fg}(A:UN K H H2 D1 D2 D3 U n)(e:Same H2 H3):UN K H H3 D1 D2 D3 U n:=by
 obtain⟨xs,h1,r1⟩:=A.at_;exact⟨A.s,xs,e _ _ h1,r1.same e⟩
theorem UN.upd{K:Fg}{D:Addr}(A:UN K H H2 D1 D2 D3 U n)(hD:D=D1\/D=D2\/D=D3)(h:H2 D=some (.lst l)):UN K H (L2.upd H2 D o) D1 D2 D3 U n:=by
 obtain⟨xs,h1,r1⟩:=A.at_
 have no:∀a,SS H D1 D2 D3 a->a≠D:=fun a z e=>by
  rcases hD with rfl|rfl|rfl
  ·exact z.2.1 e
  ·exact z.2.2.1 e
  ·exact z.2.2.2 e
 exact⟨A.s,xs,by rw[aB (no _ A.s)];exact h1,r1.agr (Agr.eY h fun w=>no _ w rfl)⟩
theorem UN.get{K:Fg}{i:Nat}(A:UN K H H2 D1 D2 D3 U n)(hi:i<n):∃xs c,H2 U=some (.lst xs)/\xs[i]?=some (.ref c)/\H2 c=some (.lst ((bp n i).map V.int)):=by
 obtain⟨xs,h1,r1⟩:=A.at_;obtain⟨x,e0,q0⟩:=r1.get' (i:=i) (d:=dL (bp n i)) (by rw[NW,uH hi];rfl);obtain⟨c,rfl,_,hc⟩:=wn q0;exact⟨xs,c,h1,e0,hc⟩
noncomputable def wR(K:Fg):TS:=(am (av (ca ae) (ak 1))
 (am (av (ca ae) (ak 2))
 (am (av (ca ae) (ak 3))
 (am (av (ay (rQ K) [] E0 (ac (aZ (bM K) (ac (aa 0) ae)) ae)) (ak 4))
 (am (be (jR K (ac (aa 0) ae)) (cF K 2 (a7 (ak 5) (a7 (ak 6) cG)))
 (am (av (ay (FB K) [] E0 (ac (aq mW (aZ (eU K) (ac (aa 6) ae)) (aq (bX K) (aa 4) (aa 5))) (ac (aa 1) ae))) (ak 7))
 (aI (aH (aq Cs (ay (i6 K) [] E0 (ac (aa 7) ae)) (aZ (bM K) (ac (aa 6) ae))))
 (am (bE (eJ K "list" aM (aa 1) (ac (aa 7) ae)))
 (bE (eJ K "list" aM (aa 2) (ac (aa 5) ae))))
 (bE (eJ K "list" aM (aa 3) (ac (ay (uj K) [] E0 (ac (LL (IN K) (aa 7) (Bm (aZ (bM K) (ac (aa 6) ae))) mz) ae)) ae))))))
 (aA (bJ (ac (aa 2) (ac (aa 3) ae)))))))))
theorem FR{K:Fg}{vs:List V}{N:List Str}(hN:N.length=8)(h:xI K vs H Q E):wR K (ends Q) (L2.start N vs) H:=by
 obtain⟨a,R,w,b,rfl,⟨xs,ha,lx,rx⟩,hw,hl,hw1,hb,Zb,Zv,k⟩:=h;rw[L2.aU hN];walk_at "t";unfold wR;walk_at "";refine⟨by decide,fun D1 n1=>?_⟩;walk_at "";refine⟨by decide,fun D2 n2=>?_⟩;walk_at "";refine⟨by decide,fun D3 n3=>?_⟩
 have A0:SH K H (upd (upd (upd H D1 (.lst [])) D2 (.lst [])) D3 (.lst [])) D1 D2 D3 (mU R 0):=by
  have S1:=aj n1 (.lst []);have S2:=aj n2 (.lst []);have S3:=aj n3 (.lst []);have h1:upd H D1 (.lst []) D1=some (.lst []):=ag;have h2:upd (upd H D1 (.lst [])) D2 (.lst []) D2=some (.lst []):=ag;exact⟨S1.trans (S2.trans S3),n1,S1.free n2,(S1.trans S2).free n3,au h1 n2,au (S2 _ _ h1) n3,au h2 n3,⟨[],S3 _ _ (S2 _ _ h1),.nil⟩,S3 _ _ h2,⟨[],ag,.nil⟩⟩
 generalize upd (upd (upd H D1 (.lst [])) D2 (.lst [])) D3 (.lst [])=H0 at A0 ⊢;walk_at "";refine bH (SqL.of (A0.same _ _ ha)) ?_;rw[lx];walk_at "";refine⟨R.length,rfl,by lia,fun U H1 AU=>?_⟩
 have B0:UN K H H1 D1 D2 D3 U R.length:=by
  obtain⟨x1,hx1,_⟩:=A0.a1;obtain⟨x3,hx3,_⟩:=A0.a3;have ss:∀q,H0 q=none->SS H D1 D2 D3 q:=fun q nq=>⟨A0.same.free nq,(au hx1 nq).symm,(au A0.a2 nq).symm,(au hx3 nq).symm⟩
  obtain⟨ys,hy,ry⟩:=AU.at_;exact⟨ss U AU.new,ys,hy,ry.mono fun q z=>ss q z.1⟩
 replace A0:=A0.on AU.same;clear AU;walk_at "";refine⟨a,xs,rfl,SqL.of (A0.same _ _ ha),?_⟩;refine fK (xs:=xs) (fun i σ H2=>∃u5 u6 u7:Option V,σ=[some (.ref a),some (.ref D1),some (.ref D2),some (.ref D3),some (.ref U),u5,u6,u7]/\SH K H H2 D1 D2 D3 (mU R i)/\UN K H H2 D1 D2 D3 U R.length) ⟨none,none,none,rfl,A0,B0⟩ (fun i σ H2 _ ⟨_,_,_,_,A,_⟩=>SqL.of (A.same _ _ ha)) ?_ ?_
 ·clear A0 B0 n1 n2 n3;rintro i x σ H2 T hx ⟨u5,u6,u7,rfl,A,B⟩ nT;have li:i<R.length:=by rw[<- lx];exact(NT.mp hx).1
  obtain⟨r,hr⟩:∃r,R[i]?=some r:=⟨_,NR li⟩
  have rv:=rx i x r hx hr;have I:=Bx hw Zb hb i (by lia);have lr:=hw r (N2 hr);have Y:=(x4 I Zb li lr (hb r (N2 hr))).1;have es:=BH hr;rw[es];generalize mU R i=st at A I Y ⊢;have A2:=A.on (aj nT (.tup [.int (i:Int),x]));have B2:=B.on (aj nT (.tup [.int (i:Int),x]));have hT:upd H2 T (.tup [.int (i:Int),x]) T=some (.tup [.int (i:Int),x]):=ag;generalize upd H2 T (.tup [.int (i:Int),x])=H3 at A2 B2 hT ⊢;refine bP (SqT.of hT) rfl ?_;have lo:(bp R.length i).length=R.length:=uI _ _;walk_at "";refine G7 (rv.same A2.same) fun l nl=>?_
  have A5:=A2.on (aj nl (.lst (r.map V.int)));have B5:=B2.on (aj nl (.lst (r.map V.int)));have hl5:upd H3 l (.lst (r.map V.int)) l=some (.lst (r.map V.int)):=ag;generalize upd H3 l (.lst (r.map V.int))=H5 at A5 B5 hl5 ⊢;obtain⟨us,D,hU,eD,hD5⟩:=B5.get li;walk_at "";refine cj (SqL.of hU) (v:=.ref D) (aG (j:=i) eD) ?_;walk_at "";refine⟨l,D,_,_,rfl,rfl,hl5,hD5,?_,fun q nq=>?_⟩
  ·have:(r.map V.int).length+((bp R.length i).map V.int).length<sizeLine:=ar (by rw[NQ,NQ];lia)
   lia
  rw[<- N1];have hq6:upd H5 q (.lst ((r++bp R.length i).map V.int)) q=some (.lst ((r++bp R.length i).map V.int)):=ag;have A6:=A5.on (aj nq (.lst ((r++bp R.length i).map V.int)));have B6:=B5.on (aj nq (.lst ((r++bp R.length i).map V.int)));obtain⟨x1,hx1,rx1⟩:=A5.a1;obtain⟨x3,hx3,rx3⟩:=A5.a3;have sq:SS H D1 D2 D3 q:=⟨A5.same.free nq,(au hx1 nq).symm,(au A5.a2 nq).symm,(au hx3 nq).symm⟩
  generalize upd H5 q (.lst ((r++bp R.length i).map V.int))=H6 at hq6 A6 B6 ⊢;walk_at "";obtain⟨ps,s1,s2,s3,_⟩:=I.sta;have lxo:(r++bp R.length i).length=w+R.length:=by rw[N6,lo,lr]
  have bst:bits b st.stairs.length<=bits b R.length:=gS (by have:=I.cnt;lia);refine⟨q,D1,r++bp R.length i,st.stairs,b,rfl,hq6,?_,by lia,fun t ht=>⟨by rw[I.len t ht,lxo],?_⟩,?_,I.bnd,by lia,fun p H7 S7 hp h7=>?_⟩
  ·obtain⟨y1,hy1,ry1⟩:=A6.a1;exact⟨y1,hy1,ry1.mono fun _ _=>trivial⟩
  ·have:fp t∈st.stairs.map fp:=N9.mpr ⟨t,ht,rfl⟩
   rw[s3] at this;obtain⟨p0,_,e0⟩:=N9.mp this;exact⟨p0,e0.symm⟩
  ·intro c hc;rcases N_.mp hc with m|m
   ·exact hb r (N2 hr) c m
   ·unfold bp at m;obtain⟨o,_,rfl⟩:=N9.mp m
    have:2 ^ 1<=2 ^ b:=Om (by decide) Zb
    split <;> lia
  have A7:=A6.on S7;have B7:=B6.on S7
  have sp:SS H D1 D2 D3 p:=by
   rcases hp with rfl|np
   ·exact sq
   ·obtain⟨y1,hy1,_⟩:=A6.a1;obtain⟨y3,hy3,_⟩:=A6.a3;exact⟨A6.same.free np,(au hy1 np).symm,(au A6.a2 np).symm,(au hy3 np).symm⟩
  have h7':H7 p=some (.lst ((cz R.length st i r).map V.int)):=h7;walk_at "";refine⟨p,cz R.length st i r,rfl,h7',fun H8 S8=>?_⟩;have A8:=A7.on S8;have B8:=B7.on S8;have h8:=S8 _ _ h7';obtain⟨f,f1,f2⟩:=Y.ne;have fv:EX (cz R.length st i r)=.int f:=by unfold EX;rw[f1]
  rw[fv];walk_at "";refine EL (rv.same A8.same) ?_;walk_at "";refine a6 (fun c=>?_) (fun c=>?_)
  ·have c':f<r.length:=by lia
   have e1:g_ R.length st i r=⟨st.stairs++[cz R.length st i r],st.free++[i],st.makers⟩:=by
    unfold g_;rw[f1];exact if_pos c'
   obtain⟨zs,z1,z2,z3,z4⟩:=A8.LZ (i:=i) sp h8;walk_at "";refine⟨qd z1,?_⟩;walk_at "";refine⟨D1,zs,_,rfl,rfl,z1,ar (by have:=I.cnt;lia),?_⟩;walk_at "";refine⟨qd z3,?_⟩;walk_at "";refine⟨D2,_,_,rfl,rfl,z3,ar ?_,?_⟩
   ·have:st.free.length<=i:=by
     rw[I.free]
     have:∀i,(grd R i).length<=i:=by
      intro i
      induction i with
      |zero=>exact N4 _
      |succ i ih =>
       by_cases g:bh (rowsOf R (grd R i)++[R.getD i []])
       ·rw[cD rfl g,N6];exact Sa ih
       ·rw[dC rfl g];lia
     exact this i
    unfold ni;rw[NQ,NQ];lia
   ·rw[e1];exact⟨_,_,_,rfl,z4,(B8.upd (.inl rfl) z1).upd (.inr (.inl rfl)) z3⟩
  ·have c' : ¬ f<r.length:=by lia
   have e1:g_ R.length st i r=⟨st.stairs,st.free,st.makers++[bw ((cz R.length st i r).drop r.length)]⟩:=by
    unfold g_;rw[f1];exact if_neg c'
   obtain⟨y3,hy3,_⟩:=A8.a3;walk_at "";refine⟨qd hy3,?_⟩;walk_at "";refine EL (rv.same A8.same) ?_;walk_at "";refine⟨p,_,rfl,SqL.of h8,fun t nt=>?_⟩;rw[Ao,<- List.map_drop];have A9:=A8.on (aj nt (.lst (((cz R.length st i r).drop r.length).map V.int)));have B9:=B8.on (aj nt (.lst (((cz R.length st i r).drop r.length).map V.int)));have h9:upd H8 t (.lst (((cz R.length st i r).drop r.length).map V.int)) t=some (.lst (((cz R.length st i r).drop r.length).map V.int)):=ag;generalize upd H8 t (.lst (((cz R.length st i r).drop r.length).map V.int))=H9 at A9 B9 h9 ⊢;walk_at "";refine⟨t,_,rfl,h9,by rw[PX,Y.len];lia,fun c hc=>?_,fun p2 YC C2=>?_⟩
   ·exact OB (Y.bnd c (TQ hc)) (Om (by decide) (by lia))
   ·have A10:=A9.on C2.same;obtain⟨y1,hy1,_⟩:=A9.a1;obtain⟨y4,hy4,_⟩:=A9.a3;have sp2:SS H D1 D2 D3 p2:=⟨A9.same.free C2.new,(au hy1 C2.new).symm,(au A9.a2 C2.new).symm,(au hy4 C2.new).symm⟩
    obtain⟨zs,z1,z2,z3⟩:=A10.maker sp2 (AccZ.ints C2);walk_at "";refine⟨D3,zs,_,rfl,rfl,z1,ar (by have:=I.mks;lia),?_⟩;rw[e1];exact⟨_,_,_,rfl,z3,(B9.on C2.same).upd (.inr (.inr rfl)) z1⟩
 ·rintro σ H2 ⟨u5,u6,u7,rfl,A,_⟩;rw[lx] at A;walk_at "";refine⟨aQ,fun p np=>?_⟩;obtain⟨x3,h3,r3⟩:=A.a3;have S:=aj np (.tup [.ref D2,.ref D3]);refine k p _ (A.same.trans S) (.tup ag (.cons (wm A.n2 (S _ _ A.a2)) (.cons (.lst A.n3 (S _ _ h3) ((r3.same S).mono fun _ z=>z.1)) .nil)))
structure HK (w:Nat) (ts:List Tn):Prop where
 le:ts.length<=8
 w5:w<=5
 fr:∀t∈ts,t.fr.length=w
 wide:Wide w (ts.map KY)
 bnd:wB 2 (ts.map KY)
theorem Nf(vo:wx ws ts):HK ws.length ts:=by
 obtain⟨hs,po,_,tk⟩:=vo.turns;have ho:∀t∈ts,e_ ws.length t.fr/\e_ ws.length t.to:=fun t ht=>⟨po.2 _ (tk.ok t ht).1,po.2 _ (tk.ok t ht).2.1⟩
 refine⟨tk.le,vo.w5,fun t ht=>(ho t ht).1.1,fun r hr=>?_,fun r hr c hc=>?_⟩
 ·obtain⟨t,ht,rfl⟩:=N9.mp hr;unfold KY;rw[T9,(ho t ht).1.1,(ho t ht).2.1,Nat.min_self]
 ·obtain⟨t,ht,rfl⟩:=N9.mp hr;unfold KY at hc;obtain⟨i,hi⟩:=ON hc;rw[RQ] at hi;cases e1:t.fr[i]? with
  |none=>rw[e1] at hi;simp at hi
  |some x =>
   cases e2:t.to[i]? with
   |none=>rw[e1,e2] at hi;simp at hi
   |some y =>
    rw[e1,e2] at hi;have Zo:=Oq hi;have b1:=(ho t ht).1.2 x (N2 e1);have b2:=(ho t ht).2.2 y (N2 e2);show c.natAbs<4;lia
theorem K2{n:Nat}(h:n<=8):bits 2 n<=9000:=Oi (gS h) (by decide)
end Rw
namespace Cl
open Rk Sz Sf
noncomputable def dF(R:List (List Int))(k:Nat):List Int:=R.map fun r=>pt r k
noncomputable def bS(w:Nat)(R:List (List Int)):List (List Int):=(Oa w).map (dF R)
noncomputable def eN:List Int->List Nat->List Int->Int
 |a :: as,p :: ps,r=>a*pt r p+eN as ps r
 |_,_,_=>0
theorem jk:∀{a:List Int} {ps:List Nat} (b:List Int) (qs:List Nat) (r:List Int),a.length=ps.length->eN (a++b) (ps++qs) r=eN a ps r+eN b qs r
 |[],[],b,qs,r,_=>by simp[eN]
 |x :: a,p :: ps,b,qs,r,h=>by
  have ih:=jk (a:=a) (ps:=ps) b qs r (by simpa using h);show x*pt r p+eN (a++b) (ps++qs) r=x*pt r p+eN a ps r+eN b qs r;rw[ih];lia
theorem uw(k:Int):∀(a:List Int) (ps:List Nat) (r:List Int),eN (a.map fun x=>k*x) ps r=k*eN a ps r
 |[],ps,r=>by cases ps <;> simp[eN]
 |x :: a,[],r=>by simp[eN]
 |x :: a,p :: ps,r=>by
  have ih:=uw k a ps r;show k*x*pt r p+eN (a.map fun x=>k*x) ps r=k*(x*pt r p+eN a ps r);rw[ih,Px,OE]
theorem uv{ps:List Nat}(h:∀p∈ps,pt r p=0):∀a:List Int,eN a ps r=0:=by
 induction ps with
 |nil=>intro a;cases a <;> rfl
 |cons p ps ih =>
  intro a;cases a with
  |nil=>rfl
  |cons x a =>
   show x*pt r p+eN a ps r=0;rw[h p NX,ih (fun q hq=>h q (NZ _ hq))];lia
theorem sI{by_ s:List Int}{p:Nat}(h:s.length=by_.length):∀(a:List Int) (ps:List Nat),eN a ps (fT by_ p s)=pt by_ p*eN a ps s-pt s p*eN a ps by_
 |[],ps=>by cases ps <;> simp[eN]
 |x :: a,[]=>by simp[eN]
 |x :: a,q :: ps=>by
  have ih:=sI (p:=p) h a ps;show x*pt (fT by_ p s) q+eN a ps (fT by_ p s)=pt by_ p*(x*pt s q+eN a ps s)-pt s p*(x*pt by_ q+eN a ps by_);rw[ih,ir h,Px,Px,TM];have e1:x*(pt s q*pt by_ p)=pt by_ p*(x*pt s q):=by rw[<- OE,O0]
  have e2:x*(pt s p*pt by_ q)=pt s p*(x*pt by_ q):=by rw[<- OE,O0 x,OE]
  lia
theorem Em:pt (dF R k) q=match R[q]? with|some r=>pt r k|none=>0:=by
 show((R.map fun r=>pt r k).getD q 0)=_;rw[NS,NW];cases R[q]? <;> rfl
theorem nW{w:Nat}{R:List (List Int)}{q:Nat}:∀(a:List Int) (ps:List Nat),(∀p∈ps,p<w)->aN a (rowsOf (bS w R) ps) q=match R[q]? with|some r=>eN a ps r|none=>0
 |[],ps,_=>by
  cases ps <;> (unfold rowsOf;simp only[R_,OS];cases R[q]? <;> rfl)
 |x :: a,[],_=>by unfold rowsOf;simp only[R_];cases R[q]? <;> rfl
 |x :: a,p :: ps,h=>by
  have ih:=nW (R:=R) (q:=q) a ps fun p hp=>h p (NZ _ hp)
  have lp:=h p NX
  have e:(bS w R).getD p []=dF R p:=by
   unfold bS;rw[NS,NW,OW lp];rfl
  show x*pt ((bS w R).getD p []) q+aN a (rowsOf (bS w R) ps) q=_;rw[ih,e,Em];cases R[q]? with
  |none=>simp
  |some r=>rfl
noncomputable def HD(R:List (List Int))(a:List Int)(ps:List Nat):Prop:=∀r∈R,eN a ps r=0
theorem jV{w:Nat}{ps:List Nat}(h:∀p∈ps,p<w):bh (rowsOf (bS w R) ps)↔∀a:List Int,a.length=ps.length->HD R a ps->∀c∈a,c=0:=by
 have lr:(rowsOf (bS w R) ps).length=ps.length:=by unfold rowsOf;rw[NQ]
 constructor
 ·intro f a la ra;refine f a (by rw[lr,la]) fun q=>?_
  rw[nW a ps h];cases e:R[q]? with
  |none=>rfl
  |some r=>exact ra r (N2 e)
 ·intro f a la ra;refine f a (by rw[<- lr,la]) fun r hr=>?_
  obtain⟨q,hq⟩:=ON hr
  have:=ra q
  rw[nW a ps h,hq] at this;exact this
theorem iY(i:Nat):∀{P:List (List Int)} {ps:List Nat},cw P ps->∃(a:List Int) (s:Int),a.length=ps.length/\s≠0/\∀b∈P,eN a ps b+s*pt b i=0
 |_,_,.nil=>⟨[],1,rfl,by decide,by simp⟩
 |_,_,.cons (s:=b) (p:=p) (S:=P) (ps:=ps) h1 h2 r=>by
  obtain⟨a,s,la,hs,e⟩:=iY i r;refine⟨(-(eN a ps b+s*pt b i)) :: a.map fun x=>pt b p*x,pt b p*s,by simp[la],RL h1 hs,fun t ht=>?_⟩;show -(eN a ps b+s*pt b i)*pt t p+eN (a.map fun x=>pt b p*x) ps t+pt b p*s*pt t i=0;rw[uw];rcases Od.mp ht with rfl|ht
  ·have e1:pt t p*s*pt t i=pt t p*(s*pt t i):=OE ..;rw[e1,Qg,O0 (eN a ps t+s*pt t i),Px];lia
  ·rw[h2 t ht];have e1:pt b p*eN a ps t+pt b p*s*pt t i=pt b p*(eN a ps t+s*pt t i):=by rw[Px,OE]
   have e2:=e t ht;rw[e2,Pz] at e1;lia
theorem fJ(R:List (List Int)):∀i,bh (rowsOf R (grd R i))
 |0=>fun a la _ c hc=>by
  have:a=[]:=Pb.mp la
  subst this;cases hc
 |i+1=>by
  by_cases g:bh (rowsOf R (grd R i)++[R.getD i []])
  ·rw[cD rfl g];unfold rowsOf at g ⊢;rw[N1];exact g
  ·rw[dC rfl g];exact fJ R i
theorem gQ(R:List (List Int)):∀i,∀j∈grd R i,j<i
 |0=>fun j hj=>by cases hj
 |i+1=>fun j hj=>by
  have ih:=gQ R i;by_cases g:bh (rowsOf R (grd R i)++[R.getD i []])
  ·rw[cD rfl g] at hj;rcases N_.mp hj with m|m
   ·exact Tb (ih j m)
   ·rw[N7.mp m];exact Tx i
  ·rw[dC rfl g] at hj;exact Tb (ih j hj)
structure CI (R:List (List Int)) (w i:Nat) (st:Nat×List (List Int)):Prop where
 wide:Wide w st.2
 nought:∀r∈st.2,∀q<i,pt r q=0
 len:st.1=(grd (bS w R) i).length
 pick:∃P,cw P (grd (bS w R) i)/\∀(a:List Int) (ps:List Nat),HD R a ps↔HD P a ps/\HD st.2 a ps
theorem Hw{st:Nat×List (List Int)}(I:CI R w i st)(hi:i<w):CI R w (i+1) (ip st i):=by
 obtain⟨P,sP,eP⟩:=I.pick;have gl:=gQ (bS w R) i;have gf:=fJ (bS w R) i;have gw:∀p∈grd (bS w R) i,p<w:=fun p hp=>by have:=gl p hp;lia
 have gw1:∀p∈grd (bS w R) i++[i],p<w:=fun p hp=>by
  rcases N_.mp hp with m|m
  ·exact gw p m
  ·rw[N7.mp m];exact hi
 have er:rowsOf (bS w R) (grd (bS w R) i)++[(bS w R).getD i []]=rowsOf (bS w R) (grd (bS w R) i++[i]):=by unfold rowsOf;rw[N1];rfl
 have yes:=fun h=>cD (R:=bS w R) (i:=i) rfl h
 have no:=fun h=>dC (R:=bS w R) (i:=i) rfl h
 rw[er,jV gw1] at yes;rw[er,jV gw1] at no;rw[jV gw] at gf;have lI:=I.len;generalize grd (bS w R) i=ps at sP gl gf gw gw1 yes no lI;unfold ip;split
 ·rename_i e
  have z:∀r∈st.2,pt r i=0:=fun r hr=>by
   by_cases y:pt r i=0
   ·exact y
   ·have:r∈st.2.filter (fun r=>pt r i≠0):=Os.mpr ⟨hr,by simpa using y⟩
    rw[e] at this;cases this
  have nf : ¬ ∀a:List Int,a.length=(ps++[i]).length->HD R a (ps++[i])->∀c∈a,c=0:=fun f=>by
   obtain⟨a,s,la,hs,es⟩:=iY i sP;refine hs (f (a++[s]) (by simp[la]) ((eP _ _).mpr ⟨fun b hb=>?_,fun r hr=>?_⟩) s (Ob _ (N7.mpr rfl)))
   ·rw[jk _ _ _ la]
    have:=es b hb
    show eN a ps b+(s*pt b i+0)=0;lia
   ·rw[jk _ _ _ la,uv fun p hp=>I.nought r hr p (gl p hp)];show 0+(s*pt r i+0)=0;rw[z r hr];lia
  have en:=no nf
  exact⟨I.wide,fun r hr q hq=>by
   by_cases y:q=i
   ·rw[y];exact z r hr
   ·exact I.nought r hr q (by lia),by rw[en];exact lI,P,by rw[en];exact sP,eP⟩
 ·rename_i by_ rest e;have mb:by_∈st.2.filter (fun r=>pt r i≠0):=by rw[e];exact NX
  obtain⟨Zz,mb2⟩:=Os.mp mb;have nb:pt by_ i≠0:=by simpa using mb2
  obtain⟨A,B,h1,h2⟩:=jh Zz;have hb:=I.wide by_ Zz
  have mem:∀s∈A++B,s∈st.2:=fun s hs=>by
   rw[h1];rcases N_.mp hs with z|z
   ·exact Oe _ z
   ·exact Ob _ (NZ _ z)
  have f:∀a:List Int,a.length=(ps++[i]).length->HD R a (ps++[i])->∀c∈a,c=0:=by
   intro a la ra;have la':a.length=ps.length+1:=by simpa using la
   obtain⟨a1,x,rfl⟩:∃a1 x,a=a1++[x]:=⟨a.dropLast,a.getLast (by intro z;rw[z] at la';simp at la'),(RM _).symm⟩
   have l1:a1.length=ps.length:=by simpa using la'
   have e0:=((eP _ _).mp ra).2 by_ Zz;rw[jk _ _ _ l1,uv fun p hp=>I.nought by_ Zz p (gl p hp)] at e0
   have e1:x*pt by_ i=0:=by
    have:0+(x*pt by_ i+0)=0:=e0
    lia
   have x0:x=0:=(OP.mp e1).resolve_right nb
   have r1:HD R a1 ps:=fun r hr=>by
    have:=ra r hr
    rw[jk _ _ _ l1,x0] at this
    have:eN a1 ps r+(0*pt r i+0)=0:=this
    lia
   intro c hc;rcases N_.mp hc with m|m
   ·exact gf a1 l1 r1 c m
   ·rw[N7.mp m];exact x0
  refine⟨fun r hr=>?_,fun r hr q hq=>?_,?_,P++[by_],?_,fun a qs=>?_⟩
  ·obtain⟨s,hs,rfl⟩:=N9.mp hr;rw[h2] at hs;rw[gq (by rw[I.wide s (mem s hs),hb]),hb]
  ·obtain⟨s,hs,rfl⟩:=N9.mp hr;rw[h2] at hs;rw[ir (by rw[I.wide s (mem s hs),hb])];by_cases y:q=i
   ·subst y;rw[O0];lia
   ·rw[I.nought s (mem s hs) q (by lia),I.nought by_ Zz q (by lia)];simp
  ·rw[yes f,N6];show st.1+1=_;rw[lI];rfl
  ·rw[yes f];exact sP.snoc (fun q hq=>I.nought by_ Zz q (gl q hq)) nb
  ·rw[eP];constructor
   ·rintro⟨r1,r2⟩;have rb:=r2 by_ Zz;refine⟨fun b hb=>?_,fun r hr=>?_⟩
    ·rcases N_.mp hb with m|m
     ·exact r1 b m
     ·rw[N7.mp m];exact rb
    ·obtain⟨s,hs,rfl⟩:=N9.mp hr;rw[h2] at hs;rw[sI (by rw[I.wide s (mem s hs),hb]),rb,r2 s (mem s hs)];simp
   ·rintro⟨r1,r2⟩;have rb:=r1 by_ (Ob _ (N7.mpr rfl));refine⟨fun b hb=>r1 b (Oe _ hb),fun r hr=>?_⟩;rw[h1] at hr
    have go:∀s∈A++B,eN a qs s=0:=fun s hs=>by
     have:=r2 (fT by_ i s) (N9.mpr ⟨s,by rw[h2];exact hs,rfl⟩)
     rw[sI (by rw[I.wide s (mem s hs),hb]),rb,Pz,Int.sub_zero] at this;exact(OP.mp this).resolve_left nb
    rcases N_.mp hr with m|m
    ·exact go r (Oe _ m)
    ·rcases Od.mp m with rfl|m
     ·exact rb
     ·exact go r (Ob _ m)
theorem KW{R:List (List Int)}{w:Nat}(hw:Wide w R):∀i,i<=w->CI R w i (Bp R i)
 |0,_=>⟨hw,fun r _ q hq=>absurd hq (PD _),rfl,[],.nil,fun a ps=>⟨fun h=>⟨fun r hr=>(by cases hr),h⟩,fun h=>h.2⟩⟩
 |i+1,h=>by rw[xx];exact Hw (KW hw i (by lia)) (by lia)
theorem xT(hw:Wide w R):size w R=(grd (bS w R) w).length:=(KW hw w (N4 _)).len
end Cl
namespace Mk
open Rk Sz Sf Cl
theorem hJ(a:List Int)(j:Nat):pt a.tail j=pt a (j+1):=by
 cases a with
 |nil=>rfl
 |cons x a=>rfl
theorem fL(a:List Int)(r:List Int)(R:List (List Int))(q:Nat):aN a (r :: R) q=pt a 0*pt r q+aN a.tail R q:=by
 cases a with
 |nil=>show(0:Int)=0*pt r q+aN [] R q;cases R <;> simp[aN]
 |cons x a=>rfl
theorem ic{α β:Int}{q:Nat}:∀{R:List (List Int)} {a b c:List Int},(∀j,pt c j=α * pt a j + β * pt b j)->aN c R q=α * aN a R q + β * aN b R q
 |[],a,b,c,_=>by rw[jX,jX,jX];simp
 |r :: R,a,b,c,h=>by
  have ih:=ic (R:=R) (a:=a.tail) (b:=b.tail) (c:=c.tail) (q:=q) fun j=>by rw[hJ,hJ,hJ];exact h (j+1)
  rw[fL,fL,fL,ih,h 0,Q9,Px,Px,OE,OE];lia
theorem c9(s:List Int)(w j:Nat):pt (s.drop w) j=pt s (w+j):=by
 unfold pt;rw[NS,NS,WC]
theorem vy{q:Nat}:∀{R:List (List Int)} {a:List Int} {i:Nat} {r:List Int},R[i]?=some r->(∀j,pt a j=if j=i then 1 else 0)->aN a R q=pt r q
 |x :: R,a,0,r,e,h=>by
  have e':x=r:=Oq e;have z:aN a.tail R q=0*aN [] R q+0*aN [] R q:=ic fun j=>by rw[hJ,h (j+1)];simp
  rw[fL,z,h 0,e'];simp
 |x :: R,a,i+1,r,e,h=>by
  have ih:=vy (R:=R) (a:=a.tail) (i:=i) (q:=q) (by simpa using e) fun j=>by rw[hJ,h (j+1)];simp
  rw[fL,ih,h 0];simp
noncomputable def Md(w:Nat)(R:List (List Int))(s:List Int):Prop:=∀q<w,pt s q=aN (s.drop w) R q
theorem JX{w:Nat}{R:List (List Int)}{r:List Int}{i:Nat}(hr:R[i]?=some r)(lr:r.length=w):Md w R (r++bp R.length i):=by
 intro q hq;have hi:i<R.length:=(NT.mp hr).1
 have e:pt (r++bp R.length i) q=pt r q:=by
  unfold pt;rw[NS,O5 (by lia),NS]
 rw[e];refine(vy hr fun j=>?_).symm;rw[c9,kR lr];by_cases z:j=i
 ·rw[if_pos ⟨z ▸ hi,z⟩,if_pos z]
 ·rw[if_neg (fun y=>z y.2),if_neg z]
theorem JW(my:Md w R y)(ms:Md w R s)(l:y.length=s.length):Md w R (cQ y s):=by
 intro q hq;unfold cQ;generalize (fp s).getD 0=p;obtain⟨g,hg,eg⟩:=eZ (fT s p y)
 have e1:g*pt (bw (fT s p y)) q=g*aN ((bw (fT s p y)).drop w) R q:=by
  have a1:aN ((fT s p y).drop w) R q=g*aN ((bw (fT s p y)).drop w) R q+0*aN [] R q:=ic fun j=>by
   rw[c9,c9,eg (w+j)];simp
  have a2:aN ((fT s p y).drop w) R q=pt s p*aN (y.drop w) R q+(-pt y p)*aN (s.drop w) R q:=ic fun j=>by
   rw[c9,c9,c9,ir l,O0 (pt y (w+j)),Qg];lia
  rw[eg q,ir l,my q hq,ms q hq];rw[a1,Qz,PP] at a2;rw[a2,O0 (aN (y.drop w) R q),Qg];lia
 exact QZ hg e1
theorem kS{w L:Nat}{R:List (List Int)}:∀(S:List (List Int)) (y:List Int),(∀s∈S,s.length=L/\Md w R s)->y.length=L->Md w R y->Md w R (aT y S)
 |[],y,_,_,m=>m
 |s :: S,y,h,l,m=>by
  have hs:=h s NX;refine kS S (cQ y s) (fun t ht=>h t (NZ _ ht)) ?_ (JW m hs.2 (by rw[l,hs.1]));unfold cQ;rw[cV,gq (by rw[l,hs.1]),hs.1]
theorem qk{g:Int}:∀(r:List Int) (d:Int),(r.map fun x=>g*x).foldl Gd.gd (g*d)=(g.natAbs:Int)*r.foldl Gd.gd d\/(r=[]/\(r.map fun x=>g*x).foldl Gd.gd (g*d)=g*d)
 |[],d=>.inr ⟨rfl,rfl⟩
 |x :: r,d=>by
  refine .inl ?_
  have e:Gd.gd (g*d) (g*x)=(g.natAbs:Int)*Gd.gd d x:=by
   unfold Gd.gd;rw[U8];simp
  show(r.map fun x=>g*x).foldl Gd.gd (Gd.gd (g*d) (g*x))=(g.natAbs:Int)*r.foldl Gd.gd (Gd.gd d x);rw[e]
  have abs:∀(r:List Int) (d:Int),(r.map fun x=>g*x).foldl Gd.gd ((g.natAbs:Int)*d)=(g.natAbs:Int)*r.foldl Gd.gd d:=by
   intro r
   induction r with
   |nil=>intro d;rfl
   |cons y r ih =>
    intro d
    have e:Gd.gd ((g.natAbs:Int)*d) (g*y)=(g.natAbs:Int)*Gd.gd d y:=by
     unfold Gd.gd
     have:WT ((g.natAbs:Int)*d) (g*y)=WT (g*d) (g*y):=by
      rw[T7,T7,OU,OU,OU];simp
     rw[this,U8];simp
    show(r.map fun x=>g*x).foldl Gd.gd (Gd.gd ((g.natAbs:Int)*d) (g*y))=_;rw[e,ih];rfl
  exact abs r _
theorem jU:∀(r:List Int) (d:Int),0<=d->0<=r.foldl Gd.gd d
 |[],d,h=>h
 |x :: r,d,_=>jU r _ (Gd.zR d x)
theorem C7{i:Nat}(h:fp r=some i):cE (bw r)=1/\fp (bw r)=some i/\0<pt (bw r) i:=by
 obtain⟨f1,f2,f3⟩:=dh h;have d0:=vn f2;have dd:=tD r i;have el:bw r=r.map fun x=>x.fdiv (eK r i):=by unfold bw;rw[h]
 have back:r=(bw r).map fun x=>eK r i*x:=by
  rw[el,Ph]
  conv=>lhs;rw[<- List.map_id r]
  refine Py fun x hx=>?_
  show x=eK r i*x.fdiv (eK r i);rw[TV (dd x hx)]
 have ptl:∀q,eK r i*pt (bw r) q=pt r q:=by
  intro q;rw[el];unfold pt;rw[NS,NW,NS];cases e2:r[q]? with
  |none=>exact Pz _
  |some c=>exact TV (dd c (N2 e2))
 have g0:=zU f2;have gn:0<=cE r:=jU r 0 (Int.le_refl _);have gp:0<cE r:=by lia
 have da:((eK r i).natAbs:Int)=cE r:=by unfold eK;split <;> lia
 refine⟨?_,?_,?_⟩
 ·have:=qk (g:=eK r i) (bw r) 0
  rw[Pz,<- back] at this;rcases this with e|⟨e,_⟩
  ·have e':cE r=cE r*cE (bw r):=by rw[da] at e;exact e
   have:cE r*cE (bw r)=cE r*1:=by lia
   exact QZ g0 this
  ·rw[e] at back;rw[back] at f1;simp at f1
 ·have nz:pt (bw r) i≠0:=fun z=>f2 (by rw[<- ptl i,z,Pz])
  have l:i<(bw r).length:=by rw[cV];exact f1
  unfold fp;rw[QY];refine⟨l,?_,fun j hj=>?_⟩
  ·unfold pt at nz;rw[NS,NR l] at nz;simpa using nz
  ·have z:pt (bw r) j=0:=by
    have:=ptl j
    rw[f3 j hj] at this;exact(OP.mp this).resolve_left d0
   unfold pt at z;rw[NS,NR (by lia)] at z;simpa using z
 ·have e:=ptl i;unfold eK at e;split at e
  ·rename_i ng;by_cases z:0<pt (bw r) i
   ·exact z
   ·have:0<=cE r * -pt (bw r) i:=X1 gn (by lia)
    rw[RZ] at this;rw[Qg] at e;lia
  ·rename_i ng;by_cases z:0<pt (bw r) i
   ·exact z
   ·have:0<=cE r * -pt (bw r) i:=X1 gn (by lia)
    rw[RZ] at this;lia
theorem z_(h:bh M)(n:pt m p≠0)(z:∀t∈M,pt t p=0):bh (M++[m]):=by
 intro a la ha;obtain⟨a1,a2,rfl,l1,l2⟩:=split_len la;obtain⟨x,rfl⟩:∃x,a2=[x]:=PL.mp l2
 have x0:x=0:=by
  have:=ha p
  rw[bY _ _ _ l1,cO z] at this;have e:0+(x*pt m p+0)=0:=this;exact(OP.mp (by lia:x*pt m p=0)).resolve_right n
 intro c hc;rcases N_.mp hc with q|q
 ·refine h a1 l1 (fun k=>?_) c q
  have:=ha k
  rw[bY _ _ _ l1,x0] at this;have e:aN a1 M k+(0*pt m k+0)=0:=this;lia
 ·rw[N7.mp q];exact x0
theorem oI:∀{S:List (List Int)} {ps:List Nat},cw S ps->S.length=ps.length
 |_,_,.nil=>rfl
 |_,_,.cons _ _ r=>congrArg (· + 1) (oI r)
theorem ug{p:Nat}:∀{S:List (List Int)} {ps:List Nat},cw S ps->(∀t∈S,pt t p=0)->p∉ps
 |_,_,.nil,_=>by simp
 |_,_,.cons (s:=s) (p:=q) h1 _ r,z=>fun m=>by
  rcases Od.mp m with e|m
  ·exact h1 (by rw[<- e];exact z s NX)
  ·exact ug r (fun t ht=>z t (NZ _ ht)) m
theorem uh:∀{S:List (List Int)} {ps:List Nat},cw S ps->ps.Nodup
 |_,_,.nil=>P5
 |_,_,.cons _ h2 r=>OO.mpr ⟨ug r h2,uh r⟩
theorem Bs{w:Nat}(h:cw S ps)(l:∀p∈ps,p<w):S.length<=w:=by
 have:=Ti.a5 (hs:=Oa w) (uh h) fun p hp=>Ow.mpr (l p hp)
 rw[On] at this;rw[oI h];exact this
structure Good (R:List (List Int)) (w b:Nat) (m:List Int):Prop where
 len:m.length=R.length
 nought:∀q,aN m R q=0
 low:cE m=1
 first:∃k,fp m=some k/\0<pt m k
 bnd:∀c∈m,c.natAbs<2 ^ bits b (min w R.length)
structure MI (R:List (List Int)) (w b i:Nat) (st:ot):Prop where
 cnt:st.makers.length+st.free.length=i
 md:∀s∈st.stairs,Md w R s
 good:∀m∈st.makers,Good R w b m
 last:∀m∈st.makers,∀j,i<=j->pt m j=0
 free:bh st.makers
theorem vx{q:Nat}(hw:Wide w R)(hq:w<=q):aN a R q=0:=cO fun s hs=>by
 unfold pt;rw[NS,OG (by rw[hw s hs];exact hq)];rfl
theorem GV{st:ot}{r:List Int}(hw:Wide w R)(I:SI R w b i st)(J:MI R w b i st)(hb:1<=b)(hr:R[i]?=some r)(br:∀c∈r,c.natAbs<2 ^ b):MI R w b (i+1) (g_ R.length st i r):=by
 have lr:=hw r (N2 hr);have hi:i<R.length:=(NT.mp hr).1;obtain⟨Y,ps,s1,s2,s3,s4,C⟩:=x4 I hb hi lr br;have lx:(r++bp R.length i).length=w+R.length:=by unfold bp;rw[N6,NQ,On,lr]
 have M:Md w R (cz R.length st i r):=kS st.stairs _ (fun s hs=>⟨I.len s hs,J.md s hs⟩) lx (JX hr lr);have ws:=Bs s1 s2;obtain⟨d,c,G,ld,hc,hG,e⟩:=C.made
 have Y6:pt (cz R.length st i r) (w+i)≠0:=by
  intro z;have e1:=e (w+i);rw[z,kR lr,cO fun s hs=>I.own s hs i (N4 _),if_pos ⟨hi,rfl⟩] at e1;lia
 unfold g_;generalize cz R.length st i r=z at Y C M Y6;obtain⟨q,f1,f2⟩:=Y.ne;rw[f1];show MI R w b (i+1) (if q<r.length then _ else _);split
 ·refine⟨?_,fun s hs=>?_,J.good,fun m hm j hj=>J.last m hm j (by lia),J.free⟩
  ·show st.makers.length+(st.free++[i]).length=i+1;rw[N6]
   have:=J.cnt
   show st.makers.length+(st.free.length+1)=i+1;lia
  ·rcases N_.mp hs with m|m
   ·exact J.md s m
   ·rw[N7.mp m];exact M
 ·rename_i lq;rw[lr] at lq;have z0:∀k,k<w->pt z k=0:=fun k hk=>(dh f1).2.2 k (by lia)
  rw[lr];have dn:pt (z.drop w) i≠0:=by rw[c9];exact Y6
  obtain⟨k,fk⟩:∃k,fp (z.drop w)=some k:=by
   cases f:fp (z.drop w) with
   |none=>exact absurd (Ab f i) dn
   |some k=>exact⟨k,rfl⟩
  obtain⟨l1,l2,l3⟩:=C7 fk;obtain⟨g,hg,eg⟩:=eZ (z.drop w)
  have zero:∀j,pt (z.drop w) j=0->pt (bw (z.drop w)) j=0:=fun j h=>by
   have:=eg j
   rw[h] at this;exact(OP.mp this).resolve_left hg
  have G1:Good R w b (bw (z.drop w)):=by
   refine⟨?_,fun q=>?_,l1,⟨k,l2,l3⟩,?_⟩
   ·rw[cV,PX,Y.len];lia
   ·by_cases hq:q<w
    ·have a1:aN (z.drop w) R q=g*aN (bw (z.drop w)) R q+0*aN [] R q:=ic fun j=>by rw[eg j];simp
     rw[<- M q hq,z0 q hq,Qz,PP] at a1;exact(OP.mp a1.symm).resolve_left hg
    ·exact vx hw (by lia)
   ·refine uR fun c hc=>?_
    exact OB (Y.bnd c (TQ hc)) (Om (by decide) (gS (by have:=I.cnt;lia)))
  refine⟨?_,J.md,fun m hm=>?_,fun m hm j hj=>?_,?_⟩
  ·show(st.makers++[_]).length+st.free.length=i+1;rw[N6]
   have:=J.cnt
   show st.makers.length+1+st.free.length=i+1;lia
  ·rcases N_.mp hm with y|y
   ·exact J.good m y
   ·rw[N7.mp y];exact G1
  ·rcases N_.mp hm with y|y
   ·exact J.last m y j (by lia)
   ·rw[N7.mp y];exact zero j (by rw[c9];exact Y.own j hj)
  ·refine z_ (p:=i) J.free (fun y=>dn ?_) fun t ht=>J.last t ht i (N4 _)
   rw[<- eg i,y,Pz]
theorem GW{R:List (List Int)}{w b:Nat}(hw:Wide w R)(hb:1<=b)(br:wB b R):∀i,i<=R.length->MI R w b i (mU R i)
 |0,_=>⟨rfl,(fun s hs=>by cases hs),(fun s hs=>by cases hs),(fun s hs=>by cases hs),fun a la _ c hc=>by
   have:a=[]:=Pb.mp la
   subst this
   cases hc⟩
 |i+1,h=>by
  have hr:R[i]?=some (R.getD i []):=by rw[NS,NR (by lia)];rfl
  exact GV hw (Bx hw hb br i (by lia)) (GW hw hb br i (by lia)) hb hr (br _ (N2 hr))
end Mk
namespace Rw
open PySem L2 Fr G1 Sm Vs G2 Rk Sz Sf Cl
open PySem.W (Dat kqdOk)
theorem Lg(n:Nat):(PM n true).all id=true:=by
 rw[Va];intro x hx;rw[(Ux.mp hx).2];rfl
end Rw
namespace Rw
open PySem L2 Fr G1 Sm Vs G2 Rk Sz Sf Cl
open PySem.W (Dat kqdOk)
noncomputable def dM(M:List (List Int)):Dat:=.list (M.map dL)
noncomputable def mJ(K:Fg):Sp:=fun vs H Q _=>∃(a:Addr) (R:List (List Int)) (w b:Nat),vs=[.ref a]/\AR H a R/\Wide w R/\R.length<=20/\w<=20/\wB b R/\1<=b/\bits b R.length<=9000 /\
 ∀(p:Addr) (H':Hp),Same H H'->Rp K (fun a=>H a=none) H' (.ref p) (dM (LM R).makers)->Q (.ref p) H'
noncomputable def l4(K:Fg):TS:=(aA (aq (aE K) (ay (xI K) [] E0 (ac (aa 0) ae)) (tC (.int 1))))
theorem ya{K:Fg}{vs:List V}{N:List Str}(hN:N.length=1)(h:mJ K vs H Q E):l4 K (ends Q) (L2.start N vs) H:=by
 obtain⟨a,R,w,b,rfl,hr,hw,hl,hw1,hb,Zb,Zv,k⟩:=h;rw[L2.aU hN];walk_at "t";unfold l4;walk_at "";refine⟨a,R,w,b,rfl,hr,hw,hl,hw1,hb,Zb,Zv,fun p H1 S1 rp=>?_⟩;obtain⟨q,xs,e,hq,rx⟩:=rp.cP;cases e;cases rx with
 |cons h1 r1 =>
  cases r1 with
  |cons h2 r2 =>
   cases r2;obtain⟨c,ys,rfl,nc,hc,ry⟩:=Rp.iu h2;walk_at "";refine aF (SqT.of hq) (v:=.ref c) (aG (j:=1) rfl) ?_;exact k c H1 S1 h2
theorem L5{K:Fg}{R:List (List Int)}(A:Acc K H0 p H (R.map dL)):AR H p R:=by
 obtain⟨xs,h1,h2⟩:=A.at_;refine⟨xs,h1,by rw[h2.length,NQ],fun i x r hx hr=>?_⟩;obtain⟨d,g1,g2⟩:=h2.get hx;rw[NW,hr] at g1;cases g1;obtain⟨b,rfl,_,hb⟩:=wn g2;exact⟨b,rfl,.inl hb⟩
end Rw
namespace L2
open PySem
theorem tN{Q:VK}{H:Hp}{lo:Int}{n:Nat}(h:∀D,H D=none->∃Pv:Nat->Hp->Prop,Pv 0 (upd H D (.lst []))/\(∀i H2,i<n->Pv i H2->HJ g k tc te σ (.int (lo+i)) H2 D n i Pv)/\∀H2,Pv n H2->Q (.ref D) H2):qK (vI lo n) k g tc te σ Q H:=by
 intro D nD;obtain⟨Pv,h0,hs,hd⟩:=h D nD;refine⟨fun i m H=>m=n-i/\i<=n/\Pv i H,⟨n,by simp,OR _,h0⟩,?_⟩;rintro i m H ⟨rfl,hi,p⟩;by_cases Ad:i<n
 ·refine .inr ⟨Ad,fun v H' y us hu=>?_⟩;obtain⟨rfl,rfl⟩:=y;exact hs i _ Ad p us hu
 ·have e:i=n:=by lia
  subst e;exact .inl ⟨N4 _,hd H p⟩
end L2
namespace Mk
open Rk Sz Sf Cl
noncomputable def Hv(α β:Int)(a b:List Int):List Int:=(Oa (max a.length b.length)).map fun j=>α * pt a j + β * pt b j
theorem pf{a:List Int}{j:Nat}(h:a.length<=j):pt a j=0:=by
 unfold pt;rw[NS,OG h];rfl
theorem En(α β:Int)(a b:List Int)(j:Nat):pt (Hv α β a b) j=α * pt a j + β * pt b j:=by
 by_cases h:j<max a.length b.length
 ·unfold Hv;show((Oa (max a.length b.length)).map _).getD j 0=_;rw[NS,NW,OW h];rfl
 ·rw[pf (by unfold Hv;rw[NQ,On];lia),pf (a:=a) (by lia),pf (a:=b) (by lia)];simp
theorem Hs{β:Int}{a:List Int}:aN (Hv α β a b) R q=α * aN a R q + β * aN b R q:=ic (En α β a b)
noncomputable def qP(R:List (List Int))(y:List Int)(q:Nat):Nat->Int
 |0=>0
 |t+1=>qP R y q t+pt y t*pt (R.getD t []) q
theorem ur(r:List Int)(R:List (List Int))(y:List Int)(q:Nat):∀t,qP (r :: R) y q (t+1)=pt y 0*pt r q+qP R y.tail q t
 |0=>by show(0:Int)+pt y 0*pt r q=_;simp[qP]
 |t+1=>by
  have ih:=ur r R y q t;show qP (r :: R) y q (t+1)+pt y (t+1)*pt ((r :: R).getD (t+1) []) q=pt y 0*pt r q+(qP R y.tail q t+pt y.tail t*pt (R.getD t []) q)
  rw[ih,hJ];show _+pt y (t+1)*pt (R.getD t []) q=_;lia
theorem mO{q:Nat}:∀(R:List (List Int)) (y:List Int),qP R y q R.length=aN y R q
 |[],y=>by rw[jX];rfl
 |r :: R,y=>by rw[Oz,ur,fL,mO R y.tail]
theorem uq{R:List (List Int)}{y:List Int}{q i:Nat}(h:∀j,i<=j->pt y j=0):∀t,i<=t->qP R y q t=qP R y q i
 |0,l=>by rw[show i=0 by lia]
 |t+1,l=>by
  by_cases e:i=t+1
  ·rw[e]
  ·show qP R y q t+pt y t*pt (R.getD t []) q=_;rw[h t (by lia),uq h t (by lia)];simp
theorem xR{R:List (List Int)}{y:List Int}{q:Nat}:∀t,(∀j,j<t->j∉grd R (j+1)->pt y j=0)->qP R y q t=aN ((grd R t).map fun j=>pt y j) (rowsOf R (grd R t)) q
 |0,_=>rfl
 |t+1,h=>by
  have ih:=xR (q:=q) t fun j hj=>h j (by lia)
  show qP R y q t+pt y t*pt (R.getD t []) q=_;by_cases f:bh (rowsOf R (grd R t)++[R.getD t []])
  ·rw[cD rfl f];unfold rowsOf;rw[N1,N1,bY _ _ _ (by rw[NQ,NQ]),ih];unfold rowsOf;show _=_+(pt y t*pt (R.getD t []) q+0)
   lia
  ·have z:=h t (by lia) (by
    rw[dC rfl f]
    exact fun m=>absurd (gQ R t t m) (Rf _))
   rw[dC rfl f,z,ih];simp
end Mk
namespace Lo
open Ti
theorem Rch.trans(h:Rch es a b)(k:Rch es b c):Rch es a c:=by
 induction k with
 |refl=>exact h
 |step _ m ih=>exact .step ih m
noncomputable def dX(es:List (Nat×Nat)):List (Nat×Nat):=es++es.map fun e=>(e.2,e.1)
theorem DS{a b:Nat}(h:(a,b)∈dX es):(b,a)∈dX es:=by
 unfold dX at h ⊢;rcases N_.mp h with h|h
 ·exact Ob _ (N9.mpr ⟨_,h,rfl⟩)
 ·obtain⟨e,m,z⟩:=N9.mp h;refine Oe _ ?_;obtain⟨x,y⟩:=e;simp only[Wm] at z;rw[<- z.1,<- z.2];exact m
theorem n_(h:Rch (dX es) a b):Rch (dX es) b a:=by
 induction h with
 |refl=>exact .refl
 |step _ m ih=>exact Rch.trans (.step .refl (DS m)) ih
theorem Hx{a:Nat}(ok:HS n es)(ha:a<n)(h:Rch (dX es) a b):b<n:=by
 induction h with
 |refl=>exact ha
 |step _ m _ =>
  rcases N_.mp m with m|m
  ·exact(ok _ m).2
  ·obtain⟨e,m,z⟩:=N9.mp m;simp only[Wm] at z;rw[<- z.2];exact(ok _ m).1
noncomputable def at_(f:List Nat)(i:Nat):Nat:=f.getD i 0
noncomputable def sZ(f:List Nat)(e:Nat×Nat):Nat:=if at_ f e.2<at_ f e.1 then at_ f e.2 else at_ f e.1
noncomputable def qQ(f:List Nat)(e:Nat×Nat):Nat:=if at_ f e.2 > at_ f e.1 then at_ f e.2 else at_ f e.1
noncomputable def dB(f:List Nat)(e:Nat×Nat):List Nat:=f.map fun x=>if x=qQ f e then sZ f e else x
theorem dg{f:List Nat}{i:Nat}(h:i<f.length):at_ (dB f e) i=if at_ f i=qQ f e then sZ f e else at_ f i:=by
 unfold dB at_;rw[NS,NW,NS,NR h];rfl
theorem GY(f:List Nat)(e:Nat×Nat):(sZ f e=at_ f e.1/\qQ f e=at_ f e.2/\at_ f e.1<=at_ f e.2)\/(sZ f e=at_ f e.2/\qQ f e=at_ f e.1/\at_ f e.2<=at_ f e.1):=by
 unfold sZ qQ;by_cases h:at_ f e.2<at_ f e.1
 ·right;rw[if_pos h,if_neg (by lia)];lia
 ·left;rw[if_neg h];by_cases g:at_ f e.2 > at_ f e.1
  ·rw[if_pos g];lia
  ·rw[if_neg g];lia
structure FI (n:Nat) (es seen:List (Nat×Nat)) (f:List Nat):Prop where
 len:f.length=n
 le:∀i<n,at_ f i<=i
 fix:∀i<n,at_ f (at_ f i)=at_ f i
 tie:∀i<n,Rch (dX es) i (at_ f i)
 one:∀e∈seen,at_ f e.1=at_ f e.2
theorem FI.start(n:Nat)(es:List (Nat×Nat)):FI n es [] (Oa n):=by
 have e:∀i<n,at_ (Oa n) i=i:=fun i h=>by
  unfold at_;rw[NS,OW h];rfl
 exact⟨On,fun i h=>by rw[e i h];exact N4 _,fun i h=>by rw[e i h,e i h],fun i h=>by rw[e i h];exact .refl,fun e h=>by cases h⟩
theorem FI.more{seen:List (Nat×Nat)}{e:Nat×Nat}(F:FI n es seen f)(ok:HS n es)(sub:∀e∈seen,e∈es)(m:e∈es):FI n es (seen++[e]) (dB f e):=by
 obtain⟨l1,l2⟩:=ok e m;have hl:=F.len;have a1:=F.le e.1 l1;have a2:=F.le e.2 l2;have f1:=F.fix e.1 l1;have f2:=F.fix e.2 l2;have eg:(e.1,e.2)∈dX es:=Oe _ m;have t12:Rch (dX es) (at_ f e.1) (at_ f e.2):=Rch.trans (n_ (F.tie e.1 l1)) (Rch.trans (.step .refl eg) (F.tie e.2 l2))
 have gl:Rch (dX es) (qQ f e) (sZ f e):=by
  rcases GY f e with⟨x,y,_⟩|⟨x,y,_⟩
  ·rw[x,y];exact n_ t12
  ·rw[x,y];exact t12
 have hls:sZ f e<n/\at_ f (sZ f e)=sZ f e/\sZ f e<=qQ f e:=by
  rcases GY f e with⟨x,y,z⟩|⟨x,y,z⟩
  ·rw[x,y];exact⟨by lia,f1,z⟩
  ·rw[x,y];exact⟨by lia,f2,z⟩
 refine⟨by unfold dB;rw[NQ];exact hl,fun i h=>?_,fun i h=>?_,fun i h=>?_,fun d hd=>?_⟩
 ·have:=F.le i h
  rw[dg (by lia)];split
  ·rename_i z
   have:=hls.2.2
   lia
  ·exact this
 ·have li:=F.le i h;rw[dg (e:=e) (i:=i) (by lia)];by_cases z:at_ f i=qQ f e
  ·rw[if_pos z,dg (by lia),hls.2.1];split <;> rfl
  ·rw[if_neg z,dg (by lia),F.fix i h,if_neg z]
 ·rw[dg (by lia)];by_cases z:at_ f i=qQ f e
  ·rw[if_pos z]
   have:=F.tie i h
   rw[z] at this;exact Rch.trans this gl
  ·rw[if_neg z];exact F.tie i h
 ·rcases N_.mp hd with hd|hd
  ·obtain⟨d1,d2⟩:=ok d (sub d hd);rw[dg (by lia),dg (by lia),F.one d hd]
  ·cases N7.mp hd;rw[dg (by lia),dg (by lia)];rcases GY f e with⟨x,y,z⟩|⟨x,y,z⟩
   ·rw[x,y,if_pos rfl];split <;> rfl
   ·rw[x,y,if_pos rfl];split <;> rfl
noncomputable def ba(n:Nat)(es:List (Nat×Nat)):List Nat:=es.foldl dB (Oa n)
theorem ve(ok:HS n es)(i:Nat):FI n es (es.take i) ((es.take i).foldl dB (Oa n)):=by
 induction i with
 |zero=>exact FI.start n es
 |succ i ih =>
  by_cases h:i<es.length
  ·rw[Oj,NR h,Uy,PQ];exact ih.more ok (fun e he=>Qi he) (OZ h)
  ·rw[Oh (by lia)] at ih ⊢;exact ih
theorem bU(ok:HS n es):FI n es es (ba n es):=by
 have:=ve ok es.length
 rwa [O3] at this
theorem FI.same(F:FI n es es f)(h:Rch (dX es) i j):at_ f i=at_ f j:=by
 induction h with
 |refl=>rfl
 |step _ m ih =>
  rw[ih];rcases N_.mp m with m|m
  ·exact F.one _ m
  ·obtain⟨e,m,z⟩:=N9.mp m;simp only[Wm] at z;rw[<- z.1,<- z.2];exact(F.one e m).symm
theorem FI.tied(F:FI n es es f){i j:Nat}(hi:i<n)(hj:j<n):at_ f i=at_ f j↔Rch (dX es) i j:=by
 refine⟨fun h=>?_,F.same⟩;have a:=F.tie i hi;have b:=F.tie j hj;rw[h] at a;exact Rch.trans a (n_ b)
noncomputable def aJ(f:List Nat)(v:Nat):List Nat:=(Oa f.length).filter fun i=>at_ f i=v
noncomputable def fZ(f:List Nat):List (List Nat):=((Oa f.length).filter fun v=>at_ f v=v).map (aJ f)
theorem FI.mem{seen:List (Nat×Nat)}(F:FI n es seen f){v:Nat}:v∈f↔v<n/\at_ f v=v:=by
 constructor
 ·intro h;obtain⟨i,li,e⟩:=Pa.mp h
  have ea:at_ f i=v:=by
   unfold at_;rw[NS,NR li];exact e
  rw[F.len] at li
  have:=F.le i li
  have fx:=F.fix i li;rw[ea] at this fx;exact⟨by lia,fx⟩
 ·rintro⟨h,e⟩;unfold at_ at e;rw[NS,NR (by rw[F.len];exact h)] at e;exact List.mem_of_getElem (by exact e)
theorem LX{seen:List (Nat×Nat)}(F:FI n es seen f)(h8:n<=8):L2.cY f=(Oa f.length).filter fun v=>at_ f v=v:=by
 unfold L2.cY
 have e8:Oa 8=Oa f.length++(Oa (8-f.length)).map (f.length + ·):=by
  rw[<- List.range_add];congr 1;have:=F.len;lia
 rw[e8,PV]
 have z:((Oa (8-f.length)).map (f.length + ·)).filter (fun k=>f.contains k)=[]:=by
  rw[Vp];intro a ha;obtain⟨k,_,rfl⟩:=N9.mp ha;rw[Tl,F.mem]
  have:=F.len
  lia
 rw[z,Qb];refine WZ fun v hv=>?_
 rw[Ow,F.len] at hv;rw[QH,Tl,F.mem];simp[hv]
end Lo
namespace L2
open PySem
theorem K8:bootBuiltins "min"=some (.builtin "min"):=by decide +kernel
theorem tq{te:TE}{H:Hp}{Q:VK}(h:te σ H fun x H1=>∃n:Nat,x=.int (n:Int)/\n<=1000/\∀l,H1 l=none->Q (.ref l) (upd H1 l (.lst ((Oa n).map fun k:Nat=>.int (k:Int))))):gZ te σ H Q:=h
theorem zx{K:Fg}{te:TE}{H:Hp}(h:te σ H fun x H1=>uz K x H1 Q):ml K te σ H Q:=h
end L2
namespace Lo
open PySem L2 Fr G1 Sm Vs G2 Ti Sz Rw
open PySem.W (Dat kqdOk)
noncomputable def zN(l:List Nat):List Int:=l.map fun k:Nat=>(k:Int)
theorem t5(l:List Nat):(zN l).length=l.length:=NQ _
theorem zV(l:List Nat):(zN l).map V.int=l.map fun k:Nat=>V.int (k:Int):=by unfold zN;rw[Ph];rfl
theorem D7(l m:List Nat):zN (l++m)=zN l++zN m:=N1
theorem lC{f:List Nat}{i:Nat}(h:i<f.length):((zN f).map V.int)[i]?=some (.int (at_ f i:Int)):=by
 rw[zV,NW];unfold at_;rw[NS,NR h];rfl
noncomputable def mG(K:Fg):Sp:=fun vs H Q _=>∃(a:Addr) (f:List Nat) (v:Nat),vs=[.ref a,.int (v:Int)]/\H a=some (.lst ((zN f).map V.int))/\f.length<=100/\∀(p:Addr) (H':Hp),AccZ K H p H' ((zN (aJ f v)).map O4)->Q (.ref p) H'
noncomputable def lY(K:Fg):TS:=(aA (gE (jR K (ac (aa 0) ae)) 2 (cF K 2 (a7 (ak 0) (a7 (ak 1) cG))) (aH (aq fF (aa 1) (aa 3))) (aa 0)))
theorem x9{K:Fg}{vs:List V}{N:List Str}(hN:N.length=2)(h:mG K vs H Q E):lY K (ends Q) (L2.start N vs) H:=by
 obtain⟨a,f,v,rfl,ha,hl,k⟩:=h;rw[L2.aU hN];walk_at "t";unfold lY;walk_at "";refine⟨a,_,rfl,SqL.of ha,?_⟩;have lf:((zN f).map V.int).length=f.length:=by rw[NQ,t5]
 refine k8 (xs:=(zN f).map V.int) fun D nD=>⟨fun j H2=>AccZ K H D H2 ((zN ((Oa j).filter fun i=>at_ f i=v)).map O4),by simpa[zN] using AccZ.start (Same.refl _) nD,fun j H2 _ A=>SqL.of (A.same _ _ ha),?_,?_⟩
 ·intro j x H2 T hx A nT us hu
  obtain⟨u0,u1,rfl⟩:∃u w,us=[u,w]:=ex2 hu
  have lj:j<f.length:=by rw[<- lf];exact(NT.mp hx).1
  rw[lC lj] at hx;cases hx;have er:((Oa (j+1)).filter fun i=>decide (at_ f i=v))=((Oa j).filter fun i=>decide (at_ f i=v))++[j].filter fun i=>decide (at_ f i=v):=by rw[Ps,PV]
  have lr:((Oa j).filter fun i=>decide (at_ f i=v)).length<=100:=Oi (O6 _ _) (by rw[On];lia);have S2:=aj nT (.tup [.int (j:Int),.int (at_ f j:Int)]);have hT:upd H2 T (.tup [.int (j:Int),.int (at_ f j:Int)]) T=some (.tup [.int (j:Int),.int (at_ f j:Int)]):=ag;have A2:=A.on S2;generalize upd H2 T (.tup [.int (j:Int),.int (at_ f j:Int)])=H3 at hT A2 ⊢;walk_at "";refine bP (SqT.of hT) rfl ?_;walk_at "";refine⟨⟨[some (.int (j:Int)),some (.int (at_ f j:Int))],rfl,rfl⟩,?_⟩;walk_at "";refine a6 (fun c=>?_) (fun c=>?_)
  ·have c':at_ f j=v:=by
    have:(at_ f j:Int)=(v:Int):=by simpa using c
    lia
   walk_at "";refine aR (by rw[lf];exact lj) ?_;refine A2.ci (.int (j:Int)) (ar (by rw[NQ,t5];lia)) fun H4 A4=>?_
   show AccZ K H D H4 ((zN ((Oa (j+1)).filter fun i=>decide (at_ f i=v))).map O4);rw[er,Pl (by simpa using c'),D7,N1];exact A4
  ·have c' : ¬ at_ f j=v:=fun z=>c (by simp[z])
   refine fE (by rw[lf];exact lj) ?_;show AccZ K H D H3 ((zN ((Oa (j+1)).filter fun i=>decide (at_ f i=v))).map O4);rw[er,Pc (by simpa using c')];simpa using A2
 ·intro H2 A;rw[lf] at A;exact k D H2 A
noncomputable def cU(ts:List Tn):List (List Int):=(fZ (ba (aC ts).length (al ts))).map zN
noncomputable def uk(K:Fg):Sp:=fun vs H Q _=>∃(v:V) (ws:List Str) (ts:List Tn),vs=[v]/\Rz K H v (dV ws ts)/\ts.length<=8/\(aC ts).length<=8/\∀(p:Addr) (H':Hp),Same H H'->Rp K (fun a=>H a=none) H' (.ref p) (dM (cU ts))->Q (.ref p) H'
noncomputable def wZ(K:Fg):TS:=(am (av (gZ (aZ (bM K) (ac (ay (c7 K) [] E0 (ac (aa 0) ae)) ae))) (ak 1))
 (am (be (bQ K (ay (fY K) [] E0 (ac (aa 0) ae))) (cF K 2 (a7 (ak 2) (a7 (ak 3) cG)))
 (am (av (aZ L7 (ac (aq (bX K) (aa 1) (aa 2)) (ac (aq (bX K) (aa 1) (aa 3)) ae))) (ak 4))
 (am (av (aZ L8 (ac (aq (bX K) (aa 1) (aa 2)) (ac (aq (bX K) (aa 1) (aa 3)) ae))) (ak 5))
 (av (eI (bQ K (aa 1)) (Ii (aH (aq fF (aa 0) (aa 6))) (aa 5) (aa 0))) (ak 1)))))
 (aA (eI (bQ K (ml K (aa 1))) (ay (mG K) [] E0 (ac (aa 2) (ac (aa 0) ae)))))))
theorem F2{K:Fg}{vs:List V}{N:List Str}(hN:N.length=6)(h:uk K vs H Q E):wZ K (ends Q) (L2.start N vs) H:=by
 obtain⟨v,ws,ts,rfl,rv,ht,h8,k⟩:=h;rw[L2.aU hN];walk_at "t";unfold wZ;walk_at "";refine tq ?_;walk_at "";refine⟨v,ws,ts,rfl,rv,by lia,fun p H1 A1=>?_⟩;obtain⟨xs,hp,rx⟩:=A1.at_;have lx:xs.length=(aC ts).length:=by rw[rx.length,NQ]
 have ok:=cc ts;have le:(al ts).length=ts.length:=by unfold al;rw[NQ]
 unfold cU at k;generalize (aC ts).length=n at lx ok h8 k;walk_at "";refine bH (SqL.of hp) ?_;refine⟨n,by rw[lx],by lia,fun l nl=>?_⟩;have S2:=aj nl (.lst ((Oa n).map fun k:Nat=>.int (k:Int)));have hl:upd H1 l (.lst ((Oa n).map fun k:Nat=>.int (k:Int))) l=some (.lst ((zN (Oa n)).map V.int)):=by rw[zV];exact ag
 have S02:=A1.same.trans S2;generalize upd H1 l (.lst ((Oa n).map fun k:Nat=>.int (k:Int)))=H2 at S2 hl S02 ⊢;walk_at "";refine⟨v,ws,ts,rfl,rv.same S02,by lia,fun pe H3 A3=>?_⟩;obtain⟨ys,YY,ry⟩:=A3.at_;have S03:=S02.trans A3.same;generalize al ts=es at ok le ry k A3;have ly:ys.length=es.length:=by rw[ry.length,NQ]
 have hl3:=A3.same _ _ hl;walk_at "";refine gO (SqL.of YY) ?_;refine bj (xs:=ys) (fun j σ H4=>∃(l:Addr) (u2 u3 u4 u5:Option V),σ=[some v,some (.ref l),u2,u3,u4,u5]/\Same H3 H4/\H4 l=some (.lst ((zN ((es.take j).foldl dB (Oa n))).map V.int))) ⟨l,none,none,none,none,rfl,Same.refl _,hl3⟩ (fun j σ H4 _ ⟨_,_,_,_,_,_,S,_⟩=>SqL.of (S _ _ YY)) ?_ ?_
 ·rintro j x σ H4 hx ⟨m,u2,u3,u4,u5,rfl,S4,hm⟩;have lj:=(NT.mp hx).1;obtain⟨d,g1,g2⟩:=ry.get hx;rw[NW] at g1;obtain⟨e,he,rfl⟩:=N8.mp g1;obtain⟨b,rfl,hb⟩:=qp (g2.same S4);have FI:=ve ok j;have et:(es.take (j+1)).foldl dB (Oa n)=dB ((es.take j).foldl dB (Oa n)) e:=by rw[Oj,he,Uy,PQ];rfl
  obtain⟨o1,o2⟩:=ok e (N2 he);have lf:=FI.len;rw[et];generalize (es.take j).foldl dB (Oa n)=f at hm FI lf;refine bP (SqT.of hb) rfl ?_;walk_at "";refine cj (SqL.of hm) (aG (lC (i:=e.1) (by lia))) ?_;walk_at "";refine cj (SqL.of hm) (aG (lC (i:=e.2) (by lia))) ?_;walk_at "";refine⟨_,_,rfl,?_⟩
  have q1:(if (at_ f e.2:Int)<(at_ f e.1:Int) then (at_ f e.2:Int) else (at_ f e.1:Int))=(sZ f e:Int):=by
   unfold sZ;by_cases c:at_ f e.2<at_ f e.1
   ·rw[if_pos c,if_pos (by lia)]
   ·rw[if_neg c,if_neg (by lia)]
  have q2:(if (at_ f e.2:Int) > (at_ f e.1:Int) then (at_ f e.2:Int) else (at_ f e.1:Int))=(qQ f e:Int):=by
   unfold qQ;by_cases c:at_ f e.2 > at_ f e.1
   ·rw[if_pos c,if_pos (by lia)]
   ·rw[if_neg c,if_neg (by lia)]
  rw[q1];walk_at "";refine cj (SqL.of hm) (aG (lC (i:=e.1) (by lia))) ?_;walk_at "";refine cj (SqL.of hm) (aG (lC (i:=e.2) (by lia))) ?_;walk_at "";refine⟨_,_,rfl,?_⟩;rw[q2];walk_at "";refine kH (SqL.of hm) ?_;have lzf:((zN f).map V.int).length=f.length:=by rw[NQ,t5]
  refine cf (xs:=(zN f).map V.int) fun D nD=>⟨fun i H5=>AccZ K H4 D H5 ((zN ((dB f e).take i)).map O4),by simpa[zN] using AccZ.start (Same.refl _) nD,fun i H5 _ A=>SqL.of (A.same _ _ hm),?_,?_⟩
  ·intro i x H5 hx A;have li:i<f.length:=by rw[<- lzf];exact(NT.mp hx).1
   rw[lC li] at hx;cases hx
   have ej:(dB f e)[i]?=some (if at_ f i=qQ f e then sZ f e else at_ f i):=by
    have lj2:i<(dB f e).length:=by unfold dB;rw[NQ];exact li
    rw[<- dg (e:=e) li];unfold at_;rw[NS,NR lj2];rfl
   have fin:∀(w:Nat),w=(if at_ f i=qQ f e then sZ f e else at_ f i)->oz D ((zN f).map V.int).length i (fun i H5=>AccZ K H4 D H5 ((zN ((dB f e).take i)).map O4)) (.int (w:Int)) H5:=fun w hw=>by
    refine aR (by rw[lzf];exact li) ?_;refine A.ci (.int (w:Int)) (ar (by rw[NQ,t5,Ot];lia)) fun H6 A6=>?_
    show AccZ K H4 D H6 ((zN ((dB f e).take (i+1))).map O4);rw[Oj,ej,<- hw,Uy,D7,N1];exact A6
   walk_at "";refine a6 (fun c=>?_) (fun c=>?_)
   ·have c':at_ f i=qQ f e:=by
     have:(at_ f i:Int)=(qQ f e:Int):=by simpa using c
     lia
    walk_at "";exact fin (sZ f e) (by rw[if_pos c'])
   ·have c' : ¬ at_ f i=qQ f e:=fun z=>c (by simp[z])
    walk_at "";exact fin (at_ f i) (by rw[if_neg c'])
  ·intro H5 A;have lJ:(dB f e).length=f.length:=by unfold dB;rw[NQ]
   rw[lzf,<- lJ,O3] at A;exact⟨D,_,_,_,_,rfl,S4.trans A.same,AccZ.ints A⟩
 ·rintro σ H4 ⟨m,u2,u3,u4,u5,rfl,S4,hm⟩;rw[ly,O3] at hm;have FI:=bU ok;have FI':=FI;unfold ba at FI k;generalize es.foldl dB (Oa n)=f at hm FI k;have lf:=FI.len;have f8:∀x∈f,x<8:=fun x hx=>by have:=(FI.mem.mp hx).1;lia
  walk_at "";refine zx ?_;walk_at "";refine⟨m,f,rfl,by rw[<- zV];exact SqL.of hm,f8,fun q nq=>?_⟩;have eu:=LX FI h8;have el:(cY f).map (aJ f)=fZ f:=by rw[eu];rfl
  have S5:=aj nq (.lst ((cY f).map fun k:Nat=>.int (k:Int)));have hq:upd H4 q (.lst ((cY f).map fun k:Nat=>.int (k:Int))) q=some (.lst ((cY f).map fun k:Nat=>.int (k:Int))):=ag;generalize upd H4 q (.lst ((cY f).map fun k:Nat=>.int (k:Int)))=H5 at S5 hq ⊢;have lu:((cY f).map fun k:Nat=>V.int (k:Int)).length=(cY f).length:=NQ _;have lu8:(cY f).length<=8:=by unfold cY;exact O6 _ _
  refine kH (SqL.of hq) ?_;refine cf (xs:=(cY f).map fun k:Nat=>.int (k:Int)) fun D nD=>⟨fun i H6=>Acc K H5 D H6 ((((cY f).take i).map fun v=>zN (aJ f v)).map dL),by simpa using Acc.start nD,fun i H6 _ A=>SqL.of (A.same _ _ hq),?_,?_⟩
  ·intro i x H6 hx A;have li:=(NT.mp hx).1;rw[NW] at hx;obtain⟨w,hw,rfl⟩:=N8.mp hx;walk_at "";refine⟨m,f,w,rfl,A.same _ _ (S5 _ _ hm),by lia,fun r H7 C=>?_⟩;refine aR li ?_;refine A.ci C.same (d:=dL (zN (aJ f w))) C.ref (ar (by rw[NQ,NQ,Ot];lia)) fun H8 A8=>?_
   show Acc K H5 D H8 ((((cY f).take (i+1)).map fun v=>zN (aJ f v)).map dL);rw[Oj,hw,N1,N1];exact A8
  ·intro H6 A;rw[lu,O3] at A;have S06:=S03.trans (S4.trans S5);have em:((cY f).map fun v=>zN (aJ f v))=(fZ f).map zN:=by rw[<- el,Ph];rfl
   rw[em] at A;exact k D H6 (S06.trans A.same) (A.ref.mono fun _ z=>S06.free z)
end Lo
namespace Bo
noncomputable def sm:Nat->(Nat->Int)->Int
 |0,_=>0
 |n+1,f=>sm n f+f n
theorem aK{n:Nat}{f g:Nat->Int}(h:∀k,k<n->f k=g k):sm n f=sm n g:=by
 induction n with
 |zero=>rfl
 |succ n ih=>rw[sm,sm,ih fun k hk=>h k (by lia),h n (by lia)]
theorem iq(n:Nat)(f g:Nat->Int):sm n (fun k=>f k+g k)=sm n f+sm n g:=by
 induction n with
 |zero=>rfl
 |succ n ih=>rw[sm,sm,sm,ih];lia
theorem i_(n:Nat)(c:Int)(f:Nat->Int):sm n (fun k=>c*f k)=c*sm n f:=by
 induction n with
 |zero=>rw[sm,sm,Pz]
 |succ n ih=>rw[sm,sm,ih,Px]
theorem Ee{n j:Nat}{f:Nat->Int}(hj:j<n)(h:∀k,k<n->k≠j->f k=0):sm n f=f j:=by
 induction n with
 |zero=>lia
 |succ n ih =>
  rw[sm];by_cases e:j=n
  ·subst e;rw[show sm j f=0 from ?_,PY]
   have:sm j f=sm j fun _=>0:=aK fun k hk=>h k (by lia) (by lia)
   rw[this];clear this ih h hj
   induction j with
   |zero=>rfl
   |succ j ih=>rw[sm,ih];rfl
  ·rw[ih (by lia) fun k hk ne=>h k (by lia) ne,h n (by lia) (by lia),PP]
theorem dH{n:Nat}{f:Nat->Int}(h:∀k,k<n->f k=0):sm n f=0:=by
 induction n with
 |zero=>rfl
 |succ n ih=>rw[sm,ih fun k hk=>h k (by lia),h n (by lia)];rfl
end Bo
namespace L2
open PySem
theorem wv{K:Fg}{Q:VK}{H:Hp}{xs:List V}(h:∀D,H D=none->∃Pv:Nat->Hp->Prop,Pv 0 (upd H D (.lst []))/\(∀i H2,i<=xs.length->Pv i H2->SqL K H2 a xs) /\
  (∀i x H2 T,xs[i]?=some x->Pv i H2->H2 T=none->HI g n te σ (.ref T) (upd H2 T (.tup [.int i,x])) D xs.length i Pv)/\∀H2,Pv xs.length H2->Q (.ref D) H2):wA (HR K a) n g te σ Q H:=by
 intro D nD;obtain⟨Pv,h0,hl,hs,hd⟩:=h D nD;refine⟨fun i m H=>m=xs.length-i/\i<=xs.length/\Pv i H,⟨_,rfl,OR _,h0⟩,?_⟩;rintro i m H ⟨rfl,hi,p⟩;have q:=hl i H hi p;by_cases Ad:i<xs.length
 ·refine .inr ⟨⟨xs,q,Ad⟩,fun v H' y us hu=>?_⟩;obtain⟨T,x,nT,rfl,rfl,z⟩:=y;exact hs i x H T (z xs q) p nT us hu
 ·have e:i=xs.length:=by lia
  subst e;exact .inl ⟨⟨xs,q,N4 _⟩,hd H p⟩
theorem Af{K:Fg}{H:Hp}{D:cx}{k1 k2:Kn}{xs ys:List V}{g:TG}{tb:TS}{n:Nat}(e1:xs.length=n)(e2:ys.length=n)(Pv:Nat->St->Hp->Prop)(h0:Pv 0 σ H)(hl:∀i σ H,i<=n->Pv i σ H->k1.sq K H a xs/\k2.sq K H b ys)
  (hs:∀i x y σ H T,xs[i]?=some x->ys[i]?=some y->Pv i σ H->H T=none->g (.ref T) σ (upd H T (.tup [x,y])) fun σ2 H2=>tb {D with nx:=Pv (i+1),ct:=Pv (i+1),bk:=D.nx} σ2 H2) (hd:∀σ H,Pv n σ H->D.nx σ H):wE (Lz K k1 k2 a b) g tb D σ H:=by
 refine⟨fun i m σ H=>m=n-i/\i<=n/\Pv i σ H,⟨_,rfl,OR _,h0⟩,?_⟩;rintro i m σ H ⟨rfl,hi,p⟩;obtain⟨q1,q2⟩:=hl i σ H hi p;by_cases Ad:i<n
 ·refine .inr ⟨⟨xs,ys,q1,q2,by lia,by lia⟩,Pv (i+1),fun σ' H' p'=>⟨n-(i+1),by lia,rfl,Ad,p'⟩,fun v H' y=>?_⟩;obtain⟨T,x,y,nT,rfl,rfl,z1,z2⟩:=y;exact hs i x y σ H T (z1 xs q1) (z2 ys q2) p nT
 ·have e:i=n:=by lia
  subst e;exact .inl ⟨⟨xs,ys,q1,q2,by lia⟩,hd σ H p⟩
end L2
namespace Br
end Br
namespace Bo
theorem xN(m:Nat)(W:Nat)(c z:Nat->Int)(L:Nat->Nat->Int):sm W (fun k=>sm m (fun j=>c j*L j k)*z k)=sm m fun j=>c j*sm W fun k=>L j k*z k:=by
 induction m with
 |zero=>exact dH fun k _=>Qz _
 |succ m ih =>
  show sm W (fun k=>(sm m (fun j=>c j*L j k)+c m*L m k)*z k)=sm m (fun j=>c j*sm W fun k=>L j k*z k)+c m*sm W fun k=>L m k*z k
  rw[<- ih,<- i_,<- iq];refine aK fun k _=>?_
  rw[Q9,OE]
end Bo
namespace Br
open Rk Sf Rw Bo
open PySem L2 Fr G1 Sm Vs G2 Rk Sz Sf Rw
open PySem.W (Dat kqdOk)
noncomputable def tK(r:Bool×List Int):Dat:=.tuple [.bool r.1,dL r.2]
theorem sw(f:Nat->Int):∀n,((Oa n).map f).sum=sm n f
 |0=>rfl
 |n+1=>by rw[Ps,N1,List.sum_append,sw f n];show sm n f+(f n+0)=_;rw[PP];rfl
end Br
namespace L2
open PySem PySem.Spec PyProof.Rows
open PySem.W (Dat kqdP kqdPs kqdOk)
noncomputable def IU(K:Fg):R2:=fun x y H Q=>∃d,Rep K H x d/\Rep K H y d/\W5 (kqdP d)=true/\Ru (kqdP d) (kqdP d)=true/\Q (.bl true) H
theorem JF{X:Cx}(hu:X.A.units+64<cLine):f_ X (compareOp .Eq) (IU X.K):=by
 intro ν s σ H x y v u Q I rx ry h;obtain⟨d,hd,he,sh,ev,q⟩:=h;obtain⟨as,ra⟩:=Rep.reads I hd rx;obtain⟨bs,rb⟩:=Rep.reads I he ry;exact eq_dataH ra rb sh sh hu ⟨_,H,I,(by rw[ev];rfl),q⟩
end L2
namespace Br
open PySem L2 Fr G1 Sm Vs G2 Rk Sz Sf Rw Cl
open PySem.W (Dat kqdOk)
open PyProof.Rows
theorem yR(r:Bool×List Int):W5 (Sd (tK r))=true/\Ru (Sd (tK r)) (Sd (tK r))=true:=by
 obtain⟨l1,l2⟩:=QI 7 (dL r.2) (GR r.2 6);have q:=(PySem.W.kqd_eqv 7 (dL r.2) (dL r.2) 7 (GR r.2 6) (GR r.2 6)).mpr rfl;have e:Sd (tK r)=.tuple [.bool r.1,Sd (dL r.2)]:=by unfold tK;simp only[Sd,PySem.W.kqdPs]
 rw[e];generalize Sd (dL r.2)=d at l1 l2 q;refine⟨?_,?_⟩
 ·unfold W5;simp only[PyData.canLay0,UM,PyData.depth,SG,l1,X_,Bool.true_and,decide_eq_true_eq];exact decide_eq_true (by lia)
 ·simp only[Ru,PyData.eqvAll,q,X_,beq_self_eq_true]
open Rk Sf Rw Bo Cl
end Br
namespace Fr
theorem hZ{b:Int}(hb:b≠0)(L:Gd.Low t b q d):q=(OM t b).num/\d=((OM t b).den:Int):=by
 obtain⟨pos,low,worth⟩:=L;have e:OM t b=OM q d:=(SB hb (by lia)).mpr worth.symm
 have cp:Rb q.natAbs d.natAbs:=by
  unfold Gd.gd at low;unfold Rb
  have:WT q d=Ox q.natAbs d.natAbs:=rfl
  lia
 have m:Rat.mk' q d.natAbs (by lia) cp=OM q d:=by
  rw[Rat.mk_eq_divInt];congr 1;lia
 rw[e,<- m];exact⟨rfl,by show d=(d.natAbs:Int);lia⟩
theorem gh(x:Rat):OM x.num (x.den:Int)=x:=RF x
theorem Ge(x y:Rat):OM (x.num*(y.den:Int)+y.num*(x.den:Int)) ((x.den:Int)*(y.den:Int))=x+y:=by
 have h1:(x.den:Int)≠0:=by have:=x.den_nz;lia
 have h2:(y.den:Int)≠0:=by have:=y.den_nz;lia
 rw[<- Rat.divInt_add_divInt _ _ h1 h2,gh,gh]
theorem Gb(x y:Rat):OM (x.num*y.num) ((x.den:Int)*(y.den:Int))=x*y:=by
 rw[<- RS,gh,gh]
theorem E1(x y:Rat):(x.den:Int)*(y.den:Int)≠0:=by
 have:=x.den_nz
 have:=y.den_nz
 exact RL (by lia) (by lia)
theorem Gc(x:Rat):0<(x.den:Int)/\Gd.gd x.num (x.den:Int)=1:=by
 have h:=x.den_nz;refine⟨by lia,?_⟩;have c:=x.reduced;unfold Rb at c;unfold Gd.gd
 have:WT x.num (x.den:Int)=Ox x.num.natAbs x.den:=rfl
 lia
end Fr
namespace Tr
noncomputable def ls{α:Type}(l:List α)(f:α->Rat):Rat:=(l.map f).sum
theorem uP{α:Type}(f:α->Rat):ls [] f=0:=rfl
theorem a9{α:Type}(a:α)(l:List α)(f:α->Rat):ls (a :: l) f=f a+ls l f:=rfl
theorem a_{α:Type}{l:List α}{f g:α->Rat}(h:∀x∈l,f x=g x):ls l f=ls l g:=by
 unfold ls;rw[Py h]
theorem EI{α:Type}(l:List α)(f g:α->Rat):ls l (fun x=>f x+g x)=ls l f+ls l g:=by
 induction l with
 |nil=>exact(Rc 0).symm
 |cons a l ih=>rw[a9,a9,a9,ih];grind
theorem uQ{α:Type}(c:Rat)(l:List α)(f:α->Rat):ls l (fun x=>c*f x)=c*ls l f:=by
 induction l with
 |nil=>exact(W6 c).symm
 |cons a l ih=>rw[a9,a9,ih,Rat.mul_add]
theorem nh{α:Type}{l:List α}{f:α->Rat}(h:∀x∈l,f x=0):ls l f=0:=by
 induction l with
 |nil=>rfl
 |cons a l ih=>rw[a9,h a NX,ih fun x hx=>h x (NZ _ hx),Rc]
theorem s_{α β:Type}(l:List α)(m:List β)(f:α->β->Rat):ls l (fun x=>ls m (f x))=ls m fun y=>ls l fun x=>f x y:=by
 induction l with
 |nil=>exact(nh fun _ _=>rfl).symm
 |cons a l ih =>
  rw[a9,ih,<- EI];rfl
theorem EG{α:Type}{l:List α}{f:α->Rat}(nd:l.Nodup){a:α}(ha:a∈l)(h:∀x∈l,x≠a->f x=0):ls l f=f a:=by
 induction l with
 |nil=>cases ha
 |cons b l ih =>
  rw[OO] at nd;rw[a9];rcases Od.mp ha with rfl|hb
  ·rw[nh fun x hx=>h x (NZ _ hx) fun e=>nd.1 (e ▸ hx),Rc]
  ·rw[h b NX fun e=>nd.1 (e ▸ hb),ih nd.2 hb fun x hx=>h x (NZ _ hx),Uf]
section
variable(fm:Nat->List Nat)
noncomputable def up(g:Nat->Nat)(h k:Nat):Nat->Nat:=fun x=>if x=h then k else g x
noncomputable def T:List Nat->((Nat->Nat)->Rat)->Rat
 |[],F=>F fun _=>0
 |h :: hs,F=>ls (fm h) fun k=>T hs fun g=>F (up g h k)
variable{fm}
theorem tX:∀{hs:List Nat} {F G:(Nat->Nat)->Rat},hs.Nodup->(∀g,(∀h∈hs,g h∈fm h)->F g=G g)->T fm hs F=T fm hs G
 |[],F,G,_,e=>e _ fun h hh=>by cases hh
 |h :: hs,F,G,nd,e=>a_ fun k hk=>tX (OO.mp nd).2 fun g hg=>e _ fun x hx=>by
  unfold up;by_cases q:x=h
  ·rw[if_pos q,q];exact hk
  ·rw[if_neg q];exact hg x ((Od.mp hx).resolve_left q)
theorem DU{F G:(Nat->Nat)->Rat}(e:∀g,F g=G g):T fm hs F=T fm hs G:=by rw[show F=G from funext e]
theorem Lp(c:Rat):∀{hs:List Nat} {F:(Nat->Nat)->Rat},T fm hs (fun g=>c*F g)=c*T fm hs F
 |[],F=>rfl
 |h :: hs,F=>by
  show ls (fm h) (fun k=>T fm hs fun g=>c*F (up g h k))=_;rw[a_ fun k _=>Lp c,uQ];rfl
theorem Lq{α:Type}(l:List α):∀{hs:List Nat} {F:α->(Nat->Nat)->Rat},T fm hs (fun g=>ls l fun i=>F i g)=ls l fun i=>T fm hs (F i)
 |[],F=>rfl
 |h :: hs,F=>by
  show ls (fm h) (fun k=>T fm hs fun g=>ls l fun i=>F i (up g h k))=_;rw[a_ fun k _=>Lq l,s_];rfl
theorem LW{h h':Nat}(n:h≠h'):up (up g h k) h' k'=up (up g h' k') h k:=by
 funext x;unfold up;by_cases a:x=h'
 ·rw[if_pos a,if_neg fun e=>n (e.symm.trans a),if_pos a]
 ·rw[if_neg a,if_neg a]
theorem Ll{h h':Nat}{hs:List Nat}{F:(Nat->Nat)->Rat}(n:h≠h'):T fm (h :: h' :: hs) F=T fm (h' :: h :: hs) F:=by
 show ls (fm h) (fun k=>ls (fm h') fun k'=>T fm hs fun g=>F (up (up g h' k') h k))=ls (fm h') fun k'=>ls (fm h) fun k=>T fm hs fun g=>F (up (up g h k) h' k')
 rw[s_];exact a_ fun k' _=>a_ fun k _=>DU fun g=>by rw[LW n]
theorem Ln{l:List Nat}(p:l.Perm l'):∀{F:(Nat->Nat)->Rat},l.Nodup->T fm l F=T fm l' F:=by
 induction p with
 |nil=>exact fun _=>rfl
 |cons x _ ih=>exact fun nd=>a_ fun k _=>ih (OO.mp nd).2
 |swap x y l=>exact fun nd=>Ll fun e=>(OO.mp nd).1 (e ▸ NX)
 |trans p1 _ ih1 ih2=>exact fun nd=>(ih1 nd).trans (ih2 (p1.nodup_iff.mp nd))
end
noncomputable def dq(f:Nat->Nat):Nat->Nat->Nat
 |0,x=>x
 |n+1,x=>f (dq f n x)
theorem dR(f:Nat->Nat)(a:Nat):∀(b x:Nat),dq f (b+a) x=dq f b (dq f a x)
 |0,x=>by rw[Rs];rfl
 |b+1,x=>by rw[Nat.add_right_comm];exact congrArg f (dR f a b x)
theorem qh{f:Nat->Nat}{L:List Nat}(hf:∀h∈L,f h∈L){x:Nat}(hx:x∈L):∀n,dq f n x∈L
 |0=>hx
 |n+1=>hf _ (qh hf hx n)
noncomputable def cQ(s:Nat->Nat)(r:Nat):Nat->Nat:=fun x=>if x=r then r else s x
noncomputable def All(s:Nat->Nat)(L:List Nat)(r:Nat):Prop:=∀h∈L,∃n,dq s n h=r
noncomputable def Tree(s:Nat->Nat)(L:List Nat)(r:Nat):Prop:=∀h∈L,dq (cQ s r) L.length h=r
theorem ue(s:Nat->Nat)(r:Nat):∀n,dq (cQ s r) n r=r
 |0=>rfl
 |n+1=>by
  show cQ s r (dq (cQ s r) n r)=r;rw[ue s r n];exact if_pos rfl
theorem mB{s:Nat->Nat}{r h:Nat}:∀n,(∀m,m<n->dq s m h≠r)->dq (cQ s r) n h=dq s n h
 |0,_=>rfl
 |n+1,d=>by
  show cQ s r (dq (cQ s r) n h)=s (dq s n h);rw[mB n fun m hm=>d m (by lia)];exact if_neg (d n (by lia))
theorem uV{P:Nat->Prop}:∀n,P n->∃m,m<=n/\P m/\∀k,k<m->¬ P k
 |n,h=>by
  induction n using Q3 with
  |_ n ih =>
   by_cases q:∃k,k<n/\P k
   ·obtain⟨k,hk,pk⟩:=q;obtain⟨m,hm,r⟩:=ih k hk pk;exact⟨m,by lia,r⟩
   ·exact⟨n,N4 _,h,fun k hk pk=>q ⟨k,hk,pk⟩⟩
theorem uc{s:Nat->Nat}{L:List Nat}(hs:∀h∈L,s h∈L)(pig:∀l:List Nat,l.Nodup->(∀x∈l,x∈L)->l.length<=L.length):Tree s L r↔All s L r:=by
 constructor
 ·intro t h hh;refine Pq fun no=>?_
  have:=t h hh
  rw[mB _ fun m _ e=>no ⟨m,e⟩] at this;exact no ⟨_,this⟩
 ·intro a h hh;obtain⟨n,hn⟩:=a h hh;obtain⟨m,_,pm,lo⟩:=uV (P:=fun n=>dq s n h=r) n hn;have e1:dq (cQ s r) m h=r:=by rw[mB m lo];exact pm
  have nd:((Oa (m+1)).map fun i=>dq s i h).Nodup:=by
   unfold List.Nodup;rw[List.pairwise_map];refine UX ?_ List.pairwise_lt_range;intro i j _ hj lt e;have hj:j<m+1:=Ow.mp hj;have go:∀d,dq s (d+i) h=dq s (d+j) h:=fun d=>by rw[dR s i d h,dR s j d h,e]
   have:=go (m-j)
   rw[show m-j+j=m by lia,pm] at this;exact lo (m-j+i) (by lia) this
  have:=pig _ nd fun x hx=>by
   obtain⟨i,_,rfl⟩:=N9.mp hx;exact qh hs hh i
  rw[NQ,On] at this;rw[show L.length=(L.length-m)+m by lia,dR (cQ s r) m,e1];exact ue s r _
theorem yQ{s:Nat->Nat}{L:List Nat}{j:Nat}(hs:∀h∈L,s h∈L)(hj:j∈L)(a:All s L j):∃i∈L,s i=j/\All s L i/\∀i'∈L,s i'=j->All s L i'->i'=i:=by
 obtain⟨n0,e0⟩:=a (s j) (hs j hj);have e1:dq s (n0+1) j=j:=by rw[dR s 1 n0 j];exact e0
 obtain⟨n,_,en,lo⟩:=uV (P:=fun n=>dq s (n+1) j=j) n0 e1
 have per:∀q,dq s (q*(n+1)) j=j:=by
  intro q
  induction q with
  |zero=>rw[Tc];rfl
  |succ q ih=>rw[RG,dR s (n+1) (q*(n+1)) j,en,ih]
 have red:∀b,dq s b j=dq s (b % (n+1)) j:=fun b=>by
  conv=>lhs;rw[<- Nat.mod_add_div b (n+1),PB,dR s _ _ j,per]
 refine⟨dq s n j,qh hs hj n,en,fun h hh=>?_,fun i' Zo e' a'=>?_⟩
 ·obtain⟨k,hk⟩:=a h hh;exact⟨n+k,by rw[dR s k n h,hk]⟩
 ·obtain⟨b,hb⟩:=a' j hj;rw[red b] at hb;have lt:=Nat.mod_lt b (Nat.succ_pos n);generalize b % (n+1)=c at hb lt
  have ec:dq s (c+1) j=j:=by
   show s (dq s c j)=j;rw[hb];exact e'
  rcases Ug c n with q|q
  ·exact absurd ec (lo c q)
  ·rw[<- hb,show c=n by lia]
theorem du{α:Type}(p:α->Bool)(f:α->Rat):∀l:List α,ls (l.filter p) f=ls l fun x=>if p x=true then f x else 0
 |[]=>rfl
 |a :: l=>by
  rw[U5,a9];split
  ·rw[a9,du p f l]
  ·rw[du p f l,Uf]
section
variable(es:List (Nat×Nat))(pc:Nat->Rat)
noncomputable def bb(k:Nat):Nat:=(es.getD k (0,0)).1
noncomputable def aV(k:Nat):Nat:=(es.getD k (0,0)).2
noncomputable def eQ(h:Nat):List Nat:=(Oa es.length).filter fun k=>bb es k == h
noncomputable def b5(L:List Nat)(r:Nat):List Nat:=L.filter fun x=>x != r
noncomputable def aW(g:Nat->Nat):List Nat->Rat
 |[]=>1
 |h :: hs=>pc (g h)*aW g hs
open Classical in
noncomputable def W (L:List Nat) (r:Nat):Rat:=T (eQ es) (b5 L r) fun g=>if Tree (fun h=>aV es (g h)) L r then aW pc g (b5 L r) else 0
variable{es}{pc}
theorem Im(g:Nat->Nat)(r k:Nat):cQ (fun h=>aV es (up g r k h)) r=cQ (fun h=>aV es (g h)) r:=by
 funext x;unfold cQ up;by_cases q:x=r
 ·rw[if_pos q,if_pos q]
 ·rw[if_neg q,if_neg q];show aV es (if x=r then k else g x)=aV es (g x);rw[if_neg q]
theorem wM(g:Nat->Nat)(L:List Nat)(r k:Nat):Tree (fun h=>aV es (up g r k h)) L r↔Tree (fun h=>aV es (g h)) L r:=by
 unfold Tree;rw[Im]
theorem Eo{g:Nat->Nat}{r k:Nat}:∀{l:List Nat},r∉l->aW pc (up g r k) l=aW pc g l
 |[],_=>rfl
 |h :: l,n=>by
  show pc (up g r k h)*aW pc (up g r k) l=pc (g h)*aW pc g l;have ne:h≠r:=fun e=>n (by rw[e];exact NX)
  rw[Eo fun q=>n (NZ _ q),show up g r k h=g h from if_neg ne]
theorem CA{l:List Nat}(p:l.Perm l'):aW pc g l=aW pc g l':=by
 induction p with
 |nil=>rfl
 |cons x _ ih=>exact congrArg (pc (g x) * ·) ih
 |swap x y l=>show pc (g y)*(pc (g x)*aW pc g l)=pc (g x)*(pc (g y)*aW pc g l);grind
 |trans _ _ ih1 ih2=>exact ih1.trans ih2
theorem mY{L:List Nat}(nd:L.Nodup){i:Nat}(hi:i∈L):L.Perm (i :: b5 L i):=by
 have:=List.perm_cons_erase hi
 rw[nd.erase_eq_filter] at this;exact this
theorem yM{i:Nat}:i∉b5 L i:=fun h=>by
 have:=(Os.mp h).2
 simp at this
open Classical in
theorem uf{L:List Nat}(nd:L.Nodup){i:Nat}(hi:i∈L)(c:Nat->Rat):ls (eQ es i) (fun k=>c k*pc k*W es pc L i)=T (eQ es) L fun g=>c (g i)*if Tree (fun h=>aV es (g h)) L i then aW pc g L else 0:=by
 rw[Ln (mY nd hi) nd];refine a_ fun k _=>?_
 rw[show W es pc L i=T (eQ es) (b5 L i) fun g=>if Tree (fun h=>aV es (g h)) L i then aW pc g (b5 L i) else 0 from rfl,<- Lp];refine DU fun g=>?_
 show(c k*pc k*if Tree (fun h=>aV es (g h)) L i then aW pc g (b5 L i) else 0)=c (up g i k i)*if Tree (fun h=>aV es (up g i k h)) L i then aW pc (up g i k) L else 0
 rw[CA (mY nd hi),show up g i k i=k from if_pos rfl,show aW pc (up g i k) (i :: b5 L i)=pc (up g i k i)*aW pc (up g i k) (b5 L i) from rfl,show up g i k i=k from if_pos rfl,Eo yM];by_cases t:Tree (fun h=>aV es (g h)) L i
 ·rw[if_pos t,if_pos ((wM g L i k).mpr t)];grind
 ·rw[if_neg t,if_neg fun z=>t ((wM g L i k).mp z)];grind
theorem KM{L:List Nat}(nd:L.Nodup){j:Nat}(hj:j∈L)(cl:∀k,k<es.length->aV es k∈L->bb es k∈L)(f:Nat->Nat->Rat):ls ((Oa es.length).filter fun k=>aV es k == j) (fun k=>f k (bb es k))=ls L fun i=>ls (eQ es i) fun k=>if aV es k=j then f k i else 0:=by
 have e:(ls L fun i=>ls (eQ es i) fun k=>if aV es k=j then f k i else 0)=ls L fun i=>ls (Oa es.length) fun k=>if (bb es k == i)=true then (if aV es k=j then f k i else 0) else 0:=a_ fun i _=>du (fun k=>bb es k == i) _ _
 rw[e,du,s_];refine a_ fun k hk=>?_
 by_cases t:aV es k=j
 ·rw[if_pos (by simp[t])];rw[EG nd (cl k (Ow.mp hk) (by rw[t];exact hj)) fun x _ ne=>if_neg (by simpa using fun e=>ne e.symm)];rw[if_pos (by simp),if_pos t]
 ·rw[if_neg (by simpa using t)];refine(nh fun i _=>?_).symm;rw[if_neg t,ite_self]
open Classical in
theorem DT{L:List Nat}(nd:L.Nodup){j:Nat}(hj:j∈L)(cl:∀k,k<es.length->(bb es k∈L↔aV es k∈L))(pig:∀l:List Nat,l.Nodup->(∀x∈l,x∈L)->l.length<=L.length) :
  ls ((Oa es.length).filter fun k=>aV es k == j) (fun k=>pc k*W es pc L (bb es k))=ls (eQ es j) fun k=>pc k*W es pc L j:=by
 rw[KM nd hj (fun k hk=>(cl k hk).mpr) fun k i=>pc k*W es pc L i]
 have r:ls (eQ es j) (fun k=>pc k*W es pc L j)=T (eQ es) L fun g=>if Tree (fun h=>aV es (g h)) L j then aW pc g L else 0:=by
  rw[a_ (g:=fun k=>(fun _=>(1:Rat)) k*pc k*W es pc L j) fun k _=>by grind,uf nd hj];exact DU fun g=>Re _
 rw[r,a_ (g:=fun i=>T (eQ es) L fun g=>(if aV es (g i)=j then 1 else 0)*if Tree (fun h=>aV es (g h)) L i then aW pc g L else 0) fun i hi=>?_,<- Lq]
 ·refine tX nd fun g hg=>?_
  have hs:∀h∈L,aV es (g h)∈L:=fun h hh=>by
   obtain⟨m1,m2⟩:=Os.mp (hg h hh);exact(cl _ (Ow.mp m1)).mp (by rw[show bb es (g h)=h by simpa using m2];exact hh)
  have ta:=fun r=>uc (s:=fun h=>aV es (g h)) (r:=r) hs pig
  by_cases t:Tree (fun h=>aV es (g h)) L j
  ·rw[if_pos t];obtain⟨i,hi,e,ai,un⟩:=yQ hs hj ((ta j).mp t);rw[EG nd hi fun x hx ne=>?_,if_pos e,if_pos ((ta i).mpr ai),Re];by_cases q:aV es (g x)=j
   ·rw[if_neg (c:=Tree (fun h=>aV es (g h)) L x) fun z=>ne (un x hx q ((ta x).mp z)),W6]
   ·rw[if_neg q,Uh]
  ·rw[if_neg t];refine nh fun i hi=>?_
   by_cases q:aV es (g i)=j
   ·rw[if_neg (c:=Tree (fun h=>aV es (g h)) L i) fun z=>t ((ta j).mpr fun h hh=>?_),W6];obtain⟨n,hn⟩:=(ta i).mp z h hh;exact⟨n+1,by show aV es (g (dq (fun h=>aV es (g h)) n h))=j;rw[hn];exact q⟩
   ·rw[if_neg q,Uh]
 ·rw[<- uf nd hi fun k=>if aV es k=j then 1 else 0];refine a_ fun k _=>?_
  split
  ·rw[Re]
  ·rw[Uh,Uh]
theorem jG{α:Type}{l:List α}{f:α->Rat}(h:∀x∈l,0<=f x):0<=ls l f:=by
 induction l with
 |nil=>exact VZ
 |cons a l ih =>
  have h1:=h a NX;have h2:=ih fun x hx=>h x (NZ _ hx)
  rw[a9]
  grind
theorem J1{α:Type}{l:List α}{f:α->Rat}(h:∀x∈l,0<=f x){a:α}(ha:a∈l)(p:0<f a):0<ls l f:=by
 induction l with
 |nil=>cases ha
 |cons b l ih =>
  rw[a9];have h1:=h b NX;have h2:=jG fun x hx=>h x (NZ b hx)
  rcases Od.mp ha with rfl|hb
  ·grind
  ·have:=ih (fun x hx=>h x (NZ _ hx)) hb
   grind
theorem vE{fm:Nat->List Nat}:∀{hs:List Nat} {F:(Nat->Nat)->Rat},hs.Nodup->(∀g,(∀h∈hs,g h∈fm h)->0<=F g)->0<=T fm hs F
 |[],F,_,e=>e _ fun h hh=>by cases hh
 |h :: hs,F,nd,e=>jG fun k hk=>vE (OO.mp nd).2 fun g hg=>e _ fun x hx=>by
  unfold up;by_cases q:x=h
  ·rw[if_pos q,q];exact hk
  ·rw[if_neg q];exact hg x ((Od.mp hx).resolve_left q)
theorem Lm{fm:Nat->List Nat}:∀{hs:List Nat} {F:(Nat->Nat)->Rat} {g0:Nat->Nat},hs.Nodup->(∀g,(∀h∈hs,g h∈fm h)->0<=F g)->(∀h∈hs,g0 h∈fm h)->(∀h,h∉hs->g0 h=0)->0<F g0->0<T fm hs F
 |[],F,g0,_,_,_,z,p=>by
  show 0<F fun _=>0
  rw[show(fun _=>0)=g0 from funext fun x=>(z x fun h=>by cases h).symm];exact p
 |h :: hs,F,g0,nd,e,v,z,p=>by
  obtain⟨n1,n2⟩:=OO.mp nd
  have ok:∀k∈fm h,∀g,(∀x∈hs,g x∈fm x)->0<=F (up g h k):=fun k hk g hg=>e _ fun x hx=>by
   unfold up;by_cases q:x=h
   ·rw[if_pos q,q];exact hk
   ·rw[if_neg q];exact hg x ((Od.mp hx).resolve_left q)
  refine J1 (fun k hk=>vE n2 (ok k hk)) (v h NX) ?_;refine Lm (g0:=fun x=>if x=h then 0 else g0 x) n2 (ok _ (v h NX)) (fun x hx=>?_) (fun x hx=>?_) ?_
  ·show(if x=h then 0 else g0 x)∈fm x;have ne:x≠h:=fun q=>n1 (by rw[<- q];exact hx)
   rw[if_neg ne];exact v x (NZ _ hx)
  ·show(if x=h then 0 else g0 x)=0;by_cases q:x=h
   ·rw[if_pos q]
   ·rw[if_neg q];exact z x fun m=>hx ((Od.mp m).resolve_left q)
  ·rw[show up (fun x=>if x=h then 0 else g0 x) h (g0 h)=g0 from funext fun x=>?_]
   ·exact p
   ·unfold up;by_cases q:x=h
    ·rw[if_pos q,q]
    ·rw[if_neg q];exact if_neg q
theorem eW{g:Nat->Nat}:∀{l:List Nat},(∀h∈l,0<pc (g h))->0<aW pc g l
 |[],_=>by show(0:Rat)<1;decide
 |h :: l,a=>V0 (a h NX) (eW fun x hx=>a x (NZ _ hx))
noncomputable def Pn(es:List (Nat×Nat)):Nat->Nat->Nat->Prop
 |0,a,b=>a=b
 |n+1,a,b=>∃k,k<es.length/\bb es k=a/\Pn es n (aV es k) b
theorem Pn.snoc{es:List (Nat×Nat)}{k:Nat}(hk:k<es.length):∀{n a:Nat},Pn es n a (bb es k)->Pn es (n+1) a (aV es k)
 |0,_,h=>⟨k,hk,h.symm,rfl⟩
 |_+1,_,⟨m,hm,e,h⟩=>⟨m,hm,e,Pn.snoc hk h⟩
open Classical in
theorem Nm{L:List Nat}(nd:L.Nodup){r:Nat}(hr:r∈L)(cl:∀k,k<es.length->(bb es k∈L↔aV es k∈L))(pig:∀l:List Nat,l.Nodup->(∀x∈l,x∈L)->l.length<=L.length)(pp:∀k,k<es.length->0<pc k)(bk:∀h∈L,∃n,Pn es n h r):0<W es pc L r:=by
 have ZF:(b5 L r).Nodup:=nd.filter _;have mo:∀{h},h∈b5 L r↔h∈L/\h≠r:=fun {h}=>by unfold b5;rw[Os];simp
 have pos:∀g:Nat->Nat,(∀h∈b5 L r,g h∈eQ es h)->0<aW pc g (b5 L r):=fun g hg=>eW fun h hh=>pp _ (Ow.mp (Os.mp (hg h hh)).1)
 have near:∀h,h∈b5 L r->∃k,k∈eQ es h/\∀n,(Pn es n h r/\∀m,m<n->¬ Pn es m h r)->∃m,m<n/\Pn es m (aV es k) r:=by
  intro h hh;obtain⟨hL,ne⟩:=mo.mp hh;obtain⟨n0,p0⟩:=bk h hL;obtain⟨n,_,pn,lo⟩:=uV (P:=fun n=>Pn es n h r) n0 p0;cases n with
  |zero=>exact absurd pn ne
  |succ n =>
   obtain⟨k,hk,e,p⟩:=pn;refine⟨k,Os.mpr ⟨Ow.mpr hk,by simpa using e⟩,fun n' ⟨q1,q2⟩=>⟨n,?_,p⟩⟩;rcases Ug n n' with z|z
   ·exact z
   ·exact absurd q1 (lo n' (by lia))
 let g0:Nat->Nat:=fun h=>if q:h∈b5 L r then (near h q).choose else 0
 have v:∀h∈b5 L r,g0 h∈eQ es h:=fun h hh=>by
  show(if q:h∈b5 L r then (near h q).choose else 0)∈_;rw[dif_pos hh];exact(near h hh).choose_spec.1
 have step:∀h∈b5 L r,∀n,(Pn es n h r/\∀m,m<n->¬ Pn es m h r)->∃m,m<n/\Pn es m (aV es (g0 h)) r:=fun h hh=>by
  show ∀n,_->∃m,m<n/\Pn es m (aV es (if q:h∈b5 L r then (near h q).choose else 0)) r;rw[dif_pos hh];exact(near h hh).choose_spec.2
 have inL:∀h∈b5 L r,aV es (g0 h)∈L:=fun h hh=>by
  obtain⟨m1,m2⟩:=Os.mp (v h hh);exact(cl _ (Ow.mp m1)).mp (by rw[show bb es (g0 h)=h by simpa using m2];exact(mo.mp hh).1)
 refine Lm (g0:=g0) ZF (fun g hg=>?_) v (fun h hh=>?_) ?_
 ·split
  ·exact Ui (pos g hg)
  ·exact VZ
 ·show(if q:h∈b5 L r then (near h q).choose else 0)=0;rw[dif_neg hh]
 ·have all:∀n h,h∈L->Pn es n h r->∃m,dq (cQ (fun h=>aV es (g0 h)) r) m h=r:=by
   intro n
   induction n using Q3 with
   |_ n ih =>
    intro h hL p;by_cases e:h=r
    ·exact⟨0,e⟩
    ·obtain⟨m,hm,pm,lo⟩:=uV (P:=fun n=>Pn es n h r) n p;have hh:=mo.mpr ⟨hL,e⟩;obtain⟨q,hq,pq⟩:=step h hh m ⟨pm,lo⟩;obtain⟨t,ht⟩:=ih q (by lia) _ (inL h hh) pq;refine⟨t+1,?_⟩;rw[dR (cQ (fun h=>aV es (g0 h)) r) 1 t h,show dq (cQ (fun h=>aV es (g0 h)) r) 1 h=aV es (g0 h) from if_neg e];exact ht
  have tr:Tree (cQ (fun h=>aV es (g0 h)) r) L r:=(uc (s:=cQ (fun h=>aV es (g0 h)) r) (fun h hh=>by
   unfold cQ
   by_cases e:h=r
   ·rw[if_pos e];exact hr
   ·rw[if_neg e];exact inL h (mo.mpr ⟨hh,e⟩)) pig).mpr fun h hh=>by
    obtain⟨n,pn⟩:=bk h hh;exact all n h hh pn
  have tr2:Tree (fun h=>aV es (g0 h)) L r:=fun h hh=>by
   have:=tr h hh
   rw[show cQ (cQ (fun h=>aV es (g0 h)) r) r=cQ (fun h=>aV es (g0 h)) r from funext fun x=>by
    unfold cQ
    by_cases e:x=r
    ·rw[if_pos e,if_pos e]
    ·rw[if_neg e,if_neg e]] at this
   exact this
  rw[if_pos tr2];exact pos g0 v
end
open PySem L2 Fr G1 Sm Vs G2 Rk Sz Sf Rw Ti
open PySem.W (Dat kqdOk)
noncomputable def dQ(x:Rat):Dat:=dI [x.num,(x.den:Int)]
noncomputable def QV(K:Fg)(H:Hp)(v:V)(x:Rat):Prop:=∃a:Addr,v=.ref a/\SqT K H a [.int x.num,.int (x.den:Int)]
theorem QV.of{K:Fg}(h:Rz K H v (dQ x)):QV K H v x:=by
 obtain⟨a,e,ha⟩:=eM h;exact⟨a,e,SqT.of ha⟩
noncomputable def Bq(n:Nat)(x:Rat):Prop:=x.num.natAbs<2 ^ n/\x.den<2 ^ n
noncomputable def mM(K:Fg):Sp:=fun vs H Q _=>∃t b:Int,vs=[.int t,.int b]/\b≠0/\t.natAbs<2 ^ 8000/\b.natAbs<2 ^ 8000/\∀(p:Addr) (H':Hp),Same H H'->Rz K H' (.ref p) (dQ (OM t b))->Q (.ref p) H'
noncomputable def rJ(K:Fg):TS:=(am (aI (qO (fR (tB (ay g6 [] E0 (ac (aa 0) ae)))) (fR (tB (ay g6 [] E0 (ac (aa 1) ae)))))
 oG
 aO)
 (am (aI (aH (aq fF (aa 1) (tC (.int 0))))
 oG
 aO)
 (am (av (ay ko [] E0 (ac (aa 0) (ac (aa 1) ae))) (ak 2))
 (am (aI (aH (aq Cs (aa 1) (tC (.int 0))))
 (av (Ig (rU fun i=>.int (-i)) (aa 2)) (ak 2))
 aO)
 (aA (bJ (ac (aq iI (aa 0) (aa 2)) (ac (aq iI (aa 1) (aa 2)) ae))))))))
theorem Cf{K:Fg}{vs:List V}{N:List Str}(hN:N.length=3)(h:mM K vs H Q E):rJ K (ends Q) (L2.start N vs) H:=by
 obtain⟨t,b,rfl,b0,ht,hb,k⟩:=h;rw[L2.aU hN];walk_at "t";unfold rJ;have p2:(2:Nat) ^ 8000<2 ^ 9000:=TX (by decide) (by decide);generalize (2:Nat) ^ 8000=P at ht hb p2;have gp:=Gd.vb (a:=t) b0;have gl:=Gd.KN (a:=t) b0
 have fin:∀d:Int,(d=Gd.gd t b/\0<b\/d = - Gd.gd t b/\b<0)->aA (bJ (ac (aq iI (aa 0) (aa 2)) (ac (aq iI (aa 1) (aa 2)) ae))) (ends Q) [some (.int t),some (.int b),some (.int d)] H:=by
  intro d hd;obtain⟨e1,e2⟩:=hZ b0 (Gd.zb b0 hd);have dn:d≠0:=by rcases hd with⟨z,_⟩|⟨z,_⟩ <;> lia
  have dw:d.natAbs<2 ^ 9000:=by
   refine Oy ?_ (OL hb p2);rcases hd with⟨z,_⟩|⟨z,_⟩ <;> lia
  walk_at "";refine⟨_,_,rfl,rfl,⟨dn,dw⟩,?_⟩;walk_at "";refine⟨_,_,rfl,rfl,⟨dn,dw⟩,?_⟩;walk_at "";refine⟨aQ,fun p np=>?_⟩;show Q (.ref p) (upd H p (.tup [.int (t.fdiv d),.int (b.fdiv d)]));rw[e1,e2];exact k p _ (aj np _) (.tup ag (RpL.ints [_,_]))
 walk_at "";refine⟨t,rfl,?_⟩;walk_at "";refine⟨b,rfl,?_⟩;walk_at "";refine a6 (fun z=>absurd z b0) (fun _=>?_);walk_at "";refine⟨t,b,rfl,?_⟩;walk_at "";refine a6 (fun c=>?_) (fun c=>?_)
 ·obtain h2:=fin _ (.inr ⟨rfl,c⟩);refine Kz ?_;fail "1";refine J_ (i:=2) rfl ?_;refine Kg ?_;refine zA ?_;exact h2
 ·exact fin _ (.inl ⟨rfl,by lia⟩)
noncomputable def r9(K:Fg):Sp:=fun vs H Q _=>∃(v u:V) (x y:Rat),vs=[v,u]/\QV K H v x/\QV K H u y/\Bq 3900 x/\Bq 3900 y/\∀(p:Addr) (H':Hp),Same H H'->Rz K H' (.ref p) (dQ (x+y))->Q (.ref p) H'
noncomputable def mE(K:Fg):Sp:=fun vs H Q _=>∃(v u:V) (x y:Rat),vs=[v,u]/\QV K H v x/\QV K H u y/\Bq 3900 x/\Bq 3900 y/\∀(p:Addr) (H':Hp),Same H H'->Rz K H' (.ref p) (dQ (x*y))->Q (.ref p) H'
theorem Bq.mul{x y:Int}(hx:x.natAbs<2 ^ 3900)(hy:y.natAbs<2 ^ 3900):(x*y).natAbs<2 ^ 7800:=by
 rw[OU]
 have:=Tz hx hy
 rwa [<- SO] at this
theorem pw_lt{a b:Nat}(h:a<b):(2:Nat) ^ a<2 ^ b:=TX (by decide) h
theorem Bq.w{x:Int}(h:x.natAbs<2 ^ 3900):x.natAbs<2 ^ 20000:=OL h (pw_lt (by decide))
theorem Bq.d(h:Bq 3900 x):((x.den:Nat):Int).natAbs<2 ^ 3900:=h.2
theorem Bq.sum{x y:Int}(hx:x.natAbs<2 ^ 7800)(hy:y.natAbs<2 ^ 7800):(x+y).natAbs<2 ^ 8000:=by
 refine OB (Oy (Td x y) (Nat.add_lt_add hx hy)) ?_;rw[<- Nat.two_mul,PB,<- PZ];exact Om (by decide) (by decide)
noncomputable def rj(K:Fg):TS:=(aA (ay (mM K) [] E0 (ac (aq bG (aq jq (aq (aE K) (aa 0) (tC (.int 0))) (aq (aE K) (aa 1) (tC (.int 1)))) (aq jq (aq (aE K) (aa 1) (tC (.int 0))) (aq (aE K) (aa 0) (tC (.int 1))))) (ac (aq jq (aq (aE K) (aa 0) (tC (.int 1))) (aq (aE K) (aa 1) (tC (.int 1)))) ae))))
theorem BV{K:Fg}{vs:List V}{N:List Str}(hN:N.length=2)(h:r9 K vs H Q E):rj K (ends Q) (L2.start N vs) H:=by
 obtain⟨v,u,x,y,rfl,rv,ru,bx,by_,k⟩:=h;obtain⟨a,rfl,ha⟩:=rv;obtain⟨b,rfl,hb⟩:=ru;rw[L2.aU hN];walk_at "t";unfold rj;walk_at "";refine aF ha (v:=.int x.num) rfl ?_;walk_at "";refine aF hb (v:=.int (y.den:Int)) rfl ?_;refine⟨_,_,rfl,rfl,⟨Bq.w bx.1,Bq.w by_.d⟩,?_⟩;walk_at "";refine aF hb (v:=.int y.num) rfl ?_;walk_at "";refine aF ha (v:=.int (x.den:Int)) rfl ?_;refine⟨_,_,rfl,rfl,⟨Bq.w by_.1,Bq.w bx.d⟩,?_⟩;walk_at "";refine aF ha (v:=.int (x.den:Int)) rfl ?_;walk_at "";refine aF hb (v:=.int (y.den:Int)) rfl ?_;refine⟨_,_,rfl,rfl,⟨Bq.w bx.d,Bq.w by_.d⟩,?_⟩;walk_at "";refine⟨_,_,rfl,E1 x y,Bq.sum (Bq.mul bx.1 by_.d) (Bq.mul by_.1 bx.d),OL (Bq.mul bx.d by_.d) (pw_lt (by decide)),fun p H' S r=>?_⟩;rw[Ge] at r;exact k p H' S r
noncomputable def lX(K:Fg):TS:=(aA (ay (mM K) [] E0 (ac (aq jq (aq (aE K) (aa 0) (tC (.int 0))) (aq (aE K) (aa 1) (tC (.int 0)))) (ac (aq jq (aq (aE K) (aa 0) (tC (.int 1))) (aq (aE K) (aa 1) (tC (.int 1)))) ae))))
theorem x6{K:Fg}{vs:List V}{N:List Str}(hN:N.length=2)(h:mE K vs H Q E):lX K (ends Q) (L2.start N vs) H:=by
 obtain⟨v,u,x,y,rfl,rv,ru,bx,by_,k⟩:=h;obtain⟨a,rfl,ha⟩:=rv;obtain⟨b,rfl,hb⟩:=ru;rw[L2.aU hN];walk_at "t";unfold lX;walk_at "";refine aF ha (v:=.int x.num) rfl ?_;walk_at "";refine aF hb (v:=.int y.num) rfl ?_;refine⟨_,_,rfl,rfl,⟨Bq.w bx.1,Bq.w by_.1⟩,?_⟩;walk_at "";refine aF ha (v:=.int (x.den:Int)) rfl ?_;walk_at "";refine aF hb (v:=.int (y.den:Int)) rfl ?_;refine⟨_,_,rfl,rfl,⟨Bq.w bx.d,Bq.w by_.d⟩,?_⟩;walk_at "";refine⟨_,_,rfl,E1 x y,OL (Bq.mul bx.1 by_.1) (pw_lt (by decide)),OL (Bq.mul bx.d by_.d) (pw_lt (by decide)),fun p H' S r=>?_⟩;rw[Gb] at r;exact k p H' S r
theorem Acc.ext{K:Fg}(A:Acc K H0 l H ds)(hb:H b=some (.lst zs))(rz:RpL K (fun a=>H0 a=none/\a≠l) H zs es)(n:ds.length+es.length<=1000){Q:VK}(h:∀H2,Acc K H0 l H2 (ds++es)->Q .non H2):jr (.ref l) [.ref b] H Q:=by
 obtain⟨xs,h1,h2⟩:=A.at_
 have lz:xs.length+zs.length<=sizeLine:=by
  have:=ar n
  rw[h2.length,rz.length];lia
 refine⟨l,b,xs,zs,rfl,rfl,h1,hb,lz,h _ ⟨fun c o q=>?_,A.new,_,L2.ag,?_⟩⟩
 ·rw[L2.aB (au q A.new)];exact A.same c o q
 ·exact(h2.append rz).agr (Agr.eY h1 fun w=>w.2 rfl)
noncomputable def xM(K:Fg):Sp:=fun vs H Q _=>∃(p:Addr) (xs:List V) (es:List (Nat×Nat)) (h:Nat),vs=[.ref p,.int (h:Int)]/\H p=some (.lst xs)/\RzL K H xs (es.map dP)/\es.length<=100/\∀(q:Addr) (H':Hp),AccZ K H q H' ((eQ es h).map dN)->Q (.ref q) H'
theorem zZ{es:List (Nat×Nat)}{j:Nat}{e:Nat×Nat}(h:es[j]?=some e):bb es j=e.1/\aV es j=e.2:=by
 unfold bb aV;rw[NS,h];exact⟨rfl,rfl⟩
noncomputable def xf(K:Fg):TS:=(aA (gE (jR K (ac (aa 0) ae)) 2 (cF K 2 (a7 (ak 0) (a7 (ak 1) cG))) (aH (aq fF (aq (aE K) (aa 1) (tC (.int 0))) (aa 3))) (aa 0)))
theorem F5{K:Fg}{vs:List V}{N:List Str}(hN:N.length=2)(h:xM K vs H Q E):xf K (ends Q) (L2.start N vs) H:=by
 obtain⟨p,xs,es,h,rfl,hp,rx,le,k⟩:=h;rw[L2.aU hN];walk_at "t";have lx:xs.length=es.length:=by rw[rx.length,NQ]
 unfold xf;walk_at "";refine⟨p,xs,rfl,SqL.of hp,?_⟩;refine k8 (xs:=xs) fun D nD=>⟨fun j H2=>AccZ K H D H2 (((Oa j).filter fun k=>bb es k == h).map dN),AccZ.start (Same.refl _) nD,fun j H2 _ A=>SqL.of (A.same _ _ hp),?_,?_⟩
 ·intro j x H2 T hx A nT us hu
  obtain⟨u0,u1,rfl⟩:∃u0 u1,us=[u0,u1]:=ex2 hu
  have lj:=(NT.mp hx).1;obtain⟨d,g1,g2⟩:=rx.get hx;rw[NW] at g1;obtain⟨e,he,rfl⟩:=N8.mp g1;obtain⟨f1,_⟩:=zZ he;have A2:=A.on (aj nT (.tup [.int (j:Int),x]));have hT:upd H2 T (.tup [.int (j:Int),x]) T=some (.tup [.int (j:Int),x]):=ag;generalize upd H2 T (.tup [.int (j:Int),x])=H3 at A2 hT ⊢;obtain⟨pb,rfl,Y9⟩:=qp (g2.same A2.same);have lr:((Oa j).filter fun k=>bb es k == h).length<=100:=Oi (O6 _ _) (by rw[On];lia);have er:(Oa (j+1)).filter (fun k=>bb es k == h)=(Oa j).filter (fun k=>bb es k == h)++[j].filter fun k=>bb es k == h:=by rw[Ps,PV]
  refine bP (SqT.of hT) rfl ?_;walk_at "";refine⟨⟨[some (.int (j:Int)),some (.ref pb)],rfl,rfl⟩,?_⟩;walk_at "";refine aF (SqT.of Y9) (v:=.int (e.1:Int)) rfl ?_;walk_at "";refine a6 (fun c=>?_) (fun c=>?_)
  ·have c':bb es j=h:=by lia
   walk_at "";refine aR lj ?_;refine A2.ci (d:=dN j) (.int _) (ar (by rw[NQ];lia)) fun H4 A4=>?_
   show AccZ K H D H4 (((Oa (j+1)).filter fun k=>bb es k == h).map dN);rw[er,Pl (by simpa using c'),N1];exact A4
  ·have c' : ¬ bb es j=h:=by lia
   refine fE lj ?_;show AccZ K H D H3 (((Oa (j+1)).filter fun k=>bb es k == h).map dN);rw[er,Pc (by simpa using c')];simpa using A2
 ·intro H2 A;rw[lx] at A;exact k D H2 A
noncomputable def jv(es:List (Nat×Nat))(acc:List (List Nat))(h:Nat):List (List Nat):=acc.flatMap fun p=>(eQ es h).map fun k=>p++[k]
noncomputable def pk(es:List (Nat×Nat))(hs:List Nat):List (List Nat):=hs.foldl (jv es) [[]]
noncomputable def E3(p:List Nat):Dat:=dL (ni p)
noncomputable def sd(K:Fg):Sp:=fun vs H Q _=>∃(p b:Addr) (xs:List V) (es:List (Nat×Nat)) (hs:List Nat),vs=[.ref p,.ref b]/\H p=some (.lst xs)/\RzL K H xs (es.map dP)/\es.length<=100/\H b=some (.lst ((ni hs).map V.int))/\hs.length<=100/\(∀i,(pk es (hs.take i)).length<=900)/\∀(q:Addr) (H':Hp),Acc K H q H' ((pk es hs).map E3)->Q (.ref q) H'
theorem yy{hs:List Nat}{i h:Nat}(e:hs[i]?=some h):pk es (hs.take (i+1))=jv es (pk es (hs.take i)) h:=by
 unfold pk;rw[Oj,e,PQ];rfl
theorem Eu{es:List (Nat×Nat)}:∀{hs:List Nat} {acc:List (List Nat)} {n:Nat},(∀p∈acc,p.length=n)->∀p∈hs.foldl (jv es) acc,p.length=n+hs.length
 |[],_,_,h,p,hp=>h p hp
 |x :: hs,acc,n,h,p,hp=>by
  have:=Eu (hs:=hs) (acc:=jv es acc x) (n:=n+1) (fun q hq=>by
   obtain⟨a,ha,hq⟩:=Xq.mp hq
   obtain⟨k,_,rfl⟩:=N9.mp hq
   rw[N6,h a ha]
   rfl) p hp
  rw[this,Oz];lia
noncomputable def rn(K:Fg):TS:=(am (av (ca (ac (ca ae) ae)) (ak 2))
 (am (be (bQ K (aa 1)) (ak 3)
 (am (av (ca ae) (ak 4))
 (am (be (bQ K (aa 2)) (ak 5)
 (bE (eJ K "list" jr (aa 4) (ac (eI (bQ K (ay (xM K) [] E0 (ac (aa 0) (ac (aa 3) ae)))) (aq mW (aa 6) (ca (ac (aa 0) ae)))) ae))))
 (av (aa 4) (ak 2)))))
 (aA (aa 2))))
theorem BX{K:Fg}{vs:List V}{N:List Str}(hN:N.length=6)(h:sd K vs H Q E):rn K (ends Q) (L2.start N vs) H:=by
 obtain⟨p,b,xs,es,hs,rfl,hp,rx,le,hb,lh,few,k⟩:=h;rw[L2.aU hN];walk_at "t";unfold rn;walk_at "";refine⟨by decide,fun l0 n0=>?_⟩;have S0:=aj n0 (.lst []);have h0:upd H l0 (.lst []) l0=some (.lst (([]:List Int).map V.int)):=ag;generalize upd H l0 (.lst [])=H0 at S0 h0 ⊢;walk_at "";refine⟨jc,fun l1 n1=>?_⟩;have S1:=aj n1 (.lst [.ref l0]);have A1:Acc K H l1 (upd H0 l1 (.lst [.ref l0])) ((pk es (hs.take 0)).map E3):=⟨S0.trans S1,S0.free n1,_,ag,.cons (wm ⟨n0,au h0 n1⟩ (S1 _ _ h0)) .nil⟩
 generalize upd H0 l1 (.lst [.ref l0])=H1 at A1 ⊢;clear S1 S0 h0;walk_at "";refine gO (SqL.of (A1.same _ _ hb)) ?_;refine bj (xs:=(ni hs).map V.int) (fun i σ H2=>∃(t:Addr) (u3 u4 u5:Option V),σ=[some (.ref p),some (.ref b),some (.ref t),u3,u4,u5]/\Acc K H t H2 ((pk es (hs.take i)).map E3)) ⟨l1,none,none,none,rfl,A1⟩ (fun i σ H2 _ ⟨_,_,_,_,_,A⟩=>SqL.of (A.same _ _ hb)) ?_ ?_
 ·rintro i x σ H2 hx ⟨t,u3,u4,u5,rfl,A⟩
  obtain⟨h,eh,rfl⟩:∃h,hs[i]?=some h/\x=.int (h:Int):=by
   unfold ni at hx;rw[NW,NW] at hx;cases e:hs[i]? with
   |none=>rw[e] at hx;cases hx
   |some h=>rw[e] at hx;exact⟨h,rfl,(Oq hx).symm⟩
  have fw:=few (i+1);rw[yy eh] at fw
  have ln:∀q∈pk es (hs.take i),q.length<=100:=fun q hq=>by
   have:=Eu (acc:=[[]]) (n:=0) (fun p hp=>by rw[N7.mp hp];rfl) q hq
   rw[this,Ot];lia
  obtain⟨ts,ht,rt⟩:=A.at_;generalize hP:pk es (hs.take i)=P at A rt fw ln;walk_at "";refine⟨by decide,fun l nl=>?_⟩;have B0:Acc K H2 l (upd H2 l (.lst [])) ((jv es (P.take 0) h).map E3):=Acc.start nl;generalize upd H2 l (.lst [])=H3 at B0 ⊢;walk_at "";refine gO (SqL.of (B0.same _ _ ht)) ?_;refine bj (xs:=ts) (fun j σ H4=>∃u5:Option V,σ=[some (.ref p),some (.ref b),some (.ref t),some (.int (h:Int)),some (.ref l),u5]/\Acc K H2 l H4 ((jv es (P.take j) h).map E3)) ⟨u5,rfl,B0⟩ (fun j σ H4 _ ⟨_,_,B⟩=>SqL.of (B.same _ _ ht)) ?_ ?_
  ·rintro j y σ H4 hy ⟨u5,rfl,B⟩;have lj:=(NT.mp hy).1;obtain⟨d,g1,g2⟩:=rt.get hy;rw[NW] at g1;obtain⟨q,hq,rfl⟩:=N8.mp g1;obtain⟨c,rfl,_,hc⟩:=wn g2;have lq:=ln q (N2 hq)
   have ej:jv es (P.take (j+1)) h=jv es (P.take j) h++(eQ es h).map fun k=>q++[k]:=by
    unfold jv;rw[Oj,hq,Wb];simp
   have e2:jv es P h=jv es (P.take (j+1)) h++jv es (P.drop (j+1)) h:=by unfold jv;rw[<- Wb,VE]
   have fj:(jv es (P.take (j+1)) h).length<=900:=by
    rw[e2,N6] at fw;lia
   rw[ej,N6,NQ] at fj;walk_at "";refine⟨B.ty,?_⟩;walk_at "";refine⟨p,xs,es,h,rfl,B.same _ _ (A.same _ _ hp),rx.same (A.same.trans B.same),le,fun r H5 A5=>?_⟩;have hr:H5 r=some (.lst ((ni (eQ es h)).map V.int)):=AccZ.ints (by unfold ni;rw[Ph];exact A5);have lf:((ni (eQ es h)).map V.int).length=(eQ es h).length:=by unfold ni;rw[NQ,NQ]
   refine kH (SqL.of hr) ?_;refine cf (xs:=(ni (eQ es h)).map V.int) fun E nE=>⟨fun m H6=>Acc K H5 E H6 ((((eQ es h).take m).map fun k=>q++[k]).map E3),by simpa using Acc.start nE,fun m H6 _ C=>SqL.of (C.same _ _ hr),?_,?_⟩
   ·intro m z H6 hz C;have lm:=(NT.mp hz).1
    obtain⟨n,en,rfl⟩:∃n,(eQ es h)[m]?=some n/\z=.int (n:Int):=by
     unfold ni at hz;rw[NW,NW] at hz;cases e:(eQ es h)[m]? with
     |none=>rw[e] at hz;cases hz
     |some n=>rw[e] at hz;exact⟨n,rfl,(Oq hz).symm⟩
    have hc6:=C.same _ _ (A5.same _ _ (B.same _ _ hc));walk_at "";refine⟨jc,fun l2 n2=>?_⟩;have S7:=aj n2 (.lst [.int (n:Int)]);have h7:upd H6 l2 (.lst [.int (n:Int)]) l2=some (.lst [.int (n:Int)]):=ag;have hc7:=S7 _ _ hc6;generalize upd H6 l2 (.lst [.int (n:Int)])=H7 at S7 h7 hc7 ⊢;refine⟨c,l2,_,_,rfl,rfl,hc7,h7,by rw[NQ,Rr];unfold ni;rw[NQ];show q.length+1<=_;lia,fun l3 n3=>?_⟩;have S8:=S7.trans (aj n3 (.lst ((ni q).map V.int++[.int (n:Int)])));have h8:upd H7 l3 (.lst ((ni q).map V.int++[.int (n:Int)])) l3=some (.lst ((ni (q++[n])).map V.int)):=by unfold ni;rw[N1,N1];exact ag
    have n36:=S7.free n3;generalize upd H7 l3 (.lst ((ni q).map V.int++[.int (n:Int)]))=H8 at S8 h8 ⊢;refine aR lm ?_;refine C.ci S8 (d:=E3 (q++[n])) (wm n36 h8) (ar (by rw[NQ,NQ,Ot];lia)) fun H9 C9=>?_
    show Acc K H5 E H9 ((((eQ es h).take (m+1)).map fun k=>q++[k]).map E3);rw[Oj,en,N1,N1];exact C9
   ·intro H6 C;rw[lf,Oh (N4 _)] at C;obtain⟨zs,hz,rz⟩:=C.at_;have B6:=(B.on A5.same).on C.same
    have lB:H4 l≠none:=by
     obtain⟨ys,h1,_⟩:=B.at_;rw[h1];exact fun z=>by cases z
    walk_at "";refine Acc.ext B6 hz (rz.mono fun a z=>⟨B.same.free (A5.same.free z.1),fun e=>lB (by rw[<- e];exact A5.same.free z.1)⟩) (by rw[NQ,NQ,NQ];lia) fun H7 B7=>?_
    refine⟨_,rfl,?_⟩;rw[ej,N1];exact B7
  ·rintro σ H4 ⟨u5,rfl,B⟩;have lt:ts.length=P.length:=by rw[rt.length,NQ]
   rw[lt,Oh (N4 _)] at B;walk_at "";refine⟨l,_,_,_,rfl,?_⟩;rw[yy eh,hP];obtain⟨zs,hz,rz⟩:=B.at_;exact⟨A.same.trans B.same,A.same.free B.new,zs,hz,rz.mono fun _ z=>⟨A.same.free z.1,z.2⟩⟩
 ·rintro σ H2 ⟨t,u3,u4,u5,rfl,A⟩;rw[Oh (by unfold ni;rw[NQ,NQ];exact N4 _)] at A;walk_at "";exact k t H2 A
theorem DW{K:Fg}(h:SqT K H a xs)(S:Same H H'):SqT K H' a xs:=by
 rcases h with(h|⟨o,h⟩)|h
 ·exact .inl (.inl (S _ _ h))
 ·exact .inl (.inr ⟨o,S _ _ h⟩)
 ·exact .inr h
theorem QV.same{K:Fg}(h:QV K H v x)(S:Same H H'):QV K H' v x:=by
 obtain⟨a,e,ha⟩:=h;exact⟨a,e,DW ha S⟩
theorem pQ{i:Nat}{x:V}(hx:((ni hs).map V.int)[i]?=some x):∃h,hs[i]?=some h/\x=.int (h:Int):=by
 unfold ni at hx;rw[NW,NW] at hx;cases e:hs[i]? with
 |none=>rw[e] at hx;cases hx
 |some h=>rw[e] at hx;exact⟨h,rfl,(Oq hx).symm⟩
theorem pP(hs:List Nat):((ni hs).map V.int).length=hs.length:=by unfold ni;rw[NQ,NQ]
noncomputable def kd(ps:List (Nat×Nat)):List (bf×V):=ps.map fun q=>((.inl (q.1:Int):bf),V.int (q.2:Int))
noncomputable def lk(ps:List (Nat×Nat))(h:Nat):Nat:=((ps.find? fun q=>q.1 == h).map (·.2)).getD 0
theorem zw:∀(ps:List (Nat×Nat)) (h:Nat),bI (kd ps) (.inl (h:Int))=(ps.find? fun q=>q.1 == h).map fun q=>V.int (q.2:Int)
 |[],h=>rfl
 |q :: ps,h=>by
  show bI (((.inl (q.1:Int):bf),V.int (q.2:Int)) :: kd ps) (.inl (h:Int))=_;rw[Qq];by_cases e:q.1=h
  ·rw[bA (by rw[e]),show(q.1 == h)=true by simpa using e];rfl
  ·rw[bo (fun z=>e (by have:=SL z;lia)),show(q.1 == h)=false by simpa using e];exact zw ps h
theorem Mv{ps:List (Nat×Nat)}{h:Nat}(m:h∈ps.map (·.1)):bI (kd ps) (.inl (h:Int))=some (.int (lk ps h:Int)):=by
 rw[zw];unfold lk;cases e:ps.find? fun q=>q.1 == h with
 |none =>
  obtain⟨q,hq,e2⟩:=N9.mp m
  have:=Uz.mp e q hq
  simp[e2] at this
 |some q=>rfl
theorem J9{ps:List (Nat×Nat)}{a b:Nat}(n:a∉ps.map (·.1)):cm (kd ps) (.inl (a:Int)) (.int (b:Int))=kd (ps++[(a,b)]):=by
 have z:bI (kd ps) (.inl (a:Int))=none:=by
  rw[zw,Uz.mpr]
  ·rfl
  ·intro q hq e;exact n (N9.mpr ⟨q,hq,by simpa using e⟩)
 unfold cm;rw[fA,z];show kd ps++[_]=_;unfold kd;rw[N1];rfl
noncomputable def prs(es:List (Nat×Nat))(ks:List Nat)(r:Nat):List (Nat×Nat):=(r,r) :: ks.map fun k=>(bb es k,aV es k)
noncomputable def TD(ps:List (Nat×Nat))(r:Nat):Prop:=∀q∈ps,dq (lk ps) ps.length q.1=r
noncomputable def xG(K:Fg):Sp:=fun vs H Q _=>∃(p b:Addr) (xs:List V) (es:List (Nat×Nat)) (ks:List Nat) (r:Nat),vs=[.ref p,.ref b,.int (r:Int)]/\H p=some (.lst xs)/\RzL K H xs (es.map dP)/\H b=some (.lst ((ni ks).map V.int))/\ks.length<=100/\(∀k∈ks,k<es.length)/\((prs es ks r).map (·.1)).Nodup/\(∀q∈prs es ks r,q.2∈(prs es ks r).map (·.1)) /\
 (TD (prs es ks r) r->∀H',Same H H'->Q (.bl true) H')/\(¬ TD (prs es ks r) r->∀H',Same H H'->Q (.bl false) H')
theorem Mr{ps:List (Nat×Nat)}(cl:∀q∈ps,q.2∈ps.map (·.1)){h:Nat}(m:h∈ps.map (·.1)):lk ps h∈ps.map (·.1):=by
 unfold lk;cases e:ps.find? fun q=>q.1 == h with
 |none =>
  obtain⟨q,hq,e2⟩:=N9.mp m
  have:=Uz.mp e q hq
  simp[e2] at this
 |some q=>exact cl q (List.mem_of_find?_eq_some e)
noncomputable def wQ(K:Fg):TS:=(am (av (Fv [((aa 2),(aa 2))]) (ak 3))
 (am (be (bQ K (aa 1)) (ak 4)
 (o7 (aa 3) (aq (aE K) (aq (bX K) (aa 0) (aa 4)) (tC (.int 0))) (aq (aE K) (aq (bX K) (aa 0) (aa 4)) (tC (.int 1)))))
 (am (be (bQ K (aZ yk (ac (aa 3) ae))) (ak 5)
 (am (av (aa 5) (ak 6))
 (am (be (cC (ac (aZ IS (ac (aa 3) ae)) ae)) (ak 7)
 (av (rO (aa 3) (aa 6)) (ak 6)))
 (aI (aH (aq kP (aa 6) (aa 2)))
 (aA (tC (.bl false)))
 aO))))
 (aA (tC (.bl true))))))
theorem FQ{K:Fg}{vs:List V}{N:List Str}(hN:N.length=8)(h:xG K vs H Q E):wQ K (ends Q) (L2.start N vs) H:=by
 obtain⟨p,b,xs,es,ks,r,rfl,hp,rx,hb,lk_,lt,nd,cl,Zy,kno⟩:=h;rw[L2.aU hN];walk_at "t";have lx:xs.length=es.length:=by rw[rx.length,NQ]
 unfold wQ;walk_at "";intro rd nr;have T1:=aj nr (.dK []);unfold iX;walk_at "";unfold iX;refine⟨ag,[(.inl (r:Int),.int (r:Int))],rfl,by show 1<=15;decide,?_⟩
 have S1:Same H (upd (upd H rd (.dK [])) rd (.dK (d_ [] [(.inl (r:Int),.int (r:Int))]))):=fun c o q=>by
  rw[aB (au q nr)];exact T1 _ _ q
 have d1:upd (upd H rd (.dK [])) rd (.dK (d_ [] [(.inl (r:Int),.int (r:Int))])) rd=some (.dK (kd (prs es (ks.take 0) r))):=ag;generalize upd (upd H rd (.dK [])) rd (.dK (d_ [] [(.inl (r:Int),.int (r:Int))]))=H1 at S1 d1 ⊢;walk_at "";refine gO (SqL.of (S1 _ _ hb)) ?_;refine bj (xs:=(ni ks).map V.int) (fun i σ H2=>∃u4:Option V,σ=[some (.ref p),some (.ref b),some (.int (r:Int)),some (.ref rd),u4,none,none,none]/\Same H H2/\H2 rd=some (.dK (kd (prs es (ks.take i) r)))) ⟨none,rfl,S1,d1⟩ (fun i σ H2 _ ⟨_,_,S,_⟩=>SqL.of (S _ _ hb)) ?_ ?_
 ·rintro i x σ H2 hx ⟨u4,rfl,S2,d2⟩;obtain⟨k,ek,rfl⟩:=pQ hx;have lk2:=lt k (N2 ek);obtain⟨e,he⟩:∃e,es[k]?=some e:=⟨_,NR lk2⟩
  obtain⟨f1,f2⟩:=zZ he;obtain⟨z,ez⟩:∃z,xs[k]?=some z:=⟨_,NR (by lia)⟩
  obtain⟨d,g1,g2⟩:=rx.get ez;rw[NW,he] at g1;cases g1;obtain⟨pb,rfl,Y9⟩:=qp (g2.same S2);have li:i<ks.length:=(NT.mp ek).1
  have ee:prs es (ks.take (i+1)) r=prs es (ks.take i) r++[(e.1,e.2)]:=by
   unfold prs;rw[Oj,ek,N1,<- f1,<- f2];rfl
  have nk:e.1∉(prs es (ks.take i) r).map (·.1):=by
   have n2:((prs es (ks.take (i+1)) r).map (·.1)).Nodup:=by
    refine nd.sublist ?_;unfold prs;exact((SX (i+1) ks).map _).cons_cons _ |>.map _
   rw[ee,N1,RV] at n2;exact fun m=>n2.2.2 _ m _ NX rfl
  walk_at "";refine cj (SqL.of (S2 _ _ hp)) (aG ez) ?_;walk_at "";refine aF (SqT.of Y9) (v:=.int (e.2:Int)) rfl ?_;walk_at "";refine cj (SqL.of (S2 _ _ hp)) (aG ez) ?_;walk_at "";refine aF (SqT.of Y9) (v:=.int (e.1:Int)) rfl ?_;refine⟨rd,_,rfl,(DPut.k d2 (ar (by unfold kd prs;rw[NQ,Oz,NQ,Ot];lia)):DPut H2 rd (kV (.inl (e.1:Int))) _ _),?_⟩;refine⟨_,rfl,fun c o q=>?_,?_⟩
  ·rw[aB (au q nr)];exact S2 c o q
  ·rw[ag,ee,J9 nk]
 rintro σ H2 ⟨u4,rfl,S2,d2⟩;rw[pP,Oh (N4 _)] at d2;have lp:(prs es ks r).length<=101:=by unfold prs;rw[Oz,NQ];lia
 generalize prs es ks r=ps at d2 nd cl Zy kno lp;have lkd:(kd ps).length=ps.length:=NQ _;walk_at "";refine⟨rd,_,rfl,d2,fun l nl=>?_⟩;have el:((kd ps).map fun kv=>kV kv.1)=(ni (ps.map (·.1))).map V.int:=by unfold kd ni;rw[Ph,Ph,Ph];rfl
 rw[el];have S3:=S2.trans (aj nl (.lst ((ni (ps.map (·.1))).map V.int)));have d3:=aj nl (.lst ((ni (ps.map (·.1))).map V.int)) _ _ d2;have h3:upd H2 l (.lst ((ni (ps.map (·.1))).map V.int)) l=some (.lst ((ni (ps.map (·.1))).map V.int)):=ag;generalize upd H2 l (.lst ((ni (ps.map (·.1))).map V.int))=H3 at S3 d3 h3 ⊢;refine gO (SqL.of h3) ?_;refine bj (xs:=(ni (ps.map (·.1))).map V.int) (fun i σ H4=>∃u5 u6 u7:Option V,σ=[some (.ref p),some (.ref b),some (.int (r:Int)),some (.ref rd),u4,u5,u6,u7]/\H4=H3/\∀m,m<i->∀h,(ps.map (·.1))[m]?=some h->dq (lk ps) ps.length h=r) ⟨none,none,none,rfl,rfl,fun m hm=>absurd hm (PD _)⟩ (fun i σ H4 _ ⟨_,_,_,_,e,_⟩=>by rw[e];exact SqL.of h3) ?_ ?_
 ·rintro i x σ H4 hx ⟨u5,u6,u7,rfl,rfl,dn⟩;obtain⟨h,eh,rfl⟩:=pQ hx;have mh:=N2 eh;walk_at "";refine⟨rd,_,rfl,d3,?_⟩;rw[lkd];refine⟨_,rfl,by lia,by lia,?_⟩;rw[OT];refine a8 (fun m σ H5=>∃u7:Option V,σ=[some (.ref p),some (.ref b),some (.int (r:Int)),some (.ref rd),u4,some (.int (h:Int)),some (.int (dq (lk ps) m h:Int)),u7]/\H5=H4) ⟨_,rfl,rfl⟩ ?_ ?_
  ·rintro m σ H5 hm ⟨u7,rfl,rfl⟩;have mm:dq (lk ps) m h∈ps.map (·.1):=qh (fun x hx=>Mr cl hx) mh m;walk_at "";refine⟨rd,_,rfl,(by have:=(DGet.k d3:DGet H5 rd (kV (.inl (dq (lk ps) m h:Int))) _);rw[Mv mm] at this;exact this),?_⟩;walk_at "";exact⟨_,rfl,rfl⟩
  ·rintro σ H5 ⟨u7,rfl,rfl⟩;walk_at "";refine cH (fun c=>?_) (fun c=>?_)
   ·walk_at "";refine kno (fun t=>c ?_) H5 S3;obtain⟨q,hq,e⟩:=N9.mp mh
    have:=t q hq
    rw[e] at this;rw[this]
   ·walk_at "";refine⟨_,_,_,rfl,rfl,fun m hm h' e'=>?_⟩;rcases Ug m i with z|z
    ·exact dn m z h' e'
    ·rw[show m=i by lia,eh] at e';cases e';lia
 ·rintro σ H4 ⟨u5,u6,u7,rfl,rfl,dn⟩;rw[pP] at dn;walk_at "";refine Zy (fun q hq=>?_) H4 S3;have m1:q.1∈ps.map (·.1):=N9.mpr ⟨q,hq,rfl⟩;obtain⟨m,hm⟩:=ON m1;exact dn m (NT.mp hm).1 q.1 hm
open Fr
theorem EH{α β:Type}(g:α->β)(f:β->Rat):∀l:List α,ls (l.map g) f=ls l fun x=>f (g x)
 |[]=>rfl
 |a :: l=>by rw[OS,a9,a9,EH g f l]
theorem pR{α:Type}(f:α->Rat):∀l m:List α,ls (l++m) f=ls l f+ls m f
 |[],m=>by rw[RJ,uP,Uf]
 |a :: l,m=>by rw[UZ,a9,a9,pR f l m,Rat.add_assoc]
theorem y_{α β:Type}(g:α->List β)(f:β->Rat):∀l:List α,ls (l.flatMap g) f=ls l fun x=>ls (g x) f
 |[]=>rfl
 |a :: l=>by rw[List.flatMap_cons,pR,a9,y_ g f l]
section
variable{es:List (Nat×Nat)}{pc:Nat->Rat}
theorem JY{h:Nat}{hs:List Nat}(n:h∉hs):hs.map (up g h k)=hs.map g:=Py fun x hx=>if_neg fun e:x=h=>n (by rw[<- e];exact hx)
theorem Et(G:List Nat->Rat):∀{hs:List Nat} (acc:List (List Nat)),hs.Nodup->ls (hs.foldl (jv es) acc) G=ls acc fun a=>T (eQ es) hs fun g=>G (a++hs.map g)
 |[],acc,_=>a_ fun a _=>by show G a=G (a++[]);rw[Qb]
 |h :: hs,acc,nd=>by
  obtain⟨n1,n2⟩:=OO.mp nd;rw[Vy,Et G (jv es acc h) n2];unfold jv;rw[y_];refine a_ fun a _=>?_
  rw[EH];refine a_ fun k _=>DU fun g=>?_
  show G (a++[k]++hs.map g)=G (a++(h :: hs).map (up g h k));rw[OS,JY n1,show up g h k h=k from if_pos rfl,Pi];rfl
noncomputable def pq(pc:Nat->Rat)(q:List Nat):Rat:=q.foldl (fun x k=>x*pc k) 1
theorem Gr:∀(q:List Nat) (x:Rat),q.foldl (fun x k=>x*pc k) x=x*pq pc q
 |[],x=>(Qs x).symm
 |k :: q,x=>by
  unfold pq;rw[Vy,Vy,Gr q,Gr q,Re,OX]
theorem Er(g:Nat->Nat):∀hs:List Nat,pq pc (hs.map g)=aW pc g hs
 |[]=>rfl
 |h :: hs=>by
  show(hs.map g).foldl (fun x k=>x*pc k) (1*pc (g h))=pc (g h)*aW pc g hs;rw[Gr,Er g hs,Re]
theorem ET{f f':Nat->Nat}{L:List Nat}(hf:∀h∈L,f h∈L)(e:∀h∈L,f h=f' h){x:Nat}(hx:x∈L):∀n,dq f n x=dq f' n x
 |0=>rfl
 |n+1=>by
  show f (dq f n x)=f' (dq f' n x);rw[e _ (qh hf hx n),ET hf e hx n]
theorem qo{g:Nat->Nat}{h:Nat}:∀{hs:List Nat},h∈hs->((hs.map fun x=>(x,g x)).find? fun q=>q.1 == h)=some (h,g h)
 |[],m=>by cases m
 |x :: hs,m=>by
  rw[OS,Qq];by_cases e:x=h
  ·rw[show((x,g x).1 == h)=true by simpa using e,e]
  ·rw[show((x,g x).1 == h)=false by simpa using e];exact qo ((Od.mp m).resolve_left fun z=>e z.symm)
theorem yp{hs:List Nat}{g:Nat->Nat}(v:∀h∈hs,g h∈eQ es h)(r:Nat):prs es (hs.map g) r=(r,r) :: hs.map fun h=>(h,aV es (g h)):=by
 unfold prs;rw[Ph];congr 1;refine Py fun h hh=>?_
 have:=(Os.mp (v h hh)).2
 show(bb es (g h),aV es (g h))=_;rw[show bb es (g h)=h by simpa using this]
theorem gm{h:Nat}:h∈b5 L r↔h∈L/\h≠r:=by unfold b5;rw[Os];simp
theorem Ms{g:Nat->Nat}(v:∀h∈b5 L r,g h∈eQ es h){h:Nat}(hh:h∈L):lk (prs es ((b5 L r).map g) r) h=cQ (fun h=>aV es (g h)) r h:=by
 rw[yp v];unfold lk cQ;rw[Qq];by_cases e:h=r
 ·rw[if_pos e,show((r,r).1 == h)=true by simpa using e.symm];rfl
 ·rw[if_neg e,show((r,r).1 == h)=false by simpa using fun z=>e z.symm,qo (g:=fun h=>aV es (g h)) (gm.mpr ⟨hh,e⟩)];rfl
theorem sM{L:List Nat}(nd:L.Nodup){r:Nat}(hr:r∈L):(b5 L r).length+1=L.length:=by
 have:=(mY nd hr).length_eq
 rw[Oz] at this;exact this.symm
theorem M4{L:List Nat}{g:Nat->Nat}(cl:∀k,k<es.length->(bb es k∈L↔aV es k∈L))(v:∀h∈b5 L r,g h∈eQ es h){h:Nat}(hh:h∈b5 L r):aV es (g h)∈L:=by
 obtain⟨m1,m2⟩:=Os.mp (v h hh);exact(cl _ (Ow.mp m1)).mp (by rw[show bb es (g h)=h by simpa using m2];exact(gm.mp hh).1)
theorem AN{L:List Nat}(nd:L.Nodup){r:Nat}(hr:r∈L)(cl:∀k,k<es.length->(bb es k∈L↔aV es k∈L)){g:Nat->Nat}(v:∀h∈b5 L r,g h∈eQ es h):TD (prs es ((b5 L r).map g) r) r↔Tree (fun h=>aV es (g h)) L r:=by
 have lp:(prs es ((b5 L r).map g) r).length=L.length:=by
  rw[<- sM nd hr];unfold prs;rw[Oz,NQ,NQ]
 have st:∀h∈L,cQ (fun h=>aV es (g h)) r h∈L:=fun h hh=>by
  unfold cQ;by_cases e:h=r
  ·rw[if_pos e];exact hr
  ·rw[if_neg e];exact M4 cl v (gm.mpr ⟨hh,e⟩)
 have ie:∀h∈L,dq (lk (prs es ((b5 L r).map g) r)) L.length h=dq (cQ (fun h=>aV es (g h)) r) L.length h:=fun h hh=>(ET st (fun x hx=>(Ms v hx).symm) hh _).symm
 unfold TD Tree;rw[lp];constructor
 ·intro t h hh;rw[<- ie h hh];by_cases e:h=r
  ·have:=t (r,r) (by unfold prs;exact NX)
   rw[e];exact this
  ·have:=t (h,aV es (g h)) (by rw[yp v];exact NZ _ (N9.mpr ⟨h,gm.mpr ⟨hh,e⟩,rfl⟩))
   exact this
 ·intro t q hq;rw[yp v] at hq;rcases Od.mp hq with rfl|hq
  ·rw[ie r hr];exact t r hr
  ·obtain⟨h,hh,rfl⟩:=N9.mp hq
   have:=(gm.mp hh).1
   show dq _ _ h=r;rw[ie h this];exact t h this
open Classical in
theorem Lj{L:List Nat}(nd:L.Nodup){r:Nat}(hr:r∈L)(cl:∀k,k<es.length->(bb es k∈L↔aV es k∈L)):ls (pk es (b5 L r)) (fun q=>if TD (prs es q r) r then pq pc q else 0)=W es pc L r:=by
 have ZF:(b5 L r).Nodup:=nd.filter _;unfold pk;rw[Et _ _ ZF,a9,uP,Rc];refine tX ZF fun g v=>?_
 rw[RJ,Er];by_cases t:Tree (fun h=>aV es (g h)) L r
 ·rw[if_pos t,if_pos ((AN nd hr cl v).mpr t)]
 ·rw[if_neg t,if_neg fun z=>t ((AN nd hr cl v).mp z)]
theorem yz:∀{hs:List Nat} {acc:List (List Nat)} {q:List Nat},q∈hs.foldl (jv es) acc->∃a∈acc,∃ks:List Nat,q=a++ks/\ks.map (bb es)=hs/\∀k∈ks,k<es.length
 |[],acc,q,h=>⟨q,h,[],(Qb q).symm,rfl,fun k hk=>by cases hk⟩
 |x :: hs,acc,q,h=>by
  obtain⟨a,ha,ks,e1,e2,e3⟩:=yz (hs:=hs) (acc:=jv es acc x) h;obtain⟨a0,ZI,hm⟩:=Xq.mp ha;obtain⟨k,hk,rfl⟩:=N9.mp hm;obtain⟨m1,m2⟩:=Os.mp hk;refine⟨a0,ZI,k :: ks,by rw[e1,Pi];rfl,by rw[OS,e2,show bb es k=x by simpa using m2],fun j hj=>?_⟩;rcases Od.mp hj with rfl|hj
  ·exact Ow.mp m1
  ·exact e3 j hj
end
noncomputable def Sml(D M:Nat)(x:Rat):Prop:=∃m:Int,x*((D:Int):Rat)=(m:Rat)/\m.natAbs<=M
theorem Sml.add{D:Nat}(a:Sml D M x)(b:Sml D N y):Sml D (M+N) (x+y):=by
 obtain⟨m,e,l⟩:=a;obtain⟨n,f,k⟩:=b;refine⟨m+n,by rw[Rat.add_mul,e,f,Rat.intCast_add],?_⟩;exact Oi (Td m n) (X2 l k)
theorem Sml.mul{D:Nat}(a:Sml D M x)(b:Sml E N y):Sml (D*E) (M*N) (x*y):=by
 obtain⟨m,e,l⟩:=a;obtain⟨n,f,k⟩:=b;refine⟨m*n,?_,by rw[OU];exact O2 l k⟩;rw[RN,<- e,<- f,Q4,RN]
 grind
theorem Sml.up{D E N:Nat}(a:Sml D M x)(h:M*E<=N):Sml (D*E) N x:=by
 obtain⟨m,e,l⟩:=a;refine⟨m*(E:Int),by rw[RN,<- e,Q4,RN,OX],?_⟩;rw[OU];exact Oi (OF _ l) h
theorem Sml.zero(D M:Nat):Sml D M 0:=⟨0,by rw[Uh];rfl,OR _⟩
theorem Sml.one{D M:Nat}(h:D<=M):Sml D M 1:=⟨(D:Int),Re _,h⟩
theorem Sml.bits{D:Nat}(a:Sml D M x)(d0:0<D):x.num.natAbs<=M/\x.den<=D:=by
 obtain⟨m,e,l⟩:=a
 have dn:((D:Int):Rat)≠0:=by
  intro z
  have:=XG.mp (show(((D:Int):Int):Rat)=((0:Int):Rat) from z)
  lia
 have ex:x=OM m (D:Int):=by
  rw[W7,<- e,Rat.mul_div_cancel dn]
 have L:=Gd.zb (t:=m) (b:=(D:Int)) (d:=Gd.gd m (D:Int)) (by lia) (.inl ⟨rfl,by lia⟩);have A:=Gd.zd (t:=m) (b:=(D:Int)) (d:=Gd.gd m (D:Int)) (by lia) (.inl ⟨rfl,by lia⟩);obtain⟨e1,e2⟩:=hZ (by lia) L;rw[e1,e2,<- ex] at A;exact⟨Oi A.1 l,by have:=A.2;lia⟩
noncomputable def eO(ts:List Tn)(k:Nat):Rat:=match ts[k]? with
 |some t=>OM t.q t.d
 |none=>1
noncomputable def Pd:List Tn->Nat
 |[]=>1
 |t :: ts=>t.d.natAbs*Pd ts
noncomputable def dY(ts:List Tn):Prop:=∀t∈ts,j3 t.q t.d
theorem qJ:∀{ts:List Tn},dY ts->0<Pd ts
 |[],_=>Nat.one_pos
 |t :: ts,h=>by
  have:=(h t NX).2.1
  exact Pf (by lia) (qJ fun x hx=>h x (NZ _ hx))
theorem Lu:∀{ts:List Tn},dY ts->Pd ts<=(10 ^ 10) ^ ts.length
 |[],_=>N4 _
 |t :: ts,h=>by
  have h1:=(h t NX).2.1;have h2:=(h t NX).2.2.2.2;show t.d.natAbs*Pd ts<=(10 ^ 10) ^ (ts.length+1);rw[PZ,PB];exact O2 (Lu fun x hx=>h x (NZ _ hx)) (by lia)
theorem E8:∀{ts:List Tn} {t:Tn},t∈ts->t.d.natAbs∣Pd ts
 |x :: ts,t,m=>by
  rcases Od.mp m with rfl|m
  ·exact W8 _ _
  ·exact Nat.dvd_trans (E8 m) (Nat.dvd_mul_left _ _)
theorem Ey(pa:dY ts){k:Nat}(hk:k<ts.length):Sml (Pd ts) (10 ^ 10*Pd ts) (eO ts k):=by
 obtain⟨t,ht⟩:∃t,ts[k]?=some t:=⟨_,NR hk⟩
 have mt:=N2 ht;obtain⟨q0,d0,_,ql,_⟩:=pa t mt;obtain⟨c,hc⟩:=E8 mt;have e:eO ts k=OM t.q t.d:=by unfold eO;rw[ht]
 have dn:((t.d:Int):Rat)≠0:=by
  intro z
  have:=XG.mp (show((t.d:Int):Rat)=((0:Int):Rat) from z)
  lia
 refine⟨t.q*(c:Int),?_,?_⟩
 ·have e2:((Pd ts:Nat):Int)=t.d*(c:Int):=by
   rw[hc,Q4];congr 1;lia
  rw[e,e2,W7,RN,RN,<- OX,WH dn]
 ·rw[OU,hc];have h1:1<=t.d.natAbs:=by lia
  refine O2 (by lia) ?_;show c<=t.d.natAbs*c;exact Qm _ h1
theorem yu{ks:List Nat}{i k:Nat}(e:ks[i]?=some k):pq pc (ks.take (i+1))=pq pc (ks.take i)*pc k:=by
 unfold pq;rw[Oj,e,PQ];rfl
theorem Ep{ts:List Tn}(pa:dY ts){ks:List Nat}(hk:∀k∈ks,k<ts.length):∀i,i<=ks.length->Sml (Pd ts ^ i) ((10 ^ 10*Pd ts) ^ i) (pq (eO ts) (ks.take i))
 |0,_=>by
  rw[W9,W9];exact Sml.one (N4 _)
 |i+1,h=>by
  obtain⟨k,ek⟩:∃k,ks[i]?=some k:=⟨_,NR h⟩
  rw[yu ek,PZ,PZ];exact(Ep pa hk i (by lia)).mul (Ey pa (hk k (N2 ek)))
noncomputable def DD(ts:List Tn):Nat:=Pd ts ^ 7
noncomputable def MM(ts:List Tn):Nat:=(10 ^ 10*Pd ts) ^ 7
theorem Es(pa:dY ts){ks:List Nat}(hk:∀k∈ks,k<ts.length)(l7:ks.length<=7):Sml (DD ts) (MM ts) (pq (eO ts) ks):=by
 have h:=Ep pa hk ks.length (N4 _);rw[O3] at h
 have:=h.up (E:=Pd ts ^ (7-ks.length)) (N:=MM ts) (by
  unfold MM
  rw[show 7=ks.length+(7-ks.length) by lia,SO,show ks.length+(7-ks.length)-ks.length=7-ks.length by lia]
  exact OK _ (Ua (Qm _ (by decide)) _))
 rw[<- SO,show ks.length+(7-ks.length)=7 by lia] at this;exact this
theorem fD(pa:dY ts)(t8:ts.length<=8){D:Nat}(h:Sml D M x)(d0:0<D)(hD:D<=Pd ts ^ 8)(hM:M<=10000*(10 ^ 10*Pd ts) ^ 8):Bq 3900 x:=by
 obtain⟨h1,h2⟩:=h.bits d0;have pl:Pd ts<=10 ^ 80:=Oi (Lu pa) (by rw[<- Nat.pow_mul];exact Om (by decide) (by lia));have p8:Pd ts ^ 8<=(10 ^ 80) ^ 8:=Ua pl 8;have q8:(10 ^ 10*Pd ts) ^ 8<=(10 ^ 10*10 ^ 80) ^ 8:=Ua (OK _ pl) 8;have z1:(10 ^ 80) ^ 8<2 ^ 3900:=by decide
 have z2:10000*(10 ^ 10*10 ^ 80) ^ 8<2 ^ 3900:=by decide
 exact⟨Oy (Oi h1 (Oi hM (OK _ q8))) z2,Oy (Oi h2 (Oi hD p8)) z1⟩
theorem yw(pa:dY ts)(t8:ts.length<=8){ks:List Nat}(hk:∀k∈ks,k<ts.length)(l7:ks.length<=7)(i:Nat):Bq 3900 (pq (eO ts) (ks.take i)):=by
 have h:=Es (ks:=ks.take i) pa (fun k Y4=>hk k (Qi Y4)) (by rw[Ot];lia);have p1:=qJ pa;refine fD pa t8 h (QL p1) (Om p1 (by decide)) ?_;unfold MM;exact Oi (Om (Pf (by decide) p1) (by decide)) (Qm _ (by decide))
theorem GF(pa:dY ts)(t8:ts.length<=8){k:Nat}(hk:k<ts.length):Bq 3900 (eO ts k):=by
 have p1:=qJ pa;refine fD pa t8 (Ey pa hk) p1 (XH (by decide) _) ?_;exact Oi (XH (by decide) _) (Qm _ (by decide))
theorem Jv(pa:dY ts){k:Nat}{t:Tn}(ht:ts[k]?=some t):dI [t.q,t.d]=dQ (eO ts k):=by
 obtain⟨_,d0,g,_,_⟩:=pa t (N2 ht);obtain⟨e1,e2⟩:=hZ (t:=t.q) (b:=t.d) (q:=t.q) (d:=t.d) (by lia) ⟨d0,g,rfl⟩;unfold dQ;have e:eO ts k=OM t.q t.d:=by unfold eO;rw[ht]
 rw[e,<- e1,<- e2]
noncomputable def xL(K:Fg):Sp:=fun vs H Q _=>∃(c b:Addr) (xs:List V) (ts:List Tn) (ks:List Nat),vs=[.ref c,.ref b]/\H c=some (.tup xs)/\RzL K H xs (ts.map dT)/\H b=some (.lst ((ni ks).map V.int))/\(∀k∈ks,k<ts.length)/\dY ts/\ts.length<=8/\ks.length<=7/\∀(v:V) (H':Hp),Same H H'->QV K H' v (pq (eO ts) ks)->Q v H'
noncomputable def wU(K:Fg)(oq:Addr):TS:=(am (av (tC (.ref oq)) (ak 2))
 (am (be (bQ K (aa 1)) (ak 3)
 (av (ay (mE K) [] E0 (ac (aa 2) (ac (aq (aE K) (aq (aE K) (aa 0) (aa 3)) (tC (.int 2))) ae))) (ak 2)))
 (aA (aa 2))))
theorem FX{K:Fg}(one:∀H:Hp,SqT K H oq [.int 1,.int 1]){vs:List V}{H:Hp}{N:List Str}(hN:N.length=4)(h:xL K vs H Q E):wU K oq (ends Q) (L2.start N vs) H:=by
 obtain⟨c,b,xs,ts,ks,rfl,hc,rx,hb,hk,pa,t8,l7,k⟩:=h;rw[L2.aU hN];walk_at "t";have lx:xs.length=ts.length:=by rw[rx.length,NQ]
 unfold wU;walk_at "";refine gO (SqL.of hb) ?_;refine bj (xs:=(ni ks).map V.int) (fun i σ H2=>∃(v:V) (u3:Option V),σ=[some (.ref c),some (.ref b),some v,u3]/\Same H H2/\QV K H2 v (pq (eO ts) (ks.take i))) ⟨.ref oq,none,rfl,Same.refl _,oq,rfl,one H⟩ (fun i σ H2 _ ⟨_,_,_,S,_⟩=>SqL.of (S _ _ hb)) ?_ ?_
 ·rintro i x σ H2 hx ⟨v,u3,rfl,S2,qv⟩;obtain⟨m,em,rfl⟩:=pQ hx;have lm:=hk m (N2 em);obtain⟨t,ht⟩:∃t,ts[m]?=some t:=⟨_,NR lm⟩
  obtain⟨z,ez⟩:∃z,xs[m]?=some z:=⟨_,NR (by lia)⟩
  obtain⟨d,g1,g2⟩:=rx.get ez;rw[NW,ht] at g1;cases g1;obtain⟨pt_,z1,z2,z3,rfl,hpt,_,_,q3⟩:=tL (g2.same S2);rw[Jv pa ht] at q3;walk_at "";refine aF (SqT.of (S2 _ _ hc)) (v:=.ref pt_) (aG ez) ?_;walk_at "";refine aF (SqT.of hpt) (v:=z3) rfl ?_;walk_at "";refine⟨v,z3,_,_,rfl,qv,QV.of q3,yw pa t8 hk l7 i,GF pa t8 lm,fun p H3 S3 r3=>?_⟩;walk_at "";refine⟨_,_,rfl,S2.trans S3,?_⟩;rw[yu em];exact QV.of r3
 ·rintro σ H2 ⟨v,u3,rfl,S2,qv⟩;rw[pP,O3] at qv;walk_at "";exact k v H2 S2 qv
theorem vf{α:Type}{p q:α->Bool}:∀l:List α,(∀x∈l,p x=true->q x=false)->(l.filter p).length+(l.filter q).length=(l.filter fun x=>p x || q x).length
 |[],_=>rfl
 |a :: l,h=>by
  have ih:=vf l fun x hx=>h x (NZ _ hx)
  have ha:=h a NX;cases e1:p a <;> cases e2:q a
  ·rw[Pc (by rw[e1];decide),Pc (by rw[e2];decide),Pc (by rw[e1,e2];decide)];exact ih
  ·rw[Pc (by rw[e1];decide),Pl e2,Pl (by rw[e1,e2];rfl),Oz,Oz];lia
  ·rw[Pl e1,Pc (by rw[e2];decide),Pl (by rw[e1];rfl),Oz,Oz];lia
  ·rw[ha e1] at e2;cases e2
noncomputable def rP(es:List (Nat×Nat)):List Nat->Nat
 |[]=>0
 |h :: hs=>(eQ es h).length+rP es hs
theorem xz(es:List (Nat×Nat)):∀{hs:List Nat},hs.Nodup->rP es hs<=((Oa es.length).filter fun k=>hs.contains (bb es k)).length
 |[],_=>OR _
 |h :: hs,nd=>by
  obtain⟨n1,n2⟩:=OO.mp nd;have ih:=xz es n2
  have e:=vf (p:=fun k=>bb es k == h) (q:=fun k=>hs.contains (bb es k)) (Oa es.length) fun k _ hk=>by
   have:bb es k=h:=by simpa using hk
   rw[this];simpa using n1
  have e2:(fun k=>(bb es k == h) || hs.contains (bb es k))=fun k=>(h :: hs).contains (bb es k):=funext fun k=>by rw[List.contains_cons]
  rw[e2] at e;show(eQ es h).length+rP es hs<=_;unfold eQ;lia
theorem yC{es:List (Nat×Nat)}:∀(hs:List Nat) (acc:List (List Nat)),(hs.foldl (jv es) acc).length<=acc.length*2 ^ rP es hs
 |[],acc=>by show acc.length<=acc.length*2 ^ 0;lia
 |h :: hs,acc=>by
  refine Oi (yC hs (jv es acc h)) ?_
  have l1:(jv es acc h).length=acc.length*(eQ es h).length:=by
   unfold jv;rw[List.length_flatMap];clear yC
   induction acc with
   |nil=>rw[R_,List.sum_nil,SD,Tc]
   |cons a acc ih=>rw[OS,Yb,ih,NQ,Oz,RG,W_]
  rw[l1,show rP es (h :: hs)=(eQ es h).length+rP es hs from rfl,SO,<- OV];exact OF _ (OK _ (Qa Nat.lt_two_pow_self))
theorem yA{es:List (Nat×Nat)}(e8:es.length<=8){hs:List Nat}(nd:hs.Nodup)(i:Nat):(pk es (hs.take i)).length<=900:=by
 have h1:=yC (es:=es) (hs.take i) [[]];have h2:=xz es (nd.sublist (SX i hs));have h3:=O6 (fun k=>(hs.take i).contains (bb es k)) (Oa es.length);rw[On] at h3;have h4:2 ^ rP es (hs.take i)<=2 ^ 8:=Om (by decide) (by lia);have h5:[([]:List Nat)].length=1:=rfl;unfold pk;rw[h5] at h1;lia
open Classical in
noncomputable def wq (es:List (Nat×Nat)) (ts:List Tn) (r:Nat) (q:List Nat):Rat:=if TD (prs es q r) r then pq (eO ts) q else 0
theorem y8{α:Type}{l:List α}{f:α->Rat}{j:Nat}{x:α}(e:l[j]?=some x):ls (l.take (j+1)) f=ls (l.take j) f+f x:=by
 rw[Oj,e,pR];show _+(f x+0)=_;rw[Rc]
theorem wG{es:List (Nat×Nat)}{ts:List Tn}{r:Nat}(pa:dY ts):∀{l:List (List Nat)},(∀q∈l,(∀k∈q,k<ts.length)/\q.length<=7)->Sml (DD ts) (l.length*MM ts) (ls l (wq es ts r))
 |[],_=>Sml.zero _ _
 |q :: l,h=>by
  have h1:Sml (DD ts) (MM ts) (wq es ts r q):=by
   unfold wq;split
   ·exact Es pa (h q NX).1 (h q NX).2
   ·exact Sml.zero _ _
  rw[a9,Oz,RG,W_];exact h1.add (wG pa fun x hx=>h x (NZ _ hx))
theorem Ff(pa:dY ts)(t8:ts.length<=8){l:List (List Nat)}(h:∀q∈l,(∀k∈q,k<ts.length)/\q.length<=7)(few:l.length<=900):Bq 3900 (ls l (wq es ts r)):=by
 have p1:=qJ pa;refine fD pa t8 (wG pa h) (QL p1) (Om p1 (by decide)) ?_;unfold MM;exact O2 (by lia) (Om (Pf (by decide) p1) (by decide))
noncomputable def rT(K:Fg):Sp:=fun vs H Q _=>∃(c p b:Addr) (ys xs:List V) (ts:List Tn) (es:List (Nat×Nat)) (L:List Nat) (r:Nat),vs=[.ref c,.ref p,.ref b,.int (r:Int)]/\H c=some (.tup ys)/\RzL K H ys (ts.map dT)/\H p=some (.lst xs)/\RzL K H xs (es.map dP)/\H b=some (.lst ((ni L).map V.int))/\es.length=ts.length/\ts.length<=8/\dY ts/\L.Nodup/\r∈L/\L.length<=8/\(∀k,k<es.length->(bb es k∈L↔aV es k∈L)) /\
 ∀(v:V) (H':Hp),Same H H'->QV K H' v (W es (eO ts) L r)->Q v H'
noncomputable def qX(K:Fg)(nq:Addr):TS:=(am (av (tC (.ref nq)) (ak 4))
 (am (be (bQ K (ay (sd K) [] E0 (ac (aa 1) (ac (gE (bQ K (aa 2)) 1 (ak 0) (aH (aq kP (aa 0) (aa 4))) (aa 0)) ae)))) (ak 5)
 (aI (tB (ay (xG K) [] E0 (ac (aa 1) (ac (aa 5) (ac (aa 3) ae)))))
 (av (ay (r9 K) [] E0 (ac (aa 4) (ac (ay (Tr.xL K) [] E0 (ac (aa 0) (ac (aa 5) ae))) ae))) (ak 4))
 aO))
 (aA (aa 4))))
theorem BP{K:Fg}(zero:∀H:Hp,SqT K H nq [.int 0,.int 1]){vs:List V}{H:Hp}{N:List Str}(hN:N.length=6)(h:rT K vs H Q E):qX K nq (ends Q) (L2.start N vs) H:=by
 obtain⟨c,p,b,ys,xs,ts,es,L,r,rfl,hc,ry,hp,rx,hb,et,t8,pa,nd,hr,l8,cl,k⟩:=h;rw[L2.aU hN];walk_at "t";have ZF:(b5 L r).Nodup:=nd.filter _;have lo:=sM nd hr;unfold qX;walk_at "";refine⟨b,rfl,⟨_,SqL.of hb⟩,?_⟩;refine ig (xs:=(ni L).map V.int) fun D nD=>⟨fun j H2=>AccZ K H D H2 ((b5 (L.take j) r).map dN),AccZ.start (Same.refl _) nD,fun j H2 _ A=>SqL.of (A.same _ _ hb),?_,?_⟩
 ·intro j x H2 hx A us hu;obtain⟨u0,rfl⟩:∃u,us=[u]:=PL.mp hu;have lj:=(NT.mp hx).1;obtain⟨h,eh,rfl⟩:=pQ hx
  have er:b5 (L.take (j+1)) r=b5 (L.take j) r++[h].filter fun x=>x != r:=by
   unfold b5;rw[Oj,eh,PV];rfl
  have lr:(b5 (L.take j) r).length<=8:=Oi (O6 _ _) (by rw[Ot];lia);walk_at "";refine⟨⟨[some (.int (h:Int))],rfl,rfl⟩,?_⟩;walk_at "";refine cH (fun z=>?_) (fun z=>?_)
  ·have z':h≠r:=fun e=>z (by rw[e])
   walk_at "";refine aR lj ?_;refine A.ci (d:=dN h) (.int _) (ar (by rw[NQ];lia)) fun H4 A4=>?_
   show AccZ K H D H4 ((b5 (L.take (j+1)) r).map dN);rw[er,Pl (by simpa using z'),N1];exact A4
  ·have z':h=r:=by lia
   refine fE lj ?_;show AccZ K H D H2 ((b5 (L.take (j+1)) r).map dN);rw[er,Pc (by simpa using z')];simpa using A
 intro H2 A;rw[pP,O3] at A;have hD:H2 D=some (.lst ((ni (b5 L r)).map V.int)):=AccZ.ints (by unfold ni;rw[Ph];exact A);have S2:=A.same;walk_at "";refine⟨p,D,xs,es,b5 L r,rfl,S2 _ _ hp,rx.same S2,by lia,hD,by lia,yA (by lia) ZF,fun q H3 A3=>?_⟩;have few:=yA (es:=es) (by lia) ZF (b5 L r).length;rw[O3] at few;obtain⟨zs,hz,rz⟩:=A3.at_;have lz:zs.length=(pk es (b5 L r)).length:=by rw[rz.length,NQ]
 have S3:=S2.trans A3.same
 have pkm:∀q∈pk es (b5 L r),q.map (bb es)=b5 L r/\∀k∈q,k<es.length:=fun q hq=>by
  obtain⟨a,ha,ks,e1,e2,e3⟩:=yz hq;rw[N7.mp ha,RJ] at e1;rw[e1];exact⟨e2,e3⟩
 have pk7:∀q∈pk es (b5 L r),(∀k∈q,k<ts.length)/\q.length<=7:=fun q hq=>by
  obtain⟨e2,e3⟩:=pkm q hq
  have:=congrArg QD e2
  rw[NQ] at this;exact⟨fun k hk=>by have:=e3 k hk;lia,by lia⟩
 have fin:ls (pk es (b5 L r)) (wq es ts r)=W es (eO ts) L r:=Lj nd hr cl;rw[<- fin] at k;generalize pk es (b5 L r)=P at rz lz few pkm pk7 k;refine gO (SqL.of hz) ?_;refine bj (xs:=zs) (fun j σ H4=>∃(v:V) (u5:Option V),σ=[some (.ref c),some (.ref p),some (.ref b),some (.int (r:Int)),some v,u5]/\Same H3 H4/\QV K H4 v (ls (P.take j) (wq es ts r))) ⟨.ref nq,none,rfl,Same.refl _,nq,rfl,zero H3⟩ (fun j σ H4 _ ⟨_,_,_,S,_⟩=>SqL.of (S _ _ hz)) ?_ ?_
 ·rintro j x σ H4 hx ⟨v,u5,rfl,S4,qv⟩;have lj:=(NT.mp hx).1;obtain⟨d,g1,g2⟩:=rz.get hx;rw[NW] at g1;obtain⟨w,hw,rfl⟩:=N8.mp g1;obtain⟨a,rfl,_,ha⟩:=wn g2;have mw:=N2 hw;obtain⟨m1,m2⟩:=pkm w mw;obtain⟨m3,m4⟩:=pk7 w mw;have S04:=S3.trans S4
  have keys:(prs es w r).map (·.1)=r :: b5 L r:=by
   unfold prs;rw[OS,Ph,<- m1];rfl
  walk_at "";refine⟨p,a,xs,es,w,r,rfl,S04 _ _ hp,rx.same S04,S4 _ _ ha,by lia,m2,?_,?_,fun td H5 S5=>?_,fun td H5 S5=>?_⟩
  ·rw[keys,OO];exact⟨yM,ZF⟩
  ·intro e he;rw[keys]
   have inL:∀h,h∈L->h∈r :: b5 L r:=fun h hh=>by
    by_cases q:h=r
    ·rw[q];exact NX
    ·exact NZ _ (gm.mpr ⟨hh,q⟩)
   rcases Od.mp (show e∈(r,r) :: w.map fun k=>(bb es k,aV es k) from he) with rfl|he
   ·exact NX
   ·obtain⟨k,hk,rfl⟩:=N9.mp he;refine inL _ ((cl k (m2 k hk)).mp ?_)
    have:bb es k∈w.map (bb es):=N9.mpr ⟨k,hk,rfl⟩
    rw[m1] at this;exact(gm.mp this).1
  ·walk_at "";refine⟨c,a,ys,ts,w,rfl,S5 _ _ (S04 _ _ hc),ry.same (S04.trans S5),S5 _ _ (S4 _ _ ha),m3,pa,t8,m4,fun v2 H6 S6 qv2=>?_⟩;walk_at "";have fs:∀q∈P.take j,(∀k∈q,k<ts.length)/\q.length<=7:=fun q hq=>pk7 q (Qi hq)
   refine⟨v,v2,_,_,rfl,(qv.same S5).same S6,qv2,Ff pa t8 fs (by rw[Ot];lia),by have:=yw pa t8 m3 m4 w.length;rw[O3] at this;exact this,fun p2 H7 S7 r7=>?_⟩;walk_at "";refine⟨_,_,rfl,S4.trans (S5.trans (S6.trans S7)),?_⟩;rw[y8 hw,show wq es ts r w=pq (eO ts) w from if_pos td];exact QV.of r7
  ·walk_at "";refine⟨_,_,rfl,S4.trans S5,?_⟩;rw[y8 hw,show wq es ts r w=0 from if_neg td,Rc];exact qv.same S5
 ·rintro σ H4 ⟨v,u5,rfl,S4,qv⟩;rw[lz,O3] at qv;walk_at "";exact k v H4 (S3.trans S4) qv
open PySem L2 Fr G1 Sm Vs G2 Rk Sz Sf Rw Ti Lo
theorem bq{h:Nat}:h∈aJ f v↔h<f.length/\Lo.at_ f h=v:=by
 unfold aJ;rw[Os,Ow,decide_eq_true_eq]
theorem cR(f:List Nat)(v:Nat):(aJ f v).Nodup:=Se.filter _
theorem ju:(aJ f v).length<=f.length:=by
 unfold aJ;exact Oi (O6 _ _) (by rw[On];exact N4 _)
theorem DG{es:List (Nat×Nat)}{k:Nat}(h:k<es.length):(bb es k,aV es k)∈es:=by
 unfold bb aV;rw[NS,NR h];exact OZ h
theorem gH(F:FI n es es f)(ok:HS n es)(v k:Nat)(hk:k<es.length):bb es k∈aJ f v↔aV es k∈aJ f v:=by
 have m:=DG hk;have e:=F.one _ m;have o:=ok _ m;have o1:bb es k<n:=o.1;have o2:aV es k<n:=o.2;have e':Lo.at_ f (bb es k)=Lo.at_ f (aV es k):=e;rw[bq,bq,F.len,e'];constructor
 ·exact fun z=>⟨o2,z.2⟩
 ·exact fun z=>⟨o1,z.2⟩
theorem Ew{L:List Nat}(l:List Nat)(nd:l.Nodup)(s:∀x∈l,x∈L):l.length<=L.length:=a5 nd s
noncomputable def Wt (ts:List Tn) (h:Nat):Rat:=W (al ts) (eO ts) (aJ (ba (aC ts).length (al ts)) (Lo.at_ (ba (aC ts).length (al ts)) h)) h
noncomputable def kv(dv:List (Nat×V)):List (bf×V):=dv.map fun q=>((.inl (q.1:Int):bf),q.2)
theorem zq:∀{dv:List (Nat×V)} {h:Nat},h∉dv.map (·.1)->bI (kv dv) (.inl (h:Int))=none
 |[],h,_=>rfl
 |q :: dv,h,n=>by
  show bI (((.inl (q.1:Int):bf),q.2) :: kv dv) (.inl (h:Int))=_;rw[bo fun z=>n (by have:=SL z;rw[OS,show q.1=h by lia];exact NX)];exact zq fun m=>n (NZ _ m)
theorem J2{dv:List (Nat×V)}{h:Nat}(n:h∉dv.map (·.1)):cm (kv dv) (.inl (h:Int)) v=kv (dv++[(h,v)]):=by
 unfold cm;rw[fA,zq n];show kv dv++[_]=_;unfold kv;rw[N1];rfl
theorem EJ:∀{dv:List (Nat×V)} {h:Nat},h∈dv.map (·.1)->∃v,bI (kv dv) (.inl (h:Int))=some v/\(h,v)∈dv
 |[],h,m=>by cases m
 |q :: dv,h,m=>by
  by_cases e:q.1=h
  ·refine⟨q.2,?_,by rw[<- e];exact NX⟩;show bI (((.inl (q.1:Int):bf),q.2) :: kv dv) (.inl (h:Int))=_;rw[bA (by rw[e])]
  ·obtain⟨v,h1,h2⟩:=EJ (dv:=dv) (h:=h) ((Od.mp m).resolve_left fun z=>e z.symm);refine⟨v,?_,NZ _ h2⟩;show bI (((.inl (q.1:Int):bf),q.2) :: kv dv) (.inl (h:Int))=_;rw[bo fun z=>e (by have:=SL z;lia)];exact h1
theorem QV.put{K:Fg}{de:List (bf×V)}(h:QV K H v x)(hd:H rd=some (.dK de)):QV K (upd H rd o) v x:=by
 obtain⟨a,e,ha⟩:=h;refine⟨a,e,?_⟩;rcases ha with(ha|⟨u,ha⟩)|ha
 ·exact .inl (.inl (by rw[aB fun z=>by rw[z,hd] at ha;cases ha];exact ha))
 ·exact .inl (.inr ⟨u,by rw[aB fun z=>by rw[z,hd] at ha;cases ha];exact ha⟩)
 ·exact .inr ha
noncomputable def Kp(H H':Hp):Prop:=∀c o,H c=some o->(∀de,o≠.dK de)->H' c=some o
theorem Kp.on(k:Kp H H1)(S:Same H1 H2):Kp H H2:=fun c o e n=>S _ _ (k c o e n)
theorem Kp.put{de:List (bf×V)}(k:Kp H H1)(hd:H1 rd=some (.dK de)):Kp H (upd H1 rd o):=fun c o' e n=>by
 have:=k c o' e n
 rw[aB fun z=>by rw[z,hd] at this;exact n de (Oq this).symm];exact this
theorem Kp.lst{H H1:Hp}(k:Kp H H1){c:Addr}{xs:List V}(h:H c=some (.lst xs)):H1 c=some (.lst xs):=k _ _ h fun _ z=>by cases z
theorem Kp.tup{H H1:Hp}(k:Kp H H1){c:Addr}{xs:List V}(h:H c=some (.tup xs)):H1 c=some (.tup xs):=k _ _ h fun _ z=>by cases z
theorem Kp.rz{K:Fg}(k:Kp H H1)(h:RzL K H xs ds):RzL K H1 xs ds:=h.agr ⟨fun _ _ e=>k.tup e,fun _ _ z=>z.elim⟩
structure DI (K:Fg) (ts:List Tn) (H H3:Hp) (rd:Addr) (ks:List Nat) (H4:Hp):Prop where
 same:Same H H4
 keep:Kp H3 H4
 dict:∃dv:List (Nat×V),H4 rd=some (.dK (kv dv))/\dv.map (·.1)=ks/\∀q∈dv,QV K H4 q.2 (Wt ts q.1)
noncomputable def mD(K:Fg):Sp:=fun vs H Q _=>∃(v:V) (ws:List Str) (ts:List Tn),vs=[v]/\Rz K H v (dV ws ts)/\ts.length<=8/\(aC ts).length<=8/\dY ts/\∀(p:Addr) (H':Hp) (xs:List V),H p=none->Same H H'->H' p=some (.lst xs)->xs.length=(aC ts).length->(∀i x,xs[i]?=some x->QV K H' x (Wt ts i))->Q (.ref p) H'
noncomputable def qW(K:Fg):TS:=(am (av (ay (fY K) [] E0 (ac (aa 0) ae)) (ak 1))
 (am (av Eb (ak 2))
 (am (be (bQ K (ay (uk K) [] E0 (ac (aa 0) ae))) (ak 3)
 (be (bQ K (aa 3)) (ak 4)
 (o7 (aa 2) (aa 4) (ay (rT K) [] E0 (ac (aq (aE K) (aa 0) (tC (.int 1))) (ac (aa 1) (ac (aa 3) (ac (aa 4) ae))))))))
 (aA (eI (cC (ac (aZ IS (ac (aa 2) ae)) ae)) (rO (aa 3) (aa 0)))))))
theorem BO{K:Fg}{vs:List V}{N:List Str}(hN:N.length=5)(h:mD K vs H Q E):qW K (ends Q) (L2.start N vs) H:=by
 obtain⟨v,ws,ts,rfl,rv,t8,h8,pa,k⟩:=h;have rv0:=rv;obtain⟨a,v1,v2,rfl,ha,_,r2⟩:=tJ rv;obtain⟨c,ys,rfl,hc,ry⟩:=r2.cP;rw[L2.aU hN];walk_at "t";have ok:=cc ts;have le:(al ts).length=ts.length:=by unfold al;rw[NQ]
 have F:=bU ok;unfold qW;walk_at "";refine⟨.ref a,ws,ts,rfl,rv0,by lia,fun pe H1 A1=>?_⟩;obtain⟨xs,YY,rx⟩:=A1.at_;have S1:=A1.same;walk_at "";intro rd nr;have S2:=S1.trans (aj nr (.dK []));have d2:upd H1 rd (.dK []) rd=some (.dK (kv [])):=ag;have Zl:=aj nr (.dK []) _ _ YY;have rx2:=rx.same (aj nr (.dK []));have nrH:H rd=none:=S1.free nr;generalize upd H1 rd (.dK [])=H2 at S2 d2 Zl rx2 ⊢;walk_at "";refine⟨.ref a,ws,ts,rfl,rv0.same S2,t8,h8,fun lp H3 S3 r3=>?_⟩;obtain⟨lp',zs,elp,_,hl,rz⟩:=Rp.iu r3;cases elp;unfold cU at rz;have lz:zs.length=(fZ (ba (aC ts).length (al ts))).length:=by rw[rz.length,NQ,NQ]
 have hW:∀h,Wt ts h=W (al ts) (eO ts) (aJ (ba (aC ts).length (al ts)) (Lo.at_ (ba (aC ts).length (al ts)) h)) h:=fun _=>rfl
 generalize ba (aC ts).length (al ts)=f at F rz lz hW;generalize (aC ts).length=n at F ok h8 k;have fl:=F.len;have hpe3:=S3 _ _ Zl;have rx3:=rx2.same S3;have hc3:=S3 _ _ (S2 _ _ hc);have ry3:=(ry.same S2).same S3;have ha3:=S3 _ _ (S2 _ _ ha)
 have lo:∀i L,(fZ f)[i]?=some L->∃v,((Oa f.length).filter fun v=>Lo.at_ f v=v)[i]?=some v/\L=aJ f v:=fun i L e=>by
  unfold fZ at e;rw[NW] at e;obtain⟨v,h1,h2⟩:=N8.mp e;exact⟨v,h1,h2.symm⟩
 have vnd:((Oa f.length).filter fun v=>Lo.at_ f v=v).Nodup:=Se.filter _;generalize hV:(Oa f.length).filter (fun v=>Lo.at_ f v=v)=Vs at lo vnd;have D0:DI K ts H H3 rd [] H3:=⟨S2.trans S3,fun _ _ e _=>e,[],S3 _ _ d2,rfl,fun q hq=>by cases hq⟩
 let Dn:Nat->List Nat->Prop:=fun i ks=>ks.Nodup/\∀h,h∈ks↔h<n/\∃m,m<i/\Vs[m]?=some (Lo.at_ f h)
 have Dn0:Dn 0 []:=⟨P5,fun h=>⟨(fun z=>by cases z),fun⟨_,m,hm,_⟩=>absurd hm (PD _)⟩⟩
 refine gO (SqL.of hl) ?_;refine bj (xs:=zs) (fun i σ H4=>∃(u3 u4:Option V) (ks:List Nat),σ=[some (.ref a),some (.ref pe),some (.ref rd),u3,u4]/\DI K ts H H3 rd ks H4/\Dn i ks) ⟨none,none,[],rfl,D0,Dn0⟩ (fun i σ H4 _ ⟨_,_,_,_,D,_⟩=>SqL.of (D.keep.lst hl)) ?_ ?_
 ·rintro i x σ H4 hx ⟨u3,u4,ks,rfl,D,dn⟩;have li:=(NT.mp hx).1;obtain⟨d,g1,g2⟩:=rz.get hx;rw[NW,NW] at g1;cases eL:(fZ f)[i]? with
  |none=>rw[eL] at g1;cases g1
  |some L =>
   rw[eL] at g1;cases g1;obtain⟨b,rfl,_,hb⟩:=wn g2;obtain⟨w,ew,rfl⟩:=lo i L eL;have hb':H3 b=some (.lst ((ni (aJ f w)).map V.int)):=hb;walk_at "";refine gO (SqL.of (D.keep.lst hb')) ?_;refine bj (xs:=(ni (aJ f w)).map V.int) (fun j σ H5=>∃(u4:Option V),σ=[some (.ref a),some (.ref pe),some (.ref rd),some (.ref b),u4]/\DI K ts H H3 rd (ks++(aJ f w).take j) H5) ⟨u4,rfl,by simpa using D⟩ (fun j σ H5 _ ⟨_,_,D⟩=>SqL.of (D.keep.lst hb')) ?_ ?_
   ·rintro j x σ H5 hx5 ⟨u4,rfl,D5⟩;obtain⟨h,eh,rfl⟩:=pQ hx5;have mh:=N2 eh;obtain⟨hn,ah⟩:=bq.mp mh
    have nk:h∉ks++(aJ f w).take j:=by
     intro m;rcases N_.mp m with m|m
     ·obtain⟨_,t,ht,et⟩:=(dn.2 h).mp m;rw[ah] at et;have l1:=(NT.mp et)
      have l2:=(NT.mp ew)
      have:=(R5 (h₀:=l1.1) (h₁:=l2.1) vnd).mp (by rw[l1.2,l2.2])
      lia
     ·obtain⟨t,et⟩:=ON m
      have tj:t<j:=by
       have:=(NT.mp et).1
       rw[Ot] at this;lia
      rw[UQ tj] at et;have l1:=(NT.mp et)
      have l2:=(NT.mp eh)
      have:=(R5 (h₀:=l1.1) (h₁:=l2.1) (cR f w)).mp (by rw[l1.2,l2.2])
      lia
    walk_at "";refine aF (SqT.of (D5.keep.tup ha3)) (v:=.ref c) rfl ?_;walk_at "";refine⟨c,pe,b,ys,xs,ts,al ts,aJ f w,h,rfl,D5.keep.tup hc3,D5.keep.rz ry3,D5.keep.lst hpe3,D5.keep.rz rx3,D5.keep.lst hb',le,t8,pa,cR f w,mh,Oi ju (by lia),gH F ok w,fun v6 H6 S6 qv=>?_⟩;obtain⟨dv,q1,q2,q3⟩:=D5.dict;have d6:=S6 _ _ q1;have nkd:h∉dv.map (·.1):=by rw[q2];exact nk
    have ldv:dv.length<=100:=by
     have l1:(dv.map (·.1)).length<=(Oa n).length:=by
      refine a5 ?_ fun x hx=>?_
      ·rw[q2];refine RV.mpr ⟨dn.1,(cR f w).sublist (SX _ _),fun x hx y hy e=>?_⟩;subst e;obtain⟨_,t,ht,et⟩:=(dn.2 x).mp hx
       have:=(bq.mp (Qi hy)).2
       rw[this] at et;have l1:=(NT.mp et)
       have l2:=(NT.mp ew)
       have:=(R5 (h₀:=l1.1) (h₁:=l2.1) vnd).mp (by rw[l1.2,l2.2])
       lia
      ·rw[q2] at hx;rw[Ow];rcases N_.mp hx with hx|hx
       ·exact((dn.2 x).mp hx).1
       ·have:=(bq.mp (Qi hx)).1
        lia
     rw[NQ,On] at l1;lia
    walk_at "";refine⟨rd,_,rfl,(DPut.k d6 (ar (by unfold kv;rw[NQ];lia)):DPut H6 rd (kV (.inl (h:Int))) _ _),?_⟩;refine⟨_,rfl,fun e o q=>?_,(D5.keep.on S6).put d6,dv++[(h,v6)],?_,?_,fun q hq=>?_⟩
    ·rw[aB (au q nrH)];exact S6 _ _ (D5.same e o q)
    ·rw[ag,J2 nkd]
    ·rw[N1,q2,Oj,eh,Pi];rfl
    ·rcases N_.mp hq with hq|hq
     ·exact((q3 q hq).same S6).put d6
     ·rw[N7.mp hq];refine QV.put ?_ d6;show QV K H6 v6 (Wt ts h);rw[hW h,ah];exact qv
   ·rintro σ H5 ⟨u4,rfl,D5⟩;rw[pP,O3] at D5;walk_at "";refine⟨_,_,_,rfl,D5,RV.mpr ⟨dn.1,cR f w,fun x hx y hy e=>?_⟩,fun h=>?_⟩
    ·subst e;obtain⟨_,t,ht,et⟩:=(dn.2 x).mp hx;rw[(bq.mp hy).2] at et;have l1:=(NT.mp et)
     have l2:=(NT.mp ew)
     have:=(R5 (h₀:=l1.1) (h₁:=l2.1) vnd).mp (by rw[l1.2,l2.2])
     lia
    ·rw[N_,dn.2 h,bq,fl];constructor
     ·rintro(⟨q1,m,hm,em⟩|⟨q1,q2⟩)
      ·exact⟨q1,m,by lia,em⟩
      ·exact⟨q1,i,by lia,by rw[q2];exact ew⟩
     ·rintro⟨q1,m,hm,em⟩;rcases Ug m i with z|z
      ·exact .inl ⟨q1,m,z,em⟩
      ·rw[show m=i by lia,ew] at em;exact .inr ⟨q1,(Oq em).symm⟩
 rintro σ H4 ⟨u3,u4,ks,rfl,D,dn⟩;obtain⟨dv,q1,q2,q3⟩:=D.dict
 have all:∀h,h∈ks↔h<n:=fun h=>by
  rw[dn.2 h];refine⟨fun z=>z.1,fun z=>⟨z,?_⟩⟩
  have m:Lo.at_ f h∈Vs:=by
   rw[<- hV,Os,Ow,decide_eq_true_eq,fl];exact⟨Oy (F.le h z) z,F.fix h z⟩
  obtain⟨t,et⟩:=ON m;refine⟨t,?_,et⟩
  have:=(NT.mp et).1
  rw[lz];unfold fZ;rw[NQ,hV];exact this
 have lk2:ks.length=n:=by
  have l1:=a5 (hs:=Oa n) dn.1 fun x hx=>Ow.mpr ((all x).mp hx)
  have l2:=a5 (hs:=ks) (Se (n:=n)) fun x hx=>(all x).mpr (Ow.mp hx)
  rw[On] at l1 l2;lia
 have ldv:(kv dv).length=n:=by
  unfold kv;rw[NQ,<- lk2,<- q2,NQ]
 walk_at "";refine⟨rd,_,rfl,q1,?_⟩;rw[ldv];refine⟨_,rfl,by lia,by lia,?_⟩;rw[OT];refine dD (n:=n) fun E nE=>⟨fun j H5=>∃us:List V,H5=upd H4 E (.lst us)/\us.length=j/\∀i x,us[i]?=some x->QV K H4 x (Wt ts i),⟨[],rfl,rfl,fun i x e=>by cases e⟩,?_,?_⟩
 ·rintro j H5 hj ⟨us,rfl,lu,qs⟩;rw[PY];have q15:=aj nE (.lst us) _ _ q1;obtain⟨v,e1,e2⟩:=EJ (dv:=dv) (h:=j) (by rw[q2];exact(all j).mpr hj);walk_at "";refine⟨rd,_,rfl,(by have:=(DGet.k q15:DGet _ rd (kV (.inl (j:Int))) _);rw[e1] at this;exact this),?_⟩;refine aR hj ⟨us,ag,ar (by lia),us++[v],?_,by rw[N6,lu];rfl,fun i x e=>?_⟩
  ·funext z;unfold upd;by_cases w:z=E
   ·rw[if_pos w,if_pos w]
   ·rw[if_neg w,if_neg w,if_neg w]
  ·rcases Ug i us.length with z|z
   ·rw[O5 z] at e;exact qs i x e
   ·have li:=(NT.mp e).1;rw[N6,Qt] at li;have ei:i=us.length:=by lia
    subst ei;rw[Pj (N4 _),Vn] at e;cases e;rw[lu];exact q3 _ e2
 ·rintro H5 ⟨us,rfl,lu,qs⟩;exact k E _ us (D.same.free nE) (D.same.trans (aj nE _)) ag lu fun i x e=>(qs i x e).same (aj nE _)
noncomputable def i4(K:Fg):Sp:=fun vs H Q _=>∃t b:Int,vs=[.int t,.int b]/\0<b/\t.natAbs<2 ^ 8000/\b.natAbs<2 ^ 8000/\∀(p:Addr) (q d:Int) (H':Hp),Same H H'->Gd.Low t b q d->q.natAbs<=t.natAbs->d.natAbs<=b.natAbs->Rz K H' (.ref p) (dI [q,d])->Q (.ref p) H'
noncomputable def wY(K:Fg):TS:=(am (av (ay ko [] E0 (ac (aa 0) (ac (aa 1) ae))) (ak 2))
 (aA (bJ (ac (aq iI (aa 0) (aa 2)) (ac (aq iI (aa 1) (aa 2)) ae)))))
theorem F1{K:Fg}{vs:List V}{N:List Str}(hN:N.length=3)(h:i4 K vs H Q E):wY K (ends Q) (L2.start N vs) H:=by
 obtain⟨t,b,rfl,b0,ht,hb,k⟩:=h;rw[L2.aU hN];walk_at "t";unfold wY;have p2:(2:Nat) ^ 8000<2 ^ 9000:=TX (by decide) (by decide);have nb:b≠0:=by lia
 have gp:=Gd.vb (a:=t) nb;have gl:=Gd.KN (a:=t) nb;have wd:(Gd.gd t b).natAbs<2 ^ 9000:=Oy (by lia) (OL hb p2);have L:=Gd.zb (t:=t) (b:=b) (d:=Gd.gd t b) nb (.inl ⟨rfl,b0⟩);have M:=Gd.zd (t:=t) (b:=b) (d:=Gd.gd t b) nb (.inl ⟨rfl,b0⟩);walk_at "";refine⟨t,b,rfl,?_⟩;walk_at "";refine jN ⟨by lia,wd⟩ ?_;walk_at "";refine jN ⟨by lia,wd⟩ ?_;walk_at "";refine⟨aQ,fun p np=>?_⟩;exact k p _ _ _ (aj np _) L M.1 M.2 (.tup ag (RpL.ints [_,_]))
theorem ze{K:Fg}{t b:Int}{Q:VK}(t0:0<t)(b0:0<b)(t1:t<=10000000000)(b1:b<=10000000000)(k:∀(p:Addr) (q d:Int) (H':Hp),Same H H'->j3 q d->Rz K H' (.ref p) (dI [q,d])->Q (.ref p) H'):i4 K [.int t,.int b] H Q E:=by
 have z:(10000000000:Nat)<2 ^ 8000:=OB (show(10000000000:Nat)<2 ^ 40 by decide) (Om (by decide) (by decide));refine⟨t,b,rfl,b0,Oy (by lia) z,Oy (by lia) z,fun p q d H' S L m1 m2 r=>k p q d H' S ⟨?_,L.pos,L.low,?_,?_⟩ r⟩
 ·have w:=L.worth
  have:=L.pos
  by_cases z:0<q
  ·exact z
  ·have h1:q*b<=0:=Int.mul_nonpos_of_nonpos_of_nonneg (by lia) (by lia);have h2:0<t*d:=Xx t0 L.pos;lia
 ·lia
 ·have:=L.pos
  lia
noncomputable def rA(K:Fg):TS:=(am (aI (aH (aq fF (aa 1) (tC (.int 0))))
 (aA (bJ (ac (tC (.int 1)) (ac (tC (.int 1)) ae))))
 aO)
 (am (aI (aH (aq fF (aa 1) (tC (.int 1))))
 (aA (ay (i4 K) [] E0 (ac (aq bG (tC (.int 1)) (aq bi (aa 0) (tC (.int 6)))) (ac (aq bG (tC (.int 1)) (aq bi (aq c8 (aa 0) (tC (.int 6))) (tC (.int 5)))) ae))))
 aO)
 (aA (ay (i4 K) [] E0 (ac (aq bG (tC (.int 1)) (aq bi (aa 0) (aq Cp (tC (.int 10)) (tC (.int 9))))) (ac (aq bG (tC (.int 1)) (aq bi (aq c8 (aa 0) (aq Cp (tC (.int 10)) (tC (.int 9)))) (aq Cp (tC (.int 10)) (tC (.int 9))))) ae))))))
theorem BZ{K:Fg}{vs:List V}{N:List Str}(hN:N.length=2)(h:sj K vs H Q E):rA K (ends Q) (L2.start N vs) H:=by
 obtain⟨a,b,rfl,k⟩:=h;rw[L2.aU hN];walk_at "t";unfold rA;walk_at "";refine a6 (fun z=>?_) (fun z=>?_)
 ·walk_at "";refine⟨aQ,fun p np=>?_⟩;exact k p 1 1 _ (aj np _) ⟨by decide,by decide,M8,by decide,by decide⟩ (.tup ag (RpL.ints [1,1]))
 walk_at "";refine a6 (fun z=>?_) (fun z=>?_)
 ·walk_at "";exact ze (by lia) (by lia) (by lia) (by lia) k
 ·walk_at "";rw[p9];walk_at "";rw[p9];walk_at "";rw[p9];walk_at "";exact ze (by lia) (by lia) (by lia) (by lia) k
noncomputable def l9(K:Fg):TS:=(aA (ay (i4 K) [] E0 (ac (aq jq (aq (aE K) (aa 0) (tC (.int 0))) (aq (aE K) (aa 1) (tC (.int 0)))) (ac (aq jq (aq (aE K) (aa 0) (tC (.int 1))) (aq (aE K) (aa 1) (tC (.int 1)))) ae))))
theorem Lh(pa:dY ts)(t8:ts.length<=8)(h8:(aC ts).length<=8){h:Nat}(hh:h<(aC ts).length):Sml (DD ts) (900*MM ts) (Wt ts h):=by
 have ok:=cc ts;have F:=bU ok;have le:(al ts).length=ts.length:=by unfold al;rw[NQ]
 unfold Wt;generalize ba (aC ts).length (al ts)=f at F;have nd:=cR f (Lo.at_ f h);have hr:h∈aJ f (Lo.at_ f h):=bq.mpr ⟨by rw[F.len];exact hh,rfl⟩;have ZF:(b5 (aJ f (Lo.at_ f h)) h).Nodup:=nd.filter _;have few:=yA (es:=al ts) (by lia) ZF (b5 (aJ f (Lo.at_ f h)) h).length;rw[O3] at few;have lo:=sM nd hr;have l8:(aJ f (Lo.at_ f h)).length<=8:=Oi ju (by rw[F.len];exact h8);rw[<- Lj nd hr (gH F ok _)]
 have s:=wG (es:=al ts) (r:=h) pa (l:=pk (al ts) (b5 (aJ f (Lo.at_ f h)) h)) fun q hq=>by
  obtain⟨a,ha,ks,e1,e2,e3⟩:=yz hq;rw[N7.mp ha,RJ] at e1
  have:=congrArg QD e2
  rw[NQ] at this;rw[e1];exact⟨fun k hk=>by have:=e3 k hk;lia,by lia⟩
 obtain⟨m,e,l⟩:=s;exact⟨m,e,Oi l (OF _ few)⟩
theorem Nh{j:Nat}(hj:j<(aC ts).length):ls ((Oa (al ts).length).filter fun k=>aV (al ts) k == j) (fun k=>eO ts k*Wt ts (bb (al ts) k))=ls ((Oa (al ts).length).filter fun k=>bb (al ts) k == j) fun k=>eO ts k*Wt ts (bb (al ts) k):=by
 have ok:=cc ts;have F:=bU ok;have hW:∀h,Wt ts h=W (al ts) (eO ts) (aJ (ba (aC ts).length (al ts)) (Lo.at_ (ba (aC ts).length (al ts)) h)) h:=fun _=>rfl
 generalize ba (aC ts).length (al ts)=f at F hW;generalize al ts=es at ok F hW;have nd:=cR f (Lo.at_ f j);have mj:j∈aJ f (Lo.at_ f j):=bq.mpr ⟨by rw[F.len];exact hj,rfl⟩;have b:=DT (es:=es) (pc:=eO ts) nd mj (gH F ok _) Ew
 have e1:ls ((Oa es.length).filter fun k=>aV es k == j) (fun k=>eO ts k*Wt ts (bb es k))=ls ((Oa es.length).filter fun k=>aV es k == j) fun k=>eO ts k*W es (eO ts) (aJ f (Lo.at_ f j)) (bb es k):=a_ fun k hk=>by
  obtain⟨m1,m2⟩:=Os.mp hk;have m2':aV es k=j:=by simpa using m2
  have:=F.one _ (DG (Ow.mp m1))
  have this':Lo.at_ f (bb es k)=Lo.at_ f (aV es k):=this;rw[hW,this',m2']
 have e2:ls ((Oa es.length).filter fun k=>bb es k == j) (fun k=>eO ts k*Wt ts (bb es k))=ls (eQ es j) fun k=>eO ts k*W es (eO ts) (aJ f (Lo.at_ f j)) j:=a_ fun k hk=>by
  obtain⟨m1,m2⟩:=Os.mp hk;rw[show bb es k=j by simpa using m2,hW]
 rw[e1,e2];exact b
theorem yf(h:Rch es a b):∃n,Pn es n a b:=by
 induction h with
 |refl=>exact⟨0,rfl⟩
 |@step x y _ m ih =>
  obtain⟨n,p⟩:=ih;obtain⟨k,hk⟩:=ON m;obtain⟨e1,e2⟩:=zZ hk;have lk:=(NT.mp hk).1
  have:=Pn.snoc (es:=es) (k:=k) lk (n:=n) (a:=a) (by rw[e1];exact p)
  rw[e2] at this;exact⟨n+1,this⟩
theorem qz{es:List (Nat×Nat)}(bk:∀e∈es,Rch es e.2 e.1)(h:Rch (dX es) a b):Rch es a b:=by
 induction h with
 |refl=>exact .refl
 |@step x y _ m ih =>
  refine Rch.trans ih ?_;rcases N_.mp m with m|m
  ·exact .step .refl m
  ·obtain⟨e,he,z⟩:=N9.mp m;cases z;exact bk e he
theorem na{x:Rat}:0<x.num↔0<x:=by
 constructor
 ·intro h;have h1:=V1.mp (Int.le_of_lt h);have h2:x≠0:=fun e=>by rw[e] at h;exact absurd h (by decide)
  grind
 ·intro h;have h1:=V1.mpr (Ui h)
  have h2:x.num≠0:=fun e=>by
   have:=XI.mp e
   rw[this] at h;exact absurd h (by decide)
  lia
theorem Ez(pa:dY ts){k:Nat}(hk:k<ts.length):0<eO ts k:=by
 obtain⟨t,ht⟩:∃t,ts[k]?=some t:=⟨_,NR hk⟩
 obtain⟨q0,d0,g,_,_⟩:=pa t (N2 ht);obtain⟨e1,e2⟩:=hZ (t:=t.q) (b:=t.d) (q:=t.q) (d:=t.d) (by lia) ⟨d0,g,rfl⟩;have e:eO ts k=OM t.q t.d:=by unfold eO;rw[ht]
 rw[e];exact na.mp (by rw[<- e1];exact q0)
theorem vD(pa:dY ts)(bk:∀e∈al ts,Rch (al ts) e.2 e.1){h:Nat}(hh:h<(aC ts).length):0<(Wt ts h).num:=by
 have ok:=cc ts;have F:=bU ok;have le:(al ts).length=ts.length:=by unfold al;rw[NQ]
 refine na.mpr ?_;unfold Wt;generalize ba (aC ts).length (al ts)=f at F;have mh:h∈aJ f (Lo.at_ f h):=bq.mpr ⟨by rw[F.len];exact hh,rfl⟩;refine Nm (cR f _) mh (gH F ok _) Ew (fun k hk=>Ez pa (by lia)) fun x hx=>?_
 obtain⟨x1,x2⟩:=bq.mp hx;rw[F.len] at x1;exact yf (qz bk ((F.tied x1 hh).mp x2))
end Tr
namespace L2
open PySem PySem.Spec PyProof.Rows
noncomputable def sJ (K:Fg):List V->Hp->VK->Prop:=fun xs H Q=>∃(a:Addr) (ys:List V) (n:String) (b:Bool),xs=[.ref a,.ty n]/\SqT K H a ys/\OA K (.type "tuple") (.type n)=some b/\Q (.bl b) H
theorem AC:dZ X (.builtin "isinstance") (sJ X.K):=by
 intro ν s σ H xs us Q I r h;obtain⟨a,ys,n,b,rfl,sq,e,q⟩:=h;obtain⟨u,u',rfl,rx,ry⟩:=vals2 r;obtain rfl:u'=To n:=ry;cases (show u=O9 a from rx);obtain⟨_,_,p,_⟩:=I.tuple sq;obtain⟨o,h1,h2,_⟩:=p;exact PN Wz I.kIn ⟨o,h1,h2⟩ e (fun z=>nomatch z) fun tk=>⟨.bl b,H,I.tok tk,rfl,q⟩
end L2
namespace Rd
end Rd
namespace Wq
end Wq
namespace Nv
end Nv
namespace Rk
noncomputable def Sp(R:List (List Int))(φ:Nat->Int):Prop:=∃(g:Int) (d:List Int),g≠0/\d.length=R.length/\∀q,g * φ q=aN d R q
theorem Sp.zero(R:List (List Int)):Sp R fun _=>0:=⟨1,PM R.length 0,by decide,P4,fun q=>by rw[vw fun c hc=>(Ux.mp hc).2];rfl⟩
theorem Sp.smul(h:Sp R φ)(c:Int):Sp R fun q=>c * φ q:=by
 obtain⟨g,d,hg,ld,e⟩:=h;refine⟨g,d.map fun x=>c*x,hg,by rw[NQ];exact ld,fun q=>?_⟩;rw[ce,<- e q,<- OE,<- OE,O0 g c]
theorem Sp.add(h:Sp R φ)(k:Sp R ψ):Sp R fun q=>φ q + ψ q:=by
 obtain⟨g,d,hg,ld,e⟩:=h;obtain⟨f,c,hf,lc,m⟩:=k;refine⟨g*f,RA (· + ·) (d.map fun x=>f*x) (c.map fun x=>g*x),fun z=>(OP.mp z).elim hg hf,by rw[T9,NQ,NQ,ld,lc,Nat.min_self],fun q=>?_⟩;rw[tF _ _ _ _ (by rw[NQ,NQ,ld,lc]),ce,ce,<- e q,<- m q,Px];have e1:g*f * φ q=f*(g * φ q):=by rw[<- OE,O0 g f]
 have e2:g*f * ψ q=g*(f * ψ q):=OE _ _ _;rw[e1,e2]
theorem Sp.of{ψ:Nat->Int}(h:Sp R φ)(e:∀q,ψ q=φ q):Sp R ψ:=by
 obtain⟨g,d,hg,ld,m⟩:=h;exact⟨g,d,hg,ld,fun q=>by rw[e q];exact m q⟩
theorem Sp.div{ψ:Nat->Int}{c:Int}(hc:c≠0)(h:Sp R φ)(e:∀q,c * ψ q=φ q):Sp R ψ:=by
 obtain⟨g,d,hg,ld,m⟩:=h;refine⟨g*c,d,fun z=>(OP.mp z).elim hg hc,ld,fun q=>?_⟩;rw[OE,e q];exact m q
theorem Sp.cons{R:List (List Int)}{φ:Nat->Int}(r:List Int)(h:Sp R φ):Sp (r :: R) φ:=by
 obtain⟨g,d,hg,ld,m⟩:=h;refine⟨g,0 :: d,hg,by rw[Oz,Oz,ld],fun q=>?_⟩;show _=0*pt r q+aN d R q;rw[Qz,PY];exact m q
theorem Sp.mem:∀{R:List (List Int)} {r:List Int},r∈R->Sp R (pt r)
 |s :: R,r,h=>by
  rcases Od.mp h with rfl|h
  ·refine⟨1,1 :: PM R.length 0,by decide,by simp,fun q=>?_⟩;show 1*pt r q=1*pt r q+aN (PM R.length 0) R q;rw[vw fun c hc=>(Ux.mp hc).2,PP]
  ·exact(Sp.mem h).cons s
theorem Sp.dots{G:List (List Int)}:∀(d:List Int) (R:List (List Int)),(∀r∈R,Sp G (pt r))->Sp G (aN d R)
 |[],R,_=>(Sp.zero G).of fun q=>by cases R <;> rfl
 |_ :: _,[],_=>(Sp.zero G).of fun q=>rfl
 |a :: d,r :: R,h=>(((h r NX).smul a).add (Sp.dots d R fun s hs=>h s (NZ _ hs))).of fun _=>rfl
theorem Sp.trans(h:Sp R φ)(k:∀r∈R,Sp G (pt r)):Sp G φ:=by
 obtain⟨g,d,hg,ld,m⟩:=h;exact(Sp.dots d R k).div hg m
theorem L0{x:List Int}(f:bh G)(n : ¬ bh (G++[x])):Sp G (pt x):=by
 apply Pq;intro no;refine n fun a la ha=>?_
 obtain⟨b,c,rfl,lb,lc⟩:=split_len la
 obtain⟨y,rfl⟩:∃y,c=[y]:=by
  match c,lc with
  |[y],_=>exact⟨y,rfl⟩
 have h0:∀p,aN b G p+y*pt x p=0:=fun p=>by
  have:=ha p
  rw[bY _ _ _ lb] at this;have e:aN [y] [x] p=y*pt x p:=by show y*pt x p+0=_;rw[PP]
  rw[e] at this;exact this
 have hy:y=0:=Pq fun q=>no ⟨y,b.map fun z=>(-1)*z,q,by rw[NQ];exact lb,fun p=>by rw[ce];have:=h0 p;lia⟩
 subst hy;have hb:=f b lb fun p=>by have:=h0 p;rw[Qz,PP] at this;exact this
 intro z hz;rcases N_.mp hz with q|q
 ·exact hb z q
 ·exact N7.mp q
theorem fJ{R:List (List Int)}:∀i,bh (Sf.rowsOf R (Sf.grd R i))
 |0=>fun a la _ c hc=>by
  have:a=[]:=OQ (by rw[la];rfl)
  rw[this] at hc;cases hc
 |i+1=>by
  by_cases h:bh (Sf.rowsOf R (Sf.grd R i)++[R.getD i []])
  ·rw[Sf.cD rfl h];unfold Sf.rowsOf at h ⊢;rw[N1];exact h
  ·rw[Sf.dC rfl h];exact fJ i
theorem Sp.app{S:List (List Int)}(h:Sp R φ):Sp (R++S) φ:=h.trans fun r hr=>Sp.mem (Oe _ hr)
theorem zO{R:List (List Int)}:∀(i j:Nat),j<i->Sp (Sf.rowsOf R (Sf.grd R i)) (pt (R.getD j []))
 |0,j,h=>absurd h (PD _)
 |i+1,j,hj=>by
  by_cases h:bh (Sf.rowsOf R (Sf.grd R i)++[R.getD i []])
  ·have e:Sf.rowsOf R (Sf.grd R (i+1))=Sf.rowsOf R (Sf.grd R i)++[R.getD i []]:=by
    rw[Sf.cD rfl h];unfold Sf.rowsOf;rw[N1];rfl
   rw[e];by_cases q:j<i
   ·exact(zO i j q).app
   ·have:j=i:=by lia
    subst this;exact Sp.mem (Ob _ (N7.mpr rfl))
  ·have e:Sf.rowsOf R (Sf.grd R (i+1))=Sf.rowsOf R (Sf.grd R i):=by rw[Sf.dC rfl h]
   rw[e];by_cases q:j<i
   ·exact zO i j q
   ·have:j=i:=by lia
    subst this;exact L0 (fJ j) h
end Rk
namespace Lk
open Rk Sf Ti Lo
theorem uC(a b:List Int)(q:Nat):pt (a++b) q=if q<a.length then pt a q else pt b (q-a.length):=by
 unfold pt;rw[NS,List.getElem?_append];split
 ·rw[NS]
 ·rw[NS]
theorem gQ{R:List (List Int)}:∀{k i:Nat},i∈grd R k->i<k
 |0,i,h=>by
  have:grd R 0=[]:=rfl
  rw[this] at h;cases h
 |k+1,i,h=>by
  by_cases f:bh (rowsOf R (grd R k)++[R.getD k []])
  ·rw[cD rfl f] at h;rcases N_.mp h with q|q
   ·have:=gQ q
    lia
   ·rw[N7.mp q];lia
  ·rw[dC rfl f] at h
   have:=gQ h
   lia
theorem BJ{r:List Int}(h:r∈rowsOf R (grd R k)):∃i,i<k/\r=R.getD i []:=by
 obtain⟨i,hi,rfl⟩:=N9.mp h;exact⟨i,gQ hi,rfl⟩
noncomputable def reps(f:List Nat):List Nat:=(Oa f.length).filter fun v=>at_ f v=v
noncomputable def mk(Y:Nat->List Int)(f:List Nat)(h:Nat):List Int:=Y h++(reps f).map fun v=>if at_ f h=v then 1 else 0
theorem FM(f:List Nat):(reps f).Nodup:=List.Pairwise.filter _ Se
theorem C4{v:Nat}:v∈reps f↔v<f.length/\at_ f v=v:=by
 unfold reps;rw[Os,Ow,decide_eq_true_iff]
end Lk
namespace Mb
open Rk Sz Sf Cl Mk Bo
theorem vq{d:Int}:∀(r:List Int) (g:Int),d∣g->(∀x∈r,d∣x)->d∣r.foldl Gd.gd g
 |[],g,h,_=>h
 |y :: r,g,h,hr=>vq r (Gd.gd g y) (Int.dvd_coe_gcd h (hr y NX)) fun x hx=>hr x (NZ _ hx)
theorem Hq{g a:Int}(h1:cE m=1)(h:∀x∈m,g∣a*x):g∣a:=by
 have d:=vq (m.map fun x=>a*x) (a*0) ⟨0,by simp⟩ fun x hx=>by
  obtain⟨y,hy,rfl⟩:=N9.mp hx;exact h y hy
 rcases qk (g:=a) m 0 with e|⟨e,_⟩
 ·rw[e] at d;unfold cE at h1;rw[h1,VM] at d;exact Int.dvd_natAbs.mp d
 ·subst e;cases h1
theorem Ef{n:Nat}{x:Nat->Int}:∀(d:List Int) (S:List (List Int)),(∀r∈S,sm n (fun q=>pt r q*x q)=0)->sm n (fun q=>aN d S q*x q)=0
 |[],S,_=>by
  refine(aK fun k _=>?_).trans (dH (f:=fun _=>0) fun _ _=>rfl);cases S <;> exact Qz _
 |_ :: _,[],_=>(aK fun k _=>Qz _).trans (dH (f:=fun _=>0) fun _ _=>rfl)
 |c :: d,r :: S,h=>by
  have ih:=Ef d S fun s hs=>h s (NZ _ hs)
  have e:sm n (fun q=>aN (c :: d) (r :: S) q*x q)=sm n (fun q=>c*(pt r q*x q))+sm n (fun q=>aN d S q*x q):=by
   rw[<- Bo.iq];refine aK fun q _=>?_
   show(c*pt r q+aN d S q)*x q=_;rw[Q9,OE]
  rw[e,ih,i_,h r NX];simp
theorem xQ{R:List (List Int)}{y:List Int}{q:Nat}:∀t,qP R y q t=sm t fun j=>pt (R.getD j []) q*pt y j
 |0=>rfl
 |t+1=>by
  show qP R y q t+pt y t*pt (R.getD t []) q=sm t (fun j=>pt (R.getD j []) q*pt y j)+pt (R.getD t []) q*pt y t;rw[xQ t,O0]
theorem sL{n j:Nat}(h:j<n):pt ((Oa n).map x) j=x j:=by
 unfold pt;rw[NS,NW,OW h];rfl
theorem ym{R:List (List Int)}{q:Nat}(h:q<R.length):pt (dF R k) q=pt (R.getD q []) k:=by
 rw[Em,NS,NR h];rfl
structure Of (R:List (List Int)) (m:List Int) (k:Nat):Prop where
 lt:k<R.length
 no : ¬ bh (rowsOf R (grd R k)++[R.getD k []])
 own:pt m k≠0
 out:∀j,j∉grd R k->j≠k->pt m j=0
theorem uJ(h:pt r q=0):pt (bw r) q=0:=by
 obtain⟨g,hg,eg⟩:=eZ r
 have:=eg q
 rw[h] at this;exact(OP.mp this).resolve_left hg
theorem uK{L q:Nat}:∀(S:List (List Int)) (y:List Int),(∀s∈S,s.length=L/\pt s q=0)->y.length=L->pt y q=0->pt (aT y S) q=0
 |[],y,_,_,h=>h
 |s :: S,y,hS,ly,h=>by
  obtain⟨ls,hs⟩:=hS s NX;have e:y.length=s.length:=by lia
  refine uK S (cQ y s) (fun t ht=>hS t (NZ _ ht)) ?_ ?_
  ·unfold cQ;rw[cV,gq e,ls]
  ·unfold cQ;exact uJ (by rw[ir e,h,hs];simp)
theorem JN{R:List (List Int)}{w b:Nat}(hw:Wide w R)(hb:1<=b)(br:wB b R):∀i,i<=R.length->(∀s∈(mU R i).stairs,∀j,j∉grd R i->pt s (w+j)=0)/\∀m∈(mU R i).makers,∃k,Of R m k
 |0,_=>⟨(fun s hs=>by cases hs),fun m hm=>by cases hm⟩
 |i+1,h=>by
  obtain⟨ih1,ih2⟩:=JN hw hb br i (by lia);have I:=Bx hw hb br i (by lia);have hi:i<R.length:=by lia
  have hr:R[i]?=some (R.getD i []):=by rw[NS,NR hi];rfl
  have mr:=N2 hr;have lr:=hw _ mr;have Y6:=Jy I hb hi lr (br _ mr);obtain⟨Y,_⟩:=x4 I hb hi lr (br _ mr);have lx:(R.getD i []++bp R.length i).length=w+R.length:=by unfold bp;rw[N6,NQ,On,lr]
  have rest:∀j,j∉grd R i->j≠i->pt (cz R.length (mU R i) i (R.getD i [])) (w+j)=0:=fun j hj ne=>by
   refine uK _ _ (fun s hs=>⟨I.len s hs,ih1 s hs j hj⟩) lx ?_;rw[kR lr,if_neg fun z=>ne z.2]
  have hf:=Y.free;generalize hR':cz R.length (mU R i) i (R.getD i [])=z at Y rest Y6 hf;obtain⟨q,f1,f2⟩:=Y.ne;have st:(mU R (i+1))=g_ R.length (mU R i) i (R.getD i []):=rfl;rw[st];unfold g_;rw[hR',f1,lr];show(∀s∈(if q<w then _ else _:ot).stairs,_)/\∀m∈(if q<w then _ else _:ot).makers,_;by_cases hq:q<w
  ·rw[if_pos hq];have g:=cD (R:=R) (i:=i) rfl (hf.mpr ⟨q,f1,hq⟩);refine⟨fun s hs j hj=>?_,ih2⟩;rw[g] at hj;have h1:j∉grd R i:=fun z=>hj (Oe _ z)
   have h2:j≠i:=fun z=>hj (Ob _ (N7.mpr z))
   rcases N_.mp hs with y|y
   ·exact ih1 s y j h1
   ·rw[N7.mp y];exact rest j h1 h2
  ·rw[if_neg hq]
   have nf : ¬ bh (rowsOf R (grd R i)++[R.getD i []]):=fun f=>by
    obtain⟨q',e1,e2⟩:=hf.mp f;rw[f1] at e1;cases e1;exact hq e2
   have g:=dC (R:=R) (i:=i) rfl nf;rw[g];refine⟨ih1,fun m hm=>?_⟩;rcases N_.mp hm with y|y
   ·exact ih2 m y
   ·rw[N7.mp y];refine⟨i,hi,nf,fun z0=>Y6 ?_,fun j h1 h2=>uJ (by rw[c9];exact rest j h1 h2)⟩;obtain⟨g0,hg0,eg⟩:=eZ (z.drop w)
    have:=eg i
    rw[z0,c9,Pz] at this;exact this.symm
theorem zP(R:List (List Int)):∀i,(grd R i).length<=i
 |0=>N4 _
 |i+1=>by
  have ih:=zP R i;by_cases g:bh (rowsOf R (grd R i)++[R.getD i []])
  ·rw[cD rfl g,N6];exact Sa ih
  ·rw[dC rfl g];lia
theorem IZ{l:List Nat}{j i:Nat}(h:l[j]?=some i):pt (l.map g) j=g i:=by
 unfold pt;rw[NS,NW,h];rfl
theorem Gk{a:List Int}(h:∀c∈a,c=0)(j:Nat):pt a j=0:=by
 unfold pt;rw[NS];cases g:a[j]? with
 |none=>rfl
 |some c=>exact h c (N2 g)
theorem Mq{N:Nat}(hw:Wide w R)(br:wB 2 R)(sml:∀T:List (List Int),(∀r∈T,r∈R)->T.length<=R.length->¬ bh T->∃x:List Int,x.length=T.length/\(∃j,pt x j≠0)/\(∀j,(pt x j).natAbs<=N)/\∀q,aN x T q=0) :
  ∀m∈(mU R R.length).makers,∀c∈m,c.natAbs<=N:=by
 have J:=GW hw (by decide) br R.length (N4 _);intro m hm c hc;have G:=J.good m hm;obtain⟨k,O⟩:=(JN hw (by decide) br R.length (N4 _)).2 m hm;have gl:=zP R k;have gk:=fun j (hj:j∈grd R k)=>Lk.gQ hj
 have kl:=O.lt;have lf:(rowsOf R (grd R k)).length=(grd R k).length:=by unfold rowsOf;rw[NQ]
 have lR:(rowsOf R (grd R k)++[R.getD k []]).length=(grd R k).length+1:=by rw[N6,lf];rfl
 have inR:∀r∈rowsOf R (grd R k)++[R.getD k []],r∈R:=fun r hr=>by
  have at_:∀j,j<R.length->R.getD j []∈R:=fun j hj=>by rw[NS,NR hj];exact OZ hj
  rcases N_.mp hr with y|y
  ·obtain⟨i,hi,rfl⟩:=Lk.BJ y;exact at_ i (by lia)
  ·rw[N7.mp y];exact at_ k kl
 obtain⟨x,lx,⟨j0,nj⟩,bx,ex⟩:=sml _ inR (by lia) O.no;have fr:bh (rowsOf R (grd R k)):=Rk.fJ k
 have em:∀q,aN ((grd R k).map (fun j=>pt m j)++[pt m k]) (rowsOf R (grd R k)++[R.getD k []]) q=0:=fun q=>by
  have z:=G.nought q;rw[<- mO,uq (i:=k+1) (fun j hj=>O.out j (fun y=>by have:=gk j y;lia) (by lia)) R.length (by lia)] at z;rw[bY _ _ _ (by rw[NQ,lf]),<- xR k fun j hj hg=>?_]
  ·have z2:qP R m q k+pt m k*pt (R.getD k []) q=0:=z;show qP R m q k+(pt m k*pt (R.getD k []) q+0)=0;lia
  ·refine O.out j (fun y=>hg ?_) (by lia)
   have up:∀d,j∈grd R (j+1+d)->j∈grd R (j+1):=by
    intro d
    induction d with
    |zero=>exact id
    |succ d ih =>
     intro y;refine ih ?_;by_cases g:bh (rowsOf R (grd R (j+1+d))++[R.getD (j+1+d) []])
     ·have e:=cD rfl g;rw[show j+1+(d+1)=j+1+d+1 by lia,e] at y;rcases N_.mp y with y|y
      ·exact y
      ·have:=N7.mp y
       lia
     ·have e:=dC rfl g;rw[show j+1+(d+1)=j+1+d+1 by lia,e] at y;exact y
   exact up (k-(j+1)) (by rw[show j+1+(k-(j+1))=k by lia];exact y)
 obtain⟨x1,x2,rfl,lx1,lx2⟩:=split_len lx
 obtain⟨t,rfl⟩:∃t,x2=[t]:=by
  match x2,lx2 with
  |[t],_=>exact⟨t,rfl⟩
 have lx1':x1.length=(grd R k).length:=by rw[lx1,lf]
 have key:∀j,pt m k*pt x1 j=t*pt ((grd R k).map fun j=>pt m j) j:=by
  have z:=fr (Hv (pt m k) (-t) x1 ((grd R k).map fun j=>pt m j)) (by unfold Hv;rw[NQ,On,NQ,lf,lx1'];lia) fun q=>by
   rw[Hs];have a1:=ex q;have a2:=em q;rw[bY _ _ _ lx1] at a1;rw[bY _ _ _ (by rw[NQ,lf])] at a2;have a3:aN x1 (rowsOf R (grd R k)) q+(t*pt (R.getD k []) q+0)=0:=a1;have a4:aN ((grd R k).map fun j=>pt m j) (rowsOf R (grd R k)) q+(pt m k*pt (R.getD k []) q+0)=0:=a2;rw[show aN x1 (rowsOf R (grd R k)) q = -(t*pt (R.getD k []) q) by lia,show aN ((grd R k).map fun j=>pt m j) (rowsOf R (grd R k)) q = -(pt m k*pt (R.getD k []) q) by lia,RZ,Qg,RZ,Qo (pt m k)];lia
  intro j;have e:=En (pt m k) (-t) x1 ((grd R k).map fun j=>pt m j) j
  have z0:pt (Hv (pt m k) (-t) x1 ((grd R k).map fun j=>pt m j)) j=0:=by
   exact Gk z j
  rw[z0,Qg] at e;lia
 have t0:t≠0:=fun z=>nj (by
  rw[Lk.uC]
  split
  ·have:=key j0
   rw[z,Qz] at this
   exact(OP.mp this).resolve_left O.own
  ·unfold pt
   rw[NS]
   cases g:([t]:List Int)[j0-x1.length]? with
   |none=>rfl
   |some c=>rw[N7.mp (N2 g),z];rfl)
 have Z8:∀i,i∈grd R k->∃j,pt ((grd R k).map fun j=>pt m j) j=pt m i/\pt x1 j=pt (x1++[t]) j:=fun i hi=>by
  obtain⟨j,hj⟩:=ON hi;have lj:=(NT.mp hj).1;exact⟨j,IZ hj,by rw[Lk.uC,if_pos (by lia)]⟩
 obtain⟨γ,hγ⟩:pt m k∣t:=Hq G.low fun y hy=>by
  obtain⟨q,hq,rfl⟩:=Wc hy;have e1:m[q]=pt m q:=by unfold pt;rw[NS,NR hq];rfl
  rw[e1];by_cases h1:q∈grd R k
  ·obtain⟨j,ej,_⟩:=Z8 q h1;exact⟨pt x1 j,by rw[<- ej,key j]⟩
  ·by_cases h2:q=k
   ·rw[h2];exact⟨t,O0 ..⟩
   ·rw[O.out q h1 h2,Pz];exact⟨0,by simp⟩
 have γ0:γ≠0:=fun z=>t0 (by rw[hγ,z,Pz])
 have le:∀y x:Int,γ * y=x->x.natAbs<=N->y.natAbs<=N:=fun y x e b=>by
  have e2:=congrArg X3 e;rw[OU] at e2;have h1:y.natAbs<=γ.natAbs*y.natAbs:=Qm _ (by lia);lia
 obtain⟨q,hq,rfl⟩:=Wc hc;have e1:m[q]=pt m q:=by unfold pt;rw[NS,NR hq];rfl
 rw[e1];by_cases h1:q∈grd R k
 ·obtain⟨j,ej,ex1⟩:=Z8 q h1;refine le _ (pt x1 j) ?_ (by rw[ex1];exact bx j)
  have:=key j
  rw[ej,hγ,OE] at this;exact(QZ O.own this).symm
 ·by_cases h2:q=k
  ·rw[h2];refine le _ t (by rw[hγ,O0]) ?_
   have:=bx x1.length
   rw[Lk.uC,if_neg (by lia),Vn] at this;exact this
  ·rw[O.out q h1 h2];exact OR _
open Rk Sz Sf Cl Mk
end Mb
namespace Lc
open PySem L2 Fr G1 Sm Vs G2 Rk Sz Sf Rw Ti Lo
open PySem.W (Dat kqdOk)
noncomputable def kE(n:Nat)(M:List (List Int)):List Int:=M.map fun l=>if (n:Int)∈l then 1 else 0
noncomputable def sk(K:Fg):Sp:=fun vs H Q _=>∃(n:Nat) (u:V) (M:List (List Int)),vs=[.int (n:Int),u]/\Rp K (fun _=>True) H u (dM M)/\M.length<=100/\∀(p:Addr) (H':Hp),AccZ K H p H' ((kE n M).map O4)->Q (.ref p) H'
noncomputable def rC(K:Fg):TS:=(aA (eI (bQ K (aa 1)) (Ii (aH (aq (hE K false) (aa 1) (aa 0))) (tC (.int 1)) (tC (.int 0)))))
theorem uM{l:List Int}:O4 n∈l.map O4↔n∈l:=by
 constructor
 ·intro h;obtain⟨x,hx,e⟩:=N9.mp h;cases e;exact hx
 ·exact fun h=>N9.mpr ⟨n,h,rfl⟩
theorem B_{K:Fg}{vs:List V}{N:List Str}(hN:N.length=2)(h:sk K vs H Q E):rC K (ends Q) (L2.start N vs) H:=by
 obtain⟨n,u,M,rfl,ru,hl,k⟩:=h;rw[L2.aU hN];walk_at "t";obtain⟨c,ys,rfl,_,hc,ry⟩:=Rp.iu ru;have ly:ys.length=M.length:=by rw[ry.length,NQ]
 have lm:(kE n M).length=M.length:=by unfold kE;rw[NQ]
 unfold rC;walk_at "";refine kH (SqL.of hc) ?_;refine cf (xs:=ys) fun D nD=>⟨fun j H2=>AccZ K H D H2 (((kE n M).take j).map O4),by simpa using AccZ.start (Same.refl _) nD,fun j H2 _ A=>SqL.of (A.same _ _ hc),?_,?_⟩
 ·intro j x H2 hx A;have lj:=(NT.mp hx).1;obtain⟨d,g1,g2⟩:=ry.get hx;rw[NW] at g1;obtain⟨l,Y8,rfl⟩:=N8.mp g1;have ej:(kE n M)[j]?=some (if (n:Int)∈l then 1 else 0):=by unfold kE;rw[NW,Y8];rfl
  have r2:=g2.same A.same;walk_at "";refine Ko (d:=O4 (n:Int)) (ds:=l.map O4) (.int _) r2.rep (fun e he=>by obtain⟨b,_,rfl⟩:=N9.mp he;rfl) rfl (fun z=>?_) (fun z=>?_)
  ·have z':=uM.mp z;walk_at "";refine aR lj ?_;refine A.ci (.int 1) (ar (by rw[NQ,Ot];lia)) fun H5 A5=>?_
   show AccZ K H D H5 (((kE n M).take (j+1)).map O4);rw[Oj,ej,N1,if_pos z'];exact A5
  ·have z' : ¬ (n:Int)∈l:=fun y=>z (uM.mpr y)
   walk_at "";refine aR lj ?_;refine A.ci (.int 0) (ar (by rw[NQ,Ot];lia)) fun H5 A5=>?_
   show AccZ K H D H5 (((kE n M).take (j+1)).map O4);rw[Oj,ej,N1,if_neg z'];exact A5
 ·intro H2 A;rw[Oh (by lia)] at A;exact k D H2 A
noncomputable def c_(ts:List Tn):List (List Int):=(Oa (aC ts).length).map fun i=>(aC ts).getD i []++kE i (cU ts)
noncomputable def mK(K:Fg):Sp:=fun vs H Q _=>∃(v:V) (ws:List Str) (ts:List Tn) (w:Nat),vs=[v]/\Rz K H v (dV ws ts)/\HK w ts/\(aC ts).length<=8/\(cU ts).length<=8/\Wide w (aC ts)/\wB 2 (aC ts) /\
 ∀(p:Addr) (H':Hp),Same H H'->Rp K (fun a=>H a=none) H' (.ref p) (dM (LM (c_ ts)).makers)->Q (.ref p) H'
theorem e9(ts:List Tn):(c_ ts).length=(aC ts).length:=by unfold c_;rw[NQ,On]
theorem Dc{i:Nat}(h:i<(aC ts).length):(c_ ts)[i]?=some ((aC ts).getD i []++kE i (cU ts)):=by unfold c_;rw[NW,OW h];rfl
theorem h_(hw:Wide w (aC ts)):Wide (w+(cU ts).length) (c_ ts):=fun r hr=>by
 unfold c_ at hr;obtain⟨i,hi,rfl⟩:=N9.mp hr;rw[N6];unfold kE;rw[NQ,NS,NR (Ow.mp hi),Vc,hw _ (OZ _)]
theorem jH(br:wB 2 (aC ts)):wB 2 (c_ ts):=fun r hr c hc=>by
 unfold c_ at hr;obtain⟨i,hi,rfl⟩:=N9.mp hr;rcases N_.mp hc with y|y
 ·rw[NS,NR (Ow.mp hi),Vc] at y;exact br _ (OZ _) c y
 ·unfold kE at y;obtain⟨l,_,rfl⟩:=N9.mp y;split <;> decide
noncomputable def rE(K:Fg):TS:=(am (av (ay (uk K) [] E0 (ac (aa 0) ae)) (ak 1))
 (aA (ay (mJ K) [] E0 (ac (fW (jR K (ac (ay (c7 K) [] E0 (ac (aa 0) ae)) ae)) 2 (cF K 2 (a7 (ak 0) (a7 (ak 1) cG))) (aq mW (aZ (eU K) (ac (aa 1) ae)) (ay (sk K) [] E0 (ac (aa 0) (ac (aa 3) ae))))) ae))))
theorem Cb{K:Fg}{vs:List V}{N:List Str}(hN:N.length=2)(h:mK K vs H Q E):rE K (ends Q) (L2.start N vs) H:=by
 obtain⟨v,ws,ts,w,rfl,rv,co,h8,l8,hw,br,k⟩:=h;rw[L2.aU hN];walk_at "t";unfold rE;have t8:=co.le;have w5:=co.w5;walk_at "";refine⟨v,ws,ts,rfl,rv,t8,h8,fun p1 H1 S1 r1=>?_⟩;walk_at "";refine⟨v,ws,ts,rfl,rv.same S1,by lia,fun p2 H2 A2=>?_⟩;obtain⟨xs,hp2,rx⟩:=A2.at_;have lx:xs.length=(aC ts).length:=by rw[rx.length,NQ]
 have r2:Rp K (fun _=>True) H2 (.ref p1) (dM (cU ts)):=(r1.same A2.same).mono fun _ _=>trivial
 have S02:=S1.trans A2.same;walk_at "";refine⟨p2,_,rfl,SqL.of hp2,?_⟩;refine wv (xs:=xs) fun D nD=>⟨fun j H3=>Acc K H2 D H3 (((c_ ts).take j).map dL),by simpa using Acc.start nD,fun j H3 _ A=>SqL.of (A.same _ _ hp2),?_,?_⟩
 ·rintro j x H3 T hx A nT us hu
  obtain⟨u0,u1,rfl⟩:∃u w,us=[u,w]:=ex2 hu
  have lj:=(NT.mp hx).1;have lj':j<(aC ts).length:=by lia
  obtain⟨d,g1,g2⟩:=rx.get hx;rw[NW,NR lj'] at g1;cases g1;obtain⟨b,rfl,hb⟩:=eM (g2.same A.same);have eB:=Dc lj';rw[NS,NR lj',Vc] at eB;have lr:(aC ts)[j].length=w:=hw _ (OZ _);generalize (aC ts)[j]=r at hb eB lr;have S3:=aj nT (.tup [.int (j:Int),.ref b]);have hT:upd H3 T (.tup [.int (j:Int),.ref b]) T=some (.tup [.int (j:Int),.ref b]):=ag;have hb3:=S3 _ _ hb;have A3:=A.on S3;generalize upd H3 T (.tup [.int (j:Int),.ref b])=H4 at S3 hT hb3 A3 ⊢;refine bP (SqT.of hT) rfl ?_;walk_at "";refine⟨⟨[some (.int (j:Int)),some (.ref b)],rfl,rfl⟩,?_⟩;walk_at "";refine zy (SqT.of hb3) fun l nl=>?_
  have S5:=aj nl (.lst (r.map V.int));have hl5:upd H4 l (.lst (r.map V.int)) l=some (.lst (r.map V.int)):=ag;generalize upd H4 l (.lst (r.map V.int))=H5 at S5 hl5 ⊢;have S45:=A3.same.trans S5;walk_at "";refine⟨j,.ref p1,cU ts,rfl,r2.same S45,by lia,fun m H6 A6=>?_⟩;have h6:=AccZ.ints A6;walk_at "";have lk:(kE j (cU ts)).length=(cU ts).length:=by unfold kE;rw[NQ]
  refine⟨l,m,_,_,rfl,rfl,A6.same _ _ hl5,h6,by rw[Rr,NQ,NQ];lia,fun q nq=>?_⟩;have S7:=aj nq (.lst (r.map V.int++(kE j (cU ts)).map V.int));have hq:upd H6 q (.lst (r.map V.int++(kE j (cU ts)).map V.int)) q=some (.lst ((r++kE j (cU ts)).map V.int)):=by rw[N1];exact ag
  have ZY:=(S5.trans A6.same).trans S7;have nq4:H4 q=none:=(S5.trans A6.same).free nq;generalize upd H6 q (.lst (r.map V.int++(kE j (cU ts)).map V.int))=H7 at S7 hq ZY ⊢;refine aR lj ?_;refine A3.ci ZY (d:=dL (r++kE j (cU ts))) (wm nq4 hq) (ar (by rw[NQ,Ot];lia)) fun H8 A8=>?_
  show Acc K H2 D H8 (((c_ ts).take (j+1)).map dL);rw[Oj,eB,N1];exact A8
 ·intro H3 A;have lB:=e9 ts;rw[Oh (by lia)] at A;walk_at "";refine⟨D,c_ ts,w+(cU ts).length,2,rfl,L5 A,h_ hw,by lia,by lia,jH br,by decide,K2 (by lia),fun q H4 S4 r4=>?_⟩;have S03:=S02.trans A.same;exact k q H4 (S03.trans S4) (r4.mono fun _ z=>S03.free z)
theorem zL{hs:List (List Int)}:∀(ts:List Tn) (l:List (List Int)),(∀t∈ts,t.fr∈hs/\t.to∈hs)->(∀x∈l,x∈hs)->∀x∈iN l ts,x∈hs
 |[],l,_,h,x,hx=>h x hx
 |t :: ts,l,ht,h,x,hx=>by
  have ins:∀(l:List (List Int)) (y:List Int),(∀x∈l,x∈hs)->y∈hs->∀x∈b7 l y,x∈hs:=fun l y h hy x hx=>by
   unfold b7 at hx;split at hx
   ·exact h x hx
   ·rcases N_.mp hx with z|z
    ·exact h x z
    ·rw[N7.mp z];exact hy
  have t0:=ht t NX;exact zL ts (b7 (b7 l t.fr) t.to) (fun u hu=>ht u (NZ _ hu)) (ins _ _ (ins _ _ h t0.1) t0.2) x hx
structure Np (w:Nat) (ts:List Tn):Prop where
 h8:(aC ts).length<=8
 l8:(cU ts).length<=8
 wide:Wide w (aC ts)
 bnd:wB 2 (aC ts)
 to:∀t∈ts,t.to.length=w
theorem M6(vo:wx ws ts):Np ws.length ts:=by
 obtain⟨hs,po,h8,tk⟩:=vo.turns;have sub:∀x∈aC ts,x∈hs:=zL ts [] (fun t ht=>⟨(tk.ok t ht).1,(tk.ok t ht).2.1⟩) fun x h=>by cases h
 have n8:(aC ts).length<=8:=Oi (a5 (uZ ts) sub) h8;refine⟨n8,?_,fun r hr=>(po.2 r (sub r hr)).1,fun r hr c hc=>?_,fun t ht=>(po.2 _ (tk.ok t ht).2.1).1⟩
 ·unfold cU fZ;rw[NQ,NQ];refine Oi (O6 _ _) ?_;rw[On,(bU (cc ts)).len];exact n8
 ·have:=(po.2 r (sub r hr)).2 c hc
  show c.natAbs<4;lia
section
variable{ts:List Tn}{w:Nat}
theorem C3{i:Nat}(hi:i<(aC ts).length):kE i (cU ts)=(Lk.reps (ba (aC ts).length (al ts))).map fun v=>if at_ (ba (aC ts).length (al ts)) i=v then 1 else 0:=by
 have F:=bU (cc ts);unfold cU kE fZ Lk.reps;generalize ba (aC ts).length (al ts)=f at F;rw[Ph,Ph];refine Py fun v _=>?_
 show(if (i:Int)∈zN (aJ f v) then (1:Int) else 0)=_
 have e:(i:Int)∈zN (aJ f v)↔at_ f i=v:=by
  unfold zN aJ;rw[N9];constructor
  ·rintro⟨a,ha,ea⟩
   have:a=i:=RO ea
   subst this;simpa using(Os.mp ha).2
  ·intro h;exact⟨i,Os.mpr ⟨Ow.mpr (by rw[F.len];exact hi),by simpa using h⟩,rfl⟩
 by_cases c:at_ f i=v
 ·rw[if_pos (e.mpr c),if_pos c]
 ·rw[if_neg fun z=>c (e.mp z),if_neg c]
theorem Db(ts:List Tn):c_ ts=(Oa (aC ts).length).map (Lk.mk (fun h=>(aC ts).getD h []) (ba (aC ts).length (al ts))):=by
 unfold c_;refine Py fun i hi=>?_
 rw[C3 (Ow.mp hi)];rfl
theorem tu{x:List Int}(h:x∈aC ts):(aC ts).getD (ix (aC ts) x) []=x:=by rw[NS,zD h];rfl
theorem KJ(hw:Wide w (aC ts)){h:Nat}(hh:h<(aC ts).length):((aC ts).getD h []).length=w:=by
 rw[NS,NR hh];exact hw _ (OZ _)
end
end Lc
namespace Wd
end Wd
namespace Tw
end Tw
namespace Tp2
end Tp2
namespace Md
end Md
namespace Tr2
end Tr2
namespace Cm
end Cm
namespace Cg
end Cg
namespace Bg
end Bg
namespace Gu
open PySem L2 Fr G1 Sm Vs G2 Rk Sz Sf Rw Cl Br Dn
open PySem.W (Dat kqdOk)
theorem sv{n:Nat}:∀{S:List Nat} {f:Nat->Int},S.Nodup->(∀k∈S,k<n)->(∀k,k<n->k∉S->f k=0)->Bo.sm n f=(S.map f).sum
 |[],f,_,_,h=>by rw[Bo.dH fun k hk=>h k hk (by simp)];rfl
 |s :: S,f,nd,lt,h=>by
  rw[OO] at nd
  have e:Bo.sm n f=Bo.sm n (fun k=>(if k=s then f s else 0)+if k=s then 0 else f k):=Bo.aK fun k _=>by
   by_cases q:k=s
   ·subst q;simp
   ·simp[q]
  rw[e,Bo.iq,Bo.Ee (j:=s) (lt s NX) (fun j _ ne=>if_neg ne),if_pos rfl,sv (S:=S) nd.2 (fun k hk=>lt k (NZ _ hk)) (fun k hk no=>?_)]
  ·rw[OS,Yb];congr 2;exact Py fun k hk=>if_neg fun(q:k=s)=>nd.1 (q ▸ hk)
  ·by_cases q:k=s
   ·rw[if_pos q]
   ·rw[if_neg q];exact h k hk fun m=>(Od.mp m).elim q no
theorem Il(S:List Nat)(f:Nat->Int):(S.map f).sum=Bo.sm S.length fun j=>f (S.getD j 0):=by
 rw[<- sw];congr 1;refine RU fun i=>?_
 rw[NW,NW];by_cases h:i<S.length
 ·rw[NR h,OW h];show some (f S[i])=some (f (S.getD i 0));rw[NS,NR h];rfl
 ·rw[OG (l:=S) (by lia),OG (l:=Oa S.length) (by rw[On];lia)];rfl
end Gu
namespace Tg
end Tg
local macro_rules | `(tactic| walk_at "d")=>`(tactic| repeat first|fail "1"|with_reducible first|refine L2.k_fld ?_|refine L2.k_sfld ?_|refine L2.k_mt ?_)
namespace Dk
open PySem L2 Fr G1 Sm Vs
open PySem.W (Dat kqdOk)
open PySem L2 Fr G1 Sm Vs Dn Rk Wd
end Dk
namespace Dk
open PySem L2 Fr G1 Sm Vs Dn Rk Wd
open PySem.W (Dat kqdOk)
end Dk
namespace Dh
open PySem L2 Fr G1 Sm Vs Dk
open PySem.W (Dat kqdOk)
open PySem L2 Fr G1 Sm Vs Dk Dn Rk Wd
local macro_rules | `(tactic| walk_at "d")=>`(tactic| repeat first|fail "1"|with_reducible first|refine k_fld ?_|refine k_sfld ?_|refine k_mt ?_|refine k_bIf ?_|refine k_bMethA ?_|refine k_bSeq ?_|refine k_tryB ?_)
end Dh
namespace Pw
noncomputable def IsP(p:Nat):Prop:=2<=p/\∀d,d∣p->d=1\/d=p
theorem uD:∀{n:Nat},2<=n->∃p,IsP p/\p∣n:=by
 intro n
 induction n using Q3 with
 |_ n ih =>
  intro h;by_cases c:∃d,d∣n/\d≠1/\d≠n
  ·obtain⟨d,dv,d1,dn⟩:=c;have dp:0<d:=Nat.pos_of_dvd_of_pos dv (by lia);have dl:=QC (by lia) dv;obtain⟨p,pp,pd⟩:=ih d (by lia) (by lia);exact⟨p,pp,Nat.dvd_trans pd dv⟩
  ·refine⟨n,⟨h,fun d dv=>?_⟩,Nat.dvd_refl n⟩;by_cases d1:d=1
   ·exact .inl d1
   ·by_cases dn:d=n
    ·exact .inr dn
    ·exact absurd ⟨d,dv,d1,dn⟩ c
theorem IsP.dvd_mul{a b:Nat}(hp:IsP p)(h:p∣a*b):p∣a\/p∣b:=by
 rcases hp.2 (Ox p a) (Sg p a) with g|g
 ·exact .inr (Ri g h)
 ·exact .inl (g ▸ Te p a)
noncomputable def tk(d n:Nat):Nat×Nat:=if _h:2<=d/\0<n/\d∣n then ((tk d (n / d)).1+1,(tk d (n / d)).2) else (0,n)
termination_by n
decreasing_by all_goals exact Nat.div_lt_self _h.2.1 _h.1
noncomputable def aS(d n:Nat):Nat:=(tk d n).1
noncomputable def cg(d n:Nat):Nat:=(tk d n).2
theorem Fl{d n:Nat}(h : ¬ d∣n):tk d n=(0,n):=by
 rw[tk,dif_neg fun z=>h z.2.2]
theorem gJ{d n:Nat}(h : ¬ d∣n):aS d n=0:=by unfold aS;rw[Fl h]
theorem wO{d n:Nat}(hd:2<=d)(hn:0<n):tk d (d*n)=(aS d n+1,cg d n):=by
 rw[tk,dif_pos ⟨hd,Pf (by lia) hn,W8 d n⟩,Vd n (by lia:0<d)];rfl
theorem cS{d n:Nat}(hd:2<=d)(hn:0<n):aS d (d*n)=aS d n+1:=by
 show(tk d (d*n)).1=_;rw[wO hd hn]
theorem gY{d:Nat}(hd:2<=d):∀n,0<n->n=d ^ aS d n*cg d n/\¬ d∣cg d n:=by
 intro n
 induction n using Q3 with
 |_ n ih =>
  intro hn;by_cases c:d∣n
  ·obtain⟨m,rfl⟩:=c;have hm:0<m:=PR hn;have lt:m<d*m:=by have:=OF m hd;lia
   obtain⟨a,b⟩:=ih m lt hm;have e:tk d (d*m)=(aS d m+1,cg d m):=wO hd hm;unfold aS cg;rw[e];refine⟨?_,b⟩;show d*m=d ^ (aS d m+1)*cg d m;rw[PZ,PB (d ^ aS d m) d,OV,<- a]
  ·have e:=Fl c;unfold aS cg;rw[e];exact⟨by simp,c⟩
theorem Ia(hp:IsP p):∀a b,0<a->0<b->aS p (a*b)=aS p a+aS p b:=by
 intro a
 induction a using Q3 with
 |_ a ih =>
  intro b ha hb;by_cases c:p∣a
  ·obtain⟨m,rfl⟩:=c;have hm:0<m:=PR ha;have lt:m<p*m:=by have:=OF m hp.1;lia
   rw[OV,cS hp.1 (Pf hm hb),ih m lt b hm hb,cS hp.1 hm];lia
  ·clear ih;rw[gJ c,Rs]
   induction b using Q3 with
   |_ b ih =>
    by_cases c2:p∣b
    ·obtain⟨m,rfl⟩:=c2;have hm:0<m:=PR hb;have lt:m<p*m:=by have:=OF m hp.1;lia
     rw[P2,cS hp.1 (Pf ha hm),ih m lt hm,cS hp.1 hm]
    ·rw[gJ c2,gJ fun z=>(hp.dvd_mul z).elim c c2]
structure Add (f:Nat->Int):Prop where
 mul:∀a b,0<a->0<b->f (a*b)=f a+f b
theorem IsP.add(hp:IsP p):Add fun n=>(aS p n:Int):=⟨fun a b ha hb=>by rw[Ia hp a b ha hb];lia⟩
theorem Add.one(h:Add f):f 1=0:=by have:=h.mul 1 1 (by decide) (by decide);simp at this;lia
theorem Add.pow{f:Nat->Int}(h:Add f){a:Nat}(ha:0<a):∀k:Nat,f (a ^ k)=(k:Int)*f a
 |0=>by rw[W9,h.one];simp
 |k+1=>by
  rw[PZ,h.mul _ _ (QL ha) ha,Add.pow h ha k];show _=((k:Int)+1)*f a;rw[Q9,SQ]
noncomputable abbrev Pr:=Nat×Int
noncomputable def SF(f:Nat->Int):List Pr->Int
 |[]=>0
 |x :: L=>x.2*f x.1+SF f L
theorem lG(f:Nat->Int):∀A B,SF f (A++B)=SF f A+SF f B
 |[],B=>by simp[SF]
 |x :: A,B=>by show _+SF f (A++B)=_;rw[lG f A B];show _=_+_+_;lia
noncomputable def xF(x y:Pr):List Pr :=
 [(cg (Ox x.1 y.1) x.1,x.2),(cg (Ox x.1 y.1) y.1,y.2),(Ox x.1 y.1,aS (Ox x.1 y.1) x.1*x.2+aS (Ox x.1 y.1) y.1*y.2)]
theorem gg{d n:Nat}(hd:2<=d)(hn:0<n):0<cg d n:=by
 rcases WF (cg d n) with z|z
 ·have:=(gY hd n hn).2;rw[z] at this;exact absurd ⟨0,rfl⟩ this
 ·exact z
theorem Ls(hf:Add f){x y:Pr}(hx:0<x.1)(hy:0<y.1)(hg:2<=Ox x.1 y.1):SF f (xF x y)=x.2*f x.1+y.2*f y.1:=by
 have gp:0<Ox x.1 y.1:=by lia
 have e:∀n,0<n->f n=aS (Ox x.1 y.1) n*f (Ox x.1 y.1)+f (cg (Ox x.1 y.1) n):=fun n hn=>by
  have s:=(gY hg n hn).1
  have:=congrArg f s
  rw[hf.mul _ _ (QL gp) (gg hg hn),hf.pow gp] at this;exact this
 have e1:=e x.1 hx;have e2:=e y.1 hy;show x.2*f (cg (Ox x.1 y.1) x.1)+(y.2*f (cg (Ox x.1 y.1) y.1)+((aS (Ox x.1 y.1) x.1*x.2+aS (Ox x.1 y.1) y.1*y.2)*f (Ox x.1 y.1)+0))=_;rw[e1,e2];generalize f (cg (Ox x.1 y.1) x.1)=u;generalize f (cg (Ox x.1 y.1) y.1)=v;generalize f (Ox x.1 y.1)=w;generalize (aS (Ox x.1 y.1) x.1:Int)=i;generalize (aS (Ox x.1 y.1) y.1:Int)=j;rw[Px,Px,Q9,Qo x.2 i w,OE i x.2 w,Qo y.2 j w,OE j y.2 w];lia
theorem yU{d q:Nat}(hd:2<=d)(hq:0<q)(c:Rb d q):∀m,0<m->aS d (q*m)=aS d m:=by
 intro m
 induction m using Q3 with
 |_ m ih =>
  intro hm;by_cases z:d∣m
  ·obtain⟨k,rfl⟩:=z;have hk:0<k:=PR hm;have lt:k<d*k:=by have:=OF k hd;lia
   rw[P2,cS hd (Pf hq hk),ih k lt hk,cS hd hk]
  ·rw[gJ z,gJ fun y=>z (Ri c y)]
theorem GT{d:Nat}(hd:2<=d):aS d 1=0:=gJ fun z=>by have:=QC (by decide) z;lia
noncomputable def vK(L:List Nat):Prop:=(∀q∈L,2<=q)/\L.Pairwise fun a b=>Rb a b
theorem E5{p:Nat}(hp:2<=p)(c:Rb q r)(h:p∣q) : ¬ p∣r:=fun z=>by
 have:=Nat.dvd_gcd h z
 rw[c] at this
 have:=QC (by decide) this
 lia
theorem AQ{f:Nat->Int}:∀{L:List Pr},(∀x∈L,f x.1=0)->SF f L=0
 |[],_=>rfl
 |x :: L,h=>by show _*_+_=0;rw[h x NX,AQ fun y hy=>h y (NZ _ hy)];simp
theorem Lf{L:List Pr}(ha:vK (L.map (·.1)))(he:∀x∈L,x.2≠0)(hL:L≠[]):∃p,IsP p/\SF (fun n=>(aS p n:Int)) L≠0:=by
 cases L with
 |nil=>exact absurd rfl hL
 |cons x L =>
  have h2:2<=x.1:=ha.1 x.1 NX;obtain⟨p,hp,d⟩:=uD h2;refine⟨p,hp,?_⟩;have c:=(RD.mp ha.2).1;show x.2*_+SF _ L≠0;rw[AQ fun y hy=>by show(aS p y.1:Int)=0;rw[gJ (E5 hp.1 (c y.1 (QK hy)) d)];rfl,PP];obtain⟨m,e⟩:=d;have hm:0<m:=O8 fun z=>by rw[z] at e;simp at e;lia
  show x.2*(aS p x.1:Int)≠0;rw[e,cS hp.1 hm];exact RL (he x NX) (by lia)
inductive Mon (L:List Nat):Nat->Prop
 |one:Mon L 1
 |mul (q m:Nat):q∈L->Mon L m->Mon L (q*m)
theorem Mon.times(h:Mon L a)(k:Mon L b):Mon L (a*b):=by
 induction h with
 |one=>rw[SR];exact k
 |mul q m hq _ ih=>rw[OV];exact .mul q _ hq ih
theorem Mon.of{L:List Nat}{a:Nat}(h:a∈L):Mon L a:=by have:=Mon.mul a 1 h .one;rwa [SU] at this
theorem Mon.sub{L:List Nat}(hs:∀q∈L,Mon M q)(h:Mon L a):Mon M a:=by
 induction h with
 |one=>exact .one
 |mul q m hq _ ih=>exact(hs q hq).times ih
theorem Mon.pos{L:List Nat}(hL:∀q∈L,0<q)(h:Mon L a):0<a:=by
 induction h with
 |one=>decide
 |mul q m hq _ ih=>exact Pf (hL q hq) ih
noncomputable def sq(g:Nat->Int):List Nat->Int
 |[]=>0
 |q :: L=>g q+sq g L
theorem Io{f g:Nat->Int}:∀{L:List Nat},(∀x∈L,f x=g x)->sq f L=sq g L
 |[],_=>rfl
 |x :: L,h=>by show _+_=_+_;rw[h x NX,Io fun y hy=>h y (NZ _ hy)]
theorem iZ{f:Nat->Int}{L:List Nat}(h:∀x∈L,f x=0):sq f L=0:=by
 induction L with
 |nil=>rfl
 |cons x L ih=>show _+_=_;rw[h x NX,ih fun y hy=>h y (NZ _ hy)];rfl
theorem Ip{f:Nat->Int}{q m:Nat}(hm:0<m):∀{L:List Nat},vK L->q∈L->sq (fun r=>aS r (q*m)*f r) L=f q+sq (fun r=>aS r m*f r) L
 |r :: L,ha,hq=>by
  have c:=RD.mp ha.2;have hr:=ha.1 r NX;have hL:vK L:=⟨fun y hy=>ha.1 y (NZ _ hy),c.2⟩
  show aS r (q*m)*f r+sq _ L=f q+(aS r m*f r+sq _ L)
  rcases Od.mp hq with e|e
  ·subst e;rw[cS hr hm,Io (g:=fun r=>aS r m*f r) fun y hy=>by rw[yU (hL.1 y hy) (by lia) (c.1 y hy).symm m hm]]
   have:((aS q m+1:Nat):Int)*f q=aS q m*f q+f q:=by rw[Int.natCast_add,Q9];simp
   lia
  ·have:=hL.1 q e
   rw[yU hr (by lia) (c.1 q e) m hm,Ip hm hL e];lia
theorem sV(hf:Add f)(ha:vK L)(h:Mon L n):f n=sq (fun q=>aS q n*f q) L:=by
 induction h with
 |one=>rw[hf.one,iZ fun x hx=>by rw[GT (ha.1 x hx)];simp]
 |mul q m hq hm ih =>
  have pm:0<m:=Mon.pos (fun x hx=>by have:=ha.1 x hx;lia) hm
  have:=ha.1 q hq
  rw[hf.mul q m (by lia) pm,ih,Ip pm ha hq]
theorem Ed{f:Nat->Int}{q:Nat}:∀{L:List Nat},vK L->q∈L->(∀r,Rb q r->f r=0)->∀c:Nat->Int,sq (fun r=>c r*f r) L=c q*f q
 |r :: L,ha,hq,h,c=>by
  have k:=RD.mp ha.2;have hL:vK L:=⟨fun y hy=>ha.1 y (NZ _ hy),k.2⟩
  show c r*f r+sq _ L=_;rcases Od.mp hq with e|e
  ·subst e;rw[iZ fun y hy=>by rw[h y (k.1 y hy)];simp,PP]
  ·rw[h r (k.1 q e).symm,Ed hL e h c];simp
theorem EE{q:Nat}(hp:IsP p)(ha:vK L)(hq:q∈L)(d:p∣q)(h:Mon L n):aS p n=aS q n*aS p q:=by
 have e:=sV hp.add ha h;rw[Ed ha hq (f:=fun n=>(aS p n:Int)) (fun r c=>by show(aS p r:Int)=0;rw[gJ (E5 hp.1 c d)];rfl) fun r=>(aS r n:Int)] at e;have e':(aS p n:Int)=aS q n*aS p q:=e
 exact_mod_cast e'
theorem H_{q:Nat}(hp:IsP p)(hq:0<q)(d:p∣q):0<aS p q:=by
 obtain⟨m,rfl⟩:=d;rw[cS hp.1 (PR hq)];lia
noncomputable def vs(f:Nat->Int):List (Nat×Nat)->List Int->Int
 |w :: W,e :: R=>e*(f w.1-f w.2)+vs f W R
 |_,_=>0
noncomputable def km:List (Nat×Nat)->List Int->List Pr
 |w :: W,e :: R=>(w.1,e) :: (w.2,-e) :: km W R
 |_,_=>[]
theorem AO(f:Nat->Int):∀W R,SF f (km W R)=vs f W R
 |[],_=>rfl
 |_ :: _,[]=>rfl
 |w :: W,e :: R=>by
  show e*f w.1+(-e*f w.2+SF f (km W R))=e*(f w.1-f w.2)+vs f W R;rw[AO f W R,TM,Qg];lia
noncomputable def One(W:List (Nat×Nat))(R:List Int):Prop:=∀p,IsP p->vs (fun n=>(aS p n:Int)) W R=0
theorem HX(f:Nat->Int){L:List Nat}:∀{W:List (Nat×Nat)} (R:List Int),(∀w∈W,f w.1=sq (fun q=>aS q w.1*f q) L/\f w.2=sq (fun q=>aS q w.2*f q) L)->vs f W R=sq (fun q=>f q*vs (fun n=>(aS q n:Int)) W R) L
 |[],R,_=>by rw[iZ fun q _=>by show f q*0=0;simp];rfl
 |w :: W,[],_=>by rw[iZ fun q _=>by show f q*0=0;simp];rfl
 |w :: W,e :: R,h=>by
  have a:=h w NX;show e*(f w.1-f w.2)+vs f W R=_;rw[HX f R fun x hx=>h x (NZ _ hx),a.1,a.2];clear a h
  induction L with
  |nil=>simp[sq]
  |cons q L ih =>
   show e*(aS q w.1*f q+sq _ L-(aS q w.2*f q+sq _ L))+(f q*vs _ W R+sq _ L)=f q*(e*((aS q w.1:Int)-aS q w.2)+vs _ W R)+sq _ L;rw[<- ih,Px,Qo (f q) e,O0 (f q) ((aS q w.1:Int)-aS q w.2),Xy];generalize (aS q w.1:Int)*f q=a;generalize (aS q w.2:Int)*f q=b;generalize sq (fun q=>(aS q w.1:Int)*f q) L=c;generalize sq (fun q=>(aS q w.2:Int)*f q) L=d;rw[show a+c-(b+d)=(a-b)+(c-d) by lia,Px];lia
theorem yO(ha:vK L){W:List (Nat×Nat)}(R:List Int)(hW:∀w∈W,Mon L w.1/\Mon L w.2):One W R↔∀q∈L,vs (fun n=>(aS q n:Int)) W R=0:=by
 constructor
 ·intro h q hq;have h2:=ha.1 q hq;obtain⟨p,hp,d⟩:=uD h2;have e:=h p hp
  have e2:∀{W:List (Nat×Nat)} (R:List Int),(∀w∈W,Mon L w.1/\Mon L w.2)->vs (fun n=>(aS p n:Int)) W R=vs (fun n=>(aS q n:Int)) W R*aS p q:=by
   intro W
   induction W with
   |nil=>intro R _;simp[vs]
   |cons w W ih =>
    intro R hW;cases R with
    |nil=>simp[vs]
    |cons e R =>
     have m:=hW w NX;show e*((aS p w.1:Int)-aS p w.2)+vs _ W R=(e*((aS q w.1:Int)-aS q w.2)+vs _ W R)*aS p q;rw[ih R fun x hx=>hW x (NZ _ hx),EE hp ha hq d m.1,EE hp ha hq d m.2,Q9,OE,Xy,Q4,Q4]
  rw[e2 R hW] at e;rcases OP.mp e with z|z
  ·exact z
  ·have:=H_ hp (by lia) d
   lia
 ·intro h p hp;rw[HX _ (L:=L) R fun w hw=>⟨sV hp.add ha (hW w hw).1,sV hp.add ha (hW w hw).2⟩,iZ fun q hq=>by rw[h q hq];simp]
theorem yP{T:List Pr}(ha:vK (T.map (·.1)))(he:∀x∈T,x.2≠0)(hs:∀f,Add f->SF f T=SF f (km W R)):One W R↔T=[]:=by
 constructor
 ·intro h;by_cases c:T=[]
  ·exact c
  ·obtain⟨p,hp,z⟩:=Lf ha he c;exact absurd ((hs _ hp.add).trans ((AO _ W R).trans (h p hp))) z
 ·intro h p hp;rw[<- AO,<- hs _ hp.add,h];rfl
noncomputable def aW:List Nat->Nat
 |[]=>1
 |q :: L=>q*aW L
theorem bO:∀A B,aW (A++B)=aW A*aW B
 |[],B=>(SR _).symm
 |q :: A,B=>by show q*aW (A++B)=q*aW A*aW B;rw[bO A B,OV]
theorem eW:∀{L:List Nat},(∀q∈L,0<q)->0<aW L
 |[],_=>by decide
 |q :: L,h=>Pf (h q NX) (eW fun x hx=>h x (NZ _ hx))
theorem jt:∀{L:List Nat} {i q:Nat},L[i]?=some q->aW L=q*aW (L.eraseIdx i)
 |x :: L,0,q,h=>by cases h;rfl
 |x :: L,i+1,q,h=>by
  show x*aW L=q*(x*aW (L.eraseIdx i));rw[jt (L:=L) (i:=i) (by simpa using h),P2]
theorem vG(f:Nat->Int):∀{L:List Pr} {i:Nat} {y:Pr},L[i]?=some y->SF f L=y.2*f y.1+SF f (L.eraseIdx i)
 |x :: L,0,y,h=>by cases h;rfl
 |x :: L,i+1,y,h=>by
  show x.2*f x.1+SF f L=y.2*f y.1+(x.2*f x.1+SF f (L.eraseIdx i))
  rw[vG f (L:=L) (i:=i) (by simpa using h)];lia
noncomputable def iC:List Pr->Nat
 |[]=>0
 |x :: L=>x.2.natAbs*x.1.log2+iC L
theorem gX:∀A B,iC (A++B)=iC A+iC B
 |[],B=>(Rs _).symm
 |q :: A,B=>by show _+iC (A++B)=_+iC A+iC B;rw[gX A B,SC]
theorem oF:∀{L:List Pr} {i:Nat} {y:Pr},L[i]?=some y->iC L=y.2.natAbs*y.1.log2+iC (L.eraseIdx i)
 |x :: L,0,y,h=>by cases h;rfl
 |x :: L,i+1,y,h=>by
  show _+iC L=_+(x.2.natAbs*x.1.log2+iC (L.eraseIdx i))
  rw[oF (L:=L) (i:=i) (by simpa using h)];lia
theorem uT{a b:Nat}(ha:0<a)(hb:0<b):a.log2+b.log2<=(a*b).log2:=by
 rw[V2 (Qk (Pf ha hb)),SO];exact O2 (TB (Qk ha)) (TB (Qk hb))
theorem zl{a b:Nat}(ha:0<a)(h:a<=b):a.log2<=b.log2:=by
 rw[V2 (by lia)];exact Oi (TB (by lia)) h
theorem pS{a b:Nat}(ha:0<a)(h:2*a<=b):a.log2+1<=b.log2:=by
 rw[V2 (by lia),PZ]
 have:=TB (n:=a) (by lia)
 lia
theorem uS{a:Nat}(ha:0<a):∀k:Nat,k*a.log2<=(a ^ k).log2
 |0=>by simp
 |k+1=>by
  have:=uT (QL (n:=k) ha) ha
  have:=uS ha k
  rw[PZ,RG];lia
theorem zj{d n:Nat}(hd:2<=d)(hn:0<n):aS d n*d.log2+(cg d n).log2<=n.log2:=by
 have:=uT (QL (n:=aS d n) (by lia:0<d)) (gg hd hn)
 rw[<- (gY hd n hn).1] at this
 have:=uS (by lia:0<d) (aS d n)
 lia
theorem Fj{x y:Pr}(hx:0<x.1)(hy:0<y.1)(hg:2<=Ox x.1 y.1):iC (xF x y)<=x.2.natAbs*x.1.log2+y.2.natAbs*y.1.log2:=by
 have a:=OK x.2.natAbs (zj hg hx);have b:=OK y.2.natAbs (zj hg hy);show x.2.natAbs*(cg (Ox x.1 y.1) x.1).log2+(y.2.natAbs*(cg (Ox x.1 y.1) y.1).log2+((aS (Ox x.1 y.1) x.1*x.2+aS (Ox x.1 y.1) y.1*y.2).natAbs*(Ox x.1 y.1).log2+0))<=_;generalize Ox x.1 y.1=g at *
 have c:(aS g x.1*x.2+aS g y.1*y.2).natAbs<=x.2.natAbs*aS g x.1+y.2.natAbs*aS g y.1:=by
  refine Oi (Td _ _) ?_;rw[OU,OU,Qf,Qf,PB,PB (aS g y.1)];exact N4 _
 have c':=OF g.log2 c;rw[Nat.add_mul,OV,OV] at c';rw[Nat.mul_add] at a b;lia
theorem Ej{d n:Nat}(hd:2<=d)(hn:0<n):cg d n<=n:=by
 have:=(gY hd n hn).1
 have k:=OF (cg d n) (QL (n:=aS d n) (by lia:0<d));lia
theorem GS{d n:Nat}(hd:2<=d)(hn:0<n)(h:d∣n):0<aS d n:=by
 obtain⟨m,rfl⟩:=h;rw[cS hd (PR hn)];lia
theorem M7{a b:Nat}(ha:0<a)(hb:0<b)(hg:2<=Ox a b):2*(cg (Ox a b) a*(cg (Ox a b) b*Ox a b))<=a*b:=by
 have da:=Sg a b;have db:=Te a b;generalize Ox a b=g at *
 have le:∀n,0<n->g∣n->cg g n*g<=n:=fun n hn h=>by
  have o:=GS hg hn h;have s:=(gY hg n hn).1;obtain⟨k,e⟩:∃k,aS g n=k+1:=⟨aS g n-1,by lia⟩
  rw[e,PZ,OV,PB g] at s
  have:=OF (cg g n*g) (QL (n:=k) (by lia:0<g))
  lia
 have la:=le a ha da;have lb:=le b hb db;have l2:2*cg g a<=a:=by have:=OK (cg g a) hg;lia
 calc 2*(cg g a*(cg g b*g))=(2*cg g a)*(cg g b*g):=by rw[OV]
  _<=a*b:=O2 l2 lb
theorem vi{α β:Type}(f:α->β):∀(L:List α) (i:Nat),(L.map f).eraseIdx i=(L.eraseIdx i).map f
 |[],_=>rfl
 |_ :: _,0=>rfl
 |x :: L,i+1=>congrArg (f x :: ·) (vi f L i)
structure Ap (P0:List Pr) (B T C:Nat) (told left:List Pr):Prop where
 apt:vK (told.map (·.1))
 ne:∀x∈told,x.2≠0
 pos:∀x∈left,0<x.1
 bT:∀x∈told,x.1<=B
 bL:∀x∈left,x.1<=B
 sf:∀f,Add f->SF f told+SF f left=SF f P0
 le:iC told+iC left<=T
 few:told.length+left.length+(aW (told.map (·.1))*aW (left.map (·.1))).log2<=C
noncomputable def mu(told left:List Pr):Nat:=2*(aW (told.map (·.1))*aW (left.map (·.1)))+left.length
theorem Ap.start{P0:List Pr}{B:Nat}(hp:∀x∈P0,0<x.1/\x.1<=B):Ap P0 B (iC P0) (P0.length+(aW (P0.map (·.1))).log2) [] P0 :=
 ⟨⟨fun _ h=>(by cases h),UE⟩,fun _ h=>(by cases h),fun x h=>(hp x h).1,fun _ h=>(by cases h),fun x h=>(hp x h).2,fun f _=>by simp[SF],by simp[iC],by show 0+P0.length+(1*aW (P0.map (·.1))).log2<=_;rw[SR,Rs];exact N4 _⟩
variable{P0:List Pr}{B T C:Nat}{told left:List Pr}{x y:Pr}
theorem vF(f:Nat->Int)(x:Pr):SF f [x]=x.2*f x.1:=by simp[SF]
theorem Fk(x:Pr):iC [x]=x.2.natAbs*x.1.log2:=by simp[iC]
theorem Ap.pp(h:Ap P0 B T C told (left++[x])):0<aW (told.map (·.1))/\0<aW (left.map (·.1))/\0<x.1/\x.1<=B :=
 ⟨eW fun q hq=>by have:=h.apt.1 q hq;lia,eW fun q hq=>by obtain⟨z,hz,rfl⟩:=N9.mp hq;exact h.pos z (Oe _ hz),h.pos x (Ob _ NX),h.bL x (Ob _ NX)⟩
theorem Ap.drop(h:Ap P0 B T C told (left++[x]))(c : ¬ (1<x.1/\x.2≠0)):Ap P0 B T C told left/\mu told left<mu told (left++[x]):=by
 have ⟨p1,p2,p3,_⟩:=h.pp;refine⟨⟨h.apt,h.ne,fun z hz=>h.pos z (Oe _ hz),h.bT,fun z hz=>h.bL z (Oe _ hz),fun f hf=>?_,?_,?_⟩,?_⟩
 ·have e:=h.sf f hf;rw[lG,vF] at e
  have:x.2*f x.1=0:=by
   by_cases z:x.2=0
   ·rw[z];simp
   ·rw[show x.1=1 by lia,hf.one];simp
  lia
 ·have:=h.le
  rw[gX] at this;lia
 ·have f:=h.few;rw[N1,bO,N6] at f
  have:=zl (Pf p1 p2) (OK (aW (told.map (·.1))) (QG (aW (left.map (·.1))) (by show 0<x.1*1;lia:0<aW ([x].map (·.1)))))
  lia
 ·unfold mu;rw[N1,bO,N6];show _<2*(_*(aW (left.map (·.1))*(x.1*1)))+(left.length+1)
  have:=OK (aW (told.map (·.1))) (QG (aW (left.map (·.1))) (by lia:0<x.1*1))
  lia
theorem Ap.keep(h:Ap P0 B T C told (left++[x]))(c1:1<x.1)(c2:x.2≠0)(hc:∀z∈told,Ox z.1 x.1<=1):Ap P0 B T C (told++[x]) left/\mu (told++[x]) left<mu told (left++[x]):=by
 have ⟨p1,p2,p3,p4⟩:=h.pp
 have cop:∀z∈told,Rb z.1 x.1:=fun z hz=>by
  have:=hc z hz
  have g:0<Ox z.1 x.1:=UY _ p3;show Ox z.1 x.1=1;lia
 refine⟨⟨⟨fun q hq=>?_,?_⟩,fun z hz=>?_,fun z hz=>h.pos z (Oe _ hz),fun z hz=>?_,fun z hz=>h.bL z (Oe _ hz),fun f hf=>?_,?_,?_⟩,?_⟩
 ·rw[N1] at hq;rcases N_.mp hq with k|k
  ·exact h.apt.1 q k
  ·have:q=x.1:=by simpa using k
   lia
 ·rw[N1,V3];refine⟨h.apt.2,by simp,fun a ha b hb=>?_⟩;obtain⟨z,hz,rfl⟩:=N9.mp ha
  have:b=x.1:=by simpa using hb
  rw[this];exact cop z hz
 ·rcases N_.mp hz with k|k
  ·exact h.ne z k
  ·have:z=x:=by simpa using k
   rw[this];exact c2
 ·rcases N_.mp hz with k|k
  ·exact h.bT z k
  ·have:z=x:=by simpa using k
   rw[this];exact p4
 ·have e:=h.sf f hf;rw[lG,vF] at e;rw[lG,vF];lia
 ·have:=h.le
  rw[gX] at this;rw[gX];lia
 ·have f:=h.few;rw[N1,bO,N6] at f;rw[N1,bO,N6,OV,PB (aW ([x].map (·.1)))];lia
 ·unfold mu;rw[N1,bO,N1,bO,N6]
  have:aW (told.map (·.1))*aW ([x].map (·.1))*aW (left.map (·.1))=aW (told.map (·.1))*(aW (left.map (·.1))*aW ([x].map (·.1))):=by
   rw[OV,PB (aW ([x].map (·.1)))]
  rw[this];show _<_+(left.length+1)
  lia
theorem Ap.split(h:Ap P0 B T C told (left++[x])){i:Nat}(hi:told[i]?=some y)(hg:1<Ox y.1 x.1) :
  Ap P0 B T C (told.eraseIdx i) (left++xF x y)/\mu (told.eraseIdx i) (left++xF x y)<mu told (left++[x]):=by
 have ⟨p1,p2,p3,p4⟩:=h.pp;have hy:=N2 hi;have y2:2<=y.1:=h.apt.1 y.1 (QK hy);have yB:=h.bT y hy;rw[Nat.gcd_comm] at hg;have ZJ:2<=Ox x.1 y.1:=hg;have sub:(told.eraseIdx i).Sublist told:=List.eraseIdx_sublist _ _;have gl:Ox x.1 y.1<=x.1:=QC p3 (Sg _ _)
 have mem:∀z∈xF x y,0<z.1/\z.1<=B:=fun z hz=>by
  have r1:=gg ZJ p3;have r2:=gg ZJ (by lia:0<y.1);have r3:=Ej ZJ p3;have r4:=Ej ZJ (by lia:0<y.1);unfold xF at hz;simp only[Od,OY,or_false] at hz;rcases hz with rfl|rfl|rfl
  ·exact⟨r1,by show cg _ _<=_;lia⟩
  ·exact⟨r2,by show cg _ _<=_;lia⟩
  ·exact⟨by show 0<Ox _ _;lia,by show Ox _ _<=_;lia⟩
 have hv:2*(aW ((told.eraseIdx i).map (·.1))*aW ((left++xF x y).map (·.1)))<=aW (told.map (·.1))*aW ((left++[x]).map (·.1))/\2<=aW ((told.eraseIdx i).map (·.1))*aW ((left++xF x y).map (·.1)):=by
  have Zo:(told.map (·.1))[i]?=some y.1:=by rw[NW,hi];rfl
  rw[jt Zo,<- vi];generalize hP:aW ((told.map (·.1)).eraseIdx i)=P;have Pp:0<P:=O8 fun z=>by rw[jt Zo,hP,z] at p1;simp at p1
  rw[N1,bO,N1,bO];generalize hL:aW (left.map (·.1))=L at p2;have hf:=M7 p3 (by lia:0<y.1) ZJ;show 2*(P*(L*(cg (Ox x.1 y.1) x.1*(cg (Ox x.1 y.1) y.1*(Ox x.1 y.1*1)))))<=y.1*P*(L*(x.1*1))/\2<=P*(L*(cg (Ox x.1 y.1) x.1*(cg (Ox x.1 y.1) y.1*(Ox x.1 y.1*1))));rw[SU,SU]
  have S1:2<=cg (Ox x.1 y.1) x.1*(cg (Ox x.1 y.1) y.1*Ox x.1 y.1):=by
   have r1:=gg ZJ p3;have r2:=gg ZJ (by lia:0<y.1)
   calc 2<=1*(1*Ox x.1 y.1):=by lia
    _<=_:=O2 r1 (O2 r2 (N4 _))
  generalize cg (Ox x.1 y.1) x.1*(cg (Ox x.1 y.1) y.1*Ox x.1 y.1)=S at hf S1
  have q1:y.1*P*(L*x.1)=P*L*(x.1*y.1):=by
   rw[PB y.1 P,OV,OV,P2 y.1 L,PB y.1]
  rw[q1,<- OV P L S];have q2:=OK (P*L) hf;have q3:1<=P*L:=Pf Pp p2;have q4:=O2 q3 S1;rw[P2] at q2;exact⟨q2,by lia⟩
 refine⟨⟨⟨fun q hq=>h.apt.1 q ((sub.map _).subset hq),h.apt.2.sublist (sub.map _)⟩,fun z hz=>h.ne z (sub.subset hz),fun z hz=>?_,fun z hz=>h.bT z (sub.subset hz),fun z hz=>?_,fun f hf=>?_,?_,?_⟩,?_⟩
 ·rcases N_.mp hz with k|k
  ·exact h.pos z (Oe _ k)
  ·exact(mem z k).1
 ·rcases N_.mp hz with k|k
  ·exact h.bL z (Oe _ k)
  ·exact(mem z k).2
 ·have e:=h.sf f hf;rw[lG,vF,vG f hi] at e;rw[lG,Ls hf p3 (by lia) ZJ];lia
 ·have e:=h.le;rw[gX,Fk,oF hi] at e
  have:=Fj p3 (by lia:0<y.1) ZJ
  rw[gX];lia
 ·have f:=h.few;have lt:=(NT.mp hi).1
  have:=pS (O8 fun z=>by rw[z] at hv;lia) hv.1
  rw[N6] at f ⊢;rw[TN,if_pos lt];show told.length-1+(left.length+3)+_<=C;have f':told.length+(left.length+1)+(aW (told.map (·.1))*aW ((left++[x]).map (·.1))).log2<=C:=f;lia
 ·unfold mu;rw[N6,N6];show _+(left.length+3)<_+(left.length+1)
  lia
structure Pt (N0:List Nat) (B C:Nat) (F Wt:List Nat):Prop where
 apt:vK F
 pos:∀x∈Wt,0<x
 bF:∀x∈F,x<=B
 bW:∀x∈Wt,x<=B
 mon:∀n∈N0,Mon (F++Wt) n
 few:F.length+Wt.length+(aW F*aW Wt).log2<=C
noncomputable def mp(F Wt:List Nat):Nat:=2*(aW F*aW Wt)+Wt.length
variable{N0 F Wt:List Nat}{a b:Nat}
theorem Pt.start{N:List Nat}(h:∀x∈N,0<x/\x<=B):Pt N B ((N.filter fun x=>decide (1<x)).length+(aW (N.filter fun x=>decide (1<x))).log2) [] (N.filter fun x=>decide (1<x)) :=
 ⟨⟨fun _ h=>(by cases h),UE⟩,fun x hx=>(h x (Os.mp hx).1).1,fun _ h=>(by cases h),fun x hx=>(h x (Os.mp hx).1).2,fun n hn=>by
  rw[RJ]
  by_cases c:1<n
  ·exact .of (Os.mpr ⟨hn,decide_eq_true c⟩)
  ·have:=(h n hn).1
   rw[show n=1 by lia];exact .one,
  by show 0+_+(1*_).log2<=_;rw[SR,Rs];exact N4 _⟩
theorem Pt.pp(h:Pt N0 B C F (Wt++[a])):0<aW F/\0<aW Wt/\0<a/\a<=B :=
 ⟨eW fun q hq=>by have:=h.apt.1 q hq;lia,eW fun q hq=>h.pos q (Oe _ hq),h.pos a (Ob _ NX),h.bW a (Ob _ NX)⟩
theorem Pt.drop(h:Pt N0 B C F (Wt++[a]))(c : ¬ 1<a):Pt N0 B C F Wt/\mp F Wt<mp F (Wt++[a]):=by
 have ⟨p1,p2,p3,_⟩:=h.pp;refine⟨⟨h.apt,fun z hz=>h.pos z (Oe _ hz),h.bF,fun z hz=>h.bW z (Oe _ hz),fun n hn=>(h.mon n hn).sub fun q hq=>?_,?_⟩,?_⟩
 ·rw[<- Pi] at hq;rcases N_.mp hq with k|k
  ·exact .of k
  ·have:q=a:=by simpa using k
   rw[this,show a=1 by lia];exact .one
 ·have f:=h.few;rw[bO,N6] at f
  have:=zl (Pf p1 p2) (OK (aW F) (QG (aW Wt) (by show 0<a*1;lia:0<aW [a])))
  lia
 ·unfold mp;rw[bO,N6];show _<2*(_*(aW Wt*(a*1)))+(Wt.length+1)
  have:=OK (aW F) (QG (aW Wt) (by lia:0<a*1))
  lia
theorem Pt.keep(h:Pt N0 B C F (Wt++[a]))(c1:1<a)(hc:∀z∈F,Ox z a<=1):Pt N0 B C (F++[a]) Wt/\mp (F++[a]) Wt<mp F (Wt++[a]):=by
 have ⟨p1,p2,p3,p4⟩:=h.pp;refine⟨⟨⟨fun q hq=>?_,?_⟩,fun z hz=>h.pos z (Oe _ hz),fun z hz=>?_,fun z hz=>h.bW z (Oe _ hz),fun n hn=>(h.mon n hn).sub fun q hq=>.of ?_,?_⟩,?_⟩
 ·rcases N_.mp hq with k|k
  ·exact h.apt.1 q k
  ·have:q=a:=by simpa using k
   lia
 ·rw[V3];refine⟨h.apt.2,by simp,fun u hu b hb=>?_⟩
  have:b=a:=by simpa using hb
  have:=hc u hu
  have g:0<Ox u a:=UY _ p3;subst b;show Ox u a=1;lia
 ·rcases N_.mp hz with k|k
  ·exact h.bF z k
  ·have:z=a:=by simpa using k
   rw[this];exact p4
 ·simp only[N_,Od,OY,or_false] at hq ⊢;rcases hq with k|k|k
  ·exact .inl (.inl k)
  ·exact .inr k
  ·exact .inl (.inr k)
 ·have f:=h.few;rw[bO,N6] at f;rw[bO,N6,OV,PB (aW [a])];lia
 ·unfold mp;rw[bO,bO,N6,OV,PB (aW [a])];show _<_+(Wt.length+1)
  lia
theorem yr:∀{L:List Nat} {q:Nat},q∈L->aW L=q*aW (L.erase q)
 |x :: L,q,h=>by
  rw[List.erase_cons];split
  ·rename_i c;rw[show x=q by simpa using c];rfl
  ·rename_i c;rcases Od.mp h with e|e
   ·exact absurd (by simp[e]) c
   ·show x*aW L=q*(x*aW (L.erase q));rw[yr e,P2]
theorem Pt.split(h:Pt N0 B C F (Wt++[a]))(hb:b∈F)(hg:1<Ox b a) :
  Pt N0 B C (F.erase b) (Wt++[Ox b a,b / Ox b a,a / Ox b a])/\mp (F.erase b) (Wt++[Ox b a,b / Ox b a,a / Ox b a])<mp F (Wt++[a]):=by
 have ⟨p1,p2,p3,p4⟩:=h.pp;have b2:=h.apt.1 b hb;have bB:=h.bF b hb;have sub:(F.erase b).Sublist F:=List.erase_sublist;have da:=Te b a;have db:=Sg b a;have ea:=We da;have eb:=We db;have gl:=QC p3 da;generalize Ox b a=g at *;have qa:0<a / g:=O8 fun z=>by rw[z] at ea;simp at ea;lia
 have qb:0<b / g:=O8 fun z=>by rw[z] at eb;simp at eb;lia
 have la:=XJ a g;have lb:=XJ b g
 have hv:2*(aW (F.erase b)*aW (Wt++[g,b / g,a / g]))<=aW F*aW (Wt++[a])/\2<=aW (F.erase b)*aW (Wt++[g,b / g,a / g]):=by
  rw[yr hb,bO,bO];generalize hP:aW (F.erase b)=P;have Pp:0<P:=O8 fun z=>by rw[yr hb,hP,z] at p1;simp at p1
  generalize aW Wt=L at p2;show 2*(P*(L*(g*(b / g*(a / g*1)))))<=b*P*(L*(a*1))/\2<=P*(L*(g*(b / g*(a / g*1))));rw[SU,SU,<- OV g,eb]
  have q1:b*P*(L*a)=P*L*(b*a):=by
   rw[PB b P,OV,OV,P2 b L]
  rw[q1,<- OV P L]
  have hf:2*(b*(a / g))<=b*a:=by
   have:=OF (a / g) hg
   have:=OK b this
   rw[ea,P2] at this;exact this
  have S1:2<=b*(a / g):=by have:=O2 b2 qa;lia
  generalize b*(a / g)=S at hf S1;have q2:=OK (P*L) hf;have q3:1<=P*L:=Pf Pp p2;have q4:=O2 q3 S1;rw[P2] at q2;exact⟨q2,by lia⟩
 refine⟨⟨⟨fun q hq=>h.apt.1 q (sub.subset hq),h.apt.2.sublist sub⟩,fun z hz=>?_,fun z hz=>h.bF z (sub.subset hz),fun z hz=>?_,fun n hn=>(h.mon n hn).sub fun q hq=>?_,?_⟩,?_⟩
 ·rcases N_.mp hz with k|k
  ·exact h.pos z (Oe _ k)
  ·simp only[Od,OY,or_false] at k;rcases k with rfl|rfl|rfl <;> lia
 ·rcases N_.mp hz with k|k
  ·exact h.bW z (Oe _ k)
  ·simp only[Od,OY,or_false] at k;rcases k with rfl|rfl|rfl <;> lia
 ·have m:∀u,u∈[g,b / g,a / g]->Mon (F.erase b++(Wt++[g,b / g,a / g])) u:=fun u hu=>.of (Ob _ (Ob _ hu))
  rcases N_.mp hq with k|k
  ·by_cases c:q=b
   ·have t:=(m g (by simp)).times (m (b / g) (by simp));rw[eb] at t;rw[c];exact t
   ·exact .of (Oe _ ((TU c).mpr k))
  ·rcases N_.mp k with k|k
   ·exact .of (Ob _ (Oe _ k))
   ·have t:=(m g (by simp)).times (m (a / g) (by simp));rw[ea] at t;rw[show q=a by simpa using k];exact t
 ·have f:=h.few
  have:=pS (O8 fun z=>by rw[z] at hv;lia) hv.1
  have l0:=RE hb;rw[N6] at f ⊢;rw[SA hb];show F.length-1+(Wt.length+3)+_<=C;have f':F.length+(Wt.length+1)+(aW F*aW (Wt++[a])).log2<=C:=f;lia
 ·unfold mp;rw[N6,N6];show _+(Wt.length+3)<_+(Wt.length+1)
  lia
end Pw
namespace Tr
theorem Mp(a b c:Rat):a*(b*c)=b*(a*c):=by rw[<- OX,<- OX,Uj a b]
theorem mx{α:Type}(f:α->Rat):∀{l:List α},l≠[]->∃j∈l,∀h∈l,f h<=f j
 |[],h=>absurd rfl h
 |[a],_=>⟨a,NX,fun h hh=>by rw[show h=a by simpa using hh];exact VZ⟩
 |a :: b :: l,_=>by
  obtain⟨j,hj,k⟩:=mx f (l:=b :: l) (by simp);rcases Rat.le_total (a:=f a) (b:=f j) with z|z
  ·refine⟨j,NZ _ hj,fun h hh=>?_⟩;rcases Od.mp hh with e|e
   ·rw[e];exact z
   ·exact k h e
  ·refine⟨a,NX,fun h hh=>?_⟩;rcases Od.mp hh with e|e
   ·rw[e];exact VZ
   ·exact Rat.le_trans (k h e) z
theorem y9{α:Type}{f:α->Rat}:∀{l:List α},(∀x∈l,0<=f x)->ls l f=0->∀x∈l,f x=0
 |a :: l,h,e,x,hx=>by
  have h1:=h a NX;have h2:0<=ls l f:=jG fun y hy=>h y (NZ _ hy)
  rw[a9] at e
  have e1:f a=0:=by
   refine Rat.le_antisymm ?_ h1
   have:=(Rat.add_le_add_left (c:=f a)).mpr h2
   rw[e,Rc] at this;exact this
  rcases Od.mp hx with z|z
  ·rw[z];exact e1
  ·rw[e1,Uf] at e;exact y9 (fun y hy=>h y (NZ _ hy)) e x z
theorem J0{α:Type}(l:List α)(f g:α->Rat):ls l (fun x=>f x-g x)=ls l f-ls l g:=by
 have:ls l (fun x=>f x-g x)=ls l (fun x=>f x+(-1)*g x):=a_ fun x _=>by rw[WI,Rat.neg_mul,Re]
 rw[this,EI,uQ,WI,Rat.neg_mul,Re]
section
variable{es:List (Nat×Nat)}{pc:Nat->Rat}
noncomputable def Nr(es:List (Nat×Nat))(pc u:Nat->Rat)(n:Nat):Prop:=∀j,j<n->ls ((Oa es.length).filter fun k=>aV es k == j) (fun k=>pc k*u (bb es k))=ls ((Oa es.length).filter fun k=>bb es k == j) fun k=>pc k*u (bb es k)
theorem Pn.app:∀{n m a b c:Nat},Pn es n a b->Pn es m b c->Pn es (n+m) a c
 |0,m,a,b,c,h,k=>by rw[Rs,show a=b from h];exact k
 |n+1,m,a,b,c,⟨k,hk,e,p⟩,q=>by rw[Nat.succ_add];exact⟨k,hk,e,Pn.app p q⟩
theorem Pn.back(bk:∀k,k<es.length->∃m,Pn es m (aV es k) (bb es k)):∀{n a b:Nat},Pn es n a b->∃m,Pn es m b a
 |0,a,b,h=>⟨0,(show a=b from h).symm⟩
 |n+1,a,b,⟨k,hk,e,p⟩=>by
  obtain⟨m1,q1⟩:=Pn.back bk p;obtain⟨m2,q2⟩:=bk k hk;rw[e] at q2;exact⟨m1+m2,q1.app q2⟩
theorem Pn.lt{N:Nat}(ok:∀k,k<es.length->bb es k<N/\aV es k<N):∀{n a b:Nat},Pn es n a b->a<N->b<N
 |0,a,b,h,l=>by rw[<- show a=b from h];exact l
 |n+1,a,b,⟨k,hk,_,p⟩,_=>Pn.lt ok p (ok k hk).2
open Classical in
theorem NC{n:Nat}(ok:∀k,k<es.length->bb es k<n/\aV es k<n)(pp:∀k,k<es.length->0<pc k)(bk:∀k,k<es.length->∃m,Pn es m (aV es k) (bb es k))
  (bu:Nr es pc u n) (bv:Nr es pc v n) (vp:∀h,h<n->0<v h) {a:Nat} (ha:a<n):∃c:Rat,∀b m,Pn es m a b->u b=c*v b:=by
 obtain⟨j,hj,top⟩:=mx (fun h=>u h / v h) (l:=(Oa n).filter fun h=>decide (∃m,Pn es m a h)) (fun z=>by
  have:a∈(Oa n).filter fun h=>decide (∃m,Pn es m a h):=Os.mpr ⟨Ow.mpr ha,decide_eq_true ⟨0,rfl⟩⟩
  rw[z] at this;cases this)
 obtain⟨j1,j2⟩:=Os.mp hj;have jn:=Ow.mp j1;obtain⟨mj,pj⟩:=of_decide_eq_true j2;have dv:∀h,h<n->u h / v h*v h=u h:=fun h hh=>WH fun z=>by have:=vp h hh;rw[z] at this;exact absurd this Wn
 refine⟨u j / v j,?_⟩
 have le:∀h m,Pn es m a h->u h<=u j / v j*v h:=fun h m p=>by
  have hn:=p.lt ok ha
  have:=top h (Os.mpr ⟨Ow.mpr hn,decide_eq_true ⟨m,p⟩⟩)
  have:=Rat.mul_le_mul_of_nonneg_right this (Ui (vp h hn))
  rw[dv h hn] at this;exact this
 generalize hc:u j / v j=c at le;have ej:u j=c*v j:=by rw[<- hc,dv j jn]
 have step:∀k,k<es.length->(∃m,Pn es m a (aV es k))->u (aV es k)=c*v (aV es k)->u (bb es k)=c*v (bb es k):=by
  intro k hk ⟨m,p⟩ e;have xn:=(ok k hk).2;have b1:=bu _ xn;have b2:=bv _ xn
  have o:ls ((Oa es.length).filter fun i=>bb es i == aV es k) (fun i=>pc i*u (bb es i))=c*ls ((Oa es.length).filter fun i=>bb es i == aV es k) fun i=>pc i*v (bb es i):=by
   rw[<- uQ];refine a_ fun i hi=>?_
   have:bb es i=aV es k:=by simpa using(Os.mp hi).2
   rw[this,e,<- OX,<- OX,Uj (pc i) c]
  have z:ls ((Oa es.length).filter fun i=>aV es i == aV es k) (fun i=>c*(pc i*v (bb es i))-pc i*u (bb es i))=0:=by
   rw[J0,uQ,b1,b2,<- o,Rat.sub_self]
  have ge:∀i∈(Oa es.length).filter fun i=>aV es i == aV es k,0<=c*(pc i*v (bb es i))-pc i*u (bb es i):=fun i hi=>by
   obtain⟨i1,i2⟩:=Os.mp hi;have il:=Ow.mp i1;have it:aV es i=aV es k:=by simpa using i2
   obtain⟨m2,q⟩:=bk i il;rw[it] at q
   have:=le _ _ (p.app q)
   have:=Rat.mul_le_mul_of_nonneg_left this (Ui (pp i il))
   rw[Mp] at this;exact Rat.le_iff_sub_nonneg _ _ |>.mp this
  have:=y9 ge z k (Os.mpr ⟨Ow.mpr hk,by simp⟩)
  have e2:c*(pc k*v (bb es k))=pc k*u (bb es k):=by
   have:=congrArg (· + pc k*u (bb es k)) this
   simpa[Rat.sub_add_cancel,Uf] using this
  rw[Mp] at e2;have pk:=pp k hk
  have:=congrArg ((pc k)⁻¹ * ·) e2
  simp only[<- OX] at this;rw[Rat.inv_mul_cancel _ (fun z=>by rw[z] at pk;exact absurd pk Wn)] at this;simp only[Re] at this;exact this.symm
 have all:∀m b,(∃k,Pn es k a b)->Pn es m b j->u b=c*v b:=by
  intro m
  induction m with
  |zero=>intro b _ h;rw[show b=j from h];exact ej
  |succ m ih =>
   intro b ⟨q,hq⟩ ⟨k,hk,e,p⟩;subst e;exact step k hk ⟨_,hq.snoc hk⟩ (ih _ ⟨_,hq.snoc hk⟩ p)
 intro b m p;obtain⟨m2,q⟩:=p.back bk;exact all _ b ⟨m,p⟩ (q.app pj)
end
end Tr
namespace Ev
open Bo Pw
noncomputable def vr(f:Nat->Int)(x:Rat):Int:=f x.num.natAbs-f x.den
theorem yW{x:Rat}(h:0<x):0<x.num.natAbs:=by
 have a:=V1.mpr (Ui h);have b:x.num≠0:=fun z=>by rw[XI.mp z] at h;exact absurd h Wn
 lia
theorem iV{f:Nat->Int}(hf:Add f){x y:Rat}(hx:0<x)(hy:0<y):vr f (x*y)=vr f x+vr f y:=by
 have e:(x*y).num*((x.den:Int)*y.den)=x.num*y.num*(x*y).den:=by
  have h:OM (x*y).num (x*y).den=OM (x.num*y.num) ((x.den:Int)*y.den):=by
   rw[RF,<- RS,RF,RF]
  have d1:((x*y).den:Int)≠0:=by have:=(x*y).den_nz;lia
  have d2:(x.den:Int)*y.den≠0:=RL (by have:=x.den_nz;lia) (by have:=y.den_nz;lia);exact(SB d1 d2).mp h
 have e2:=congrArg X3 e;rw[OU,OU,OU,OU,Qf,Qf,Qf] at e2;have e3:=congrArg f e2;have px:=yW hx;have py:=yW hy;have pz:=yW (V0 hx hy);have dx:=O8 x.den_nz;have dy:=O8 y.den_nz;have dz:=O8 (x*y).den_nz;rw[hf.mul _ _ pz (Pf dx dy),hf.mul _ _ dx dy,hf.mul _ _ (Pf px py) dz,hf.mul _ _ px py] at e3;unfold vr;lia
theorem t9{f:Nat->Int}(hf:Add f):vr f 1=0:=by
 have:=iV hf (x:=1) (y:=1) (by decide) (by decide)
 rw[Qs] at this;lia
theorem t7{f:Nat->Int}(hf:Add f){x:Rat}(hx:0<x):∀k:Nat,0<x ^ k/\vr f (x ^ k)=(k:Int)*vr f x
 |0=>by rw[Sh,t9 hf];exact⟨by decide,by simp⟩
 |k+1=>by
  obtain⟨a,b⟩:=t7 hf hx k;rw[RH,iV hf a hx,b];refine⟨V0 a hx,?_⟩;show _=((k:Int)+1)*_;rw[Q9,SQ]
theorem KZ{n N:Nat}{lot:Nat->Nat}{row d:Nat->Int}(lb:∀k,k<n->lot k<N)(dl:∀k k',k<n->k'<n->lot k=lot k'->d k=d k')
  (z:∀l,l<N->sm n (fun k=>if lot k=l then row k else 0)=0):sm n (fun k=>row k*d k)=0:=by
 classical
 let D:Nat->Int:=fun l=>if h:∃k,k<n/\lot k=l then d h.choose else 0
 have hD:∀k,k<n->D (lot k)=d k:=fun k hk=>by
  have h:∃k',k'<n/\lot k'=lot k:=⟨k,hk,rfl⟩
  show(if h:∃k',k'<n/\lot k'=lot k then d h.choose else 0)=d k;rw[dif_pos h];exact dl _ _ h.choose_spec.1 hk h.choose_spec.2
 have e:sm n (fun k=>row k*d k)=sm n (fun k=>sm N (fun j=>D j*(if lot k=j then 1 else 0))*row k):=aK fun k hk=>by
  rw[Ee (lb k hk) fun j _ nj=>by rw[if_neg fun q=>nj q.symm,Pz],if_pos rfl,VM,hD k hk,O0]
 rw[e,xN];refine dH fun j hj=>?_
 have:sm n (fun k=>(if lot k=j then 1 else 0)*row k)=sm n (fun k=>if lot k=j then row k else 0):=aK fun k _=>by
  split
  ·exact SQ _
  ·exact Qz _
 rw[this,z j hj,Pz]
theorem DE{f:Nat->Int}(hf:Add f){n S N:Nat}{W v w:Nat->Rat}{h:Nat->Nat->Nat}{lot:Nat->Nat}{row:Nat->Int}
  (pW:∀k,k<n->0<W k) (pv:∀k,k<n->0<v k) (hv:∀k,k<n->vr f (v k)=sm S fun s=>vr f (w s)*(h k s:Int)) (lb:∀k,k<n->lot k<N)
  (pr:∀k k',k<n->k'<n->lot k=lot k'->W k*v k'=W k'*v k) (z:∀l,l<N->sm n (fun k=>if lot k=l then row k else 0)=0) (st:∀s,s<S->sm n (fun k=>(h k s:Int)*row k)=0) :
  sm n (fun k=>row k*vr f (W k))=0:=by
 have e:sm n (fun k=>row k*vr f (W k))=sm n (fun k=>row k*(vr f (W k)-vr f (v k)))+sm n (fun k=>sm S (fun s=>vr f (w s)*(h k s:Int))*row k):=by
  rw[<- Bo.iq];refine aK fun k hk=>?_
  rw[<- hv k hk,TM,O0 (vr f (v k))];lia
 rw[e,KZ lb (fun k k' hk Y4 l=>?_) z,xN,dH fun s hs=>by rw[st s hs,Pz]]
 ·rfl
 ·have a:=iV hf (pW k hk) (pv k' Y4);have b:=iV hf (pW k' Y4) (pv k hk);rw[pr k k' hk Y4 l] at a;lia
end Ev
namespace Dt
open Bo
noncomputable abbrev gT:=Nat->Int
noncomputable def sg(p:Nat):Int:=if p % 2=0 then 1 else -1
theorem sy(p:Nat):sg (p+1) = - sg p:=by unfold sg;split <;> split <;> lia
theorem Eg(p q:Nat):sg (p+q)=sg p*sg q:=by
 induction q with
 |zero=>rw[Xa,show sg 0=1 from rfl,VM]
 |succ q ih=>rw[<- SC,sy,ih,sy,RZ]
theorem Eh(p:Nat):(sg p).natAbs=1:=by unfold sg;split <;> rfl
noncomputable def D:List gT->List Nat->Int
 |[],_=>1
 |c :: cs,I=>sm I.length fun p=>sg p*c (I.getD p 0)*D cs (I.eraseIdx p)
theorem Nt{A B:Nat->Nat->Int}:∀n,sm n (fun p=>sm (n-1) fun q=>if q<p then A p q else B p (q+1))=sm n fun y=>sm y fun x=>A y x+B x y
 |0=>rfl
 |1=>rfl
 |n+2=>by
  show sm (n+1) (fun p=>sm (n+1) fun q=>if q<p then A p q else B p (q+1))+sm (n+1) (fun q=>if q<n+1 then A (n+1) q else B (n+1) (q+1))=sm (n+1) (fun y=>sm y fun x=>A y x+B x y)+sm (n+1) fun x=>A (n+1) x+B x (n+1)
  rw[<- Nt (n+1)]
  have e1:sm (n+1) (fun p=>sm (n+1) fun q=>if q<p then A p q else B p (q+1))=sm (n+1) (fun p=>sm (n+1-1) fun q=>if q<p then A p q else B p (q+1))+sm (n+1) fun p=>B p (n+1):=by
   rw[<- Bo.iq];refine aK fun p hp=>?_
   show sm n _+(if n<p then A p n else B p (n+1))=_;rw[if_neg (by lia)];rfl
  have e2:sm (n+1) (fun q=>if q<n+1 then A (n+1) q else B (n+1) (q+1))=sm (n+1) (A (n+1)):=aK fun q hq=>if_pos hq
  have e3:sm (n+1) (fun x=>A (n+1) x+B x (n+1))=sm (n+1) (A (n+1))+sm (n+1) fun x=>B x (n+1):=Bo.iq _ _ _
  rw[e1,e2,e3];lia
theorem vj{I:List Nat}{p:Nat}(h:p<I.length):(I.eraseIdx p).length=I.length-1:=by rw[TN,if_pos h]
theorem KQ:∀(I:List Nat) (p q:Nat),p<=q->(I.eraseIdx p).eraseIdx q=(I.eraseIdx (q+1)).eraseIdx p
 |[],_,_,_=>rfl
 |_ :: _,0,_,_=>rfl
 |x :: I,p+1,0,h=>absurd h (by lia)
 |x :: I,p+1,q+1,h=>congrArg (x :: ·) (KQ I p q (by lia))
theorem LB(a b:gT)(cs:List gT)(I:List Nat):D (a :: b :: cs) I=sm I.length fun y=>sm y fun x=>sg (x+y)*(a (I.getD y 0)*b (I.getD x 0)-a (I.getD x 0)*b (I.getD y 0))*D cs ((I.eraseIdx y).eraseIdx x):=by
 have e:D (a :: b :: cs) I=sm I.length (fun p=>sm (I.length-1) fun q=>if q<p then sg (q+p)*(a (I.getD p 0)*b (I.getD q 0))*D cs ((I.eraseIdx p).eraseIdx q) else-(sg (p+(q+1))*(a (I.getD p 0)*b (I.getD (q+1) 0))*D cs ((I.eraseIdx (q+1)).eraseIdx p))):=by
  refine aK fun p hp=>?_
  show sg p*a (I.getD p 0)*sm (I.eraseIdx p).length _=_;rw[vj hp,<- i_];refine aK fun q hq=>?_
  split
  ·rename_i c
   have:(I.eraseIdx p).getD q 0=I.getD q 0:=by
    rw[NS,Vq,if_pos c,NS]
   rw[this,W_ q p,Eg];simp only[OE,Qo]
  ·rename_i c
   have:(I.eraseIdx p).getD q 0=I.getD (q+1) 0:=by
    rw[NS,Vq,if_neg c,NS]
   rw[this,<- SC,sy,Eg,KQ I p q (by lia)];simp only[Qg,Int.neg_neg,OE,Qo]
 rw[e,Nt (A:=fun p q=>sg (q+p)*(a (I.getD p 0)*b (I.getD q 0))*D cs ((I.eraseIdx p).eraseIdx q)) (B:=fun p q=>- (sg (p+q)*(a (I.getD p 0)*b (I.getD q 0))*D cs ((I.eraseIdx q).eraseIdx p)))];refine aK fun y _=>aK fun x _=>?_
 rw[TM,Xy];lia
theorem AV(a b:gT)(cs:List gT)(I:List Nat):D (a :: b :: cs) I = - D (b :: a :: cs) I:=by
 rw[LB,LB,<- Vz,<- i_];refine aK fun y _=>?_
 rw[<- i_];refine aK fun x _=>?_
 have e:b (I.getD y 0)*a (I.getD x 0)-b (I.getD x 0)*a (I.getD y 0) = -(a (I.getD y 0)*b (I.getD x 0)-a (I.getD x 0)*b (I.getD y 0)):=by
  rw[O0 (b (I.getD y 0)),O0 (b (I.getD x 0))];lia
 rw[e,RZ,Vz,Qg,Int.neg_neg]
theorem LD(c:gT)(B:List gT):∀(A:List gT) (I:List Nat),D (c :: (A++c :: B)) I=0
 |[],I=>by have:=AV c c B I;show D (c :: c :: B) I=0;lia
 |a :: A,I=>by
  show D (c :: a :: (A++c :: B)) I=0;rw[AV]
  have:D (a :: c :: (A++c :: B)) I=0:=dH fun p _=>by rw[LD c B A,Pz]
  rw[this];rfl
theorem Nq{c:gT}{cs:List gT}(h:c∈cs)(I:List Nat):D (c :: cs) I=0:=by
 obtain⟨A,B,rfl⟩:=List.append_of_mem h;exact LD c B A I
theorem LF{cs ZZ:List gT}(h:cs.Perm ZZ):∀I,(D cs I).natAbs=(D ZZ I).natAbs/\(D cs I=D ZZ I\/D cs I = - D ZZ I):=by
 have one:∀{cs ZZ:List gT},cs.Perm ZZ->∃s:Int,(s=1\/s = -1)/\∀I,D cs I=s*D ZZ I:=by
  intro cs ZZ h
  induction h with
  |nil=>exact⟨1,.inl rfl,fun I=>(SQ _).symm⟩
  |cons x _ ih =>
   obtain⟨s,hs,e⟩:=ih;refine⟨s,hs,fun I=>?_⟩;show sm _ _=s*sm _ _;rw[<- i_];refine aK fun p _=>?_
   rw[e,Qo]
  |swap x y l=>exact⟨-1,.inr rfl,fun I=>by rw[AV];lia⟩
  |trans _ _ h1 h2 =>
   obtain⟨s,hs,e⟩:=h1;obtain⟨t,ht,e'⟩:=h2;refine⟨s*t,?_,fun I=>by rw[e,e',OE]⟩;rcases hs with rfl|rfl <;> rcases ht with rfl|rfl <;> first|exact .inl rfl|exact .inr rfl
 obtain⟨s,hs,e⟩:=one h;intro I;rw[e I];rcases hs with rfl|rfl
 ·rw[SQ];exact⟨rfl,.inl rfl⟩
 ·rw[Vz,X4];exact⟨rfl,.inr rfl⟩
noncomputable def sn:Nat->(Nat->Nat)->Nat
 |0,_=>0
 |n+1,f=>sn n f+f n
theorem L3(n:Nat)(f:Nat->Int):(sm n f).natAbs<=sn n fun p=>(f p).natAbs:=by
 induction n with
 |zero=>exact N4 _
 |succ n ih=>exact Oi (Td _ _) (Nat.add_le_add_right ih _)
theorem Bu{n:Nat}{f g:Nat->Nat}(h:∀p,p<n->f p<=g p):sn n f<=sn n g:=by
 induction n with
 |zero=>exact N4 _
 |succ n ih=>exact X2 (ih fun p hp=>h p (by lia)) (h n (by lia))
theorem uo(n c:Nat):sn n (fun _=>c)=n*c:=by
 induction n with
 |zero=>exact(Tc _).symm
 |succ n ih=>show sn n _+c=_;rw[ih,RG]
theorem Iq(n c:Nat)(f:Nat->Nat):sn n (fun p=>f p*c)=sn n f*c:=by
 induction n with
 |zero=>exact(Tc _).symm
 |succ n ih=>show sn n _+f n*c=(sn n f+f n)*c;rw[ih,Nat.add_mul]
theorem LH(c:gT)(cs:List gT)(I:List Nat):(D (c :: cs) I).natAbs<=sn I.length fun p=>(c (I.getD p 0)).natAbs*(D cs (I.eraseIdx p)).natAbs :=
 Oi (L3 _ _) (Bu fun p _=>by rw[OU,OU,Eh,SR];exact N4 _)
noncomputable def fc:Nat->Nat
 |0=>1
 |n+1=>(n+1)*3*fc n
theorem LC:∀{cs:List gT} {I:List Nat},(∀c∈cs,∀i,(c i).natAbs<=3)->I.length=cs.length->(D cs I).natAbs<=fc cs.length
 |[],I,_,_=>N4 _
 |c :: cs,I,h,l=>by
  refine Oi (LH c cs I) (Oi (Bu (g:=fun _=>3*fc cs.length) fun p hp=>O2 (h c NX _) (LC (fun x hx=>h x (NZ _ hx)) (by rw[vj hp,l];rfl))) ?_);rw[uo,l,<- OV];exact N4 _
noncomputable def mk(m:gT)(I:List Nat):Nat:=sn I.length fun p=>(m (I.getD p 0)).natAbs
noncomputable def pm(ms:List gT)(I:List Nat):Nat:=(ms.map fun m=>mk m I).foldr (· * ·) 1
theorem L1(f:Nat->Nat):∀(I:List Nat) (p:Nat),sn (I.eraseIdx p).length (fun q=>f ((I.eraseIdx p).getD q 0))<=sn I.length fun q=>f (I.getD q 0):=by
 have shift:∀(x:Nat) (I:List Nat),sn (x :: I).length (fun q=>f ((x :: I).getD q 0))=f x+sn I.length fun q=>f (I.getD q 0):=by
  intro x I
  have go:∀n,sn (n+1) (fun q=>f ((x :: I).getD q 0))=f x+sn n fun q=>f (I.getD q 0):=by
   intro n
   induction n with
   |zero=>show 0+f x=f x+0;lia
   |succ n ih=>show sn (n+1) _+f ((x :: I).getD (n+1) 0)=f x+(sn n _+f (I.getD n 0));rw[ih];show _+f (I.getD n 0)=_;lia
  exact go I.length
 intro I
 induction I with
 |nil=>intro p;exact N4 _
 |cons x I ih =>
  intro p;cases p with
  |zero=>rw[shift];exact Nat.le_add_left _ _
  |succ p =>
   show sn (x :: I.eraseIdx p).length (fun q=>f ((x :: I.eraseIdx p).getD q 0))<=_;rw[shift,shift];exact T8 (ih p) _
theorem Jg(I:List Nat)(p:Nat):∀ms:List gT,pm ms (I.eraseIdx p)<=pm ms I
 |[]=>N4 _
 |m :: ms=>O2 (L1 (fun i=>(m i).natAbs) I p) (Jg I p ms)
theorem LG{ss:List gT}(h:∀c∈ss,∀i,(c i).natAbs<=3):∀{ms:List gT} {I:List Nat},I.length=ms.length+ss.length->(D (ms++ss) I).natAbs<=pm ms I*fc ss.length
 |[],I,l=>by
  show(D ss I).natAbs<=1*_;rw[SR];exact LC h (by simpa using l)
 |m :: ms,I,l=>by
  refine Oi (LH m (ms++ss) I) (Oi (Bu (g:=fun p=>(m (I.getD p 0)).natAbs*(pm ms I*fc ss.length)) fun p hp=>OK _ (Oi (LG h (by rw[vj hp,l];show ms.length+1+ss.length-1=_;lia)) (OF _ (Jg I p ms)))) ?_);rw[Iq,<- OV];exact N4 _
noncomputable def NV(dF:Nat->gT)(J:List Nat)(n t:Nat):Prop:=∃js I:List Nat,js.Nodup/\(∀j∈js,j∈J)/\I.Nodup/\(∀i∈I,i<n)/\js.length=t/\I.length=t/\D (js.map dF) I≠0
theorem NV.le{dF:Nat->gT}(h:NV dF J n t):t<=J.length:=by
 obtain⟨js,I,nd,sub,_,_,l,_⟩:=h;rw[<- l];exact Ti.a5 nd sub
theorem NV.top(dF:Nat->gT)(J:List Nat)(n:Nat):∃t,NV dF J n t/\¬ NV dF J n (t+1):=by
 refine Pq fun no=>?_
 have all:∀t,NV dF J n t:=fun t=>by
  induction t with
  |zero=>exact⟨[],[],P5,by simp,P5,by simp,rfl,rfl,by show(1:Int)≠0;decide⟩
  |succ t ih=>exact Pq fun z=>no ⟨t,ih,z⟩
 have:=(all (J.length+1)).le
 lia
theorem JU(dF:Nat->gT){J:List Nat}{n:Nat}(hn:J.length<n):∃js I:List Nat,js.Nodup/\(∀j∈js,j∈J)/\I.Nodup/\(∀i∈I,i<n)/\I.length=js.length+1/\D (js.map dF) (I.eraseIdx 0)≠0/\∀j∈J,D (dF j :: js.map dF) I=0:=by
 obtain⟨t,⟨js,I,nd,sub,ndI,lt,l1,l2,ne⟩,no⟩:=NV.top dF J n;have tl:=Ti.a5 nd sub
 obtain⟨i0,h0,nI⟩:∃i0,i0<n/\i0∉I:=Pq fun z=>by
  have:=Ti.a5 (l:=Oa n) (hs:=I) Se fun x hx=>Pq fun y=>z ⟨x,Ow.mp hx,y⟩
  rw[On] at this;lia
 have nd':(i0 :: I).Nodup:=OO.mpr ⟨nI,ndI⟩;have lt':∀i∈i0 :: I,i<n:=fun i hi=>(Od.mp hi).elim (fun e=>by rw[e];exact h0) (lt i)
 refine⟨js,i0 :: I,nd,sub,nd',lt',by rw[Oz];lia,ne,fun j hj=>?_⟩;by_cases c:j∈js
 ·exact Nq (QK c) _
 ·refine Pq fun z=>no ⟨j :: js,i0 :: I,OO.mpr ⟨c,nd⟩,fun x hx=>(Od.mp hx).elim (fun e=>by rw[e];exact hj) (sub x),nd',lt',by rw[Oz,l1],by rw[Oz,l2],z⟩
theorem Mu(dF:Nat->gT){J:List Nat}{n:Nat}(hn:J.length<n):∃(js I:List Nat) (x:Nat->Int),js.Nodup/\(∀j∈js,j∈J)/\I.Nodup/\(∀i∈I,i<n)/\I.length=js.length+1/\(∃i,i<n/\x i≠0)/\(∀i,x i≠0->∃p,p<I.length/\(x i).natAbs=(D (js.map dF) (I.eraseIdx p)).natAbs)/\∀j∈J,sm n (fun i=>dF j i*x i)=0:=by
 obtain⟨js,I,nd,sub,ndI,lt,l,ne,z⟩:=JU dF hn;let x:Nat->Int:=fun i=>if i∈I then sg (I.idxOf i)*D (js.map dF) (I.eraseIdx (I.idxOf i)) else 0
 have xi:∀i,i∈I->x i=sg (I.idxOf i)*D (js.map dF) (I.eraseIdx (I.idxOf i)):=fun i hi=>if_pos hi
 have xo:∀i,i∉I->x i=0:=fun i hi=>if_neg hi
 refine⟨js,I,x,nd,sub,ndI,lt,l,?_,fun i hi=>?_,fun j hj=>?_⟩
 ·cases I with
  |nil=>cases l
  |cons i0 I =>
   refine⟨i0,lt i0 NX,?_⟩;rw[xi i0 NX,List.idxOf_cons_self];exact RL (by decide) ne
 ·by_cases c:i∈I
  ·refine⟨I.idxOf i,Uk c,?_⟩;rw[xi i c,OU,Eh,SR]
  ·exact absurd (xo i c) hi
 ·rw[Gu.sv ndI lt fun k _ no=>by rw[xo k no,Pz],Gu.Il,<- z j hj];refine aK fun p hp=>?_
  have e:I.getD p 0=I[p]:=by rw[NS,NR hp];rfl
  have q:I.idxOf I[p]=p:=P9 ndI p hp;rw[e,xi _ (OZ hp),q,Qo,OE]
end Dt
namespace Mb
open Rk Sz Sf Cl Mk Bo Dt
theorem JT{m:gT}(h:∀i,m i=0\/m i=1):mk m I<=I.length:=by
 have:=Bu (n:=I.length) (f:=fun p=>(m (I.getD p 0)).natAbs) (g:=fun _=>1) fun p _=>by rcases h (I.getD p 0) with e|e <;> rw[e] <;> decide
 rw[uo,SU] at this;exact this
theorem JS{a b:gT}(ha:∀i,a i=0\/a i=1)(hb:∀i,b i=0\/b i=1)(d:∀i,a i=1->b i=0):mk a I+mk b I<=I.length:=by
 have e:∀n,sn n (fun p=>(a (I.getD p 0)).natAbs)+sn n (fun p=>(b (I.getD p 0)).natAbs)<=n:=by
  intro n
  induction n with
  |zero=>exact N4 _
  |succ n ih =>
   show sn n _+(a (I.getD n 0)).natAbs+(sn n _+(b (I.getD n 0)).natAbs)<=n+1
   have:=d (I.getD n 0)
   rcases ha (I.getD n 0) with x|x <;> rcases hb (I.getD n 0) with y|y <;> rw[x,y] <;> simp_all <;> lia
 exact e I.length
theorem Jf{I:List Nat}(l7:I.length<=7):∀{ms:List gT},(∀m∈ms,∀i,m i=0\/m i=1)->pm ms I<=7 ^ ms.length
 |[],_=>N4 _
 |m :: ms,h=>by
  rw[Oz,PZ,PB];exact O2 (Oi (JT (h m NX)) l7) (Jf l7 fun x hx=>h x (NZ _ hx))
theorem Ic:∀x<8,∀y<8,x+y<=7->x*y<=12:=by decide
theorem D6{dF:Nat->gT}{S:Nat}{js I:List Nat}(nd:js.Nodup)(hS:S<=5)(st:∀j,j<S->∀i,(dF j i).natAbs<=3)(mk:∀j,S<=j->∀i,dF j i=0\/dF j i=1)
  (dj:∀i j j',S<=j->S<=j'->j≠j'->dF j i=1->dF j' i=0) (l:I.length=js.length) (l7:I.length<=7):(D (js.map dF) I).natAbs<=999999:=by
 have pe:((js.filter fun j=>decide (S<=j))++js.filter fun j=>!decide (S<=j)).Perm js:=List.filter_append_perm _ _;have ln:=pe.length_eq;rw[N6] at ln;have e:=(LF (pe.map dF) I).1;rw[<- e,N1];clear e pe;generalize hm:js.filter (fun j=>decide (S<=j))=ms at ln;generalize hs:js.filter (fun j=>!decide (S<=j))=ss at ln;have ms_:∀j∈ms,S<=j:=fun j hj=>by rw[<- hm] at hj;exact of_decide_eq_true (Os.mp hj).2
 have ss_:∀j∈ss,j<S:=fun j hj=>by rw[<- hs] at hj;have:=(Os.mp hj).2;simp at this;exact this
 have nm:ms.Nodup:=by rw[<- hm];exact nd.filter _
 have s5:ss.length<=5:=by
  have:=Ti.a5 (l:=ss) (hs:=Oa S) (by rw[<- hs];exact nd.filter _) fun j hj=>Ow.mpr (ss_ j hj)
  rw[On] at this;lia
 have b:=LG (ss:=ss.map dF) (ms:=ms.map dF) (I:=I) (fun c hc i=>by obtain⟨j,hj,rfl⟩:=N9.mp hc;exact st j (ss_ j hj) i) (by rw[NQ,NQ];lia);rw[NQ] at b;have mm:∀m∈ms.map dF,∀i,m i=0\/m i=1:=fun m hm i=>by obtain⟨j,hj,rfl⟩:=N9.mp hm;exact mk j (ms_ j hj) i
 have p:=Jf l7 mm;rw[NQ] at p;refine Oi b ?_;have lm:ms.length+ss.length<=7:=by lia
 match h5:ss.length,s5 with
 |0,_=>exact Oi (OF _ (Oi p (Om (j:=7) (by decide) (by lia)))) (by decide)
 |1,_=>exact Oi (OF _ (Oi p (Om (j:=6) (by decide) (by lia)))) (by decide)
 |2,_=>exact Oi (OF _ (Oi p (Om (j:=5) (by decide) (by lia)))) (by decide)
 |3,_=>exact Oi (OF _ (Oi p (Om (j:=4) (by decide) (by lia)))) (by decide)
 |4,_=>exact Oi (OF _ (Oi p (Om (j:=3) (by decide) (by lia)))) (by decide)
 |5,_ =>
  have q:pm (ms.map dF) I<=12:=by
   match ms,nm,mm,lm,p,ms_ with
   |[],_,_,_,_,_=>exact(by decide:1<=12)
   |[a],_,_,_,p,_=>exact Oi p (show 7 ^ 1<=12 by decide)
   |[a,b],nm,mm,_,_,ms_ =>
    have ab:a≠b:=fun z=>by rw[z] at nm;simp at nm
    have t:=JS (I:=I) (mm _ NX) (mm _ (NZ _ NX)) fun i h=>dj i a b (ms_ a (by simp)) (ms_ b (by simp)) ab h
    show Dt.mk (dF a) I*(Dt.mk (dF b) I*1)<=12;rw[SU];exact Ic _ (by lia) _ (by lia) (by lia)
   |_ :: _ :: _ :: _,_,_,lm,_,_=>simp at lm;lia
  exact Oi (OF _ q) (by decide)
theorem Ir{S k:Nat}(hw:Wide w R)(hS:S<=5)(st:∀r∈R,∀j,j<S->(pt r j).natAbs<=3)(mk:∀r∈R,∀j,S<=j->pt r j=0\/pt r j=1)
  (dj:∀r∈R,∀j j',S<=j->S<=j'->j≠j'->pt r j=1->pt r j'=0) (hk:R.length=k+1) (k7:k<=7) (nf : ¬ bh R) :
  ∃x:List Int,x.length=R.length/\(∃j,pt x j≠0)/\(∀j,(pt x j).natAbs<=999999)/\∀q,aN x R q=0:=by
 have lc:(grd (bS w R) w).length<=k:=by
  rw[<- xT hw];have s:=xS hw
  have:size w R≠R.length:=fun e=>nf (s.1.mp e)
  lia
 have at_:∀{P:List Int->Prop},(∀r∈R,P r)->P []->∀i,P (R.getD i []):=fun {P} h h0 i=>by
  rw[NS];cases e:R[i]? with
  |none=>exact h0
  |some r=>exact h r (N2 e)
 have p0:∀j,pt [] j=0:=fun j=>pf (OR _)
 obtain⟨js,I,x,nd,sub,ndI,ltI,lI,⟨j0,hj0,nx⟩,bx,ex⟩:=Mu (fun j i=>pt (R.getD i []) j) (J:=grd (bS w R) w) (n:=k+1) (by lia);have lj:=Ti.a5 nd sub;refine⟨(Oa (k+1)).map x,by rw[NQ,On,hk],⟨j0,by rw[sL hj0];exact nx⟩,fun j=>?_,fun q=>?_⟩
 ·by_cases hj:j<k+1
  ·rw[sL hj];by_cases z:x j=0
   ·rw[z];decide
   ·obtain⟨p,hp,e⟩:=bx j z;have le:=vj hp;rw[e];refine D6 (S:=S) nd hS (fun j hj i=>at_ (fun r hr=>st r hr j hj) (by rw[p0];decide) i) (fun j hj i=>at_ (fun r hr=>mk r hr j hj) (.inl (p0 j)) i) (fun i j j' hj hj' n=>at_ (fun r hr=>dj r hr j j' hj hj' n) (fun _=>p0 j') i) (by lia) (by lia)
  ·rw[pf (by rw[NQ,On];lia)];exact OR _
 ·by_cases hq:q<w
  ·obtain⟨g,d,hg,_,eg⟩:=zO (R:=bS w R) w q hq
   have base:∀r∈rowsOf (bS w R) (grd (bS w R) w),sm (k+1) (fun q=>pt r q*x q)=0:=fun r hr=>by
    unfold rowsOf at hr;obtain⟨j,hj,rfl⟩:=N9.mp hr;have jw:j<w:=Lk.gQ hj;rw[<- ex j hj];refine aK fun i hi=>?_
    rw[show(bS w R).getD j []=dF R j by unfold bS;rw[NS,NW,OW jw];rfl,ym (by lia)]
   have z:=Ef d _ base
   have e:sm (k+1) (fun q'=>aN d (rowsOf (bS w R) (grd (bS w R) w)) q'*x q')=g*aN ((Oa (k+1)).map x) R q:=by
    rw[<- mO,xQ,<- i_,hk];refine aK fun j hj=>?_
    rw[<- eg j,sL hj,show(bS w R).getD q []=dF R q by unfold bS;rw[NS,NW,OW hq];rfl,ym (by lia),OE]
   rw[e] at z;exact(OP.mp z).resolve_left hg
  ·exact vx hw (by lia)
theorem mk6{S:Nat}(hw:Wide w R)(br:wB 2 R)(h8:R.length<=8)(hS:S<=5)(mk:∀r∈R,∀j,S<=j->pt r j=0\/pt r j=1)(dj:∀r∈R,∀j j',S<=j->S<=j'->j≠j'->pt r j=1->pt r j'=0) :
  ∀m∈(mU R R.length).makers,∀c∈m,c.natAbs<10 ^ 6:=by
 refine fun m hm c hc=>Oy (Mq (N:=999999) hw br (fun T inT lT nf=>?_) m hm c hc) (by decide)
 cases T with
 |nil=>exact absurd (fun a l _ c hc=>by cases a with|nil=>cases hc|cons _ _=>cases l) nf
 |cons r T =>
  rw[Oz] at lT;refine Ir (fun r hr=>hw r (inT r hr)) hS (fun r hr j _=>?_) (fun r hr=>mk r (inT r hr)) (fun r hr=>dj r (inT r hr)) Oz (by lia) nf
  have:=kQ (br r (inT r hr)) j
  lia
end Mb
namespace As
open PySem L2 Fr G1 Sm Vs G2 Ti
open PySem.W (Dat kqdOk)
noncomputable def Fine(es:List (Nat×Nat))(j:Nat):Prop:=∀x y,es[j]?=some (x,y)->Rch es y x
noncomputable def mN(K:Fg):Sp:=fun vs H Q _=>∃(v:V) (ws:List Str) (ts:List Tn),vs=[v]/\Rz K H v (dV ws ts)/\ts.length<=100 /\
 (∀i x y,(al ts)[i]?=some (x,y)->(∀j<i,Fine (al ts) j)->¬ Rch (al ts) y x->∀H',Same H H'->Q (.int (i:Int)) H')/\((∀j,Fine (al ts) j)->∀H',Same H H'->Q .non H')
noncomputable def mf(K:Fg):TS:=(am (be (jR K (ac (ay (fY K) [] E0 (ac (aa 0) ae)) ae)) (cF K 2 (a7 (ak 1) (a7 (ak 2) cG)))
 (aI (aH (aq ky (ay (xK K) [] E0 (ac (aa 0) (ac (aq (aE K) (aa 2) (tC (.int 1))) (ac (aq (aE K) (aa 2) (tC (.int 0))) ae)))) (tC .non)))
 (aA (aa 1))
 aO))
 (aA (tC .non)))
theorem yd{K:Fg}{vs:List V}{N:List Str}(hN:N.length=3)(h:mN K vs H Q E):mf K (ends Q) (L2.start N vs) H:=by
 obtain⟨v,ws,ts,rfl,rv,hl,k1,k2⟩:=h;rw[L2.aU hN];walk_at "t";have eo:=cc ts;unfold mf;walk_at "";refine⟨v,ws,ts,rfl,rv,hl,fun pe H1 A1=>?_⟩;obtain⟨xs,YY,rx⟩:=A1.at_;have S1:=A1.same;have lx:xs.length=(al ts).length:=by rw[rx.length,NQ]
 walk_at "";refine⟨pe,xs,rfl,SqL.of YY,?_⟩;refine fK (xs:=xs) (fun i σ H2=>∃u1 u2:Option V,σ=[some v,u1,u2]/\Same H1 H2/\∀j<i,Fine (al ts) j) ⟨none,none,rfl,Same.refl _,fun j hj=>absurd hj (PD _)⟩ (fun i σ H2 _ ⟨_,_,_,S,_⟩=>SqL.of (S _ _ YY)) ?_ ?_
 ·rintro i z σ H2 T hz ⟨u1,u2,rfl,S2,dn⟩ nT;obtain⟨dd,g1,g2⟩:=rx.get hz;rw[NW] at g1;obtain⟨e,he,rfl⟩:=N8.mp g1;obtain⟨x,y⟩:=e;have oe:=eo _ (N2 he);have S3:=aj nT (.tup [.int (i:Int),z]);obtain⟨pb,rfl,Y9⟩:=qp ((g2.same S2).same S3);refine bP (SqT.of ag) rfl ?_;walk_at "";generalize upd H2 T (.tup [.int (i:Int),.ref pb])=H3 at S3 Y9 ⊢;have S13:=S2.trans S3;refine aF (SqT.of Y9) (v:=.int (y:Int)) rfl ?_;walk_at "";refine aF (SqT.of Y9) (v:=.int (x:Int)) rfl ?_;walk_at "";refine⟨v,ws,ts,y,x,rfl,(rv.same S1).same S13,hl,oe.2,oe.1,fun r p H4 S4=>?_,fun nr H4 S4=>?_⟩
  ·walk_at "";refine a6 (fun z=>nomatch z) (fun _=>?_);walk_at "";refine⟨_,_,rfl,S13.trans S4,fun j hj x' y' ge=>?_⟩;by_cases ji:j<i
   ·exact dn j ji x' y' ge
   ·have:j=i:=by lia
    rw[this,he] at ge;cases Oq ge;exact r
  ·walk_at "";refine a6 (fun _=>?_) (fun z=>absurd rfl z);walk_at "";exact k1 i x y he dn nr H4 (S1.trans (S13.trans S4))
 ·rintro σ H2 ⟨u1,u2,rfl,S2,dn⟩;walk_at "";refine k2 (fun j=>?_) H2 (S1.trans S2);by_cases jl:j<xs.length
  ·exact dn j jl
  ·intro x y ge;rw[OG (by lia)] at ge;cases ge
end As
namespace Pw
open PySem L2 Fr G1 Sm Vs G2 Rk Sz Sf Rw Ti
open PySem.W (Dat kqdOk)
theorem vd(m d:Nat):(m:Int).fmod (d:Int)=((m % d:Nat):Int):=by
 rw[Ur _ (Ut d)];rfl
theorem iU(m d:Nat):(m:Int).fdiv (d:Int)=((m / d:Nat):Int):=by
 rw[Uq _ (Ut d)];rfl
theorem vc(a b:Nat):Gd.gd (a:Int) (b:Int)=((Ox a b:Nat):Int):=rfl
theorem Ea{d m:Nat}(hd:2<=d)(hm:0<m)(h:d∣m):aS d m=aS d (m / d)+1/\cg d m=cg d (m / d)/\0<m / d/\m / d<m:=by
 obtain⟨k,rfl⟩:=h;have hk:0<k:=PR hm;have e:=wO hd hk;rw[Vd k (by lia:0<d)];refine⟨cS hd hk,by show(tk d (d*k)).2=_;rw[e],hk,?_⟩
 have:=OF k hd
 lia
theorem D_{d m:Nat}(h : ¬ d∣m):aS d m=0/\cg d m=m:=⟨gJ h,congrArg Uw (Fl h)⟩
noncomputable def Bt(K:Fg):Sp:=fun vs H Q _=>∃n d:Nat,vs=[.int (n:Int),.int (d:Int)]/\0<n/\2<=d/\d<2 ^ 9000/\∀(p:Addr) (H':Hp),Same H H'->Rz K H' (.ref p) (dI [(aS d n:Int),(cg d n:Int)])->Q (.ref p) H'
noncomputable def Fn(K:Fg):TS:=(am (av (tC (.int 0)) (ak 2))
 (am (fV (aH (aq fF (aq Cr (aa 0) (aa 1)) (tC (.int 0))))
 (am (av (aq iI (aa 0) (aa 1)) (ak 0))
 (av (aq bG (aa 2) (tC (.int 1))) (ak 2))))
 (aA (bJ (ac (aa 2) (ac (aa 0) ae))))))
theorem Iz{K:Fg}{vs:List V}{N:List Str}(hN:N.length=3)(h:Bt K vs H Q E):Fn K (ends Q) (L2.start N vs) H:=by
 obtain⟨n,d,rfl,n0,d2,dw,k⟩:=h;rw[L2.aU hN];walk_at "t";unfold Fn;walk_at ""
 refine gD (fun σ H'=>H'=H/\∃m c:Nat,σ=[some (.int (m:Int)),some (.int (d:Int)),some (.int (c:Int))]/\0<m/\aS d n=c+aS d m/\cg d n=cg d m)
  (fun σ _=>match σ with | [some (.int m),_,_]=>m.toNat|_=>0) ⟨rfl,n,0,rfl,n0,by lia,rfl⟩ ?_ ?_
 ·rintro σ H' ⟨rfl,m,c,rfl,m0,e1,e2⟩;walk_at "";refine jN (by lia) ?_;walk_at "";rw[vd];refine a6 (fun z=>?_) (fun z=>?_)
  ·have dv:d∣m:=Vr (by lia);obtain⟨f1,f2,f3,f4⟩:=Ea d2 m0 dv;walk_at "";refine jN ⟨by lia,by show d<_;exact dw⟩ ?_;rw[iU];walk_at "";exact⟨⟨rfl,m / d,c+1,rfl,f3,by lia,by rw[e2,f2]⟩,by show(((m / d:Nat):Int)).toNat<((m:Nat):Int).toNat;lia⟩
  ·have dv : ¬ d∣m:=fun y=>z (by rw[Vt y];rfl)
   obtain⟨f1,f2⟩:=D_ dv;walk_at "";refine⟨aQ,fun p np=>?_⟩
   have:=k p _ (aj np (.tup [.int (c:Int),.int (m:Int)]))
   rw[e1,e2,f1,f2] at this;exact this (.tup ag (RpL.ints [_,_]))
 ·rintro σ H' R R' h ⟨w1,e1,w2,e2,i,j,e3,e4,c,sc,kk,ek,q⟩;exact⟨w1,e1,w2,e2,i,j,e3,e4,c,sc,kk,ek,h _ _ q⟩
noncomputable def mI(K:Fg):Sp:=fun vs H Q _=>∃d n:Nat,vs=[.int (d:Int),.int (n:Int)]/\0<n/\2<=d/\d<2 ^ 9000/\Q (.int (aS d n:Int)) H
noncomputable def rB(K:Fg):TS:=(am (av (tC (.int 0)) (ak 2))
 (am (fV (aH (aq fF (aq Cr (aa 1) (aa 0)) (tC (.int 0))))
 (am (av (aq iI (aa 1) (aa 0)) (ak 1))
 (av (aq bG (aa 2) (tC (.int 1))) (ak 2))))
 (aA (aa 2))))
theorem B3{K:Fg}{vs:List V}{N:List Str}(hN:N.length=3)(h:mI K vs H Q E):rB K (ends Q) (L2.start N vs) H:=by
 obtain⟨d,n,rfl,n0,d2,dw,k⟩:=h;rw[L2.aU hN];walk_at "t";unfold rB;walk_at ""
 refine gD (fun σ H'=>H'=H/\∃m c:Nat,σ=[some (.int (d:Int)),some (.int (m:Int)),some (.int (c:Int))]/\0<m/\aS d n=c+aS d m)
  (fun σ _=>match σ with | [_,some (.int m),_]=>m.toNat|_=>0) ⟨rfl,n,0,rfl,n0,by lia⟩ ?_ ?_
 ·rintro σ H' ⟨rfl,m,c,rfl,m0,e1⟩;walk_at "";refine jN (by lia) ?_;walk_at "";rw[vd];refine a6 (fun z=>?_) (fun z=>?_)
  ·have dv:d∣m:=Vr (by lia);obtain⟨f1,f2,f3,f4⟩:=Ea d2 m0 dv;walk_at "";refine jN ⟨by lia,by show d<_;exact dw⟩ ?_;rw[iU];walk_at "";exact⟨⟨rfl,m / d,c+1,rfl,f3,by lia⟩,by show(((m / d:Nat):Int)).toNat<((m:Nat):Int).toNat;lia⟩
  ·have dv : ¬ d∣m:=fun y=>z (by rw[Vt y];rfl)
   obtain⟨f1,f2⟩:=D_ dv;walk_at "";rw[e1,f1] at k;exact k
 ·rintro σ H' R R' h ⟨w1,e1,w2,e2,i,j,e3,e4,c,sc,kk,ek,q⟩;exact⟨w1,e1,w2,e2,i,j,e3,e4,c,sc,kk,ek,h _ _ q⟩
noncomputable def kj(x:Pr):Dat:=dI [(x.1:Int),x.2]
noncomputable def rV(K:Fg):Sp:=fun vs H Q _=>∃(u v:V) (x y:Pr),vs=[u,v]/\Rz K H u (kj x)/\Rz K H v (kj y)/\0<x.1/\0<y.1/\2<=Ox x.1 y.1/\x.1<2 ^ 8000/\y.1<2 ^ 8000/\x.2.natAbs<2 ^ 8000/\y.2.natAbs<2 ^ 8000 /\
 ∀(p:Addr) (H':Hp),AccZ K H p H' ((xF x y).map kj)->Q (.ref p) H'
theorem EB{d n:Nat}(hd:2<=d)(hn:0<n):aS d n<n:=by
 have e:=(gY hd n hn).1;have r:=gg hd hn;have l:aS d n<d ^ aS d n:=Nat.lt_pow_self (by lia)
 have:=OK (d ^ aS d n) r
 lia
noncomputable def qY(K:Fg):TS:=(am (av (ay ko [] E0 (ac (aq (aE K) (aa 0) (tC (.int 0))) (ac (aq (aE K) (aa 1) (tC (.int 0))) ae))) (ak 2))
 (am (av (ay (Pw.Bt K) [] E0 (ac (aq (aE K) (aa 0) (tC (.int 0))) (ac (aa 2) ae))) (ak 3))
 (am (av (ay (Pw.Bt K) [] E0 (ac (aq (aE K) (aa 1) (tC (.int 0))) (ac (aa 2) ae))) (ak 4))
 (aA (ca (ac (bJ (ac (aq (aE K) (aa 3) (tC (.int 1))) (ac (aq (aE K) (aa 0) (tC (.int 1))) ae))) (ac (bJ (ac (aq (aE K) (aa 4) (tC (.int 1))) (ac (aq (aE K) (aa 1) (tC (.int 1))) ae))) (ac (bJ (ac (aa 2) (ac (aq bG (aq jq (aq (aE K) (aa 3) (tC (.int 0))) (aq (aE K) (aa 0) (tC (.int 1)))) (aq jq (aq (aE K) (aa 4) (tC (.int 0))) (aq (aE K) (aa 1) (tC (.int 1))))) ae))) ae))))))))
theorem BQ{K:Fg}{vs:List V}{N:List Str}(hN:N.length=5)(h:rV K vs H Q E):qY K (ends Q) (L2.start N vs) H:=by
 obtain⟨u,v,x,y,rfl,ru,rv,x0,y0,g2,xb,yb,xe,ye,k⟩:=h;rw[L2.aU hN];walk_at "t";obtain⟨a,rfl,ha⟩:=eM ru;obtain⟨b,rfl,hb⟩:=eM rv;have p8:(2:Nat) ^ 8000<2 ^ 9000:=Tr.pw_lt (by decide);have p2:(2:Nat) ^ 8000<2 ^ 20000:=Tr.pw_lt (by decide);have ox:=EB g2 x0;have oy:=EB g2 y0;have gl:=QC x0 (Sg x.1 y.1);have k':=k;unfold xF at k';generalize hg:Ox x.1 y.1=g at *;generalize (2:Nat) ^ 8000=P8 at *;unfold qY;walk_at "";refine aF (SqT.of ha) (v:=.int (x.1:Int)) rfl ?_;walk_at "";refine aF (SqT.of hb) (v:=.int (y.1:Int)) rfl ?_;walk_at "";refine⟨_,_,rfl,?_⟩;rw[vc,hg];walk_at "";refine aF (SqT.of ha) (v:=.int (x.1:Int)) rfl ?_;walk_at "";refine⟨x.1,g,rfl,x0,g2,by lia,fun p1 H1 S1 r1=>?_⟩;walk_at "";have Zb:=S1 _ _ hb;have ha1:=S1 _ _ ha;refine aF (SqT.of Zb) (v:=.int (y.1:Int)) rfl ?_;walk_at "";refine⟨y.1,g,rfl,y0,g2,by lia,fun p3 H3 S3 r3=>?_⟩;have ha3:=S3 _ _ ha1;have hb3:=S3 _ _ Zb;obtain⟨_,q1,h1⟩:=eM (r1.same S3);cases q1;obtain⟨_,q3,h3⟩:=eM r3;cases q3;walk_at "";refine aF (SqT.of h1) (v:=.int (cg g x.1:Int)) rfl ?_;walk_at "";refine aF (SqT.of ha3) (v:=.int x.2) rfl ?_;walk_at "";refine⟨aQ,fun q1 n1=>?_⟩;have T1:=aj n1 (.tup [.int (cg g x.1:Int),.int x.2]);have z1:Rz K (upd H3 q1 (.tup [.int (cg g x.1:Int),.int x.2])) (.ref q1) (kj (cg g x.1,x.2)):=.tup ag (RpL.ints [_,_]);generalize upd H3 q1 (.tup [.int (cg g x.1:Int),.int x.2])=H4 at T1 z1 ⊢;walk_at "";refine aF (SqT.of (T1 _ _ h3)) (v:=.int (cg g y.1:Int)) rfl ?_;walk_at "";refine aF (SqT.of (T1 _ _ hb3)) (v:=.int y.2) rfl ?_;walk_at "";refine⟨aQ,fun q2 n2=>?_⟩;have T2:=aj n2 (.tup [.int (cg g y.1:Int),.int y.2]);have z2:Rz K (upd H4 q2 (.tup [.int (cg g y.1:Int),.int y.2])) (.ref q2) (kj (cg g y.1,y.2)):=.tup ag (RpL.ints [_,_]);generalize upd H4 q2 (.tup [.int (cg g y.1:Int),.int y.2])=H5 at T2 z2 ⊢;have T12:=T1.trans T2;walk_at "";refine aF (SqT.of (T12 _ _ h1)) (v:=.int (aS g x.1:Int)) rfl ?_;walk_at "";refine aF (SqT.of (T12 _ _ ha3)) (v:=.int x.2) rfl ?_;walk_at "";refine jN ⟨by show aS g x.1<_;lia,by lia⟩ ?_;walk_at "";refine aF (SqT.of (T12 _ _ h3)) (v:=.int (aS g y.1:Int)) rfl ?_;walk_at "";refine aF (SqT.of (T12 _ _ hb3)) (v:=.int y.2) rfl ?_;walk_at "";refine jN ⟨by show aS g y.1<_;lia,by lia⟩ ?_;walk_at "";refine⟨aQ,fun q3 n3=>?_⟩;have T3:=aj n3 (.tup [.int (g:Int),.int (aS g x.1*x.2+aS g y.1*y.2)]);have z3:Rz K (upd H5 q3 (.tup [.int (g:Int),.int (aS g x.1*x.2+aS g y.1*y.2)])) (.ref q3) (kj (g,aS g x.1*x.2+aS g y.1*y.2)):=.tup ag (RpL.ints [_,_]);generalize upd H5 q3 (.tup [.int (g:Int),.int (aS g x.1*x.2+aS g y.1*y.2)])=H6 at T3 z3 ⊢;walk_at "";refine⟨ja,fun l nl=>?_⟩;have T4:=aj nl (.lst [.ref q1,.ref q2,.ref q3]);have S06:=((S1.trans S3).trans T12).trans T3;exact k' l _ ⟨S06.trans T4,S06.free nl,_,ag,.cons (((z1.same T2).same T3).same T4) (.cons ((z2.same T3).same T4) (.cons (z3.same T4) .nil))⟩
noncomputable def r_(K:Fg):Sp:=fun vs H Q _=>∃(a:Addr) (xs:List V) (L:List Pr) (n:Nat),vs=[.ref a,.int (n:Int)]/\H a=some (.lst xs)/\RzL K H xs (L.map kj) /\
 (∀(i:Nat) (y:Pr) (H':Hp),Same H H'->L[i]?=some y->1<Ox y.1 n->Q (.int (i:Int)) H')/\∀H',Same H H'->(∀z∈L,Ox z.1 n<=1)->Q .non H'
noncomputable def rm(K:Fg):TS:=(am (be (jR K (ac (aa 0) ae)) (cF K 2 (a7 (ak 2) (a7 (ak 3) cG)))
 (aI (aH (aq vW (ay ko [] E0 (ac (aq (aE K) (aa 3) (tC (.int 0))) (ac (aa 1) ae))) (tC (.int 1))))
 (aA (aa 2))
 aO))
 (aA (tC .non)))
theorem BW{K:Fg}{vs:List V}{N:List Str}(hN:N.length=4)(h:r_ K vs H Q E):rm K (ends Q) (L2.start N vs) H:=by
 obtain⟨a,xs,L,n,rfl,ha,rx,k1,k2⟩:=h;rw[L2.aU hN];walk_at "t";unfold rm;walk_at "";refine⟨a,_,rfl,SqL.of ha,?_⟩;refine fK (xs:=xs) (fun i σ H2=>∃u1 u2:Option V,σ=[some (.ref a),some (.int (n:Int)),u1,u2]/\Same H H2/\∀j<i,∀z,L[j]?=some z->Ox z.1 n<=1) ⟨none,none,rfl,Same.refl _,fun j hj=>absurd hj (PD _)⟩ (fun i σ H2 _ ⟨_,_,_,S,_⟩=>SqL.of (S _ _ ha)) ?_ ?_
 ·rintro i z σ H2 T hz ⟨u1,u2,rfl,S,d⟩ nT;obtain⟨dd,g1,g2⟩:=rx.get hz;rw[NW] at g1;obtain⟨y,hy,rfl⟩:=N8.mp g1;have S1:=aj nT (.tup [.int (i:Int),z]);have S2:=S.trans S1;obtain⟨b,rfl,hb⟩:=eM (g2.same S2);have hT:upd H2 T (.tup [.int (i:Int),.ref b]) T=some (.tup [.int (i:Int),.ref b]):=ag;generalize upd H2 T (.tup [.int (i:Int),.ref b])=H3 at S1 S2 hT hb ⊢;refine bP (SqT.of hT) rfl ?_;walk_at "";refine aF (SqT.of hb) (v:=.int (y.1:Int)) rfl ?_;walk_at "";refine⟨_,_,rfl,?_⟩;rw[vc];walk_at "";refine a6 (fun c=>?_) (fun c=>?_)
  ·walk_at "";exact k1 i y H3 S2 hy (by lia)
  ·walk_at "";refine⟨_,_,rfl,S2,fun j hj z hz=>?_⟩;by_cases e:j=i
   ·rw[e,hy] at hz;cases hz;lia
   ·exact d j (by lia) z hz
 ·rintro σ H2 ⟨u1,u2,rfl,S,d⟩;walk_at "";refine k2 H2 S fun z hz=>?_
  obtain⟨j,hj⟩:=ON hz
  have:=(NT.mp hj).1
  exact d j (by rw[rx.length,NQ];exact this) z hj
theorem EK{K:Fg}{ds:List Dat}{d:Dat}{Q:VK}(A:AccZ K H0 l H (ds++[d]))
  (h:∀y H2,Rz K H2 y d->AccZ K H0 l H2 ds->(∀{m:Addr} {es:List Dat},m≠l->AccZ K H0 m H es->AccZ K H0 m H2 es)->Q y H2):Cq (.ref l) [] H Q:=by
 obtain⟨xs,h1,h2⟩:=A.at_
 obtain⟨a,b,rfl,ra,rb⟩:∃a b,xs=a++[b]/\RzL K H a ds/\Rz K H b d:=by
  have ll:=h2.length;rw[N6] at ll;have YU:xs≠[]:=fun z=>by rw[z] at ll;simp at ll
  refine⟨xs.dropLast,xs.getLast YU,(RM YU).symm,?_⟩;have e:=(RM YU).symm;rw[e] at h2;generalize xs.dropLast=a at h2;generalize xs.getLast YU=b at h2;clear e ll h1 A h YU
  induction a generalizing ds with
  |nil =>
   cases ds with
   |nil=>cases h2 with|cons r _=>exact⟨.nil,r⟩
   |cons e es=>cases h2 with|cons _ r=>cases es <;> cases r
  |cons x a ih =>
   cases ds with
   |nil=>cases h2 with|cons _ r=>cases a <;> cases r
   |cons e es=>cases h2 with|cons q r=>exact⟨.cons q (ih r).1,(ih r).2⟩
 refine⟨l,a++[b],b,rfl,rfl,h1,by rw[N6];show(a++[b])[a.length+1-1]? = _;simp,?_⟩;rw[List.dropLast_concat];exact h b _ (Rz.upd rb h1) ⟨A.ag,A.new,a,ag,RzL.upd ra h1⟩ fun ne B=>B.other ne A.new h1
theorem o8{K:Fg}{H:Hp}:∀{xs:List V} {ds:List Dat} (i:Nat),RzL K H xs ds->RzL K H (xs.eraseIdx i) (ds.eraseIdx i)
 |_,_,_,.nil=>.nil
 |_,_,0,.cons _ r=>r
 |_,_,i+1,.cons q r=>.cons q (o8 i r)
theorem Dd{K:Fg}{d:Dat}{i:Nat}{Q:VK}(A:AccZ K H0 l H ds)(hi:ds[i]?=some d)(n:ds.length<2 ^ 62)
  (h:∀y H2,Rz K H2 y d->AccZ K H0 l H2 (ds.eraseIdx i)->(∀{v:V} {e:Dat},Rz K H v e->Rz K H2 v e)->(∀{m:Addr} {es:List Dat},m≠l->AccZ K H0 m H es->AccZ K H0 m H2 es)->Q y H2):yj (.ref l) [.int (i:Int)] H Q:=by
 obtain⟨xs,h1,h2⟩:=A.at_;have li:=(NT.mp hi).1;have lx:=h2.length;obtain⟨y,hy⟩:∃y,xs[i]?=some y:=⟨_,NR (by lia)⟩
 obtain⟨e,g1,g2⟩:=h2.get hy;rw[hi] at g1;cases g1;refine⟨l,xs,i,i,y,rfl,rfl,h1,by lia,by lia,?_,hy,h y _ (Rz.upd g2 h1) ⟨A.ag,A.new,_,ag,RzL.upd (o8 i h2) h1⟩ (fun q=>Rz.upd q h1) fun ne B=>B.other ne A.new h1⟩;unfold seqIndex?;simp;lia
theorem Ks{K:Fg}{Q:VK}(A:AccZ K H0 l H ds)(hb:H b=some (.lst zs))(rz:RzL K H zs es)(n:ds.length+es.length<=sizeLine)
  (h:∀H2,AccZ K H0 l H2 (ds++es)->(∀{m:Addr} {fs:List Dat},m≠l->AccZ K H0 m H fs->AccZ K H0 m H2 fs)->Q .non H2):jr (.ref l) [.ref b] H Q:=by
 obtain⟨xs,h1,h2⟩:=A.at_;exact⟨l,b,xs,zs,rfl,rfl,h1,hb,by rw[h2.length,rz.length];exact n,h _ ⟨A.ag,A.new,_,ag,RzL.upd (h2.append rz) h1⟩ fun ne B=>B.other ne A.new h1⟩
theorem t6{c:TT}{tb:TS}{D:cx}{H:Hp}(Pv:Nat->St->Hp->Prop)(h0:Pv m σ H)
  (hs:∀m σ H,Pv m σ H->c σ H fun b H1=>if b=true then tb {D with nx:=fun σ' H'=>∃k,k<m/\Pv k σ' H',ct:=fun σ' H'=>∃k,k<m/\Pv k σ' H',bk:=D.nx} σ H1 else D.nx σ H1)
  (mono:∀σ H Q Q',(∀b H1,Q b H1->Q' b H1)->c σ H Q->c σ H Q'):fV c tb D σ H:=by
 refine⟨Pv,⟨m,h0⟩,fun n σ H p=>mono σ H _ _ (fun b H1 q=>?_) (hs n σ H p)⟩;cases b with
 |true=>exact⟨_,fun σ' H' h=>h,q⟩
 |false=>exact q
noncomputable def su(K:Fg):Sp:=fun vs H Q _=>∃(a:Addr) (xs:List V) (P0:List Pr),vs=[.ref a]/\H a=some (.lst xs)/\RzL K H xs (P0.map kj)/\(∀x∈P0,0<x.1/\x.1<2 ^ 8000)/\iC P0<2 ^ 8000/\P0.length+(aW (P0.map (·.1))).log2<2 ^ 20 /\
 ∀(p:Addr) (H':Hp) (T:List Pr),AccZ K H p H' (T.map kj)->vK (T.map (·.1))->(∀x∈T,x.2≠0)->(∀f,Add f->SF f T=SF f P0)->T.length<2 ^ 20->Q (.ref p) H'
theorem qT:∀{L:List Pr} {x:Pr},x∈L->2<=x.1->x.2.natAbs<=iC L
 |y :: L,x,h,h2=>by
  show _<=y.2.natAbs*y.1.log2+iC L;rcases Od.mp h with e|e
  ·subst e
   have:1<=x.1.log2:=(V2 (by lia)).mpr (by lia)
   have:=OK x.2.natAbs this
   lia
  ·have:=qT e h2
   lia
noncomputable def rM(K:Fg):TS:=(am (av (ca ae) (ak 1))
 (am (av (aZ (eU K) (ac (aa 0) ae)) (ak 2))
 (am (fV (aH (aq vW (aZ (bM K) (ac (aa 2) ae)) (tC (.int 0))))
 (am (av (vQ K "list" Cq (aa 2)) (ak 3))
 (aI (kn (aH (aq vW (aq (aE K) (aa 3) (tC (.int 0))) (tC (.int 1)))) (aH (aq kP (aq (aE K) (aa 3) (tC (.int 1))) (tC (.int 0)))))
 (am (av (ay (Pw.r_ K) [] E0 (ac (aa 1) (ac (aq (aE K) (aa 3) (tC (.int 0))) ae))) (ak 4))
 (aI (aH (aq ky (aa 4) (tC .non)))
 (bE (eJ K "list" aM (aa 1) (ac (aa 3) ae)))
 (bE (eJ K "list" jr (aa 2) (ac (ay (Pw.rV K) [] E0 (ac (aa 3) (ac (eJ K "list" yj (aa 1) (ac (aa 4) ae)) ae))) ae)))))
 aO)))
 (aA (aa 1)))))
theorem Cj{K:Fg}{vs:List V}{N:List Str}(hN:N.length=5)(h:su K vs H Q E):rM K (ends Q) (L2.start N vs) H:=by
 obtain⟨a,xs,P0,rfl,ha,rx,pos,ht,hc,k⟩:=h;rw[L2.aU hN];walk_at "t";obtain⟨B,hB⟩:∃B,B+1=2 ^ 8000:=⟨2 ^ 8000-1,WJ (QL (by decide))⟩
 rw[<- hB] at pos ht;have s24:sizeLine=16777216:=by decide
 have lt8:∀{n:Nat},n<=B->n<2 ^ 8000:=fun {n} h=>by rw[<- hB];lia
 unfold rM;walk_at "";refine⟨by show 0<=sizeLine;exact OR _,fun l nl=>?_⟩;have A1:AccZ K H l (upd H l (.lst [])) []:=AccZ.start (Same.refl _) nl;have ha1:=aj nl (.lst []) _ _ ha;have rx1:=rx.same (aj nl (.lst []));generalize upd H l (.lst [])=H1 at A1 ha1 rx1 ⊢;walk_at "";refine nL (SqL.of ha1) fun m nm=>?_
 have Sm_:=aj nm (.lst xs);have lm:l≠m:=fun z=>by obtain⟨_,h1,_⟩:=A1.at_;rw[z,nm] at h1;cases h1
 have A2:=A1.on Sm_;have A3:AccZ K H m (upd H1 m (.lst xs)) (P0.map kj):=⟨A2.same,A1.same.free nm,xs,ag,rx1.same Sm_⟩
 generalize upd H1 m (.lst xs)=H2 at A2 A3 ⊢;walk_at ""
 refine t6 (fun n σ H'=>∃(told left:List Pr) (u1 u2:Option V),n=mu told left/\σ=[some (.ref a),some (.ref l),some (.ref m),u1,u2]/\AccZ K H l H' (told.map kj)/\AccZ K H m H' (left.map kj)/\Ap P0 B (iC P0) (P0.length+(aW (P0.map (·.1))).log2) told left)
  ⟨[],P0,none,none,rfl,rfl,A2,A3,Ap.start fun x hx=>⟨(pos x hx).1,by have:=(pos x hx).2;lia⟩⟩ ?_ ?_
 ·rintro _ σ H3 ⟨told,left,u1,u2,rfl,rfl,AT,AL,ap⟩;have few:=ap.few;obtain⟨zs,hz,rz⟩:=AL.at_;have lz:zs.length=left.length:=by rw[rz.length,NQ]
  walk_at "";refine bH (SqL.of hz) ?_;walk_at "";rw[lz];refine a6 (fun c=>?_) (fun c=>?_)
  ·rcases VG left with e|⟨L,x,e⟩
   ·rw[e] at c;simp at c
   rw[VH] at e;subst e;rw[N1] at AL;have lf:told.length+(L.length+1)<2 ^ 20:=by rw[N6] at few;show told.length+(L.length+[x].length)<_;lia
   walk_at "";refine⟨AL.ty,EK (ds:=L.map kj) AL fun y H4 ry AL4 b5=>?_⟩;have AT4:=b5 lm AT;obtain⟨b,rfl,hb⟩:=eM ry;walk_at "";refine aF (SqT.of hb) (v:=.int (x.1:Int)) rfl ?_;walk_at "";refine a6 (fun c1=>?_) (fun c1=>?_)
   ·walk_at "";refine aF (SqT.of hb) (v:=.int x.2) rfl ?_;walk_at "";refine cH (fun c2=>?_) (fun c2=>?_)
    ·have x2:1<x.1:=by lia
     obtain⟨ys,hy,rY⟩:=AT4.at_;walk_at "";refine aF (SqT.of hb) (v:=.int (x.1:Int)) rfl ?_;walk_at "";refine⟨l,ys,told,x.1,rfl,hy,rY,fun i y H5 S5 hi hg=>?_,fun H5 S5 no=>?_⟩
     ·have AT5:=AT4.on S5;have AL5:=AL4.on S5;have rx5:=ry.same S5;walk_at "";refine a6 (fun z=>nomatch z) (fun _=>?_);walk_at "";refine⟨AL5.ty,?_⟩;walk_at "";refine⟨AT5.ty,?_⟩;walk_at "";refine Dd AT5 (d:=kj y) (i:=i) (by rw[NW,hi];rfl) (by rw[NQ];lia) fun y' H6 ry' AT6 rz6 ZB=>?_
      have AL6:=ZB (fun z=>lm z.symm) AL5;have hyT:=N2 hi;have y2:2<=y.1:=ap.apt.1 y.1 (QK hyT);have yB:=ap.bT y hyT;have xB:=ap.bL x (Ob _ NX);have le:=ap.le;have t1:=qT hyT y2;have t2:=qT (L:=L++[x]) (Ob _ NX) (by lia:2<=x.1);have g2:2<=Ox x.1 y.1:=by rw[Nat.gcd_comm];exact hg
      walk_at "";refine⟨_,y',x,y,rfl,rz6 rx5,ry',by lia,by lia,g2,lt8 xB,lt8 yB,lt8 (by lia),lt8 (by lia),fun p H7 A7=>?_⟩;obtain⟨zs7,h7,r7⟩:=A7.at_;walk_at "";have s1:=ap.split hi hg;have AL7:=AL6.on A7.same;refine Ks AL7 h7 r7 (by rw[NQ,NQ];show L.length+3<=_;lia) fun H8 AL8 oth8=>?_
      have AT8:=oth8 lm (AT6.on A7.same);walk_at "";exact⟨_,s1.2,told.eraseIdx i,L++xF x y,_,_,rfl,rfl,by rw[<- vi];exact AT8,by rw[N1];exact AL8,s1.1⟩
     ·have AT5:=AT4.on S5;have AL5:=AL4.on S5;walk_at "";refine a6 (fun _=>?_) (fun z=>absurd rfl z);walk_at "";refine⟨AT5.ty,?_⟩;walk_at "";refine cB AT5 (ry.same S5) (by rw[NQ];lia) fun H6 AT6 rz6 _ ZB=>?_
      have AL6:=ZB (fun z=>lm z.symm) AL5;walk_at "";exact⟨_,(ap.keep x2 c2 no).2,told++[x],L,_,_,rfl,rfl,by rw[N1];exact AT6,AL6,(ap.keep x2 c2 no).1⟩
    ·walk_at "";have dr:=ap.drop fun z=>z.2 c2
     exact⟨_,dr.2,told,L,_,_,rfl,rfl,AT4,AL4,dr.1⟩
   ·walk_at "";have dr:=ap.drop fun z=>c1 (by lia)
    exact⟨_,dr.2,told,L,_,_,rfl,rfl,AT4,AL4,dr.1⟩
  ·have e:left=[]:=OQ (by lia);subst e;walk_at "";exact k l H3 told AT ap.apt ap.ne (fun f hf=>by have:=ap.sf f hf;simpa[SF] using this) (by lia)
 ·rintro σ H' R R' h ⟨w1,e1,p,ys,e3,e4,i,j,e5,e6,kk,e7,q⟩;exact⟨w1,e1,p,ys,e3,e4,i,j,e5,e6,kk,e7,h _ _ q⟩
noncomputable def wl(w:Nat->Rat)(n:Nat):List (Nat×Nat):=(Oa n).map fun i=>((w i).num.natAbs,(w i).den)
theorem wI:∀{A B:List (Nat×Nat)} {R S:List Int},A.length=R.length->km (A++B) (R++S)=km A R++km B S
 |[],_,[],_,_=>rfl
 |_ :: A,B,_ :: R,S,h=>by show _ :: _ :: km (A++B) (R++S)=_;rw[wI (by simpa using h)];rfl
theorem qR:∀{A:List (Nat×Nat)} {R:List Int},A.length=R.length->(km A R).length=2*R.length
 |[],[],_=>rfl
 |_ :: A,_ :: R,h=>by show(km A R).length+2=2*(R.length+1);rw[qR (by simpa using h)];lia
noncomputable def Fz(K:Fg):Sp:=fun vs H Q _=>∃(a b:Addr) (xs:List V) (row:List Int) (w:Nat->Rat),vs=[.ref a,.ref b]/\H a=some (.lst xs)/\H b=some (.lst (row.map V.int))/\xs.length=row.length/\row.length<=100/\(∀i x,xs[i]?=some x->Tr.QV K H x (w i)/\0<(w i).num) /\
 ∀(p:Addr) (H':Hp),AccZ K H p H' ((km (wl w row.length) row).map kj)->Q (.ref p) H'
noncomputable def Fm(K:Fg):TS:=(am (av (ca ae) (ak 2))
 (am (be (zJ K .L .L (ac (aa 0) (ac (aa 1) ae))) (cF K 2 (a7 (ak 3) (a7 (ak 4) cG)))
 (am (bE (eJ K "list" aM (aa 2) (ac (bJ (ac (aq (aE K) (aa 3) (tC (.int 0))) (ac (aa 4) ae))) ae)))
 (bE (eJ K "list" aM (aa 2) (ac (bJ (ac (aq (aE K) (aa 3) (tC (.int 1))) (ac (Ig (rU fun i=>.int (-i)) (aa 4)) ae))) ae)))))
 (aA (aa 2))))
theorem Iy{K:Fg}{vs:List V}{N:List Str}(hN:N.length=5)(h:Fz K vs H Q E):Fm K (ends Q) (L2.start N vs) H:=by
 obtain⟨a,b,xs,row,w,rfl,ha,hb,lx,l1,qx,k⟩:=h;rw[L2.aU hN];walk_at "t";unfold Fm;walk_at "";refine⟨by show 0<=sizeLine;exact OR _,fun l nl=>?_⟩;have A1:AccZ K H l (upd H l (.lst [])) []:=AccZ.start (Same.refl _) nl;generalize upd H l (.lst [])=H1 at A1 ⊢;walk_at "";refine⟨a,b,xs,_,rfl,SqL.of (A1.same _ _ ha),SqL.of (A1.same _ _ hb),?_⟩;refine Af (n:=row.length) lx (by rw[NQ]) (fun i σ H2=>∃u1 u2:Option V,σ=[some (.ref a),some (.ref b),some (.ref l),u1,u2]/\AccZ K H l H2 ((km (wl w i) (row.take i)).map kj)) ⟨none,none,rfl,A1⟩ (fun i σ H2 _ ⟨_,_,_,A⟩=>⟨SqL.of (A.same _ _ ha),SqL.of (A.same _ _ hb)⟩) ?_ ?_
 ·rintro i x y σ H2 T hx hy ⟨u1,u2,rfl,A2⟩ nT;rw[NW] at hy;obtain⟨e,he,rfl⟩:=N8.mp hy;have li:=(NT.mp he).1;obtain⟨q,wp⟩:=qx i x hx;have S3:=aj nT (.tup [x,.int e]);have A3:=A2.on S3;have hT:upd H2 T (.tup [x,.int e]) T=some (.tup [x,.int e]):=ag;generalize upd H2 T (.tup [x,.int e])=H3 at S3 A3 hT ⊢;refine bP (SqT.of hT) rfl ?_;have nn:((w i).num.natAbs:Int)=(w i).num:=by lia
  have lw:(wl w i).length=(row.take i).length:=by unfold wl;rw[NQ,On,Ot];lia
  have ll:=qR lw;rw[Ot] at ll
  have em:(km (wl w (i+1)) (row.take (i+1))).map kj=(km (wl w i) (row.take i)).map kj++[kj ((w i).num.natAbs,e)]++[kj ((w i).den,-e)]:=by
   rw[Oj,he,show wl w (i+1)=wl w i++[((w i).num.natAbs,(w i).den)] by unfold wl;rw[Ps,N1];rfl,wI lw,N1,Pi];rfl
  walk_at "";refine⟨A3.ty,?_⟩;walk_at "";obtain⟨p,rfl,hp⟩:=q.same A3.same;refine aF hp (v:=.int (w i).num) rfl ?_;walk_at "";refine⟨aQ,fun t nt=>?_⟩;have S4:=aj nt (.tup [.int (w i).num,.int e])
  have z4:Rz K (upd H3 t (.tup [.int (w i).num,.int e])) (.ref t) (kj ((w i).num.natAbs,e)):=by
   show Rz K _ _ (dI [((w i).num.natAbs:Int),e]);rw[nn];exact .tup ag (RpL.ints [_,_])
  have A4:=A3.on S4;generalize upd H3 t (.tup [.int (w i).num,.int e])=H4 at S4 z4 A4 ⊢;walk_at "";refine cB A4 z4 (ar (by rw[NQ,ll];lia)) fun H5 A5 _ _ _=>?_
  walk_at "";refine⟨A5.ty,?_⟩;walk_at "";obtain⟨p',e',ZM⟩:=(qx i _ hx).1.same A5.same;cases e';refine aF ZM (v:=.int ((w i).den:Int)) rfl ?_;walk_at "";refine⟨aQ,fun t' nt'=>?_⟩;have S6:=aj nt' (.tup [.int ((w i).den:Int),.int (-e)]);have z6:Rz K (upd H5 t' (.tup [.int ((w i).den:Int),.int (-e)])) (.ref t') (kj ((w i).den,-e)):=.tup ag (RpL.ints [_,_]);have A6:=A5.on S6;generalize upd H5 t' (.tup [.int ((w i).den:Int),.int (-e)])=H6 at S6 z6 A6 ⊢;walk_at "";refine cB A6 z6 (ar (by rw[N6,NQ,ll];show _+1<=_;lia)) fun H7 A7 _ _ _=>?_
  walk_at "";exact⟨_,_,rfl,by rw[em];exact A7⟩
 ·rintro σ H2 ⟨u1,u2,rfl,A2⟩;walk_at "";rw[O3] at A2;exact k l H2 A2
open PySem L2 Fr G1 Sm Vs G2 Rk Sz Sf Rw Ti Lo Lc Tr
theorem zg{a b:Nat}(ha:0<a)(hb:0<b):(a*b).log2<=a.log2+b.log2+1:=by
 have:a*b<2 ^ (a.log2+b.log2+2):=by
  rw[show a.log2+b.log2+2=(a.log2+1)+(b.log2+1) by lia,SO];exact Tz Xr Xr
 have:=(VQ (Qk (Pf ha hb))).mpr this
 lia
theorem vg{c M:Nat}:∀{L:List Pr},(∀x∈L,0<x.1/\x.1<2 ^ c/\x.2.natAbs<=M)->iC L<=L.length*(M*c)/\0<aW (L.map (·.1))/\(aW (L.map (·.1))).log2<=L.length*(c+1)
 |[],_=>⟨OR _,by decide,by show Nat.log2 1<=0*(c+1);rw[Tc];decide⟩
 |x :: L,h=>by
  obtain⟨a,b,e⟩:=vg (c:=c) (M:=M) (L:=L) fun y hy=>h y (NZ _ hy)
  obtain⟨x0,xc,xm⟩:=h x NX;have l:x.1.log2<=c:=Qa ((VQ (by lia)).mpr xc);refine⟨?_,Pf x0 b,?_⟩
  ·show x.2.natAbs*x.1.log2+iC L<=(L.length+1)*(M*c);rw[RG]
   have:=O2 xm l
   lia
  ·show(x.1*aW (L.map (·.1))).log2<=(L.length+1)*(c+1);rw[RG]
   have:=zg x0 b
   lia
theorem wH{P:Nat×Nat->Prop}{M:Nat}{x:Pr}:∀{W:List (Nat×Nat)} {R:List Int},(∀w∈W,P w)->(∀c∈R,c.natAbs<=M)->x∈km W R->(∃w,P w/\(x.1=w.1\/x.1=w.2))/\x.2.natAbs<=M
 |w :: W,e :: R,hW,hR,h=>by
  rcases Od.mp h with q|q
  ·rw[q];exact⟨⟨w,hW w NX,.inl rfl⟩,hR e NX⟩
  ·rcases Od.mp q with q|q
   ·rw[q];exact⟨⟨w,hW w NX,.inr rfl⟩,by show(-e).natAbs<=M;rw[X4];exact hR e NX⟩
   ·exact wH (fun y hy=>hW y (NZ _ hy)) (fun y hy=>hR y (NZ _ hy)) q
 |[],_,_,_,h=>by cases h
 |_ :: _,[],_,_,h=>by cases h
structure ii (w:Nat) (ts:List Tn):Prop where
 co:HK w ts
 h8:(aC ts).length<=8
 l8:(cU ts).length<=8
 wide:Wide w (aC ts)
 bnd:wB 2 (aC ts)
 nn:∀r∈aC ts,∀c∈r,0<=c
 pa:dY ts
noncomputable def wW (ts:List Tn):List (Nat×Nat):=wl (Wt ts) (aC ts).length
noncomputable def mks(ts:List Tn):List (List Int):=(LM (c_ ts)).makers
noncomputable def kh(ts:List Tn):Prop:=∀j,As.Fine (al ts) j
noncomputable def oK(K:Fg):Sp:=fun vs H Q _=>∃(v:V) (ws:List Str) (ts:List Tn) (w:Nat),vs=[v]/\Rz K H v (dV ws ts)/\ii w ts /\
 (∀(i x y:Nat) (p:Addr) (H':Hp),(al ts)[i]?=some (x,y)->(∀j<i,As.Fine (al ts) j)->¬ Rch (al ts) y x->Same H H'->H p=none->H' p=some (.tup [.bl false,.int (i:Int)])->Q (.ref p) H') /\
 (∀(j:Nat) (m:List Int) (p r:Addr) (H':Hp),kh ts->(mks ts)[j]?=some m->(∀i<j,∀m',(mks ts)[i]?=some m'->One (wW ts) m')->¬ One (wW ts) m->Same H H'->H p=none->H r=none->H' p=some (.tup [.bl false,.ref r])->H' r=some (.lst (m.map V.int))->Q (.ref p) H') /\
 ∀(p f:Addr) (xs:List V) (H':Hp),kh ts->(∀m∈mks ts,One (wW ts) m)->Same H H'->H p=none->H f=none->H' p=some (.tup [.bl true,.ref f])->H' f=some (.lst xs)->xs.length=(aC ts).length->(∀i x,xs[i]?=some x->QV K H' x (Wt ts i))->Q (.ref p) H'
theorem AK(pa:dY ts)(t8:ts.length<=8)(h8:(aC ts).length<=8){h:Nat}(hh:h<(aC ts).length):Bq 3900 (Wt ts h):=by
 have p1:=qJ pa;refine fD pa t8 (Lh pa t8 h8 hh) (QL p1) (Om p1 (by decide)) ?_;unfold MM;exact O2 (by lia) (Om (Pf (by decide) p1) (by decide))
noncomputable abbrev fO(ts:List Tn):List Nat:=ba (aC ts).length (al ts)
theorem nA(hw:Wide w (aC ts)){j:Nat}(hj:j<(aC ts).length)(q:Nat) :
  pt ((c_ ts).getD j []) q=if q<w then pt ((aC ts).getD j []) q else pt ((Lk.reps (fO ts)).map fun v=>if at_ (fO ts) j=v then 1 else 0) (q-w):=by
 rw[Db,NS,NW,OW hj];show pt (_++_) q=_;rw[Lk.uC,KJ hw hj]
theorem yl{l:List Nat}{a:Nat}:pt (l.map fun v=>if a=v then (1:Int) else 0) q=if l[q]?=some a then 1 else 0:=by
 unfold pt;rw[NS,NW];cases l[q]? with
 |none=>rfl
 |some v =>
  show(if a=v then (1:Int) else 0)=_;by_cases c:a=v
  ·rw[if_pos c,if_pos (by rw[c])]
  ·rw[if_neg c,if_neg fun z=>c (Oq z).symm]
theorem JR(o:ii w ts):∀m∈mks ts,∀c∈m,c.natAbs<10 ^ 6:=by
 have at_':∀r∈c_ ts,∃j,j<(aC ts).length/\r=(c_ ts).getD j []:=fun r hr=>by
  obtain⟨j,hj⟩:=ON hr;have lj:=(NT.mp hj).1;rw[e9] at lj;exact⟨j,lj,by rw[NS,hj];rfl⟩
 refine Mb.mk6 (S:=w) (h_ o.wide) (jH o.bnd) (by rw[e9];exact o.h8) o.co.w5 (fun r hr j hj=>?_) fun r hr j j' hj hj' ne e=>?_
 ·obtain⟨i,hi,rfl⟩:=at_' r hr;rw[nA o.wide hi,if_neg (by lia),yl];split
  ·exact .inr rfl
  ·exact .inl rfl
 ·obtain⟨i,hi,rfl⟩:=at_' r hr;rw[nA o.wide hi,if_neg (by lia),yl] at e ⊢;split at e
  ·rename_i q;rw[if_neg fun z=>?_];have nd:=Lk.FM (fO ts);obtain⟨l1,e1⟩:=NT.mp q;obtain⟨l2,e2⟩:=NT.mp z;have i1:=P9 nd _ l1;have i2:=P9 nd _ l2;rw[e1] at i1;rw[e2] at i2;lia
  ·exact absurd e (by decide)
theorem fG(o:ii w ts){m:List Int}(hm:m∈mks ts):m.length=(aC ts).length/\(∀q,aN m (c_ ts) q=0)/\∀c∈m,c.natAbs<2 ^ 40:=by
 have hw:=h_ o.wide;have hb:=jH o.bnd;have G:=(Mk.GW hw (by decide) hb (c_ ts).length (N4 _)).good m hm;exact⟨G.len.trans (e9 ts),G.nought,fun c hc=>OL (JR o m hm c hc) (by decide)⟩
theorem NF(o:ii w ts)(af:kh ts){m:List Int}(hm:m∈mks ts) :
  (∀x∈km (wW ts) m,0<x.1/\x.1<2 ^ 8000)/\iC (km (wW ts) m)<2 ^ 8000/\(km (wW ts) m).length+(aW ((km (wW ts) m).map (·.1))).log2<2 ^ 20:=by
 obtain⟨lm,_,bm⟩:=fG o hm;have h8:=o.h8;have lw:(wW ts).length=m.length:=by unfold wW wl;rw[NQ,On,lm]
 have ll:=qR lw
 have all:∀x∈km (wW ts) m,0<x.1/\x.1<2 ^ 3900/\x.2.natAbs<=2 ^ 40:=fun x hx=>by
  obtain⟨⟨u,⟨a,b,c,d⟩,e⟩,f⟩:=wH (P:=fun u=>0<u.1/\0<u.2/\u.1<2 ^ 3900/\u.2<2 ^ 3900) (M:=2 ^ 40) (fun u hu=>by
   unfold wW wl at hu
   obtain⟨i,hi,rfl⟩:=N9.mp hu
   have li:=Ow.mp hi
   have wb:=AK o.pa o.co.le o.h8 li
   have wp:=vD o.pa (fun e he=>by obtain⟨j,hj⟩:=ON he;exact af j e.1 e.2 hj) li
   exact⟨by show 0<(Wt ts i).num.natAbs;lia,O8 (Wt ts i).den_nz,wb.1,wb.2⟩) (fun c hc=>Qa (bm c hc)) hx
  rcases e with e|e <;> rw[e]
  ·exact⟨a,c,f⟩
  ·exact⟨b,d,f⟩
 obtain⟨t1,t2,t3⟩:=vg all;have p1:(2:Nat) ^ 3900<2 ^ 8000:=pw_lt (by decide);have p2:16*(2 ^ 40*3900)<(2:Nat) ^ 8000:=OB (by decide:16*(2 ^ 40*3900)<2 ^ 60) (Om (by decide) (by decide));refine⟨fun x hx=>⟨(all x hx).1,OL (all x hx).2.1 p1⟩,Oy (Oi t1 (OF _ (by lia))) p2,?_⟩
 have:=OF (3900+1) (by lia:(km (wW ts) m).length<=16)
 lia
noncomputable def xh(K:Fg):TS:=(am (av (ay (As.mN K) [] E0 (ac (aa 0) ae)) (ak 1))
 (am (aI (aH (aq IP (aa 1) (tC .non)))
 (aA (bJ (ac (tC (.bl false)) (ac (aa 1) ae))))
 aO)
 (am (av (ay (mD K) [] E0 (ac (aa 0) ae)) (ak 2))
 (am (be (bQ K (ay (mK K) [] E0 (ac (aa 0) ae))) (ak 3)
 (aI (aH (aq vW (aZ (bM K) (ac (ay (Pw.su K) [] E0 (ac (ay (Pw.Fz K) [] E0 (ac (aa 2) (ac (aa 3) ae))) ae)) ae)) (tC (.int 0))))
 (aA (bJ (ac (tC (.bl false)) (ac (aa 3) ae))))
 aO))
 (aA (bJ (ac (tC (.bl true)) (ac (aa 2) ae))))))))
theorem F6{K:Fg}{vs:List V}{N:List Str}(hN:N.length=4)(h:oK K vs H Q E):xh K (ends Q) (L2.start N vs) H:=by
 obtain⟨v,ws,ts,w,rfl,rv,o,k1,k2,k3⟩:=h;rw[L2.aU hN];walk_at "t";have t8:=o.co.le;have h8:=o.h8;unfold xh;walk_at "";refine⟨v,ws,ts,rfl,rv,by lia,fun i x y he fi nr H1 S1=>?_,fun af H1 S1=>?_⟩
 ·walk_at "";refine cH (fun _=>?_) (fun z=>nomatch z);walk_at "";refine⟨aQ,fun p np=>?_⟩;exact k1 i x y p _ he fi nr (S1.trans (aj np _)) (S1.free np) ag
 ·have af:kh ts:=af;walk_at "";refine cH (fun z=>absurd rfl z) (fun _=>?_);walk_at "";refine⟨v,ws,ts,rfl,rv.same S1,t8,h8,o.pa,fun f H2 xs nf S2 hf lf qf=>?_⟩;have S02:=S1.trans S2;walk_at "";refine⟨v,ws,ts,w,rfl,rv.same S02,o.co,h8,o.l8,o.wide,o.bnd,fun pl H3 S3 r3=>?_⟩;have S03:=S02.trans S3;obtain⟨_,ys,e,_,Y_,ry⟩:=r3.iu;cases e;have ly:ys.length=(mks ts).length:=by rw[ry.length,NQ];rfl
  walk_at "";refine⟨pl,rfl,⟨ys,SqL.of Y_⟩,?_⟩;refine bj (xs:=ys) (fun j σ H4=>∃u:Option V,σ=[some v,some .non,some (.ref f),u]/\Same H3 H4/\∀i<j,∀m',(mks ts)[i]?=some m'->One (wW ts) m') ⟨none,rfl,Same.refl _,fun i hi=>absurd hi (PD _)⟩ (fun i σ H4 _ ⟨_,_,S4,_⟩=>SqL.of (S4 _ _ Y_)) ?_ ?_
  ·rintro j y σ H4 hy ⟨u,rfl,S4,dn⟩;obtain⟨dd,g1,g2⟩:=ry.get hy;rw[NW] at g1;obtain⟨m,hm,rfl⟩:=N8.mp g1;have ZK:(mks ts)[j]?=some m:=hm;have mem:=N2 ZK;obtain⟨r,zs,rfl,nr,hr,rz⟩:=g2.iu;rw[RpL.ints_of rz] at hr;obtain⟨lm,_,bm⟩:=fG o mem;obtain⟨a1,a2,a3⟩:=NF o af mem;have bk:∀e∈al ts,Rch (al ts) e.2 e.1:=fun e he=>by obtain⟨j,hj⟩:=ON he;exact af j e.1 e.2 hj
   walk_at "";refine⟨f,r,xs,m,Wt ts,rfl,S4 _ _ (S3 _ _ hf),S4 _ _ hr,by lia,by lia,fun i x hx=>⟨((qf i x hx).same S3).same S4,vD o.pa bk (by have:=(NT.mp hx).1;lia)⟩,fun q H5 A5=>?_⟩;obtain⟨zs5,h5,r5⟩:=A5.at_;rw[show wl (Wt ts) m.length=wW ts by rw[lm];rfl] at r5;walk_at "";refine⟨q,zs5,_,rfl,h5,r5,a1,a2,a3,fun t H6 T A6 ap ne sf lt=>?_⟩;obtain⟨zs6,h6,r6⟩:=A6.at_;have l6:zs6.length=T.length:=by rw[r6.length,NQ]
   have on:=yP (W:=wW ts) (R:=m) ap ne sf;walk_at "";refine bH (SqL.of h6) ?_;rw[l6];walk_at "";have S06:=S03.trans (S4.trans (A5.same.trans A6.same));refine a6 (fun c=>?_) (fun c=>?_)
   ·have no : ¬ One (wW ts) m:=fun z=>by rw[on.mp z] at c;simp at c
    walk_at "";refine⟨aQ,fun p np=>?_⟩;have S7:=aj np (.tup [.bl false,.ref r]);exact k2 j m p r _ af ZK dn no (S06.trans S7) (S06.free np) (S02.free nr) ag (S7 _ _ (A6.same _ _ (A5.same _ _ (S4 _ _ hr))))
   ·have ye:One (wW ts) m:=on.mpr (OQ (by lia));walk_at "";refine⟨_,rfl,S4.trans (A5.same.trans A6.same),fun i hi m' h'=>?_⟩;by_cases ij:i=j
    ·rw[ij,ZK] at h';cases h';exact ye
    ·exact dn i (by lia) m' h'
  ·rintro σ H4 ⟨u,rfl,S4,dn⟩;walk_at "";refine⟨aQ,fun p np=>?_⟩;have S04:=S03.trans S4;have S7:=aj np (.tup [.bl true,.ref f]);refine k3 p f xs _ af (fun m hm=>?_) (S04.trans S7) (S04.free np) (S1.free nf) ag (S7 _ _ (S4 _ _ (S3 _ _ hf))) lf fun i x hx=>(((qf i x hx).same S3).same S4).same S7
   obtain⟨i,hi⟩:=ON hm
   have:=(NT.mp hi).1
   exact dn i (by lia) m hi
noncomputable def zi(L:List Nat):List Dat:=L.map fun n:Nat=>O4 (n:Int)
noncomputable def zv(L:List Nat):List V:=L.map fun n:Nat=>V.int (n:Int)
theorem HU{K:Fg}{H:Hp}:∀{L:List Nat} {xs:List V},RzL K H xs (zi L)->xs=zv L
 |[],_,.nil=>rfl
 |n :: L,_,.cons h r=>by cases h;rw[HU r];rfl
theorem Be{K:Fg}{H:Hp}:∀L:List Nat,RzL K H (zv L) (zi L)
 |[]=>.nil
 |n :: L=>.cons (.int _) (Be L)
theorem gC{K:Fg}(A:AccZ K H0 l H (zi L)):H l=some (.lst (zv L)):=by
 obtain⟨xs,h,r⟩:=A.at_;rw[HU r] at h;exact h
theorem Ae[DecidablePred p](h:p n):((some n).toList.filter fun x=>decide (p x))=[n]:=Pl (decide_eq_true h)
theorem EY[DecidablePred p](h : ¬ p n):((some n).toList.filter fun x=>decide (p x))=[]:=Pc (by rw[decide_eq_true_eq];exact h)
theorem JP(h:vK F):F.Nodup:=by
 unfold List.Nodup;refine UX (fun {a b} ha _ c e=>?_) h.2
 have:=h.1 a ha
 rw[<- e] at c;unfold Rb at c;rw[Nat.gcd_self] at c;lia
noncomputable def si(K:Fg):Sp:=fun vs H Q _=>∃(a:Addr) (ns:List Nat),vs=[.ref a]/\H a=some (.lst (zv ns))/\(∀n∈ns,0<n/\n<2 ^ 8000)/\ns.length<100 /\
 (ns.filter fun x=>decide (1<x)).length+(aW (ns.filter fun x=>decide (1<x))).log2<2 ^ 20/\∀(p:Addr) (H':Hp) (F:List Nat),AccZ K H p H' (zi F)->vK F->(∀n∈ns,Mon F n)->(∀q∈F,q<2 ^ 8000)->F.length<2 ^ 20->Q (.ref p) H'
noncomputable def rq(K:Fg):TS:=(am (av (ca ae) (ak 1))
 (am (av (gE (bQ K (aa 0)) 1 (ak 0) (aH (aq vW (aa 0) (tC (.int 1)))) (aa 0)) (ak 2))
 (am (fV (aH (aq vW (aZ (bM K) (ac (aa 2) ae)) (tC (.int 0))))
 (am (av (vQ K "list" Cq (aa 2)) (ak 3))
 (am (av (gE (bQ K (aa 1)) 1 (ak 0) (aH (aq vW (ay ko [] E0 (ac (aa 0) (ac (aa 4) ae))) (tC (.int 1)))) (aa 0)) (ak 4))
 (aI (kn (aH (aq vW (aa 3) (tC (.int 1)))) (aH (aq fF (aZ (bM K) (ac (aa 4) ae)) (tC (.int 0)))))
 (bE (eJ K "list" aM (aa 1) (ac (aa 3) ae)))
 (aI (aH (aq vW (aa 3) (tC (.int 1))))
 (am (av (ay ko [] E0 (ac (aq (bX K) (aa 4) (tC (.int 0))) (ac (aa 3) ae))) (ak 5))
 (am (bE (eJ K "list" (yi K) (aa 1) (ac (aq (bX K) (aa 4) (tC (.int 0))) ae)))
 (av (aq mW (aa 2) (ca (ac (aa 5) (ac (aq iI (aq (bX K) (aa 4) (tC (.int 0))) (aa 5)) (ac (aq iI (aa 3) (aa 5)) ae))))) (ak 2))))
 aO)))))
 (aA (aa 1)))))
theorem BY{K:Fg}{vs:List V}{N:List Str}(hN:N.length=6)(h:si K vs H Q E):rq K (ends Q) (L2.start N vs) H:=by
 obtain⟨a,ns,rfl,ha,pos,l1,hc,k⟩:=h;rw[L2.aU hN];walk_at "t";obtain⟨B,hB⟩:∃B,B+1=2 ^ 8000:=⟨2 ^ 8000-1,WJ (QL (by decide))⟩
 have s24:sizeLine=16777216:=by decide
 have lt8:∀{n:Nat},n<=B->n<2 ^ 8000:=fun {n} h=>by rw[<- hB];lia
 have p9:(2:Nat) ^ 8000<2 ^ 9000:=Tr.pw_lt (by decide);rw[<- hB] at pos;have P0:Pt ns B _ [] (ns.filter fun x=>decide (1<x)):=Pt.start fun x hx=>⟨(pos x hx).1,by have:=(pos x hx).2;lia⟩
 unfold rq;walk_at "";refine⟨by show 0<=sizeLine;exact OR _,fun l nl=>?_⟩;have A1:AccZ K H l (upd H l (.lst [])) (zi []):=AccZ.start (Same.refl _) nl;generalize upd H l (.lst [])=H1 at A1 ⊢;walk_at "";refine⟨a,rfl,⟨_,SqL.of (A1.same _ _ ha)⟩,?_⟩;refine ig (xs:=zv ns) fun m nm=>⟨fun i H2=>AccZ K H1 m H2 (zi ((ns.take i).filter fun x=>decide (1<x))),AccZ.start (Same.refl _) nm,fun i H2 _ A=>SqL.of (A.same _ _ (A1.same _ _ ha)),?_,?_⟩
 ·rintro i x H2 hx A us hu;obtain⟨u0,rfl⟩:∃u,us=[u]:=PL.mp hu;unfold zv at hx;rw[NW] at hx;obtain⟨n,hn,rfl⟩:=N8.mp hx;have li:=(NT.mp hn).1;have lv:(zv ns).length=ns.length:=by unfold zv;rw[NQ]
  have lf:=O6 (fun x=>decide (1<x)) (ns.take i);rw[Ot] at lf;walk_at "";refine⟨⟨[some (.int (n:Int))],rfl,rfl⟩,?_⟩;walk_at "";refine a6 (fun c=>?_) (fun c=>?_)
  ·walk_at "";refine aR (by lia) ?_;refine A.ci (.int (n:Int)) (ar (by unfold zi;rw[NQ];lia)) fun H6 A6=>?_
   show AccZ K H1 m H6 (zi ((ns.take (i+1)).filter fun x=>decide (1<x)));rw[Oj,hn,PV,Ae (p:=fun x=>1<x) (by lia)];unfold zi at A6 ⊢;rw[N1];exact A6
  ·refine fE (by lia) ?_;show AccZ K H1 m H2 (zi ((ns.take (i+1)).filter fun x=>decide (1<x)));rw[Oj,hn,PV,EY (p:=fun x=>1<x) (by lia),Qb];exact A
 intro H2 A2
 have A2:AccZ K H1 m H2 (zi (ns.filter fun x=>decide (1<x))):=by
  have:AccZ K H1 m H2 (zi ((ns.take (zv ns).length).filter fun x=>decide (1<x))):=A2
  rwa [show(zv ns).length=ns.length by unfold zv;rw[NQ],O3] at this
 have lm:l≠m:=fun z=>by have:=gC A1;rw[z,A2.new] at this;cases this
 have B2:AccZ K H m H2 (zi (ns.filter fun x=>decide (1<x))):=⟨A1.same.trans A2.same,A1.same.free A2.new,A2.at_⟩
 have A3:=A1.on A2.same;generalize hC:(ns.filter fun x=>decide (1<x)).length+(aW (ns.filter fun x=>decide (1<x))).log2=C at P0 hc;generalize (ns.filter fun x=>decide (1<x))=W0 at P0 B2;walk_at ""
 refine t6 (fun n σ H'=>∃(F Wt:List Nat) (m:Addr) (u3 u4 u5:Option V),n=mp F Wt/\σ=[some (.ref a),some (.ref l),some (.ref m),u3,u4,u5]/\AccZ K H l H' (zi F)/\AccZ K H m H' (zi Wt)/\l≠m/\Pt ns B C F Wt)
  ⟨[],W0,m,none,none,none,rfl,rfl,A3,B2,lm,P0⟩ ?_ ?_
 ·rintro _ σ H3 ⟨F,Wt,m,u3,u4,u5,rfl,rfl,AF,AW,lm,pt⟩;have few:=pt.few;have hW:=gC AW;walk_at "";refine bH (SqL.of hW) ?_;rw[show(zv Wt).length=Wt.length by unfold zv;rw[NQ]];walk_at "";refine a6 (fun c=>?_) (fun c=>?_)
  ·rcases VG Wt with e|⟨L,x,e⟩
   ·rw[e] at c;simp at c
   rw[VH] at e;subst e;have lf:F.length+(L.length+1)<2 ^ 20:=by rw[N6] at few;show F.length+(L.length+[x].length)<_;lia
   have AW':AccZ K H m H3 (zi L++[O4 (x:Int)]):=by unfold zi at AW ⊢;rw[N1] at AW;exact AW
   walk_at "";refine⟨AW.ty,EK AW' fun y H4 ry AL4 b5=>?_⟩;have AF4:=b5 lm AF;cases ry;have hF:=gC AF4;walk_at "";refine⟨l,rfl,⟨_,SqL.of hF⟩,?_⟩;refine ig (xs:=zv F) fun d nd=>⟨fun i H5=>AccZ K H4 d H5 (zi ((F.take i).filter fun q=>decide (1<Ox q x))),AccZ.start (Same.refl _) nd,fun i H5 _ A=>SqL.of (A.same _ _ hF),?_,?_⟩
   ·rintro i y H5 hy A us hu;obtain⟨u0,rfl⟩:∃u,us=[u]:=PL.mp hu;unfold zv at hy;rw[NW] at hy;obtain⟨q,hq,rfl⟩:=N8.mp hy;have li:=(NT.mp hq).1;have lv:(zv F).length=F.length:=by unfold zv;rw[NQ]
    have lf2:=O6 (fun q=>decide (1<Ox q x)) (F.take i);rw[Ot] at lf2;walk_at "";refine⟨⟨[some (.int (q:Int))],rfl,rfl⟩,?_⟩;walk_at "";refine⟨_,_,rfl,?_⟩;rw[vc];walk_at "";refine a6 (fun c=>?_) (fun c=>?_)
    ·walk_at "";refine aR (by lia) ?_;refine A.ci (.int (q:Int)) (by unfold zi;rw[NQ];omega) fun H6 A6=>?_
     show AccZ K H4 d H6 (zi ((F.take (i+1)).filter fun q=>decide (1<Ox q x)));rw[Oj,hq,PV,Ae (p:=fun q=>1<Ox q x) (by lia)];unfold zi at A6 ⊢;rw[N1];exact A6
    ·refine fE (by lia) ?_;show AccZ K H4 d H5 (zi ((F.take (i+1)).filter fun q=>decide (1<Ox q x)));rw[Oj,hq,PV,EY (p:=fun q=>1<Ox q x) (by lia),Qb];exact A
   intro H5 A5
   have A5:AccZ K H4 d H5 (zi (F.filter fun q=>decide (1<Ox q x))):=by
    have:AccZ K H4 d H5 (zi ((F.take (zv F).length).filter fun q=>decide (1<Ox q x))):=A5
    rwa [show(zv F).length=F.length by unfold zv;rw[NQ],O3] at this
   have AF5:=AF4.on A5.same;have AL5:=AL4.on A5.same;have hd5:=gC A5;have ld:(zv (F.filter fun q=>decide (1<Ox q x))).length=(F.filter fun q=>decide (1<Ox q x)).length:=by unfold zv;rw[NQ]
   have x0:=pt.pp.2.2.1;have xB:=pt.pp.2.2.2;walk_at "";refine a6 (fun c1=>?_) (fun c1=>?_)
   ·have x1:1<x:=by lia
    walk_at "";refine bH (SqL.of hd5) ?_;rw[ld];walk_at "";refine a6 (fun c2=>?_) (fun c2=>?_)
    ·have no:∀z∈F,Ox z x<=1:=fun z hz=>by
      have e:=OQ (by lia:(F.filter fun q=>decide (1<Ox q x)).length=0)
      have:=Vp.mp e z hz
      rw[decide_eq_true_eq] at this;lia
     have kp:=pt.keep x1 no;walk_at "";refine⟨AF5.ty,?_⟩;walk_at "";refine cB AF5 (.int (x:Int)) (by unfold zi;rw[NQ];lia) fun H6 AF6 _ _ ZB=>?_
     have AL6:=ZB (fun z=>lm z.symm) AL5;walk_at "";exact⟨_,kp.2,F++[x],L,m,_,_,_,rfl,rfl,by unfold zi at AF6 ⊢;rw[N1];exact AF6,AL6,lm,kp.1⟩
    ·obtain⟨b,R,eR⟩:∃b R,(F.filter fun q=>decide (1<Ox q x))=b :: R:=by
      cases h:(F.filter fun q=>decide (1<Ox q x)) with
      |nil=>rw[h] at c2;exact absurd rfl c2
      |cons b R=>exact⟨b,R,rfl⟩
     have mb:b∈F/\1<Ox b x:=by
      have:b∈F.filter fun q=>decide (1<Ox q x):=by rw[eR];exact NX
      obtain⟨h1,h2⟩:=Os.mp this;exact⟨h1,of_decide_eq_true h2⟩
     have bB:=pt.bF b mb.1;have b2:=pt.apt.1 b mb.1;have gl:=QC x0 (Te b x);have sp:=pt.split mb.1 mb.2;rw[eR] at hd5;have g9:Ox b x<2 ^ 9000:=OL (lt8 (by lia)) p9;generalize hg:Ox b x=g at sp g9;have g1:1<g:=by rw[<- hg];exact mb.2
     walk_at "";refine a6 (fun _=>?_) (fun z=>absurd c1 z);walk_at "";refine cj (SqL.of hd5) (v:=.int (b:Int)) (aG (j:=0) rfl) ?_;walk_at "";refine⟨_,_,rfl,?_⟩;rw[vc,hg];walk_at "";refine⟨AF5.ty,?_⟩;walk_at "";refine cj (SqL.of hd5) (v:=.int (b:Int)) (aG (j:=0) rfl) ?_;walk_at "";have hF5:=gC AF5;have jb:=Uk mb.1;have ld_:l≠d:=fun z=>by rw[z,hd5] at hF5;have n1:=A5.new;rw[<- z,hF] at n1;cases n1
     refine⟨l,zv F,_,zi F,.int (b:Int),F.idxOf b,rfl,rfl,hF5,(Be F).rep,.int _,fun e he=>by obtain⟨q,_,rfl⟩:=N9.mp he;rfl,rfl,?_,fun i hi z=>?_,?_⟩
     ·unfold zi;rw[NW,NR jb,List.getElem_idxOf];rfl
     ·unfold zi at z;rw[NW,NR (by lia)] at z
      have:F[i]'(by lia)=b:=by have:=Oq z;injection this with this;lia
      have nd:F.Nodup:=JP pt.apt;have q:=P9 nd i (by lia);rw[this] at q;lia
     have eF:(zv F).eraseIdx (F.idxOf b)=zv (F.erase b):=by unfold zv;rw[vi,List.erase_eq_eraseIdx_of_idxOf rfl]
     rw[eF];have AF6:AccZ K H l (upd H5 l (.lst (zv (F.erase b)))) (zi (F.erase b)):=⟨AF5.ag,AF5.new,_,ag,Be _⟩
     have AL6:AccZ K H m (upd H5 l (.lst (zv (F.erase b)))) (zi L):=AL5.other (fun z=>lm z.symm) AF5.new hF5;have hd6:upd H5 l (.lst (zv (F.erase b))) d=some (.lst (zv (b :: R))):=by rw[aB (fun z=>ld_ z.symm)];exact hd5
     generalize upd H5 l (.lst (zv (F.erase b)))=H6 at AF6 AL6 hd6 ⊢;have hL6:=gC AL6;walk_at "";refine cj (SqL.of hd6) (v:=.int (b:Int)) (aG (j:=0) rfl) ?_;walk_at "";refine jN ⟨by lia,by show g<_;exact g9⟩ ?_;rw[iU];walk_at "";refine jN ⟨by lia,by show g<_;exact g9⟩ ?_;rw[iU];walk_at "";refine⟨ja,fun t nt=>?_⟩;have S7:=aj nt (.lst (zv [g,b / g,x / g]));have AF7:=AF6.on S7;have AL7:=AL6.on S7;have hL7:=S7 _ _ hL6;have ht7:upd H6 t (.lst (zv [g,b / g,x / g])) t=some (.lst (zv [g,b / g,x / g])):=ag;change mW (.ref m) (.ref t) (upd H6 t (.lst (zv [g,b / g,x / g]))) _;generalize upd H6 t (.lst (zv [g,b / g,x / g]))=H7 at S7 AF7 AL7 hL7 ht7 ⊢;refine⟨m,t,_,_,rfl,rfl,hL7,ht7,by unfold zv;rw[NQ,NQ];show L.length+3<=_;lia,fun m' nm'=>?_⟩;have S8:=aj nm' (.lst (zv L++zv [g,b / g,x / g]));have AF8:=AF7.on S8;have ez:zv L++zv [g,b / g,x / g]=zv (L++[g,b / g,x / g]):=by unfold zv;rw[N1]
     rw[ez] at S8 AF8 ⊢;have AW8:AccZ K H m' (upd H7 m' (.lst (zv (L++[g,b / g,x / g])))) (zi (L++[g,b / g,x / g])):=⟨AF8.same,AF7.same.free nm',_,ag,Be _⟩
     have lm':l≠m':=fun z=>by have:=gC AF7;rw[z,nm'] at this;cases this
     walk_at "";exact⟨_,sp.2,F.erase b,L++[g,b / g,x / g],m',_,_,_,rfl,rfl,AF8,AW8,lm',sp.1⟩
   ·have dr:=pt.drop (a:=x) (by lia);walk_at "";refine a6 (fun z=>absurd z c1) (fun _=>?_);walk_at "";exact⟨_,dr.2,F,L,m,_,_,_,rfl,rfl,AF5,AL5,lm,dr.1⟩
  ·have e:Wt=[]:=OQ (by lia);subst e;walk_at "";exact k l H3 F AF pt.apt (fun n hn=>by have:=pt.mon n hn;rwa [Qb] at this) (fun q hq=>lt8 (pt.bF q hq)) (by lia)
 ·rintro σ H' R R' h ⟨w1,e1,p,ys,e3,e4,i,j,e5,e6,kk,e7,q⟩;exact⟨w1,e1,p,ys,e3,e4,i,j,e5,e6,kk,e7,h _ _ q⟩
theorem wJ{f:Nat->Int}:∀{A:List (Nat×Nat)} {R:List Int} (x:Nat×Nat) (e:Int),A.length=R.length->vs f (A++[x]) (R++[e])=vs f A R+e*(f x.1-f x.2)
 |[],[],x,e,_=>by show e*_+0=0+e*_;lia
 |a :: A,c :: R,x,e,h=>by show c*_+vs f (A++[x]) (R++[e])=c*_+vs f A R+_;rw[wJ x e (by simpa using h)];lia
theorem uE{c:Nat}:∀{L:List Nat},(∀x∈L,0<x/\x<2 ^ c)->0<aW L/\(aW L).log2<=L.length*(c+1)
 |[],_=>⟨by decide,by show Nat.log2 1<=0*(c+1);rw[Tc];decide⟩
 |x :: L,h=>by
  obtain⟨b,e⟩:=uE (c:=c) (L:=L) fun y hy=>h y (NZ _ hy)
  obtain⟨x0,xc⟩:=h x NX;have l:x.log2<=c:=Qa ((VQ (by lia)).mpr xc);refine⟨Pf x0 b,?_⟩;show(x*aW L).log2<=(L.length+1)*(c+1);rw[RG]
  have:=zg x0 b
  lia
structure WL (K:Fg) (H:Hp) (xs:List V) (w:Nat->Rat):Prop where
 q:∀i x,xs[i]?=some x->Tr.QV K H x (w i)
 pos:∀i,i<xs.length->0<(w i).num
 bits:∀i,i<xs.length->Tr.Bq 3900 (w i)
theorem WL.same{K:Fg}(h:WL K H xs w)(S:Same H H'):WL K H' xs w:=⟨fun i x e=>(h.q i x e).same S,h.pos,h.bits⟩
noncomputable def mL(K:Fg):Sp:=fun vs H Q _=>∃(a b:Addr) (xs:List V) (row:List Int) (w:Nat->Rat),vs=[.ref a,.ref b]/\H a=some (.lst xs)/\H b=some (.lst (row.map V.int))/\xs.length=row.length/\row.length<=8/\WL K H xs w/\(∀c∈row,c.natAbs<2 ^ 40) /\
 (One (wl w row.length) row->∀H',Same H H'->Q (.bl true) H')/\(¬ One (wl w row.length) row->∀H',Same H H'->Q (.bl false) H')
noncomputable def fQ(w:Nat->Rat)(n:Nat):List Nat:=(Oa n).map fun i=>(w i).num.natAbs
noncomputable def fU(w:Nat->Rat)(n:Nat):List Nat:=(Oa n).map fun i=>(w i).den
noncomputable def rF(K:Fg):TS:=(am (be (bQ K (ay (Pw.si K) [] E0 (ac (aq mW (fW (bQ K (aa 0)) 2 (cF K 2 (a7 (ak 0) (a7 (ak 1) cG))) (aa 0)) (fW (bQ K (aa 0)) 2 (cF K 2 (a7 (ak 0) (a7 (ak 1) cG))) (aa 1))) ae))) (ak 2)
 (am (av (tC (.int 0)) (ak 3))
 (am (be (zJ K .L .L (ac (aa 0) (ac (aa 1) ae))) (cF K 2 (a7 (cF K 2 (a7 (ak 4) (a7 (ak 5) cG))) (a7 (ak 6) cG)))
 (av (aq bG (aa 3) (aq (rI CMul fun i j=>.int (i*j)) (aa 6) (aq vX (ay (Pw.mI K) [] E0 (ac (aa 2) (ac (aa 4) ae))) (ay (Pw.mI K) [] E0 (ac (aa 2) (ac (aa 5) ae)))))) (ak 3)))
 (aI (aH (aq kP (aa 3) (tC (.int 0))))
 (aA (tC (.bl false)))
 aO))))
 (aA (tC (.bl true))))
theorem Cc{K:Fg}{vs:List V}{N:List Str}(hN:N.length=7)(h:mL K vs H Q E):rF K (ends Q) (L2.start N vs) H:=by
 obtain⟨a,b,xs,row,w,rfl,ha,hb,lx,l8,wo,br,k1,k2⟩:=h;rw[L2.aU hN];walk_at "t";have s24:sizeLine=16777216:=by decide
 have p38:(2:Nat) ^ 3900<2 ^ 8000:=Tr.pw_lt (by decide);have p89:(2:Nat) ^ 8000<2 ^ 9000:=Tr.pw_lt (by decide);have lt_:∀n,(fQ w n).length=n/\(fU w n).length=n:=fun n=>by unfold fQ fU;rw[NQ,NQ,On];exact⟨rfl,rfl⟩
 unfold rF;walk_at "";refine⟨a,rfl,⟨_,SqL.of ha⟩,?_⟩;refine fM (xs:=xs) fun D nD=>⟨fun j H2=>AccZ K H D H2 (zi (fQ w j)),AccZ.start (Same.refl _) nD,fun j H2 _ A=>SqL.of (A.same _ _ ha),?_,?_⟩
 ·intro j x H2 hx A us hu
  obtain⟨u0,u1,rfl⟩:∃u w,us=[u,w]:=ex2 hu
  have lj:=(NT.mp hx).1;have wp:=wo.pos j lj;obtain⟨p,rfl,hp⟩:=(wo.q j x hx).same A.same;refine bP hp rfl ?_;walk_at "";refine⟨⟨[some (.int (w j).num),some (.int ((w j).den:Int))],rfl,rfl⟩,?_⟩;walk_at "";refine aR lj ?_;refine A.ci (d:=.int (((w j).num.natAbs:Nat):Int)) (by rw[show(((w j).num.natAbs:Nat):Int)=(w j).num by lia];exact .int _) (ar (by unfold zi;rw[NQ,(lt_ j).1];lia)) fun H3 A3=>?_
  show AccZ K H D H3 (zi (fQ w (j+1)));unfold zi fQ at A3 ⊢;rw[Ps,N1,N1];exact A3
 intro H2 A2;have hD:=gC A2;have ha2:=A2.same _ _ ha;walk_at "";refine⟨a,rfl,⟨_,SqL.of ha2⟩,?_⟩;refine fM (xs:=xs) fun D' nD'=>⟨fun j H3=>AccZ K H2 D' H3 (zi (fU w j)),AccZ.start (Same.refl _) nD',fun j H3 _ A=>SqL.of (A.same _ _ ha2),?_,?_⟩
 ·intro j x H3 hx A us hu
  obtain⟨u0,u1,rfl⟩:∃u w,us=[u,w]:=ex2 hu
  have lj:=(NT.mp hx).1;obtain⟨p,rfl,hp⟩:=((wo.q j x hx).same A2.same).same A.same;refine bP hp rfl ?_;walk_at "";refine⟨⟨[some (.int (w j).num),some (.int ((w j).den:Int))],rfl,rfl⟩,?_⟩;walk_at "";refine aR lj ?_;refine A.ci (d:=.int ((w j).den:Int)) (.int _) (ar (by unfold zi;rw[NQ,(lt_ j).2];lia)) fun H4 A4=>?_
  show AccZ K H2 D' H4 (zi (fU w (j+1)));unfold zi fU at A4 ⊢;rw[Ps,N1,N1];exact A4
 intro H3 A3;have hD3:=A3.same _ _ hD;have hE3:=gC A3;have S03:=A2.same.trans A3.same;walk_at "";refine⟨D,D',_,_,rfl,rfl,hD3,hE3,by unfold zv;rw[NQ,NQ,(lt_ _).1,(lt_ _).2];lia,fun c nc=>?_⟩;have S4:=aj nc (.lst (zv (fQ w xs.length)++zv (fU w xs.length)));have hc:upd H3 c (.lst (zv (fQ w xs.length)++zv (fU w xs.length))) c=some (.lst (zv (fQ w xs.length++fU w xs.length))):=by rw[ag];unfold zv;rw[N1]
 generalize upd H3 c (.lst (zv (fQ w xs.length)++zv (fU w xs.length)))=H4 at S4 hc ⊢;have S04:=S03.trans S4
 have np:∀n∈fQ w xs.length++fU w xs.length,0<n/\n<2 ^ 3900:=fun n hn=>by
  rcases N_.mp hn with h|h
  ·unfold fQ at h;obtain⟨i,hi,rfl⟩:=N9.mp h;have li:=Ow.mp hi
   have:=wo.pos i li
   exact⟨by lia,(wo.bits i li).1⟩
  ·unfold fU at h;obtain⟨i,hi,rfl⟩:=N9.mp h;have li:=Ow.mp hi;exact⟨O8 (w i).den_nz,(wo.bits i li).2⟩
 have ln:(fQ w xs.length++fU w xs.length).length<=16:=by rw[N6,(lt_ _).1,(lt_ _).2];lia
 have lf:=O6 (fun x=>decide (1<x)) (fQ w xs.length++fU w xs.length);have pb:=(uE (c:=3900) (L:=(fQ w xs.length++fU w xs.length).filter fun x=>decide (1<x)) fun x hx=>np x (Os.mp hx).1).2;have pb2:=OF (3900+1) (by lia:((fQ w xs.length++fU w xs.length).filter fun x=>decide (1<x)).length<=16);walk_at "";refine⟨c,fQ w xs.length++fU w xs.length,rfl,hc,fun n hn=>⟨(np n hn).1,OL (np n hn).2 p38⟩,by lia,by lia,fun p H5 F A5 ap mon bF lF=>?_⟩;have hp5:=gC A5;have S05:=S04.trans A5.same;have lv:(zv F).length=F.length:=by unfold zv;rw[NQ]
 have op:=yO ap (W:=wl w row.length) row fun u hu=>by
  unfold wl at hu;obtain⟨i,hi,rfl⟩:=N9.mp hu;have li:i<xs.length:=by have:=Ow.mp hi;lia
  exact⟨mon _ (Oe _ (QK (Ow.mpr li))),mon _ (Ob _ (QK (Ow.mpr li)))⟩
 walk_at "";refine⟨p,rfl,⟨_,SqL.of hp5⟩,?_⟩;refine bj (xs:=zv F) (fun j σ H6=>∃u2 u3 u4 u5 u6:Option V,σ=[some (.ref a),some (.ref b),u2,u3,u4,u5,u6]/\Same H5 H6/\∀i<j,∀q,F[i]?=some q->vs (fun n=>(aS q n:Int)) (wl w row.length) row=0) ⟨none,none,none,none,none,rfl,Same.refl _,fun i hi=>absurd hi (PD _)⟩ (fun i σ H6 _ ⟨_,_,_,_,_,_,S6,_⟩=>SqL.of (S6 _ _ hp5)) ?_ ?_
 ·rintro j y σ H6 hy ⟨u2,u3,u4,u5,u6,rfl,S6,dn⟩;unfold zv at hy;rw[NW] at hy;obtain⟨q,hq,rfl⟩:=N8.mp hy;have mq:=N2 hq;have q2:=ap.1 q mq;have q9:q<2 ^ 9000:=OL (bF q mq) p89;have S06:=S05.trans S6;walk_at "";refine⟨a,b,xs,_,rfl,SqL.of (S06 _ _ ha),SqL.of (S06 _ _ hb),?_⟩;refine Af (n:=row.length) lx (by rw[NQ]) (fun i σ H7=>∃u4 u5 u6:Option V,σ=[some (.ref a),some (.ref b),some (.int (q:Int)),some (.int (vs (fun n=>(aS q n:Int)) (wl w i) (row.take i))),u4,u5,u6]/\Same H6 H7) ⟨u4,u5,u6,rfl,Same.refl _⟩ (fun i σ H7 _ ⟨_,_,_,_,S7⟩=>⟨SqL.of (S7 _ _ (S06 _ _ ha)),SqL.of (S7 _ _ (S06 _ _ hb))⟩) ?_ ?_
  ·rintro i x y σ H7 T hx hy ⟨u4,u5,u6,rfl,S7⟩ nT;rw[NW] at hy;obtain⟨e,he,rfl⟩:=N8.mp hy;have li:=(NT.mp hx).1;have eb:=br e (N2 he);have wp:=wo.pos i li;have nn:((w i).num.natAbs:Int)=(w i).num:=by lia
   have S8:=aj nT (.tup [x,.int e]);have hT:upd H7 T (.tup [x,.int e]) T=some (.tup [x,.int e]):=ag;generalize upd H7 T (.tup [x,.int e])=H8 at S8 hT ⊢;obtain⟨p',rfl,ZM⟩:=(((wo.q i x hx).same S06).same S7).same S8;have lw:(wl w i).length=(row.take i).length:=by unfold wl;rw[NQ,On,Ot];lia
   have ev:=wJ (f:=fun n=>(aS q n:Int)) (A:=wl w i) (R:=row.take i) ((w i).num.natAbs,(w i).den) e lw;refine bP (SqT.of hT) rfl ?_;walk_at "";refine bP ZM rfl ?_;walk_at "";refine⟨q,(w i).num.natAbs,by rw[nn];rfl,by lia,q2,q9,?_⟩;walk_at "";refine⟨q,(w i).den,rfl,O8 (w i).den_nz,q2,q9,?_⟩;walk_at "";refine⟨some (.int (w i).num),some (.int ((w i).den:Int)),some (.int e),?_,S7.trans S8⟩;rw[Oj,he,show wl w (i+1)=wl w i++[((w i).num.natAbs,(w i).den)] by unfold wl;rw[Ps,N1];rfl,show(some e).toList=[e] from rfl,ev];rfl
  ·rintro σ H7 ⟨u4,u5,u6,rfl,S7⟩;rw[O3];walk_at "";refine cH (fun nz=>?_) (fun z=>?_)
   ·walk_at "";exact k2 (fun o=>nz (op.mp o q mq)) H7 (S06.trans S7)
   ·walk_at "";refine⟨_,_,_,_,_,rfl,S6.trans S7,fun i hi q' h'=>?_⟩;by_cases ij:i=j
    ·rw[ij,hq] at h';cases h';exact z
    ·exact dn i (by lia) q' h'
 ·rintro σ H6 ⟨u2,u3,u4,u5,u6,rfl,S6,dn⟩;walk_at "";refine k1 (op.mpr fun q hq=>?_) H6 (S05.trans S6);obtain⟨i,hi⟩:=ON hq
  have:=(NT.mp hi).1
  exact dn i (by lia) q hi
open Bo (sm aK)
open Cl Mk
theorem yZ(o:ii w ts){m:List Int}(hm:m∈mks ts) :
  (∀s,s<w->sm (aC ts).length (fun k=>pt ((aC ts).getD k []) s*pt m k)=0)/\∀k,k<(aC ts).length->sm (aC ts).length (fun i=>if at_ (fO ts) i=at_ (fO ts) k then pt m i else 0)=0:=by
 obtain⟨lm,z,_⟩:=fG o hm;have F:=bU (cc ts)
 have e:∀q,sm (aC ts).length (fun j=>pt ((c_ ts).getD j []) q*pt m j)=0:=fun q=>by
  rw[<- z q,<- mO,Mb.xQ,e9]
 refine⟨fun s hs=>?_,fun k hk=>?_⟩
 ·exact Eq.trans (aK fun j hj=>by rw[nA o.wide hj,if_pos hs]) (e s)
 ·have mv:at_ (fO ts) k∈Lk.reps (fO ts):=by
   have kl:k<(fO ts).length:=by rw[F.len];exact hk
   exact Lk.C4.mpr ⟨Oy (F.le k hk) kl,F.fix k hk⟩
  obtain⟨l,hl⟩:=ON mv;refine Eq.trans (aK fun j hj=>?_) (e (w+l));rw[nA o.wide hj,if_neg (show ¬ w+l<w by lia),show w+l-w=l by lia,yl,hl];by_cases c:at_ (fO ts) j=at_ (fO ts) k
  ·rw[if_pos c,if_pos (by rw[c]),SQ]
  ·rw[if_neg c,if_neg fun z=>c (Oq z).symm,Qz]
theorem G3{k:Nat}{ns:List Nat}(hk:k<(aC ts).length)(nd:ns.Nodup)(mm:∀x,x∈ns↔Rch (dX (al ts)) k x)(lt:∀x∈ns,x<(aC ts).length) :
  (ns.map f).sum=sm (aC ts).length fun i=>if at_ (fO ts) i=at_ (fO ts) k then f i else 0:=by
 have F:=bU (cc ts);rw[Gu.sv (S:=ns) nd lt fun i hi no=>if_neg fun z=>no ((mm i).mpr ((F.tied hk hi).mp z.symm))];congr 1;refine Py fun i hi=>?_
 rw[if_pos ((F.tied hk (lt i hi)).mpr ((mm i).mp hi)).symm]
noncomputable def xJ(K:Fg):Sp:=fun vs H Q _=>∃(v:V) (ws:List Str) (ts:List Tn) (w:Nat) (a b:Addr) (xs:List V) (m:List Int),vs=[v,.ref a,.ref b]/\Rz K H v (dV ws ts)/\ii w ts/\ws.length=w/\0<(aC ts).length/\m∈mks ts/\¬ One (wW ts) m/\H a=some (.lst xs)/\xs.length=(aC ts).length/\WL K H xs (Wt ts)/\H b=some (.lst (m.map V.int)) /\
 ∀H',Same H H'->Q (.bl true) H'
noncomputable def wS(K:Fg):TS:=(am (av (ay (c7 K) [] E0 (ac (aa 0) ae)) (ak 3))
 (am (av (ay (fY K) [] E0 (ac (aa 0) ae)) (ak 4))
 (am (av (aq mW (aa 4) (fW (bQ K (aa 4)) 2 (cF K 2 (a7 (ak 0) (a7 (ak 1) cG))) (bJ (ac (aa 1) (ac (aa 0) ae))))) (ak 5))
 (am (aI (qO (fR (tB (aZ (bN K) (ac (aa 2) (ac (tC (.ty "list")) ae))))) (qO (aH (aq kP (aZ (bM K) (ac (aa 2) ae)) (aZ (bM K) (ac (aa 3) ae)))) (fR (tB (aZ (Gi K) (ac (eI (bQ K (aa 2)) (ay g6 [] E0 (ac (aa 0) ae))) ae))))))
 (aA (tC (.bl false)))
 aO)
 (am (aI (qO (aH (aq NG (aZ (IR K) (ac (eI (bQ K (aa 2)) (aZ Cu (ac (aa 0) ae))) ae)) (aq Cp (tC (.int 10)) (tC (.int 6))))) (aH (aq Nu (aZ (IQ K) (ac (fW (bQ K (aa 1)) 2 (cF K 2 (a7 (ak 0) (a7 (ak 1) cG))) (aa 0)) ae)) (tC (.int 0)))))
 (aA (tC (.bl false)))
 aO)
 (am (be (cC (ac (aZ (bM K) (ac (aa 3) ae)) ae)) (ak 6)
 (aI (aH (aq kP (aZ (Gf K) (ac (eI (bQ K (ay (mF K) [] E0 (ac (aa 5) (ac (aa 6) ae)))) (aq (bX K) (aa 3) (aa 0))) ae)) (tC (.int 0))))
 (aA (tC (.bl false)))
 aO))
 (am (be (cC (ac (aZ (bM K) (ac (aq (aE K) (aa 0) (tC (.int 0))) ae)) ae)) (ak 7)
 (aI (aH (aq kP (aZ (Gf K) (ac (eI (cC (ac (aZ (bM K) (ac (aa 3) ae)) ae)) (aq (rI CMul fun i j=>.int (i*j)) (aq (bX K) (aa 3) (aa 0)) (aq (aE K) (aq (bX K) (aa 4) (aa 0)) (aa 8)))) ae)) (tC (.int 0))))
 (aA (tC (.bl false)))
 aO))
 (aA (mn (ay (Pw.mL K) [] E0 (ac (aa 1) (ac (aa 2) ae))))))))))))
theorem FT{K:Fg}{vs:List V}{N:List Str}(hN:N.length=8)(h:xJ K vs H Q E):wS K (ends Q) (L2.start N vs) H:=by
 obtain⟨v,ws,ts,w,a,b,xs,m,rfl,rv,o,lw,n0,hm,no,ha,lx,wo,hb,k⟩:=h;rw[L2.aU hN];walk_at "t";obtain⟨lm,_,b40⟩:=fG o hm;obtain⟨cs,cl⟩:=yZ o hm;have b6:=JR o m hm;have h8:=o.h8;have t8:=o.co.le;have s24:sizeLine=16777216:=by decide
 unfold wS;walk_at "";refine⟨v,ws,ts,rfl,rv,by lia,fun ph H1 A1=>?_⟩;obtain⟨gx,hph,rg⟩:=A1.at_;have lg:gx.length=(aC ts).length:=by rw[rg.length,NQ]
 have rv1:=rv.same A1.same;walk_at "";refine⟨v,ws,ts,rfl,rv1,by lia,fun pe H2 A2=>?_⟩;obtain⟨ex,YY,rx⟩:=A2.at_;have S02:=A1.same.trans A2.same;have ok:=cc ts;have le:(al ts).length=ts.length:=by unfold al;rw[NQ]
 have lE:ex.length=(al ts).length:=by rw[rx.length,NQ]
 walk_at "";refine⟨pe,rfl,⟨_,SqL.of YY⟩,?_⟩;refine fM (xs:=ex) fun D nD=>⟨fun j H3=>AccZ K H2 D H3 ((((al ts).map fun e=>(e.2,e.1)).take j).map dP),by simpa using AccZ.start (Same.refl _) nD,fun j H3 _ A=>SqL.of (A.same _ _ YY),?_,?_⟩
 ·intro j x H3 hx A us hu
  obtain⟨u0,u1,rfl⟩:∃u w,us=[u,w]:=ex2 hu
  have lj:=(NT.mp hx).1;obtain⟨d,g1,g2⟩:=rx.get hx;rw[NW] at g1;obtain⟨e,he,rfl⟩:=N8.mp g1;obtain⟨q,rfl,hq⟩:=qp (g2.same A.same);refine bP (SqT.of hq) rfl ?_;walk_at "";refine⟨⟨[some (.int (e.1:Int)),some (.int (e.2:Int))],rfl,rfl⟩,?_⟩;walk_at "";refine⟨aQ,fun T nT=>?_⟩;have S4:=aj nT (.tup [.int (e.2:Int),.int (e.1:Int)]);have hT:upd H3 T (.tup [.int (e.2:Int),.int (e.1:Int)]) T=some (.tup [.int (e.2:Int),.int (e.1:Int)]):=ag;have A4:=A.on S4;generalize upd H3 T (.tup [.int (e.2:Int),.int (e.1:Int)])=H4 at hT A4 ⊢;refine aR lj ?_;refine A4.ci (d:=dP (e.2,e.1)) (.tup hT (.cons (.int _) (.cons (.int _) .nil))) (ar (by rw[NQ,Ot,NQ];lia)) fun H5 A5=>?_
  show AccZ K H2 D H5 ((((al ts).map fun e=>(e.2,e.1)).take (j+1)).map dP);rw[Oj,NW,he,N1];exact A5
 intro H3 A3;rw[Oh (by rw[NQ];lia)] at A3;obtain⟨ys,hD,ry⟩:=A3.at_;have ly:ys.length=(al ts).length:=by rw[ry.length,NQ,NQ]
 walk_at "";refine⟨pe,D,ex,ys,rfl,rfl,A3.same _ _ YY,hD,by lia,fun pb npb=>?_⟩;have S4:=aj npb (.lst (ex++ys));have Y9:upd H3 pb (.lst (ex++ys)) pb=some (.lst (ex++ys)):=ag
 have rb:RzL K (upd H3 pb (.lst (ex++ys))) (ex++ys) ((dX (al ts)).map dP):=by
  unfold dX;rw[N1];exact((rx.same A3.same).same S4).append (ry.same S4)
 generalize upd H3 pb (.lst (ex++ys))=H4 at S4 Y9 rb ⊢;have S04:=S02.trans (A3.same.trans S4);have hb4:=S04 _ _ hb;have ha4:=S04 _ _ ha;have hph4:H4 ph=some (.lst gx):=S4 _ _ (A3.same _ _ (A2.same _ _ hph));have rg4:RzL K H4 gx ((aC ts).map dI):=((rg.same A2.same).same A3.same).same S4;have wo4:=wo.same S04;have lb:(dX (al ts)).length=(al ts).length+(al ts).length:=by unfold dX;rw[N6,NQ]
 walk_at "";refine aY (.lst hb4) cJ ?_;walk_at "";refine bH (SqL.of hb4) ?_;rw[NQ,lm];walk_at "";refine bH (SqL.of hph4) ?_;rw[lg];walk_at "";refine cH (fun z=>absurd rfl z) (fun _=>?_);walk_at "";refine kH (SqL.of hb4) ?_;refine cf (xs:=m.map V.int) fun D2 nD2=>⟨fun j H5=>AccZ K H4 D2 H5 ((PM j true).map Dat.bool),by simpa using AccZ.start (Same.refl _) nD2,fun j H5 _ A=>SqL.of (A.same _ _ hb4),?_,?_⟩
 ·intro j x H5 hx A;have lj:=(NT.mp hx).1;rw[NW] at hx;obtain⟨c,hc,rfl⟩:=N8.mp hx;walk_at "";refine⟨c,rfl,?_⟩;exact DM (H0:=H4) (by rw[NQ];lia) lj (fun _ _=>Iff.rfl) A (Same.refl _)
 intro H5 A5;walk_at "";refine KB (AccZ.bls A5) ?_;rw[Lg];have S05:=S04.trans A5.same;have hb5:=A5.same _ _ hb4;walk_at "";refine kH (SqL.of hb5) ?_;refine cf (xs:=m.map V.int) fun D3 nD3=>⟨fun j H6=>AccZ K H5 D3 H6 (((m.take j).map fun c=>(if c<0 then -c else c)).map O4),by simpa using AccZ.start (Same.refl _) nD3,fun j H6 _ B=>SqL.of (B.same _ _ hb5),?_,?_⟩
 ·intro j x H6 hx B;have lj:=(NT.mp hx).1;rw[NW] at hx;obtain⟨c,hc,rfl⟩:=N8.mp hx;walk_at "";refine aR lj ?_;refine B.ci (.int _) (ar (by rw[NQ,NQ,Ot];lia)) fun H7 B7=>?_
  show AccZ K H5 D3 H7 (((m.take (j+1)).map fun c=>(if c<0 then -c else c)).map O4);rw[Oj,hc,N1,N1];exact B7
 intro H6 A6;rw[Oh (by rw[NQ];exact N4 _)] at A6;have ne:m≠[]:=fun z=>by rw[z] at lm;simp at lm;lia
 walk_at "";refine⟨D3,_,rfl,SqL.of (AccZ.ints A6),by simpa using ne,fun t ht _=>?_⟩;obtain⟨c,hc,rfl⟩:=N9.mp ht;have bc:=b6 c hc;walk_at ""
 have lt : ¬ (if c<0 then -c else c)≥(10:Int) ^ (6:Int).toNat:=by
  have z3:((10:Int) ^ (6:Int).toNat)=((10 ^ 6:Nat):Int):=by decide
  rw[z3];split <;> lia
 refine a6 (fun z=>absurd z lt) (fun _=>?_);have S06:=S05.trans A6.same;have ha6:=S06 _ _ ha;walk_at "";refine⟨a,rfl,⟨_,SqL.of ha6⟩,?_⟩;refine fM (xs:=xs) fun D4 nD4=>⟨fun j H7=>AccZ K H6 D4 H7 (((Oa j).map fun i=>(Wt ts i).num).map O4),AccZ.start (Same.refl _) nD4,fun j H7 _ A=>SqL.of (A.same _ _ ha6),?_,?_⟩
 ·intro j x H7 hx A us hu
  obtain⟨u0,u1,rfl⟩:∃u w,us=[u,w]:=ex2 hu
  have lj:=(NT.mp hx).1;obtain⟨p,rfl,hp⟩:=((wo.q j x hx).same S06).same A.same;refine bP hp rfl ?_;walk_at "";refine⟨⟨[some (.int (Wt ts j).num),some (.int ((Wt ts j).den:Int))],rfl,rfl⟩,?_⟩;walk_at "";refine aR lj ?_;refine A.ci (.int _) (ar (by rw[NQ,NQ,On];lia)) fun H8 A8=>?_
  show AccZ K H6 D4 H8 (((Oa (j+1)).map fun i=>(Wt ts i).num).map O4);rw[Ps,N1,N1];exact A8
 intro H7 A7;walk_at "";refine⟨D4,_,rfl,SqL.of (AccZ.ints A7),fun z=>by have:=congrArg QD z;rw[NQ,On] at this;change xs.length=0 at this;lia,fun t ht _=>?_⟩;obtain⟨i,hi,rfl⟩:=N9.mp ht;have wp:=wo.pos i (Ow.mp hi);walk_at "";refine a6 (fun z=>absurd z (by lia)) (fun _=>?_);have S07:=S06.trans A7.same;have ZY:Same H4 H7:=A5.same.trans (A6.same.trans A7.same);have hph7:=ZY _ _ hph4;have hb7:=ZY _ _ hb4;have hpb7:=ZY _ _ Y9;have rb7:=rb.same ZY;have rg7:=rg4.same ZY;walk_at "";refine bH (SqL.of hph7) ?_;rw[lg];refine⟨_,rfl,by lia,by lia,?_⟩;rw[OT];refine a8 (n:=(aC ts).length) (fun j σ H8=>∃u6:Option V,σ=[some v,some (.ref a),some (.ref b),some (.ref ph),some (.ref pe),some (.ref pb),u6,none]/\Same H7 H8) ⟨none,rfl,Same.refl _⟩ ?_ ?_
 ·rintro j σ H8 hj ⟨u6,rfl,S8⟩;rw[PY];walk_at "";refine⟨pb,_,dX (al ts),j,rfl,S8 _ _ hpb7,rb7.same S8,by lia,fun q H9 ns A9 nd mm=>?_⟩;have hq:H9 q=some (.lst (zv ns)):=gC (L:=ns) A9;have ltn:∀x∈ns,x<(aC ts).length:=fun x hx=>Hx ok hj ((mm x).mp hx)
  have hb9:=A9.same _ _ (S8 _ _ hb7);have lns:ns.length<=(aC ts).length:=by have:=a5 (hs:=Oa (aC ts).length) nd fun x hx=>Ow.mpr (ltn x hx);rwa [On] at this
  walk_at "";refine kH (SqL.of hq) ?_;refine cf (xs:=zv ns) fun D5 nD5=>⟨fun i YC=>AccZ K H9 D5 YC (((ns.take i).map fun x=>pt m x).map O4),by simpa using AccZ.start (Same.refl _) nD5,fun i YC _ B=>SqL.of (B.same _ _ hq),?_,?_⟩
  ·intro i x YC hx B;have li:=(NT.mp hx).1;unfold zv at hx;rw[NW] at hx;obtain⟨y,hy,rfl⟩:=N8.mp hx;have ly:=ltn y (N2 hy);walk_at "";refine cj (SqL.of (B.same _ _ hb9)) (v:=.int (pt m y)) (aG (j:=y) ?_) ?_
   ·unfold pt;rw[NW,NR (by lia),NS,NR (by lia)];rfl
   refine aR li ?_;refine B.ci (.int _) (ar (by rw[NQ,NQ,Ot];lia)) fun Y3 B11=>?_
   show AccZ K H9 D5 Y3 (((ns.take (i+1)).map fun x=>pt m x).map O4);rw[Oj,hy,N1,N1];exact B11
  intro YC A10;rw[Oh (by unfold zv;rw[NQ];exact N4 _)] at A10;walk_at "";refine⟨D5,_,rfl,SqL.of (AccZ.ints A10),?_⟩;rw[G3 hj nd mm ltn,cl j hj];walk_at "";exact⟨_,rfl,S8.trans (A9.same.trans A10.same)⟩
 ·rintro σ H8 ⟨u6,rfl,S8⟩;have S08:=S07.trans S8;have hph8:=S8 _ _ hph7;have hb8:=S8 _ _ hb7;have rg8:=rg7.same S8;have rv8:=rv.same S08;obtain⟨a0,v1,v2,rfl,ZI,r1,_⟩:=tJ rv8;obtain⟨c1,ws1,rfl,hc1,rw1⟩:=r1.cP;have lw1:ws1.length=w:=by rw[rw1.length,NQ,lw]
  walk_at "";refine aF (SqT.of ZI) (v:=.ref c1) rfl ?_;walk_at "";refine jO (SqT.of hc1) ?_;rw[lw1];have w5:=o.co.w5;refine⟨_,rfl,by lia,by lia,?_⟩;rw[OT];refine a8 (n:=w) (fun j σ H9=>∃u7:Option V,σ=[some (.ref a0),some (.ref a),some (.ref b),some (.ref ph),some (.ref pe),some (.ref pb),u6,u7]/\Same H8 H9) ⟨none,rfl,Same.refl _⟩ ?_ ?_
  ·rintro j σ H9 hj ⟨u7,rfl,S9⟩;rw[PY];walk_at "";refine bH (SqL.of (S9 _ _ hph8)) ?_;rw[lg];refine⟨_,rfl,by lia,by lia,?_⟩;rw[OT];refine dD (n:=(aC ts).length) fun D6 nD6=>⟨fun i YC=>AccZ K H9 D6 YC (((Oa i).map fun k=>pt ((aC ts).getD k []) j*pt m k).map O4),AccZ.start (Same.refl _) nD6,?_,?_⟩
   ·intro i YC hi B;rw[PY];have Z9:=S9.trans B.same;walk_at "";refine cj (SqL.of (Z9 _ _ hb8)) (v:=.int (pt m i)) (aG (j:=i) ?_) ?_
    ·unfold pt;rw[NW,NR (by lia),NS,NR (by lia)];rfl
    obtain⟨gy,hg⟩:∃y,gx[i]?=some y:=⟨_,NR (by lia)⟩
    obtain⟨dd,g1,g2⟩:=(rg8.same Z9).get hg;rw[NW,NR hi] at g1;cases g1;obtain⟨gp,rfl,hgp⟩:=eM g2;have lr:(aC ts)[i].length=w:=o.wide _ (OZ _);have eg:(aC ts).getD i []=(aC ts)[i]:=by rw[NS,NR hi];rfl
    walk_at "";refine cj (SqL.of (Z9 _ _ hph8)) (v:=.ref gp) (aG (j:=i) hg) ?_;walk_at "";refine aF (SqT.of hgp) (v:=.int (pt (aC ts)[i] j)) (aG (j:=j) ?_) ?_
    ·unfold pt;rw[NW,NR (by lia),NS,NR (by lia)];rfl
    have b4:(pt m i).natAbs<2 ^ 40:=by
     unfold pt;rw[NS,NR (by lia)];exact b40 _ (OZ _)
    walk_at "";refine aR hi ?_;refine B.ci (.int _) (ar (by rw[NQ,NQ,On];lia)) fun Y3 B11=>?_
    show AccZ K H9 D6 Y3 (((Oa (i+1)).map fun k=>pt ((aC ts).getD k []) j*pt m k).map O4);rw[Ps,N1,N1];show AccZ K H9 D6 Y3 (_++[O4 (pt ((aC ts).getD i []) j*pt m i)]);rw[eg,O0];exact B11
   intro YC A10;walk_at "";refine⟨D6,_,rfl,SqL.of (AccZ.ints A10),?_⟩;rw[Br.sw,cs j hj];walk_at "";exact⟨_,rfl,S9.trans A10.same⟩
  ·rintro σ H9 ⟨u7,rfl,S9⟩;have S09:=S08.trans S9;walk_at "";have lwl:wl (Wt ts) m.length=wW ts:=by rw[lm];rfl
   refine⟨a,b,xs,m,Wt ts,rfl,S09 _ _ ha,S09 _ _ hb,by lia,by lia,wo.same S09,b40,fun z=>absurd (lwl ▸ z) no,fun _ YC S10=>?_⟩;walk_at "";exact k YC (S09.trans S10)
end Pw
namespace Pw
open PySem L2 Fr G1 Sm Vs G2 Rk Sz Sf Rw Ti Lo Lc Tr
open Bo (sm aK dH)
noncomputable def pr:Nat->(Nat->Rat)->Rat
 |0,_=>1
 |n+1,f=>pr n f*f n
noncomputable def hv(w:Nat)(u:Nat->Rat)(r:List Int):Rat:=pr w fun s=>u s ^ (pt r s).toNat
theorem yt{f:Nat->Rat}:∀{n:Nat},(∀s,s<n->0<f s)->0<pr n f
 |0,_=>by show(0:Rat)<1;decide
 |n+1,h=>V0 (yt fun s hs=>h s (by lia)) (h n (by lia))
theorem HZ{g:Nat->Int}(hg:Add g){f:Nat->Rat}:∀{n:Nat},(∀s,s<n->0<f s)->Ev.vr g (pr n f)=sm n fun s=>Ev.vr g (f s)
 |0,_=>Ev.t9 hg
 |n+1,h=>by
  show Ev.vr g (pr n f*f n)=_;rw[Ev.iV hg (yt fun s hs=>h s (by lia)) (h n (by lia)),HZ hg fun s hs=>h s (by lia)];rfl
theorem KI{u:Nat->Rat}(up:∀s,0<u s)(r:List Int):0<hv w u r:=yt fun s _=>(Ev.t7 (f:=fun _=>0) ⟨fun _ _ _ _=>rfl⟩ (up s) _).1
noncomputable def CM(t:Tn):Rat:=OM t.q t.d
inductive Bc (w:Nat) (u:Nat->Rat):List Tn->Prop
 |nil:Bc w u []
 |cons (x y:Tn) (ts:List Tn):y.fr=x.to->y.to=x.fr->CM x*hv w u x.fr=CM y*hv w u y.fr->Bc w u ts->Bc w u (ts++[x,y])
theorem EF{α:Type}{F:α->Rat}{G:Nat->Rat}{l:List α}(h:∀k x,l[k]?=some x->G k=F x):ls (Oa l.length) G=ls l F:=by
 unfold ls;congr 1;refine RU fun i=>?_
 rw[NW,NW];by_cases c:i<l.length
 ·rw[OW c,NR c];exact congrArg some (h i _ (NR c))
 ·rw[OG (by rw[On];lia),OG (by lia)];rfl
theorem AI{r:List Int}(h:Bc w u ts):ls ts (fun t=>if t.to=r then CM t*hv w u t.fr else 0)=ls ts fun t=>if t.fr=r then CM t*hv w u t.fr else 0:=by
 induction h with
 |nil=>rfl
 |cons x y ts e1 e2 e3 _ ih =>
  rw[pR,pR,ih];congr 1;rw[a9,a9,uP,a9,a9,uP,e2,e1,<- e1,<- e3,e1];rw[Rc,Rc,Rat.add_comm]
theorem vm{ts:List Tn}{k:Nat}{t:Tn}(h:ts[k]?=some t):bb (al ts) k=ix (aC ts) t.fr/\aV (al ts) k=ix (aC ts) t.to/\eO ts k=CM t:=by
 unfold bb aV eO;rw[NS,h];unfold al;rw[NW,h];exact⟨rfl,rfl,rfl⟩
theorem Dj{x:List Int}(hx:x∈aC ts){j:Nat}(hj:j<(aC ts).length):ix (aC ts) x=j↔x=(aC ts).getD j []:=by
 constructor
 ·intro e;rw[<- e,tu hx]
 ·intro e;have a:=zD hx;have b:(aC ts)[j]?=some x:=by rw[e,NS,NR hj];rfl
  obtain⟨l1,e1⟩:=NT.mp a;obtain⟨l2,e2⟩:=NT.mp b;have i1:=P9 (uZ ts) _ l1;have i2:=P9 (uZ ts) _ l2;rw[e1] at i1;rw[e2] at i2;lia
theorem Ld(h:Bc w u ts):Nr (al ts) (eO ts) (fun h=>hv w u ((aC ts).getD h [])) (aC ts).length:=by
 intro j hj;have le:(al ts).length=ts.length:=by unfold al;rw[NQ]
 have mem:∀t∈ts,t.fr∈aC ts/\t.to∈aC ts:=fun t ht=>dU (hs:=[]) ht
 rw[du,du,le];rw[EF (F:=fun t=>if t.to=(aC ts).getD j [] then CM t*hv w u t.fr else 0) fun k t ht=>?_,EF (F:=fun t=>if t.fr=(aC ts).getD j [] then CM t*hv w u t.fr else 0) fun k t ht=>?_]
 ·exact AI h
 ·obtain⟨e1,e2,e3⟩:=vm ht;have m:=mem t (N2 ht);show(if (_ == j)=true then eO ts k*hv w u ((aC ts).getD (bb (al ts) k) []) else 0)=_;rw[e1,e3,tu m.1];by_cases c:t.fr=(aC ts).getD j []
  ·rw[if_pos c,if_pos (by rw[(Dj m.1 hj).mpr c];simp)]
  ·rw[if_neg c,if_neg fun z=>c ((Dj m.1 hj).mp (by simpa using z))]
 ·obtain⟨e1,e2,e3⟩:=vm ht;have m:=mem t (N2 ht);show(if (_ == j)=true then eO ts k*hv w u ((aC ts).getD (bb (al ts) k) []) else 0)=_;rw[e1,e2,e3,tu m.1];by_cases c:t.to=(aC ts).getD j []
  ·rw[if_pos c,if_pos (by rw[(Dj m.2 hj).mpr c];simp)]
  ·rw[if_neg c,if_neg fun z=>c ((Dj m.2 hj).mp (by simpa using z))]
theorem HY{f:Nat->Int}{w:Nat->Rat}{m:List Int}:∀n,n<=m.length->vs f (wl w n) (m.take n)=sm n fun k=>pt m k*Ev.vr f (w k)
 |0,_=>rfl
 |n+1,h=>by
  have e:m[n]?=some m[n]:=NR h;have lw:(wl w n).length=(m.take n).length:=by unfold wl;rw[NQ,On,Ot];lia
  rw[Oj,e,show wl w (n+1)=wl w n++[((w n).num.natAbs,(w n).den)] by unfold wl;rw[Ps,N1];rfl,show(some m[n]).toList=[m[n]] from rfl,wJ _ _ lw,HY n (by lia)];show _+_=_+pt m n*_;rw[show pt m n=m[n] by unfold pt;rw[NS,e];rfl];rfl
theorem DF{u:Nat->Rat}(o:ii w ts)(af:kh ts)(up:∀s,0<u s)(h:Bc w u ts):∀m∈mks ts,One (wW ts) m:=by
 intro m hm p hp;obtain⟨lm,_,_⟩:=fG o hm;obtain⟨cs,cl⟩:=yZ o hm;have F:=bU (cc ts);have le:(al ts).length=ts.length:=by unfold al;rw[NQ]
 have bk:∀e∈al ts,Rch (al ts) e.2 e.1:=fun e he=>by obtain⟨j,hj⟩:=ON he;exact af j e.1 e.2 hj
 have Wp:∀k,k<(aC ts).length->0<Wt ts k:=fun k hk=>na.mp (vD o.pa bk hk)
 have ok:=cc ts;have ok':∀k,k<(al ts).length->bb (al ts) k<(aC ts).length/\aV (al ts) k<(aC ts).length:=fun k hk=>ok _ (DG hk)
 have vv:∀k,0<hv w u ((aC ts).getD k []):=fun k=>KI up _
 have key:vs (fun n=>(aS p n:Int)) (wW ts) m=sm (aC ts).length fun k=>pt m k*Ev.vr (fun n=>(aS p n:Int)) (Wt ts k):=by
  have:=HY (f:=fun n=>(aS p n:Int)) (w:=Wt ts) (m:=m) (aC ts).length (by lia)
  rw[Oh (by lia)] at this;exact this
 rw[key];refine Ev.DE hp.add (S:=w) (N:=(aC ts).length) (v:=fun k=>hv w u ((aC ts).getD k [])) (w:=u) (h:=fun k s=>(pt ((aC ts).getD k []) s).toNat) (lot:=at_ (fO ts)) Wp (fun k _=>vv k) (fun k hk=>?_) (fun k hk=>Oy (F.le k hk) hk) (fun k k' hk Y4 e=>?_) (fun l hl=>?_) fun s hs=>?_
 ·show Ev.vr _ (pr w _)=_;rw[HZ hp.add fun s _=>(Ev.t7 hp.add (up s) _).1];refine aK fun s _=>?_
  rw[(Ev.t7 hp.add (up s) _).2,O0]
 ·obtain⟨c,hc⟩:=NC (u:=Wt ts) (v:=fun k=>hv w u ((aC ts).getD k [])) ok' (fun k hk=>Ez o.pa (by lia)) (fun k hk=>yf (bk _ (DG hk))) (fun j hj=>Nh hj) (Ld h) (fun k _=>vv k) hk;obtain⟨n1,p1⟩:=yf (qz bk ((F.tied hk Y4).mp e));rw[hc k 0 rfl,hc k' n1 p1,OX,OX,Uj (hv w u ((aC ts).getD k []))]
 ·by_cases c:∃k,k<(aC ts).length/\at_ (fO ts) k=l
  ·obtain⟨k,hk,rfl⟩:=c;exact cl k hk
  ·exact dH fun k hk=>if_neg fun z=>c ⟨k,hk,z⟩
 ·refine Eq.trans (aK fun k hk=>?_) (cs s hs);show(((pt ((aC ts).getD k []) s).toNat:Nat):Int)*_=_
  have nn:0<=pt ((aC ts).getD k []) s:=by
   rw[NS,NR hk];show 0<=pt (aC ts)[k] s;unfold pt;rw[NS];cases e:(aC ts)[k][s]? with
   |none=>exact Int.le_refl 0
   |some c=>exact o.nn _ (OZ hk) c (N2 e)
  rw[show(((pt ((aC ts).getD k []) s).toNat:Nat):Int)=pt ((aC ts).getD k []) s by lia]
end Pw
namespace Pw
open PySem L2 Fr G1 Sm Vs G2 Rk Sz Sf Rw Ti Lo Lc Tr
open PySem.W (Dat kqdOk)
noncomputable def Fq(M:Nat)(x:Rat):Prop:=∃n d:Nat,0<n/\0<d/\x=OM n d/\n<=M/\d<=M
theorem Fq.low(h:Fq M x):0<x.num/\x.num.natAbs<=M/\x.den<=M:=by
 obtain⟨n,d,n0,d0,rfl,hn,hd⟩:=h;have dn:(d:Int)≠0:=by lia
 have e:(OM n d).num*(d:Int)=n*((OM n d).den:Int):=by
  have:=RF (OM (n:Int) (d:Int))
  exact(SB (by have:=(OM (n:Int) (d:Int)).den_nz;lia) dn).mp this
 have dp:0<(OM (n:Int) (d:Int)).den:=O8 (OM (n:Int) (d:Int)).den_nz;have cp:=(OM (n:Int) (d:Int)).reduced;generalize hN:(OM (n:Int) (d:Int)).num=N at *;generalize hD:(OM (n:Int) (d:Int)).den=D at *
 have N0:0<N:=by
  by_cases z:0<N
  ·exact z
  ·have:=Int.mul_le_mul_of_nonneg_right (by lia:N<=0) (by lia:(0:Int)<=d)
   have:=Xx (by lia:(0:Int)<n) (by lia:(0:Int)<D)
   lia
 have e2:N.natAbs*d=n*D:=by
  have:=congrArg X3 e
  rwa [OU,OU,Qf,Qf,Qf] at this
 have q1:N.natAbs∣n:=Rb.dvd_of_dvd_mul_right cp ⟨d,e2.symm⟩;have q2:D∣d:=Ri cp.symm ⟨n,by rw[e2,PB]⟩;exact⟨N0,Oi (QC n0 q1) hn,Oi (QC d0 q2) hd⟩
theorem Fq.mul(h:Fq M x)(k:Fq N y):Fq (M*N) (x*y):=by
 obtain⟨n,d,n0,d0,rfl,hn,hd⟩:=h;obtain⟨a,b,a0,b0,rfl,ha,hb⟩:=k;exact⟨n*a,d*b,Pf n0 a0,Pf d0 b0,by rw[RS,Q4,Q4],O2 hn ha,O2 hd hb⟩
theorem Fq.pow{M:Nat}{x:Rat}(h:Fq M x):∀k,Fq (M ^ k) (x ^ k)
 |0=>⟨1,1,by decide,by decide,by rw[Sh];rfl,by simp,by simp⟩
 |k+1=>by rw[RH,PZ];exact(Fq.pow h k).mul h
theorem Fq.up{N:Nat}(h:Fq M x)(l:M<=N):Fq N x:=by
 obtain⟨n,d,n0,d0,e,hn,hd⟩:=h;exact⟨n,d,n0,d0,e,Oi hn l,Oi hd l⟩
theorem Fq.bits{c:Nat}(h:Fq M x)(l:M<2 ^ c):Bq c x:=⟨Oy h.low.2.1 l,Oy h.low.2.2 l⟩
noncomputable def iR(K:Fg):Sp:=fun vs H Q _=>∃(v:V) (c:Addr) (x:Rat) (a b:Nat),vs=[v,.ref c]/\QV K H v x/\SqT K H c [.int (a:Int),.int (b:Int)]/\0<b/\a<=4/\b<=4/\Bq 3900 x/\∀(p:Addr) (H':Hp),Same H H'->Rz K H' (.ref p) (dQ (x*OM a b))->Q (.ref p) H'
theorem x8{K:Fg}{vs:List V}{N:List Str}(hN:N.length=2)(h:iR K vs H Q E):l9 K (ends Q) (L2.start N vs) H:=by
 obtain⟨v,c,x,a,b,rfl,rv,hc,b0,a4,b4,bx,k⟩:=h;obtain⟨d,rfl,hd⟩:=rv;rw[L2.aU hN];walk_at "t";have sm4:∀n:Nat,n<=4->((n:Int)).natAbs<2 ^ 3900:=fun n h=>Oy (by lia:((n:Int)).natAbs<=4) (OB (by decide:4<2 ^ 3) (Om (by decide) (by decide)))
 unfold l9;walk_at "";refine aF hd (v:=.int x.num) rfl ?_;walk_at "";refine aF hc (v:=.int (a:Int)) rfl ?_;refine⟨_,_,rfl,rfl,⟨Bq.w bx.1,Bq.w (sm4 a a4)⟩,?_⟩;walk_at "";refine aF hd (v:=.int (x.den:Int)) rfl ?_;walk_at "";refine aF hc (v:=.int (b:Int)) rfl ?_;refine⟨_,_,rfl,rfl,⟨Bq.w bx.d,Bq.w (sm4 b b4)⟩,?_⟩;walk_at "";have dn:(x.den:Int)*(b:Int)≠0:=RL (by have:=x.den_nz;lia) (by lia);have dp:0<(x.den:Int)*(b:Int):=Xx (by have:=x.den_nz;lia) (by lia);refine⟨_,_,rfl,dp,OL (Bq.mul bx.1 (sm4 a a4)) (pw_lt (by decide)),OL (Bq.mul bx.d (sm4 b b4)) (pw_lt (by decide)),fun p q d' H' S L _ _ r=>?_⟩;obtain⟨e1,e2⟩:=hZ dn L;have e3:OM (x.num*(a:Int)) ((x.den:Int)*(b:Int))=x*OM a b:=by rw[<- RS,gh]
 rw[e3] at e1 e2;rw[e1,e2] at r;exact k p H' S r
noncomputable def sr(K:Fg):Sp:=fun vs H Q _=>∃(a:Addr) (ns:List Int) (t:Int),vs=[.ref a,.int t]/\SqL K H a (ns.map V.int)/\0<=t/\∀(p:Addr) (H':Hp) (ws:List Str) (ts:List Tn) (u:Nat->Rat),Same H H'->wx ws ts->Bc ws.length u ts->(∀s,0<u s)->Rz K H' (.ref p) (dV ws ts)->Q (.ref p) H'
noncomputable def dW(x:Nat×Nat):Dat:=dI [(x.1:Int),(x.2:Int)]
noncomputable def LN(W:List (Nat×Nat)):Prop:=∀x∈W,0<x.1/\0<x.2/\x.1<=4/\x.2<=4
noncomputable def uO(W:List (Nat×Nat))(s:Nat):Rat:=OM (W.getD s (1,1)).1 (W.getD s (1,1)).2
noncomputable def dE(x:List Int×List Int):Dat:=.tuple [dI x.1,dI x.2]
noncomputable def AG(u:Nat->Rat)(p:Rat)(t g:List Int)(j:Nat):Rat:=p*pr j fun s=>u s ^ (pt t s).toNat*(u s)⁻¹ ^ (pt g s).toNat
theorem wf{W:List (Nat×Nat)}(wo:LN W)(s:Nat):Fq 4 (uO W s)/\Fq 4 (uO W s)⁻¹/\uO W s*(uO W s)⁻¹=1:=by
 have h:0<(W.getD s (1,1)).1/\0<(W.getD s (1,1)).2/\(W.getD s (1,1)).1<=4/\(W.getD s (1,1)).2<=4:=by
  rw[NS];cases e:W[s]? with
  |none=>exact⟨by decide,by decide,by decide,by decide⟩
  |some x=>exact wo x (N2 e)
 obtain⟨a,b,c,d⟩:=h;unfold uO;generalize (W.getD s (1,1)).1=m at *;generalize (W.getD s (1,1)).2=n at *;have e:(OM (m:Int) (n:Int))⁻¹=OM (n:Int) (m:Int):=X5 _ _;have F:Fq 4 (OM (m:Int) (n:Int)):=⟨m,n,a,b,rfl,c,d⟩
 refine⟨F,by rw[e];exact⟨n,m,b,a,rfl,d,c⟩,Rat.mul_inv_cancel _ fun z=>?_⟩
 have:=F.low.1
 rw[z] at this;exact absurd this (by decide)
theorem mX{x y:Rat}(h:x*y=1):∀k:Nat,x ^ k*y ^ k=1
 |0=>by rw[Sh,Sh,Qs]
 |k+1=>by
  rw[RH,RH,OX,<- OX x,Uj x (y ^ k),OX (y ^ k),h,Qs,mX h k]
theorem mV(x:Rat)(a:Nat):∀b:Nat,x ^ (a+b)=x ^ a*x ^ b
 |0=>by rw[Xa,Sh,Qs]
 |b+1=>by rw[<- SC,RH,mV x a b,RH,OX]
theorem M_{x y:Rat}(h:x*y=1)(fx:Fq 4 x)(fy:Fq 4 y){a b:Nat}(ha:a<=3)(hb:b<=3):Fq 64 (x ^ a*y ^ b):=by
 by_cases c:b<=a
 ·obtain⟨k,rfl⟩:∃k,a=k+b:=⟨a-b,by lia⟩
  rw[mV,OX,mX h,Qs];exact(fx.pow k).up (Oi (Om (by decide) (by lia:k<=3)) (by decide))
 ·obtain⟨k,rfl⟩:∃k,b=a+k:=⟨b-a,by lia⟩
  rw[mV,<- OX,mX h,Re];exact(fy.pow k).up (Oi (Om (by decide) (by lia:k<=3)) (by decide))
theorem Hy{W:List (Nat×Nat)}(wo:LN W){P:Rat}(fp:Fq 6 P){t g:List Int}(ht:∀s,(pt t s).toNat<=3)(hg:∀s,(pt g s).toNat<=3):∀j,Fq (6*64 ^ j) (AG (uO W) P t g j)
 |0=>by
  show Fq (6*1) (P*1);rw[Qs];exact fp
 |j+1=>by
  show Fq _ (P*(pr j _*_));rw[<- OX,PZ,<- OV];exact(Hy wo fp ht hg j).mul (M_ (wf wo j).2.2 (wf wo j).1 (wf wo j).2.1 (ht j) (hg j))
theorem K0{W:List (Nat×Nat)}(wo:LN W)(P:Rat)(t g:List Int):∀w,P*hv w (uO W) t=AG (uO W) P t g w*hv w (uO W) g
 |0=>by show P*1=P*1*1;rw[Qs,Qs]
 |w+1=>by
  have ih:=K0 wo P t g w;show P*(hv w (uO W) t*uO W w ^ (pt t w).toNat)=P*((pr w fun s=>uO W s ^ (pt t s).toNat*(uO W s)⁻¹ ^ (pt g s).toNat)*(uO W w ^ (pt t w).toNat*(uO W w)⁻¹ ^ (pt g w).toNat))*(hv w (uO W) g*uO W w ^ (pt g w).toNat);have e:=mX (wf wo w).2.2 (pt g w).toNat;generalize uO W w ^ (pt t w).toNat=A;generalize uO W w ^ (pt g w).toNat=B at e ⊢;generalize (uO W w)⁻¹ ^ (pt g w).toNat=C at e ⊢;have ih':P*hv w (uO W) t=P*(pr w fun s=>uO W s ^ (pt t s).toNat*(uO W s)⁻¹ ^ (pt g s).toNat)*hv w (uO W) g:=ih;generalize (pr w fun s=>uO W s ^ (pt t s).toNat*(uO W s)⁻¹ ^ (pt g s).toNat)=R at ih' ⊢;generalize hv w (uO W) t=X at ih' ⊢;generalize hv w (uO W) g=Y at ih' ⊢;rw[<- OX,ih']
  calc P*R*Y*A=P*R*Y*A*(B*C):=by rw[e,Qs]
   _=P*(R*(A*C))*(Y*B):=by
    simp only[OX,Uj,Mp]
structure RI (w:Nat) (u:Nat->Rat) (hs:List (List Int)) (ts:List Tn) (i:Nat) (R:List Tn):Prop where
 prs:Bc w u R
 len:R.length<=6
 nd:(R.map cM).Nodup
 ok:∀t∈R,TurnOk hs t
 rev:∀t∈R,(t.to,t.fr)∈R.map cM
 src:∀t∈R,cM t∈(ts.take i).map cM\/(t.to,t.fr)∈(ts.take i).map cM
 ne:0<i->R≠[]
theorem RI.start(w:Nat)(u:Nat->Rat)(hs:List (List Int))(ts:List Tn):RI w u hs ts 0 [] :=
 ⟨.nil,by decide,P5,fun _ h=>(by cases h),fun _ h=>(by cases h),fun _ h=>(by cases h),fun h=>absurd h (by decide)⟩
theorem ud{α:Type}{l:List α}{x:α}(h:x∈l.take i):x∈l.take (i+1):=by rw[Oj];exact Oe _ h
theorem RI.skip(h:RI w u hs ts i R)(n:R≠[]):RI w u hs ts (i+1) R:=by
 refine⟨h.prs,h.len,h.nd,h.ok,h.rev,fun t ht=>?_,fun _=>n⟩;rcases h.src t ht with z|z
 ·obtain⟨x,hx,e⟩:=N9.mp z;exact .inl (N9.mpr ⟨x,ud hx,e⟩)
 ·obtain⟨x,hx,e⟩:=N9.mp z;exact .inr (N9.mpr ⟨x,ud hx,e⟩)
theorem RI.add(h:RI w u hs ts i R)(ndT:(ts.map cM).Nodup){t:Tn}(ht:ts[i]?=some t)(no:(t.to,t.fr)∉R.map cM)(l5:R.length<5)
  (ex:cM x=(t.fr,t.to)) (ey:cM y=(t.to,t.fr)) (ox:TurnOk hs x) (oy:TurnOk hs y) (b:CM x*hv w u x.fr=CM y*hv w u y.fr):RI w u hs ts (i+1) (R++[x,y]):=by
 have x1:x.fr=t.fr:=congrArg Vb ex;have x2:x.to=t.to:=congrArg Uw ex;have y1:y.fr=t.to:=congrArg Vb ey;have y2:y.to=t.fr:=congrArg Uw ey;have ne:t.fr≠t.to:=by have:=ox.2.2.1;rwa [x1,x2] at this
 have no2:(t.fr,t.to)∉R.map cM:=fun z=>by
  obtain⟨r,hr,er⟩:=N9.mp z
  have:=h.rev r hr
  rw[show r.to=t.to from congrArg Uw er,show r.fr=t.fr from congrArg Vb er] at this;exact no this
 have me:(t.fr,t.to)∈(ts.take (i+1)).map cM:=by
  rw[Oj,ht,N1];exact Ob _ (NX)
 refine⟨.cons x y R (by rw[y1,x2]) (by rw[y2,x1]) b h.prs,by rw[N6];show R.length+2<=6;lia,?_,fun z hz=>?_,fun z hz=>?_,fun z hz=>?_,fun _ z=>by have:=congrArg QD z;rw[N6] at this;simp at this⟩
 ·rw[N1,RV];refine⟨h.nd,?_,fun p hp q hq e=>?_⟩
  ·show[cM x,cM y].Nodup;rw[ex,ey];refine OO.mpr ⟨fun z=>ne (congrArg Vb (N7.mp z)),by simp⟩
  ·have hq':q∈[cM x,cM y]:=hq;rw[ex,ey] at hq';subst e;rcases Od.mp hq' with z|z
   ·rw[z] at hp;exact no2 hp
   ·rw[N7.mp z] at hp;exact no hp
 ·rcases N_.mp hz with k|k
  ·exact h.ok z k
  ·rcases Od.mp k with k|k
   ·rw[k];exact ox
   ·rw[N7.mp k];exact oy
 ·rw[N1];rcases N_.mp hz with k|k
  ·exact Oe _ (h.rev z k)
  ·refine Ob _ ?_;show _∈[cM x,cM y];rw[ex,ey];rcases Od.mp k with k|k
   ·rw[k,x1,x2];simp
   ·rw[N7.mp k,y1,y2];simp
 ·rcases N_.mp hz with k|k
  ·rcases (h.skip (fun z=>by rw[z] at k;cases k)).src z k with q|q
   ·exact .inl q
   ·exact .inr q
  ·rcases Od.mp k with k|k
   ·rw[k,ex];exact .inl me
   ·rw[N7.mp k,y1,y2];exact .inr me
noncomputable def rL(K:Fg):TS:=(am (av (ay (ui K) [] E0 (ac (aa 0) (ac (aa 1) ae))) (ak 2))
 (am (av (ay fX [] E0 (ac (ay (i7 K) [] E0 (ac (aa 0) (ac (aa 1) ae))) (ac (tC (.int 2)) ae))) (ak 3))
 (am (av (aZ (bM K) (ac (aq (aE K) (aa 2) (tC (.int 0))) ae)) (ak 4))
 (am (av (ca ae) (ak 5))
 (am (be (cC (ac (aa 4) ae)) (ak 6)
 (am (bE (eJ K "list" aM (aa 5) (ac (bJ (ac (aq bG (tC (.int 1)) (aq bi (aa 3) (tC (.int 4)))) (ac (aq bG (tC (.int 1)) (aq bi (aq c8 (aa 3) (tC (.int 4))) (tC (.int 3)))) ae))) ae)))
 (av (aq c8 (aa 3) (tC (.int 12))) (ak 3))))
 (am (av (ca ae) (ak 7))
 (am (be (tt K (aq (aE K) (aa 2) (tC (.int 1)))) (cF K 3 (a7 (ak 8) (a7 (ak 9) (a7 (ak 10) cG))))
 (aI (kn (aH (aq (hE K true) (bJ (ac (aa 9) (ac (aa 8) ae))) (eI (bQ K (aa 7)) (bJ (ac (aq (aE K) (aa 0) (tC (.int 0))) (ac (aq (aE K) (aa 0) (tC (.int 1))) ae)))))) (aH (aq Cs (aZ (bM K) (ac (aa 7) ae)) (tC (.int 5)))))
 (am (av (ay (i4 K) [] E0 (ac (aq bG (tC (.int 1)) (aq bi (aq (aE K) (aa 10) (tC (.int 0))) (tC (.int 6)))) (ac (aq bG (tC (.int 1)) (aq bi (aq (aE K) (aa 10) (tC (.int 1))) (tC (.int 5)))) ae))) (ak 10))
 (am (av (aa 10) (ak 11))
 (am (be (cC (ac (aa 4) ae)) (ak 12)
 (am (be (cC (ac (aq (aE K) (aa 8) (aa 12)) ae)) (ak 6)
 (av (ay (Pw.iR K) [] E0 (ac (aa 11) (ac (aq (bX K) (aa 5) (aa 12)) ae))) (ak 11)))
 (be (cC (ac (aq (aE K) (aa 9) (aa 12)) ae)) (ak 6)
 (av (ay (Pw.iR K) [] E0 (ac (aa 11) (ac (bJ (ac (aq (aE K) (aq (bX K) (aa 5) (aa 12)) (tC (.int 1))) (ac (aq (aE K) (aq (bX K) (aa 5) (aa 12)) (tC (.int 0))) ae))) ae))) (ak 11)))))
 (am (bE (eJ K "list" aM (aa 7) (ac (bJ (ac (aa 8) (ac (aa 9) (ac (aa 10) ae)))) ae)))
 (bE (eJ K "list" aM (aa 7) (ac (bJ (ac (aa 9) (ac (aa 8) (ac (aa 11) ae)))) ae)))))))
 aO))
 (aA (bJ (ac (aq (aE K) (aa 2) (tC (.int 0))) (ac (aZ (jo K) (ac (aa 7) ae)) ae)))))))))))
theorem Ci{K:Fg}{vs:List V}{N:List Str}(hN:N.length=13)(h:sr K vs H Q E):rL K (ends Q) (L2.start N vs) H:=by
 obtain⟨a,ns,t,rfl,hS,t0,k⟩:=h;rw[L2.aU hN];walk_at "t";unfold rL;walk_at "";refine⟨a,ns,t,rfl,hS,t0,fun p H1 ws ts S1 vo rv=>?_⟩;obtain⟨hs,po,hs8,tk⟩:=vo.turns;obtain⟨_,v1,v2,e0,hp,r1,r2⟩:=tJ rv;cases e0;obtain⟨c1,ws1,rfl,hc1,rw1⟩:=r1.cP;obtain⟨c2,ts1,rfl,hc2,rt2⟩:=r2.cP;have lw1:ws1.length=ws.length:=by rw[rw1.length,NQ]
 have lt1:ts1.length=ts.length:=by rw[rt2.length,NQ]
 have w1:=vo.w1;have w5:=vo.w5;have t8:=tk.le;walk_at "";refine⟨a,ns,t,rfl,S1.seq hS,t0,?_⟩;walk_at "";refine⟨_,2,rfl,by decide,by decide,fun c hc=>?_⟩;walk_at "";refine aF (SqT.of hp) (v:=.ref c1) rfl ?_;walk_at "";refine jO (SqT.of hc1) ?_;rw[lw1];walk_at "";refine⟨by show 0<=sizeLine;exact OR _,fun l nl=>?_⟩;have A1:AccZ K H1 l (upd H1 l (.lst [])) (([]:List (Nat×Nat)).map dW):=AccZ.start (Same.refl _) nl;generalize upd H1 l (.lst [])=H2 at A1 ⊢;walk_at "";rw[OT];refine a8 (n:=ws.length) (fun j σ H3=>∃(c:Int) (u6:Option V) (W:List (Nat×Nat)),σ=[some (.ref a),some (.int t),some (.ref p),some (.int c),some (.int (ws.length:Int)),some (.ref l),u6,none,none,none,none,none,none]/\0<=c/\LN W/\W.length=j/\AccZ K H1 l H3 (W.map dW)) ⟨c,none,[],rfl,hc.1,fun _ h=>(by cases h),rfl,A1⟩ ?_ ?_
 ·rintro j σ H3 hj ⟨c,u6,W,rfl,c0,wo,lW,A3⟩;rw[PY];walk_at "";refine⟨A3.ty,?_⟩;walk_at "";refine⟨aQ,fun q nq=>?_⟩;have S4:=aj nq (.tup [.int (1+c % 4),.int (1+c / 4 % 3)])
  have z4:Rz K (upd H3 q (.tup [.int (1+c % 4),.int (1+c / 4 % 3)])) (.ref q) (dW ((1+c % 4).toNat,(1+c / 4 % 3).toNat)):=by
   show Rz K _ _ (dI [(((1+c % 4).toNat:Nat):Int),(((1+c / 4 % 3).toNat:Nat):Int)]);rw[show(((1+c % 4).toNat:Nat):Int)=1+c % 4 by lia,show(((1+c / 4 % 3).toNat:Nat):Int)=1+c / 4 % 3 by lia];exact .tup ag (RpL.ints [_,_])
  have A4:=A3.on S4;generalize upd H3 q (.tup [.int (1+c % 4),.int (1+c / 4 % 3)])=H4 at S4 z4 A4 ⊢;walk_at "";refine cB A4 z4 (ar (by rw[NQ];lia)) fun H5 A5 _ _ _=>?_
  walk_at "";refine⟨c / 12,_,W++[((1+c % 4).toNat,(1+c / 4 % 3).toNat)],rfl,by lia,fun x hx=>?_,by rw[N6,lW];rfl,by rw[N1];exact A5⟩;rcases N_.mp hx with h|h
  ·exact wo x h
  ·rw[N7.mp h];exact⟨by show 0<(1+c % 4).toNat;lia,by show 0<(1+c / 4 % 3).toNat;lia,by show(1+c % 4).toNat<=4;lia,by show(1+c / 4 % 3).toNat<=4;lia⟩
 ·rintro σ H3 ⟨c,u6,W,rfl,c0,wo,lW,A3⟩;obtain⟨xw,hl,rW⟩:=A3.at_;have S03:=S1.trans A3.same;walk_at "";refine⟨by show 0<=sizeLine;exact OR _,fun r nr=>?_⟩;have B1:AccZ K H3 r (upd H3 r (.lst [])) (([]:List Tn).map dT):=AccZ.start (Same.refl _) nr;generalize upd H3 r (.lst [])=H4 at B1 ⊢;walk_at "";refine aF (SqT.of (B1.same _ _ (A3.same _ _ hp))) (v:=.ref c2) rfl ?_;walk_at "";have hc24:=B1.same _ _ (A3.same _ _ hc2);have up:∀s,0<uO W s:=fun s=>na.mp (wf wo s).1.low.1
  refine⟨c2,rfl,⟨_,SqT.of hc24⟩,?_⟩
  refine tw (xs:=ts1) (fun i σ H5=>∃(R:List Tn) (u6 u8 u9 ZD u11 u12:Option V),σ=[some (.ref a),some (.int t),some (.ref p),some (.int c),some (.int (ws.length:Int)),some (.ref l),u6,some (.ref r),u8,u9,ZD,u11,u12]/\AccZ K H3 r H5 (R.map dT)/\RI ws.length (uO W) hs ts i R)
   ⟨[],u6,none,none,none,none,none,rfl,B1,RI.start _ _ _ _⟩ (fun i σ H5 _ ⟨R,_,_,_,_,_,_,_,B,_⟩=>SqT.of (B.same _ _ (A3.same _ _ hc2))) ?_ ?_
  ·rintro i x σ H5 hx ⟨R,u6,u8,u9,ZD,u11,u12,rfl,B5,ri⟩;obtain⟨dd,g1,g2⟩:=rt2.get hx;rw[NW] at g1;obtain⟨tn,htn,rfl⟩:=N8.mp g1;have ZT:=tk.ok tn (N2 htn);have g5:=(g2.same A3.same).same B5.same;obtain⟨q,_,_,_,rfl,hq,q1,q2,q3⟩:=tL g5;obtain⟨b1,rfl,Zb⟩:=eM q1;obtain⟨b2,rfl,Zu⟩:=eM q2;obtain⟨b3,rfl,hb3⟩:=eM q3;refine bP (SqT.of hq) rfl ?_;walk_at "";refine⟨aQ,fun T nT=>?_⟩;have S6:=aj nT (.tup [.ref b2,.ref b1]);have zT:Rz K (upd H5 T (.tup [.ref b2,.ref b1])) (.ref T) (dE (tn.to,tn.fr)):=.tup ag (.cons (q2.same S6) (.cons (q1.same S6) .nil));have B6:=B5.on S6;generalize upd H5 T (.tup [.ref b2,.ref b1])=H6 at S6 zT B6 ⊢;obtain⟨xr,hr,rR⟩:=B6.at_;have lR:xr.length=R.length:=by rw[rR.length,NQ]
   have R6:=ri.len;walk_at "";refine kH (SqL.of hr) ?_;refine cf (xs:=xr) fun D nD=>⟨fun j H7=>AccZ K H6 D H7 ((R.take j).map fun t=>dE (cM t)),AccZ.start (Same.refl _) nD,fun j H7 _ A=>SqL.of (A.same _ _ hr),?_,?_⟩
   ·intro j y H7 hy A;have lj:=(NT.mp hy).1;obtain⟨d2,f1,f2⟩:=(rR.same A.same).get hy;rw[NW] at f1;obtain⟨t2,ht2,rfl⟩:=N8.mp f1;obtain⟨q',w1',w2',w3',rfl,hq',r1',r2',r3'⟩:=tL f2;walk_at "";refine aF (SqT.of hq') (v:=w1') rfl ?_;walk_at "";refine aF (SqT.of hq') (v:=w2') rfl ?_;walk_at "";refine⟨aQ,fun T2 nT2=>?_⟩;have S8:=aj nT2 (.tup [w1',w2']);have z8:Rz K (upd H7 T2 (.tup [w1',w2'])) (.ref T2) (dE (cM t2)):=.tup ag (.cons (r1'.same S8) (.cons (r2'.same S8) .nil));have A8:=A.on S8;generalize upd H7 T2 (.tup [w1',w2'])=H8 at z8 A8 ⊢;refine aR lj ?_;refine A8.ci z8 (ar (by rw[NQ,Ot];lia)) fun H9 A9=>?_
    show AccZ K H6 D H9 ((R.take (j+1)).map fun t=>dE (cM t));rw[Oj,ht2,N1];exact A9
   intro H7 A7;rw[Oh (by lia)] at A7;have S57:=S6.trans A7.same;have B7:=B6.on A7.same
   have okE:∀x,kqdOk 8 (dE x)=true:=fun x=>by
    show kqdOk 8 (.tuple [dI x.1,dI x.2])=true;show([dI x.1,dI x.2].all (kqdOk 7))=true;rw[Yc,Yc,G1.jE,G1.jE];rfl
   have rT7:=zT.same A7.same;walk_at "";refine fI rT7.rep A7.rep (fun e he=>by obtain⟨b,_,rfl⟩:=N9.mp he;exact okE _) (okE _) (fun nm=>?_) (fun mm=>?_)
   ·walk_at "";refine bH (SqL.of (A7.same _ _ hr)) ?_;rw[lR];walk_at "";refine a6 (fun l5=>?_) (fun l5=>?_)
    ·have hb37:=S57 _ _ hb3;obtain⟨q0,d0,_,ZU,d10⟩:=ZT.2.2.2;walk_at "";refine aF (SqT.of hb37) (v:=.int tn.q) rfl ?_;walk_at "";refine aF (SqT.of hb37) (v:=.int tn.d) rfl ?_;walk_at "";refine⟨_,_,rfl,by lia,Oy (by lia:(1+tn.q % 6).natAbs<=6) (OB (by decide:6<2 ^ 3) (Om (by decide) (by decide))),Oy (by lia:(1+tn.d % 5).natAbs<=6) (OB (by decide:6<2 ^ 3) (Om (by decide) (by decide))),fun pp pq pd H8 S8 L _ _ r8=>?_⟩;obtain⟨e1,e2⟩:=hZ (by lia:1+tn.d % 5≠0) L;rw[e1,e2] at r8;have fP:Fq 6 (OM (1+tn.q % 6) (1+tn.d % 5)):=⟨(1+tn.q % 6).toNat,(1+tn.d % 5).toNat,by lia,by lia,by rw[show(((1+tn.q % 6).toNat:Nat):Int)=1+tn.q % 6 by lia,show(((1+tn.d % 5).toNat:Nat):Int)=1+tn.d % 5 by lia],by lia,by lia⟩
     generalize OM (1+tn.q % 6) (1+tn.d % 5)=P at r8 fP;have S58:=S57.trans S8;have of:=po.2 _ ZT.1;have og:=po.2 _ ZT.2.1
     have in3:∀{h:List Int},e_ ws.length h->∀s,0<=pt h s/\pt h s<=3:=fun {h} o s=>by
      unfold pt;rw[NS];cases e:h[s]? with
      |none=>exact⟨by decide,by decide⟩
      |some c=>exact o.2 c (N2 e)
     have b3t:∀s,(pt tn.fr s).toNat<=3:=fun s=>by have:=in3 of s;lia
     have b3g:∀s,(pt tn.to s).toNat<=3:=fun s=>by have:=in3 og s;lia
     have ix_:∀{h:List Int},e_ ws.length h->∀j,j<ws.length->(h.map V.int)[j]?=some (.int (pt h j)):=fun {h} o j hj=>by
      have:=o.1
      unfold pt;rw[NW,NR (by lia),NS,NR (by lia)];rfl
     have hl8:H8 l=some (.lst xw):=S58 _ _ (B5.same _ _ hl);have rW8:RzL K H8 xw (W.map dW):=((rW.same B5.same).same S58)
     have lxw:xw.length=ws.length:=by rw[rW.length,NQ,lW]
     have wAt:∀j,j<ws.length->∃q,xw[j]?=some (.ref q)/\H8 q=some (.tup [.int ((W.getD j (1,1)).1:Int),.int ((W.getD j (1,1)).2:Int)])/\0<(W.getD j (1,1)).1/\0<(W.getD j (1,1)).2/\(W.getD j (1,1)).1<=4/\(W.getD j (1,1)).2<=4:=fun j hj=>by
      obtain⟨y,hy⟩:∃y,xw[j]?=some y:=⟨_,NR (by lia)⟩
      obtain⟨d,f1,f2⟩:=rW8.get hy;rw[NW,NR (by lia)] at f1;cases f1;obtain⟨q,rfl,hq⟩:=eM f2;have e:W.getD j (1,1)=W[j]:=by rw[NS,NR (by lia)];rfl
      rw[e];exact⟨q,hy,hq,wo _ (OZ _)⟩
     have big:∀j,j<=5->∀k,k<=3->∀k',k'<=3->6*64 ^ j*4 ^ k*4 ^ k'<2 ^ 3900:=fun j hj k hk k' Y4 =>
      Oy (O2 (O2 (OK 6 (Om (by decide) hj)) (Om (by decide) hk)) (Om (by decide) Y4)) (OB (by decide:6*64 ^ 5*4 ^ 3*4 ^ 3<2 ^ 60) (Om (by decide) (by decide)))
     walk_at "";rw[OT];refine a8 (n:=ws.length) (fun j σ H9=>∃(v11:V) (u6 u12:Option V),σ=[some (.ref a),some (.int t),some (.ref p),some (.int c),some (.int (ws.length:Int)),some (.ref l),u6,some (.ref r),some (.ref b1),some (.ref b2),some (.ref pp),some v11,u12]/\Same H8 H9/\Rz K H9 v11 (dQ (AG (uO W) P tn.fr tn.to j))) ⟨_,_,_,rfl,Same.refl _,by show Rz K H8 (.ref pp) (dQ (P*1));rw[Qs];exact r8⟩ ?_ ?_
     ·rintro j σ H9 hj ⟨v11,u6,u12,rfl,S9,q9⟩;rw[PY];obtain⟨qw,hxw,hqw,a0,b0,a4,b4⟩:=wAt j hj;have fB:=Hy wo fP b3t b3g j;have F4:=wf wo j;walk_at "";refine aF (SqT.of (S9 _ _ (S58 _ _ Zb))) (v:=.int (pt tn.fr j)) (aG (j:=j) (ix_ of j hj)) ?_;have i1:=in3 of j;have i2:=in3 og j;refine⟨_,rfl,by lia,by lia,?_⟩;refine a8 (n:=(pt tn.fr j).toNat) (fun k σ YC=>∃(v11:V) (u6:Option V),σ=[some (.ref a),some (.int t),some (.ref p),some (.int c),some (.int (ws.length:Int)),some (.ref l),u6,some (.ref r),some (.ref b1),some (.ref b2),some (.ref pp),some v11,some (.int (j:Int))]/\Same H8 YC/\Rz K YC v11 (dQ (AG (uO W) P tn.fr tn.to j*uO W j ^ k))) ⟨v11,u6,rfl,S9,by rw[Sh,Qs];exact q9⟩ ?_ ?_
      ·rintro k σ YC hk ⟨v11,u6,rfl,S10,ZU⟩;walk_at "";refine cj (SqL.of (S10 _ _ hl8)) (v:=.ref qw) (aG (j:=j) hxw) ?_;walk_at "";refine⟨v11,qw,_,_,_,rfl,QV.of ZU,SqT.of (S10 _ _ hqw),b0,a4,b4,((fB.mul (F4.1.pow k)).bits (Oy (QG _ (by decide:0<4 ^ 0)) (big j (by lia) k (by lia) 0 (by decide)))),fun p' Y3 S11 r11=>?_⟩;walk_at "";refine⟨_,_,rfl,S10.trans S11,?_⟩;rw[RH,<- OX];exact r11
      ·rintro σ YC ⟨v11,u6,rfl,S10,ZU⟩;walk_at "";refine aF (SqT.of (S10 _ _ (S58 _ _ Zu))) (v:=.int (pt tn.to j)) (aG (j:=j) (ix_ og j hj)) ?_;refine⟨_,rfl,by lia,by lia,?_⟩;refine a8 (n:=(pt tn.to j).toNat) (fun k σ Y3=>∃(v11:V) (u6:Option V),σ=[some (.ref a),some (.int t),some (.ref p),some (.int c),some (.int (ws.length:Int)),some (.ref l),u6,some (.ref r),some (.ref b1),some (.ref b2),some (.ref pp),some v11,some (.int (j:Int))]/\Same H8 Y3/\Rz K Y3 v11 (dQ (AG (uO W) P tn.fr tn.to j*uO W j ^ (pt tn.fr j).toNat*(uO W j)⁻¹ ^ k))) ⟨v11,u6,rfl,S10,by rw[Sh,Qs];exact ZU⟩ ?_ ?_
       ·rintro k σ Y3 hk ⟨v11,u6,rfl,S11,q11⟩;have hl11:=S11 _ _ hl8;have hq11:=S11 _ _ hqw;walk_at "";refine cj (SqL.of hl11) (v:=.ref qw) (aG (j:=j) hxw) ?_;walk_at "";refine aF (SqT.of hq11) (v:=.int ((W.getD j (1,1)).2:Int)) rfl ?_;walk_at "";refine cj (SqL.of hl11) (v:=.ref qw) (aG (j:=j) hxw) ?_;walk_at "";refine aF (SqT.of hq11) (v:=.int ((W.getD j (1,1)).1:Int)) rfl ?_;walk_at "";refine⟨aQ,fun T' nT'=>?_⟩;have S12:=aj nT' (.tup [.int ((W.getD j (1,1)).2:Int),.int ((W.getD j (1,1)).1:Int)]);have h12:upd Y3 T' (.tup [.int ((W.getD j (1,1)).2:Int),.int ((W.getD j (1,1)).1:Int)]) T'=some (.tup [.int ((W.getD j (1,1)).2:Int),.int ((W.getD j (1,1)).1:Int)]):=ag;generalize upd Y3 T' (.tup [.int ((W.getD j (1,1)).2:Int),.int ((W.getD j (1,1)).1:Int)])=H12 at S12 h12 ⊢;walk_at "";refine⟨v11,T',_,_,_,rfl,QV.of (q11.same S12),SqT.of h12,a0,b4,a4,(((fB.mul (F4.1.pow _)).mul (F4.2.1.pow k)).bits (big j (by lia) _ (b3t j) k (by have:=b3g j;lia))),fun p' H13 S13 r13=>?_⟩;walk_at "";refine⟨_,_,rfl,S11.trans (S12.trans S13),?_⟩;rw[RH,<- OX,show(uO W j)⁻¹=OM ((W.getD j (1,1)).2:Int) ((W.getD j (1,1)).1:Int) from X5 _ _] at *;exact r13
       ·rintro σ Y3 ⟨v11,u6,rfl,S11,q11⟩;refine⟨v11,u6,some (.int (j:Int)),rfl,S11,?_⟩
        have e:AG (uO W) P tn.fr tn.to (j+1)=AG (uO W) P tn.fr tn.to j*uO W j ^ (pt tn.fr j).toNat*(uO W j)⁻¹ ^ (pt tn.to j).toNat:=by
         show P*(pr j _*(_*_))=P*pr j _*_*_;rw[OX,OX]
        rw[e];exact q11
     ·rintro σ H9 ⟨v11,u6,u12,rfl,S9,q9⟩;have fB:=(Hy wo fP b3t b3g ws.length).up (OK 6 (Om (by decide) w5):_<=6*64 ^ 5);have S59:=S58.trans S9;have B9:=(B7.on S8).on S9
      have pOk:∀{x:Rat},Fq (6*64 ^ 5) x->j3 x.num (x.den:Int):=fun {x} f=>by
       obtain⟨n0,nl,dl⟩:=f.low;have rl:=Gc x
       have:6*64 ^ 5=6442450944:=by decide
       exact⟨n0,rl.1,rl.2,by lia,by lia⟩
      have fP':=fP.up (by decide:6<=6*64 ^ 5)
      have ri':=ri.add tk.nd htn (x:=⟨tn.fr,tn.to,P.num,(P.den:Int)⟩) (y:=⟨tn.to,tn.fr,(AG (uO W) P tn.fr tn.to ws.length).num,((AG (uO W) P tn.fr tn.to ws.length).den:Int)⟩) (fun z=>nm (by obtain⟨x,hx,e⟩:=N9.mp z;exact N9.mpr ⟨x,hx,by rw[e]⟩)) (by lia) rfl rfl ⟨ZT.1,ZT.2.1,ZT.2.2.1,pOk fP'⟩ ⟨ZT.2.1,ZT.1,fun z=>ZT.2.2.1 z.symm,pOk fB⟩ (by
       show OM P.num (P.den:Int)*hv ws.length (uO W) tn.fr=OM _ _*hv ws.length (uO W) tn.to
       rw[gh,gh]
       exact K0 wo P tn.fr tn.to ws.length)
      walk_at "";refine⟨B9.ty,?_⟩;walk_at "";refine⟨ja,fun X nX=>?_⟩;have S10:=aj nX (.tup [.ref b1,.ref b2,.ref pp]);have zX:Rz K (upd H9 X (.tup [.ref b1,.ref b2,.ref pp])) (.ref X) (dT ⟨tn.fr,tn.to,P.num,(P.den:Int)⟩):=.tup ag (.cons ((q1.same S59).same S10) (.cons ((q2.same S59).same S10) (.cons ((r8.same S9).same S10) .nil)));have B10:=B9.on S10;have ZU:=q9.same S10;generalize upd H9 X (.tup [.ref b1,.ref b2,.ref pp])=YC at S10 zX B10 ZU ⊢;have S510:=S59.trans S10;walk_at "";refine cB B10 zX (ar (by rw[NQ];lia)) fun Y3 B11 rz11 _ _=>?_
      walk_at "";refine⟨B11.ty,?_⟩;walk_at "";refine⟨ja,fun Y nY=>?_⟩;have S12:=aj nY (.tup [.ref b2,.ref b1,v11]);have zY:Rz K (upd Y3 Y (.tup [.ref b2,.ref b1,v11])) (.ref Y) (dT ⟨tn.to,tn.fr,(AG (uO W) P tn.fr tn.to ws.length).num,((AG (uO W) P tn.fr tn.to ws.length).den:Int)⟩):=.tup ag (.cons ((rz11 (q2.same S510)).same S12) (.cons ((rz11 (q1.same S510)).same S12) (.cons ((rz11 ZU).same S12) .nil)));have B12:=B11.on S12;generalize upd Y3 Y (.tup [.ref b2,.ref b1,v11])=H12 at S12 zY B12 ⊢;walk_at "";refine cB B12 zY (ar (by rw[N6,NQ];show _+1<=_;lia)) fun H13 B13 _ _ _=>?_
      walk_at "";refine⟨R++[_,_],_,_,_,_,_,_,rfl,?_,ri'⟩;rw[N1];rw[Pi] at B13;exact B13
    ·walk_at "";exact⟨R,_,_,_,_,_,_,rfl,B7,ri.skip fun z=>by rw[z] at l5;simp at l5⟩
   ·walk_at "";exact⟨R,_,_,_,_,_,_,rfl,B7,ri.skip fun z=>by rw[z] at mm;simp at mm⟩
  ·rintro σ H5 ⟨R,u6,u8,u9,ZD,u11,u12,rfl,B5,ri⟩;obtain⟨xr,hr,rR⟩:=B5.at_;have S05:=S03.trans B5.same;walk_at "";refine aF (SqT.of (B5.same _ _ (A3.same _ _ hp))) (v:=.ref c1) rfl ?_;walk_at "";refine qe (SqL.of hr) fun d nd=>?_
   have S6:=aj nd (.tup xr);have z6:Rz K (upd H5 d (.tup xr)) (.ref d) (.tuple (R.map dT)):=.tup ag (rR.same S6);generalize upd H5 d (.tup xr)=H6 at S6 z6 ⊢;walk_at "";refine⟨aQ,fun e ne=>?_⟩;have S7:=aj ne (.tup [.ref c1,.ref d]);have rc1:Rz K H6 (.ref c1) (.tuple (ws.map UF)):=((r1.same A3.same).same B5.same).same S6;have lt0:0<ts1.length:=by rw[lt1];exact Sn.mpr tk.ne
   refine k e _ ws R (uO W) (S05.trans (S6.trans S7)) ⟨vo.words,vo.w1,vo.w5,hs,po,hs8,ri.ne lt0,by have:=ri.len;lia,ri.nd,ri.ok⟩ ri.prs up (.tup ag (.cons (rc1.same S7) (.cons (z6.same S7) .nil)))
end Pw
namespace K87
open PySem L2 Fr G1 Sm Vs G2 Rk Sz Sf Rw Ti Lo Lc Tr Pw
open PySem.W (Dat kqdOk)
open K87H
structure Cn (K:Fg) (mg:Str->Option NY) (nq oq:Addr):Prop where
 NOUGHT:mg "NOUGHT"=some (.ref nq)
 ONE:mg "ONE"=some (.ref oq)
 zero:∀H:Hp,SqT K H nq [.int 0,.int 1]
 one:∀H:Hp,SqT K H oq [.int 1,.int 1]
noncomputable def xH(K:Fg):Sp:=fun vs H Q _=>∃(v1 v2:V) (x:Rat),vs=[v1,v2]/\QV K H v1 x/\QV K H v2 x/\Q (.bl true) H
noncomputable def rX(K:Fg):Sp:=fun vs H Q _=>(∃i:Int,vs=[.int i,.int i]/\Q (.bl true) H)\/∃(l1 l2:Addr) (xs ys:List V) (n:Nat) (w:Nat->Rat),vs=[.ref l1,.ref l2]/\H l1=some (.lst xs)/\H l2=some (.lst ys)/\xs.length=n/\ys.length=n/\n<=100/\(∀i x,xs[i]?=some x->QV K H x (w i))/\(∀i y,ys[i]?=some y->QV K H y (w i))/\Q (.bl true) H
theorem G5{K:Fg}{vs:List V}{x y:Str}(h:xH K vs H Q E):vs.length=[x,y].length:=by
 obtain⟨a,b,c,rfl,_⟩:=h;rfl
theorem G4{K:Fg}{vs:List V}{x y:Str}(h:rX K vs H Q E):vs.length=[x,y].length:=by
 rcases h with⟨a,rfl,_⟩|⟨a,b,c,d,e,f,rfl,_⟩ <;> rfl
noncomputable def Fo (K:Fg):TS:=(am (aI (qO (tB (aZ (sJ K) (ac (aa 1) (ac (tC (.ty "tuple")) ae)))) (tB (aZ (sJ K) (ac (aa 1) (ac (tC (.ty "list")) ae)))))
 (am (aI (qO (aH (aq kP (aZ (sJ K) (ac (aa 0) (ac (tC (.ty "tuple")) ae))) (aZ (sJ K) (ac (aa 1) (ac (tC (.ty "tuple")) ae))))) (aH (aq kP (aZ (sJ K) (ac (aa 0) (ac (tC (.ty "list")) ae))) (aZ (sJ K) (ac (aa 1) (ac (tC (.ty "list")) ae))))))
 (aA (tC (.bl false)))
 aO)
 (am (aI (aH (aq kP (aZ (bM K) (ac (aa 0) ae)) (aZ (bM K) (ac (aa 1) ae))))
 (aA (tC (.bl false)))
 aO)
 (am (be (cC (ac (aZ (bM K) (ac (aa 1) ae)) ae)) (ak 2)
 (aI (fR (tB (ay (oJ K 0) [] E0 (ac (aq (Gh K) (aa 0) (aa 2)) (ac (aq (Gh K) (aa 1) (aa 2)) ae)))))
 (aA (tC (.bl false)))
 aO))
 (aA (tC (.bl true))))))
 aO)
 (am (aI (tB (aZ (bN K) (ac (aa 1) (ac (tC (.ty "bool")) ae))))
 (aA (cZ (aZ (bN K) (ac (aa 0) (ac (tC (.ty "bool")) ae))) (aq fF (aa 0) (aa 1))))
 aO)
 (am (aI (tB (aZ (bN K) (ac (aa 1) (ac (tC (.ty "int")) ae))))
 (aA (cZ (aZ (bN K) (ac (aa 0) (ac (tC (.ty "int")) ae))) (cZ (mn (aZ (bN K) (ac (aa 0) (ac (tC (.ty "bool")) ae)))) (aq fF (aa 0) (aa 1)))))
 aO)
 (am (aI (tB (aZ (bN K) (ac (aa 1) (ac (tC (.ty "str")) ae))))
 (aA (cZ (aZ (bN K) (ac (aa 0) (ac (tC (.ty "str")) ae))) (aq fF (aa 0) (aa 1))))
 aO)
 (aA (cZ (aq ky (aa 1) (tC .non)) (aq ky (aa 0) (tC .non))))))))
theorem IB{K:Fg}{vs:List V}{N:List Str}(hN:N.length=3)(h:xH K vs H Q E):Fo K (ends Q) (L2.start N vs) H:=by
 obtain⟨v1,v2,x,rfl,qv,qw,k⟩:=h;obtain⟨a,rfl,ha⟩:=qv;obtain⟨b,rfl,hb⟩:=qw;rw[L2.aU hN];walk_at "t";unfold Fo;walk_at "";refine⟨b,_,_,_,rfl,hb,cb,?_⟩;walk_at "";refine⟨a,_,_,_,rfl,ha,cb,?_⟩;walk_at "";refine⟨b,_,_,_,rfl,hb,cb,?_⟩;walk_at "";refine cH (fun z=>absurd rfl z) (fun _=>?_);walk_at "";refine⟨a,_,_,_,rfl,ha,f9,?_⟩;walk_at "";refine⟨b,_,_,_,rfl,hb,f9,?_⟩;walk_at "";refine cH (fun z=>absurd rfl z) (fun _=>?_);walk_at "";refine jO ha ?_;walk_at "";refine jO hb ?_;walk_at "";refine cH (fun z=>absurd rfl z) (fun _=>?_);walk_at "";refine jO hb ?_;refine⟨2,rfl,by decide,by decide,?_⟩;refine a8 (n:=2) (fun m σ H2=>∃u2:Option V,σ=[some (.ref a),some (.ref b),u2]/\H2=H) ⟨none,rfl,rfl⟩ ?_ ?_
 ·rintro m σ H2 hm ⟨u2,rfl,rfl⟩;rw[PY]
  obtain⟨i,ei⟩:∃i:Int,([.int x.num,.int (x.den:Int)]:List V)[m]?=some (.int i):=by
   match m,hm with
   |0,_=>exact⟨_,rfl⟩
   |1,_=>exact⟨_,rfl⟩
  walk_at "";refine EM ha (v:=.int i) (aG ei) ?_;walk_at "";refine EM hb (v:=.int i) (aG ei) ?_;walk_at "";refine⟨.int i,.int i,.int i,.int i,rfl,.int _,.int _,rfl,fun _=>?_,fun z=>absurd rfl z⟩;walk_at "";exact⟨_,rfl,rfl⟩
 ·rintro σ H2 ⟨u2,rfl,rfl⟩;walk_at "";exact k
noncomputable def Bi (K:Fg):TS:=(am (aI (qO (tB (aZ (bN K) (ac (aa 1) (ac (tC (.ty "tuple")) ae)))) (tB (aZ (bN K) (ac (aa 1) (ac (tC (.ty "list")) ae)))))
 (am (aI (qO (aH (aq kP (aZ (bN K) (ac (aa 0) (ac (tC (.ty "tuple")) ae))) (aZ (bN K) (ac (aa 1) (ac (tC (.ty "tuple")) ae))))) (aH (aq kP (aZ (bN K) (ac (aa 0) (ac (tC (.ty "list")) ae))) (aZ (bN K) (ac (aa 1) (ac (tC (.ty "list")) ae))))))
 (aA (tC (.bl false)))
 aO)
 (am (aI (aH (aq kP (aZ (bM K) (ac (aa 0) ae)) (aZ (bM K) (ac (aa 1) ae))))
 (aA (tC (.bl false)))
 aO)
 (am (be (cC (ac (aZ (bM K) (ac (aa 1) ae)) ae)) (ak 2)
 (aI (fR (tB (ay (K87.xH K) [] E0 (ac (aq (Gh K) (aa 0) (aa 2)) (ac (aq (Gh K) (aa 1) (aa 2)) ae)))))
 (aA (tC (.bl false)))
 aO))
 (aA (tC (.bl true))))))
 aO)
 (am (aI (tB (aZ (bN K) (ac (aa 1) (ac (tC (.ty "bool")) ae))))
 (aA (cZ (aZ (bN K) (ac (aa 0) (ac (tC (.ty "bool")) ae))) (aq fF (aa 0) (aa 1))))
 aO)
 (am (aI (tB (aZ (bN K) (ac (aa 1) (ac (tC (.ty "int")) ae))))
 (aA (cZ (aZ (bN K) (ac (aa 0) (ac (tC (.ty "int")) ae))) (cZ (mn (aZ (bN K) (ac (aa 0) (ac (tC (.ty "bool")) ae)))) (aq fF (aa 0) (aa 1)))))
 aO)
 (am (aI (tB (aZ (bN K) (ac (aa 1) (ac (tC (.ty "str")) ae))))
 (aA (cZ (aZ (bN K) (ac (aa 0) (ac (tC (.ty "str")) ae))) (aq fF (aa 0) (aa 1))))
 aO)
 (aA (cZ (aq ky (aa 1) (tC .non)) (aq ky (aa 0) (tC .non))))))))
theorem IA{K:Fg}{vs:List V}{N:List Str}(hN:N.length=3)(h:rX K vs H Q E):Bi K (ends Q) (L2.start N vs) H:=by
 rcases h with⟨i,rfl,k⟩|⟨a,b,xs,ys,n,w,rfl,ha,hb,lx,ly,n1,qx,qy,k⟩
 ·rw[L2.aU hN];walk_at "t";unfold Bi;walk_at "";refine aY (.int i) gM ?_;walk_at "";refine aY (.int i) iA ?_;walk_at "";refine aY (.int i) cA ?_;walk_at "";refine aY (.int i) dO ?_;walk_at "";refine aY (.int i) dO ?_;walk_at "";refine aY (.int i) cA ?_;walk_at ""
  have:decide (i=i)=true:=decide_eq_true rfl
  first|(rw[this];exact k)|simpa using k
 rw[L2.aU hN];walk_at "t";unfold Bi;walk_at "";refine aY (.lst hb) df ?_;walk_at "";refine aY (.lst hb) cJ ?_;walk_at "";refine aY (.lst ha) df ?_;walk_at "";refine aY (.lst hb) df ?_;walk_at "";refine cH (fun z=>absurd rfl z) (fun _=>?_);walk_at "";refine aY (.lst ha) cJ ?_;walk_at "";refine aY (.lst hb) cJ ?_;walk_at "";refine cH (fun z=>absurd rfl z) (fun _=>?_);walk_at "";refine bH (SqL.of ha) ?_;walk_at "";refine bH (SqL.of hb) ?_;rw[lx,ly];walk_at "";refine cH (fun z=>absurd rfl z) (fun _=>?_);walk_at "";refine bH (SqL.of hb) ?_;rw[ly];refine⟨_,rfl,by lia,by lia,?_⟩;rw[OT];refine a8 (n:=n) (fun m σ H2=>∃u2:Option V,σ=[some (.ref a),some (.ref b),u2]/\H2=H) ⟨none,rfl,rfl⟩ ?_ ?_
 ·rintro m σ H2 hm ⟨u2,rfl,rfl⟩;rw[PY];obtain⟨x,ex⟩:∃x,xs[m]?=some x:=⟨_,NR (by lia)⟩
  obtain⟨y,ey⟩:∃y,ys[m]?=some y:=⟨_,NR (by lia)⟩
  walk_at "";refine EN (SqL.of ha) (v:=x) (aG ex) ?_;walk_at "";refine EN (SqL.of hb) (v:=y) (aG ey) ?_;walk_at "";refine⟨x,y,_,rfl,qx m x ex,qy m y ey,?_⟩;walk_at "";exact⟨_,rfl,rfl⟩
 ·rintro σ H2 ⟨u2,rfl,rfl⟩;walk_at "";exact k
theorem KP(vo:wx ws ts):ii ws.length ts/\0<(aC ts).length:=by
 have ho:=M6 vo;obtain⟨hs,po,h8,tk⟩:=vo.turns;have sub:∀x∈aC ts,x∈hs:=zL ts [] (fun t ht=>⟨(tk.ok t ht).1,(tk.ok t ht).2.1⟩) fun x h=>by cases h
 refine⟨⟨Nf vo,ho.h8,ho.l8,ho.wide,ho.bnd,fun r hr c hc=>((po.2 r (sub r hr)).2 c hc).1,fun t ht=>(tk.ok t ht).2.2.2⟩,?_⟩;cases ts with
 |nil=>exact absurd rfl tk.ne
 |cons t ts=>exact RE (dU (hs:=[]) (NX (a:=t) (l:=ts))).1
noncomputable def Ft(K:Fg):TS:=(am (be (bQ K (ay (mK K) [] E0 (ac (aa 1) ae))) (ak 7)
 (aI (fR (tB (ay (Pw.mL K) [] E0 (ac (aa 6) (ac (aa 7) ae)))))
 (aA (tC (.bl false)))
 aO))
 (am (aI (fR (tB (ay (K87.rX K) [] E0 (ac (aq (aE K) (aa 4) (tC (.int 1))) (ac (aa 6) ae)))))
 (aA (tC (.bl false)))
 aO)
 (am (bE (vQ K "list" uB (aq (aE K) (aa 4) (tC (.int 1)))))
 (aA (ay (K87.rX K) [] E0 (ac (aq (aE K) (ay (Pw.oK K) [] E0 (ac (aa 1) ae)) (tC (.int 1))) (ac (aa 6) ae)))))))
noncomputable def vO(K:Fg):TS:=(am (aI (fR (tB (aq (aE K) (aa 4) (tC (.int 0)))))
 (am (aI (qO (tB (aa 2)) (fR (tB (ay (Pw.xJ K) [] E0 (ac (aa 1) (ac (aa 6) (ac (aq (aE K) (aa 4) (tC (.int 1))) ae)))))))
 (aA (tC (.bl false)))
 aO)
 (am (av (aZ (eU K) (ac (aq (aE K) (aa 4) (tC (.int 1))) ae)) (ak 7))
 (am (bE (vQ K "list" uB (aq (aE K) (aa 4) (tC (.int 1)))))
 (aA (aq (IU K) (ay (Pw.oK K) [] E0 (ac (aa 1) ae)) (bJ (ac (tC (.bl false)) (ac (aa 7) ae))))))))
 aO)
 (Ft K))
noncomputable def Bj(K:Fg):TS:=(am (av (ay (mD K) [] E0 (ac (aa 1) ae)) (ak 6))
 (vO K))
noncomputable def vP(K:Fg):TS:=(am (aI (aH (aq vW (aZ (bM K) (ac (aa 5) ae)) (tC (.int 0))))
 (aA (cZ (mn (aa 2)) (cZ (mn (aq (aE K) (aa 4) (tC (.int 0)))) (ay (K87.rX K) [] E0 (ac (aq (aE K) (aa 4) (tC (.int 1))) (ac (aq (bX K) (aa 5) (tC (.int 0))) ae))))))
 aO)
 (Bj K))
noncomputable def Bk(K:Fg):TS:=(am (av (gE (cC (ac (aZ (bM K) (ac (aa 3) ae)) ae)) 1 (ak 0) (aH (aq (hE K true) (aq (aE K) (aq (bX K) (aa 4) (aa 0)) (tC (.int 0))) (ay (mF K) [] E0 (ac (aa 4) (ac (aq (aE K) (aq (bX K) (aa 4) (aa 0)) (tC (.int 1))) ae))))) (aa 0)) (ak 5))
 (vP K))
noncomputable def Fp (K:Fg):TS:=(am (aI (qO (fR (tB (aZ (bN K) (ac (aa 4) (ac (tC (.ty "tuple")) ae))))) (qO (aH (aq kP (aZ (bM K) (ac (aa 4) ae)) (tC (.int 2)))) (fR (tB (aZ (bN K) (ac (aq (aE K) (aa 4) (tC (.int 0))) (ac (tC (.ty "bool")) ae)))))))
 (aA (tC (.bl false)))
 aO)
 (Bk K))
noncomputable def Fs(K:Fg):TS:=(am (av (ay (fY K) [] E0 (ac (aa 1) ae)) (ak 3))
 (am (av (ay (Pw.oK K) [] E0 (ac (aa 1) ae)) (ak 4))
 (Fp K)))
noncomputable def Bl(K:Fg):TS:=(am (av (ay (ui K) [] E0 (ac (aa 0) (ac (tC (.int 1)) ae))) (ak 1))
 (am (av (aq fF (aq bi (ay (i7 K) [] E0 (ac (aa 0) (ac (tC (.int 0)) ae))) (tC (.int 3))) (tC (.int 1))) (ak 2))
 (am (aI (tB (aa 2))
 (av (ay (Pw.sr K) [] E0 (ac (aa 0) (ac (tC (.int 1)) ae))) (ak 1))
 aO)
 (Fs K))))
theorem Fy{K:Fg}(h:SqT K H a xs)(hl:H l=some (.lst ys)):SqT K (upd H l o) a xs:=by
 have ne:∀{u:HO},H a=some u->(∀zs,u≠.lst zs)->a≠l:=fun {u} e n z=>by rw[z,hl] at e;exact n _ (Oq e).symm
 rcases h with(h|⟨o',h⟩)|h
 ·exact .inl (.inl (by show upd H l o a=_;rw[aB (ne h fun _ z=>nomatch z)];exact h))
 ·exact .inl (.inr ⟨o',by show upd H l o a=_;rw[aB (ne h fun _ z=>nomatch z)];exact h⟩)
 ·exact .inr h
theorem IV{K:Fg}(h:QV K H v x)(hl:H l=some (.lst ys)):QV K (upd H l o) v x:=by
 obtain⟨a,e,q⟩:=h;exact⟨a,e,Fy q hl⟩
section
variable{K:Fg}{H:Hp}{Q:VK}{a p pe q g:Addr}{hb:Bool}{ws:List Str}{ts:List Tn}{u5 u6 u7:Option V}{xs zs:List V}
theorem HW(o:ii ws.length ts)(af:kh ts)(lz:zs.length=(aC ts).length)(qg:∀i x,zs[i]?=some x->QV K H x (Wt ts i)):WL K H zs (Wt ts):=by
 have bk:∀e∈al ts,Rch (al ts) e.2 e.1:=fun e he=>by obtain⟨j,hj⟩:=ON he;exact af j e.1 e.2 hj
 exact⟨qg,fun i hi=>vD o.pa bk (by lia),fun i hi=>AK o.pa o.co.le o.h8 (by lia)⟩
theorem IH(rv:Rz K H (.ref p) (dV ws ts))(o:ii ws.length ts)(af:kh ts)(one:∀m∈mks ts,One (wW ts) m)(hq:H q=some (.tup [.bl true,.ref f]))(hf:H f=some (.lst xs))(lx:xs.length=(aC ts).length)(qf:∀i x,xs[i]?=some x->QV K H x (Wt ts i))
  (hg:H g=some (.lst zs)) (lz:zs.length=(aC ts).length) (qg:∀i x,zs[i]?=some x->QV K H x (Wt ts i)) (fg:f≠g) (k:∀H',Q (.bl true) H'):Ft K (ends Q) [some (.ref a),some (.ref p),some (.bl hb),some (.ref pe),some (.ref q),u5,some (.ref g),u7] H:=by
 have h8:=o.h8;unfold Ft;walk_at "";refine⟨.ref p,ws,ts,ws.length,rfl,rv,o.co,h8,o.l8,o.wide,o.bnd,fun pl H3 S3 r3=>?_⟩;obtain⟨_,ys,e,_,Y_,ry⟩:=r3.iu;cases e;walk_at "";refine⟨pl,rfl,⟨ys,SqL.of Y_⟩,?_⟩;refine bj (xs:=ys) (fun j σ H4=>∃u7:Option V,σ=[some (.ref a),some (.ref p),some (.bl hb),some (.ref pe),some (.ref q),u5,some (.ref g),u7]/\Same H3 H4) ⟨u7,rfl,Same.refl _⟩ (fun i σ H4 _ ⟨_,_,S4⟩=>SqL.of (S4 _ _ Y_)) ?_ ?_
 ·rintro j y σ H4 hy ⟨u7,rfl,S4⟩;obtain⟨dd,g1,g2⟩:=ry.get hy;rw[NW] at g1;obtain⟨m,hm,rfl⟩:=N8.mp g1;have mem:m∈mks ts:=N2 hm;obtain⟨r,zs',rfl,_,hr,rz⟩:=g2.iu;rw[RpL.ints_of rz] at hr;obtain⟨lm,_,bm⟩:=fG o mem;have S04:=S3.trans S4;have lwl:wl (Wt ts) m.length=wW ts:=by rw[lm];rfl
  walk_at "";refine⟨g,r,zs,m,Wt ts,rfl,S04 _ _ hg,S4 _ _ hr,by lia,by lia,(HW o af lz qg).same S04,bm,fun _ H5 S5=>?_,fun z=>absurd (by rw[lwl];exact one m mem) z⟩;walk_at "";exact⟨_,rfl,S4.trans S5⟩
 ·rintro σ H4 ⟨u7,rfl,S4⟩;have S04:=S3.trans S4;have hq4:=S04 _ _ hq;have Z2:=S04 _ _ hf;walk_at "";refine aF (SqT.of hq4) (v:=.ref f) rfl ?_;walk_at "";refine .inr ⟨f,g,xs,zs,(aC ts).length,Wt ts,rfl,Z2,S04 _ _ hg,lx,lz,by lia,fun i x h=>(qf i x h).same S04,fun i x h=>(qg i x h).same S04,?_⟩;walk_at "";refine aF (SqT.of hq4) (v:=.ref f) rfl ?_;walk_at "";refine⟨qd Z2,zB Z2 ?_⟩;have rv5:Rz K (upd H4 f (.lst [])) (.ref p) (dV ws ts):=Rz.upd (rv.same S04) Z2;have hg5:upd H4 f (.lst []) g=some (.lst zs):=by rw[aB (fun z=>fg z.symm)];exact S04 _ _ hg
  have qg5:∀i x,zs[i]?=some x->QV K (upd H4 f (.lst [])) x (Wt ts i):=fun i x h=>IV ((qg i x h).same S04) Z2
  generalize upd H4 f (.lst [])=H5 at rv5 hg5 qg5 ⊢;walk_at "";refine⟨.ref p,ws,ts,ws.length,rfl,rv5,o,fun i x y _ _ he _ nr _ _ _=>absurd (af i x y he) nr,fun j m _ _ _ _ hm _ no _ _ _ _ _=>absurd (one m (N2 hm)) no,fun p' f' xs' H6 _ _ S6 _ _ ZM hf' lx' qf'=>?_⟩;walk_at "";refine aF (SqT.of ZM) (v:=.ref f') rfl ?_;walk_at "";refine .inr ⟨f',g,xs',zs,(aC ts).length,Wt ts,rfl,hf',S6 _ _ hg5,lx',lz,by lia,qf',fun i x h=>(qg5 i x h).same S6,?_⟩;exact k _
theorem L6(rv:Rz K H (.ref p) (dV ws ts))(o:ii ws.length ts)(af:kh ts)(one:∀m∈mks ts,One (wW ts) m)(hq:H q=some (.tup [.bl true,.ref f]))(hf:H f=some (.lst xs))(lx:xs.length=(aC ts).length)(qf:∀i x,xs[i]?=some x->QV K H x (Wt ts i))
  (hg:H g=some (.lst zs)) (lz:zs.length=(aC ts).length) (qg:∀i x,zs[i]?=some x->QV K H x (Wt ts i)) (fg:f≠g) (k:∀H',Q (.bl true) H'):vO K (ends Q) [some (.ref a),some (.ref p),some (.bl hb),some (.ref pe),some (.ref q),u5,some (.ref g),u7] H:=by
 unfold vO;walk_at "";refine aF (SqT.of hq) (v:=.bl true) rfl ?_;walk_at "";exact IH rv o af one hq hf lx qf hg lz qg fg k
theorem IC{m:List Int}{j:Nat}(rv:Rz K H (.ref p) (dV ws ts))(o:ii ws.length ts)(n0:0<(aC ts).length)(af:kh ts)(hm:(mks ts)[j]?=some m)(fst:∀i<j,∀m',(mks ts)[i]?=some m'->One (wW ts) m')(no : ¬ One (wW ts) m)
  (hq:H q=some (.tup [.bl false,.ref r])) (hr:H r=some (.lst (m.map V.int))) (hg:H g=some (.lst zs)) (lz:zs.length=(aC ts).length) (qg:∀i x,zs[i]?=some x->QV K H x (Wt ts i)) (k:∀H',Q (.bl true) H') :
  vO K (ends Q) [some (.ref a),some (.ref p),some (.bl false),some (.ref pe),some (.ref q),u5,some (.ref g),u7] H:=by
 have mem:=N2 hm;unfold vO;walk_at "";refine aF (SqT.of hq) (v:=.bl false) rfl ?_;walk_at "";refine aF (SqT.of hq) (v:=.ref r) rfl ?_;walk_at "";refine⟨.ref p,ws,ts,ws.length,g,r,zs,m,rfl,rv,o,rfl,n0,mem,no,hg,lz,HW o af lz qg,hr,fun H2 S2=>?_⟩;have hq2:=S2 _ _ hq;have hr2:=S2 _ _ hr;walk_at "";refine aF (SqT.of hq2) (v:=.ref r) rfl ?_;walk_at "";refine nL (SqL.of hr2) fun t nt=>?_
 have S3:=aj nt (.lst (m.map V.int));have ht:upd H2 t (.lst (m.map V.int)) t=some (.lst (m.map V.int)):=ag;have rt:r≠t:=fun z=>by rw[z,nt] at hr2;cases hr2
 have hq3:=S3 _ _ hq2;have hr3:=S3 _ _ hr2;have rv3:=(rv.same S2).same S3;generalize upd H2 t (.lst (m.map V.int))=H3 at S3 ht hq3 hr3 rv3 ⊢;walk_at "";refine aF (SqT.of hq3) (v:=.ref r) rfl ?_;walk_at "";refine⟨qd hr3,zB hr3 ?_⟩;have rv4:Rz K (upd H3 r (.lst [])) (.ref p) (dV ws ts):=Rz.upd rv3 hr3;have ht4:upd H3 r (.lst []) t=some (.lst (m.map V.int)):=by rw[aB (fun z=>rt z.symm)];exact ht
 generalize upd H3 r (.lst [])=H4 at rv4 ht4 ⊢;walk_at "";refine⟨.ref p,ws,ts,ws.length,rfl,rv4,o,fun i x y _ _ he _ nr _ _ _=>absurd (af i x y he) nr,fun j' m' p' r' H5 _ ZK fst' no' S5 _ _ ZM hr'=>?_,fun _ _ _ _ _ one _ _ _ _ _ _ _=>absurd (one m mem) no⟩
 have jj:j'=j:=by
  rcases W3 j' j with z|z|z
  ·exact absurd (fst j' z m' ZK) no'
  ·exact z
  ·exact absurd (fst' j z m hm) no
 rw[jj,hm] at ZK;cases ZK;walk_at "";refine⟨aQ,fun X nX=>?_⟩;have S6:=aj nX (.tup [.bl false,.ref t]);have z6:Rp K (fun _=>True) (upd H5 X (.tup [.bl false,.ref t])) (.ref X) (Br.tK (false,m)):=.tup ag (.cons (.bl false) (.cons (.lst trivial (S6 _ _ (S5 _ _ ht4)) (RpL.ints m)) .nil));have z5:Rp K (fun _=>True) (upd H5 X (.tup [.bl false,.ref t])) (.ref p') (Br.tK (false,m)):=.tup (S6 _ _ ZM) (.cons (.bl false) (.cons (.lst trivial (S6 _ _ hr') (RpL.ints m)) .nil));exact⟨_,z5.rep,z6.rep,(Br.yR (false,m)).1,(Br.yR (false,m)).2,k _⟩
theorem ID(rv:Rz K H (.ref p) (dV ws ts))(o:ii ws.length ts)(k:∀(g:Addr) (zs:List V) (H':Hp),Same H H'->H g=none->H' g=some (.lst zs)->zs.length=(aC ts).length->(∀i x,zs[i]?=some x->QV K H' x (Wt ts i))->vO K (ends Q) [some (.ref a),some (.ref p),some (.bl hb),some (.ref pe),some (.ref q),u5,some (.ref g),u7] H') :
  Bj K (ends Q) [some (.ref a),some (.ref p),some (.bl hb),some (.ref pe),some (.ref q),u5,u6,u7] H:=by
 unfold Bj;walk_at "";refine⟨.ref p,ws,ts,rfl,rv,o.co.le,o.h8,o.pa,fun g H2 zs ng S2 hg lz qg=>?_⟩;walk_at "";exact k g zs H2 S2 ng hg lz qg
theorem IF{D:Addr}(hD:H D=some (.lst []))(k:Bj K (ends Q) [some (.ref a),some (.ref p),some (.bl hb),some (.ref pe),some (.ref q),some (.ref D),u6,u7] H):vP K (ends Q) [some (.ref a),some (.ref p),some (.bl hb),some (.ref pe),some (.ref q),some (.ref D),u6,u7] H:=by
 unfold vP;walk_at "";refine bH (SqL.of hD) ?_;walk_at "";exact k
theorem IE{D:Addr}{i:Nat}{L:List Nat}(hD:H D=some (.lst (zv (i :: L))))(hq:H q=some (.tup [.bl false,.int (i:Int)]))(k:∀H',Q (.bl true) H'):vP K (ends Q) [some (.ref a),some (.ref p),some (.bl false),some (.ref pe),some (.ref q),some (.ref D),u6,u7] H:=by
 unfold vP;walk_at "";refine bH (SqL.of hD) ?_;walk_at "";refine a6 (fun _=>?_) (fun z=>absurd (by show(0:Int)<((zv (i :: L)).length:Int);unfold zv;rw[NQ,Oz];lia) z);walk_at "";refine aF (SqT.of hq) (v:=.bl false) rfl ?_;walk_at "";refine aF (SqT.of hq) (v:=.int (i:Int)) rfl ?_;walk_at "";refine cj (SqL.of hD) (v:=.int (i:Int)) (aG (j:=0) rfl) ?_;walk_at "";refine .inl ⟨_,rfl,?_⟩;walk_at "";exact k _
end
open Classical in
noncomputable def wD (ts:List Tn) (i:Nat):List Nat:=(Oa i).filter fun k=>decide (¬ Rch (al ts) (aV (al ts) k) (bb (al ts) k))
open Classical in
theorem fN(ts:List Tn)(i:Nat):(Rch (al ts) (aV (al ts) i) (bb (al ts) i)->wD ts (i+1)=wD ts i)/\(¬ Rch (al ts) (aV (al ts) i) (bb (al ts) i)->wD ts (i+1)=wD ts i++[i]):=by
 unfold wD;rw[Ps,PV];refine⟨fun h=>?_,fun h=>?_⟩
 ·rw[Pc (by rw[decide_eq_true_eq];exact fun z=>z h)];simp
 ·rw[Pl (by rw[decide_eq_true_eq];exact h)];simp
section
variable{K:Fg}{H:Hp}{Q:VK}{a p pe q:Addr}{hb:Bool}{ws:List Str}{ts:List Tn}{u5 u6 u7:Option V}{ex:List V}
theorem FV(t8:ts.length<=8)(YY:H pe=some (.lst ex))(rx:RzL K H ex ((al ts).map dP))(k:∀(D:Addr) (H':Hp),AccZ K H D H' (zi (wD ts (al ts).length))->vP K (ends Q) [some (.ref a),some (.ref p),some (.bl hb),some (.ref pe),some (.ref q),some (.ref D),u6,u7] H') :
  Bk K (ends Q) [some (.ref a),some (.ref p),some (.bl hb),some (.ref pe),some (.ref q),u5,u6,u7] H:=by
 have le:(al ts).length=ts.length:=by unfold al;rw[NQ]
 have lE:ex.length=(al ts).length:=by rw[rx.length,NQ]
 unfold Bk;walk_at "";refine bH (SqL.of YY) ?_;rw[lE];refine⟨_,rfl,by lia,by lia,?_⟩;rw[OT];refine tN (n:=(al ts).length) fun D nD=>⟨fun j H2=>AccZ K H D H2 (zi (wD ts j)),AccZ.start (Same.refl _) nD,?_,?_⟩
 ·intro j H2 hj A us hu;obtain⟨u0,rfl⟩:∃u,us=[u]:=PL.mp hu;rw[PY];obtain⟨y,hy⟩:∃y,ex[j]?=some y:=⟨_,NR (by lia)⟩
  obtain⟨dd,g1,g2⟩:=(rx.same A.same).get hy;rw[NW] at g1;obtain⟨e,he,rfl⟩:=N8.mp g1;obtain⟨b,rfl,Zu⟩:=qp g2;have ef:bb (al ts) j=e.1:=by unfold bb;rw[NS,he];rfl
  have et:aV (al ts) j=e.2:=by unfold aV;rw[NS,he];rfl
  have la:(wD ts j).length<=j:=Oi (O6 _ _) (by rw[On];exact N4 _);have Zl:=A.same _ _ YY;walk_at "";refine⟨⟨[some (.int (j:Int))],rfl,rfl⟩,?_⟩;walk_at "";refine cj (SqL.of Zl) (v:=.ref b) (aG (j:=j) hy) ?_;walk_at "";refine aF (SqT.of Zu) (v:=.int (e.1:Int)) rfl ?_;walk_at "";refine cj (SqL.of Zl) (v:=.ref b) (aG (j:=j) hy) ?_;walk_at "";refine aF (SqT.of Zu) (v:=.int (e.2:Int)) rfl ?_;walk_at "";refine⟨pe,ex,al ts,e.2,rfl,Zl,rx.same A.same,by lia,fun q' H3 ns A3 nd mm=>?_⟩;have AD:=A.on A3.same
  have mi:O4 (e.1:Int)∈ns.map dN↔Rch (al ts) (aV (al ts) j) (bb (al ts) j):=by
   rw[ef,et,<- mm];constructor
   ·intro h;obtain⟨x,hx,ee⟩:=N9.mp h
    have:x=e.1:=by have:=VY ee;lia
    rw[<- this];exact hx
   ·exact fun h=>N9.mpr ⟨_,h,rfl⟩
  walk_at "";refine fI (Rp.rep (S:=fun _=>True) (.int (e.1:Int))) A3.rep (fun d hd=>by obtain⟨x,_,rfl⟩:=N9.mp hd;rfl) rfl (fun nm=>?_) (fun m=>?_)
  ·walk_at "";refine aR hj ?_;refine AD.ci (.int (j:Int)) (ar (by unfold zi;rw[NQ];lia)) fun H4 A4=>?_
   show AccZ K H D H4 (zi (wD ts (j+1)));rw[(fN ts j).2 fun z=>nm (mi.mpr z)];unfold zi at A4 ⊢;rw[N1];exact A4
  ·walk_at "";refine fE hj ?_;show AccZ K H D H3 (zi (wD ts (j+1)));rw[(fN ts j).1 (mi.mp m)];exact AD
 ·intro H2 A2;walk_at "";exact k D H2 A2
theorem FW{v:V}(hq:H q=some (.tup [.bl b,v]))(k:Bk K (ends Q) [some (.ref a),some (.ref p),some (.bl hb),some (.ref pe),some (.ref q),u5,u6,u7] H):Fp K (ends Q) [some (.ref a),some (.ref p),some (.bl hb),some (.ref pe),some (.ref q),u5,u6,u7] H:=by
 unfold Fp;walk_at "";refine aY (.tup hq) cb ?_;walk_at "";refine jO (SqT.of hq) ?_;walk_at "";refine cH (fun z=>absurd rfl z) (fun _=>?_);walk_at "";refine aF (SqT.of hq) (v:=.bl b) rfl ?_;walk_at "";refine aY (.bl b) cK ?_;walk_at "";exact k
end
theorem Hn{i:Nat}(hi:i<(al ts).length)(h:As.Fine (al ts) i):Rch (al ts) (aV (al ts) i) (bb (al ts) i):=by
 have e:(al ts)[i]?=some (bb (al ts) i,aV (al ts) i):=by
  unfold bb aV;rw[NS,NR hi];rfl
 exact h _ _ e
theorem oj{ts:List Tn}:∀n,n<=(al ts).length->(∀j<n,As.Fine (al ts) j)->wD ts n=[]
 |0,_,_=>rfl
 |n+1,h,f=>by rw[(fN ts n).1 (Hn (by lia) (f n (by lia)))];exact oj n (by lia) fun j hj=>f j (by lia)
theorem qH{ts:List Tn}{i:Nat}(fi:∀j<i,As.Fine (al ts) j)(hi:i<(al ts).length)(nr : ¬ Rch (al ts) (aV (al ts) i) (bb (al ts) i)):∀d,∃L,wD ts (i+1+d)=i :: L
 |0=>⟨[],by rw[Xa,(fN ts i).2 nr,oj i (by lia) fi];rfl⟩
 |d+1=>by
  obtain⟨L,e⟩:=qH fi hi nr d;by_cases c:Rch (al ts) (aV (al ts) (i+1+d)) (bb (al ts) (i+1+d))
  ·exact⟨L,by rw[<- SC,(fN ts _).1 c,e]⟩
  ·exact⟨L++[i+1+d],by rw[<- SC,(fN ts _).2 c,e];rfl⟩
theorem IG{K:Fg}{Q:VK}{hb:Bool}(vo:wx ws ts)(rv:Rz K H (.ref p) (dV ws ts))(he:hb=true->kh ts/\∀m∈mks ts,One (wW ts) m)(k:∀H',Q (.bl true) H') :
  Fs K (ends Q) [some (.ref a),some (.ref p),some (.bl hb),none,none,none,none,none] H:=by
 obtain⟨o,n0⟩:=KP vo;have t8:=o.co.le;have le:(al ts).length=ts.length:=by unfold al;rw[NQ]
 unfold Fs;walk_at "";refine⟨.ref p,ws,ts,rfl,rv,by lia,fun pe H2 A2=>?_⟩;obtain⟨ex,YY,rx⟩:=A2.at_;have rv2:=rv.same A2.same;walk_at "";refine⟨.ref p,ws,ts,ws.length,rfl,rv2,o,fun i x y q H3 ge fi nr S3 nq hq=>?_,fun j m q r H3 af hm fst no S3 nq nr hq hr=>?_,fun q f xs H3 af one S3 nq nf hq hf lx qf=>?_⟩
 ·have hf:hb=false:=by
   cases hb with
   |false=>rfl
   |true=>exact absurd ((he rfl).1 i x y ge) nr
  subst hf;have li:=(NT.mp ge).1;walk_at "";refine FW hq (FV t8 (S3 _ _ YY) (rx.same S3) fun D H4 A4=>?_);have ef:bb (al ts) i=x:=by unfold bb;rw[NS,ge];rfl
  have et:aV (al ts) i=y:=by unfold aV;rw[NS,ge];rfl
  obtain⟨L,e⟩:=qH fi li (by rw[ef,et];exact nr) ((al ts).length-(i+1));rw[show i+1+((al ts).length-(i+1))=(al ts).length by lia] at e;rw[e] at A4;exact IE (gC A4) (A4.same _ _ hq) k
 ·have hf:hb=false:=by
   cases hb with
   |false=>rfl
   |true=>exact absurd ((he rfl).2 m (N2 hm)) no
  subst hf;walk_at "";refine FW hq (FV t8 (S3 _ _ YY) (rx.same S3) fun D H4 A4=>?_);rw[oj _ (N4 _) fun j _=>af j] at A4;refine IF (gC A4) (ID ((rv2.same S3).same A4.same) o fun g zs H5 S5 ng hg lz qg=>?_);have ZX:=A4.same.trans S5;exact IC ((rv2.same S3).same ZX) o n0 af hm fst no (ZX _ _ hq) (ZX _ _ hr) hg lz qg k
 ·walk_at "";refine FW hq (FV t8 (S3 _ _ YY) (rx.same S3) fun D H4 A4=>?_);rw[oj _ (N4 _) fun j _=>af j] at A4;refine IF (gC A4) (ID ((rv2.same S3).same A4.same) o fun g zs H5 S5 ng hg lz qg=>?_);have ZX:=A4.same.trans S5;have Z2:=A4.same _ _ hf;exact L6 ((rv2.same S3).same ZX) o af one (ZX _ _ hq) (ZX _ _ hf) lx (fun i x h=>(qf i x h).same ZX) hg lz qg (fun z=>by rw[z,ng] at Z2;cases Z2) k
theorem Cz(h:Bc w u ts):∀t∈ts,∃s∈ts,s.fr=t.to/\s.to=t.fr:=by
 induction h with
 |nil=>intro t h;cases h
 |cons x y R e1 e2 _ _ ih =>
  intro t ht;rcases N_.mp ht with z|z
  ·obtain⟨s,hs,q⟩:=ih t z;exact⟨s,Oe _ hs,q⟩
  ·rcases Od.mp z with z|z
   ·rw[z];exact⟨y,by simp,e1,e2⟩
   ·rw[N7.mp z];exact⟨x,by simp,e2.symm,e1.symm⟩
theorem yq(h:Bc w u ts):kh ts:=by
 intro j x y e;unfold al at e;rw[NW] at e;obtain⟨t,ht,e⟩:=N8.mp e;cases e;obtain⟨s,hs,e1,e2⟩:=Cz h t (N2 ht);refine .step .refl ?_;unfold al;refine N9.mpr ⟨s,hs,?_⟩;rw[e1,e2]
theorem IJ{K:Fg} {vs:List V}    (h:spLaw K vs H Q E):Bl K (ends Q) (L2.start ["_law_script","_law_vessel_here","_law_held","_law_ends_here","_law_found","_law_astray","_law_weights","_law_row"] vs) H:=by
 obtain⟨a,ns,rfl,hS,hl,k⟩:=h;show Bl K (ends Q) [some (.ref a),none,none,none,none,none,none,none] H;unfold Bl;walk_at "";refine⟨a,ns,1,rfl,hS,by decide,fun p H1 ws ts S1 vo rv=>?_⟩;walk_at "";refine⟨a,ns,0,rfl,S1.seq hS,by decide,?_⟩;walk_at "";refine a6 (fun c=>?_) (fun c=>?_)
 ·walk_at "";refine⟨a,ns,1,rfl,S1.seq hS,by decide,fun p' H2 ws' ts' u S2 vo' pr' up rv'=>?_⟩;walk_at "";have o:=(KP vo').1;rw[decide_eq_true c];exact IG vo' rv' (fun _=>⟨yq pr',DF o (yq pr') up pr'⟩) k
 ·walk_at "";rw[decide_eq_false c];exact IG vo rv (fun z=>nomatch z) k
theorem BB:aw ["value"] ["value"] (ao (top 5)):=by walk_at "s"
theorem gc:aw ["one","two","rest"] ["one","two"] (ao (top 6)):=by walk_at "s"
theorem sH:aw ["top","bottom","divisor"] ["top","bottom"] (ao (top 7)):=by walk_at "s"
theorem FJ:aw ["one","two"] ["one","two"] (ao (top 8)):=by walk_at "s"
theorem BC:aw ["one","two"] ["one","two"] (ao (top 9)):=by walk_at "s"
theorem kx:aw ["row","place","number"] ["row"] (ao (top 11)):=by walk_at "s"
theorem sB:aw ["size","own"] ["size","own"] (ao (top 12)):=by walk_at "s"
theorem oO:aw ["size"] ["size"] (ao (top 13)):=by walk_at "s"
theorem g7:aw ["row","divisor","number"] ["row"] (ao (top 14)):=by walk_at "s"
theorem xY:aw ["row","place","divisor"] ["row"] (ao (top 15)):=by walk_at "s"
theorem vU:aw ["row","stairs","stair","place"] ["row","stairs"] (ao (top 16)):=by walk_at "s"
theorem xX:aw ["rows","stairs","free","makers","units","place","row","rest"] ["rows"] (ao (top 17)):=by walk_at "s"
theorem iG:aw ["rows"] ["rows"] (ao (top 18)):=by walk_at "s"
theorem sG:aw ["turnings","found","turning"] ["turnings"] (ao (top 21)):=by walk_at "s"
theorem BF:aw ["vessel"] ["vessel"] (ao (top 22)):=by walk_at "s"
theorem jf:aw ["vessel","numbers","number","heap"] ["vessel"] (ao (top 24)):=by walk_at "s"
theorem oQ:aw ["things","thing"] ["things","thing"] (ao (top 25)):=by walk_at "s"
theorem FK:aw ["vessel","firsts","one","two","lesser","greater"] ["vessel"] (ao (top 26)):=by walk_at "s"
theorem mT:aw ["vessel","number"] ["vessel","number"] (ao (top 27)):=by walk_at "s"
theorem FH:aw ["vessel","one","two","ends","roads","come_to","place","here","number","end"] ["vessel","one","two"] (ao (top 28)):=by walk_at "s"
theorem jg:aw ["vessel","number","end"] ["vessel"] (ao (top 29)):=by walk_at "s"
theorem oR:aw ["number","told_lots"] ["number","told_lots"] (ao (top 31)):=by walk_at "s"
theorem o5:aw ["vessel","told_lots"] ["vessel"] (ao (top 32)):=by walk_at "s"
theorem oP:aw ["number","divisor","often"] ["number","divisor"] (ao (top 34)):=by walk_at "s"
theorem BD:aw ["one","two","divisor","first","second"] ["one","two"] (ao (top 35)):=by walk_at "s"
theorem eT:aw ["powers","number","place","power"] ["powers","number"] (ao (top 36)):=by walk_at "s"
theorem BG:aw ["powers","told","left","power","place"] ["powers"] (ao (top 37)):=by walk_at "s"
theorem iF:aw ["ends","heap"] ["ends","heap"] (ao (top 40)):=by walk_at "s"
theorem BE:aw ["ends","some","told","heap","longer","pick"] ["ends","some"] (ao (top 41)):=by walk_at "s"
theorem vT:aw ["ends","pick","heap","steps","number","start","here","step"] ["ends","pick","heap"] (ao (top 42)):=by walk_at "s"
theorem je:aw ["turnings","pick","product","number"] ["turnings","pick"] (ao (top 43)):=by walk_at "s"
theorem kr:aw ["turnings","ends","lot","heap","weight","pick"] ["turnings","ends","lot","heap"] (ao (top 44)):=by walk_at "s"
theorem jd:aw ["vessel","ends","weights","lot","heap"] ["vessel"] (ao (top 45)):=by walk_at "s"
theorem iE:aw ["weights","row","powers","weight","often"] ["weights","row"] (ao (top 47)):=by walk_at "s"
theorem FL:aw ["vessel","astray","weights","row"] ["vessel"] (ao (top 48)):=by walk_at "s"
theorem kw:aw ["_law_script","_law_k"] ["_law_script","_law_k"] (ao (top 50)):=by walk_at "s"
theorem oZ:aw ["_law_cell","_law_place","_law_number"] ["_law_cell","_law_place"] (ao (top 51)):=by walk_at "s"
theorem ku:aw ["_law_one","_law_two"] ["_law_one","_law_two"] (ao (top 52)):=by walk_at "s"
theorem mR:aw ["_law_top","_law_bottom","_law_by"] ["_law_top","_law_bottom"] (ao (top 53)):=by walk_at "s"
theorem oS:aw ["_law_number","_law_many","_law_letters","_law_found","_law_k","_law_first"] ["_law_number","_law_many"] (ao (top 54)):=by walk_at "s"
theorem sE:aw ["_law_cell","_law_k","_law_many","_law_top","_law_plain","_law_number","_law_found","_law_j"] ["_law_cell","_law_k","_law_many","_law_top","_law_plain"] (ao (top 55)):=by walk_at "s"
theorem sC:aw ["_law_script","_law_at","_law_many","_law_size","_law_top","_law_plain","_law_found","_law_k","_law_heap_here"] ["_law_script","_law_at","_law_many","_law_size","_law_top","_law_plain"] (ao (top 56)):=by walk_at "s"
theorem oX:aw ["_law_script","_law_at","_law_size","_law_kind","_law_plain","_law_found","_law_k","_law_after","_law_cell","_law_one","_law_step","_law_chosen","_law_two"] ["_law_script","_law_at","_law_size","_law_kind","_law_plain"] (ao (top 57)):=by walk_at "s"
theorem sD:aw ["_law_cell","_law_kind"] ["_law_cell","_law_kind"] (ao (top 58)):=by walk_at "s"
theorem mQ:aw ["_law_script","_law_at","_law_number","_law_many","_law_top","_law_plain","_law_pool_here","_law_pairs_here","_law_rows","_law_k","_law_cell","_law_one","_law_two"] ["_law_script","_law_at"] (ao (top 59)):=by walk_at "s"
theorem oT:aw ["_law_found"] ["_law_found"] (ao (top 60)):=by walk_at "s"
theorem o4:aw ["_law_vessel_here","_law_found","_law_take","_law_give","_law_pace_here","_law_heap_here"] ["_law_vessel_here"] (ao (top 61)):=by walk_at "s"
theorem sF:aw ["_law_vessel_here","_law_told"] ["_law_vessel_here"] (ao (top 62)):=by walk_at "s"
theorem oV:aw ["_law_ends_here","_law_one","_law_seen","_law_k","_law_here","_law_there"] ["_law_ends_here","_law_one"] (ao (top 63)):=by walk_at "s"
theorem oU:aw ["_law_one","_law_two"] ["_law_one","_law_two"] (ao (top 65)):=by walk_at "s"
theorem oW:aw ["_law_numbers","_law_found","_law_waiting","_law_one","_law_shared","_law_by"] ["_law_numbers"] (ao (top 66)):=by walk_at "s"
theorem oY:aw ["_law_part","_law_number","_law_many"] ["_law_part","_law_number"] (ao (top 67)):=by walk_at "s"
theorem mS:aw ["_law_weights","_law_row","_law_part","_law_many","_law_here","_law_there","_law_number"] ["_law_weights","_law_row"] (ao (top 68)):=by walk_at "s"
theorem gF:aw ["_law_script","_law_at","_law_vessel_here","_law_number","_law_many","_law_weights","_law_k","_law_rows","_law_take","_law_give","_law_pace_here","_law_back","_law_stuff"] ["_law_script","_law_at"] (ao (top 69)):=by walk_at "s"
theorem ck:aw ["_law_found","_law_due","_law_k"] ["_law_found","_law_due"] (ao (top 70)):=by walk_at "s"
theorem iH:aw ["_law_vessel_here","_law_weights","_law_row","_law_told","_law_ends_here","_law_both","_law_k","_law_stuff"] ["_law_vessel_here","_law_weights","_law_row"] (ao (top 71)):=by walk_at "s"
theorem Ei:aw ["_law_script","_law_vessel_here","_law_held","_law_ends_here","_law_found","_law_astray","_law_weights","_law_row"] ["_law_script"] (ao (top 72)):=by walk_at "s"
section
variable{P:Oo}{w:OD}{K:Fg}{mg:Str->Option NY}{base:Heap}
seal PE PS PSs PA PT
local macro_rules | `(tactic| walk_at "l")=>`(tactic| (intro h;repeat (first|(obtain⟨e,_⟩:=h;cases e;exact rfl)|obtain⟨_,h⟩:=h)))
noncomputable abbrev tZ (P:Oo) (w:OD) (K:Fg) (mg:Str->Option NY) (base:Heap) (k:Nat):=FnC P w K mg base bK k "whole" ["value"] g6
noncomputable abbrev bn (P:Oo) (w:OD) (K:Fg) (mg:Str->Option NY) (base:Heap) (k:Nat):=FnC P w K mg base bK k "greatest_divisor" ["one","two"] ko
noncomputable abbrev im (P:Oo) (w:OD) (K:Fg) (mg:Str->Option NY) (base:Heap) (k:Nat):=FnC P w K mg base bK k "fraction" ["top","bottom"] (mM K)
noncomputable abbrev E_ (P:Oo) (w:OD) (K:Fg) (mg:Str->Option NY) (base:Heap) (k:Nat):=FnC P w K mg base bK k "plus" ["one","two"] (r9 K)
noncomputable abbrev AX (P:Oo) (w:OD) (K:Fg) (mg:Str->Option NY) (base:Heap) (k:Nat):=FnC P w K mg base bK k "times" ["one","two"] (mE K)
noncomputable abbrev cN (P:Oo) (w:OD) (K:Fg) (mg:Str->Option NY) (base:Heap) (k:Nat):=FnC P w K mg base bK k "first_place" ["row"] (i6 K)
noncomputable abbrev lK (P:Oo) (w:OD) (K:Fg) (mg:Str->Option NY) (base:Heap) (k:Nat):=FnC P w K mg base bK k "unit_row" ["size","own"] (rS K)
noncomputable abbrev j4 (P:Oo) (w:OD) (K:Fg) (mg:Str->Option NY) (base:Heap) (k:Nat):=FnC P w K mg base bK k "unit_rows" ["size"] (rQ K)
noncomputable abbrev eG (P:Oo) (w:OD) (K:Fg) (mg:Str->Option NY) (base:Heap) (k:Nat):=FnC P w K mg base bK k "common_divisor" ["row"] (FA K)
noncomputable abbrev oB (P:Oo) (w:OD) (K:Fg) (mg:Str->Option NY) (base:Heap) (k:Nat):=FnC P w K mg base bK k "lowest" ["row"] (uj K)
noncomputable abbrev qM (P:Oo) (w:OD) (K:Fg) (mg:Str->Option NY) (base:Heap) (k:Nat):=FnC P w K mg base bK k "cleared" ["row","stairs"] (FB K)
noncomputable abbrev vJ (P:Oo) (w:OD) (K:Fg) (mg:Str->Option NY) (base:Heap) (k:Nat):=FnC P w K mg base bK k "sifted" ["rows"] (xI K)
noncomputable abbrev ff (P:Oo) (w:OD) (K:Fg) (mg:Str->Option NY) (base:Heap) (k:Nat):=FnC P w K mg base bK k "nought_makers" ["rows"] (mJ K)
noncomputable abbrev lP (P:Oo) (w:OD) (K:Fg) (mg:Str->Option NY) (base:Heap) (k:Nat):=FnC P w K mg base bK k "heaps_of" ["turnings"] (i5 K)
noncomputable abbrev kg (P:Oo) (w:OD) (K:Fg) (mg:Str->Option NY) (base:Heap) (k:Nat):=FnC P w K mg base bK k "heaps" ["vessel"] (c7 K)
noncomputable abbrev bV (P:Oo) (w:OD) (K:Fg) (mg:Str->Option NY) (base:Heap) (k:Nat):=FnC P w K mg base bK k "heap_numbers" ["vessel"] (fY K)
noncomputable abbrev j6 (P:Oo) (w:OD) (K:Fg) (mg:Str->Option NY) (base:Heap) (k:Nat):=FnC P w K mg base bK k "places_of" ["things","thing"] (mG K)
noncomputable abbrev A_ (P:Oo) (w:OD) (K:Fg) (mg:Str->Option NY) (base:Heap) (k:Nat):=FnC P w K mg base bK k "lots" ["vessel"] (uk K)
noncomputable abbrev iB (P:Oo) (w:OD) (K:Fg) (mg:Str->Option NY) (base:Heap) (k:Nat):=FnC P w K mg base bK k "check_heap" ["vessel","number"] (ul K)
noncomputable abbrev E9 (P:Oo) (w:OD) (K:Fg) (mg:Str->Option NY) (base:Heap) (k:Nat):=FnC P w K mg base bK k "road" ["vessel","one","two"] (xK K)
noncomputable abbrev gb (P:Oo) (w:OD) (K:Fg) (mg:Str->Option NY) (base:Heap) (k:Nat):=FnC P w K mg base bK k "first_astray" ["vessel"] (As.mN K)
noncomputable abbrev j7 (P:Oo) (w:OD) (K:Fg) (mg:Str->Option NY) (base:Heap) (k:Nat):=FnC P w K mg base bK k "lot_marks" ["number","told_lots"] (sk K)
noncomputable abbrev gB (P:Oo) (w:OD) (K:Fg) (mg:Str->Option NY) (base:Heap) (k:Nat):=FnC P w K mg base bK k "lack_rows" ["vessel"] (mK K)
noncomputable abbrev j5 (P:Oo) (w:OD) (K:Fg) (mg:Str->Option NY) (base:Heap) (k:Nat):=FnC P w K mg base bK k "taken_out" ["number","divisor"] (Pw.Bt K)
noncomputable abbrev AY (P:Oo) (w:OD) (K:Fg) (mg:Str->Option NY) (base:Heap) (k:Nat):=FnC P w K mg base bK k "split" ["one","two"] (Pw.rV K)
noncomputable abbrev cI (P:Oo) (w:OD) (K:Fg) (mg:Str->Option NY) (base:Heap) (k:Nat):=FnC P w K mg base bK k "place_with_divisor" ["powers","number"] (Pw.r_ K)
noncomputable abbrev Ba (P:Oo) (w:OD) (K:Fg) (mg:Str->Option NY) (base:Heap) (k:Nat):=FnC P w K mg base bK k "apart" ["powers"] (Pw.su K)
noncomputable abbrev fe (P:Oo) (w:OD) (K:Fg) (mg:Str->Option NY) (base:Heap) (k:Nat):=FnC P w K mg base bK k "turnings_from" ["ends","heap"] (xM K)
noncomputable abbrev AZ (P:Oo) (w:OD) (K:Fg) (mg:Str->Option NY) (base:Heap) (k:Nat):=FnC P w K mg base bK k "picks" ["ends","some"] (sd K)
noncomputable abbrev qL (P:Oo) (w:OD) (K:Fg) (mg:Str->Option NY) (base:Heap) (k:Nat):=FnC P w K mg base bK k "is_tree" ["ends","pick","heap"] (xG K)
noncomputable abbrev ga (P:Oo) (w:OD) (K:Fg) (mg:Str->Option NY) (base:Heap) (k:Nat):=FnC P w K mg base bK k "pace_product" ["turnings","pick"] (Tr.xL K)
noncomputable abbrev gU (P:Oo) (w:OD) (K:Fg) (mg:Str->Option NY) (base:Heap) (k:Nat):=FnC P w K mg base bK k "tree_weight" ["turnings","ends","lot","heap"] (rT K)
noncomputable abbrev dm (P:Oo) (w:OD) (K:Fg) (mg:Str->Option NY) (base:Heap) (k:Nat):=FnC P w K mg base bK k "tree_weights" ["vessel"] (mD K)
noncomputable abbrev fb (P:Oo) (w:OD) (K:Fg) (mg:Str->Option NY) (base:Heap) (k:Nat):=FnC P w K mg base bK k "weight_powers" ["weights","row"] (Pw.Fz K)
noncomputable abbrev Fa (P:Oo) (w:OD) (K:Fg) (mg:Str->Option NY) (base:Heap) (k:Nat):=FnC P w K mg base bK k "even" ["vessel"] (Pw.oK K)
noncomputable abbrev bR (P:Oo) (w:OD) (K:Fg) (mg:Str->Option NY) (base:Heap) (k:Nat):=FnC P w K mg base bK k "_law_cell_at" ["_law_script","_law_k"] (i7 K)
noncomputable abbrev cT (P:Oo) (w:OD) (K:Fg) (mg:Str->Option NY) (base:Heap) (k:Nat):=FnC P w K mg base bK k "_law_mixed" ["_law_cell","_law_place"] fX
noncomputable abbrev d7 (P:Oo) (w:OD) (K:Fg) (mg:Str->Option NY) (base:Heap) (k:Nat):=FnC P w K mg base bK k "_law_divisor" ["_law_one","_law_two"] ko
noncomputable abbrev cX (P:Oo) (w:OD) (K:Fg) (mg:Str->Option NY) (base:Heap) (k:Nat):=FnC P w K mg base bK k "_law_lowest" ["_law_top","_law_bottom"] (i4 K)
noncomputable abbrev j9 (P:Oo) (w:OD) (K:Fg) (mg:Str->Option NY) (base:Heap) (k:Nat):=FnC P w K mg base bK k "_law_words" ["_law_number","_law_many"] (mC K)
noncomputable abbrev lO (P:Oo) (w:OD) (K:Fg) (mg:Str->Option NY) (base:Heap) (k:Nat):=FnC P w K mg base bK k "_law_heap" ["_law_cell","_law_k","_law_many","_law_top","_law_plain"] (so K)
noncomputable abbrev lM (P:Oo) (w:OD) (K:Fg) (mg:Str->Option NY) (base:Heap) (k:Nat):=FnC P w K mg base bK k "_law_pool" ["_law_script","_law_at","_law_many","_law_size","_law_top","_law_plain"] (rZ K)
noncomputable abbrev ke (P:Oo) (w:OD) (K:Fg) (mg:Str->Option NY) (base:Heap) (k:Nat):=FnC P w K mg base bK k "_law_pairs" ["_law_script","_law_at","_law_size","_law_kind","_law_plain"] (mH K)
noncomputable abbrev lN (P:Oo) (w:OD) (K:Fg) (mg:Str->Option NY) (base:Heap) (k:Nat):=FnC P w K mg base bK k "_law_pace" ["_law_cell","_law_kind"] (sj K)
noncomputable abbrev fh (P:Oo) (w:OD) (K:Fg) (mg:Str->Option NY) (base:Heap) (k:Nat):=FnC P w K mg base bK k "_law_vessel" ["_law_script","_law_at"] (ui K)
noncomputable abbrev j_ (P:Oo) (w:OD) (K:Fg) (mg:Str->Option NY) (base:Heap) (k:Nat):=FnC P w K mg base bK k "_law_whole" ["_law_found"] g6
noncomputable abbrev gA (P:Oo) (w:OD) (K:Fg) (mg:Str->Option NY) (base:Heap) (k:Nat):=FnC P w K mg base bK k "_law_heaps" ["_law_vessel_here"] (c7 K)
noncomputable abbrev ik (P:Oo) (w:OD) (K:Fg) (mg:Str->Option NY) (base:Heap) (k:Nat):=FnC P w K mg base bK k "_law_ends" ["_law_vessel_here"] (fY K)
noncomputable abbrev gz (P:Oo) (w:OD) (K:Fg) (mg:Str->Option NY) (base:Heap) (k:Nat):=FnC P w K mg base bK k "_law_reach" ["_law_ends_here","_law_one"] (mF K)
noncomputable abbrev kb (P:Oo) (w:OD) (K:Fg) (mg:Str->Option NY) (base:Heap) (k:Nat):=FnC P w K mg base bK k "_law_times" ["_law_one","_law_two"] (Pw.iR K)
noncomputable abbrev kc (P:Oo) (w:OD) (K:Fg) (mg:Str->Option NY) (base:Heap) (k:Nat):=FnC P w K mg base bK k "_law_parts" ["_law_numbers"] (Pw.si K)
noncomputable abbrev kf (P:Oo) (w:OD) (K:Fg) (mg:Str->Option NY) (base:Heap) (k:Nat):=FnC P w K mg base bK k "_law_often" ["_law_part","_law_number"] (Pw.mI K)
noncomputable abbrev fu (P:Oo) (w:OD) (K:Fg) (mg:Str->Option NY) (base:Heap) (k:Nat):=FnC P w K mg base bK k "_law_is_one" ["_law_weights","_law_row"] (Pw.mL K)
noncomputable abbrev dG (P:Oo) (w:OD) (K:Fg) (mg:Str->Option NY) (base:Heap) (k:Nat):=FnC P w K mg base bK k "_law_even_vessel" ["_law_script","_law_at"] (Pw.sr K)
noncomputable abbrev fo (P:Oo) (w:OD) (K:Fg) (mg:Str->Option NY) (base:Heap) (k:Nat):=FnC P w K mg base bK k "_law_row_holds" ["_law_vessel_here","_law_weights","_law_row"] (Pw.xJ K)
seal f_ dZ IxR LP LR PI PG HQ PW PO PC binaryOp compareOp unaryOp
set_option hygiene false in
local macro_rules | `(tactic| fail "t")=>`(tactic| first|((with_reducible show PE _ _ _);fail "e")|((with_reducible show PA _ _ _);fail "a")|((with_reducible show PS _ _ _);fail "s")|((with_reducible show PSs _ _ _);fail "S")|((with_reducible show PT _ _ _);fail "b")|((with_reducible show PW _ _ _);fail "w")|((with_reducible show PG _ _ _);fail "g")|((with_reducible show HQ _ _ _);fail "G")|((with_reducible show PI _ _ _ _);fail "i")|((with_reducible show PO _ _ _);fail "o")|((with_reducible show PC _ _ _ _ _);fail "C")|((with_reducible show Lv _ _ _ _ _);fail "P")|skip)
set_option hygiene false in
local macro_rules | `(tactic| fail "e")=>`(tactic| first|exact pv _|exact Jt|exact jy rfl B.tuple vC rfl|exact jy rfl B.list tP rfl|exact jy rfl B.bool HA rfl|exact jy rfl B.int E7 rfl|exact jy rfl B.str K6 rfl|exact Jp|exact Mf|exact CG|exact yI rfl G.ONE rfl|exact yI rfl G.NOUGHT rfl|exact CH|exact Jm|((first|refine Mc (by fail "p") ?_ ?_|refine Me (by fail "x") ?_ ?_ (fun _ _=>rfl)|refine GD (by fail "q") ?_ ?_ (EC _)|((with_reducible show PE _ _ (ay _ _ _ _));refine CL (by assumption) hr rfl ?_)|refine Jl ?_|refine dJ (by fail "c") rfl B.isinstance oi ?_|refine Ju ?_ ?_|refine Jo ?_|refine dJ (by fail "c") rfl B.len K_ ?_|refine dJ (by fail "c") rfl B.abs Lb ?_|refine Ma (by fail "r") ?_|refine CF ?_ ?_ ?_|refine NJ (.of (by kernel_rfl!)) (of_decide_eq_true (by kernel_rfl!)) rfl ?_ (fun _ _ _ _ _=>?_)|refine jx (by fail "y") rfl B.list tP ?_|refine NH (.of (by kernel_rfl!)) rfl ?_ (fun _ _ _ _ _=>?_) (fun _ _ _ _ _=>?_)|refine Jq ?_|refine yJ PU PySem.F.slot_list_append PySem.F.type_list_append jF ?_ ?_|refine CD (by fail "r") ?_ ?_ ?_|refine GC hu1 ?_ ?_ (fun _ _=>rfl)|refine NI (.of (by kernel_rfl!)) rfl ?_ (fun _ _ _ _ _=>?_) (fun _ _ _ _ _=>?_) (fun _ _ _ _ _=>?_)|refine pi rfl rfl B.list rfl B.range ?_|refine dJ (by fail "c") rfl B.min K8 ?_|refine dJ (by fail "c") rfl B.max K9 ?_|refine vY rfl rfl B.sorted rfl B.set ?_|refine GB ?_ rfl rfl (by simp) (by decide)|refine CJ hu1 ?_ ?_ ⟨rfl,rfl,rfl,rfl⟩|refine Ex PU VI VJ JQ ?_|refine yJ PU PySem.F.slot_list_extend PySem.F.type_list_extend yY ?_ ?_|refine yJ PU VI VJ CZ ?_ ?_|refine jx (by fail "y") rfl B.tuple vC ?_|refine jx (by fail "y") rfl B.int E7 ?_|refine yJ PU PySem.F.slot_list_index PySem.F.type_list_index (C0 hu) ?_ ?_|refine yJ PU PySem.F.slot_list_remove PySem.F.type_list_remove (yX hu) ?_ ?_|refine dJ (by fail "c") rfl B.all La ?_|refine dJ (by fail "c") rfl B.sum K5 ?_|refine Ex PU PySem.F.slot_list_clear PySem.F.type_list_clear C1 ?_|refine Jn ?_)<;>fail "t"))
set_option hygiene false in
local macro_rules | `(tactic| fail "a")=>`(tactic| first|exact Jw|((first|refine GG ?_ ?_)<;>fail "t"))
set_option hygiene false in
local macro_rules | `(tactic| fail "s")=>`(tactic| first|((first|refine I_ nd rfl (by walk_at "o") ?_|refine Ja ?_|refine L_ ?_ ?_ ?_|refine Jd hpo rfl ?_ ?_ ?_|refine Jb rfl nd rfl rfl (by decide) rfl rfl ?_ rfl|refine Cy hpo ?_ ?_|refine Gp ?_|refine Gq hu1 ?_ ?_ ?_ rfl|refine NE nd rfl rfl (.of (by kernel_rfl!)) rfl ?_ (fun _ _ _ _ _=>?_) (fun _ _ _ _ _=>?_) (fun _ _ _ _ _=>?_)|((with_reducible first|show PS _ (.Assign [.Tuple _ _ _] _ _) _|show PS _ (.Assign [.Subscript _ _ _] _ _) _);refine Je ?_ ?_))<;>fail "t"))
set_option hygiene false in
local macro_rules | `(tactic| fail "S")=>`(tactic| first|exact Go|exact yo|((first|refine Gm ?_|refine Cw ?_ ?_)<;>fail "t"))
set_option hygiene false in
local macro_rules | `(tactic| fail "b")=>`(tactic| first|((first|refine yn (by fail "q") ?_ ?_ (EC _)|refine yn (by fail "q") ?_ ?_ (by with_unfolding_all rfl)|((with_reducible show PT _ (.BoolOp _ _ _) _);refine PW.pt ?_)|refine IY ?_|refine Cv (by fail "q") (by fail "q") ?_ ?_ ?_|refine I0 ?_ (by with_unfolding_all rfl)|refine IX ?_)<;>fail "t"))
set_option hygiene false in
local macro_rules | `(tactic| fail "w")=>`(tactic| first|((first|refine pw_or ?_ ?_|refine pw_or1 ?_|refine pw_and ?_ ?_|refine pw_and1 ?_)<;>fail "t"))
set_option hygiene false in
local macro_rules | `(tactic| fail "g")=>`(tactic| first|exact yG (by first|exact nd|exact of_decide_eq_true (by kernel_rfl!)) rfl (by walk_at "o")|((first|refine Jj rfl ?_)<;>fail "t"))
set_option hygiene false in
local macro_rules | `(tactic| fail "G")=>`(tactic| first|exact Gz|((first|refine CC ?_ ?_)<;>fail "t"))
set_option hygiene false in
local macro_rules | `(tactic| fail "i")=>`(tactic| first|((first|refine yF rfl B.range ?_|refine Gy rfl B.enumerate ?_|refine Jh rfl B.zip ?_|refine Gx ?_|refine Ji ?_)<;>fail "t"))
set_option hygiene false in
local macro_rules | `(tactic| fail "o")=>`(tactic| first|exact Gw|((first|refine Gv ?_)<;>fail "t"))
set_option hygiene false in
local macro_rules | `(tactic| fail "C")=>`(tactic| first|((first|refine yK hu1 ?_ ?_)<;>fail "t"))
set_option hygiene false in
local macro_rules | `(tactic| fail "P")=>`(tactic| first|exact Gs|((first|refine CB ?_ ?_ ?_)<;>fail "t"))
set_option hygiene false in
local macro_rules | `(tactic| fail "c")=>`(tactic| first|exact DP|exact AC|exact qu|exact DR|exact(Ay rfl)|exact(AA rfl)|exact AB|exact(DQ rfl)|exact(Az rfl)|exact(Ax rfl)|exact(Aw rfl))
set_option hygiene false in
local macro_rules | `(tactic| fail "p")=>`(tactic| first|exact GK|exact CN|exact JH|exact GJ|exact Jz|exact JG|exact JC|exact JB|exact vZ|exact GL|exact GH|exact JA)
set_option hygiene false in
local macro_rules | `(tactic| fail "q")=>`(tactic| first|exact Mn|exact JD|exact Mh|exact Mi|exact Mj|exact(JE hu)|exact Ml|exact GI|exact(yN hu)|exact Mm|exact(JF hu))
set_option hygiene false in
local macro_rules | `(tactic| fail "r")=>`(tactic| first|exact Ib|exact FE|exact Iv)
set_option hygiene false in
local macro_rules | `(tactic| fail "x")=>`(tactic| first|exact KC|exact EQ|exact zC|exact ES)
set_option hygiene false in
local macro_rules | `(tactic| fail "y")=>`(tactic| first|exact qt|exact(ww rfl)|exact(tO rfl)|exact n9|exact AE)
set_option hygiene false in
local macro_rules | `(tactic| exists $s:term,$t:term,$r:term)=>`(tactic| (refine F.okN $s (fun _ _ _ _=>by walk_at "l") fun f cdv A outer s H vs Q E nd hr hu hu1 hpo own h=>⟨$t,?_,$r⟩;fail "t"))
theorem CP(F:aP K mg "whole" (top 5) ["value"]) (B:b_ mg)  : tZ P w K mg base 1:=by
 exists BB,xp K,(by obtain⟨i,rfl,k⟩:=h;exact ux k)
theorem gi(F:aP K mg "greatest_divisor" (top 6) ["one","two"]) (B:b_ mg)  : bn P w K mg base 1:=by
 exists gc,Ij,(by obtain⟨a,b,rfl,k⟩:=h;exact IK a b H _ k)
theorem sU(F:aP K mg "fraction" (top 7) ["top","bottom"]) (B:b_ mg) (gV:bn P w K mg base 1) (YN:tZ P w K mg base 1):im P w K mg base 2:=by
 exists sH,rJ K,(Cf rfl h)
theorem GO(F:aP K mg "plus" (top 8) ["one","two"]) (B:b_ mg) (Yo:im P w K mg base 2):E_ P w K mg base 3:=by
 exists FJ,rj K,(BV rfl h)
theorem CQ(F:aP K mg "times" (top 9) ["one","two"]) (B:b_ mg) (Yo:im P w K mg base 2):AX P w K mg base 3:=by
 exists BC,lX K,(x6 rfl h)
theorem kC(F:aP K mg "first_place" (top 11) ["row"]) (B:b_ mg)  : cN P w K mg base 1:=by
 exists kx,rK K,(Ch rfl h)
theorem sN(F:aP K mg "unit_row" (top 12) ["size","own"]) (B:b_ mg)  : lK P w K mg base 1:=by
 exists sB,qV K,(BN rfl h)
theorem pB(F:aP K mg "unit_rows" (top 13) ["size"]) (B:b_ mg) (YT:lK P w K mg base 1):j4 P w K mg base 2:=by
 exists oO,qU K,(BM rfl h)
theorem hX(F:aP K mg "common_divisor" (top 14) ["row"]) (B:b_ mg) (gV:bn P w K mg base 1):eG P w K mg base 2:=by
 exists g7,Fu K,(IL rfl h)
theorem yT(F:aP K mg "lowest" (top 15) ["row"]) (B:b_ mg) (vt:cN P w K mg base 2) (Yn:eG P w K mg base 2):oB P w K mg base 3:=by
 exists xY,wX K,(FZ rfl h)
theorem v_(F:aP K mg "cleared" (top 16) ["row","stairs"]) (B:b_ mg) (vt:cN P w K mg base 3) (YB:oB P w K mg base 3):qM P w K mg base 4:=by
 exists vU,xk K,(F9 rfl h)
theorem yS(F:aP K mg "sifted" (top 17) ["rows"]) (B:b_ mg) (YM:j4 P w K mg base 4) (YZ:qM P w K mg base 4) (vt:cN P w K mg base 4) (YB:oB P w K mg base 4):vJ P w K mg base 5:=by
 exists xX,wR K,(FR rfl h)
theorem iL(F:aP K mg "nought_makers" (top 18) ["rows"]) (B:b_ mg) (Y7:vJ P w K mg base 5):ff P w K mg base 6:=by
 exists iG,l4 K,(ya rfl h)
theorem sT(F:aP K mg "heaps_of" (top 21) ["turnings"]) (B:b_ mg)  : lP P w K mg base 1:=by
 exists sG,iW K,(vV rfl h)
theorem CV(F:aP K mg "heaps" (top 22) ["vessel"]) (B:b_ mg) (YO:lP P w K mg base 1):kg P w K mg base 2:=by
 exists BF,rG K,(Cd rfl h)
theorem jC(F:aP K mg "heap_numbers" (top 24) ["vessel"]) (B:b_ mg) (Yi:kg P w K mg base 2):bV P w K mg base 3:=by
 exists jf,w_ K,(F3 rfl h)
theorem pD(F:aP K mg "places_of" (top 25) ["things","thing"]) (B:b_ mg)  : j6 P w K mg base 1:=by
 exists oQ,lY K,(x9 rfl h)
theorem GP(F:aP K mg "lots" (top 26) ["vessel"]) (B:b_ mg) (ro:bV P w K mg base 3) (YK:j6 P w K mg base 3) (Yi:kg P w K mg base 3):A_ P w K mg base 4:=by
 exists FK,wZ K,(F2 rfl h)
theorem m_(F:aP K mg "check_heap" (top 27) ["vessel","number"]) (B:b_ mg) (YN:tZ P w K mg base 2) (Yi:kg P w K mg base 2):iB P w K mg base 3:=by
 exists mT,xl K,(F_ rfl h)
theorem GN(F:aP K mg "road" (top 28) ["vessel","one","two"]) (B:b_ mg) (YA:iB P w K mg base 3) (ro:bV P w K mg base 3):E9 P w K mg base 4:=by
 exists FH,wT K,(FU rfl h)
theorem jD(F:aP K mg "first_astray" (top 29) ["vessel"]) (B:b_ mg) (ro:bV P w K mg base 4) (Zr:E9 P w K mg base 4):gb P w K mg base 5:=by
 exists jg,As.mf K,(As.yd rfl h)
theorem pE(F:aP K mg "lot_marks" (top 31) ["number","told_lots"]) (B:b_ mg)  : j7 P w K mg base 1:=by
 exists oR,rC K,(B_ rfl h)
theorem pO(F:aP K mg "lack_rows" (top 32) ["vessel"]) (B:b_ mg) (Y1:A_ P w K mg base 6) (Ys:ff P w K mg base 6) (YJ:j7 P w K mg base 6) (Yi:kg P w K mg base 6):gB P w K mg base 7:=by
 exists o5,rE K,(Cb rfl h)
theorem pC(F:aP K mg "taken_out" (top 34) ["number","divisor"]) (B:b_ mg)  : j5 P w K mg base 1:=by
 exists oP,Pw.Fn K,(Pw.Iz rfl h)
theorem CS(F:aP K mg "split" (top 35) ["one","two"]) (B:b_ mg) (gV:bn P w K mg base 1) (YL:j5 P w K mg base 1):AY P w K mg base 2:=by
 exists BD,Pw.qY K,(Pw.BQ rfl h)
theorem eX(F:aP K mg "place_with_divisor" (top 36) ["powers","number"]) (B:b_ mg) (gV:bn P w K mg base 1):cI P w K mg base 2:=by
 exists eT,Pw.rm K,(Pw.BW rfl h)
theorem CW(F:aP K mg "apart" (top 37) ["powers"]) (B:b_ mg) (Ds:cI P w K mg base 2) (Zh:AY P w K mg base 2):Ba P w K mg base 3:=by
 exists BG,Pw.rM K,(Pw.Cj rfl h)
theorem iK(F:aP K mg "turnings_from" (top 40) ["ends","heap"]) (B:b_ mg)  : fe P w K mg base 1:=by
 exists iF,xf K,(F5 rfl h)
theorem CU(F:aP K mg "picks" (top 41) ["ends","some"]) (B:b_ mg) (Yt:fe P w K mg base 1):AZ P w K mg base 2:=by
 exists BE,rn K,(BX rfl h)
theorem v0(F:aP K mg "is_tree" (top 42) ["ends","pick","heap"]) (B:b_ mg)  : qL P w K mg base 1:=by
 exists vT,wQ K,(FQ rfl h)
theorem jB(G:Cn K mg nq oq) (F:aP K mg "pace_product" (top 43) ["turnings","pick"]) (B:b_ mg) (Zi:AX P w K mg base 3):ga P w K mg base 4:=by
 exists je,wU K oq,(FX G.one rfl h)
theorem kz(G:Cn K mg nq oq) (F:aP K mg "tree_weight" (top 44) ["turnings","ends","lot","heap"]) (B:b_ mg) (Zg:AZ P w K mg base 4) (Y0:qL P w K mg base 4) (Zq:E_ P w K mg base 4) (Yw:ga P w K mg base 4):gU P w K mg base 5:=by
 exists kr,qX K nq,(BP G.zero rfl h)
theorem jA(F:aP K mg "tree_weights" (top 45) ["vessel"]) (B:b_ mg) (ro:bV P w K mg base 5) (Y1:A_ P w K mg base 5) (Yy:gU P w K mg base 5):dm P w K mg base 6:=by
 exists jd,qW K,(BO rfl h)
 refine GA (M:=["vessel","ends","weights","lot","#heap"]) (.of (by kernel_rfl!)) nd rfl ?_ (fun _ _ _ _ _=>?_) <;> fail "t"
theorem iJ(F:aP K mg "weight_powers" (top 47) ["weights","row"]) (B:b_ mg)  : fb P w K mg base 1:=by
 exists iE,Pw.Fm K,(Pw.Iy rfl h)
theorem GQ(F:aP K mg "even" (top 48) ["vessel"]) (B:b_ mg) (Yv:gb P w K mg base 7) (xv:dm P w K mg base 7) (Yj:gB P w K mg base 7) (Zf:Ba P w K mg base 7) (Yu:fb P w K mg base 7):Fa P w K mg base 8:=by
 exists FL,Pw.xh K,(Pw.F6 rfl h)
theorem kB(F:aP K mg "_law_cell_at" (top 50) ["_law_script","_law_k"]) (B:b_ mg)  : bR P w K mg base 1:=by
 exists kw,Ik K,(by obtain⟨a,ns,k,rfl,hS,h0,q⟩:=h;exact Ga hS h0 q)
theorem pM(F:aP K mg "_law_mixed" (top 51) ["_law_cell","_law_place"]) (B:b_ mg)  : cT P w K mg base 1:=by
 exists oZ,wV K,(FY rfl h)
theorem kA(F:aP K mg "_law_divisor" (top 52) ["_law_one","_law_two"]) (B:b_ mg)  : d7 P w K mg base 1:=by
 exists ku,xj K,(F8 rfl h)
theorem m8(F:aP K mg "_law_lowest" (top 53) ["_law_top","_law_bottom"]) (B:b_ mg) (xy:d7 P w K mg base 1):cX P w K mg base 2:=by
 exists mR,wY K,(F1 rfl h)
theorem pF(F:aP K mg "_law_words" (top 54) ["_law_number","_law_many"]) (B:b_ mg)  : j9 P w K mg base 1:=by
 exists oS,lV K,(x5 rfl h)
theorem sR(F:aP K mg "_law_heap" (top 55) ["_law_cell","_law_k","_law_many","_law_top","_law_plain"]) (B:b_ mg) (se:cT P w K mg base 1):lO P w K mg base 2:=by
 exists sE,rH K,(Ce rfl h)
theorem sO(F:aP K mg "_law_pool" (top 56) ["_law_script","_law_at","_law_many","_law_size","_law_top","_law_plain"]) (B:b_ mg) (YQ:lO P w K mg base 2) (i3:bR P w K mg base 2):lM P w K mg base 3:=by
 exists sC,rf K,(BU rfl h)
theorem pK(F:aP K mg "_law_pairs" (top 57) ["_law_script","_law_at","_law_size","_law_kind","_law_plain"]) (B:b_ mg) (i3:bR P w K mg base 1) (se:cT P w K mg base 1):ke P w K mg base 2:=by
 exists oX,lZ K,(x_ rfl h)
theorem sQ(F:aP K mg "_law_pace" (top 58) ["_law_cell","_law_kind"]) (B:b_ mg) (xa:cX P w K mg base 2):lN P w K mg base 3:=by
 exists sD,rA K,(BZ rfl h)
theorem m7(F:aP K mg "_law_vessel" (top 59) ["_law_script","_law_at"]) (B:b_ mg) (se:cT P w K mg base 3) (YS:lM P w K mg base 3) (YE:ke P w K mg base 3) (i3:bR P w K mg base 3) (YI:j9 P w K mg base 3) (YR:lN P w K mg base 3):fh P w K mg base 4:=by
 exists mQ,wP K,(FO rfl h)
theorem pG(F:aP K mg "_law_whole" (top 60) ["_law_found"]) (B:b_ mg)  : j_ P w K mg base 1:=by
 exists oT,xp K,(by obtain⟨i,rfl,k⟩:=h;exact ux k)
theorem pN(F:aP K mg "_law_heaps" (top 61) ["_law_vessel_here"]) (B:b_ mg)  : gA P w K mg base 1:=by
 exists o4,l_ K,(yc rfl h)
theorem sS(F:aP K mg "_law_ends" (top 62) ["_law_vessel_here"]) (B:b_ mg) (Yl:gA P w K mg base 1):ik P w K mg base 2:=by
 exists sF,rD K,(Ca rfl h)
theorem pI(F:aP K mg "_law_reach" (top 63) ["_law_ends_here","_law_one"]) (B:b_ mg)  : gz P w K mg base 1:=by
 exists oV,re K,(BS rfl h)
theorem pH(F:aP K mg "_law_times" (top 65) ["_law_one","_law_two"]) (B:b_ mg) (xa:cX P w K mg base 2):kb P w K mg base 3:=by
 exists oU,l9 K,(Pw.x8 rfl h)
theorem pJ(F:aP K mg "_law_parts" (top 66) ["_law_numbers"]) (B:b_ mg) (xy:d7 P w K mg base 1):kc P w K mg base 2:=by
 exists oW,Pw.rq K,(Pw.BY rfl h)
theorem pL(F:aP K mg "_law_often" (top 67) ["_law_part","_law_number"]) (B:b_ mg)  : kf P w K mg base 1:=by
 exists oY,Pw.rB K,(Pw.B3 rfl h)
theorem m9(F:aP K mg "_law_is_one" (top 68) ["_law_weights","_law_row"]) (B:b_ mg) (YF:kc P w K mg base 2) (YD:kf P w K mg base 2):fu P w K mg base 3:=by
 exists mS,Pw.rF K,(Pw.Cc rfl h)
 refine yH ["_law_here","_law_there"] ["_law_weights","_law_row","_law_part","_law_many","#_law_here","#_law_there","_law_number"] (.of (by kernel_rfl!)) rfl ?_ (fun _ _ _ _ _=>?_) (fun _ _ _ _ _=>?_) <;> fail "t"
 refine yH ["_law_here","_law_there"] ["_law_weights","_law_row","_law_part","_law_many","#_law_here","#_law_there","_law_number"] (.of (by kernel_rfl!)) rfl ?_ (fun _ _ _ _ _=>?_) (fun _ _ _ _ _=>?_) <;> fail "t"
theorem gI(F:aP K mg "_law_even_vessel" (top 69) ["_law_script","_law_at"]) (B:b_ mg) (Fx:fh P w K mg base 4) (se:cT P w K mg base 4) (i3:bR P w K mg base 4) (xa:cX P w K mg base 4) (YG:kb P w K mg base 4):dG P w K mg base 5:=by
 exists gF,Pw.rL K,(Pw.Ci rfl h)
theorem CT(F:aP K mg "_law_same" (top 70) ["_law_found","_law_due"]) (B:b_ mg):FnC P w K mg base bK 1 "_law_same" ["_law_found","_law_due"] (oJ K 0):=by
 refine F.ok ck (fun vs H Q E h=>zm h) (fun f cdv A outer s H vs Q E hr h=>?_);have nd:=ck.nd;have hpo:=fun {M A env}=>@SE M A env
 have hu:=hr.units;refine⟨q_ K,?_,(BR rfl h)⟩;fail "t"
theorem JK(F:aP K mg "_law_same" (top 70) ["_law_found","_law_due"]) (B:b_ mg) (Yq:FnC P w K mg base bK 1 "_law_same" ["_law_found","_law_due"] (oJ K 0)):FnC P w K mg base bK 2 "_law_same" ["_law_found","_law_due"] (xH K):=by
 refine F.ok ck (fun vs H Q E h=>G5 h) (fun f cdv A outer s H vs Q E hr h=>?_);have nd:=ck.nd;have hpo:=fun {M A env}=>@SE M A env
 have hu:=hr.units;refine⟨Fo K,?_,(IB rfl h)⟩;fail "t"
theorem JJ(F:aP K mg "_law_same" (top 70) ["_law_found","_law_due"]) (B:b_ mg) (Yq:FnC P w K mg base bK 2 "_law_same" ["_law_found","_law_due"] (xH K)):FnC P w K mg base bK 3 "_law_same" ["_law_found","_law_due"] (rX K):=by
 refine F.ok ck (fun vs H Q E h=>G4 h) (fun f cdv A outer s H vs Q E hr h=>?_);have nd:=ck.nd;have hpo:=fun {M A env}=>@SE M A env
 have hu:=hr.units;refine⟨Bi K,?_,(IA rfl h)⟩;fail "t"
theorem iM(F:aP K mg "_law_row_holds" (top 71) ["_law_vessel_here","_law_weights","_law_row"]) (B:b_ mg) (Yl:gA P w K mg base 3) (Yp:ik P w K mg base 3) (Dv:fu P w K mg base 3) (YH:j_ P w K mg base 3) (Ym:gz P w K mg base 3):fo P w K mg base 4:=by
 exists iH,Pw.wS K,(Pw.FT rfl h)
 refine GA (M:=["_law_vessel_here","_law_weights","_law_row","_law_told","_law_ends_here","_law_both","#_law_k","_law_stuff"]) (.of (by kernel_rfl!)) nd rfl ?_ (fun _ _ _ _ _=>?_) <;> fail "t"
theorem JL(F:Fun K "law" "law" (top 72) f fd) (B:b_ mg) (Fx:fh P w K mg base 8) (Yp:ik P w K mg base 8) (Zp:Fa P w K mg base 8) (xv:dm P w K mg base 8) (Yj:gB P w K mg base 8) (Yq:FnC P w K mg base bK 8 "_law_same" ["_law_found","_law_due"] (K87.rX K)) (Yk:dG P w K mg base 8) (i3:bR P w K mg base 8) (Dv:fu P w K mg base 8) (Ym:gz P w K mg base 8) (Yr:fo P w K mg base 8):FnOk P w K mg base bK 9 f fd ["_law_script"] (spLaw K):=by
 refine F.ok Ei (fun vs H Q E h=>?_) (fun cdv A outer s H vs Q E hr h=>?_)
 ·obtain⟨a,ns,rfl,_⟩:=h;rfl
 have nd:=Ei.nd;have hu:=hr.units;have hu1:=M5 hr;have hpo:=fun {M A env}=>@SE M A env
 refine⟨Bl K,?_,(IJ h)⟩;fail "t"
end
theorem lA{G:NY->NY->NY->Option Addr->NY->NY->QP}{ps:List Str}(e:ps.length=1)(h:∀(a b c:NY) (d:Option Addr) (x y u0:NY),bindArgs (G a b c d x y) ⟨[u0],[]⟩=pure (ps.zip [u0]))(a b c:NY)(d:Option Addr)(x y:NY)(us:List NY)(hl:us.length=ps.length):bindArgs (G a b c d x y) ⟨us,[]⟩=pure (ps.zip us):=by
 have e0:us.length=1:=hl.trans e;obtain⟨u0,us,rfl⟩:=Og e0;cases OQ (Pe e0);exact h a b c d x y u0
theorem gt{G:NY->NY->NY->Option Addr->NY->NY->QP}{ps:List Str}(e:ps.length=2)(h:∀(a b c:NY) (d:Option Addr) (x y u0 u1:NY),bindArgs (G a b c d x y) ⟨[u0,u1],[]⟩=pure (ps.zip [u0,u1]))(a b c:NY)(d:Option Addr)(x y:NY)(us:List NY)(hl:us.length=ps.length):bindArgs (G a b c d x y) ⟨us,[]⟩=pure (ps.zip us):=by
 have e0:us.length=2:=hl.trans e;obtain⟨u0,us,rfl⟩:=Og e0;have e1:us.length=1:=Pe e0;obtain⟨u1,us,rfl⟩:=Og e1;cases OQ (Pe e1);exact h a b c d x y u0 u1
theorem Ng{G:NY->NY->NY->Option Addr->NY->NY->QP}{ps:List Str}(e:ps.length=3)(h:∀(a b c:NY) (d:Option Addr) (x y u0 u1 u2:NY),bindArgs (G a b c d x y) ⟨[u0,u1,u2],[]⟩=pure (ps.zip [u0,u1,u2]))(a b c:NY)(d:Option Addr)(x y:NY)(us:List NY)(hl:us.length=ps.length):bindArgs (G a b c d x y) ⟨us,[]⟩=pure (ps.zip us):=by
 have e0:us.length=3:=hl.trans e;obtain⟨u0,us,rfl⟩:=Og e0;have e1:us.length=2:=Pe e0;obtain⟨u1,us,rfl⟩:=Og e1;have e2:us.length=1:=Pe e1;obtain⟨u2,us,rfl⟩:=Og e2;cases OQ (Pe e2);exact h a b c d x y u0 u1 u2
theorem NM{G:NY->NY->NY->Option Addr->NY->NY->QP}{ps:List Str}(e:ps.length=4)(h:∀(a b c:NY) (d:Option Addr) (x y u0 u1 u2 u3:NY),bindArgs (G a b c d x y) ⟨[u0,u1,u2,u3],[]⟩=pure (ps.zip [u0,u1,u2,u3]))(a b c:NY)(d:Option Addr)(x y:NY)(us:List NY)(hl:us.length=ps.length):bindArgs (G a b c d x y) ⟨us,[]⟩=pure (ps.zip us):=by
 have e0:us.length=4:=hl.trans e;obtain⟨u0,us,rfl⟩:=Og e0;have e1:us.length=3:=Pe e0;obtain⟨u1,us,rfl⟩:=Og e1;have e2:us.length=2:=Pe e1;obtain⟨u2,us,rfl⟩:=Og e2;have e3:us.length=1:=Pe e2;obtain⟨u3,us,rfl⟩:=Og e3;cases OQ (Pe e3);exact h a b c d x y u0 u1 u2 u3
theorem Ny{G:NY->NY->NY->Option Addr->NY->NY->QP}{ps:List Str}(e:ps.length=5)(h:∀(a b c:NY) (d:Option Addr) (x y u0 u1 u2 u3 u4:NY),bindArgs (G a b c d x y) ⟨[u0,u1,u2,u3,u4],[]⟩=pure (ps.zip [u0,u1,u2,u3,u4]))(a b c:NY)(d:Option Addr)(x y:NY)(us:List NY)(hl:us.length=ps.length):bindArgs (G a b c d x y) ⟨us,[]⟩=pure (ps.zip us):=by
 have e0:us.length=5:=hl.trans e;obtain⟨u0,us,rfl⟩:=Og e0;have e1:us.length=4:=Pe e0;obtain⟨u1,us,rfl⟩:=Og e1;have e2:us.length=3:=Pe e1;obtain⟨u2,us,rfl⟩:=Og e2;have e3:us.length=2:=Pe e2;obtain⟨u3,us,rfl⟩:=Og e3;have e4:us.length=1:=Pe e3;obtain⟨u4,us,rfl⟩:=Og e4;cases OQ (Pe e4);exact h a b c d x y u0 u1 u2 u3 u4
theorem NL{G:NY->NY->NY->Option Addr->NY->NY->QP}{ps:List Str}(e:ps.length=6)(h:∀(a b c:NY) (d:Option Addr) (x y u0 u1 u2 u3 u4 u5:NY),bindArgs (G a b c d x y) ⟨[u0,u1,u2,u3,u4,u5],[]⟩=pure (ps.zip [u0,u1,u2,u3,u4,u5]))(a b c:NY)(d:Option Addr)(x y:NY)(us:List NY)(hl:us.length=ps.length):bindArgs (G a b c d x y) ⟨us,[]⟩=pure (ps.zip us):=by
 have e0:us.length=6:=hl.trans e;obtain⟨u0,us,rfl⟩:=Og e0;have e1:us.length=5:=Pe e0;obtain⟨u1,us,rfl⟩:=Og e1;have e2:us.length=4:=Pe e1;obtain⟨u2,us,rfl⟩:=Og e2;have e3:us.length=3:=Pe e2;obtain⟨u3,us,rfl⟩:=Og e3;have e4:us.length=2:=Pe e3;obtain⟨u4,us,rfl⟩:=Og e4;have e5:us.length=1:=Pe e4;obtain⟨u5,us,rfl⟩:=Og e5;cases OQ (Pe e5);exact h a b c d x y u0 u1 u2 u3 u4 u5
theorem FnAt{K:Fg}{st:Stmt}{ps:List Str}(X:K.In h)(G:h.Ns mainGlobals mg)(p:HH K n st)(hb:∀(kV doc pm:NY) (an:Option Addr) (cdv ct:NY) (us:List NY),us.length=ps.length->bindArgs (Ql n n (di st) (cu st) (ao st) .none kV doc pm an cdv ct) ⟨us,[]⟩=pure (ps.zip us)):aP K mg n st ps:=by
 obtain⟨_,_,_,_,_,_,_,_,_,_,a,l,c,k⟩:=p;exact Dz X G a l c k hb
noncomputable abbrev Pg:=PySem.Challenge.rw_vesselhall_k87_even_hands.prog
theorem fin:PySem.Challenge.rw_vesselhall_k87_even_hands.Holds:=by
 refine K87H.headed ?_;intro w K h mg fa X G hfa P0 P20 P40 Z tn0 tn1 to0 to1 nq oq nqd oqd nqn oqn nqs oqs hcnN hcnL hcnO hcnM;obtain⟨p0,p1,p2,p3,p4,p5,p6,p7,p8,p9,p10,p11,p12,p13,p14,p15,p16,p17,p18,p19,_⟩:=P0;obtain⟨p20,p21,p22,p23,p24,p25,p26,p27,p28,p29,p30,p31,p32,p33,p34,p35,p36,p37,p38,p39,_⟩:=P20;obtain⟨p40,p41,p42,p43,p44,p45,p46,p47,p48,p49,p50,p51,p52,p53,p54,p55,p56,_⟩:=P40;obtain⟨z0,z1,z2,z3,z4,z5,z6,z7,z8,z9,z10,z11,z12,z13,z14,z15,z16,z17,z18,z19,z20,z21,_⟩:=Z;obtain⟨_,_,an,_,_,kV,dc,pm,cd,ct,aL,lL,cL,kL⟩:=p56;cases hfa.symm.trans (US X G aL);have zn:=fun {n:Str}=>PySem.W.mg_none_of (n:=n) X G
 have B:b_ mg:=⟨zn z0,zn z1,zn z2,zn z3,zn z4,zn z5,zn z6,zn z7,zn z8,zn z9,zn z10,zn z11,zn z12,zn z13,zn z14,zn z15,zn z16,zn z17,zn z18,zn z19,zn z20,zn z21⟩
 refine⟨Ql "law" "law" (di (top 72)) (cu (top 72)) (ao (top 72)) .none kV dc pm an cd ct,fun s v=>.of_eq rfl,fun base _ _=>?_⟩;have gG:=G;have G:Cn K mg nq oq:=⟨US X G hcnN,US X G hcnO,fun H=>.inr ⟨_,_,_,hcnL,rfl,rfl,aQ,.cons ⟨_,rfl⟩ (.cons ⟨_,rfl⟩ .nil)⟩,fun H=>.inr ⟨_,_,_,hcnM,rfl,rfl,aQ,.cons ⟨_,rfl⟩ (.cons ⟨_,rfl⟩ .nil)⟩⟩
 have YN:=CP (P:=Pg) (w:=w) (base:=base) (FnAt X gG p0 (lA rfl fun _ _ _ _ _ _ _=>rfl)) B;have gV:=gi (P:=Pg) (w:=w) (base:=base) (FnAt X gG p1 (gt rfl fun _ _ _ _ _ _ _ _=>rfl)) B;have vt:=kC (P:=Pg) (w:=w) (base:=base) (FnAt X gG p5 (lA rfl fun _ _ _ _ _ _ _=>rfl)) B;have YT:=sN (P:=Pg) (w:=w) (base:=base) (FnAt X gG p6 (gt rfl fun _ _ _ _ _ _ _ _=>rfl)) B;have YO:=sT (P:=Pg) (w:=w) (base:=base) (FnAt X gG p13 (lA rfl fun _ _ _ _ _ _ _=>rfl)) B;have YK:=pD (P:=Pg) (w:=w) (base:=base) (FnAt X gG p16 (gt rfl fun _ _ _ _ _ _ _ _=>rfl)) B;have YJ:=pE (P:=Pg) (w:=w) (base:=base) (FnAt X gG p21 (gt rfl fun _ _ _ _ _ _ _ _=>rfl)) B;have YL:=pC (P:=Pg) (w:=w) (base:=base) (FnAt X gG p23 (gt rfl fun _ _ _ _ _ _ _ _=>rfl)) B;have Yt:=iK (P:=Pg) (w:=w) (base:=base) (FnAt X gG p27 (gt rfl fun _ _ _ _ _ _ _ _=>rfl)) B;have Y0:=v0 (P:=Pg) (w:=w) (base:=base) (FnAt X gG p29 (Ng rfl fun _ _ _ _ _ _ _ _ _=>rfl)) B;have Yu:=iJ (P:=Pg) (w:=w) (base:=base) (FnAt X gG p33 (gt rfl fun _ _ _ _ _ _ _ _=>rfl)) B;have i3:=kB (P:=Pg) (w:=w) (base:=base) (FnAt X gG p35 (gt rfl fun _ _ _ _ _ _ _ _=>rfl)) B;have se:=pM (P:=Pg) (w:=w) (base:=base) (FnAt X gG p36 (gt rfl fun _ _ _ _ _ _ _ _=>rfl)) B;have xy:=kA (P:=Pg) (w:=w) (base:=base) (FnAt X gG p37 (gt rfl fun _ _ _ _ _ _ _ _=>rfl)) B;have YI:=pF (P:=Pg) (w:=w) (base:=base) (FnAt X gG p39 (gt rfl fun _ _ _ _ _ _ _ _=>rfl)) B;have YH:=pG (P:=Pg) (w:=w) (base:=base) (FnAt X gG p45 (lA rfl fun _ _ _ _ _ _ _=>rfl)) B;have Yl:=pN (P:=Pg) (w:=w) (base:=base) (FnAt X gG p46 (lA rfl fun _ _ _ _ _ _ _=>rfl)) B;have Ym:=pI (P:=Pg) (w:=w) (base:=base) (FnAt X gG p48 (gt rfl fun _ _ _ _ _ _ _ _=>rfl)) B;have YD:=pL (P:=Pg) (w:=w) (base:=base) (FnAt X gG p51 (gt rfl fun _ _ _ _ _ _ _ _=>rfl)) B;have Yo:=sU (P:=Pg) (w:=w) (base:=base) (FnAt X gG p2 (gt rfl fun _ _ _ _ _ _ _ _=>rfl)) B gV YN;have YM:=pB (P:=Pg) (w:=w) (base:=base) (FnAt X gG p7 (lA rfl fun _ _ _ _ _ _ _=>rfl)) B YT;have Yn:=hX (P:=Pg) (w:=w) (base:=base) (FnAt X gG p8 (lA rfl fun _ _ _ _ _ _ _=>rfl)) B gV;have Yi:=CV (P:=Pg) (w:=w) (base:=base) (FnAt X gG p14 (lA rfl fun _ _ _ _ _ _ _=>rfl)) B YO;have Zh:=CS (P:=Pg) (w:=w) (base:=base) (FnAt X gG p24 (gt rfl fun _ _ _ _ _ _ _ _=>rfl)) B gV YL;have Ds:=eX (P:=Pg) (w:=w) (base:=base) (FnAt X gG p25 (gt rfl fun _ _ _ _ _ _ _ _=>rfl)) B gV;have Zg:=CU (P:=Pg) (w:=w) (base:=base) (FnAt X gG p28 (gt rfl fun _ _ _ _ _ _ _ _=>rfl)) B Yt;have xa:=m8 (P:=Pg) (w:=w) (base:=base) (FnAt X gG p38 (gt rfl fun _ _ _ _ _ _ _ _=>rfl)) B xy;have YQ:=sR (P:=Pg) (w:=w) (base:=base) (FnAt X gG p40 (Ny rfl fun _ _ _ _ _ _ _ _ _ _ _=>rfl)) B se;have YE:=pK (P:=Pg) (w:=w) (base:=base) (FnAt X gG p42 (Ny rfl fun _ _ _ _ _ _ _ _ _ _ _=>rfl)) B i3 se;have Yp:=sS (P:=Pg) (w:=w) (base:=base) (FnAt X gG p47 (lA rfl fun _ _ _ _ _ _ _=>rfl)) B Yl;have YF:=pJ (P:=Pg) (w:=w) (base:=base) (FnAt X gG p50 (lA rfl fun _ _ _ _ _ _ _=>rfl)) B xy;have Zq:=GO (P:=Pg) (w:=w) (base:=base) (FnAt X gG p3 (gt rfl fun _ _ _ _ _ _ _ _=>rfl)) B Yo;have Zi:=CQ (P:=Pg) (w:=w) (base:=base) (FnAt X gG p4 (gt rfl fun _ _ _ _ _ _ _ _=>rfl)) B Yo;have YB:=yT (P:=Pg) (w:=w) (base:=base) (FnAt X gG p9 (lA rfl fun _ _ _ _ _ _ _=>rfl)) B (vt.mono (by decide:1<=2)) Yn;have ro:=jC (P:=Pg) (w:=w) (base:=base) (FnAt X gG p15 (lA rfl fun _ _ _ _ _ _ _=>rfl)) B Yi;have YA:=m_ (P:=Pg) (w:=w) (base:=base) (FnAt X gG p18 (gt rfl fun _ _ _ _ _ _ _ _=>rfl)) B (YN.mono (by decide:1<=2)) Yi;have Zf:=CW (P:=Pg) (w:=w) (base:=base) (FnAt X gG p26 (lA rfl fun _ _ _ _ _ _ _=>rfl)) B Ds Zh;have YS:=sO (P:=Pg) (w:=w) (base:=base) (FnAt X gG p41 (NL rfl fun _ _ _ _ _ _ _ _ _ _ _ _=>rfl)) B YQ (i3.mono (by decide:1<=2));have YR:=sQ (P:=Pg) (w:=w) (base:=base) (FnAt X gG p43 (gt rfl fun _ _ _ _ _ _ _ _=>rfl)) B xa;have YG:=pH (P:=Pg) (w:=w) (base:=base) (FnAt X gG p49 (gt rfl fun _ _ _ _ _ _ _ _=>rfl)) B xa;have Dv:=m9 (P:=Pg) (w:=w) (base:=base) (FnAt X gG p52 (gt rfl fun _ _ _ _ _ _ _ _=>rfl)) B YF (YD.mono (by decide:1<=2));have Yq:=JJ (P:=Pg) (w:=w) (base:=base) (FnAt X gG p54 (gt rfl fun _ _ _ _ _ _ _ _=>rfl)) B (JK (FnAt X gG p54 (gt rfl fun _ _ _ _ _ _ _ _=>rfl)) B (CT (FnAt X gG p54 (gt rfl fun _ _ _ _ _ _ _ _=>rfl)) B));have YZ:=v_ (P:=Pg) (w:=w) (base:=base) (FnAt X gG p10 (gt rfl fun _ _ _ _ _ _ _ _=>rfl)) B (vt.mono (by decide:1<=3)) YB;have Y1:=GP (P:=Pg) (w:=w) (base:=base) (FnAt X gG p17 (lA rfl fun _ _ _ _ _ _ _=>rfl)) B ro (YK.mono (by decide:1<=3)) (Yi.mono (by decide:2<=3));have Zr:=GN (P:=Pg) (w:=w) (base:=base) (FnAt X gG p19 (Ng rfl fun _ _ _ _ _ _ _ _ _=>rfl)) B YA ro;have Yw:=jB (P:=Pg) (w:=w) (base:=base) G (FnAt X gG p30 (gt rfl fun _ _ _ _ _ _ _ _=>rfl)) B Zi;have Fx:=m7 (P:=Pg) (w:=w) (base:=base) (FnAt X gG p44 (gt rfl fun _ _ _ _ _ _ _ _=>rfl)) B (se.mono (by decide:1<=3)) YS (YE.mono (by decide:2<=3)) (i3.mono (by decide:1<=3)) (YI.mono (by decide:1<=3)) YR;have Yr:=iM (P:=Pg) (w:=w) (base:=base) (FnAt X gG p55 (Ng rfl fun _ _ _ _ _ _ _ _ _=>rfl)) B (Yl.mono (by decide:1<=3)) (Yp.mono (by decide:2<=3)) Dv (YH.mono (by decide:1<=3)) (Ym.mono (by decide:1<=3));have Y7:=yS (P:=Pg) (w:=w) (base:=base) (FnAt X gG p11 (lA rfl fun _ _ _ _ _ _ _=>rfl)) B (YM.mono (by decide:2<=4)) YZ (vt.mono (by decide:1<=4)) (YB.mono (by decide:3<=4));have Yv:=jD (P:=Pg) (w:=w) (base:=base) (FnAt X gG p20 (lA rfl fun _ _ _ _ _ _ _=>rfl)) B (ro.mono (by decide:3<=4)) Zr;have Yy:=kz (P:=Pg) (w:=w) (base:=base) G (FnAt X gG p31 (NM rfl fun _ _ _ _ _ _ _ _ _ _=>rfl)) B (Zg.mono (by decide:2<=4)) (Y0.mono (by decide:1<=4)) (Zq.mono (by decide:3<=4)) Yw;have Yk:=gI (P:=Pg) (w:=w) (base:=base) (FnAt X gG p53 (gt rfl fun _ _ _ _ _ _ _ _=>rfl)) B Fx (se.mono (by decide:1<=4)) (i3.mono (by decide:1<=4)) (xa.mono (by decide:2<=4)) (YG.mono (by decide:3<=4));have Ys:=iL (P:=Pg) (w:=w) (base:=base) (FnAt X gG p12 (lA rfl fun _ _ _ _ _ _ _=>rfl)) B Y7;have xv:=jA (P:=Pg) (w:=w) (base:=base) (FnAt X gG p32 (lA rfl fun _ _ _ _ _ _ _=>rfl)) B (ro.mono (by decide:3<=5)) (Y1.mono (by decide:4<=5)) Yy;have Yj:=pO (P:=Pg) (w:=w) (base:=base) (FnAt X gG p22 (lA rfl fun _ _ _ _ _ _ _=>rfl)) B (Y1.mono (by decide:4<=6)) Ys (YJ.mono (by decide:1<=6)) (Yi.mono (by decide:2<=6));have Zp:=GQ (P:=Pg) (w:=w) (base:=base) (FnAt X gG p34 (lA rfl fun _ _ _ _ _ _ _=>rfl)) B (Yv.mono (by decide:5<=7)) (xv.mono (by decide:6<=7)) Yj (Zf.mono (by decide:3<=7)) (Yu.mono (by decide:1<=7));exact JL (P:=Pg) (w:=w) (base:=base) (EW (st:=top 72) lL cL kL) B (Fx.mono (by decide:4<=8)) (Yp.mono (by decide:2<=8)) Zp (xv.mono (by decide:6<=8)) (Yj.mono (by decide:7<=8)) (Yq.mono (by decide:3<=8)) (Yk.mono (by decide:5<=8)) (i3.mono (by decide:1<=8)) (Dv.mono (by decide:3<=8)) (Ym.mono (by decide:1<=8)) (Yr.mono (by decide:4<=8))
end K87
theorem PySem.Challenge.cw_vesselhall_k87_even_hands_holds : PySem.Challenge.rw_vesselhall_k87_even_hands.Holds := by
 exact K87.fin

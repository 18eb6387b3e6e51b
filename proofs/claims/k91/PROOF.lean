import PyProof.Rows.All
import Wide.All
import Wide.FinOn
import Lean
import KE.KDictList
import KE.KEqDat
import KE.KIntText
import KE.KIsAll
import KE.KRevSl
import KE.KSortAsk
import KE.KDictSum
import PySem.Challenge.RW_vesselhall_k91_not_even_not_now
set_option compiler.extract_closed false
set_option genSizeOf false
set_option Elab.async false
set_option linter.all false
set_option maxRecDepth 100000
set_option maxHeartbeats 0
local macro_rules | `(abbrev $i $s:optDeclSig $v:declVal)=>`(noncomputable def $i $s $v:declVal)
local macro_rules | `(nonrec abbrev $i $s:optDeclSig $v:declVal)=>`(noncomputable abbrev $i $s $v:declVal)
local macro_rules | `(def $i $b*:$t $v:declVal)=>`(theorem $i $b*:$t $v:declVal)
local macro_rules | `(⇑$x)=>`(some (.ref $x))
local macro_rules | `(↥$x)=>`(some (.int $x))
local macro_rules | `(tactic| get_elem_tactic_extensible)=>`(tactic| omega)
local macro_rules | `(tactic| walk_at "o") => `(tactic| first|exact Or.inl rfl|exact Or.inr rfl)
local macro_rules | `(tactic| walk_at "s") => `(tactic| exact ⟨rfl,rfl,rfl,by decide +kernel,rfl,by decide +kernel,by decide +kernel⟩)
open PySem.Challenge renaming pw_vesselhall_k91_not_even_not_now->PW91
open List renaming length_map->Rm,getElem?_eq_getElem->Rn,getElem?_eq_some_iff->Rq,getD_eq_getElem?_getD->Rr,getElem?_map->Rt,mem_cons_self->Ru,map_append->Rx,mem_of_getElem?->Ry,mem_cons_of_mem->RA,length_append->RF,take_of_length_le->RG,exists_cons_of_length_eq_add_one->RH,mem_singleton->RL,mem_map->RO,take_add_one->RP,range->RQ,length_take->RT,mem_append_right->RU,mem_cons->RW,mem_append->RX,size_toArray->RZ,length_range->R5,mem_append_left->Sa,replicate->Sg,length_cons->Sn,mem_range->Sr,getElem?_eq_none->Sw,map_cons->Sy,mem_filter->SG,nodup_cons->SJ,getElem?_range->SM,getElem?_of_mem->SN,getElem?_append_left->SO,eq_nil_of_length_eq_zero->SX,take_length->SZ,mem_iff_getElem->Tc,getElem_mem->Td,append_assoc->Tf,getElem?_append_right->Tj,filter_cons_of_neg->Tl,length_drop->Ts,map_map->Tv,contains_iff_mem->TB,length_filter_le->TC,filter_cons_of_pos->TH,mem_map_of_mem->TN,length_singleton->TQ,length_eq_zero_iff->TW,zip->TZ,mem_of_mem_take->T0,length->Ue,foldl_append->Ug,append_nil->Up,nodup_nil->Uu,drop_of_length_le->Ux,find?_cons->UA,nil_append->UO,range_succ->UQ,map_congr_left->US,getElem?_set_self->UU,length_eq_one_iff->UV,lookup_cons->UZ,not_mem_nil->U0,length_replicate->U5,findIdx?_eq_some_iff_getElem->U7,getElem?_zip_eq_some->U8,drop_eq_getElem_cons->U9,findIdx?_eq_none_iff->U_,filterMap_cons->Vn,replicate_succ->Vp,exists_cons_of_length_pos->Vx,drop_eq_nil_of_le->VC,filter_append->VD,length_nil->VF,getElem?_toArray->VL,getElem?_zipWith->VM,nodup_append->VP,getElem?_set_ne->VT,mem_of_mem_drop->VX,getElem_inj->V1,zipWith->V6,length_pos_iff->Wi,length_set->Ws,mem_filterMap->Ww,pairwise_cons->WC,map_singleton->WD,take->WG,getElem?_cons_succ->WH,take_sublist->WP,flatten_cons->WR,eraseIdxIfInBounds_toArray->W1,singleton_append->W5,take_append_drop->W6,cons_append->W9,all_eq_true->Xf,nodup_range->Xh,range'->Xu,forall_mem_cons->Xv,take_append_of_le_length->Xy,foldl_cons->Xz,dropLast_concat_getLast->XI,map_nil->XM,find?_eq_none->X9,ext_getElem?->Yj,getElem?_take_of_lt->Yp,length_pos_of_mem->YV,filter_eq_nil_iff->YW,of_mem_zip->YZ,drop_zero->Zg,length_eraseIdx->Zn,drop->Zu,length_zipWith->Zz,flatMap_append->ZB,any_cons->ZG,take_nil->ZK,map_drop->ZN,contains_cons->ZX,getElem?_take->Z2,getElem?_drop->Z3,map_inj_right->Z4,reverse_cons->Zam,mem_range'_1->Zan,getElem?_inj->Zar,filter_congr->Zaw,filter_cons->ZaR,mem_flatMap->ZaX,length_zip->Zbg,foldl->Zbp,drop_nil->ZbI,all_cons->ZbK,map_take->ZbL,Perm->ZbN,map->ZbO
open PySem renaming wpAny_bind->Ro,Value->Rs,Shared->RC,wpAny_pure->RE,Program->RM,World->R4,Around->SC,wpAny_mono->SW,importedModules->Tk,wpAny_newObj_type->TK,wpAny_holding->TM,wpAny_Call_Name_kw->TX,Builtin->Ub,wpAny_call_entry->Ud,wpAny_truthy_bool->Uf,SetTable->Uk,wpAny_execs_nil->Uo,wpAny_callSpecial?_slot->Ut,wpAny_setField->Uv,wpAny_loadPart_at->Uw,codeAny_call_builtin->UH,wpAny_typeNameOfWhole_keyiter->UI,FuncData->UR,sizeLine_eq->UY,treeTable->Va,wpAny_passesOwn->Vb,World->Vd,wpAny_field->Vf,wpAny_attempt->Vm,mem_of_lookup->Vo,wpAny_getItem_str_slice->Vw,ClassData->VJ,wpAny_execs_cons->V2,codeAny_mono->V3,wpAny_askSetting->V7,wpAny_isSubtype_exc->Wf,OsState->Wk,wpAny_standAt->Wm,codeAny_builtin->Wu,wpAny_call->Wx,tupleKind_room_in1->Wz,wpAny_setField_rec->WB,isSubtype_type->WV,wpAny_setState_of->WY,call_meets->Xa,wpAny_isInstance->Xe,wpAny_setEntries_of->XJ,DictEntry->XR,wpAny_fieldsOf->XZ,wpAny_seqItems->X2,wpAny_pyIter_list->Yc,wpAny_pyIter_slot->Yg,wpAny_dictEntries->Yh,wpAny_of_eq->Yi,wpAny_comprehension_free->Yq,PassesOwn->Yw,NameKind->Yx,Within->YJ,wpAny_rule->YK,ExcBaseFacts->YR,codeAny_of_tree->Y1,wpAny_dictEpoch->Y2,wpAny_isTrue_Compare1->Y5,wpAny_isOneOf_keyiter->Y8,builtinLookup_eq_fast->Y9,wpAny_Expr_any->Zb,wpAny_bindName->Zc,isSubtype_stop->Zh,wpAny_newTuple->Zi,OsState->Zr,OwnTail->Zt,wpAny_handled->ZH,strLen_append->ZM,call->ZT,wpAny_pyIter_tuple->ZV,Shared->Z_,BindsTo->Zah,seqIndex_neg->Zai,Result->ZaM,putSet_of->ZaV,Walks->Za1,seqIndex_of->Za2,wpAny_throw->Za6,Keyword->Zbj,GenState->Zbm
open PySem.Heap renaming get?_push_of_some->Rv,lt_size->RV,get?_push_size->Sb,get?_update_self->SQ,get?_update_other->Uc,SameBut->UT,size_push->U3,get?_update_ne->Wg,get?_none_of_le->Xp,get?_push_cases->Zj,NotedW->Za3,ExtBut->Za5,SlotsOnly->Zbs
open Nat renaming le_refl->RB,pow_le_pow_right->RJ,le_trans->RN,lt_of_le_of_lt->RS,lt_of_lt_of_le->R3,mul_le_mul_left->Sh,ne_of_lt->Si,gcd->So,mul_pos->Sq,mul_le_mul_right->Sv,mul_assoc->SA,zero_le->SD,mul_le_mul->SE,lt_trans->SY,pos_of_ne_zero->Ta,pow_pos->To,mul_comm->Tu,pos_of_mul_pos_left->TJ,le_mul_of_pos_left->TL,pow_succ->TU,Coprime->T6,pow_lt_pow_right->T8,not_lt_zero->T_,le_of_lt->UC,ne_of_gt->UD,le_of_dvd->UF,mul_left_comm->UK,le_mul_of_pos_right->UL,lt_irrefl->UX,strongRecOn->Vc,pow_add->Vj,one_pos->Vk,pow_le_pow_left->Vq,succ_mul->Vz,mul_one->VZ,pow_zero->V8,add_le_add_left->We,le_succ->WF,one_mul->WK,zero_add->WM,coprime_one_right->W7,succ_le_succ->W_,min_eq_right->Xc,mul_lt_mul''->Xg,gcd_dvd_left->Xi,log2_self_le->Xj,min_eq_left->XD,le_self_pow->XH,zero_mul->XQ,log2_lt->Ye,dvd_mul_right->Yo,lt_succ_iff_lt_or_eq->Ys,min_le_right->YA,lt_succ_self->YB,mul_div_cancel_left->YH,add_comm->YN,le_of_eq->YO,succ_pos->YT,lt_or_ge->YX,pow_mul->Zo,le_log2->Zp,dvd_trans->ZO,lt_of_le_of_ne->ZY,eq_zero_or_pos->Z5,sub_self->Zas,lt_succ_of_lt->Zau,lt_trichotomy->Zax,le_succ_of_le->Zaz,dvd_refl->ZaC,gcd_dvd_right->ZaD,lt_log2_self->ZaY,two_pow_pos->Zbf,sub_le->ZbB
open Option renaming map_eq_some_iff->RD,bind_eq_some_iff->Vr,isSome_iff_exists->Wn,map_some->XA,toList_some->X8,getD_some->YG,isSome_map->Zak,getD_none->ZaN
open Option.some renaming inj->RY
open PySem.Value renaming ref->R_,none->Tx,isInt->Uz,int->VH,type->Wv,bool->XS,str->Yv,isStrOf->ZE,float->ZaZ,scannable->Zbe,builtin->ZbF
open Rat renaming divInt->Sc,mul_assoc->SV,num_divInt_den->T7,mul_one->Uh,divInt_eq_divInt_iff->Ul,divInt_mul_divInt->U6,intCast_mul->VG,divInt_eq_div->VQ,mul_pos->VY,pow_succ->V9,one_mul->WJ,inv_pos->WL,num_nonneg->WZ,pow_zero->W0,le_of_lt->XO,intCast_inj->Y4,div_mul_cancel->Z6,mul_inv_cancel->Z7,add_zero->ZaA,mul_comm->ZaF,num_eq_zero->Zbh,inv_divInt->ZbA
open Bool renaming false_ne_true->Sd,eq_iff_iff->UP,false_eq_true->U2,and_eq_true_iff->VS,and_eq_true->V5,eq_false_iff->WT,noConfusion->ZaP,false_and->Zbn,and_false->Zbq,false_or->ZbD
open Int renaming natAbs_natCast->Se,toNat_natCast->Su,natAbs_mul->SL,emod_lt_of_pos->S_,natCast_mul->Th,emod_nonneg->Tt,mul_eq_zero->TF,mul_assoc->Ua,zero_add->Vi,mul_add->Vy,add_zero->VA,neg_mul->VW,eq_of_mul_eq_mul_left->Wa,mul_fdiv_cancel_left->Wr,mul_comm->WU,mul_zero->WW,zero_mul->WX,mul_fdiv_cancel'->Xx,gcd_eq_natAbs_gcd_natAbs->XG,fdiv_eq_ediv_of_nonneg->XW,fmod_eq_emod_of_nonneg->XX,natCast_nonneg->X4,gcd_dvd_right->Yk,neg_dvd->Yl,one_mul->Ym,natAbs_add_le->Yn,pos_of_mul_pos_right->Yt,gcd_dvd_left->YC,gcd_mul_left->YD,fmod_nonneg_of_pos->YU,mul_ne_zero->Y3,fdiv->Zk,add_mul->Zl,sub_mul->Zq,toNat_of_nonneg->ZA,fmod_lt_of_pos->Z1,gcd->Zao,fmod->Zap,fmod_def->Zaq,emod_eq_of_lt->Zay,mul_left_comm->ZaE,mul_neg->Za7,mul_sub->Za8,mul_pos->Za9,mul_nonneg->Zby,natAbs->Zbz
open Array renaming length_toList->Sj,getElem?_toList->Sk,getElem?_eq_some_iff->TY,getElem?_eq_none->UW,getElem?_setIfInBounds_ne->W2,toArray_toList->Xs,append_empty->ZP,append_assoc->ZU,ext_getElem?->ZZ,mk->Zbk
open PySem.W.Dat renaming int->Ss,str->YS,bool->ZaU
open PySem.W renaming mg_of->SB,kia_one->T9,boot_heap->Ui,view->Um,fnOf->Uq,keepIn->UG,findIn->Vt,codeIn->Vu,hideAll->VE,nsIn->V4,recOk->Wj,excIn->Wo,xlAt->WN,kitOne->WO,looks_findIn->WS,kHook->Xl,kqd_lay->XB,of_hideAll->XT,notCls->XY,methodObj->Yb,specialIn->Yd,openSeen->Yu,cellsFrom_some->YL,instObj->YY,lookIn->Zd,recFacts_of->Zv,hideAll_get->Zw,LeftO->ZC,WalkO->ZD,mroIn->ZF,boot_drawn->ZQ,holds_open->ZR,callWith_K->ZW,mg_none_of->Z8,Frag->Z9,hasDictIn->Zac,kitx_list->Zad,kitx_dict->Zae,Looks->Zal,boot_toks->ZaG,openGood->ZaH,plainGet->ZaL,kqd_layL->ZaQ,kdl_call->ZaT,looks_mroIn->Za4,takesIn->Zba,OpenLaw->Zbb,kqd_any->Zbc,SharedT->Zbi,XL->Zbl,kitCls->Zbr,KdlSrc->Zbu,xl_of->ZbC,clsIn->ZbE
open Nat.succ renaming inj->SK
open PySem.Builtin.Str renaming strSliceIndices->SR
open PySem.Obj renaming mapFields->SU,data_mapFields->Tz,isFreed_of_fields->Uj,cls_mapFields->VO,mapSeq->Wy,putSet->X5
open PyProof.Rows renaming callWith_type1->Tb,callWith_builtin1->Vv,IntsAre->VN,AllBare->Xk,assignInOrder_cons->XV,intBits_le->Yz,subscriptTail_builtinR->YM,floordiv_int->Zab
open PySem.Heap.SameBut renaming update->Tq
open PySem.F renaming slot_dict_keyiterator_next->Ur,plainAttrs_list->UM,called_set->VB,excAttr_ValueError->VU,slot_dict_get->W4,args_dict_keyiterator_next_1->Xd,entry_dict_keyiterator_next->Xr,slot_tuple_iterator_next->X0,excBase_ValueError->X_,args_dict_get_2->Yy,entry_dict_get->YQ,slot_list_pop->Y_,type_list_pop->Za,excBase_ValueError->Zf,entry_list_pop->ZaO,slot_dict_iter->ZaS
open False renaming elim->Us
open PySem.SetTable renaming grown->Uy,below->U4,insertAt->Vh,fill->Xm,turns->Zm,bits->ZI,fits->ZJ,layClean->Zat,tooFull->ZaW,probe->Zbv
open True renaming intro->UB
open List.cons renaming inj->UE
open Ne renaming symm->UJ
open PySem.Calls renaming spliced_cons->U1,spliced_nil->Ve,callWith_builtin->WQ,evalArgs_plain->Xq,Name_function_global->XU
open PySem.Str renaming ofString->Vg,empty->VI,length_append->ZaB,length->Zbo
open PySem.Builtin.List renaming listTooLong->Vl,listLengthHint->XN,listFitsIndex->X6
open Prod.mk renaming inj->VR,injEq->ZbJ
open Sum renaming inl->V0,inr->YI
open PySem.Builtin.SmallTypes renaming nextOf->V_,ownedTupleHandOut->Wh,iterAll->X3
open Classical renaming byContradiction->Wc
open PySem.Paired renaming length->Wl
open PySem.Code renaming quiet_builtin->WA,isFrame->Zag
open Sum.inl renaming inj->WE
open PyProof.Rows.F renaming plain_set_update_loop->WI,entry_set_update_loop->YE
open Nat.Coprime renaming dvd_of_dvd_mul_left->W3,mul_right->W8
open PySem.W.Looks renaming here->Xb
open Int.ofNat renaming inj->Xn
open Prod renaming ext->Xo,snd->X7,fst->YF
open PySem.Around renaming under_plainId->Xw,under->Zaf
open ForInStep renaming yield->XC
open PySem.Builtin.Frozenset renaming updateFrom->XE
open PySem.Builtin renaming divisionGoesByPylong->XF
open PySem.NameKind renaming cell->Yr,free->ZbH
open PySem.PassesOwn renaming never->Y0
open PySem.Builtin.Int renaming intTooBig->Y6,intBits->Zx
open PySem.Builtin.Dict renaming showsAll->Y7
open PySem.Heap.UpToSlots renaming trans->Ze
open PySem.Data renaming cell->Zs,fields->Za0,seq->ZbP
open PySem.EntryCells renaming newEntry->Zy
open PySem.W.Hook renaming keeps->ZS,says->Zaa,obs->ZaI,val->ZaJ,of->Za_
open List.Pairwise renaming nil->Zaj
open String renaming splitOnAux->Zav,splitOn->Zbw
open PySem.W.XL renaming keeps->ZaK
open PySem.PyData renaming depthAll->Zbd
open PySem.Bind renaming checkArgs->Zbt
open List.Perm renaming refl->Zbx
open PySem.Value.ref renaming inj->ZbG
open PySem.Txt renaming slice->ZbM
nonrec abbrev Fg := Z9
local macro_rules | `(tactic| walk_at "t")=>`(tactic| simp only[ZbO,Ue,Sg,W9,UO,WM,Nat.reduceAdd,Nat.reduceSub])
def ex2{α:Type}{us:List α}(h:us.length=2):∃a b,us=[a,b]:=by
 match us,h with
 |[a,b],_=>exact⟨a,b,rfl⟩
namespace HdT
open PySem PySem.W
abbrev FJ:BT->Nat->List Obj->BT
 |T,_,[]=>T
 |T,n,o :: os=>FJ (T.ins n o) (n+1) os
abbrev kX:BT->Nat->List Obj->Bool
 |_,_,[]=>true
 |T,n,o :: os=>match ((T.ins n o).get n).isSome with
  |true=>kX (T.ins n o) (n+1) os
  |false=>false
def vD:∀(os:List Obj) (T:BT) (n:Nat) (life:Life),kX T n os=true->absHeap (FJ T n os) (n+os.length) life=⟨(absHeap T n life).objs++os.toArray,life⟩
 |[],T,n,life,_=>by
  show absHeap T n life=_;rw[show([]:List Obj).toArray = #[] from rfl,ZP];rfl
 |o :: os,T,n,life,h=>by
  unfold kX at h;split at h
  .rename_i e;have ih:=vD os (T.ins n o) (n+1) life h;rw[absHeap_ins e] at ih;show absHeap (FJ (T.ins n o) (n+1) os) (n+(os.length+1)) life=_;rw[show n+(os.length+1)=n+1+os.length by lia,ih];show Heap.mk ((absHeap T n life).objs.push o++os.toArray) life=Heap.mk ((absHeap T n life).objs++(o :: os).toArray) life;congr 1;simp
  .cases h
abbrev Eg(tb:String->Option Ub)(p:RM)(w:R4)(n₀:Nat)(ann:Option Rs):Nat->Zbi->Thread->Option Zbi
 |0,_,_=>none
 |n+1,s,t=>match through t with
  |true=>some s
  |false=>match PySem.W.Fast.tw6613529449190102663 n₀ ann t with
   |false=>none
   |true=>match PySem.W.Fast.tw10156331382660048174 (PySem.W.Fast.tw11892475500146522536 tb) p w s t with
    |some (s',t')=>Eg tb p w n₀ ann n s' t'
    |none=>none
def zM{tb:String->Option Ub}{p:RM}{w:R4}{n₀:Nat}{ann:Option Rs}:∀{n:Nat} {s r:Zbi} {t:Thread},Eg tb p w n₀ ann n s t=some r->topRun tb p w n₀ ann n s.abs t=some r.abs
 |0,_,_,_,h=>by cases h
 |n+1,s,r,t,h=>by
  unfold Eg at h;rw[<-PySem.W.Fast.te6613529449190102663,<-PySem.W.Fast.te10156331382660048174,<-PySem.W.Fast.te11892475500146522536] at h;unfold topRun;cases he:through t with
  |true=>rw[he] at h;cases h;rfl
  |false =>
   rw[he] at h;cases hk:stepOk n₀ ann t with
   |false=>rw[hk] at h;cases h
   |true =>
    rw[hk] at h;cases hs:stepT (denote tb) p w s t with
    |none=>rw[hs] at h;cases h
    |some x=>obtain⟨s₂,t₂⟩:=x;rw[hs] at h;rw[stepT_spec hs];exact zM h
abbrev zd (P:Params) (os:Zr):Zbi:=⟨FJ .nil 0 (Ui P).objs.toList,(Ui P).objs.toList.length,(Ui P).life,Zbk [],ZQ,ZaG,os⟩
def wC{os:Zr}(h:kX .nil 0 (Ui P).objs.toList=true):(zd P os).abs=⟨Ui P,Zbk [],ZQ,ZaG,os⟩:=by
 have e:=vD (Ui P).objs.toList .nil 0 (Ui P).life h;rw[WM] at e;unfold Zbi.abs zd;simp only;rw[e];congr 1
abbrev ends (tb:String->Option Ub) (mods:List Str) (p:RM) (w:R4) (N:Nat) (os:Zr):Option RC :=
 match (Ui w.params).isNs mainGlobals with
 |true=>(Eg tb p w (Ui w.params).objs.size ((Ui w.params).nsMap mainGlobals "__annotations__") N (zd w.params os) (topStub p)).bind λr =>
   match staticsOk mods (Ui w.params) r.abs.heap && namesBound p r.abs.heap && gensDone r.abs && laidKept (Ui w.params) r.abs.heap with
   |true=>some r.abs
   |false=>none
 |false=>none
def KG{p:RM}{w:R4}{os:Zr}{r:RC}(g:kX .nil 0 (Ui w.params).objs.toList=true)(h:ends treeTable (importedModules p.main.body) p w N os=some r):topFrom treeTable p w N ⟨Ui w.params,Zbk [],ZQ,ZaG,os⟩=some r:=by
 unfold ends at h;unfold topFrom;cases hi:(Ui w.params).isNs mainGlobals with
 |false=>rw[hi] at h;cases h
 |true =>
  rw[hi] at h;simp only at h ⊢;obtain⟨x,hx,hr⟩:=Vr.mp h
  have:=zM hx
  rw[wC g] at this;show(topRun treeTable p w (Ui w.params).objs.size ((Ui w.params).nsMap mainGlobals "__annotations__") N ⟨Ui w.params,Zbk [],ZQ,ZaG,os⟩ (topStub p)).bind _=_;rw[this];exact hr
def left{α:Type}{Yf:RC->α}{Ya:R4->α}
  (e:opening p=plainProg p.main.scope.names) (hN:Nat.ble 600 N=true) (f:∀s,fenceModules? p s=some s) (g:∀w:R4,kX .nil 0 (Ui w.params).objs.toList=true)
  (h:∀w os,(ends treeTable (importedModules p.main.body) p w N os).map (λs=>(openSeen q loose (importedModules p.main.body) Xt true s,Yf s))=some (openGood q loose,Ya w)):LeftO p q loose Xt Yf Ya N:=λw=>by
 obtain⟨s,hs,hv⟩:=RD.mp (boot_open e hN f w);unfold openEnds;rw[hs];obtain⟨heap,gens,drawn,toks,os⟩:=s;obtain⟨h1,h2⟩:=VR hv;obtain⟨h2,h3⟩:=VR h2;obtain⟨h3,h4⟩:=VR h3;subst h1 h2 h3 h4;obtain⟨r,hr,hv⟩:=RD.mp (h w os);show(topFrom treeTable p w N _).map _=_;rw[KG (g w) hr];exact congrArg some hv
def cut4{α β γ δ ε ζ η θ ι:Type}{o:Option RC}{F:RC->α×β×γ×δ×ε×ζ×η×θ×ι}{a:α}{b:β}{c:γ}{d:δ}{e:ε}{f:ζ}{g:η}{h:θ}{i:ι}(h1:o.map (λs=>((F s).1,(F s).2.1))=some (a,b))(h2:o.map (λs=>(F s).2.2.1)=some c)(h3:o.map (λs=>((F s).2.2.2.1,(F s).2.2.2.2.1))=some (d,e))
  (h4:o.map (λs=>((F s).2.2.2.2.2.1,(F s).2.2.2.2.2.2.1,(F s).2.2.2.2.2.2.2.1,(F s).2.2.2.2.2.2.2.2))=some (f,g,h,i)):o.map F=some (a,b,c,d,e,f,g,h,i):=by
 cases o with
 |none=>cases h1
 |some s =>
  have k1:=VR (RY h1);have k3:=VR (RY h3);have k4:=VR (RY h4);have k5:=VR k4.2;have k6:=VR k5.2;exact congrArg some (Xo k1.1 (Xo k1.2 (Xo (RY h2) (Xo k3.1 (Xo k3.2 (Xo k4.1 (Xo k5.1 (Xo k6.1 k6.2))))))))
end HdT
namespace K91H
open PySem
nonrec abbrev ν:List Nat:=[1,2,3,4,5,6,7,8,9,10,11,12,13,14,15,17,18,19,20,21,22,24,25,26,27,28,29,30,31,33,34,35,36,38,39,40,41,42,43,45,46,48,49,50,51,52,53,55,56,57,58,59,60,61,63,64,65,66,67,68,69,71,72,73,74,75,76,77,79,80,81,82,83,84,85,86,87,88,89,90,91,92,93,94,95,96,97,98,99,100,101,102,103,104]
abbrev qv:PySem.Program:=Um PW91 ν
abbrev _root_.PySem.W.Fast.tw17928449763750117670:PySem.Program:=PW91
def _root_.PySem.W.Fast.te17928449763750117670:PW91=PySem.W.Fast.tw17928449763750117670:=rfl
def said(h:PySem.Challenge.rw_vesselhall_k91_not_even_not_now.row.Holds):PySem.Challenge.rw_vesselhall_k91_not_even_not_now.Holds:=by
 w_on;o_law;exact h
def booted{α:Type}{Yf:Z_->α}{Ya:Vd->α}(h:∀w os,(HdT.ends Va (Tk PW91.main.body) PW91 w 11544 os).map (λs=>(Yu q loose (Tk PW91.main.body) Xt true s,Yf s))=some (ZaH q loose,Ya w)):ZC PW91 q loose Xt Yf Ya 11544 :=
 HdT.left (by kernel_rfl) (by decide) (λs=>by kernel_rfl) (λw=>by kernel_rfl) h
local macro_rules | `(tactic| o_head $H)=>`(tactic| refine ZR (q:=K91H.qv) (loose:=[]) (Xt:=λs=>WN K91H.qv [] s && Wj [] s) (XP:=Zbl K91H.qv []) (Yf:=ZaI $H) (Ya:=ZaJ $H) (YP:=Zaa $H) (N:=11544) ?_ (Za_ $H) (ZS $H) (λs e=>ZbC s (VS.mp e).1) ZaK (by rfl) (by rfl) (by rfl) (λs e=>Zv (VS.mp e).2) (by rfl) (by first|assumption|decide +kernel) (by decide +kernel) ⟨rfl,rfl,rfl,rfl,rfl,by decide +kernel⟩ ?_ ?_)
open PySem.W PyProof.Rows in
def pre(hL:∀(α:Type) (Yf:Z_->α) (Ya:Vd->α),ZC PW91 qv [] (λs=>WN qv [] s && Wj [] s) Yf Ya 11544)(hP:PySem.Challenge.rw_vesselhall_k91_not_even_not_now.row.toRowW.promised)(hC:∀(YP:Vd->PySem.Heap->Prop) (d:DefRec),ZD qv [] (Zbl qv []) YP PySem.Challenge.rw_vesselhall_k91_not_even_not_now.row.toRowW d [] (λf vs=>ZT f vs)):PySem.Challenge.rw_vesselhall_k91_not_even_not_now.row.Holds:=by
 w_on;k_head
 .exact hL _ _ _
 .exact hP
 .exact hC _ _
abbrev asl:List Nat:=[2,3,15,22,23,24,25,28,35,36,37,40,47,48,49,52,59,60,61,64,71,72,73,76,83,84,85,88,95,96,97,100,107,109,110,112,113,114,115,116,119,126,128,129,131,132,133,134,135,138,145,147,148,150,151,152,153,154,157,164,165,166,169,176,177,178,181,188,189,190,193,200,201,202,205,212,213,214,217,219,220,222,223,224,226,227,229,230,231,233,234,236,237,238,240,241,243,244,245,247,248,250,251,252,254,255,257,258,259,261,262,264,265,266,269,270,271,274,275,276,278,279,281,282,283,286,287,288,291,292,293,295,296,298,299,300,302,303,305,306,307,308,310,311,313,314,315,317,318,320,321,322,324,325,327,328,329,332,333,334,337,338,339,342,343,344,346,347,349,350,351,353,354,356,357,358,360,361,363,364,365,368,369,370,373,374,375,377,378,380,381,382,384,385,387,388,389,391,392,394,395,396,398,399,401,402,403,405,406,408,409,410,412,413,415,416,417,418,421,422,423,426,427,428,430,431,433,434,435,437,438,440,441,442,445,446,447,450,451,452,454,455,457,458,459,462,463,464,467,468,469,471,472,474,475,476,478,479,481,482,483,485,486,488,489,490,492,493,495,496,497,499,500,502,503,504,506,507,509,510,511,513,514,516,517,518,520,521,523,524,525,527,528,530,531,532,535,536,537,539,540,542,543,544,546,547,549,550,551,553,554,556,557,558,560,561,563,564,565,567,568,570,571,572,574,575,577,578,579,582,583,584,586,587,589,590,591,593,594,596,597,598,600,601,603,604,624,626,627,629,630,631,634,635,636,639,640,641,643,644,646,647,648,650,651,653,654,655,658,659,660,663,664,665,667,668,670,671,672,674,675,677,678,679,681,682,684,685,686,688,689,691,692,693,695,696,698,699,700,703,704]
def asl_ok(P:PySem.Params):asl=(pre.heap_1 P).map (·.1):=by kernel_rfl
nonrec abbrev uS(w:Vd)(s:Z_):=Yu (Um PW91 ν) [] (Tk PW91.main.body) (λs=>WN (Um PW91 ν) [] s && Wj [] s) true s
open PySem.W PyProof.Rows in
def see1(w:Vd)(os:Wk):(HdT.ends Va (Tk PW91.main.body) PW91 w 11544 os).map (λs=>((uS w s).1,(uS w s).2.1))=some (expectedOf (Um PW91 ν),bltViewBooted):=by
 unfold uS;rw[PySem.W.Fast.te4187177175401517315,PySem.W.Fast.te5923862056798008813,PySem.W.Fast.te14364793385576792824,PySem.W.Fast.te17928449763750117670];kernel_rfl
open PySem.W PyProof.Rows in
def see2(w:Vd)(os:Wk):(HdT.ends Va (Tk PW91.main.body) PW91 w 11544 os).map (λs=>(uS w s).2.2.1)=some true:=by
 unfold uS;rw[PySem.W.Fast.te4187177175401517315,PySem.W.Fast.te5923862056798008813,PySem.W.Fast.te14364793385576792824,PySem.W.Fast.te17928449763750117670];kernel_rfl
open PySem.W PyProof.Rows in
def see3(w:Vd)(os:Wk):(HdT.ends Va (Tk PW91.main.body) PW91 w 11544 os).map (λs=>((uS w s).2.2.2.1,(uS w s).2.2.2.2.1))=some (true,pinGoodD (drecsOf (Um PW91 ν))):=by
 unfold uS;rw[PySem.W.Fast.te4187177175401517315,PySem.W.Fast.te5923862056798008813,PySem.W.Fast.te14364793385576792824,PySem.W.Fast.te17928449763750117670];kernel_rfl
open PySem.W PyProof.Rows in
def see4(w:Vd)(os:Wk):(HdT.ends Va (Tk PW91.main.body) PW91 w 11544 os).map (λs=>((uS w s).2.2.2.2.2.1,(uS w s).2.2.2.2.2.2.1,(uS w s).2.2.2.2.2.2.2.1,(uS w s).2.2.2.2.2.2.2.2))=some (plainGoodE (Um PW91 ν) (looseW (Um PW91 ν) []),plainGoodD (Um PW91 ν) [],wideGood (Um PW91 ν),clsGoodW (Um PW91 ν) []):=by
 unfold uS;rw[PySem.W.Fast.te4187177175401517315,PySem.W.Fast.te5923862056798008813,PySem.W.Fast.te14364793385576792824,PySem.W.Fast.te17928449763750117670];kernel_rfl
def seen(w:Vd)(os:Wk):(HdT.ends Va (Tk PW91.main.body) PW91 w 11544 os).map (λs=>Yu (Um PW91 ν) [] (Tk PW91.main.body) (λs=>WN (Um PW91 ν) [] s && Wj [] s) true s)=some (ZaH (Um PW91 ν) []):=HdT.cut4 (F:=λs=>uS w s) (see1 w os) (see2 w os) (see3 w os) (see4 w os)
def hook(w:Vd)(os:Wk):(HdT.ends Va (Tk PW91.main.body) PW91 w 11544 os).map (λs=>asl.map s.heap.get?)=some ((pre.heap_1 w.params).map λp=>some p.2):=by
 unfold asl;rw[PySem.W.Fast.te5923862056798008813,PySem.W.Fast.te14364793385576792824,PySem.W.Fast.te17928449763750117670];kernel_rfl
def hooks:ZC PW91 qv [] (λs=>WN qv [] s && Wj [] s) (λs=>asl.map s.heap.get?) (λw=>(pre.heap_1 w.params).map λp=>some p.2) 11544 :=
 booted (λw=>λos=>by
  obtain⟨s,e,a⟩:=RD.mp (seen w os)
  have b:=hook w os
  rw[e] at b ⊢
  exact congrArg some (Xo a (RY b)))
end K91H
namespace L2
open PySem PySem.Spec PyProof.Rows
nonrec abbrev ba:=Sum Int Str
abbrev n_:ba->Rs->Bool
 |.inl k,v=>Uz k v
 |.inr x,v=>ZE x v
abbrev PL(w:R4):ba->Int
 |.inl k=>hashInt k
 |.inr x=>hashStr w x
def bw:∀{k:ba} {v:Rs},n_ k v=true->(∃i t,k=V0 i/\v=VH i t)\/(∃x t,k=YI x/\v=Yv x t)
 |.inl i,v,h=>by
  obtain⟨t,e⟩:=Rs.isInt_shape (k:=i) (v:=v) h;exact .inl ⟨i,t,rfl,e⟩
 |.inr x,v,h=>by
  obtain⟨t,e⟩:=Rs.isStrOf_shape (x:=x) (v:=v) h;exact .inr ⟨x,t,rfl,e⟩
def Bm(i:Int)(t:Tok):n_ (.inl i) (.int i t)=true:=by simp[n_,Uz]
def Bl(x:Str)(t:Tok):n_ (.inr x) (.str x t)=true:=by simp[n_,ZE]
def Nm(a b:Int):decide ((V0 a:ba)=V0 b)=(a == b):=by
 by_cases e:a=b
 .subst e;simp
 .have h : ¬ (V0 a:ba)=V0 b:=λq=>e (WE q)
  rw[decide_eq_false h];exact(beq_eq_false_iff_ne.mpr e).symm
def Nj(a b:Str):decide ((YI a:ba)=YI b)=decide (a=b):=by
 by_cases e:a=b
 .subst e;simp
 .have h : ¬ (YI a:ba)=YI b:=λq=>e (YI.inj q)
  rw[decide_eq_false h,decide_eq_false e]
def Nl(a:Int)(b:Str):decide ((V0 a:ba)=YI b)=false:=decide_eq_false (λq=>nomatch q)
def Nk(a:Str)(b:Int):decide ((YI a:ba)=V0 b)=false:=decide_eq_false (λq=>nomatch q)
abbrev bv(prog:RM)(w:R4):PySem.KeyKind prog w ba where
 is:=n_
 hash:=PL w
 inj:=λv a b ha hb=>by
  rcases bw ha with⟨i,t,rfl,rfl⟩|⟨x,t,rfl,rfl⟩
  .rcases bw hb with⟨j,u,rfl,e⟩|⟨y,u,rfl,e⟩
   .injection e with e1 _;rw[e1]
   .exact nomatch e
  .rcases bw hb with⟨j,u,rfl,e⟩|⟨y,u,rfl,e⟩
   .exact nomatch e
   .injection e with e1 _;rw[e1]
 byValue:=λk v h=>by
  rcases bw h with⟨i,t,rfl,rfl⟩|⟨x,t,rfl,rfl⟩ <;> rfl
 pyHash:=λhv h=>by
  rcases bw hv with⟨i,t,rfl,rfl⟩|⟨x,t,rfl,rfl⟩
  .exact wpAny_pyHash_int h
  .exact wpAny_pyHash_str h
 eqBool:=λhu hv h=>by
  rcases bw hu with⟨i,t,rfl,rfl⟩|⟨x,t,rfl,rfl⟩
  .rcases bw hv with⟨j,u,rfl,rfl⟩|⟨y,u,rfl,rfl⟩
   .rw[Nm] at h;exact wpAny_eqBool_int h
   .rw[Nl] at h;exact SeqAt.EqAt.int_str i t y u _ _ _ _ h
  .rcases bw hv with⟨j,u,rfl,rfl⟩|⟨y,u,rfl,rfl⟩
   .rw[Nk] at h;exact SeqAt.EqAt.str_int x t j u _ _ _ _ h
   .rw[Nj] at h;exact wpAny_eqBool_str h
 «strs»:=λk x t v h=>by
  rcases bw h with⟨i,u,rfl,e⟩|⟨y,u,rfl,e⟩
  .exact nomatch e
  .injection e with e1 _
   subst e1;cases v <;> rfl
def tF(prog:RM)(w:R4)(i:Int)(t:Tok):(bv prog w).is (.inl i) (.int i t)=true:=Bm i t
def tE(prog:RM)(w:R4)(x:Str)(t:Tok):(bv prog w).is (.inr x) (.str x t)=true:=Bl x t
inductive V where
 |non|bl (b:Bool)|int (i:Int)|str (x:Str)|byt (b:Array UInt8)|flt (b:UInt64)|ref (a:Addr)|ty (n:String)
 deriving DecidableEq
abbrev RelV:V->Rs->Prop
 |.non,u=>u=Tx
 |.bl b,u=>u=XS b
 |.int i,u=>∃t,u=VH i t
 |.str x,u=>∃t,u=Yv x t
 |.byt b,u=>∃t,u=Rs.bytes b t
 |.flt b,u=>∃t,u=ZaZ b t
 |.ref a,u=>u=R_ a
 |.ty n,u=>u=Wv n
nonrec abbrev Vals:List V->List Rs->Prop:=Paired RelV
def Vals.length(r:Vals xs us):xs.length=us.length:=Wl r
def Vals.get:∀{xs:List V} {us:List Rs} {i:Nat} {x:V},Vals xs us->xs[i]?=some x->∃u,us[i]?=some u/\RelV x u
 |_,_,_,_,.nil,e=>by simp at e
 |_,_,0,_,.cons r _,e=>by simp at e;subst e;exact⟨_,rfl,r⟩
 |_,_,i+1,x,.cons _ t,e=>by
  obtain⟨u,h1,h2⟩:=Vals.get (i:=i) (x:=x) t (by simpa using e);exact⟨u,by simpa using h1,h2⟩
def Vals.set{x:V}{u:Rs}(r:RelV x u):∀{xs:List V} {us:List Rs} (i:Nat),Vals xs us->Vals (xs.set i x) (us.set i u)
 |_,_,_,.nil=>.nil
 |_,_,0,.cons _ t=>.cons r t
 |_,_,i+1,.cons q t=>.cons q (Vals.set r i t)
def Vals.append:∀{xs ys:List V} {us ws:List Rs},Vals xs us->Vals ys ws->Vals (xs++ys) (us++ws)
 |_,_,_,_,.nil,s=>s
 |_,_,_,_,.cons r t,s=>.cons r (Vals.append t s)
def Vals.take:∀{xs:List V} {us:List Rs} (n:Nat),Vals xs us->Vals (xs.take n) (us.take n)
 |_,_,0,_=>.nil
 |_,_,_+1,.nil=>.nil
 |_,_,n+1,.cons r t=>.cons r (Vals.take n t)
def Vals.drop:∀{xs:List V} {us:List Rs} (n:Nat),Vals xs us->Vals (xs.drop n) (us.drop n)
 |_,_,0,r=>r
 |_,_,_+1,.nil=>.nil
 |_,_,n+1,.cons _ t=>Vals.drop n t
abbrev RelO:Option V->Option Rs->Prop
 |some v,some u=>RelV v u
 |none,none=>True
 |_,_=>False
abbrev KV{κ:Type}:List (κ×V)->List (κ×Rs)->Prop:=Paired λ(p:κ×V) (q:κ×Rs)=>p.1=q.1/\RelV p.2 q.2
abbrev kV:ba->V
 |.inl i=>.int i
 |.inr x=>.str x
inductive HO where
 |lst (xs:List V)
 |tup (xs:List V)
 |dK (de:List (ba×V))|dT (de:List (List ba×V))
 |set (S:Int->Bool) (n:Nat)
 |ins (C dx:Addr) (fs:List (Str×V))
 |own (x:Addr)
 |xd (fs:List (Str×V))
 |met (f x:Addr)
 |rng (lo hi:Int)
 |frz (o:Obj) (u:HO)
 |tbl (ps:Array Rs)
 |ext (φ:Heap->Prop)
nonrec abbrev Hp:=Addr->Option HO
abbrev upd(H:Hp)(a:Addr)(o:HO):Hp:=λb=>if b=a then some o else H b
def ag:upd H a o a=some o:=by unfold upd;rw[if_pos rfl]
def aC{a b:Addr}(h:b≠a):upd H a o b=H b:=by unfold upd;rw[if_neg h]
def HF:upd (upd H a o) a u=upd H a u:=by
 funext b;unfold upd;split <;> rfl
def kG{H:Hp}{o u:HO}(h:H a=some o)(h':H b=some u)(d:o≠u):a≠b:=by
 intro e;subst e;rw[h] at h';exact d (RY h')
def au{H:Hp}{o:HO}(h:H a=some o)(h':H b=none):a≠b:=by
 intro e;subst e;rw[h] at h';cases h'
abbrev TupD (h:Heap) (a:Addr) (items:Array Rs):Prop:=∃o,h.get? a=some o/\(o.cls=.type "tuple"/\∃n,o.data=.seq items n)/\o.dict=none
def TupD.tup{h:Heap}{a:Addr}{items:Array Rs}(t:TupD h a items):IsTup h a items:=let ⟨o,e,c,_⟩:=t;⟨o,e,c⟩
def TupD.lt(t:TupD h a items):a<h.objs.size:=t.tup.lt
def TupD.new(h:Heap) (items:Array Rs):TupD (h.push {cls:=.type "tuple",data:=.seq items}) h.objs.size items:=⟨_,Sb _ rfl,⟨rfl,_,rfl⟩,rfl⟩
section
variable(P:RM)(w:R4)
abbrev bB(H:Hp)(h:Heap)(a:Addr):HO->Prop
 |.lst xs=>xs.length<=sizeLine/\∃(gV:List Rs) (n:Nat),Vals xs gV/\h.get? a=some {cls:=.type "list",data:=.seq gV.toArray n}
 |.tup xs=>xs.length<=sizeLine/\∃gV:List Rs,Vals xs gV/\TupD h a gV.toArray
 |.dK de=>de.length<=sizeLine/\(a == sysModules)=false/\∃vs,KV de vs/\h.DictOf (bv P w) a vs
 |.dT de=>de.length<=sizeLine/\(a == sysModules)=false/\∃xs:List (List ba×Addr×Rs),
   Paired (λ(p:List ba×V) (q:List ba×Addr×Rs)=>p.1=q.1/\H q.2.1=some (.tup (p.1.map kV))/\RelV p.2 q.2.2) de xs /\
   ∃o es ep,h.get? a=some o/\o.ExactDict/\o.data=.dict es ep/\es.toList=xs.map (entryOfKey (tupleKind (bv P w)))/\(xs.map (·.1)).Nodup
 |.set S n=>h.SetOf (intKind P w) a S n
 |.ins C dx fs=>H dx=some (.own a)/\fs.length<=1000/\dx≠a/\h.get? a=some (YY C dx) /\
   ∃mA,h.Ns1 dx mA/\(∀f,RelO (fs.lookup f) (mA f))/\YJ mA (fs.map (·.1))
 |.own _=>∃o,h.get? a=some o
 |.xd fs=>∃mA,h.Ns1 a mA/\∀f,RelO (fs.lookup f) (mA f)
 |.rng lo hi=>∃t u v,h.get? a=some {cls:=.type "range",data:=.fields #[.int lo t,.int hi u,.int 1 v]}
 |.frz o u=>h.get? a=some o/\bB H h a u
 |.tbl ps=>h.get? a=some {cls:=.none,data:=.fields ps}
 |.met f x=>h.get? a=some (Yb (.ref f) (.ref x))
 |.ext φ=>φ h/\(∃o,h.get? a=some o)/\∀h1 h2:Heap,φ h1->(∀o,h1.get? a=some o->h2.get? a=some o)->φ h2
abbrev HOk(H:Hp)(h:Heap):Prop:=∀a o,H a=some o->bB P w H h a o
end
section
variable{P:RM}{w:R4}{H H':Hp}{h h':Heap}{a:Addr}{o:HO}
def bB.lt(x:bB P w H h a o):a<h.objs.size:=by
 cases o with
 |lst xs=>obtain⟨_,_,_,_,e⟩:=x;exact RV e
 |tup xs=>obtain⟨_,_,_,p⟩:=x;exact p.lt
 |dK de=>obtain⟨_,_,_,_,o,_,_,e,_⟩:=x;exact RV e
 |dT de=>obtain⟨_,_,_,_,o,_,_,e,_⟩:=x;exact RV e
 |set S n=>obtain⟨o,_,_,_,e,_⟩:=x;exact RV e
 |ins C dx fs=>obtain⟨_,_,_,e,_⟩:=x;exact RV e
 |own y=>obtain⟨_,e⟩:=x;exact RV e
 |xd fs=>obtain⟨_,⟨_,_,_,e,_⟩,_⟩:=x;exact RV e
 |rng lo hi=>obtain⟨_,_,_,e⟩:=x;exact RV e
 |frz ob u=>obtain⟨e,_⟩:=x;exact RV e
 |tbl ps=>exact RV (show h.get? a=some _ from x)
 |met f y=>exact RV (show h.get? a=some _ from x)
 |ext φ=>obtain⟨_,⟨_,e⟩,_⟩:=x;exact RV e
def Paired.mapP{α β:Type}{F G:α->β->Prop}:∀{l₁:List α} {l₂:List β},Paired F l₁ l₂->(∀a b,F a b->G a b)->Paired G l₁ l₂
 |_,_,.nil,_=>.nil
 |_,_,.cons r t,f=>.cons (f _ _ r) (Paired.mapP t f)
def bB.stay(x:bB P w H h a o)(k:∀b u,(b=a\/H b=some (.own a))->h.get? b=some u->h'.get? b=some u)
  (ho:∀b,H b=some (.own a)->H' b=some (.own a)) (ht:∀b xs,H b=some (.tup xs)->H' b=some (.tup xs)):bB P w H' h' a o:=by
 induction o with
 |lst xs=>obtain⟨z,gV,n,r,e⟩:=x;exact⟨z,gV,n,r,k _ _ (.inl rfl) e⟩
 |tup xs=>obtain⟨z,gV,r,ob,e,c⟩:=x;exact⟨z,gV,r,ob,k _ _ (.inl rfl) e,c⟩
 |dK de=>obtain⟨z,y,vs,r,ob,es,ep,e,c⟩:=x;exact⟨z,y,vs,r,ob,es,ep,k _ _ (.inl rfl) e,c⟩
 |dT de =>
  obtain⟨z,y,xs,r,ob,es,ep,e,c⟩:=x;exact⟨z,y,xs,Paired.mapP r λp q z=>⟨z.1,ht _ _ z.2.1,z.2.2⟩,ob,es,ep,k _ _ (.inl rfl) e,c⟩
 |set S n=>obtain⟨ob,es,ep,t,e,c⟩:=x;exact⟨ob,es,ep,t,k _ _ (.inl rfl) e,c⟩
 |ins C dx fs =>
  obtain⟨d,z,ne,e,mA,⟨od,es,ep,e2,c⟩,r⟩:=x;exact⟨ho _ d,z,ne,k _ _ (.inl rfl) e,mA,⟨od,es,ep,k _ _ (.inr d) e2,c⟩,r⟩
 |own y=>obtain⟨ob,e⟩:=x;exact⟨ob,k _ _ (.inl rfl) e⟩
 |xd fs=>obtain⟨mA,⟨od,es,ep,e,c⟩,r⟩:=x;exact⟨mA,⟨od,es,ep,k _ _ (.inl rfl) e,c⟩,r⟩
 |rng lo hi=>obtain⟨t,u,v,e⟩:=x;exact⟨t,u,v,k _ _ (.inl rfl) e⟩
 |frz ob u ih=>obtain⟨e,q⟩:=x;exact⟨k _ _ (.inl rfl) e,ih q⟩
 |tbl ps =>
  have e:h.get? a=some {cls:=.none,data:=.fields ps}:=x;show h'.get? a=some {cls:=.none,data:=.fields ps};exact k a _ (.inl rfl) e
 |met f y =>
  have e:h.get? a=some (Yb (.ref f) (.ref y)):=x;show h'.get? a=some (Yb (.ref f) (.ref y));exact k a _ (.inl rfl) e
 |ext φ=>obtain⟨p,⟨o,e⟩,st⟩:=x;exact⟨st _ _ p λo q=>k _ _ (.inl rfl) q,⟨o,k _ _ (.inl rfl) e⟩,st⟩
def HOk.lt(x:HOk P w H h)(e:H a=some o):a<h.objs.size:=(x a o e).lt
def HOk.fresh(x:HOk P w H h)(e:h.objs.size<=a):H a=none:=by
 cases q:H a with
 |none=>rfl
 |some u=>exact absurd (R3 (x.lt q) e) (UX _)
def HOk.kept(x:HOk P w H h)(k:∀b u,h.get? b=some u->h'.get? b=some u):HOk P w H h':=λa o e =>
 (x a o e).stay (λb u _ q=>k b u q) (λ_ q=>q) λ_ _ q=>q
def HOk.laid(x:HOk P w H h)(k:∀b u,h.get? b=some u->h'.get? b=some u)(hp:h.objs.size<=a)(new:bB P w (upd H a o) h' a o):HOk P w (upd H a o) h':=λb u e=>by
 have hn:=x.fresh hp;by_cases hb:b=a
 .subst hb;rw[ag] at e;cases e;exact new
 .rw[aC hb] at e;exact(x b u e).stay (λc v _ q=>k c v q) (λc q=>by rw[aC (au q hn)];exact q) λc xs q=>by rw[aC (au q hn)];exact q
end
abbrev Rd(H:Hp)(a:Addr)(u:HO):Prop:=H a=some u\/∃o,H a=some (.frz o u)
def Rd.ok(r:Rd H a u)(x:HOk P w H h):bB P w H h a u:=by
 rcases r with r|⟨o,r⟩
 .exact x a u r
 .obtain⟨_,q⟩:=x a _ r;exact q
abbrev OM:Option HO->Prop
 |some (.lst _)=>True
 |some (.dK _)=>True
 |some (.dT _)=>True
 |some (.set _ _)=>True
 |some (.ins _ _ _)=>True
 |some (.ext _)=>True
 |_=>False
section
variable{P:RM}{w:R4}{H:Hp}{h h':Heap}{x e:Addr}{o':HO}
def HOk.write(ok:HOk P w H h)(mu:OM (H x))(he:e=x\/H e=some (.own x))(k:∀b u,b≠e->h.get? b=some u->h'.get? b=some u)(heo:∃u,h'.get? e=some u)
  (new:bB P w (upd H x o') h' x o'):HOk P w (upd H x o') h':=λb u q=>by
 have nown:∀c y,H c=some (.own y)->c≠x:=λc y r z=>by subst z;rw[r] at mu;exact mu
 have ntup:∀c xs,H c=some (.tup xs)->c≠x:=λc xs r z=>by subst z;rw[r] at mu;exact mu
 by_cases hb:b=x
 .subst hb;rw[ag] at q;cases q;exact new
 .rw[aC hb] at q;by_cases hbe:b=e
  .have q':H b=some (.own x):=by
    rcases he with z|z
    .exact absurd (hbe.trans z) hb
    .rw[hbe];exact z
   rw[q] at q';cases q';obtain⟨v,hv⟩:=heo;exact⟨v,by rw[hbe];exact hv⟩
  .refine(ok b u q).stay (λc v hc r=>k c v ?_ r) (λc r=>by rw[aC (nown c b r)];exact r) λc xs r=>by rw[aC (ntup c xs r)];exact r
   rcases hc with rfl|hc
   .exact hbe
   .rintro rfl;rcases he with z|z
    .exact nown c b hc z
    .rw[hc] at z;cases z;exact hb rfl
end
structure Un (fs ex:List Addr) (H H':Hp) (h h':Heap):Prop where
 keep:∀b o,h.get? b=some o->H b=none->b∉fs->b∉ex->h'.get? b=some o
 slot:∀b o,h.get? b=some o->H b=none->b∈fs->b∉ex->∃sl,h'.get? b=some {o with slots:=sl}
 free:∀b o,h.get? b=some o->H b=none->b∉ex->H' b=none
 there:∀b o,h.get? b=some o->b∉ex->∃o',h'.get? b=some o'
 tups:∀b xs,H b=some (.tup xs)->H' b=some (.tup xs)
 frzs:∀b o u,H b=some (.frz o u)->H' b=some (.frz o u)
 tbls:∀b ps,H b=some (.tbl ps)->∃more,H' b=some (.tbl (ps++more))
section
variable{fs fs' ex ex':List Addr}{H H1 H2:Hp}{h h1 h2 h':Heap}{a x e:Addr}{o:HO}
def Un.any(u:Un fs ex H H1 h h1){b:Addr}{ob:Obj}(q:h.get? b=some ob)(n:H b=none)(hx:b∉ex):∃sl,h1.get? b=some {ob with slots:=sl}:=by
 by_cases hb:b∈fs
 .exact u.slot b ob q n hb hx
 .exact⟨ob.slots,u.keep b ob q n hb hx⟩
def Un.kept(k:∀b u,h.get? b=some u->h'.get? b=some u):Un fs ex H H h h' :=
 ⟨λb ob q _ _ _=>k b ob q,λb ob q _ _ _=>⟨ob.slots,k b ob q⟩,λ_ _ _ n _=>n,λb ob q _=>⟨ob,k b ob q⟩,λ_ _ q=>q,λ_ _ _ q=>q,λ_ ps q=>⟨#[],by rw[q];simp⟩⟩
def Un.refl:Un fs ex H H h h:=Un.kept λ_ _ q=>q
def Un.laid(k:∀b u,h.get? b=some u->h'.get? b=some u)(hp:h.objs.size<=a)(hn:H a=none):Un fs ex H (upd H a o) h h' where
 keep:=λb u q _ _ _=>k b u q
 slot:=λb u q _ _ _=>⟨u.slots,k b u q⟩
 free:=λb u q n _=>by rw[aC (Si (R3 (RV q) hp))];exact n
 there:=λb u q _=>⟨u,k b u q⟩
 tups:=λb xs q=>by rw[aC (au q hn)];exact q
 frzs:=λb u xs q=>by rw[aC (au q hn)];exact q
 tbls:=λb ps q=>⟨#[],by rw[aC (au q hn),q];simp⟩
def Un.write(mu:OM (H x))(he:e=x\/H e=some (.own x))(k:∀b u,b≠e->h.get? b=some u->h'.get? b=some u)(heo:∃u,h'.get? e=some u):Un fs ex H (upd H x o) h h':=by
 have hx:∀b,H b=none->b≠x:=λb n z=>by subst z;rw[n] at mu;exact mu
 have hb:∀b,H b=none->b≠e:=λb n z=>by
  subst z;rcases he with r|r
  .exact hx b n r
  .rw[n] at r;cases r
 have hm:∀b u,H b=some u->¬ OM (some u)->b≠x:=λb u q nm z=>by subst z;rw[q] at mu;exact nm mu
 refine⟨λb u q n _ _=>k b u (hb b n) q,λb u q n _ _=>⟨u.slots,k b u (hb b n) q⟩,λb u q n _=>by rw[aC (hx b n)];exact n,λb u q _=>?_,
  λb xs q=>by rw[aC (hm b _ q λz=>z)];exact q,λb u xs q=>by rw[aC (hm b _ q λz=>z)];exact q,λb ps q=>⟨#[],by rw[aC (hm b _ q λz=>z),q];simp⟩⟩
 by_cases hbe:b=e
 .subst hbe;exact heo
 .exact⟨u,k b u hbe q⟩
end
abbrev OX(h:Heap)(H:Hp):List Addr:=(RQ h.objs.size).filter λa=>(H a).isSome
abbrev oz(h:Heap)(H:Hp):Heap:=VE h (OX h H)
def BC(h:Heap)(H:Hp):(oz h H).objs.size=h.objs.size:=PySem.W.hideAll_size _ _
def FG{h:Heap}{H:Hp}{b:Addr}{o:Obj}(e:h.get? b=some o)(n:H b=none):(oz h H).get? b=some o :=
 Zw _ e λhm=>by
  have q:(H b).isSome=true:=(SG.mp hm).2;rw[n] at q;simp at q
def JY{b:Addr}{o:Obj}(e:(oz h H).get? b=some o):h.get? b=some o/\H b=none:=by
 have e':h.get? b=some o:=XT (OX h H) e;refine⟨e',?_⟩;cases q:H b with
 |none=>rfl
 |some x =>
  have hm:b∈OX h H:=SG.mpr ⟨Sr.mpr (RV e'),by simp[q]⟩;have z:(oz h H).get? b=none:=PySem.W.hideAll_none (OX h H) hm;rw[z] at e;cases e
structure Mod (K:Fg) (mg:Str->Option Rs) (base:Heap):Prop where
 kin:K.In base
 glob:base.Ns mainGlobals mg
 blt:∃mb,base.Ns builtinsNs mb/\∀x:Str,x≠"__name__"->mb x=bootBuiltins x
 nolimit:base.NoLimit
structure Cx where
 prog:RM
 w:R4
 K:Fg
 mg:Str->Option Rs
 base:Heap
 A:SC
 N:List Str
 s₀:RC
 H₀:Hp
 env:Env
 outer:List Env
 stack:List Env
 ex:List Addr
 fn:Str->Bool
 calm:Bool
 pn:List (Addr×Obj)
 xe:Rs->RC->Prop
abbrev frs(l:List Env):List Addr:=l.filterMap (·.frame)
nonrec abbrev Cx.fs(X:Cx):List Addr:=frs X.outer
abbrev O1(sc:Scope)(x:Str):Prop:=sc.names.lookup x=some .local\/sc.names.lookup x=some .cell\/sc.names.lookup x=some .free
abbrev Loc(sc:Scope)(x:Str):Prop:=sc.names.lookup x=some .local\/sc.names.lookup x=some .cell
abbrev Look(env:Env)(h:Heap)(m:Str->Option Rs)(x:Str)(u:Rs):Prop :=
 (env.kindOf x=some .local/\m x=some u)\/((env.kindOf x=some .cell\/env.kindOf x=some .free)/\∃c,env.cells.lookup x=some c/\h.IsCell c (some u))
structure Cx.Ok (X:Cx):Prop where
 mod:Mod X.K X.mg X.base
 kind:X.env.scope.kind=.function
 glob:X.env.globals=mainGlobals
 blt:X.env.builtins=builtinsNs
 above:X.s₀.heap.objs.size<=X.env.locals
 inj:∀x y c,X.env.cells.lookup x=some c->X.env.cells.lookup y=some c->x=y
 has:∀x,(X.env.kindOf x=some .cell\/X.env.kindOf x=some .free)->∃c,X.env.cells.lookup x=some c
 cab:∀x c,X.fn x=true->X.env.cells.lookup x=some c->X.s₀.heap.objs.size<=c
 hd:X.calm=true->X.A.handled=none
 frames:X.A.frames=some X.stack
 stk:X.stack=X.outer\/(X.stack=X.env :: X.outer/\X.env.frame=some X.env.locals)
 exf:∀b∈X.ex,b≠X.env.locals/\∀x c,X.env.cells.lookup x=some c->c≠b
 bs:∀b o,X.base.get? b=some o->X.s₀.heap.get? b=some o/\X.H₀ b=none
 bsz:X.base.objs.size<=X.s₀.heap.objs.size
 noex:∀b o,X.base.get? b=some o->b∉X.ex
 exfs:∀b∈X.ex,b∉X.fs
 funs:X.s₀.heap.FunFrames X.base X.outer
 frf:∀b∈X.fs,X.H₀ b=none
structure Inv (X:Cx) (ξ:List (Addr×Obj)) (σ:List (Option V)) (H:Hp) (s:RC):Prop where
 ok:X.Ok
 os:s.os=X.s₀.os
 bare:Xk s.gens
 base:Un X.fs X.ex X.H₀ H X.s₀.heap s.heap
 loc:∃m,s.heap.Ns X.env.locals m/\∀(i:Nat) (x:Str) (v:V),X.N[i]?=some x->σ[i]?=some (some v)->O1 X.env.scope x->∃u,RelV v u/\Look X.env s.heap m x u
 cell:∀x c,X.env.cells.lookup x=some c->∃v,s.heap.IsCell c v
 free:H X.env.locals=none
 freeC:∀x c,X.env.cells.lookup x=some c->H c=none
 pin:∀p∈X.pn++ξ,s.heap.get? p.1=some p.2/\H p.1=none/\p.1≠X.env.locals/\p.1∉X.fs/\∀v,p.2.data≠.cell v
 hok:HOk X.prog X.w H s.heap
 len:σ.length=X.N.length
section
variable{X:Cx}{ξ:List (Addr×Obj)}{σ:List (Option V)}{H H':Hp}{s:RC}{h':Heap}
def Cx.Ok.nofr(ok:X.Ok){b:Addr}{o:Obj}(e:X.base.get? b=some o):b∉X.fs:=λhb=>by
 have:=(ok.funs.mem hb).1
 rw[e] at this;cases this
def Inv.bs(I:Inv X ξ σ H s):∀b o,X.base.get? b=some o->s.heap.get? b=some o/\H b=none:=λb o e =>
 ⟨I.base.keep b o (I.ok.bs b o e).1 (I.ok.bs b o e).2 (I.ok.nofr e) (I.ok.noex b o e),I.base.free b o (I.ok.bs b o e).1 (I.ok.bs b o e).2 (I.ok.noex b o e)⟩
def Inv.bk(I:Inv X ξ σ H s):∀b o,X.base.get? b=some o->s.heap.get? b=some o:=λb o e=>(I.bs b o e).1
def Inv.mod(I:Inv X ξ σ H s):Mod X.K X.mg X.base:=I.ok.mod
def Inv.kIn(I:Inv X ξ σ H s):X.K.In s.heap:=I.ok.mod.kin.keeps I.bk
def Inv.lt(I:Inv X ξ σ H s):X.env.locals<s.heap.objs.size:=let ⟨_,hn,_⟩:=I.loc;hn.lt
def Inv.sz(I:Inv X ξ σ H s):X.s₀.heap.objs.size<=s.heap.objs.size:=RN I.ok.above (UC I.lt)
def Inv.nofs(I:Inv X ξ σ H s){a:Addr}(h:s.heap.objs.size<=a):a∉X.fs:=λhb=>by
 obtain⟨_,o,ho,_⟩:=I.ok.funs.mem hb;exact absurd (R3 (RV ho) (RN I.sz h)) (UX _)
def Inv.cne(I:Inv X ξ σ H s):∀x c,X.env.cells.lookup x=some c->c≠X.env.locals:=λx c e z=>by
 obtain⟨v,o,ho,hd⟩:=I.cell x c e;obtain⟨m,⟨o',es,ep,ho',hd',_⟩,_⟩:=I.loc;rw[z,ho'] at ho;cases ho;rw[hd'] at hd;cases hd
def Inv.funs(I:Inv X ξ σ H s):s.heap.FunFrames X.base X.outer:=by
 have all:∀(l:List Env),(∀b∈frs l,b∈X.fs)->X.s₀.heap.FunFrames X.base l->s.heap.FunFrames X.base l:=by
  intro l
  induction l with
  |nil=>intro _ _;trivial
  |cons env r ih =>
   intro hs hl;obtain⟨hk,⟨L,o,hf,hn,ho,hd⟩,hr⟩:=hl;have hL:L∈X.fs:=hs L (by unfold frs;rw[Vn,hf];exact Ru);obtain⟨sl,e⟩:=I.base.slot L o ho (I.ok.frf L hL) hL λz=>I.ok.exfs L z hL
   exact⟨hk,⟨L,_,hf,hn,e,hd⟩,ih (λb hb=>hs b (by unfold frs;rw[Vn,hf];exact RA _ hb)) hr⟩
 exact all X.outer (λ_ hb=>hb) I.ok.funs
def Inv.stack(I:Inv X ξ σ H s):s.heap.FunFrames X.base X.stack:=by
 rcases I.ok.stk with e|⟨e,hf⟩
 .rw[e];exact I.funs
 .rw[e];obtain⟨m,hn,_⟩:=I.loc;refine .cons (by rw[I.ok.kind];decide) hf hn ?_ I.funs;exact Xp (RN I.ok.bsz I.ok.above)
def Inv.zc(I:Inv X ξ σ H s):∀b∈frs X.stack,b∈X.env.locals :: X.fs:=λb hb=>by
 rcases I.ok.stk with e|⟨e,hf⟩
 .rw[e] at hb;exact RA _ hb
 .rw[e] at hb;unfold frs at hb;rw[Vn,hf] at hb;exact hb
def Inv.ja(I:Inv X ξ σ H s):∀b∈frs X.stack,H b=none:=λb hb=>by
 rcases RW.mp (I.zc b hb) with e|hb
 .rw[e];exact I.free
 .obtain⟨_,o,ho,_⟩:=I.ok.funs.mem hb;exact I.base.free b o ho (I.ok.frf b hb) λz=>I.ok.exfs b z hb
def Inv.step{g':Array Zbm}{t':Nat}{d':Drawn}{ch:List Addr}(I:Inv X ξ σ H s)
  (hch:∀b∈ch,(b∈X.ex\/X.s₀.heap.objs.size<=b)/\b≠X.env.locals/\(∀x c,X.env.cells.lookup x=some c->c≠b)/\∀p∈X.pn++ξ,p.1≠b)
  (keep:∀b o,b≠X.env.locals->b∉X.fs->b∉ch->s.heap.get? b=some o->H b=none->h'.get? b=some o)
  (slot:∀b o,b≠X.env.locals->b∈X.fs->b∉ch->s.heap.get? b=some o->H b=none->∃sl,h'.get? b=some {o with slots:=sl}) (free:∀b o,b∉ch->s.heap.get? b=some o->H b=none->H' b=none)
  (there:∀b o,b∉ch->s.heap.get? b=some o->∃o',h'.get? b=some o')
  (tups:∀b xs,H b=some (.tup xs)->H' b=some (.tup xs)) (frzs:∀b o u,H b=some (.frz o u)->H' b=some (.frz o u)) (tbls:∀b ps,H b=some (.tbl ps)->∃more,H' b=some (.tbl (ps++more)))
  (ns:∀m,s.heap.Ns X.env.locals m->h'.Ns X.env.locals m) (hok:HOk X.prog X.w H' h') (hg:Xk g') :
  Inv X ξ σ H' {s with heap:=h',gens:=g',drawn:=d',toks:=t'}:=by
 have neL:∀b o,X.s₀.heap.get? b=some o->b≠X.env.locals:=λb o e=>Si (R3 (RV e) I.ok.above)
 have neC:∀b o,X.s₀.heap.get? b=some o->b∉X.ex->b∉ch:=λb o e hx hb=>by
  rcases (hch b hb).1 with z|z
  .exact hx z
  .exact absurd (R3 (RV e) z) (UX _)
 have cellK:∀x c,X.env.cells.lookup x=some c->∀v,s.heap.IsCell c v->h'.IsCell c v:=λx c e v ⟨o,ho,hd⟩=>by
  have nch:c∉ch:=λz=>(hch c z).2.2.1 x c e rfl
  by_cases hc:c∈X.fs
  .obtain⟨sl,q⟩:=slot c o (I.cne x c e) hc nch ho (I.freeC x c e);exact⟨_,q,hd⟩
  .exact⟨o,keep c o (I.cne x c e) hc nch ho (I.freeC x c e),hd⟩
 refine⟨I.ok,I.os,hg,⟨λb o e n hb hx=>?_,λb o e n hb hx=>?_,λb o e n hx=>?_,λb o e hx=>?_,λb xs e=>tups b xs (I.base.tups b xs e),λb o xs e=>frzs b o xs (I.base.frzs b o xs e),λb ps e=>?_⟩,?_,λx c e=>?_,?_,λx c e=>?_,λp hp=>?_,hok,I.len⟩
 .exact keep b o (neL b o e) hb (neC b o e hx) (I.base.keep b o e n hb hx) (I.base.free b o e n hx)
 .obtain⟨sl,e1⟩:=I.base.slot b o e n hb hx;obtain⟨sl',e2⟩:=slot b _ (neL b o e) hb (neC b o e hx) e1 (I.base.free b o e n hx);exact⟨sl',e2⟩
 .obtain⟨o',e1⟩:=I.base.there b o e hx;exact free b o' (neC b o e hx) e1 (I.base.free b o e n hx)
 .obtain⟨o',e1⟩:=I.base.there b o e hx;exact there b o' (neC b o e hx) e1
 .obtain⟨m1,e1⟩:=I.base.tbls b ps e;obtain⟨m2,e2⟩:=tbls b _ e1;exact⟨m1++m2,by rw[e2,ZU]⟩
 .obtain⟨m,hn,hl⟩:=I.loc;refine⟨m,ns m hn,λi x v e1 e2 e3=>?_⟩;obtain⟨u,r,l⟩:=hl i x v e1 e2 e3;refine⟨u,r,?_⟩;rcases l with l|⟨k,c,e,z⟩
  .exact .inl l
  .exact .inr ⟨k,c,e,cellK x c e _ z⟩
 .obtain⟨v,z⟩:=I.cell x c e;exact⟨v,cellK x c e v z⟩
 .obtain⟨m,⟨o,_,_,ho,_⟩,_⟩:=I.loc;exact free _ o (λz=>(hch _ z).2.1 rfl) ho I.free
 .obtain⟨v,o,ho,hd⟩:=I.cell x c e;exact free c o (λz=>(hch c z).2.2.1 x c e rfl) ho (I.freeC x c e)
 .obtain⟨e,n,ne,nf,d⟩:=I.pin p hp;have nch:p.1∉ch:=λz=>(hch p.1 z).2.2.2 p hp rfl
  exact⟨keep p.1 p.2 ne nf nch e n,free p.1 p.2 nch e n,ne,nf,d⟩
def Inv.un{t':Nat}(I:Inv X ξ σ H s)(u:Un X.fs [] H H' s.heap h')(hok:HOk X.prog X.w H' h'):Inv X ξ σ H' {s with heap:=h',toks:=t'}:=by
 obtain⟨m,⟨o,es,ep,ho,r⟩,_⟩:=id I.loc;obtain⟨sl,hL⟩:=u.any ho I.free (by simp)
 exact I.step (g':=s.gens) (d':=s.drawn) (ch:=[]) (λ_ z=>nomatch z) (λb o _ hb _ e n=>u.keep b o e n hb (by simp)) (λb o _ hb _ e n=>u.slot b o e n hb (by simp)) (λb o _ e n=>u.free b o e n (by simp)) (λb o _ e=>u.there b o e (by simp)) u.tups u.frzs u.tbls (λm' hm=>by
  obtain⟨o',es',ep',ho',r'⟩:=hm
  rw[ho] at ho';cases ho'
  exact⟨_,es',ep',hL,r'⟩) hok I.bare
def Inv.call{t':Nat}{d':Drawn}(I:Inv X ξ σ H s)(u:Un (frs X.stack) ch H H' s.heap h')(hok:HOk X.prog X.w H' h')(hg:Xk g')
  (hch:∀b∈ch,(b∈X.ex\/X.s₀.heap.objs.size<=b)/\b≠X.env.locals/\(∀x c,X.env.cells.lookup x=some c->c≠b)/\∀p∈X.pn++ξ,p.1≠b) :
  Inv X ξ σ H' {s with heap:=h',gens:=g',drawn:=d',toks:=t'}:=by
 obtain⟨m,⟨o,es,ep,ho,r⟩,_⟩:=id I.loc;obtain⟨sl,hL⟩:=u.any ho I.free λz=>(hch _ z).2.1 rfl
 exact I.step (ch:=ch) hch (λb o hL hb hc e n=>u.keep b o e n (λz=>(RW.mp (I.zc b z)).elim hL hb) hc) (λb o _ _ hc e n=>u.any e n hc) (λb o hc e n=>u.free b o e n hc) (λb o hc e=>u.there b o e hc) u.tups u.frzs u.tbls (λm' hm=>by
  obtain⟨o',es',ep',ho',r'⟩:=hm
  rw[ho] at ho';cases ho'
  exact⟨_,es',ep',hL,r'⟩) hok hg
def Inv.turned{t':Nat}{it:Addr}(I:Inv X ξ σ H s)(k:∀b o,b≠it->s.heap.get? b=some o->h'.get? b=some o)(hn:H it=none)(hL:it≠X.env.locals)
  (h1:it∈X.ex\/X.s₀.heap.objs.size<=it) (h2:∀x c,X.env.cells.lookup x=some c->c≠it) (h3:∀p∈X.pn++ξ,p.1≠it):Inv X ξ σ H {s with heap:=h',toks:=t'}:=by
 have nit:∀b u,H b=some u->b≠it:=λb u e z=>by rw[z,hn] at e;cases e
 refine I.step (g':=s.gens) (d':=s.drawn) (ch:=[it]) (λb hb=>?_) (λb o _ _ hc e _=>k b o (λz=>hc (by simp[z])) e) (λb o _ _ hc e _=>⟨o.slots,k b o (λz=>hc (by simp[z])) e⟩) (λ_ _ _ _ n=>n)
  (λb o hc e=>⟨o,k b o (λz=>hc (by simp[z])) e⟩) (λ_ _ e=>e) (λ_ _ _ e=>e) (λb ps e=>⟨#[],by rw[e];simp⟩) (λm hm=>?_) (λb u e=>?_) I.bare
 .have e:b=it:=by simpa using hb
  subst e;exact⟨h1,hL,h2,h3⟩
 .obtain⟨o,es,ep,ho,r⟩:=hm;exact⟨o,es,ep,k _ o (UJ hL) ho,r⟩
 .refine(I.hok b u e).stay (λc v hc q=>k c v ?_ q) (λ_ q=>q) λ_ _ q=>q
  rcases hc with z|z
  .rw[z];exact nit b u e
  .exact nit c _ z
def Inv.tok(I:Inv X ξ σ H s)(t:Nat):Inv X ξ σ H {s with toks:=t}:=I.un (h':=s.heap) (t':=t) Un.refl I.hok
def Inv.kept{t':Nat}(I:Inv X ξ σ H s)(k:∀b u,s.heap.get? b=some u->h'.get? b=some u):Inv X ξ σ H {s with heap:=h',toks:=t'}:=I.un (Un.kept k) (I.hok.kept k)
def Inv.laid{a:Addr}{t':Nat}(I:Inv X ξ σ H s)(k:∀b u,s.heap.get? b=some u->h'.get? b=some u)(hp:s.heap.objs.size<=a)(new:bB X.prog X.w (upd H a o) h' a o) :
  Inv X ξ σ (upd H a o) {s with heap:=h',toks:=t'}:=I.un (Un.laid k hp (I.hok.fresh hp)) (I.hok.laid k hp new)
def Inv.write{e:Addr}{t':Nat}(I:Inv X ξ σ H s)(mu:OM (H x))(he:e=x\/H e=some (.own x))(k:∀b u,b≠e->s.heap.get? b=some u->h'.get? b=some u)(heo:∃u,h'.get? e=some u)
  (new:bB X.prog X.w (upd H x o) h' x o):Inv X ξ σ (upd H x o) {s with heap:=h',toks:=t'}:=I.un (Un.write mu he k heo) (I.hok.write mu he k heo new)
def Inv.Ay{pins':List (Addr×Obj)}(I:Inv X ξ σ H s)(h:∀p∈pins',s.heap.get? p.1=some p.2/\H p.1=none/\p.1≠X.env.locals/\p.1∉X.fs/\∀v,p.2.data≠.cell v):Inv X pins' σ H s :=
 ⟨I.ok,I.os,I.bare,I.base,I.loc,I.cell,I.free,I.freeC,λp hp=>(RX.mp hp).elim (λz=>I.pin p (Sa _ z)) (h p),I.hok,I.len⟩
def nU{N:List Str}(hN:N.Nodup){i j:Nat}{x:Str}(a:N[i]?=some x)(b:N[j]?=some x):i=j:=by
 obtain⟨h1,e1⟩:=Rq.mp a;obtain⟨h2,e2⟩:=Rq.mp b;exact(V1 hN).mp (e1.trans e2.symm)
def o9{i:Nat}{x:Str}{Q:Unit->RC->Prop}(I:Inv X ξ σ H s)(hN:X.N.Nodup)(hi:X.N[i]?=some x)(hx:Loc X.env.scope x)(r:RelV v u)
  (h:∀s',Inv X ξ (σ.set i (some v)) H s'->(∃a,UT a s.heap s'.heap/\(a=X.env.locals\/X.env.cells.lookup x=some a))->Q () s') (hf:X.fn x=true\/X.env.scope.names.lookup x=some .local:=by first|exact .inl rfl|exact .inr rfl|assumption):wpAny M A (storeName X.env x u) Q E s:=by
 obtain⟨m,hn,hl⟩:=id I.loc;have hcls:(X.env.scope.kind == .class || (X.env.scope.kind == .module && X.env.locals != X.env.globals))=false:=by rw[I.ok.kind];rfl
 have hiσ:i<σ.length:=by rw[I.len];exact(Rq.mp hi).1
 have cne:=I.cne
 have tracked:∀{a:Addr} {h':Heap},(∃o,s.heap.get? a=some o/\H a=none)->UT a s.heap h'->HOk X.prog X.w H h':=λ{a h'} ha hs b ob e=>by
  obtain⟨_,_,hfree⟩:=ha;refine(I.hok b ob e).stay (λc w' hc q=>(hs.2 c ?_).trans q) (λ_ q=>q) λ_ _ q=>q
  rintro rfl;rcases hc with rfl|hc
  .rw[hfree] at e;cases e
  .rw[hfree] at hc;cases hc
 rcases hx with hk|hk
 .refine wpAny_storeName_local hk hn (λh' hn' hs=>?_) hcls;obtain⟨oL,_,_,hoL,_⟩:=id hn;refine h _ ⟨I.ok,I.os,I.bare,⟨λb o e n hb hx=>?_,λb o e n hb hx=>?_,I.base.free,λb o e hx=>?_,I.base.tups,I.base.frzs,I.base.tbls⟩,⟨_,hn',λj y v' e1 e2 e3=>?_⟩,λy c e=>?_,I.free,I.freeC,λp hp=>?_,tracked ⟨oL,hoL,I.free⟩ hs,by simpa using I.len⟩ ⟨_,hs,.inl rfl⟩
  .exact(hs.2 b (Si (R3 (RV e) I.ok.above))).trans (I.base.keep b o e n hb hx)
  .obtain⟨sl,e1⟩:=I.base.slot b o e n hb hx;exact⟨sl,(hs.2 b (Si (R3 (RV e) I.ok.above))).trans e1⟩
  .obtain⟨o',e1⟩:=I.base.there b o e hx;exact⟨o',(hs.2 b (Si (R3 (RV e) I.ok.above))).trans e1⟩
  .by_cases hj:j=i
   .subst hj;rw[hi] at e1;cases e1;rw[UU hiσ] at e2;cases e2;exact⟨u,r,.inl ⟨hk,by simp⟩⟩
   .rw[VT (UJ hj)] at e2;obtain⟨u',r',q⟩:=hl j y v' e1 e2 e3;refine⟨u',r',?_⟩;rcases q with⟨k,e⟩|⟨k,c,e,z⟩
    .refine .inl ⟨k,?_⟩
     have:y≠x:=λe=>hj (nU hN e1 (e ▸ hi))
     simp[this,e]
    .exact .inr ⟨k,c,e,z.sameBut hs (cne y c e)⟩
  .obtain⟨w',z⟩:=I.cell y c e;exact⟨w',z.sameBut hs (cne y c e)⟩
  .obtain⟨e,n,ne,nf,d⟩:=I.pin p hp;exact⟨(hs.2 p.1 ne).trans e,n,ne,nf,d⟩
 .have hfn:X.fn x=true:=by
   rcases hf with z|z
   .exact z
   .rw[z] at hk;cases hk
  obtain⟨c,hc⟩:=I.ok.has x (.inl hk);obtain⟨w',z⟩:=I.cell x c hc;refine wpAny_storeName_cell I.ok.kind hk hc z (λh' hc' hs=>?_);obtain⟨oc,hoc,hocd⟩:=id z;refine h {s with heap:=h'} ⟨I.ok,I.os,I.bare,⟨λb o e n hb hx=>?_,λb o e n hb hx=>?_,I.base.free,λb o e hx=>?_,I.base.tups,I.base.frzs,I.base.tbls⟩,⟨m,hn.sameBut hs (UJ (cne x c hc)),λj y v' e1 e2 e3=>?_⟩,λy c' e=>?_,I.free,I.freeC,λp hp=>?_,tracked ⟨oc,hoc,I.freeC x c hc⟩ hs,by simpa using I.len⟩ ⟨c,hs,.inr hc⟩
  .exact(hs.2 b (Si (R3 (RV e) (I.ok.cab x c hfn hc)))).trans (I.base.keep b o e n hb hx)
  .obtain⟨sl,e1⟩:=I.base.slot b o e n hb hx;exact⟨sl,(hs.2 b (Si (R3 (RV e) (I.ok.cab x c hfn hc)))).trans e1⟩
  .obtain⟨o',e1⟩:=I.base.there b o e hx;exact⟨o',(hs.2 b (Si (R3 (RV e) (I.ok.cab x c hfn hc)))).trans e1⟩
  .by_cases hj:j=i
   .subst hj;rw[hi] at e1;cases e1;rw[UU hiσ] at e2;cases e2;exact⟨u,r,.inr ⟨.inl hk,c,hc,hc'⟩⟩
   .rw[VT (UJ hj)] at e2;obtain⟨u',r',q⟩:=hl j y v' e1 e2 e3;refine⟨u',r',?_⟩;rcases q with q|⟨k,c',e,z'⟩
    .exact .inl q
    .refine .inr ⟨k,c',e,z'.sameBut hs ?_⟩;rintro rfl;exact hj (nU hN e1 (I.ok.inj _ _ _ e hc ▸ hi))
  .by_cases hcc:c'=c
   .subst hcc;exact⟨_,hc'⟩
   .obtain⟨w2,z2⟩:=I.cell y c' e;exact⟨w2,z2.sameBut hs hcc⟩
  .obtain⟨e,n,ne,nf,d⟩:=I.pin p hp;refine⟨(hs.2 p.1 ?_).trans e,n,ne,nf,d⟩;intro q;rw[q,hoc] at e;have q':oc=p.2:=RY e;exact d w' (by rw[<- q'];exact hocd)
def eZ{i:Nat}{x:Str}{Q:Unit->RC->Prop}(I:Inv X ξ σ H s)(hN:X.N.Nodup)(hi:X.N[i]?=some x)(hx:Loc X.env.scope x)(r:RelV v u)
  (h:∀s',Inv X ξ (σ.set i (some v)) H s'->Q () s') (hf:X.fn x=true\/X.env.scope.names.lookup x=some .local:=by first|exact .inl rfl|exact .inr rfl|assumption):wpAny M A (storeName X.env x u) Q E s :=
 o9 I hN hi hx r (λs' I' _=>h s' I') hf
def Inv.call'{s':RC}(I:Inv X ξ σ H s)(ho:s'.os=s.os)(u:Un (frs X.stack) ch H H' s.heap s'.heap)(hok:HOk X.prog X.w H' s'.heap)(hg:Xk s'.gens)
  (hch:∀b∈ch,(b∈X.ex\/X.s₀.heap.objs.size<=b)/\b≠X.env.locals/\(∀x c,X.env.cells.lookup x=some c->c≠b)/\∀p∈X.pn++ξ,p.1≠b):Inv X ξ σ H' s':=by
 obtain⟨h',g',d',t',o'⟩:=s';have e:o'=s.os:=ho;subst e;exact I.call (g':=g') (t':=t') (d':=d') u hok hg hch
end
nonrec abbrev XK:=Rs->Option Addr->Hp->Prop
nonrec abbrev St:=List (Option V)
nonrec abbrev VK:=V->Hp->Prop
nonrec abbrev TE:=St->Hp->VK->Prop
nonrec abbrev TT:=St->Hp->(Bool->Hp->Prop)->Prop
nonrec abbrev TA:=St->Hp->(List V->Hp->Prop)->Prop
structure bH where
 nx:St->Hp->Prop
 rt:VK
 bk:St->Hp->Prop:=λ_ _=>False
 ct:St->Hp->Prop:=λ_ _=>False
nonrec abbrev TS:=bH->St->Hp->Prop
abbrev EP(X:Cx)(ξ:List (Addr×Obj))(σ:St)(Q:VK)(u:Rs)(s':RC):Prop:=∃v H',Inv X ξ σ H' s'/\RelV v u/\Q v H'
abbrev TP(X:Cx)(ξ:List (Addr×Obj))(σ:St)(Q:Bool->Hp->Prop)(b:Bool)(s':RC):Prop:=∃H',Inv X ξ σ H' s'/\Q b H'
abbrev AP(X:Cx)(ξ:List (Addr×Obj))(σ:St)(Q:List V->Hp->Prop)(us:List Rs)(s':RC):Prop:=∃vs H',Inv X ξ σ H' s'/\Vals vs us/\Q vs H'
abbrev SP(X:Cx)(ξ:List (Addr×Obj))(D:bH)(f:Flow)(s':RC):Prop :=
 match f with
 |.next=>∃σ' H',Inv X ξ σ' H' s'/\D.nx σ' H'
 |.brk=>∃σ' H',Inv X ξ σ' H' s'/\D.bk σ' H'
 |.cont=>∃σ' H',Inv X ξ σ' H' s'/\D.ct σ' H'
 |.ret u=>∃v σ' H',Inv X ξ σ' H' s'/\RelV v u/\D.rt v H'
abbrev PE(X:Cx)(e:Expr)(t:TE):Prop :=
 ∀(ξ:List (Addr×Obj)) (s:RC) (σ:St) (H:Hp) (Q:VK),Inv X ξ σ H s->t σ H Q->wpAny (model X.prog X.w) X.A (eval e X.env) (EP X ξ σ Q) X.xe s
abbrev PT(X:Cx)(e:Expr)(t:TT):Prop :=
 ∀(ξ:List (Addr×Obj)) (s:RC) (σ:St) (H:Hp) (Q:Bool->Hp->Prop),Inv X ξ σ H s->t σ H Q->wpAny (model X.prog X.w) X.A (isTrue e X.env (eval e X.env)) (TP X ξ σ Q) X.xe s
abbrev PW(X:Cx)(e:Expr)(t:TT):Prop :=
 ∀(whole:Sem Rs) (ξ:List (Addr×Obj)) (s:RC) (σ:St) (H:Hp) (Q:Bool->Hp->Prop),Inv X ξ σ H s->t σ H Q->wpAny (model X.prog X.w) X.A (isTrue e X.env whole) (TP X ξ σ Q) X.xe s
def PW.pt(h:PW X e t):PT X e t:=h _
abbrev PA(X:Cx)(es:List Expr)(t:TA):Prop :=
 ∀(pos:Pos) (ξ:List (Addr×Obj)) (s:RC) (σ:St) (H:Hp) (Q:List V->Hp->Prop),Inv X ξ σ H s->t σ H Q->wpAny (model X.prog X.w) X.A (spliced (backTo pos (starEach es X.env))) (AP X ξ σ Q) X.xe s
abbrev PS(X:Cx)(st:Stmt)(t:TS):Prop :=
 ∀(ξ:List (Addr×Obj)) (s:RC) (σ:St) (H:Hp) (D:bH),Inv X ξ σ H s->t D σ H->wpAny (model X.prog X.w) X.A (exec st X.env) (SP X ξ D) X.xe s
abbrev PSs(X:Cx)(st:List Stmt)(t:TS):Prop :=
 ∀(ξ:List (Addr×Obj)) (s:RC) (σ:St) (H:Hp) (D:bH),Inv X ξ σ H s->t D σ H->wpAny (model X.prog X.w) X.A (execs st X.env) (SP X ξ D) X.xe s
def a5{α:Type}{t:Sem α}{Q Q':α->RC->Prop}(h:wpAny M A t Q E s)(hQ:∀a s,Q a s->Q' a s):wpAny M A t Q' E s:=SW h hQ λ_ _ x=>x
section
variable{X:Cx}
abbrev aa(i:Nat):TE:=λσ H Q=>∃v,σ[i]?=some (some v)/\Q v H
abbrev tC(v:V):TE:=λ_ H Q=>Q v H
def GN{i:Nat} {x:Str}  (hN:X.N[i]?=some x) (hv:O1 X.env.scope x) (hd:(x == ("__debug__":Str))=false:=by decide) (hcd:(x == ("__classdict__":Str))=false:=by decide):PE X (.Name x pos) (aa i):=by
 intro ξ s σ H Q I h;obtain⟨v,e,h⟩:=h;obtain⟨m,hn,hl⟩:=I.loc;obtain⟨u,r,l⟩:=hl i x v hN e hv;have fin:EP X ξ σ Q u s:=⟨v,H,I,r,h⟩
 rcases l with⟨hk,hm⟩|⟨hk,c,hc,hcell⟩
 .exact wpAny_Name (wpAny_loadName_local I.ok.kind hk hn hm fin) hd
 .rcases hk with hk|hk
  .exact wpAny_Name (wpAny_loadName_cell I.ok.kind hk hc hcell fin) hd
  .exact wpAny_Name (wpAny_loadName_free I.ok.kind hk hc hcell fin hcd) hd
def pZ{i j pos}:PE X (.Constant (.int i) j pos) (tC (.int i)):=λ_ _ _ H _ I h=>wpAny_Constant_int ⟨.int i,H,I.tok _,⟨_,rfl⟩,h⟩
def Ps{b j pos}:PE X (.Constant (.bool b) j pos) (tC (.bl b)):=λ_ _ _ H _ I h=>Constant_bool ⟨.bl b,H,I,rfl,h⟩
def Mw{j pos}:PE X (.Constant .none j pos) (tC .non):=λ_ _ _ H _ I h=>Constant_none ⟨.non,H,I,rfl,h⟩
def pX{x j pos}:PE X (.Constant (.str x) j pos) (tC (.str x)):=λ_ _ _ H _ I h=>Calls.Constant_str ⟨.str x,H,I.tok _,⟨_,rfl⟩,h⟩
abbrev Gl(X:Cx)(x:Str):Prop:=X.env.kindOf x=some .globalImplicit
def fZ{H:Hp}{u:Rs}{Q:Rs->RC->Prop}(I:Inv X ξ σ H s)(hg:Gl X x)(hm:X.mg x=some u)(h:Q u s)
  (hd:(x == ("__debug__":Str))=false:=by decide):wpAny (model X.prog X.w) X.A (eval (.Name x pos) X.env) Q E s :=
 XU I.ok.kind hg (Calls.loadGlobal_global (by rw[I.ok.glob];exact I.mod.glob.keeps I.bk) hm h) hd
def eO{H:Hp}{u:Rs}{Q:Rs->RC->Prop}(I:Inv X ξ σ H s)(hg:Gl X x)(hm:X.mg x=none)(hv:bootBuiltins x=some u)(h:Q u s)
  (hn:x≠"__name__":=by decide) (hd:(x == ("__debug__":Str))=false:=by decide):wpAny (model X.prog X.w) X.A (eval (.Name x pos) X.env) Q E s:=by
 obtain⟨mb,h1,h2⟩:=I.mod.blt;exact XU I.ok.kind hg (Calls.loadGlobal_builtin (by rw[I.ok.glob];exact I.mod.glob.keeps I.bk) hm (by rw[I.ok.blt];exact h1.keeps I.bk) ((h2 x hn).trans hv) h) hd
def bJ{u:Rs}  (hg:Gl X x) (hm:X.mg x=some u) (r:RelV v u) (hd:(x == ("__debug__":Str))=false:=by decide):PE X (.Name x pos) (tC v) :=
 λ_ _ _ H _ I h=>fZ I hg hm ⟨v,H,I,r,h⟩ hd
def tf{u:Rs}  (hg:Gl X x) (hm:X.mg x=none) (hv:bootBuiltins x=some u) (r:RelV v u) (hn:x≠"__name__":=by decide) (hd:(x == ("__debug__":Str))=false:=by decide):PE X (.Name x pos) (tC v) :=
 λ_ _ _ H _ I h=>eO I hg hm hv ⟨v,H,I,r,h⟩ hn hd
variable{a b:Expr}{ta tb:TE}{pos:Pos}
abbrev PC(X:Cx)(op:CmpOp)(a b:Expr)(t:TE):Prop :=
 ∀(ξ:List (Addr×Obj)) (s:RC) (σ:St) (H:Hp) (Q:VK),Inv X ξ σ H s->t σ H Q ->
  wpAny (model X.prog X.w) X.A (eval a X.env) (λv s₁=>wpAny (model X.prog X.w) X.A (eval b X.env) (λu s₂=>wpAny (model X.prog X.w) X.A (compareOp op v u) (EP X ξ σ Q) X.xe s₂) X.xe s₁) X.xe s
abbrev tB(t:TE):TT:=λσ H Q=>t σ H λx H1=>∃c,x=.bl c/\Q c H1
def Ml(h:PC X op a b t)(h1:behindInMarks op b=false:=by first|exact nobehind _ (by decide) (by decide)|rfl):PT X (.Compare a [op] [b] pos) (tB t):=by
 intro ξ s σ H Q I hw;refine Y5 (a5 (h ξ s σ H _ I hw) λv s1 h1=>a5 h1 λu s2 h2=>a5 h2 λc s3 ω=>?_) h1;obtain⟨x,H1,I1,r1,q1⟩:=ω;obtain⟨d,rfl,q⟩:=q1;cases r1;exact Uf ⟨H1,I1,q⟩
def uW(h:PE X e t)(he:∀whole,isTrue e X.env whole=(do let v <- whole;standAt e.pos;holding [v] (truthy v)):=by intro _;rfl):PT X e (tB t):=by
 intro ξ s σ H Q I hw;refine isTrue_plain (a5 (h ξ s σ H _ I hw) λv s1 ω=>?_) (he _);obtain⟨x,H1,I1,r1,q1⟩:=ω;obtain⟨d,rfl,q⟩:=q1;cases r1;exact Uf ⟨H1,I1,q⟩
variable{tA tB':TT}{rest:List Expr}
abbrev mn(t u:TT):TT:=λσ H Q=>t σ H λc H1=>if c=true then u σ H1 Q else Q false H1
abbrev Gw(t u:TT):TT:=λσ H Q=>t σ H λc H1=>if c=true then Q true H1 else u σ H1 Q
abbrev fR(t:TT):TT:=λσ H Q=>t σ H λc H1=>Q (!c) H1
def pw_and1(ha:PT X a tA):PW X (.BoolOp .And [a] pos) tA:=by
 intro wh ξ s σ H Q I h;refine isTrue_and (a5 (ha ξ s σ H Q I h) λc s1 e=>?_);cases c with
 |true=>exact isTrue_and_nil e
 |false=>exact e
def pw_or1(ha:PT X a tA):PW X (.BoolOp .Or [a] pos) tA:=by
 intro wh ξ s σ H Q I h;refine isTrue_or (a5 (ha ξ s σ H Q I h) λc s1 e=>?_);cases c with
 |false=>exact isTrue_or_nil e
 |true=>exact e
def pw_and(ha:PT X a tA)(hb:PW X (.BoolOp .And (b :: rest) pos) tB'):PW X (.BoolOp .And (a :: b :: rest) pos) (mn tA tB'):=by
 intro wh ξ s σ H Q I h;refine isTrue_and (a5 (ha ξ s σ H _ I h) λc s1 ω=>?_);obtain⟨H1,I1,q1⟩:=ω;cases c with
 |true=>exact hb wh ξ s1 σ H1 Q I1 q1
 |false=>exact⟨H1,I1,q1⟩
def pw_or(ha:PT X a tA)(hb:PW X (.BoolOp .Or (b :: rest) pos) tB'):PW X (.BoolOp .Or (a :: b :: rest) pos) (Gw tA tB'):=by
 intro wh ξ s σ H Q I h;refine isTrue_or (a5 (ha ξ s σ H _ I h) λc s1 ω=>?_);obtain⟨H1,I1,q1⟩:=ω;cases c with
 |true=>exact⟨H1,I1,q1⟩
 |false=>exact hb wh ξ s1 σ H1 Q I1 q1
def pT(ha:PT X a tA):PT X (.UnaryOp .Not a pos) (fR tA):=by
 intro ξ s σ H Q I h;exact isTrue_not (ha ξ s σ H (λc H1=>Q (!c) H1) I h)
abbrev wB(ta tb:TE):TE:=λσ H Q=>ta σ H λx H1=>∃c,x=.bl c/\if c=true then tb σ H1 Q else Q (.bl false) H1
abbrev H_(ta tb:TE):TE:=λσ H Q=>ta σ H λx H1=>∃c,x=.bl c/\if c=true then Q (.bl true) H1 else tb σ H1 Q
abbrev DU(ta:TE):TE:=λσ H Q=>ta σ H λx H1=>∃c,x=.bl c/\Q (.bl (!c)) H1
def Mu{op}(h:PE X a t):PE X (.BoolOp op [a] pos) t:=λξ s σ H Q I hw=>BoolOp_one (h ξ s σ H Q I hw)
def MD(ha:PE X a ta)(hb:PE X (.BoolOp .And (b :: rest) pos) tb):PE X (.BoolOp .And (a :: b :: rest) pos) (wB ta tb):=by
 intro ξ s σ H Q I h;refine BoolOp_and (a5 (ha ξ s σ H _ I h) λv s1 ω=>?_);obtain⟨x,H1,I1,r1,q1⟩:=ω;obtain⟨c,rfl,q1⟩:=q1;cases r1;refine Uf ?_;cases c with
 |true=>exact hb ξ s1 σ H1 Q I1 q1
 |false=>exact⟨.bl false,H1,I1,rfl,q1⟩
def Pm(ha:PE X a ta)(hb:PE X (.BoolOp .Or (b :: rest) pos) tb):PE X (.BoolOp .Or (a :: b :: rest) pos) (H_ ta tb):=by
 intro ξ s σ H Q I h;refine BoolOp_or (a5 (ha ξ s σ H _ I h) λv s1 ω=>?_);obtain⟨x,H1,I1,r1,q1⟩:=ω;obtain⟨c,rfl,q1⟩:=q1;cases r1;refine Uf ?_;cases c with
 |false=>exact hb ξ s1 σ H1 Q I1 q1
 |true=>exact⟨.bl true,H1,I1,rfl,q1⟩
def Mv(ha:PE X a ta):PE X (.UnaryOp .Not a pos) (DU ta):=by
 intro ξ s σ H Q I h;refine UnaryOp_ (a5 (ha ξ s σ H _ I h) λv s1 ω=>?_);obtain⟨x,H1,I1,r1,q1⟩:=ω;obtain⟨c,rfl,q1⟩:=q1;cases r1;exact not_of (Uf ⟨.bl (!c),H1,I1,rfl,q1⟩)
abbrev LG(t:TT)(ta tb:TE):TE:=λσ H Q=>t σ H λc H1=>if c=true then ta σ H1 Q else tb σ H1 Q
def EY(hc:PT X c tA)(ha:PE X a ta)(hb:PE X b tb):PE X (.IfExp c a b pos) (LG tA ta tb):=by
 intro ξ s σ H Q I h;refine wpAny_IfExp (a5 (hc ξ s σ H _ I h) λd s1 ω=>?_);obtain⟨H1,I1,q1⟩:=ω;cases d with
 |true=>exact ha ξ s1 σ H1 Q I1 q1
 |false=>exact hb ξ s1 σ H1 Q I1 q1
end
abbrev SqL(K:Fg)(H:Hp)(a:Addr)(xs:List V):Prop :=
 Rd H a (.lst xs) \/
  ∃(o:Obj) (gV:Array Rs) (n:Nat),K.lookup a=some o/\o.cls=.type "list"/\o.dict=none/\o.data=.seq gV n/\gV.size<=sizeLine/\Vals xs gV.toList
abbrev SqT(K:Fg)(H:Hp)(a:Addr)(xs:List V):Prop :=
 Rd H a (.tup xs) \/
  ∃(o:Obj) (gV:Array Rs) (n:Nat),K.lookup a=some o/\o.cls=.type "tuple"/\o.data=.seq gV n/\gV.size<=sizeLine/\Vals xs gV.toList
abbrev QL:Rs->Option V
 |.none=>some .non
 |.bool b=>some (.bl b)
 |.int i _=>↥i
 |.str x _=>some (.str x)
 |.bytes b _=>some (.byt b)
 |.float b _=>some (.flt b)
 |.ref a=>⇑a
 |.type n=>some (.ty n)
 |_=>none
def RelV.abs(r:RelV x u):QL u=some x:=by
 cases x with
 |non=>cases r;rfl
 |bl _=>cases r;rfl
 |int _=>obtain⟨t,rfl⟩:=r;rfl
 |str _=>obtain⟨t,rfl⟩:=r;rfl
 |byt _=>obtain⟨t,rfl⟩:=r;rfl
 |flt _=>obtain⟨t,rfl⟩:=r;rfl
 |ref _=>cases r;rfl
 |ty _=>cases r;rfl
def RelV.inj(r:RelV x u)(q:RelV y u):x=y:=RY (r.abs.symm.trans q.abs)
def Vals.inj:∀{xs ys:List V} {us:List Rs},Vals xs us->Vals ys us->xs=ys
 |_,_,_,.nil,.nil=>rfl
 |_,_,_,.cons r t,.cons r' t'=>by rw[r.inj r',Vals.inj t t']
section
variable{X:Cx}{ξ:List (Addr×Obj)}{σ:St}{H:Hp}{s:RC}{a:Addr}{xs ys:List V}
def SqL.of{K:Fg}(h:H a=some (.lst xs)):SqL K H a xs:=.inl (.inl h)
def SqT.of{K:Fg}(h:H a=some (.tup xs)):SqT K H a xs:=.inl (.inl h)
def Inv.list(I:Inv X ξ σ H s)(h:SqL X.K H a xs):∃gV:List Rs,Vals xs gV/\PlainL s.heap a gV.toArray/\xs.length<=sizeLine:=by
 rcases h with h|⟨o,gV,n,hk,hc,hd,hs,hz,r⟩
 .obtain⟨z,gV,n,r,e⟩:=h.ok I.hok;exact⟨gV,r,⟨_,n,e,rfl,rfl,rfl⟩,z⟩
 .refine⟨gV.toList,r,⟨o,n,I.kIn a o hk,hc,hd,by simpa using hs⟩,?_⟩;have e:=r.length;simp only[Sj] at e;lia
def Inv.tuple(I:Inv X ξ σ H s)(h:SqT X.K H a xs):∃gV:List Rs,Vals xs gV/\IsTup s.heap a gV.toArray/\xs.length<=sizeLine:=by
 rcases h with h|⟨o,gV,n,hk,hc,hs,hz,r⟩
 .obtain⟨z,gV,r,p⟩:=h.ok I.hok;exact⟨gV,r,p.tup,z⟩
 .refine⟨gV.toList,r,⟨o,I.kIn a o hk,hc,n,by simpa using hs⟩,?_⟩;have e:=r.length;simp only[Sj] at e;lia
def Inv.nW(I:Inv X ξ σ H s)(h:SqL X.K H a xs)(h':SqL X.K H a ys):xs=ys:=by
 obtain⟨gV,r,⟨o,n,e,_,_,d⟩,_⟩:=I.list h;obtain⟨its',r',⟨o',n',e',_,_,d'⟩,_⟩:=I.list h';rw[e] at e';cases e';rw[d] at d';injection d' with d1 _
 have:gV=its':=by simpa using congrArg Array.toList d1
 subst this;exact r.inj r'
def Inv.o5(I:Inv X ξ σ H s)(h:SqT X.K H a xs)(h':SqT X.K H a ys):xs=ys:=by
 obtain⟨gV,r,⟨o,e,_,n,d⟩,_⟩:=I.tuple h;obtain⟨its',r',⟨o',e',_,n',d'⟩,_⟩:=I.tuple h';rw[e] at e';cases e';rw[d] at d';injection d' with d1 _
 have:gV=its':=by simpa using congrArg Array.toList d1
 subst this;exact r.inj r'
end
nonrec abbrev Cx.wish(X:Cx)(E:Rs->RC->Prop):Cx:={X with xe:=E}
nonrec abbrev Cx.nox(X:Cx):Cx:=X.wish λ_ _=>False
def Cx.Ok.wish{X:Cx}(ok:X.Ok)(E:Rs->RC->Prop):(X.wish E).Ok :=
 ⟨ok.mod,ok.kind,ok.glob,ok.blt,ok.above,ok.inj,ok.has,ok.cab,ok.hd,ok.frames,ok.stk,ok.exf,ok.bs,ok.bsz,ok.noex,ok.exfs,ok.funs,ok.frf⟩
def Cx.Ok.fG{X:Cx}(ok:(X.wish E).Ok):X.Ok :=
 ⟨ok.mod,ok.kind,ok.glob,ok.blt,ok.above,ok.inj,ok.has,ok.cab,ok.hd,ok.frames,ok.stk,ok.exf,ok.bs,ok.bsz,ok.noex,ok.exfs,ok.funs,ok.frf⟩
section
variable{X:Cx}{ξ:List (Addr×Obj)}{σ:St}{H:Hp}{s:RC}{E:Rs->RC->Prop}
def Inv.wish(I:Inv X ξ σ H s)(E:Rs->RC->Prop):Inv (X.wish E) ξ σ H s:=⟨I.ok.wish E,I.os,I.bare,I.base,I.loc,I.cell,I.free,I.freeC,I.pin,I.hok,I.len⟩
def Inv.fG(I:Inv (X.wish E) ξ σ H s):Inv X ξ σ H s:=⟨I.ok.fG,I.os,I.bare,I.base,I.loc,I.cell,I.free,I.freeC,I.pin,I.hok,I.len⟩
def SP.fG{D:bH}(h:SP (X.wish E) ξ D f s'):SP X ξ D f s':=by
 cases f with
 |next=>obtain⟨σ',H',I,q⟩:=h;exact⟨σ',H',I.fG,q⟩
 |brk=>obtain⟨σ',H',I,q⟩:=h;exact⟨σ',H',I.fG,q⟩
 |cont=>obtain⟨σ',H',I,q⟩:=h;exact⟨σ',H',I.fG,q⟩
 |ret u=>obtain⟨v,σ',H',I,r,q⟩:=h;exact⟨v,σ',H',I.fG,r,q⟩
def PSs.nox{st:List Stmt}(h:PSs X.nox st t):PSs X st t:=λξ s σ H D I hw =>
 SW (h ξ s σ H D (I.wish _) hw) (λ_ _ q=>q.fG) λ_ _ z=>Us z
end
section
variable{X:Cx}{st:Stmt}{rest:List Stmt}{t u:TS}{e:Expr}{te:TE}{pos:Pos}
abbrev a7:TS:=λD σ H=>D.nx σ H
abbrev am(t u:TS):TS:=λD σ H=>t {D with nx:=u D} σ H
def mZ:PSs X [] a7:=λ_ _ σ H _ I h=>Uo ⟨σ,H,I,h⟩
def bN(h1:PS X st t)(h2:PSs X rest u):PSs X (st :: rest) (am t u):=by
 intro ξ s σ H D I h;refine V2 (a5 (h1 ξ s σ H {D with nx:=u D} I h) λf s1 q=>?_);cases f with
 |next =>
  obtain⟨σ',H',I',q⟩:=q;exact h2 ξ s1 σ' H' D I' q
 |ret v=>exact q
 |brk=>exact q
 |cont=>exact q
def cG(h1:PS X st t):PSs X [st] t:=by
 intro ξ s σ H D I h;refine V2 (a5 (h1 ξ s σ H D I h) λf s1 q=>?_);cases f with
 |next=>exact Uo q
 |ret v=>exact q
 |brk=>exact q
 |cont=>exact q
def Inv.quiet{H:Hp}(I:Inv X ξ σ H s):interactive X.env=false:=by simp[interactive,I.ok.kind]
abbrev bn(te:TE):TS:=λD σ H=>te σ H λ_ H1=>D.nx σ H1
def An(he:PE X e te)(hs:swapsWith e none pos.line X.env=pure false:=by rfl):PS X (.Expr e pos) (bn te):=by
 intro ξ s σ H D I h;exact Zb (a5 (he ξ s σ H _ I h) (by rintro v s1 ⟨x,H1,I1,r1,q1⟩;exact ⟨σ,H1,I1,q1⟩)) I.quiet hs
abbrev aE(te:TE):TS:=λD σ H=>te σ H D.rt
def pW(he:PE X e te):PS X (.Return (some e) pos) (aE te):=by
 intro ξ s σ H D I h;exact wpAny_Return_some (a5 (he ξ s σ H _ I h) (by rintro v s1 ⟨x,H1,I1,r1,q1⟩;exact ⟨x,σ,H1,I1,r1,q1⟩))
abbrev aS(c:TT)(t u:TS):TS:=λD σ H=>c σ H λb H1=>if b=true then t D σ H1 else u D σ H1
def EU(hc:PT X c tc)(ha:PSs X a t)(hb:PSs X b u):PS X (.If c a b pos) (aS tc t u):=by
 intro ξ s σ H D I h;refine wpAny_If (a5 (hc ξ s σ H _ I h) λd s1 ω=>?_);obtain⟨H1,I1,q1⟩:=ω;cases d with
 |true=>exact ha ξ s1 σ H1 D I1 q1
 |false=>exact hb ξ s1 σ H1 D I1 q1
abbrev o8:TS:=λ_ _ _=>False
def pV:PSs X sts o8:=λ_ _ _ _ _ _ h=>h.elim
end
nonrec abbrev TG:=V->St->Hp->(St->Hp->Prop)->Prop
nonrec abbrev Gg:=List V->St->Hp->(St->Hp->Prop)->Prop
abbrev PG(X:Cx)(target:Expr)(t:TG):Prop :=
 ∀(ξ:List (Addr×Obj)) (s:RC) (σ:St) (H:Hp) (v:V) (u:Rs) (Q:St->Hp->Prop),Inv X ξ σ H s->RelV v u->t v σ H Q ->
  wpAny (model X.prog X.w) X.A (assign target X.env u) (λ_ s'=>∃σ' H',Inv X ξ σ' H' s'/\Q σ' H') X.xe s
abbrev Lf(X:Cx)(ts:List Expr)(t:Gg):Prop :=
 ∀(ξ:List (Addr×Obj)) (s:RC) (σ:St) (H:Hp) (vs:List V) (us:List Rs) (Q:St->Hp->Prop),Inv X ξ σ H s->Vals vs us->t vs σ H Q ->
  wpAny (model X.prog X.w) X.A (assignInOrder ((assignEach ts X.env).map (·.2)) us) (λ_ s'=>∃σ' H',Inv X ξ σ' H' s'/\Q σ' H') X.xe s
nonrec abbrev Gf:=V->V->V->Hp->(Hp->Prop)->Prop
abbrev OJ(X:Cx)(t:Gf):Prop :=
 ∀(ξ:List (Addr×Obj)) (s:RC) (σ:St) (H:Hp) (o i v:V) (ov iv u:Rs) (Q:Hp->Prop),Inv X ξ σ H s->RelV o ov->RelV i iv->RelV v u->t o i v H Q ->
  wpAny (model X.prog X.w) X.A (setItem ov iv u) (λ_ s'=>∃H',Inv X ξ σ H' s'/\Q H') X.xe s
section
variable{X:Cx}{pos:Pos}
abbrev al(i:Nat):TG:=λv σ H Q=>Q (σ.set i (some v)) H
def nu{i:Nat}{x:Str}(hN:X.N.Nodup)(hi:X.N[i]?=some x)(hx:Loc X.env.scope x)(hf:X.fn x=true\/X.env.scope.names.lookup x=some .local:=by first|exact .inl rfl|exact .inr rfl|assumption):PG X (.Name x pos) (al i):=by
 intro ξ s σ H v u Q I r h;exact wpAny_assign_Name (eZ I hN hi hx r (λs' I'=>⟨_,H,I',h⟩) hf)
abbrev ck:Gg:=λvs σ H Q=>vs=[]/\Q σ H
abbrev aY(t:TG)(u:Gg):Gg:=λvs σ H Q=>∃v r,vs=v :: r/\t v σ H λσ' H'=>u r σ' H' Q
def AD:Lf X [] ck:=by
 intro ξ s σ H vs us Q I r h;obtain⟨e,h⟩:=h;subst e;cases r;exact assignInOrder_nil ⟨σ,H,I,h⟩
def nj(h1:PG X e t)(h2:Lf X es u)
  (hs:(assignEach (e :: es) X.env).map (·.2)=assign e X.env :: (assignEach es X.env).map (·.2):=by rfl):Lf X (e :: es) (aY t u):=by
 intro ξ s σ H vs us Q I r h;obtain⟨v,vr,e1,h⟩:=h;subst e1;cases r with
 |cons r rr =>
  rw[hs];refine XV (a5 (h1 ξ s σ H _ _ _ I r h) λ_ s1 ω=>?_);obtain⟨σ1,H1,I1,q1⟩:=ω;exact h2 ξ s1 σ1 H1 _ _ Q I1 rr q1
abbrev cj(K:Fg)(n:Nat)(t:Gg):TG:=λv σ H Q=>∃a xs,v=.ref a/\SqT K H a xs/\xs.length=n/\t xs σ H Q
def GM{n:Nat}(hc:X.calm=true)(h:Lf X es t)
  (hn:(assignEach es X.env).length=n:=by rfl) (hst:(assignEach es X.env).findIdx? (·.1)=none:=by rfl):PG X (.Tuple es k pos) (cj X.K n t):=by
 intro ξ s σ H v u Q I r hw;obtain⟨a,xs,e1,hq,hl,hw⟩:=hw;subst e1;cases r;obtain⟨gV,rv,ht,hz⟩:=I.tuple hq;refine assign_Tuple_tuple (I.ok.hd hc) ht (by simp[hn,<- hl,rv.length]) hst λh' hx=>?_
 have I1:Inv X ξ σ H {s with heap:=h'}:=I.kept (t':=s.toks) λb o e=>hx b o (Si (RV e)) e
 exact h ξ _ σ H xs _ Q I1 (by simpa using rv) hw
abbrev FK(to ti:TE)(t:Gf):TG:=λv σ H Q=>to σ H λo H1=>ti σ H1 λi H2=>t o i v H2 λH3=>Q σ H3
def Ms(ho:PE X o to)(hi:PE X i ti)(hs:OJ X t)
  (ha:∀v,assign (.Subscript o i pos) X.env v=(do
   let ov <- holding [v] (eval o X.env)
   let iv <- holding [v,ov] (eval i X.env)
   standAt pos
   holding [v,ov,iv] (setItem ov iv v)
   release [v,ov,iv] []):=by intro _;rfl):PG X (.Subscript o i pos) (FK to ti t):=by
 intro ξ s σ H v u Q I r h;rw[ha];refine Ro (TM (a5 (ho ξ s σ H _ I h) λov s1 ω=>?_));obtain⟨x,H1,I1,r1,q1⟩:=ω;refine Ro (TM (a5 (hi ξ s1 σ H1 _ I1 q1) λiv s2 ω=>?_));obtain⟨y,H2,I2,r2,q2⟩:=ω;refine Ro (Wm (Ro (TM (a5 (hs ξ s2 σ H2 x y v ov iv u _ I2 r1 r2 r q2) λ_ s3 ω=>?_))));obtain⟨H3,I3,q3⟩:=ω;exact wpAny_release ⟨σ,H3,I3,q3⟩
abbrev av(te:TE)(g:TG):TS:=λD σ H=>te σ H λx H1=>g x σ H1 D.nx
def Mn(he:PE X e te)(hg:PG X tg g)(hs:swapsWithSole [tg] e pos.line X.env=pure false:=by rfl)(hw:swappedStores [tg] e X.env=pure none:=by rfl)
  (h1:(assignEach [tg] X.env).map (·.2)=[assign tg X.env]:=by rfl):PS X (.Assign [tg] e pos) (av te g):=by
 intro ξ s σ H D I h;refine wpAny_Assign_stores (a5 (he ξ s σ H _ I h) λv s1 ω=>?_) hs hw;obtain⟨x,H1,I1,r1,q1⟩:=ω;rw[h1];exact a5 (hg ξ s1 σ H1 x v _ I1 r1 q1) λ_ s2 q=>q
def gm{i:Nat}{x:Str}(hN:X.N.Nodup)(hi:X.N[i]?=some x)(hx:Loc X.env.scope x)(he:PE X e te)(hs:swapsWith e (some (.Name x pos')) pos.line X.env=pure false:=by rfl)(hf:X.fn x=true\/X.env.scope.names.lookup x=some .local:=by first|exact .inl rfl|exact .inr rfl|assumption) :
  PS X (.Assign [.Name x pos'] e pos) (av te (al i)):=by
 intro ξ s σ H D I h;refine wpAny_Assign_Name (a5 (he ξ s σ H _ I h) λv s1 ω=>?_) hs;obtain⟨y,H1,I1,r1,q1⟩:=ω;exact eZ I1 hN hi hx r1 (λs2 I2=>⟨_,H1,I2,q1⟩) hf
abbrev LD(i j:Nat)(ta:TA):TS:=λD σ H=>ta σ H λvs H1=>∃v w,vs=[v,w]/\D.nx ((σ.set i (some v)).set j (some w)) H1
def Mm{i j:Nat}{x y:Str}{a b:Expr}{ta:TA}{pt:Pos}{kt k2 pt2}(hc:X.calm=true)(hN:X.N.Nodup)(hi:X.N[i]?=some x)(hj:X.N[j]?=some y)(hij:i≠j)
  (hx:X.env.scope.names.lookup x=some .local) (hy:X.env.scope.names.lookup y=some .local) (ha:PA X [a,b] ta)
  (hw:swappedStores [.Tuple [.Name x px,.Name y py] kt pt] (.Tuple [a,b] k2 pt2) X.env=pure (some [x,y]))
  (hs:swapsWithSole [.Tuple [.Name x px,.Name y py] kt pt] (.Tuple [a,b] k2 pt2) pos.line X.env=pure false:=by rfl) :
  PS X (.Assign [.Tuple [.Name x px,.Name y py] kt pt] (.Tuple [a,b] k2 pt2) pos) (LD i j ta):=by
 intro ξ s σ H D I h;rw[exec_Assign_arm];refine Ro (Wm ?_);rw[hs];refine Ro (RE ?_);rw[if_neg (by decide)];refine Ro (Tuple_ (a5 (ha _ ξ s σ H _ I h) λus s1 ω=>?_));obtain⟨vs,H1,I1,r1,q1⟩:=ω;obtain⟨v,w,e1,q1⟩:=q1;subst e1
 obtain⟨u1,u2,rfl,rv,rw'⟩:∃u1 u2,us=[u1,u2]/\RelV v u1/\RelV w u2:=by
  cases r1 with
  |cons p q =>
   cases q with
   |cons p' q' =>
    cases q';exact⟨_,_,rfl,p,p'⟩
 refine TK ?_ (by show 2<=sizeLine;decide);have I2:Inv X ξ σ H1 {s1 with heap:=s1.heap.push {cls:=.type "tuple",data:=.seq [u1,u2].toArray}}:=I1.kept (t':=s1.toks) λb o e=>Rv _ e
 rw[hw];refine Ro (RE ?_);show wpAny (model X.prog X.w) X.A (do rule "assign.swapped-stores";let items <- unpackItems (.ref s1.heap.objs.size) 2 none;assignInOrder [λv=>bindName X.env y v,λv=>bindName X.env x v] items.reverse;pure Flow.next) _ _ _;refine Ro (YK (Ro (unpackItems_tuple (items:=#[u1,u2]) (I.ok.hd hc) (IsTup.new s1.heap _) λh' hx'=>?_)));have I3:=I2.kept (h':=h') (t':=s1.toks) λb o e=>hx' b o (Si (RV e)) e
 show wpAny _ _ (assignInOrder [λv=>bindName X.env y v,λv=>bindName X.env x v] [u2,u1] >>= λ_=>pure Flow.next) _ _ _;refine Ro (XV (Zc (eZ I3 hN hj (.inl hy) rw' (λs2 I4=>?_) (.inr hy))));refine XV (Zc (eZ I4 hN hi (.inl hx) rv (λs3 I5=>assignInOrder_nil (RE ?_)) (.inr hx)));rw[List.set_comm _ _ (UJ hij)] at I5;exact⟨_,H1,I5,q1⟩
end
section
variable{X:Cx}{pos:Pos}
abbrev ic(c:TT)(tb:TS):TS:=λD σ H=>∃W:Nat->St->Hp->Prop,(∃m,W m σ H)/\∀m σ H,W m σ H ->
 c σ H λb H1=>if b=true then ∃N:St->Hp->Prop,(∀σ' H',N σ' H'->∃m',m'<m/\W m' σ' H')/\tb {D with nx:=N,ct:=N,bk:=D.nx} σ H1 else D.nx σ H1
def EQ(hp:Yw (model X.prog X.w) X.A X.env X.xe)(hc:PT X c tc)(hb:PSs X body tb):PS X (.While c body [] pos) (ic tc tb):=by
 intro ξ s σ H D I h;obtain⟨W,⟨m0,w0⟩,turn⟩:=h;refine wpAny_While (codeAny_whileLoop (λn s'=>∃σ' H',Inv X ξ σ' H' s'/\W n σ' H') ?_ m0 ⟨σ,H,I,w0⟩);rintro n s1 ⟨σ1,H1,I1,w1⟩;refine Vb hp (a5 (hc ξ s1 σ1 H1 _ I1 (turn n σ1 H1 w1)) λb s2 ω=>?_);obtain⟨H2,I2,q2⟩:=ω;cases b with
 |true =>
  obtain⟨N,hN,q2⟩:=q2;rw[if_pos rfl];refine Vb hp (a5 (hb ξ s2 σ1 H2 _ I2 q2) λf s3 q3=>?_);cases f with
  |next =>
   obtain⟨σ3,H3,I3,n3⟩:=q3;obtain⟨m',hm,w3⟩:=hN σ3 H3 n3;exact⟨m',hm,σ3,H3,I3,w3⟩
  |cont =>
   obtain⟨σ3,H3,I3,n3⟩:=q3;obtain⟨m',hm,w3⟩:=hN σ3 H3 n3;exact⟨m',hm,σ3,H3,I3,w3⟩
  |brk=>exact q3
  |ret v=>exact q3
 |false =>
  rw[if_neg Sd];exact Uo ⟨σ1,H2,I2,q2⟩
end
structure It where
 go:Nat->Hp->Prop
 yld:Nat->Hp->V->Hp->Prop
 stop:Nat->Hp->Prop
abbrev iU(X:Cx)(ξ:List (Addr×Obj))(H:Hp)(b:Addr):Prop :=
 H b=none/\b≠X.env.locals/\b∉X.fs/\(b∈X.ex\/X.s₀.heap.objs.size<=b)/\(∀x c,X.env.cells.lookup x=some c->c≠b)/\∀p∈X.pn++ξ,p.1≠b
def Inv.fpOk{H H':Hp}{b:Addr}(I:Inv X ξ σ H s)(hb:s.heap.objs.size<=b)(hn:H' b=none):iU X ξ H' b:=by
 refine⟨hn,UD (R3 I.lt hb),I.nofs hb,.inr (RN I.sz hb),λx c e z=>?_,λp hp z=>?_⟩
 .obtain⟨v,q⟩:=I.cell x c e;exact absurd (R3 q.lt (by rw[z];exact hb)) (UX _)
 .exact absurd (R3 (RV (I.pin p hp).1) (by rw[z];exact hb)) (UX _)
structure ug (P:RM) (w:R4) (K:Fg) (tg:Expr) (J:It) (fp:List Addr) (it:Addr) (tn:Nat->Heap->Prop):Prop where
 mem:it∈fp
 obj:∀i h,tn i h->∀b∈fp,∃o,h.get? b=some o/\∀v,o.data≠.cell v
 keep:∀i h h',tn i h->(∀b∈fp,∀o,h.get? b=some o->h'.get? b=some o)->tn i h'
 item:∀(X:Cx),X.prog=P->X.w=w->X.K=K->X.calm=true->∀(i:Nat) (ξ:List (Addr×Obj)) (s:RC) (σ:St) (H:Hp) (E:Rs->RC->Prop),Inv X ξ σ H s->(∀b∈fp,iU X ξ H b)->tn i s.heap->J.go i H ->
  wpAny (model P w) X.A (pyNext (.ref it)) (λr s1=>∃u,r=some u /\
   wpAny (model P w) X.A (letOwnedTupleGo tg (.ref it) u) (λ_ s2=>∃x H',Inv X ξ σ H' s2/\RelV x u/\J.yld i H x H'/\tn (i+1) s2.heap/\∀b∈fp,H' b=none) E s1) E s
 done:∀(X:Cx),X.prog=P->X.w=w->X.K=K->X.calm=true->∀(i:Nat) (ξ:List (Addr×Obj)) (s:RC) (σ:St) (H:Hp) (E:Rs->RC->Prop),Inv X ξ σ H s->(∀b∈fp,iU X ξ H b)->tn i s.heap->J.stop i H ->
  wpAny (model P w) X.A (pyNext (.ref it)) (λr s1=>r=none/\Inv X ξ σ H s1) E s
 self:∀(A:SC) (i:Nat) (s:RC) (Q:Rs->RC->Prop) (E:Rs->RC->Prop),tn i s.heap->Q (.ref it) s->wpAny (model P w) A (pyIter (.ref it)) Q E s
nonrec abbrev TI:=St->Hp->(It->Hp->Prop)->Prop
abbrev QT(X:Cx)(ξ:List (Addr×Obj))(σ:St)(tg:Expr)(R:It->Hp->Prop)(itv:Rs)(s2:RC):Prop :=
 ∃(it:Addr) (fp:List Addr) (tn:Nat->Heap->Prop) (J:It) (H':Hp),itv=.ref it/\Inv X ξ σ H' s2/\ug X.prog X.w X.K tg J fp it tn/\tn 0 s2.heap/\(∀b∈fp,iU X ξ H' b)/\R J H'
abbrev PI(X:Cx)(tg iter:Expr)(wi:TI):Prop :=
 ∀(ξ:List (Addr×Obj)) (s:RC) (σ:St) (H:Hp) (R:It->Hp->Prop),Inv X ξ σ H s->wi σ H R ->
  wpAny (model X.prog X.w) X.A (eval iter X.env) (λv s1=>wpAny (model X.prog X.w) X.A (pyIter v) (QT X ξ σ tg R) X.xe s1) X.xe s
def Kv{E:Rs->RC->Prop} {s:RC}  {it:Addr}  {o:Obj}  {vs:Array Rs} {Q:Unit->RC->Prop} (ho:s.heap.get? it=some o) (hc:o.cls=.type n) (hd:o.data=.fields vs)
    (hn:["enumerate", "zip", "dict_itemiterator", "dict_reverseitemiterator", "odict_iterator", "itertools.zip_longest", "itertools.pairwise"].contains n=false) (hQ:Q () s):wpAny M A (letOwnedTupleGo tg (.ref it) u) Q E s := by
  unfold letOwnedTupleGo
  cases tg <;> first
    |exact RE hQ
    | (cases u <;> first
        |exact RE hQ
        | (refine Ro (wpAny_load ho ?_)
           rw[hc, hd]
           show wpAny M A (if (["enumerate", "zip", "dict_itemiterator", "dict_reverseitemiterator", "odict_iterator", "itertools.zip_longest", "itertools.pairwise"].contains n && vs[0]? == some (rawInt _))=true then _ else _) Q E s
           rw[if_neg (by intro h; rw[hn, Zbn] at h; cases h)]
           exact RE hQ))
abbrev v0(K:Fg)(a:Addr):It :=
 ⟨λi H=>∃xs x,SqL K H a xs/\xs[i]?=some x,λi H x H'=>H'=H/\∀xs,SqL K H a xs->xs[i]?=some x,λi H=>∃xs,SqL K H a xs/\xs.length<=i⟩
abbrev xC(K:Fg)(a:Addr):It :=
 ⟨λi H=>∃xs x,SqT K H a xs/\xs[i]?=some x,λi H x H'=>H'=H/\∀xs,SqT K H a xs->xs[i]?=some x,λi H=>∃xs,SqT K H a xs/\xs.length<=i⟩
abbrev xD(lo:Int)(n:Nat):It:=⟨λi _=>i<n,λi H x H'=>H'=H/\x=.int (lo+i),λi _=>n<=i⟩
def xS{K:Fg}(a it:Addr):ug P w K tg (v0 K a) [it] it (λi h=>h.IsListIter it a i) where
 mem:=by simp
 obj:=λi h st b hb=>by
  have e:b=it:=by simpa using hb
  subst e;obtain⟨o,e,c,d⟩:=st;exact⟨o,e,λv z=>by rw[d] at z;cases z⟩
 keep:=λi h h' st k=>st.at λo e=>k it (by simp) o e
 item:=by
  intro X hP hw hK hc i ξ s σ H E I hf st hg;subst hP hw hK;obtain⟨xs,x,hq,hx⟩:=hg;obtain⟨gV,rv,p,hz⟩:=I.list hq;obtain⟨u,hu,ru⟩:=rv.get hx;obtain⟨f0,f1,f2,f3,f4,f5⟩:=hf it (by simp);refine wpAny_pyNext_list_item st p.isList (x:=u) (by simpa using hu) λh' st' sb=>?_
  have I1:Inv X ξ σ H {s with heap:=h'}:=I.turned (t':=s.toks) (λb o hb e=>(sb.2 b hb).trans e) f0 f1 f3 f4 f5;obtain⟨o,e,c,d⟩:=id st';exact⟨u,rfl,Kv (s:={s with heap:=h'}) e c d (by decide) ⟨x,H,I1,ru,⟨rfl,λys hy=>by rw[I.nW hy hq];exact hx⟩,st',λb hb=>(hf b hb).1⟩⟩
 done:=by
  intro X hP hw hK hc i ξ s σ H E I hf st hg;subst hP hw hK;obtain⟨xs,hq,hx⟩:=hg;obtain⟨gV,rv,p,hz⟩:=I.list hq;obtain⟨f0,f1,f2,f3,f4,f5⟩:=hf it (by simp);have hl:=rv.length;exact wpAny_pyNext_list_end (I.ok.hd hc) st p.isList (by simp;lia) λh' eb=>⟨rfl,I.turned (t':=s.toks) (λb o hb e=>eb b o hb e) f0 f1 f3 f4 f5⟩
 self:=λ_ _ _ _ _ st h=>wpAny_pyIter_listiter st h
def wg{K:Fg}(a it:Addr):ug P w K tg (xC K a) [it] it (λi h=>h.IsTupleIter it a i) where
 mem:=by simp
 obj:=λi h st b hb=>by
  have e:b=it:=by simpa using hb
  subst e;obtain⟨o,e,c,d⟩:=st;exact⟨o,e,λv z=>by rw[d] at z;cases z⟩
 keep:=λi h h' st k=>st.at λo e=>k it (by simp) o e
 item:=by
  intro X hP hw hK hc i ξ s σ H E I hf st hg;subst hP hw hK;obtain⟨xs,x,hq,hx⟩:=hg;obtain⟨gV,rv,p,hz⟩:=I.tuple hq;obtain⟨u,hu,ru⟩:=rv.get hx;obtain⟨f0,f1,f2,f3,f4,f5⟩:=hf it (by simp);refine wpAny_pyNext_tuple_item st (show s.heap.IsTuple a gV.toArray from p) (x:=u) (by simpa using hu) λh' st' sb=>?_
  have I1:Inv X ξ σ H {s with heap:=h'}:=I.turned (t':=s.toks) (λb o hb e=>(sb.2 b hb).trans e) f0 f1 f3 f4 f5;obtain⟨o,e,c,d⟩:=id st';exact⟨u,rfl,Kv (s:={s with heap:=h'}) e c d (by decide) ⟨x,H,I1,ru,⟨rfl,λys hy=>by rw[I.o5 hy hq];exact hx⟩,st',λb hb=>(hf b hb).1⟩⟩
 done:=by
  intro X hP hw hK hc i ξ s σ H E I hf st hg;subst hP hw hK;obtain⟨xs,hq,hx⟩:=hg;obtain⟨gV,rv,p,hz⟩:=I.tuple hq;obtain⟨f0,f1,f2,f3,f4,f5⟩:=hf it (by simp);have hl:=rv.length;exact wpAny_pyNext_tuple_end (I.ok.hd hc) st (show s.heap.IsTuple a gV.toArray from p) (by simp;lia) λh' eb=>⟨rfl,I.turned (t':=s.toks) (λb o hb e=>eb b o hb e) f0 f1 f3 f4 f5⟩
 self:=λ_ _ _ _ _ st h=>wpAny_pyIter_tupleiter st h
def wj{K:Fg}(it:Addr)(lo:Int)(n:Nat):ug P w K tg (xD lo n) [it] it (λi h=>IsRangeIter h it (lo+(i:Nat)*1) ((n:Int)-(i:Nat)) 1) where
 mem:=by simp
 obj:=λi h st b hb=>by
  have e:b=it:=by simpa using hb
  subst e
  exact⟨_,st,λv z=>by
   have z':Za0 _=Zs v:=z
   cases z'⟩
 keep:=λi h h' st k=>k it (by simp) _ st
 item:=by
  intro X hP hw hK hc i ξ s σ H E I hf st hg;subst hP hw hK;obtain⟨f0,f1,f2,f3,f4,f5⟩:=hf it (by simp);have W:=Za1.range (prog:=X.prog) (w:=X.w) (I.ok.hd hc) it lo 1 n;refine W.item i s _ _ hg st λv h' tk hv st' kk=>?_
  obtain⟨t,rfl⟩:=hv;have I1:Inv X ξ σ H {s with heap:=h',toks:=tk}:=I.turned (λb o hb e=>kk b o (by simpa using hb) e) f0 f1 f3 f4 f5;refine⟨_,rfl,Kv (s:={s with heap:=h',toks:=tk}) (n:="range_iterator") st' rfl rfl (by decide) ⟨.int (lo+i),H,I1,⟨t,?_⟩,⟨rfl,rfl⟩,st',λb hb=>(hf b hb).1⟩⟩;rw[Int.mul_one]
 done:=by
  intro X hP hw hK hc i ξ s σ H E I hf st hg;subst hP hw hK;obtain⟨f0,f1,f2,f3,f4,f5⟩:=hf it (by simp);exact wpAny_pyNext_range_end (I.ok.hd hc) st (by have:n<=i:=hg;lia) λh' eb=>⟨rfl,I.turned (t':=s.toks) (λb o hb e=>eb b o hb e) f0 f1 f3 f4 f5⟩
 self:=λ_ _ _ _ _ st h=>wpAny_pyIter_rangeiter st h
section
variable{X:Cx}{tg:Expr}
abbrev cg(K:Fg)(tl:TE):TI:=λσ H R=>tl σ H λx H1=>∃a,x=.ref a/\(∃xs,SqL K H1 a xs)/\R (v0 K a) H1
abbrev BA(K:Fg)(tl:TE):TI:=λσ H R=>tl σ H λx H1=>∃a,x=.ref a/\(∃xs,SqT K H1 a xs)/\R (xC K a) H1
def JC(hl:PE X l tl):PI X tg l (cg X.K tl):=by
 intro ξ s σ H R I h;refine a5 (hl ξ s σ H _ I h) λv s1 ω=>?_;obtain⟨x,H1,I1,r1,q1⟩:=ω
 obtain⟨a,e,⟨xs,hq⟩,q⟩:=q1;subst e;cases r1;obtain⟨gV,rv,p,hz⟩:=I1.list hq;refine Yc p.isList ?_;refine⟨s1.heap.objs.size,[s1.heap.objs.size],_,_,H1,rfl,I1.kept (t':=s1.toks) λb o e=>Rv _ e,xS a _,⟨_,Sb _ rfl,rfl,rfl⟩,λb hb=>?_,q⟩;have e:b=s1.heap.objs.size:=by simpa using hb
 subst e;exact I1.fpOk (RB _) (I1.hok.fresh (RB _))
def Mr(hl:PE X l tl):PI X tg l (BA X.K tl):=by
 intro ξ s σ H R I h;refine a5 (hl ξ s σ H _ I h) λv s1 ω=>?_;obtain⟨x,H1,I1,r1,q1⟩:=ω
 obtain⟨a,e,⟨xs,hq⟩,q⟩:=q1;subst e;cases r1;obtain⟨gV,rv,p,hz⟩:=I1.tuple hq;refine ZV (show s1.heap.IsTuple a gV.toArray from p) ?_;refine⟨s1.heap.objs.size,[s1.heap.objs.size],_,_,H1,rfl,I1.kept (t':=s1.toks) λb o e=>Rv _ e,wg a _,⟨_,Sb _ rfl,rfl,rfl⟩,λb hb=>?_,q⟩;have e:b=s1.heap.objs.size:=by simpa using hb
 subst e;exact I1.fpOk (RB _) (I1.hok.fresh (RB _))
def EJ{H:Hp}{R:It->Hp->Prop}{lo hi:Int}{t u v:Tok}{tk:Nat}(I:Inv X ξ σ H s)(h1 : -(2 ^ 62)<=lo)(h2:lo<2 ^ 62)(h3 : -(2 ^ 62)<=hi)(h4:hi<2 ^ 62)
  (q:R (xD lo (hi-lo).toNat) H):wpAny (model X.prog X.w) X.A (pyIter (.ref s.heap.objs.size)) (QT X ξ σ tg R) E {s with heap:=s.heap.push {cls:=.type "range",data:=.fields #[.int lo t,.int hi u,.int 1 v]},toks:=tk}:=by
 refine wpAny_pyIter_range (IsRange.new ..) (small_one h1 h2 h3 h4) ?_;have I1:Inv X ξ σ H {s with heap:=s.heap.push {cls:=.type "range",data:=.fields #[.int lo t,.int hi u,.int 1 v]},toks:=tk}:=I.kept λb o e=>Rv _ e
 refine⟨(s.heap.push {cls:=.type "range",data:=.fields #[.int lo t,.int hi u,.int 1 v]}).objs.size,[(s.heap.push {cls:=.type "range",data:=.fields #[.int lo t,.int hi u,.int 1 v]}).objs.size],_,_,H,rfl,
  I1.kept (t':=tk) λb o e=>Rv _ e,wj _ lo (hi-lo).toNat,?_,λb hb=>?_,q⟩
 .have e1:lo+((0:Nat):Int)*1=lo:=by simp
  have e2:(((hi-lo).toNat:Nat):Int)-((0:Nat):Int)=Ub.Range.rangeSize lo hi 1:=by rw[rangeSize_one];split <;> lia
  show IsRangeIter _ _ (lo+((0:Nat):Int)*1) ((((hi-lo).toNat:Nat):Int)-((0:Nat):Int)) 1;rw[e1,e2];exact Sb _ rfl
 .have e:b=(s.heap.push {cls:=.type "range",data:=.fields #[.int lo t,.int hi u,.int 1 v]}).objs.size:=by simpa using hb
  subst e;exact I1.fpOk (RB _) (I1.hok.fresh (RB _))
abbrev b_(ta:TA):TI:=λσ H R=>ta σ H λvs H1=>∃j:Int,vs=[.int j]/\-(2 ^ 62)<=j/\j<2 ^ 62/\R (xD 0 j.toNat) H1
def AB{a:Expr} {ta:TA} {p pos:Pos} (hg:Gl X "range") (hm:X.mg "range"=none) (ha:PA X [a] ta) (hs:starEach [a] X.env=[(false,eval a X.env)]:=by rfl):PI X tg (.Call (.Name "range" p) [a] [] pos) (b_ ta):=by
 intro ξ s σ H R I h;refine Call_ (eO I hg hm boot_range (Tb (a5 (ha pos ξ s σ H _ I h) λus s1 ω=>?_) hs rfl));obtain⟨vs,H1,I1,r1,q1⟩:=ω;obtain⟨j,e,q1,q2,q⟩:=q1;subst e;cases r1 with
 |cons r rr =>
  cases rr;obtain⟨t,rfl⟩:=r;exact call_range_1 (EJ I1 (by lia) (by lia) q1 q2 (by simpa using q))
abbrev a9(wi:TI)(g:TG)(tb:TS):TS:=λD σ H=>wi σ H λJ H1=>∃W:Nat->Nat->St->Hp->Prop,(∃m,W 0 m σ H1)/\∀i m σ H,W i m σ H ->
 (J.stop i H/\D.nx σ H)\/(J.go i H/\∃N:St->Hp->Prop,(∀σ' H',N σ' H'->∃m',m'<m/\W (i+1) m' σ' H')/\∀x H',J.yld i H x H'->g x σ H' λσ2 H2=>tb {D with nx:=N,ct:=N,bk:=D.nx} σ2 H2)
abbrev va(fp:List Addr)(h:Heap):List (Addr×Obj):=fp.filterMap λb=>(h.get? b).map λo=>(b,o)
def cB{fp:List Addr}{h:Heap}{b:Addr}{o:Obj}(hb:b∈fp)(e:h.get? b=some o):(b,o)∈va fp h:=Ww.mpr ⟨b,hb,by rw[e];rfl⟩
def AR{fp:List Addr}{p:Addr×Obj}(hp:p∈va fp h):p.1∈fp/\h.get? p.1=some p.2:=by
 obtain⟨b,hb,e⟩:=Ww.mp hp;cases q:h.get? b with
 |none=>rw[q] at e;cases e
 |some o =>
  rw[q] at e;have e':(b,o)=p:=RY e;subst e';exact⟨hb,q⟩
def Inv.pinned{H:Hp}{fp:List Addr}(I:Inv X ξ σ H s)(hf:∀b∈fp,iU X ξ H b)(ho:∀b∈fp,∃o,s.heap.get? b=some o/\∀v,o.data≠.cell v):Inv X (ξ++va fp s.heap) σ H s :=
 I.Ay λp hp=>(RX.mp hp).elim (λz=>I.pin p (RU _ z)) λz=>by
  obtain⟨hb,e⟩:=AR z;obtain⟨f0,f1,f2,_⟩:=hf p.1 hb;obtain⟨o,e',d⟩:=ho p.1 hb;rw[e] at e';cases e';exact⟨e,f0,f1,f2,d⟩
def Inv.gf{ξ pl:List (Addr×Obj)}{H:Hp}(I:Inv X (ξ++pl) σ H s):Inv X ξ σ H s:=I.Ay λp hp=>I.pin p (RU _ (Sa _ hp))
def GC{iter:Expr}{pos:Pos}(hp:Yw (model X.prog X.w) X.A X.env X.xe)(hc:X.calm=true)(hi:PI X tg iter wi)(hg:PG X tg g)(hb:PSs X body tb)
  (hs:∀x,foldedSetIterable iter X.env x=pure x:=by intro _;rfl):PS X (.For tg iter body [] pos) (a9 wi g tb):=by
 intro ξ s σ H D I h;refine wpAny_For (a5 (hi ξ s σ H _ I h) λv s1 h1=>a5 h1 λitv s2 h2=>?_) hs;obtain⟨it,fp,tn,J,H2,e,I2,T,st2,f2,W,⟨m0,w0⟩,turn⟩:=h2;subst e;have stat:∀{H':Hp},(∀b∈fp,H' b=none)->∀b∈fp,iU X ξ H' b:=λhn b hb=>⟨hn b hb,(f2 b hb).2⟩
 refine codeAny_forLoop_any (λn s'=>∃i σ' H',Inv X ξ σ' H' s'/\tn i s'.heap/\(∀b∈fp,H' b=none)/\W i n σ' H') ?_ m0 ⟨0,σ,H2,I2,st2,λb hb=>(f2 b hb).1,w0⟩;rintro n s3 ⟨i,σ3,H3,I3,st3,fr3,w3⟩;rcases turn i n σ3 H3 w3 with⟨stop,qn⟩|⟨go,N,hN,step⟩
 .refine Vb hp (a5 (T.done X rfl rfl rfl hc i ξ s3 σ3 H3 X.xe I3 (stat fr3) st3 stop) λr s4 ω=>?_);obtain⟨hr,I4⟩:=ω;subst hr;exact Uo ⟨σ3,H3,I4,qn⟩
 .refine Vb hp (a5 (T.item X rfl rfl rfl hc i ξ s3 σ3 H3 X.xe I3 (stat fr3) st3 go) λr s4 ω=>?_);obtain⟨u,hr,h4⟩:=ω;subst hr;refine Vb hp (a5 h4 λ_ s5 ω=>?_);obtain⟨x,H5,I5,r5,y5,st5,fr5⟩:=ω;have I5':=I5.pinned (stat fr5) (T.obj _ _ st5);refine Vb hp (a5 (hg _ s5 σ3 H5 x u _ I5' r5 (step x H5 y5)) λ_ s6 ω=>?_);obtain⟨σ6,H6,I6,q6⟩:=ω;refine Vb hp (a5 (hb _ s6 σ6 H6 _ I6 q6) λf s7 q7=>?_)
  have again:∀{σ7:St} {H7:Hp},Inv X (ξ++va fp s5.heap) σ7 H7 s7->N σ7 H7->∃m,m<n/\∃i σ' H',Inv X ξ σ' H' s7/\tn i s7.heap/\(∀b∈fp,H' b=none)/\W i m σ' H':=λ{σ7 H7} I7 n7=>by
   obtain⟨m',hm,w7⟩:=hN σ7 H7 n7;refine⟨m',hm,i+1,σ7,H7,I7.gf,T.keep _ _ _ st5 λb hb o e=>(I7.pin (b,o) (RU _ (RU _ (cB hb e)))).1,λb hb=>?_,w7⟩;obtain⟨o,e,d⟩:=T.obj _ _ st5 b hb;exact(I7.pin (b,o) (RU _ (RU _ (cB hb e)))).2.1
  cases f with
  |next=>obtain⟨σ7,H7,I7,n7⟩:=q7;exact again I7 n7
  |cont=>obtain⟨σ7,H7,I7,n7⟩:=q7;exact again I7 n7
  |brk=>obtain⟨σ7,H7,I7,q7⟩:=q7;exact⟨σ7,H7,I7.gf,q7⟩
  |ret v=>obtain⟨x7,σ7,H7,I7,r7,q7⟩:=q7;exact⟨x7,σ7,H7,I7.gf,r7,q7⟩
end
def FM{K:Fg}{xs:List V}{g:TG}{tb:TS}{D:bH}{H:Hp}(Pv:Nat->St->Hp->Prop)(h0:Pv 0 σ H)(hl:∀i σ H,i<=xs.length->Pv i σ H->SqL K H a xs)
  (hs:∀i x σ H,xs[i]?=some x->Pv i σ H->g x σ H λσ2 H2=>tb {D with nx:=Pv (i+1),ct:=Pv (i+1),bk:=D.nx} σ2 H2) (hd:∀σ H,Pv xs.length σ H->D.nx σ H) :
  ∃W:Nat->Nat->St->Hp->Prop,(∃m,W 0 m σ H)/\∀i m σ H,W i m σ H ->
   ((v0 K a).stop i H/\D.nx σ H)\/((v0 K a).go i H/\∃N:St->Hp->Prop,(∀σ' H',N σ' H'->∃m',m'<m/\W (i+1) m' σ' H')/\∀x H',(v0 K a).yld i H x H'->g x σ H' λσ2 H2=>tb {D with nx:=N,ct:=N,bk:=D.nx} σ2 H2):=by
 refine⟨λi m σ H=>m=xs.length-i/\i<=xs.length/\Pv i σ H,⟨xs.length,by simp,SD _,h0⟩,?_⟩;rintro i m σ H ⟨rfl,hi,p⟩;have q:=hl i σ H hi p;by_cases hlt:i<xs.length
 .refine .inr ⟨⟨xs,xs[i],q,by simp[hlt]⟩,Pv (i+1),λσ' H' p'=>⟨xs.length-(i+1),by lia,rfl,hlt,p'⟩,λx H' y=>?_⟩;obtain⟨e,y⟩:=y;subst e;exact hs i x σ _ (y xs q) p
 .have e:i=xs.length:=by lia
  subst e;exact .inl ⟨⟨xs,q,RB _⟩,hd σ H p⟩
def Ky{K:Fg}{xs:List V}{g:TG}{tb:TS}{D:bH}{H:Hp}(Pv:Nat->St->Hp->Prop)(h0:Pv 0 σ H)(hl:∀i σ H,i<=xs.length->Pv i σ H->SqT K H a xs)
  (hs:∀i x σ H,xs[i]?=some x->Pv i σ H->g x σ H λσ2 H2=>tb {D with nx:=Pv (i+1),ct:=Pv (i+1),bk:=D.nx} σ2 H2) (hd:∀σ H,Pv xs.length σ H->D.nx σ H) :
  ∃W:Nat->Nat->St->Hp->Prop,(∃m,W 0 m σ H)/\∀i m σ H,W i m σ H ->
   ((xC K a).stop i H/\D.nx σ H)\/((xC K a).go i H/\∃N:St->Hp->Prop,(∀σ' H',N σ' H'->∃m',m'<m/\W (i+1) m' σ' H')/\∀x H',(xC K a).yld i H x H'->g x σ H' λσ2 H2=>tb {D with nx:=N,ct:=N,bk:=D.nx} σ2 H2):=by
 refine⟨λi m σ H=>m=xs.length-i/\i<=xs.length/\Pv i σ H,⟨xs.length,by simp,SD _,h0⟩,?_⟩;rintro i m σ H ⟨rfl,hi,p⟩;have q:=hl i σ H hi p;by_cases hlt:i<xs.length
 .refine .inr ⟨⟨xs,xs[i],q,by simp[hlt]⟩,Pv (i+1),λσ' H' p'=>⟨xs.length-(i+1),by lia,rfl,hlt,p'⟩,λx H' y=>?_⟩;obtain⟨e,y⟩:=y;subst e;exact hs i x σ _ (y xs q) p
 .have e:i=xs.length:=by lia
  subst e;exact .inl ⟨⟨xs,q,RB _⟩,hd σ H p⟩
def BU{lo:Int}{n:Nat}{g:TG}{tb:TS}{D:bH}{H:Hp}(Pv:Nat->St->Hp->Prop)(h0:Pv 0 σ H)
  (hs:∀i σ H,i<n->Pv i σ H->g (.int (lo+i)) σ H λσ2 H2=>tb {D with nx:=Pv (i+1),ct:=Pv (i+1),bk:=D.nx} σ2 H2) (hd:∀σ H,Pv n σ H->D.nx σ H) :
  ∃W:Nat->Nat->St->Hp->Prop,(∃m,W 0 m σ H)/\∀i m σ H,W i m σ H ->
   ((xD lo n).stop i H/\D.nx σ H)\/((xD lo n).go i H/\∃N:St->Hp->Prop,(∀σ' H',N σ' H'->∃m',m'<m/\W (i+1) m' σ' H')/\∀x H',(xD lo n).yld i H x H'->g x σ H' λσ2 H2=>tb {D with nx:=N,ct:=N,bk:=D.nx} σ2 H2):=by
 refine⟨λi m σ H=>m=n-i/\i<=n/\Pv i σ H,⟨n,by simp,SD _,h0⟩,?_⟩;rintro i m σ H ⟨rfl,hi,p⟩;by_cases hlt:i<n
 .refine .inr ⟨hlt,Pv (i+1),λσ' H' p'=>⟨n-(i+1),by lia,rfl,hlt,p'⟩,λx H' y=>?_⟩;obtain⟨e,y⟩:=y;subst e y;exact hs i σ _ hlt p
 .have e:i=n:=by lia
  subst e;exact .inl ⟨RB _,hd σ H p⟩
def iW{c:TT}{tb:TS}{D:bH}{H:Hp}(Pv:St->Hp->Prop)(μ:St->Hp->Nat)(h0:Pv σ H)
  (hs:∀σ H,Pv σ H->c σ H λb H1=>if b=true then tb {D with nx:=λσ' H'=>Pv σ' H'/\μ σ' H'<μ σ H,ct:=λσ' H'=>Pv σ' H'/\μ σ' H'<μ σ H,bk:=D.nx} σ H1 else D.nx σ H1)
  (mono:∀σ H Q Q',(∀b H1,Q b H1->Q' b H1)->c σ H Q->c σ H Q'):ic c tb D σ H:=by
 refine⟨λm σ H=>m=μ σ H/\Pv σ H,⟨_,rfl,h0⟩,?_⟩;rintro m σ H ⟨rfl,p⟩;refine mono σ H _ _ (λb H1 q=>?_) (hs σ H p);cases b with
 |true=>exact⟨_,(by rintro σ' H' ⟨p',l⟩;exact ⟨_,l,rfl,p'⟩),q⟩
 |false=>exact q
nonrec abbrev R2:=V->V->Hp->VK->Prop
abbrev fu(X:Cx)(f:Rs->Rs->Sem Rs)(r:R2):Prop :=
 ∀(ξ:List (Addr×Obj)) (s:RC) (σ:St) (H:Hp) (x y:V) (v u:Rs) (Q:VK),Inv X ξ σ H s->RelV x v->RelV y u->r x y H Q ->
  wpAny (model X.prog X.w) X.A (f v u) (EP X ξ σ Q) X.xe s
abbrev O2(X:Cx)(f:Rs->Sem Rs)(r:V->Hp->VK->Prop):Prop :=
 ∀(ξ:List (Addr×Obj)) (s:RC) (σ:St) (H:Hp) (x:V) (v:Rs) (Q:VK),Inv X ξ σ H s->RelV x v->r x H Q ->
  wpAny (model X.prog X.w) X.A (f v) (EP X ξ σ Q) X.xe s
abbrev fF(X:Cx)(f:Rs)(r:List V->Hp->VK->Prop):Prop :=
 ∀(ξ:List (Addr×Obj)) (s:RC) (σ:St) (H:Hp) (xs:List V) (us:List Rs) (Q:VK),Inv X ξ σ H s->Vals xs us->r xs H Q ->
  wpAny (model X.prog X.w) X.A (call f us) (EP X ξ σ Q) X.xe s
abbrev ao(r:R2)(ta tb:TE):TE:=λσ H Q=>ta σ H λx H1=>tb σ H1 λy H2=>r x y H2 Q
abbrev HY(r:V->Hp->VK->Prop)(ta:TE):TE:=λσ H Q=>ta σ H λx H1=>r x H1 Q
abbrev rI(C:Int->Int->Prop)(g:Int->Int->V):R2:=λx y H Q=>∃i j,x=.int i/\y=.int j/\C i j/\Q (g i j) H
abbrev s_(g:Int->Int->V):R2:=λx y H Q=>∃i j,x=.int i/\y=.int j/\Q (g i j) H
abbrev rU(g:Int->V):V->Hp->VK->Prop:=λx H Q=>∃i,x=.int i/\Q (g i) H
section
variable{X:Cx}{a b c:Expr}{ta tb tc:TE}{pos:Pos}
def KO(ha:PE X a ta)(hb:PE X b tb){H:Hp}{R:V->V->Hp->Prop}(I:Inv X ξ σ H s)
  (h:ta σ H λx H1=>tb σ H1 λy H2=>R x y H2)  {f:Rs->Rs->Sem Rs}
  (hf:∀v u s2 x y H2,Inv X ξ σ H2 s2->RelV x v->RelV y u->R x y H2->wpAny (model X.prog X.w) X.A (f v u) Q X.xe s2) :
  wpAny (model X.prog X.w) X.A (eval a X.env) (λv s₁=>wpAny (model X.prog X.w) X.A (eval b X.env) (λu s₂=>wpAny (model X.prog X.w) X.A (f v u) Q X.xe s₂) X.xe s₁) X.xe s:=by
 refine a5 (ha ξ s σ H _ I h) λv s1 ω=>?_;obtain⟨x,H1,I1,r1,q1⟩:=ω
 refine a5 (hb ξ s1 σ H1 _ I1 q1) λu s2 ω=>?_;obtain⟨y,H2,I2,r2,q2⟩:=ω
 exact hf v u s2 x y H2 I2 r1 r2 q2
def Po(ho:fu X (binaryOp op) r)(ha:PE X a ta)(hb:PE X b tb):PE X (.BinOp a op b pos) (ao r ta tb):=by
 intro ξ s σ H Q I h;exact wpAny_BinOp (KO ha hb I h λv u s2 x y H2 I2 rx ry q=>ho ξ s2 σ H2 x y v u Q I2 rx ry q)
def Pl(ho:O2 X (unaryOp op) r)(ha:PE X a ta):PE X (.UnaryOp op a pos) (HY r ta):=by
 intro ξ s σ H Q I h;exact UnaryOp_ (a5 (ha ξ s σ H _ I h) (by rintro v s1 ⟨x,H1,I1,r1,q1⟩;exact ho ξ s1 σ H1 x v Q I1 r1 q1))
def GQ{f:Rs->Rs->Sem Rs}{C:Int->Int->Prop}{g:Int->Int->Int}
  (rule:∀(i j:Int) (t u:Tok) (s:RC) (Q:Rs->RC->Prop) (E:Rs->RC->Prop),C i j->Q (.int (g i j) s.toks) {s with toks:=s.toks+1}->wpAny (model X.prog X.w) X.A (f (.int i t) (.int j u)) Q E s) :
  fu X f (rI C λi j=>.int (g i j)):=by
 intro ξ s σ H x y v u Q I rx ry h;obtain⟨i,j,rfl,rfl,hc,q⟩:=h;obtain⟨t,rfl⟩:=rx;obtain⟨t',rfl⟩:=ry;exact rule i j t t' s _ _ hc ⟨.int (g i j),H,I.tok _,⟨_,rfl⟩,q⟩
def MW{f:Rs->Rs->Sem Rs}{g:Int->Int->Int}
  (rule:∀(i j:Int) (t u:Tok) (s:RC) (Q:Rs->RC->Prop) (E:Rs->RC->Prop),Q (.int (g i j) s.toks) {s with toks:=s.toks+1}->wpAny (model X.prog X.w) X.A (f (.int i t) (.int j u)) Q E s) :
  fu X f (s_ λi j=>.int (g i j)):=by
 intro ξ s σ H x y v u Q I rx ry h;obtain⟨i,j,rfl,rfl,q⟩:=h;obtain⟨t,rfl⟩:=rx;obtain⟨t',rfl⟩:=ry;exact rule i j t t' s _ _ ⟨.int (g i j),H,I.tok _,⟨_,rfl⟩,q⟩
def E9{f:Rs->Rs->Sem Rs}{g:Int->Int->Bool}
  (rule:∀(i j:Int) (t u:Tok) (s:RC) (Q:Rs->RC->Prop) (E:Rs->RC->Prop),Q (.bool (g i j)) s->wpAny (model X.prog X.w) X.A (f (.int i t) (.int j u)) Q E s) :
  fu X f (s_ λi j=>.bl (g i j)):=by
 intro ξ s σ H x y v u Q I rx ry h;obtain⟨i,j,rfl,rfl,q⟩:=h;obtain⟨t,rfl⟩:=rx;obtain⟨t',rfl⟩:=ry;exact rule i j t t' s _ _ ⟨.bl (g i j),H,I,rfl,q⟩
abbrev Lb(i j:Int):Prop:=0<j/\j<1073741824
abbrev OU(i j:Int):Prop:=0<=j/\j<=1000000/\i.natAbs<2 ^ 64
abbrev CMul(i j:Int):Prop:=(-(2 ^ 64)<i/\i<2 ^ 64)\/(-(2 ^ 64)<j/\j<2 ^ 64)
def CMul.ok(h:CMul i j):IntMulOk i j:=by
 rcases h with⟨h1,h2⟩|⟨h1,h2⟩
 .exact .of_left (intBits_le_64 h1 h2)
 .exact .of_right (intBits_le_64 h1 h2)
def MV:fu X (binaryOp .Add) (s_ λi j=>.int (i+j)):=MW λ_ _ _ _ _ _ _ q=>add_int q
def MJ:fu X (binaryOp .Sub) (s_ λi j=>.int (i-j)):=MW λ_ _ _ _ _ _ _ q=>sub_int q
def MO:fu X (binaryOp .Mult) (rI CMul λi j=>.int (i*j)):=GQ λ_ _ _ _ _ _ _ hc q=>mul_int q hc.ok
def JP:fu X (binaryOp .FloorDiv) (rI Lb λi j=>.int (i / j)):=GQ λi j _ _ _ _ _ hc q=>by
 have h1:(0:Int)<j:=hc.1;have h2:j<1073741824:=hc.2;exact Zab (by lia) (by rw[XW i (by lia)];exact q) (.inl (PyProof.noPylong_small (by lia)))
def MP:fu X (binaryOp .Mod) (rI (λ_ j=>0<j) λi j=>.int (i % j)):=GQ λi j _ _ _ _ _ hc q=>by
 have h1:(0:Int)<j:=hc;exact mod_int' (by lia) (by rw[XX i (by lia)];exact q)
def JO:fu X (binaryOp .Mod) (rI (λ_ j=>j≠0) λi j=>.int (i.fmod j)):=GQ λ_ _ _ _ _ _ _ hc q=>mod_int' hc q
def ML:fu X (binaryOp .Pow) (rI OU λi j=>.int (i ^ j.toNat)):=GQ λ_ _ _ _ _ _ _ hc q=>pow_int_small hc.1 hc.2.1 hc.2.2 q
def Q6{f:Rs->Sem Rs}{g:Int->Int}
  (rule:∀(i:Int) (t:Tok) (s:RC) (Q:Rs->RC->Prop) (E:Rs->RC->Prop),Q (.int (g i) s.toks) {s with toks:=s.toks+1}->wpAny (model X.prog X.w) X.A (f (.int i t)) Q E s) :
  O2 X f (rU λi=>.int (g i)):=by
 intro ξ s σ H x v Q I rx h;obtain⟨i,rfl,q⟩:=h;obtain⟨t,rfl⟩:=rx;exact rule i t s _ _ ⟨.int (g i),H,I.tok _,⟨_,rfl⟩,q⟩
def Ln:O2 X (unaryOp .USub) (rU λi=>.int (-i)):=Q6 λ_ _ _ _ _ q=>neg_int q
end
abbrev LO:V->V->Bool
 |.non,.non=>true|.non,.int _=>true|.int _,.non=>true|.non,.bl _=>true|.bl _,.non=>true|.non,.str _=>true|.str _,.non=>true
 |.int _,.int _=>true|.bl _,.bl _=>true|.str _,.str _=>true|.byt _,.byt _=>true
 |.int _,.str _=>true|.str _,.int _=>true|.bl _,.str _=>true|.str _,.bl _=>true
 |_,_=>false
abbrev gk:R2:=λx y H Q=>LO x y=true/\Q (.bl (decide (x=y))) H
abbrev GA:R2:=λx y H Q=>LO x y=true/\Q (.bl (!decide (x=y))) H
def Ce:decide (V.int i=V.int j)=(i == j):=by
 rw[UP];simp
def Hg:decide (V.bl i=V.bl j)=(i == j):=by
 rw[UP];simp
def Cd:decide (V.str i=V.str j)=(i == j):=by
 rw[UP];simp
def Cf:decide (V.byt i=V.byt j)=(i.toList == j.toList):=by
 rw[UP];cases i;cases j;simp
section
variable{X:Cx}{a b c:Expr}{ta tb tc:TE}{pos:Pos}
def a6{H:Hp}{Q:VK}{k':Bool}(I:Inv X ξ σ H s)(q:Q (.bl k) H)(e:k=k'):EP X ξ σ Q (.bool k') s:=by
 subst e;exact⟨.bl k,H,I,rfl,q⟩
def PB:fu X (compareOp .Eq) gk:=by
 intro ξ s σ H x y v u Q I rx ry h;obtain⟨hs,q⟩:=h;cases x with
 |non =>
  cases rx;cases y with
  |non=>cases ry;exact PySem.EqNone.eq_none_none (a6 I q (by simp))
  |bl j=>cases ry;exact PySem.EqNone.eq_none_bool (a6 I q (by simp))
  |int j=>obtain⟨t',rfl⟩:=ry;exact PySem.EqNone.eq_none_int (a6 I q (by simp))
  |str j=>obtain⟨t',rfl⟩:=ry;exact PySem.EqNone.eq_none_str (a6 I q (by simp))
  |_=>exact absurd (show false=true from hs) Sd
 |bl i =>
  cases rx;cases y with
  |non=>cases ry;exact PySem.EqNone.eq_bool_none (a6 I q (by simp))
  |bl j=>cases ry;exact eq_bool (a6 I q Hg)
  |str j=>obtain⟨t',rfl⟩:=ry;exact PySem.EqMixed.eq_bool_str (a6 I q (by simp))
  |_=>exact absurd (show false=true from hs) Sd
 |int i =>
  obtain⟨t,rfl⟩:=rx;cases y with
  |non=>cases ry;exact PySem.EqNone.eq_int_none (a6 I q (by simp))
  |int j=>obtain⟨t',rfl⟩:=ry;exact eq_int (a6 I q Ce)
  |str j=>obtain⟨t',rfl⟩:=ry;exact PySem.EqMixed.eq_int_str (a6 I q (by simp))
  |_=>exact absurd (show false=true from hs) Sd
 |str i =>
  obtain⟨t,rfl⟩:=rx;cases y with
  |non=>cases ry;exact PySem.EqNone.eq_str_none (a6 I q (by simp))
  |bl j=>cases ry;exact PySem.EqMixed.eq_str_bool (a6 I q (by simp))
  |int j=>obtain⟨t',rfl⟩:=ry;exact PySem.EqMixed.eq_str_int (a6 I q (by simp))
  |str j=>obtain⟨t',rfl⟩:=ry;exact eq_str (a6 I q Cd)
  |_=>exact absurd (show false=true from hs) Sd
 |byt i =>
  obtain⟨t,rfl⟩:=rx;cases y with
  |byt j=>obtain⟨t',rfl⟩:=ry;exact PySem.W.eq_bytes (a6 I q Cf)
  |_=>exact absurd (show false=true from hs) Sd
 |_=>cases y <;> exact absurd (show false=true from hs) Sd
def Px:fu X (compareOp .NotEq) GA:=by
 intro ξ s σ H x y v u Q I rx ry h;obtain⟨hs,q⟩:=h;cases x with
 |non =>
  cases rx;cases y with
  |non=>cases ry;exact PySem.EqNone.ne_none_none (a6 I q (by simp))
  |bl j=>cases ry;exact PySem.EqNone.ne_none_bool (a6 I q (by simp))
  |int j=>obtain⟨t',rfl⟩:=ry;exact PySem.EqNone.ne_none_int (a6 I q (by simp))
  |str j=>obtain⟨t',rfl⟩:=ry;exact PySem.EqNone.ne_none_str (a6 I q (by simp))
  |_=>exact absurd (show false=true from hs) Sd
 |bl i =>
  cases rx;cases y with
  |non=>cases ry;exact PySem.EqNone.ne_bool_none (a6 I q (by simp))
  |bl j=>cases ry;exact ne_bool (a6 I q (congrArg not Hg))
  |str j=>obtain⟨t',rfl⟩:=ry;exact PySem.EqMixed.ne_bool_str (a6 I q (by simp))
  |_=>exact absurd (show false=true from hs) Sd
 |int i =>
  obtain⟨t,rfl⟩:=rx;cases y with
  |non=>cases ry;exact PySem.EqNone.ne_int_none (a6 I q (by simp))
  |int j=>obtain⟨t',rfl⟩:=ry;exact ne_int (a6 I q (congrArg not Ce))
  |str j=>obtain⟨t',rfl⟩:=ry;exact PySem.EqMixed.ne_int_str (a6 I q (by simp))
  |_=>exact absurd (show false=true from hs) Sd
 |str i =>
  obtain⟨t,rfl⟩:=rx;cases y with
  |non=>cases ry;exact PySem.EqNone.ne_str_none (a6 I q (by simp))
  |bl j=>cases ry;exact PySem.EqMixed.ne_str_bool (a6 I q (by simp))
  |int j=>obtain⟨t',rfl⟩:=ry;exact PySem.EqMixed.ne_str_int (a6 I q (by simp))
  |str j=>obtain⟨t',rfl⟩:=ry;exact ne_str (a6 I q (congrArg not Cd))
  |_=>exact absurd (show false=true from hs) Sd
 |byt i =>
  obtain⟨t,rfl⟩:=rx;cases y with
  |byt j=>obtain⟨t',rfl⟩:=ry;exact PySem.W.ne_bytes (a6 I q (congrArg not Cf))
  |_=>exact absurd (show false=true from hs) Sd
 |_=>cases y <;> exact absurd (show false=true from hs) Sd
def MQ:fu X (compareOp .Lt) (s_ λi j=>.bl (decide (i<j))):=E9 λ_ _ _ _ _ _ _ q=>lt_int q
def MR:fu X (compareOp .LtE) (s_ λi j=>.bl (decide (i<=j))):=E9 λ_ _ _ _ _ _ _ q=>le_int q
def Py:fu X (compareOp .Gt) (s_ λi j=>.bl (decide (j<i))):=E9 λ_ _ _ _ _ _ _ q=>gt_int q
def Pz:fu X (compareOp .GtE) (s_ λi j=>.bl (decide (j<=i))):=E9 λ_ _ _ _ _ _ _ q=>ge_int q
def MS:fu X (compareOp .Is) (λx y H Q=>y=.non/\Q (.bl (decide (x=.non))) H):=by
 intro ξ s σ H x y v u Q I rx ry h;obtain⟨rfl,q⟩:=h;cases ry;refine is_none_gen (a6 I q ?_)
 cases x <;> first
  |(cases rx;rfl)
  |(obtain⟨t,rfl⟩:=rx;rfl)
def JM:fu X (compareOp .IsNot) (λx y H Q=>y=.non/\Q (.bl (!decide (x=.non))) H):=by
 intro ξ s σ H x y v u Q I rx ry h;obtain⟨rfl,q⟩:=h;cases ry;refine isnot_none_gen (a6 I q ?_)
 cases x <;> first
  |(cases rx;rfl)
  |(obtain⟨t,rfl⟩:=rx;rfl)
def GS(b:Expr){op:CmpOp}(h:op≠.In:=by decide)(h2:op≠.NotIn:=by decide):behindInMarks op b=false:=by
 have e1:(op == CmpOp.In)=false:=by cases op <;> first|rfl|exact absurd rfl h
 have e2:(op == CmpOp.NotIn)=false:=by cases op <;> first|rfl|exact absurd rfl h2
 cases b <;> simp[behindInMarks,e1,e2]
def JH(ho:fu X (compareOp op) r)(ha:PE X a ta)(hb:PE X b tb)(hm:behindInMarks op b=false):PE X (.Compare a [op] [b] pos) (ao r ta tb):=by
 intro ξ s σ H Q I h;exact wpAny_Compare1 (KO ha hb I h λv u s2 x y H2 I2 rx ry q=>ho ξ s2 σ H2 x y v u Q I2 rx ry q) hm
abbrev aP(t:TE):TT:=λσ H Q=>t σ H λx H'=>∃k,x=.bl k/\Q k H'
def Aj(ho:fu X (compareOp op) r)(ha:PE X a ta)(hb:PE X b tb)(hm:behindInMarks op b=false):PT X (.Compare a [op] [b] pos) (aP (ao r ta tb)):=by
 intro ξ s σ H Q I h
 refine Y5 (a5 (ha ξ s σ H _ I h) λv s1 ⟨x,H1,I1,r1,q1⟩=>a5 (hb ξ s1 σ H1 _ I1 q1) λu s2 ⟨y,H2,I2,r2,q2⟩ =>
  a5 (ho ξ s2 σ H2 x y v u _ I2 r1 r2 q2) λc s3 ⟨z,H3,I3,r3,k,e,q3⟩=>?_) hm
 subst e;cases r3;exact Uf ⟨H3,I3,q3⟩
abbrev uD(r r':R2)(ta tb tc:TE):TE:=λσ H Q=>ta σ H λx H1=>tb σ H1 λy H2=>r x y H2 λz H3=>∃k,z=.bl k /\
 (if k=true then tc σ H3 λw' H4=>r' y w' H4 Q else Q (.bl false) H3)
def uX(ho:fu X (compareOp op) r)(ho':fu X (compareOp op') r')(ha:PE X a ta)(hb:PE X b tb)(hc:PE X c tc)
  (hm:lastMarks [op,op'] [b,c]=false:=by with_unfolding_all rfl):PT X (.Compare a [op,op'] [b,c] pos) (aP (uD r r' ta tb tc)):=by
 intro ξ s σ H Q I h
 refine isTrue_chain (a5 (ha ξ s σ H _ I h) λv s1 ⟨x,H1,I1,r1,q1⟩=>test_link (a5 (hb ξ s1 σ H1 _ I1 q1) λu s2 ⟨y,H2,I2,r2,q2⟩ =>
  a5 (ho ξ s2 σ H2 x y v u _ I2 r1 r2 q2) λd s3 ⟨z,H3,I3,r3,k,e,q3⟩=>?_)) hm
 subst e;cases r3;refine Uf ?_;cases k with
 |false =>
  obtain⟨k',e',q'⟩:=q3;cases e';exact ite_ff ⟨H3,I3,q'⟩
 |true =>
  refine ite_tt (test_last (a5 (hc ξ s3 σ H3 _ I3 q3) λw' s4 ⟨z',H4,I4,r4,q4⟩=>a5 (ho' ξ s4 σ H4 y z' u w' _ I4 r2 r4 q4) λd' s5 ω=>?_));obtain⟨z2,H5,I5,r5,k2,e2,q5⟩:=ω;subst e2;cases r5;exact Uf ⟨H5,I5,q5⟩
def qB:(sizeLine:Nat)<2 ^ 63:=by rw[UY];decide
def wM:fu X (binaryOp .Add) (λx y H Q=>∃i j,x=.str i/\y=.str j/\i.length+j.length<=sizeLine/\Q (.str (i++j)) H):=by
 intro ξ s σ H x y v u Q I rx ry h;obtain⟨i,j,rfl,rfl,hz,q⟩:=h;obtain⟨t,rfl⟩:=rx;obtain⟨t',rfl⟩:=ry;exact add_str (λt' tk=>⟨.str (i++j),H,I.tok _,⟨_,rfl⟩,q⟩) hz
def vals1{x:V}{us:List Rs}(r:Vals [x] us):∃u,us=[u]/\RelV x u:=by
 cases r with
 |cons r1 r2=>cases r2;exact⟨_,rfl,r1⟩
def vals2{x y:V}{us:List Rs}(r:Vals [x,y] us):∃u w',us=[u,w']/\RelV x u/\RelV y w':=by
 cases r with
 |cons r1 r2 =>
  cases r2 with
  |cons r3 r4=>cases r4;exact⟨_,_,rfl,r1,r3⟩
def F5:fF X (.builtin "abs") (λxs H Q=>∃i,xs=[.int i]/\Q (.int (if i<0 then -i else i)) H):=by
 intro ξ s σ H xs us Q I r h;obtain⟨i,rfl,q⟩:=h;obtain⟨u,rfl,t,rfl⟩:=vals1 r;exact call_abs_int λu tk=>⟨.int (if i<0 then -i else i),H,I.tok _,⟨_,rfl⟩,q⟩
def Cu(hc:X.calm=true):fF X (.builtin "max") (λxs H Q=>∃i j,xs=[.int i,.int j]/\Q (.int (if j > i then j else i)) H):=by
 intro ξ s σ H xs us Q I r h;obtain⟨i,j,rfl,q⟩:=h;obtain⟨u,w',rfl,⟨t,rfl⟩,⟨t',rfl⟩⟩:=vals2 r;refine max_two_ints (I.ok.hd hc) λh' tk k=>⟨_,H,I.kept k,?_,q⟩
 by_cases hj:j > i
 .rw[if_pos hj,if_pos hj];exact⟨_,rfl⟩
 .rw[if_neg hj,if_neg hj];exact⟨_,rfl⟩
def Ct(hc:X.calm=true):fF X (.builtin "min") (λxs H Q=>∃i j,xs=[.int i,.int j]/\Q (.int (if j<i then j else i)) H):=by
 intro ξ s σ H xs us Q I r h;obtain⟨i,j,rfl,q⟩:=h;obtain⟨u,w',rfl,⟨t,rfl⟩,⟨t',rfl⟩⟩:=vals2 r;refine min_two_ints (I.ok.hd hc) λh' tk k=>⟨_,H,I.kept k,?_,q⟩
 by_cases hj:j<i
 .rw[if_pos hj,if_pos hj];exact⟨_,rfl⟩
 .rw[if_neg hj,if_neg hj];exact⟨_,rfl⟩
def Cy:fF X (.type "int") (λxs H Q=>(∃i,xs=[.int i]/\Q (.int i) H)\/∃k,xs=[.bl k]/\Q (.int (if k then 1 else 0)) H):=by
 intro ξ s σ H xs us Q I r h;rcases h with⟨i,rfl,q⟩|⟨k,rfl,q⟩
 .obtain⟨u,rfl,t,rfl⟩:=vals1 r;exact call_int_int ⟨.int i,H,I,⟨_,rfl⟩,q⟩
 .obtain⟨u,rfl,r1⟩:=vals1 r;cases r1;exact call_int_bool ⟨.int (if k then 1 else 0),H,I.tok _,⟨_,rfl⟩,q⟩
end
structure ObjM (h:Heap) (x dx C:Addr) (mA:Str->Option Rs):Prop where
 obj:h.get? x=some (YY C dx)
 ns:h.Ns1 dx mA
 ne:dx≠x
def qA{h:Heap}(n:h.Ns1 dx mA):∃od,h.get? dx=some od/\∀name,Zd name od=some (mA name):=by
 obtain⟨o,es,ep,ho,hd,hk,_,hm⟩:=n;refine⟨o,ho,λname=>?_⟩;have e:=hm name;unfold nsFind findBy at e;rw[<- Array.find?_toList] at e;unfold Zd;rw[hd];dsimp only;split
 .rename_i y q;rw[q] at e;exact congrArg some e
 .rename_i q;rw[q] at e
  have a:es.toList.any (·.refKey)=false:=by
   rw[List.any_eq_false];intro y hy;obtain⟨z,t,hkey⟩:=hk y (Array.mem_toList_iff.mp hy);simp[XR.refKey,hkey]
  have a' : ¬ es.toList.any (·.refKey)=true:=by rw[a];exact Sd
  rw[if_neg a'];exact congrArg some e
def ObjM.look(I:ObjM h x dx C mA):∃od,PySem.W.InstAt h x (YY C dx) C (some od)/\∀name,Zd name od=some (mA name) :=
 let ⟨od,ho,hl⟩:=qA I.ns
 ⟨od,⟨I.obj,rfl,rfl,ho⟩,hl⟩
def RelO.some_of{v:V}(r:RelO (some v) o):∃u,o=some u/\RelV v u:=by
 cases o with
 |none=>exact(show False from r).elim
 |some u=>exact⟨u,rfl,r⟩
def BH(r:RelV v u):PySem.W.handedIn u=true:=by
 cases v with
 |non=>cases (show u=Tx from r);rfl
 |bl b=>cases (show u=XS b from r);rfl
 |int i=>obtain⟨t,e⟩:=(show ∃t,u=VH i t from r);cases e;rfl
 |str x=>obtain⟨t,e⟩:=(show ∃t,u=Yv x t from r);cases e;rfl
 |byt b=>obtain⟨t,e⟩:=(show ∃t,u=Rs.bytes b t from r);cases e;rfl
 |flt b=>obtain⟨t,e⟩:=(show ∃t,u=ZaZ b t from r);cases e;rfl
 |ref a=>cases (show u=R_ a from r);rfl
 |ty n=>cases (show u=Wv n from r);rfl
section
variable{P:RM}{w:R4}{H H':Hp}{h h':Heap}{a C dx:Addr}{fs fs':List (Str×V)}
def Ks(hok:HOk P w H h)(e:H a=some (.ins C dx fs)):∃mA,ObjM h a dx C mA/\(∀f,RelO (fs.lookup f) (mA f))/\YJ mA (fs.map (·.1))/\fs.length<=1000/\H dx=some (.own a):=by
 obtain⟨d,z,ne,ob,mA,n,r,q⟩:=(show bB P w H h a (.ins C dx fs) from hok a _ e)
 exact⟨mA,⟨ob,n,ne⟩,r,q,z,d⟩
end
structure Cls (K:Fg) (C:Addr):Prop where
 pg:ZaL K C VI=true
 hd:Zac K C=true
 po:PySem.W.plainOver K C=true
 sa:Vt K (.ref C) "__setattr__"=some (some (.builtin "object.__setattr__"))
def Cls.get{K:Fg}(c:Cls K C)(f:Str):ZaL K C f=true:=c.pg
section
variable{X:Cx}{ξ:List (Addr×Obj)}{σ:St}{H:Hp}{s:RC}{a C dx:Addr}{fs:List (Str×V)}{f:Str}{v:V}{A:SC}{E:Rs->RC->Prop}
def KQ{f:Str}{s:RC}(hb:attributeBase e f env (eval e env)=eval e env)
  (h:wpAny (model prog w) A (eval e env) (λo s₁=>wpAny (model prog w) A (getAttr o f true) Q E s₁) E s):wpAny (model prog w) A (eval (.Attribute e f pos) env) Q E s :=
 Attribute_any_ h (by rw[arm_eval_Attribute,hb])
end
section
variable{X:Cx}{ξ:List (Addr×Obj)}{σ:St}{H:Hp}{s:RC}{A:SC}{E:Rs->RC->Prop}{Q:Rs->RC->Prop}{c:Rs}{b:Bool}
inductive TyOf (K:Fg) (H:Hp):V->Rs->Prop where
 |non:TyOf K H .non (.type "NoneType")
 |bl (x:Bool):TyOf K H (.bl x) (.type "bool")
 |int (i:Int):TyOf K H (.int i) (.type "int")
 |str (x:Str):TyOf K H (.str x) (.type "str")
 |flt (x:UInt64):TyOf K H (.flt x) (.type "float")
 |lst {a:Addr} {xs:List V} (e:H a=some (.lst xs)):TyOf K H (.ref a) (.type "list")
 |frz {a:Addr} {o:Obj} {xs:List V} (e:H a=some (.frz o (.lst xs))):TyOf K H (.ref a) (.type "list")
 |tup {a:Addr} {xs:List V} (e:H a=some (.tup xs)):TyOf K H (.ref a) (.type "tuple")
 |dK {a:Addr} {de:List (ba×V)} (e:H a=some (.dK de)):TyOf K H (.ref a) (.type "dict")
 |dT {a:Addr} {de:List (List ba×V)} (e:H a=some (.dT de)):TyOf K H (.ref a) (.type "dict")
 |ins {a C dx:Addr} {fs:List (Str×V)} (e:H a=some (.ins C dx fs)) (cl:Cls K C) (ha:Vt K (.ref C) "__class__"=some (some (.builtin "object.__class__")))
   (hn:Yd K (.builtin "object.__class__") "__get__"=some (some (.builtin "getset_descriptor.__get__"))) (htk:Zba K (.builtin "object.__class__")=some true)
   (hm:ZF K C (.type "object")=some true):TyOf K H (.ref a) (.ref C)
def Bw(I:Inv X ξ σ H s)(rx:RelV x u)(ty:TyOf X.K H x t)(e:WO X.K t c=some b)(h:∀tk,Q (.bool b) {s with toks:=tk}) :
  wpAny (model X.prog X.w) A (call (.builtin "isinstance") [u,c]) Q E s:=by
 cases ty with
 |non=>cases (show u=Tx from rx);exact T9 PySem.W.kitx_none I.kIn UB e (λz=>nomatch z) h
 |bl y=>cases (show u=XS y from rx);exact T9 PySem.W.kitx_bool I.kIn UB e (λz=>nomatch z) h
 |int i=>obtain⟨t,q⟩:=(show ∃t,u=VH i t from rx);cases q;exact T9 PySem.W.kitx_int I.kIn UB e (λz=>nomatch z) h
 |str y=>obtain⟨t,q⟩:=(show ∃t,u=Yv y t from rx);cases q;exact T9 PySem.W.kitx_str I.kIn UB e (λz=>nomatch z) h
 |flt y=>obtain⟨t,q⟩:=(show ∃t,u=ZaZ y t from rx);cases q;exact T9 PySem.W.kitx_float I.kIn UB e (λz=>nomatch z) h
 |@lst a xs ea =>
  cases (show u=R_ a from rx);obtain⟨_,_,n,_,h1⟩:=(show bB X.prog X.w H s.heap a (.lst xs) from I.hok a _ ea)
  exact T9 Zad I.kIn ⟨_,h1,rfl⟩ e (λz=>nomatch z) h
 |@frz a ob xs ea =>
  cases (show u=R_ a from rx);obtain⟨_,_,_,n,_,h1⟩:=(show bB X.prog X.w H s.heap a (.frz ob (.lst xs)) from I.hok a _ ea)
  exact T9 Zad I.kIn ⟨_,h1,rfl⟩ e (λz=>nomatch z) h
 |@tup a xs ea =>
  cases (show u=R_ a from rx);obtain⟨_,_,_,p⟩:=(show bB X.prog X.w H s.heap a (.tup xs) from I.hok a _ ea)
  obtain⟨o,h1,⟨h2,_⟩,_⟩:=p;exact T9 PySem.W.kitx_tuple I.kIn ⟨o,h1,h2⟩ e (λz=>nomatch z) h
 |@dK a de ea =>
  cases (show u=R_ a from rx);obtain⟨_,_,vs,_,p⟩:=(show bB X.prog X.w H s.heap a (.dK de) from I.hok a _ ea)
  obtain⟨o,es,ep,h1,h2,_⟩:=p;exact T9 Zae I.kIn ⟨o,h1,h2.1⟩ e (λz=>nomatch z) h
 |@dT a de ea =>
  cases (show u=R_ a from rx);obtain⟨_,_,xs,_,o,es,ep,h1,h2,_⟩:=(show bB X.prog X.w H s.heap a (.dT de) from I.hok a _ ea)
  exact T9 Zae I.kIn ⟨o,h1,h2.1⟩ e (λz=>nomatch z) h
 |@ins a C dx fs ea cl ha hn htk hm =>
  cases (show u=R_ a from rx);obtain⟨mA,O,_⟩:=Ks I.hok ea;obtain⟨od,J,_⟩:=O.look;exact T9 (PySem.W.kitx_own (cl.get _) cl.hd ha hn htk hm) I.kIn J e (λz=>nomatch z) h
end
structure Room (k:Nat) (A:SC):Prop where
 hd:A.handled=none
 dp:A.depth+3*k+5<recursionLimit
 un:A.units+16*k+200<cLine
def Room.mono{j:Nat}(r:Room k A)(h:j<=k):Room j A:=⟨r.hd,by have:=r.dp;lia,by have:=r.un;lia⟩
def Room.deeper{k:Nat}(r:Room (k+1) A)(env:Env):Room k (A.deeper env) :=
 ⟨r.hd,by have:=r.dp;show A.depth+1+3*k+5<_;lia,by have:=r.un;show A.units+3+16*k+200<_;lia⟩
def wX{A:SC}  {us:List Rs} {kw:List (Str×Rs)}:(A.under (.builtin "type.__call__" ⟨.ref C :: us,kw⟩)).depth=A.depth+1:=by
 first|rfl|simp[Zaf,Code.weight,Code.isCreation,Code.isGuard,Code.isCaller,Code.frames,Zag,guardIds]
def wV{A:SC}  {us:List Rs} {kw:List (Str×Rs)}:(A.under (.builtin "type.__call__" ⟨.ref C :: us,kw⟩)).units=A.units+1:=by
 first|rfl|simp[Zaf,Code.cUnits,Code.frames,Zag]
def Room.make{k:Nat}  (r:Room (k+1) A) (C:Addr) (us:List Rs) (kw:List (Str×Rs)):Room k (A.under (.builtin "type.__call__" ⟨.ref C :: us,kw⟩)) :=
 ⟨r.hd,by have:=r.dp;rw[wX];lia,by have:=r.un;rw[wV];lia⟩
def Room.depth(r:Room k A):A.depth<recursionLimit:=by have:=r.dp;lia
def Room.units(r:Room k A):A.units+64<cLine:=by have:=r.un;lia
abbrev ai:TA:=λ_ H Q=>Q [] H
abbrev ae(ta:TE)(tr:TA):TA:=λσ H Q=>ta σ H λx H1=>tr σ H1 λxs H2=>Q (x :: xs) H2
section
variable{X:Cx}{e:Expr}{es:List Expr}{te:TE}{t:TA}{pos:Pos}
def cu:PA X [] ai:=λ_ _ _ _ H Q I h=>Ve ⟨[],H,I,.nil,h⟩
def aU(ha:PE X e te)(hr:PA X es t)(hs:starEach (e :: es) X.env=(false,eval e X.env) :: starEach es X.env:=by rfl):PA X (e :: es) (ae te t):=by
 intro pos ξ s σ H Q I h;rw[hs];show wpAny _ _ (spliced ((false,eval e X.env) :: backTo pos (starEach es X.env))) _ _ s;refine U1 (a5 (ha ξ s σ H _ I h) λu s1 ω=>?_);obtain⟨x,H1,I1,r1,q1⟩:=ω;exact a5 (hr pos ξ s1 σ H1 _ I1 q1) (by rintro us s2 ⟨xs,H2,I2,r2,q2⟩;exact ⟨x :: xs,H2,I2,.cons r1 r2,q2⟩)
abbrev bg(t:TA):TE:=λσ H Q=>t σ H λxs H1=>xs.length<=sizeLine/\∀p,H1 p=none->Q (.ref p) (upd H1 p (.tup xs))
abbrev bP(t:TA):TE:=λσ H Q=>t σ H λxs H1=>xs.length<=sizeLine/\∀p,H1 p=none->Q (.ref p) (upd H1 p (.lst xs))
def Mt{x1}(h:PA X es t):PE X (.Tuple es x1 pos) (bg t):=by
 intro ξ s σ H Q I hq;refine wpAny_Tuple_spliced (a5 (h pos ξ s σ H _ I hq) λus s1 ⟨xs,H1,I1,r,z,q⟩=>⟨by rw[<- r.length];exact z,?_⟩);have hf:H1 s1.heap.objs.size=none:=I1.hok.fresh (RB _);refine⟨.ref s1.heap.objs.size,upd H1 s1.heap.objs.size (.tup xs),I1.laid (t':=s1.toks) (λb u e=>Rv _ e) (RB _) ?_,rfl,q _ hf⟩;exact⟨z,us,r,TupD.new _ _⟩
def Mx(h:PA X es t):PE X (.List es pos) (bP t):=by
 intro ξ s σ H Q I hq;refine wpAny_List_spliced (a5 (h pos ξ s σ H _ I hq) λus s1 ⟨xs,H1,I1,r,z,q⟩=>⟨by rw[<- r.length];exact z,?_⟩);have hf:H1 s1.heap.objs.size=none:=I1.hok.fresh (RB _);refine⟨.ref s1.heap.objs.size,upd H1 s1.heap.objs.size (.lst xs),I1.laid (t':=s1.toks) (λb u e=>Rv _ e) (RB _) ?_,rfl,q _ hf⟩;exact⟨z,us,0,r,Sb _ rfl⟩
end
nonrec abbrev Sp:=List V->Hp->VK->XK->Prop
nonrec abbrev kI:=List Env->Hp->RC->XK->Rs->RC->Prop
structure Env0 (P:RM) (w:R4) (K:Fg) (mg:Str->Option Rs) (base:Heap) (A:SC) (outer:List Env) (s:RC) (H:Hp):Prop where
 frames:A.frames=some outer
 mod:Mod K mg base
 bs:∀b o,base.get? b=some o->s.heap.get? b=some o/\H b=none
 bsz:base.objs.size<=s.heap.objs.size
 funs:s.heap.FunFrames base outer
 frf:∀b∈frs outer,H b=none
 hok:HOk P w H s.heap
 bare:Xk s.gens
abbrev CE(outer:List Env)(P:RM)(w:R4)(H:Hp)(s:RC)(Q:VK)(u:Rs)(s':RC):Prop :=
 ∃v H',s'.os=s.os/\Xk s'.gens/\Un (frs outer) [] H H' s.heap s'.heap/\HOk P w H' s'.heap/\RelV v u/\Q v H'
abbrev CR(CX:kI)(outer:List Env)(P:RM)(w:R4)(H:Hp)(s:RC)(Q:VK)(E:XK)(r:ZaM)(s':RC):Prop :=
 match r with
 |.ok (.ret u)=>CE outer P w H s Q u s'
 |.ok _=>False
 |.error e=>CX outer H s E e s'
structure FnOk (P:RM) (w:R4) (K:Fg) (mg:Str->Option Rs) (base:Heap) (CX:kI) (k:Nat) (f:Addr) (fd:UR) (ps:List Str) (sp:Sp):Prop where
 len:∀vs H Q E,sp vs H Q E->vs.length=ps.length
 run:∀(A:SC) (outer:List Env) (s:RC) (H:Hp) (args:Args) (us:List Rs) (vs:List V) (Q:VK) (E:XK),Room k A->Env0 P w K mg base A outer s H->Zah s fd args (ps.zip us)->Vals vs us->sp vs H Q E ->
  codeAny (model P w) A (.call (.ref f) args) (CR CX outer P w H s Q E) s
def FnOk.mono{K:Fg}{CX:kI}{k:Nat}(F:FnOk P w K mg base CX j f fd ps sp)(h:j<=k) :
  FnOk P w K mg base CX k f fd ps sp:=⟨F.len,λA outer s H args us vs Q E hr=>F.run A outer s H args us vs Q E (hr.mono h)⟩
def FnOk.imp{K:Fg}{CX:kI}{sp':Sp}(F:FnOk P w K mg base CX k f fd ps sp)
  (h:∀vs H Q E,sp' vs H Q E->sp vs H Q E):FnOk P w K mg base CX k f fd ps sp' :=
 ⟨λvs H Q E q=>F.len vs H Q E (h _ _ _ _ q),λA outer s H args us vs Q E hr he hb hv hs=>F.run A outer s H args us vs Q E hr he hb hv (h _ _ _ _ hs)⟩
def Env0.make{K:Fg}(e:Env0 P w K mg base A outer s H)(C:Addr)(us:List Rs)(kw:List (Str×Rs)) :
  Env0 P w K mg base (A.under (.builtin "type.__call__" ⟨.ref C :: us,kw⟩)) outer s H:=⟨by first|exact e.frames|(simpa[Zaf,Code.envs,Zag,pushEnvs] using e.frames),e.mod,e.bs,e.bsz,e.funs,e.frf,e.hok,e.bare⟩
section
variable{X:Cx}{ξ:List (Addr×Obj)}{σ:St}{H:Hp}{s s':RC}
def Inv.env0(I:Inv X ξ σ H s):Env0 X.prog X.w X.K X.mg X.base X.A X.stack s H :=
 ⟨I.ok.frames,I.ok.mod,I.bs,RN I.ok.bsz I.sz,I.stack,I.ja,I.hok,I.bare⟩
def Inv.after(I:Inv X ξ σ H s)(h:CE X.stack X.prog X.w H s Q u s'):EP X ξ σ Q u s':=by
 obtain⟨v,H',os,bare,un,hok,r,q⟩:=h;obtain⟨hh,g,d,t,os'⟩:=s';obtain rfl:os'=s.os:=os;exact⟨v,H',I.call (h':=hh) (g':=g) (d':=d) (t':=t) (ch:=[]) un hok bare (λb z=>absurd z (by simp)),r,q⟩
end
abbrev aw(sp:Sp)(dR:List V)(E:XK)(t:TA):TE:=λσ H Q=>t σ H λvs H1=>sp (vs++dR) H1 Q E
abbrev Binds(K:Fg)(fd:UR)(ps:List Str)(ds:List Rs):Prop :=
 ∀(s:RC) (us:List Rs),K.In s.heap->(us++ds).length=ps.length->Zah s fd ⟨us,[]⟩ (ps.zip (us++ds))
def Binds.all{K:Fg}{ps:List Str}(h:∀us:List Rs,us.length=ps.length->bindArgs fd ⟨us,[]⟩=pure (ps.zip us)):Binds K fd ps []:=λs us _ hl=>by
 rw[Up] at hl ⊢;exact .of_eq (h us hl)
abbrev jZ(CX:kI)(X:Cx)(E:XK):Prop:=∀(ξ:List (Addr×Obj)) (σ:St) (H:Hp) (s:RC) (e:Rs) (s':RC),Inv X ξ σ H s->CX X.stack H s E e s'->X.xe e s'
section
variable{X:Cx}{CX:kI}{k:Nat}{f C:Addr}{fd:UR}{ps:List Str}{sp:Sp}{dR:List V}{ds:List Rs}{E:XK}{x m:Str}{p pos apos:Pos}{e o:Expr}{es:List Expr}{ta:TE}{t:TA}
def LQ{H:Hp}{vs:List V}(F:FnOk X.prog X.w X.K X.mg X.base CX k f fd ps sp)(hr:Room k X.A)(hb:Binds X.K fd ps ds)(hd:Vals dR ds)(hx:jZ CX X E)
  (I:Inv X ξ σ H s) (r:Vals vs us) (h:sp (vs++dR) H Q E):wpAny (model X.prog X.w) X.A (call (.ref f) us) (EP X ξ σ Q) X.xe s:=by
 have r2:Vals (vs++dR) (us++ds):=r.append hd;have hl:(us++ds).length=ps.length:=by rw[<- r2.length];exact F.len _ _ _ _ h
 refine Wx (V3 (F.run X.A X.stack s H ⟨us,[]⟩ (us++ds) (vs++dR) Q E hr I.env0 (hb s us I.kIn hl) r2 h) λr s' hq=>?_);cases r with
 |error e=>exact hx ξ σ H s e s' I hq
 |ok fl =>
  cases fl with
  |ret u=>exact I.after hq
  |next=>exact Us hq
  |brk=>exact Us hq
  |cont=>exact Us hq
def JI(F:FnOk X.prog X.w X.K X.mg X.base CX k f fd ps sp)(hr:Room k X.A)(hg:Gl X x)(hm:X.mg x=⇑f)(hk:UG X.K (.ref f)=true)(hb:Binds X.K fd ps ds)(hd:Vals dR ds)(hx:jZ CX X E)
  (ha:PA X (e :: es) t) (hdb:(x == ("__debug__":Str))=false:=by decide) (he:starEach (e :: es) X.env=(false,eval e X.env) :: starEach es X.env:=by rfl) (hpl:(backTo pos (starEach es X.env)).any (·.1)=false:=by rfl) :
  PE X (.Call (.Name x p) (e :: es) [] pos) (aw sp dR E t):=by
 intro ξ s σ H Q I h;refine TX (fZ I hg hm ?_ hdb);refine ZW (h₀:=X.base) I.ok.mod.kin hk (a5 (ha pos ξ s σ H _ I h) λus s1 ⟨vs,H1,I1,r,q⟩=>⟨I1.kIn,?_⟩) he hpl;exact LQ F hr hb hd hx I1 r q
end
structure ar (N P:List Str) (sc:Scope):Prop where
 kind:sc.kind=.function
 co:sc.isCoroutine=false
 gen:sc.isGenerator=false
 nd:N.Nodup
 pre:N.take P.length=P
 par:∀x∈P,sc.names.lookup x=some .local\/sc.names.lookup x=some .cell
 nofree:∀y∈sc.names,y.2≠.free
def qU{kindOf:Str->Option Yx}{x:Str}:∀{binds:List (Str×Rs)} {m:Str->Option Rs},(∀v,(x,v)∉binds)->bindL kindOf binds m x=m x
 |[],_,_=>rfl
 |(n,v) :: r,m,h=>by
  unfold bindL;rw[qU λw hw=>h w (RA _ hw)];split
  .have:x≠n:=by rintro rfl;exact h v Ru
   simp[this]
  .rfl
def qW{kindOf:Str->Option Yx}{x:Str}:∀{binds:List (Str×Rs)} {m:Str->Option Rs},(∀v,(x,v)∉binds)->bindC kindOf binds m x=m x
 |[],_,_=>rfl
 |(n,v) :: r,m,h=>by
  unfold bindC;rw[qW λw hw=>h w (RA _ hw)];split
  .rfl
  .have:x≠n:=by rintro rfl;exact h v Ru
   simp[this]
def qV{kindOf:Str->Option Yx}{x:Str}{v:Rs}:∀{P:List Str} {vs:List Rs} {i:Nat} {m:Str->Option Rs},P.Nodup->P[i]?=some x->vs[i]?=some v->kindOf x=some .local ->
  bindL kindOf (P.zip vs) m x=some v
 |[],_,_,_,_,h,_,_=>by simp at h
 |_ :: _,[],_,_,_,_,h,_=>by simp at h
 |p :: P,w :: vs,0,m,nd,h1,h2,hk=>by
  simp at h1 h2;subst h1;subst h2;show bindL kindOf ((p,w) :: P.zip vs) m p=_;unfold bindL;rw[qU λv hv=>(SJ.mp nd).1 (YZ hv).1,if_pos hk];simp
 |p :: P,w :: vs,i+1,m,nd,h1,h2,hk=>by
  show bindL kindOf ((p,w) :: P.zip vs) m x=_;unfold bindL;exact qV (i:=i) (SJ.mp nd).2 (by simpa using h1) (by simpa using h2) hk
def qX{kindOf:Str->Option Yx}{x:Str}{v:Rs}:∀{P:List Str} {vs:List Rs} {i:Nat} {m:Str->Option Rs},P.Nodup->P[i]?=some x->vs[i]?=some v->kindOf x≠some .local ->
  bindC kindOf (P.zip vs) m x=some v
 |[],_,_,_,_,h,_,_=>by simp at h
 |_ :: _,[],_,_,_,_,h,_=>by simp at h
 |p :: P,w :: vs,0,m,nd,h1,h2,hk=>by
  simp at h1 h2;subst h1;subst h2;show bindC kindOf ((p,w) :: P.zip vs) m p=_;unfold bindC;rw[qW λv hv=>(SJ.mp nd).1 (YZ hv).1,if_neg hk];simp
 |p :: P,w :: vs,i+1,m,nd,h1,h2,hk=>by
  show bindC kindOf ((p,w) :: P.zip vs) m x=_;unfold bindC;exact qX (i:=i) (SJ.mp nd).2 (by simpa using h1) (by simpa using h2) hk
abbrev start(N:List Str)(vs:List V):St:=vs.map some++Sg (N.length-vs.length) none
abbrev dg(CX:kI)(P:RM)(w:R4)(K:Fg)(mg:Str->Option Rs)(base:Heap)(N:List Str)(qual:Str)(scope:Scope)(f:Addr)(cd:Rs)(A:SC)(outer:List Env)(s:RC)(H:Hp)(E:XK):Cx where
 prog:=P
 w:=w
 K:=K
 mg:=mg
 base:=base
 A:=A.deeper (envOfC qual scope s.heap.objs.size f cd)
 N:=N
 s₀:=s
 H₀:=H
 env:=envOfC qual scope s.heap.objs.size f cd
 outer:=outer
 stack:=envOfC qual scope s.heap.objs.size f cd :: outer
 ex:=[]
 calm:=true
 fn:=λ_=>true
 pn:=[]
 xe:=λe s'=>wpAny (model P w) (A.deeper (envOfC qual scope s.heap.objs.size f cd)) (leaving (envOfC qual scope s.heap.objs.size f cd) e) (λ_ s''=>CX outer H s E e s'') (λe' s''=>CX outer H s E e' s'') s'
def vT{sc:Scope}(h:sc.names.lookup x=some .cell):∃c,(cellsFrom n sc.names []).lookup x=some c:=by
 have q:=YL sc.names n [] (.inl h);exact Wn.mp q
def Bx{CX:kI}{K:Fg}{A:SC}{vs:List V}
  (S:ar N ps scope) (hd:A.handled=none) (e0:Env0 P w K mg base A outer s H) (hl:vs.length=ps.length) (r:Vals vs us)
  (x:InCallC s s.heap.objs.size (bindL (envOfC qual scope s.heap.objs.size f cd).kindOf (ps.zip us) λ_=>none) (cellsFrom (s.heap.objs.size+1) scope.names []) (bindC (envOfC qual scope s.heap.objs.size f cd).kindOf (ps.zip us) λ_=>none) s1) :
  Inv (dg CX P w K mg base N qual scope f cd A outer s H E) [] (start N vs) H s1:=by
 have hpl:ps.length<=N.length:=by have:=congrArg Ue S.pre;rw[RT] at this;lia
 obtain⟨h1,tk,rfl,hk⟩:=x.done;have noA:∀b:Addr,b∉(dg CX P w K mg base N qual scope f cd A outer s H E).ex:=λb z=>absurd (show b∈([]:List Addr) from z) (by simp)
 refine⟨⟨e0.mod,S.kind,rfl,rfl,RB _,λy z c h1 h2=>?_,λy hy=>?_,λy c _ h=>?_,λ_=>hd,SC.frames_deeper e0.frames,.inr ⟨rfl,rfl⟩,λb z=>absurd z (noA b),e0.bs,e0.bsz,λb _ _=>noA b,λb z=>absurd z (noA b),e0.funs,e0.frf⟩,
  rfl,e0.bare,Un.kept hk,⟨_,x.toInCall.ns,λi y v h1 h2 h3=>?_⟩,λy c h=>⟨_,x.cell y c h⟩,e0.hok.fresh (RB _),λy c h=>?_,λp hp=>absurd (show p∈([]:List (Addr×Obj)) from hp) (by simp),e0.hok.kept hk,?_⟩
 .exact name_of_addr x.apart (Vo h1) (Vo h2)
 .have hy:scope.names.lookup y=some .cell\/scope.names.lookup y=some .free:=hy;rcases hy with hy|hy
  .exact vT hy
  .exact absurd rfl (S.nofree _ (Vo hy))
 .exact UC (x.above y c (Vo h))
 .have hi:i<vs.length:=by
   unfold start at h2;by_cases hi:i<vs.length
   .exact hi
   .rw[Tj (by simpa using hi)] at h2;rw[List.getElem?_replicate] at h2;split at h2 <;> cases h2
  have ha:vs[i]?=some v:=by
   unfold start at h2;rw[SO (by simpa using hi),Rt] at h2;cases e:vs[i]? with
   |none=>rw[e] at h2;cases h2
   |some a=>rw[e] at h2;cases h2;rfl
  obtain⟨u,hu,rv⟩:=r.get ha
  have hp:ps[i]?=some y:=by
   rw[<- S.pre,Yp (by lia)];exact h1
  have ndP:ps.Nodup:=by rw[<- S.pre];exact S.nd.sublist (WP _ _)
  refine⟨u,rv,?_⟩;rcases S.par y (Ry hp) with k|k
  .exact .inl ⟨k,qV ndP hp hu k⟩
  .obtain⟨c,e⟩:=vT (n:=s.heap.objs.size+1) k;refine .inr ⟨.inl k,c,e,?_⟩;have q:=x.cell y c e;rw[qX ndP hp hu (by show scope.names.lookup y≠_;rw[k];decide)] at q;exact q
 .exact e0.hok.fresh (UC (x.above y c (Vo h)))
 .unfold start;show _=N.length;rw[RF,Rm,U5];lia
def N_{CX:kI}{K:Fg}{dV kV oc:Rs}{od:Option Addr}
  {osl:Array (Option Rs)}  {sp:Sp} (lk:K.lookup f=some ⟨oc,od,.func (Uq name qual params body scope dV kV doc pm an cdv ct),osl⟩) (hcd:Vu K cdv qual=true) (S:ar N ps scope)
  (len:∀vs H Q E,sp vs H Q E->vs.length=ps.length)
  (hbody:∀(A:SC) (outer:List Env) (s:RC) (H:Hp) (vs:List V) (Q:VK) (E:XK),Room k (A.deeper (envOfC qual scope s.heap.objs.size f cdv))->sp vs H Q E ->
   ∃t,PSs (dg CX P w K mg base N qual scope f cdv A outer s H E) body t/\t {nx:=λ_ H'=>Q .non H',rt:=Q} (start N vs) H) :
  FnOk P w K mg base CX (k+1) f (Uq name qual params body scope dV kV doc pm an cdv ct) ps sp:=by
 refine⟨len,λA outer s H args us vs Q E hr e0 hb r hsp=>?_⟩;have hl:=len _ _ _ _ hsp;have KX:K.In s.heap:=e0.mod.kin.keeps λb o e=>(e0.bs b o e).1
 have lim:s.heap.NoLimit:=e0.mod.nolimit.keeps λb o e=>(e0.bs b o e).1
 have hkind:∀y∈ps.zip us,scope.names.lookup y.1=some .local\/(scope.names.lookup y.1=some .cell/\((cellsFrom (s.heap.objs.size+1) scope.names []).lookup y.1).isSome=true):=λ⟨n,v⟩ hy=>by
  rcases S.par n (YZ hy).1 with q|q
  .exact .inl q
  .exact .inr ⟨q,YL _ _ _ (.inl q)⟩
 refine codeAny_call_function hr.depth (KX _ _ lk) rfl S.co S.gen rfl (PySem.W.codeRec_of KX hcd) (hb _ _ _ _ ?_);refine wpAny_newFunctionEnv_cells S.kind hkind λenv he s1 x=>?_
 subst he;refine⟨lim.keeps x.toInCall.keep,codeAny_func ?_⟩;obtain⟨t,ht,hq⟩:=hbody A outer s H vs Q E (hr.deeper _) hsp;have I:Inv (dg CX P w K mg base N qual scope f cdv A outer s H E) [] (start N vs) H s1:=Bx S hr.hd e0 hl r x;refine SW (ht [] s1 (start N vs) H _ I hq) (λfl s' hs=>?_) λe s' hs=>hs
 have fin:∀{σ':St} {H':Hp} {v:V} {u:Rs},Inv (dg CX P w K mg base N qual scope f cdv A outer s H E) [] σ' H' s'->RelV v u->Q v H'->CE outer P w H s Q u s' :=
  λ{σ' H' v u} J rv q=>⟨v,H',J.os,J.bare,J.base,J.hok,rv,q⟩
 cases fl with
 |ret u =>
  obtain⟨v,σ',H',J,rv,q⟩:=hs;exact fin J rv q
 |next =>
  obtain⟨σ',H',J,q⟩:=hs;exact fin (v:=V.non) (u:=Tx) J rfl q
 |brk =>
  obtain⟨_,_,_,q⟩:=hs;exact Us q
 |cont =>
  obtain⟨_,_,_,q⟩:=hs;exact Us q
section
variable{X:Cx}{x:Str}{p pos:Pos}{e:Expr}{es:List Expr}{t:TA}{id T:String}{r:List V->Hp->VK->Prop}
abbrev bU(r:List V->Hp->VK->Prop)(t:TA):TE:=λσ H Q=>t σ H λvs H1=>r vs H1 Q
def dm(hc:fF X (.builtin id) r) (hg:Gl X x) (hm:X.mg x=none) (hv:bootBuiltins x=some (.builtin id)) (ha:PA X (e :: es) t) (hn:x≠"__name__":=by decide) (hdb:(x == ("__debug__":Str))=false:=by decide)
  (he:starEach (e :: es) X.env=(false,eval e X.env) :: starEach es X.env:=by rfl) (hpl:(backTo pos (starEach es X.env)).any (·.1)=false:=by rfl):PE X (.Call (.Name x p) (e :: es) [] pos) (bU r t):=by
 intro ξ s σ H Q I h;refine TX (eO I hg hm hv ?_ hn hdb);exact Vv (a5 (ha pos ξ s σ H _ I h) (by rintro us s1 ⟨vs,H1,I1,r1,q1⟩;exact hc ξ s1 σ H1 vs us Q I1 r1 q1)) he hpl
def gy(hc:fF X (.type T) r) (hg:Gl X x) (hm:X.mg x=none) (hv:bootBuiltins x=some (.type T)) (ha:PA X (e :: es) t) (hn:x≠"__name__":=by decide) (hdb:(x == ("__debug__":Str))=false:=by decide)
  (he:starEach (e :: es) X.env=(false,eval e X.env) :: starEach es X.env:=by rfl) (hpl:(backTo pos (starEach es X.env)).any (·.1)=false:=by rfl):PE X (.Call (.Name x p) (e :: es) [] pos) (bU r t):=by
 intro ξ s σ H Q I h;refine TX (eO I hg hm hv ?_ hn hdb);exact Tb (a5 (ha pos ξ s σ H _ I h) (by rintro us s1 ⟨vs,H1,I1,r1,q1⟩;exact hc ξ s1 σ H1 vs us Q I1 r1 q1)) he hpl
end
end L2
namespace HT
open PySem PyProof.Rows
section
variable{prog:RM}{w:R4}{A:SC}{E:Rs->RC->Prop}{s:RC}
abbrev sIx(n d:Nat):Option Int->Nat
 |none=>d
 |some v=>if v<0 then (v+(n:Int)).toNat else min v.toNat n
def zK(n d k:Nat):sIx n d (some (k:Int))=min k n:=by
 show(if (k:Int)<0 then ((k:Int)+(n:Int)).toNat else min (k:Int).toNat n)=min k n;rw[if_neg (by lia),Su]
end
end HT
namespace L2
open PySem PySem.Spec PyProof.Rows
nonrec abbrev TO:=St->Hp->(Option Int->Hp->Prop)->Prop
abbrev PO(X:Cx)(e:Option Expr)(t:TO):Prop :=
 ∀(ξ:List (Addr×Obj)) (s:RC) (σ:St) (H:Hp) (Q:Option Int->Hp->Prop),Inv X ξ σ H s->t σ H Q ->
  wpAny (model X.prog X.w) X.A (evalPart e X.env) (λu s'=>∃o H',Inv X ξ σ H' s'/\IsPart u o/\Q o H') X.xe s
abbrev mj:TO:=λ_ H Q=>Q none H
abbrev wA(t:TE):TO:=λσ H Q=>t σ H λx H1=>∃i,x=.int i/\Q (some i) H1
def intsAre_of{ns:List Int}:∀{us:List Rs},Vals (ns.map V.int) us->VN us ns:=by
 induction ns with
 |nil=>intro us r;rw[XM] at r;cases r;exact .nil
 |cons n ns ih =>
  intro us r;rw[Sy] at r;cases r with
  |cons r1 r2 =>
   obtain⟨t,e⟩:=r1;subst e;exact .cons n t (ih r2)
section
variable{X:Cx}{e:Expr}{te:TE}{lo hi:Option Expr}{tl th:TO}{pos p2:Pos}
def Jx:PO X none mj:=by
 intro ξ s σ H Q I h;rw[evalPart_none];exact RE ⟨none,H,I,.none,h⟩
def Jw(h:PE X e te):PO X (some e) (wA te):=by
 intro ξ s σ H Q I hw;rw[evalPart_some];refine a5 (h ξ s σ H _ I hw) λu s1 ω=>?_;obtain⟨x,H1,I1,r1,q1⟩:=ω
 obtain⟨i,rfl,q⟩:=q1;obtain⟨t,rfl⟩:=r1;exact⟨some i,H1,I1,.int i t,q⟩
abbrev O3(X:Cx)(r:V->Option Int->Option Int->Hp->VK->Prop):Prop :=
 ∀(ξ:List (Addr×Obj)) (s:RC) (σ:St) (H:Hp) (x:V) (v vl vu:Rs) (lo hi:Option Int) (sl:Addr) (Q:VK),Inv X ξ σ H s->RelV x v->s.heap.IsSliceOf sl vl vu .none->IsPart vl lo->IsPart vu hi->r x lo hi H Q ->
  ∃T id,typeLookup (.type T) "__getitem__"=pure (some (.builtin id))/\s.TypeIs v T/\wpAny (model X.prog X.w) X.A (getItem v (.ref sl)) (EP X ξ σ Q) X.xe s
abbrev LC(r:V->Option Int->Option Int->Hp->VK->Prop)(te:TE)(tl th:TO):TE:=λσ H Q=>te σ H λx H1=>tl σ H1 λl H2=>th σ H2 λu H3=>r x l u H3 Q
def EX(hr:O3 X r)(he:PE X e te)(hl:PO X lo tl)(hu:PO X hi th):PE X (.Subscript e (.Slice lo hi none p2) pos) (LC r te tl th):=by
 intro ξ s σ H Q I h;refine Subscript_ (a5 (he ξ s σ H _ I h) λv s1 ω=>?_);obtain⟨x,H1,I1,r1,q1⟩:=ω;refine wpAny_Slice (a5 (hl ξ s1 σ H1 _ I1 q1) λvl s2 ⟨l,H2,I2,pl,q2⟩=>a5 (hu ξ s2 σ H2 _ I2 q2) λvu s3 ω=>?_);obtain⟨u,H3,I3,pu,q3⟩:=ω;rw[evalPart_none];refine RE ?_;have I4:Inv X ξ σ H3 {s3 with heap:=s3.heap.push {cls:=.type "slice",data:=.fields #[vl,vu,.none]}}:=I3.kept (t':=s3.toks) λb ob q=>Rv _ q
 obtain⟨T,id,hT,ht,hg⟩:=hr ξ {s3 with heap:=s3.heap.push {cls:=.type "slice",data:=.fields #[vl,vu,.none]}} σ H3 x v vl vu l u s3.heap.objs.size Q I4 r1 (Heap.IsSliceOf.new ..) pl pu q3;show wpAny (model X.prog X.w) X.A (subscriptTail e (.Slice lo hi none p2) v (.ref s3.heap.objs.size)) (EP X ξ σ Q) X.xe {s3 with heap:=s3.heap.push {cls:=.type "slice",data:=.fields #[vl,vu,.none]}};exact tail_any (ops:=[.ref s3.heap.objs.size,v]) ht hT hg (by with_unfolding_all rfl)
abbrev oK(xs:List V)(lo hi:Option Int):List V:=(xs.drop (HT.sIx xs.length 0 lo)).take (HT.sIx xs.length xs.length hi-HT.sIx xs.length 0 lo)
def t6(xs:List V)(lo hi:Option Int):(oK xs lo hi).length<=xs.length:=by
 unfold oK;rw[RT,Ts];lia
end
abbrev Fw(n:Nat)(i:Int):Option Nat:=if 0<=i then (if i<n then some i.toNat else none) else if -(n:Int)<=i then some (i+n).toNat else none
abbrev rC{α:Type}(xs:List α)(i:Int):Option α:=(Fw xs.length i).bind λj=>xs[j]?
def Bu{j:Nat}(h:Fw n i=some j):seqIndex? i n=some j/\j<n/\-(n:Int)<=i/\i<n:=by
 unfold Fw at h;by_cases h0:0<=i
 .rw[if_pos h0] at h;by_cases h1:i<n
  .rw[if_pos h1] at h;have e:i.toNat=j:=RY h;exact⟨by rw[Za2 h0 h1,e],by lia,by lia,h1⟩
  .rw[if_neg h1] at h;cases h
 .rw[if_neg h0] at h;by_cases h1 : -(n:Int)<=i
  .rw[if_pos h1] at h;have e:(i+n).toNat=j:=RY h;exact⟨by rw[Zai (by lia) h1,e],by lia,h1,by lia⟩
  .rw[if_neg h1] at h;cases h
def ub{α:Type}{xs:List α}{v:α}(h:rC xs i=some v):∃j,seqIndex? i xs.length=some j/\xs[j]?=some v/\j<xs.length/\-(xs.length:Int)<=i/\i<xs.length:=by
 unfold rC at h;cases e:Fw xs.length i with
 |none=>rw[e] at h;cases h
 |some j =>
  rw[e] at h;obtain⟨h1,h2,h3,h4⟩:=Bu e;exact⟨j,h1,h,h2,h3,h4⟩
def aK{α:Type}{xs:List α}{j:Nat}{v:α}(h:xs[j]?=some v):rC xs (j:Int)=some v:=by
 have hj:j<xs.length:=(Rq.mp h).1
 have e:Fw xs.length (j:Int)=some j:=by
  unfold Fw;rw[if_pos (by lia),if_pos (by lia)];simp
 unfold rC;rw[e];exact h
abbrev K0(b:Expr):Prop:=∀o i,subscripted b false o i=operate [o,i] (getItem o i)
abbrev OO(X:Cx)(r:R2):Prop :=
 ∀(value slice:Expr) (ξ:List (Addr×Obj)) (s:RC) (σ:St) (H:Hp) (x y:V) (v u:Rs) (Q:VK),Inv X ξ σ H s->RelV x v->RelV y u->r x y H Q ->
  subscripted slice false v u=operate [v,u] (getItem v u)->wpAny (model X.prog X.w) X.A (subscriptTail value slice v u) (EP X ξ σ Q) X.xe s
abbrev Q5(X:Cx)(id:String)(r:V->List V->Hp->VK->Prop):Prop :=
 ∀(ξ:List (Addr×Obj)) (s:RC) (σ:St) (H:Hp) (x:V) (xs:List V) (v:Rs) (us:List Rs) (Q:VK),Inv X ξ σ H s->RelV x v->Vals xs us->r x xs H Q ->
  wpAny (model X.prog X.w) X.A (call (.builtin id) (v :: us)) (EP X ξ σ Q) X.xe s
section
variable{X:Cx}{a b:Expr}{ta tb:TE}{pos:Pos}
def AE(hr:OO X r)(ha:PE X a ta)(hb:PE X b tb)(hs:K0 b):PE X (.Subscript a b pos) (ao r ta tb):=by
 intro ξ s σ H Q I h;exact Subscript_ (KO ha hb I h λv u s2 x y H2 I2 rx ry q=>hr a b ξ s2 σ H2 x y v u Q I2 rx ry q (hs _ _))
abbrev bI(K:Fg):R2:=λx y H Q=>∃p xs i v,x=.ref p/\y=.int i/\SqL K H p xs/\rC xs i=some v/\Q v H
abbrev aG(K:Fg):R2:=λx y H Q=>∃p xs i v,x=.ref p/\y=.int i/\SqT K H p xs/\rC xs i=some v/\Q v H
abbrev Jl:R2:=λx y H Q=>∃z i c,x=.str z/\y=.int i/\z.length<=sizeLine/\rC z.cps.toList i=some c/\Q (.str ⟨#[c]⟩) H
def Kr:OO X (bI X.K):=by
 intro value slice ξ s σ H x y v u Q I rx ry h hs;obtain⟨p,xs,i,z,rfl,rfl,hq,he,q⟩:=h;cases rx;obtain⟨t,rfl⟩:=ry;obtain⟨gV,r,pl,hz⟩:=I.list hq;obtain⟨j,h1,h2,h3,h4,h5⟩:=ub he;obtain⟨w,ew,rw'⟩:=r.get h2;have hl:=r.length;have hn:=qB;have fin:EP X ξ σ Q w s:=⟨z,H,I,rw',q⟩
 by_cases h0:0<=i
 .have hj:i.toNat=j:=by
   rw[Za2 h0 h5] at h1;exact RY h1
  exact item_listR pl.isList h0 (by lia) (by rw[hj];simpa using ew) fin hs
 .have hj:(i+(gV.toArray.size:Int)).toNat=j:=by
   rw[Zai (by lia) h4] at h1;rw[RZ,<- hl];exact RY h1
  exact YM (x:=w) pl.isList.typeIs slot_list_getitem.lookup
   (wpAny_getItem_list_neg (Q:=λr s'=>r=w/\EP X ξ σ Q r s') pl.isList (by lia) (by rw[RZ] <;> lia) (by lia) (by rw[hj];simpa using ew) ⟨rfl,fin⟩) hs
def qH:OO X (aG X.K):=by
 intro value slice ξ s σ H x y v u Q I rx ry h hs;obtain⟨p,xs,i,z,rfl,rfl,hq,he,q⟩:=h;cases rx;obtain⟨t,rfl⟩:=ry;obtain⟨gV,r,pl,hz⟩:=I.tuple hq;obtain⟨j,h1,h2,h3,h4,h5⟩:=ub he;obtain⟨w,ew,rw'⟩:=r.get h2;have hl:=r.length;have hn:=qB;have fin:EP X ξ σ Q w s:=⟨z,H,I,rw',q⟩
 exact YM (x:=w) pl.typeIs slot_tuple_getitem.lookup
  (getItem_tuple (j:=j) (Q:=λr s'=>r=w/\EP X ξ σ Q r s') pl (by lia) (by lia) (by rw[RZ,<- hl];exact h1) (by simpa using ew) ⟨rfl,fin⟩) hs
def NT:OO X Jl:=by
 intro value slice ξ s σ H x y v u Q I rx ry h hs;obtain⟨z,i,c,rfl,rfl,hz,he,q⟩:=h;obtain⟨t,rfl⟩:=rx;obtain⟨t',rfl⟩:=ry;obtain⟨j,h1,h2,h3,h4,h5⟩:=ub he;have hl:z.cps.toList.length=z.length:=by simp[Zbo]
 rw[hl] at h1 h4 h5;have hn:=qB
 exact tail_any (typeIs_str s z t) slot_str_getitem.lookup (getItem_str (c:=c) (by
  have e1:decide (i < -(2 ^ 63:Int))=false:=decide_eq_false (by lia)
  have e2:decide (i≥2 ^ 63)=false:=decide_eq_false (by lia)
  rw[e1,e2,Bool.or_false]) (by rw[h1];simpa using h2) ⟨.str ⟨#[c]⟩,H,I.tok _,⟨_,rfl⟩,q⟩) hs
def wU(gV:List Rs) (n j:Nat) (u:Rs):Wy (·.setIfInBounds j u) {cls:=.type "list",data:=.seq gV.toArray n} = {cls:=.type "list",data:=.seq (gV.set j u).toArray n}:=by
 simp[Wy]
def Inv.lst{ξ:List (Addr×Obj)}{σ:St}{H:Hp}{s:RC}{p:Addr}{xs:List V}(I:Inv X ξ σ H s)(h:H p=some (.lst xs)) :
  ∃(gV:List Rs) (n:Nat),Vals xs gV/\s.heap.get? p=some {cls:=.type "list",data:=.seq gV.toArray n}/\xs.length<=sizeLine:=by
 obtain⟨z,gV,n,r,e⟩:=I.hok p _ h;exact⟨gV,n,r,e,z⟩
def Inv.Nb{H:Hp}{gV its':List Rs}{f:Obj->Obj}(I:Inv X ξ σ H s)(h:H p=some (.lst xs))
  (ho:s.heap.get? p=some {cls:=.type "list",data:=.seq gV.toArray n}) (hf:f {cls:=.type "list",data:=.seq gV.toArray n} = {cls:=.type "list",data:=.seq its'.toArray n'}) (r:Vals ys its') (hz:ys.length<=sizeLine) (t:Nat) :
  Inv X ξ σ (upd H p (.lst ys)) {s with heap:=s.heap.update p f,toks:=t}:=by
 have e:(s.heap.update p f).get? p=some {cls:=.type "list",data:=.seq its'.toArray n'}:=by
  rw[SQ f ho (by rw[hf] <;> rfl),hf]
 refine I.write (x:=p) (e:=p) (by rw[h];trivial) (.inl rfl) (λb u hb q=>(Uc _ _ (UJ hb)).trans q) ⟨_,e⟩ ?_;exact⟨hz,its',n',r,e⟩
abbrev Jg:V->V->V->Hp->(Hp->Prop)->Prop:=λo i v H Q=>∃p xs k j,o=.ref p/\i=.int k/\H p=some (.lst xs)/\Fw xs.length k=some j/\Q (upd H p (.lst (xs.set j v)))
def zA:OJ X Jg:=by
 intro ξ s σ H o i v ov iv u Q I ro ri rv h;obtain⟨p,xs,k,j,rfl,rfl,hp,hj,q⟩:=h;cases ro;obtain⟨t,rfl⟩:=ri;obtain⟨gV,n,r,ho,hz⟩:=I.lst hp;obtain⟨h1,h2,h3,h4⟩:=Bu hj;have hl:=r.length;have hn:=qB
 have I':Inv X ξ σ (upd H p (.lst (xs.set j v))) {s with heap:=s.heap.update p (Wy (·.setIfInBounds j u))} :=
  I.Nb hp ho (wU gV n j u) (r.set rv j) (by rw[Ws];exact hz) s.toks
 by_cases h0:0<=k
 .have hk:k.toNat=j:=by
   rw[Za2 h0 h4] at h1;exact RY h1
  exact PySem.W.ki_setAt ho h0 (by lia) (by rw[RZ,<- hl];exact h4) (by rw[hk];exact⟨_,I',q⟩)
 .have hk:(k+(gV.toArray.size:Int)).toNat=j:=by
   rw[Zai (by lia) h3] at h1;rw[RZ,<- hl];exact RY h1
  exact PySem.W.ki_setBack ho (by lia) (by rw[RZ,<- hl];exact h3) (by lia) (by rw[hk];exact⟨_,I',q⟩)
def pA(lo hi:Option Int)(n:Nat):(sliceBounds lo hi none n).1=((HT.sIx n 0 lo:Nat):Int)/\(sliceBounds lo hi none n).2.1=((HT.sIx n n hi:Nat):Int)/\(sliceBounds lo hi none n).2.2=1:=by
 refine⟨?_,?_,rfl⟩
 .cases lo with
  |none=>simp[sliceBounds,HT.sIx]
  |some i =>
   simp only[sliceBounds,HT.sIx,ZaN,show(1:Int) > 0 by decide,if_true];by_cases h:i<0
   .simp only[h,if_true] <;> lia
   .simp only[h,if_false] <;> lia
 .cases hi with
  |none=>simp[sliceBounds,HT.sIx]
  |some i =>
   simp only[sliceBounds,HT.sIx,ZaN,show(1:Int) > 0 by decide,if_true];by_cases h:i<0
   .simp only[h,if_true] <;> lia
   .simp only[h,if_false] <;> lia
def mL(gV:List Rs)(lo hi:Option Int):slicePick gV.toArray lo hi none=((gV.drop (HT.sIx gV.length 0 lo)).take (HT.sIx gV.length gV.length hi-HT.sIx gV.length 0 lo)).toArray:=by
 obtain⟨h1,h2,h3⟩:=pA lo hi gV.toArray.size;unfold slicePick;rw[h1,h2,h3];simp only[sliceRange_one,pick_run,RZ] <;> rfl
abbrev Jf(K:Fg):V->Option Int->Option Int->Hp->VK->Prop:=λx lo hi H Q=>∃a xs,x=.ref a/\SqL K H a xs/\∀p,H p=none->Q (.ref p) (upd H p (.lst (oK xs lo hi)))
def Io:O3 X (Jf X.K):=by
 intro ξ s σ H x v vl vu lo hi sl Q I rx hs pl pu h;obtain⟨a,xs,rfl,hx,q⟩:=h;cases rx;obtain⟨gV,r,ht,hz⟩:=I.list hx;have hlen:=r.length;refine⟨"list",_,slot_list_getitem.lookup,ht.isList.typeIs,?_⟩;refine wpAny_getItem_list_slice ht.isList hs pl pu .none (by simp) ?_ (by rw[RZ] <;> lia);rw[mL,<- hlen];refine⟨.ref s.heap.objs.size,_,I.laid (t':=s.toks) (o:=.lst (oK xs lo hi)) (λb ob q=>Rv _ q) (RB _) ?_,rfl,q _ (I.hok.fresh (RB _))⟩;exact⟨RN (t6 xs lo hi) hz,_,0,(r.drop (HT.sIx xs.length 0 lo)).take (HT.sIx xs.length xs.length hi-HT.sIx xs.length 0 lo),Sb _ rfl⟩
def io:fF X (.builtin "len") (λxs H Q=>∃p ys,xs=[.ref p]/\(SqL X.K H p ys\/SqT X.K H p ys)/\Q (.int ys.length) H):=by
 intro ξ s σ H xs us Q I r h;obtain⟨p,ys,rfl,hq,q⟩:=h;obtain⟨u,rfl,rx⟩:=vals1 r;cases rx;have hn:=qB;rcases hq with hq|hq
 .obtain⟨gV,r',pl,hz⟩:=I.list hq;have hlen:=r'.length;exact Calls.call_len_list pl.isList (by simp only[RZ] <;> lia) ⟨.int ys.length,H,I.tok _,⟨s.toks+1,by rw[RZ,hlen]⟩,q⟩
 .obtain⟨gV,r',pl,hz⟩:=I.tuple hq;have hlen:=r'.length;exact len_tuple pl (by simp only[RZ] <;> lia) ⟨.int ys.length,H,I.tok _,⟨s.toks+1,by rw[RZ,hlen]⟩,q⟩
def qR:fF X (.type "list") (λxs H Q=>∃p ys,xs=[.ref p]/\(SqL X.K H p ys\/SqT X.K H p ys)/\∀l,H l=none->Q (.ref l) (upd H l (.lst ys))):=by
 intro ξ s σ H xs us Q I r h;obtain⟨p,ys,rfl,hq,q⟩:=h;obtain⟨u,rfl,rx⟩:=vals1 r;cases rx
 have fin:∀(gV:List Rs),Vals ys gV->ys.length<=sizeLine->∀(h':Heap) (c':Nat),(∀b o',s.heap.get? b=some o'->h'.get? b=some o') ->
   h'.get? s.heap.objs.size=some {cls:=.type "list",dict:=none,data:=.seq gV.toArray c',slots:=#[]}->EP X ξ σ Q (.ref s.heap.objs.size) {s with heap:=h'}:=λgV r' hz h' c' kp e =>
  ⟨.ref s.heap.objs.size,_,I.laid (t':=s.toks) kp (RB _) (show bB X.prog X.w _ h' _ (.lst ys) from⟨hz,gV,c',r',e⟩),rfl,q _ (I.hok.fresh (RB _))⟩
 rcases hq with hq|hq
 .obtain⟨gV,r',pl,hz⟩:=I.list hq;have hlen:=r'.length;obtain⟨o,ho,hc,n,hd⟩:=pl.isList;exact call_list_seq p (.inl rfl) ho hc hd (λh' c' kp e=>fin gV r' hz h' c' kp e) (by simp only[RZ] <;> lia)
 .obtain⟨gV,r',pl,hz⟩:=I.tuple hq;have hlen:=r'.length;obtain⟨o,ho,hc,n,hd⟩:=pl;exact call_list_seq p (.inr rfl) ho hc hd (λh' c' kp e=>fin gV r' hz h' c' kp e) (by simp only[RZ] <;> lia)
def gI:fF X (.type "tuple") (λxs H Q=>∃p ys,xs=[.ref p]/\((SqL X.K H p ys/\∀l,H l=none->Q (.ref l) (upd H l (.tup ys)))\/(SqT X.K H p ys/\Q (.ref p) H))):=by
 intro ξ s σ H xs us Q I r h;obtain⟨p,ys,rfl,h⟩:=h;obtain⟨u,rfl,rx⟩:=vals1 r;cases rx;rcases h with⟨hq,q⟩|⟨hq,q⟩
 .obtain⟨gV,r',pl,hz⟩:=I.list hq;have hlen:=r'.length;refine call_tuple_list pl.isList (λh' kp=>?_) (by simp only[RZ] <;> lia);have I1:Inv X ξ σ H {s with heap:=h'}:=I.kept (t':=s.toks) kp
  have I2:Inv X ξ σ (upd H h'.objs.size (.tup ys)) {s with heap:=h'.push {cls:=.type "tuple",data:=.seq gV.toArray}} :=
   I1.laid (t':=s.toks) (λb o e=>Rv _ e) (RB _) (show bB X.prog X.w _ _ _ (.tup ys) from⟨hz,gV,r',TupD.new _ _⟩)
  exact⟨.ref h'.objs.size,_,I2,rfl,q _ (I1.hok.fresh (RB _))⟩
 .obtain⟨gV,r',pl,hz⟩:=I.tuple hq;exact call_tuple_same pl ⟨.ref p,H,I,rfl,q⟩
abbrev Gv(K:Fg)(T:String)(x:V)(H:Hp):Prop:=match x with
 |.str _=>T = "str"
 |.int _=>T = "int"
 |.ref p=>(T = "list"/\∃xs,SqL K H p xs)\/(T = "tuple"/\∃o,K.lookup p=some o/\o.cls=.type "tuple"/\o.dict=none) \/
   (T = "dict"/\((∃de,H p=some (.dK de))\/∃de,H p=some (.dT de)))\/(T = "set"/\∃S n,H p=some (.set S n))
 |_=>False
def Gs{H:Hp}{T:String}(I:Inv X ξ σ H s)(r:RelV x v)(ty:Gv X.K T x H) :
  s.TypeIs v T/\∀a,v=.ref a->∃ob,s.heap.get? a=some ob/\ob.dict=none:=by
 cases x with
 |str z =>
  obtain⟨t,rfl⟩:=r;cases (show T = "str" from ty);exact⟨typeIs_str s z t,λ_ e=>nomatch e⟩
 |int i =>
  obtain⟨t,rfl⟩:=r;cases (show T = "int" from ty);exact⟨typeIs_int s i t,λ_ e=>nomatch e⟩
 |ref p =>
  cases r;rcases ty with⟨rfl,xs,hq⟩|⟨rfl,o,hk,hc,hd⟩|⟨rfl,hk⟩|⟨rfl,S,n,hk⟩
  .obtain⟨gV,_,pl,_⟩:=I.list hq;refine⟨pl.isList.typeIs,λa e=>?_⟩;cases e;obtain⟨o,n,e,c,hd,_⟩:=pl;exact⟨o,e,hd⟩
  .refine⟨⟨o,I.kIn p o hk,hc⟩,λa e=>?_⟩;cases e;exact⟨o,I.kIn _ o hk,hd⟩
  .have z:∃o,s.heap.get? p=some o/\o.ExactDict:=by
    rcases hk with⟨de,hk⟩|⟨de,hk⟩
    .obtain⟨_,_,_,_,o,_,_,e,ex,_⟩:=I.hok p _ hk;exact⟨o,e,ex⟩
    .obtain⟨_,_,_,_,o,_,_,e,ex,_⟩:=I.hok p _ hk;exact⟨o,e,ex⟩
   obtain⟨o,e,ex⟩:=z;refine⟨⟨o,e,ex.1⟩,λa e2=>?_⟩;cases e2;exact⟨o,e,ex.2.1⟩
  .obtain⟨o,_,_,_,e,ex,_⟩:=I.hok p _ hk;refine⟨⟨o,e,ex.1⟩,λa e2=>?_⟩;cases e2;exact⟨o,e,ex.2.1⟩
 |_=>exact Us ty
abbrev Ic(K:Fg)(T:String)(r:V->List V->Hp->VK->Prop)(to:TE):TE:=λσ H Q=>to σ H λx H1=>Gv K T x H1/\r x [] H1 Q
abbrev dD(K:Fg)(T:String)(r:V->List V->Hp->VK->Prop)(to:TE)(t:TA):TE:=λσ H Q=>to σ H λx H1=>Gv K T x H1/\t σ H1 λxs H2=>r x xs H2 Q
variable{o e:Expr}{es:List Expr}{to:TE}{t:TA}{name:Str}{apos cpos:Pos}{T id:String}{r:V->List V->Hp->VK->Prop}
def MC(pa:PlainAttrs T) (slot:Slot T name id) (hty:typeOf (.builtin id)=pure (.type "method_descriptor")) (hm:Q5 X id r) (ho:PE X o to)
  (hbase:attributeBase o name X.env (eval o X.env)=eval o X.env:=by rfl) (hline:(apos.endLine == cpos.line)=true:=by rfl):PE X (.Call (.Attribute o name apos) [] [] cpos) (Ic X.K T r to):=by
 intro ξ s σ H Q I h;refine wpAny_Call_method0_late hbase hline (a5 (ho ξ s σ H _ I h) λv s1 ω=>?_);obtain⟨x,H1,I1,r1,ty,q1⟩:=ω;obtain⟨h1,h2⟩:=Gs I1 r1 ty;exact⟨T,id,pa,slot,hty,h1,h2,WQ rfl (PySem.evalArgs_none (hm ξ s1 σ H1 x [] v [] Q I1 r1 .nil q1))⟩
def E3(pa:PlainAttrs T) (slot:Slot T name id) (hty:typeOf (.builtin id)=pure (.type "method_descriptor")) (hm:Q5 X id r) (ho:PE X o to) (ha:PA X (e :: es) t)
  (hbase:attributeBase o name X.env (eval o X.env)=eval o X.env:=by rfl)
  (hfew:((backTo cpos (starEach (e :: es) X.env)).all (λx=>!x.1) && (backToKw cpos (keywordEach [] X.env)).all (λx=>x.1.isSome)
   && decide ((e :: es).length+([]:List Zbj).length+(if ([]:List Zbj).isEmpty then 0 else 1)<30))=true:=by rfl)
  (hline:(apos.endLine == cpos.line)=true:=by rfl) (hs:starEach (e :: es) X.env=(false,eval e X.env) :: starEach es X.env:=by rfl) (hplain:(backTo cpos (starEach es X.env)).any (·.1)=false:=by rfl) :
  PE X (.Call (.Attribute o name apos) (e :: es) [] cpos) (dD X.K T r to t):=by
 intro ξ s σ H Q I h;refine wpAny_Call_method_late hbase hfew hline rfl (a5 (ho ξ s σ H _ I h) λv s1 ω=>?_);obtain⟨x,H1,I1,r1,ty,q1⟩:=ω;obtain⟨h1,h2⟩:=Gs I1 r1 ty;refine⟨T,id,pa,slot,hty,h1,h2,?_⟩;have hA:=ha cpos ξ s1 σ H1 _ I1 q1;rw[hs] at hA ⊢;refine WQ (by show(false || (backTo cpos (starEach es X.env)).any (·.1))=false;rw[hplain] <;> rfl) (Xq ?_);exact a5 hA (by rintro us s2 ⟨vs,H2,I2,r2,q2⟩;exact hm ξ s2 σ H2 x vs v us Q I2 r1 r2 q2)
end
abbrev ON(X:Cx)(id:String)(r:V->List V->Hp->VK->Prop):Prop :=
 ∀(ξ:List (Addr×Obj)) (s:RC) (σ:St) (H:Hp) (x:V) (xs:List V) (v:Rs) (us:List Rs) (Q:VK),Inv X ξ σ H s->RelV x v->Vals xs us->r x xs H Q ->
  wpAny (model X.prog X.w) X.A (call (.builtin id) (v :: us)) (EP X ξ σ Q) X.xe s
def Vals.one:∀{x:V} {us:List Rs},Vals [x] us->∃u,us=[u]/\RelV x u
 |_,_,.cons r .nil=>⟨_,rfl,r⟩
def Vals.zero:∀{us:List Rs},Vals [] us->us=[]
 |_,.nil=>rfl
def Vals.dropLast(h:Vals xs us):Vals xs.dropLast us.dropLast:=by
 induction h with
 |nil=>exact .nil
 |cons r t ih =>
  cases t with
  |nil=>exact .nil
  |cons q t'=>exact .cons r ih
def Vals.eraseIdx:∀{xs:List V} {us:List Rs} (i:Nat),Vals xs us->Vals (xs.eraseIdx i) (us.eraseIdx i)
 |_,_,_,.nil=>.nil
 |_,_,0,.cons _ t=>t
 |_,_,i+1,.cons r t=>.cons r (Vals.eraseIdx i t)
def Vals.rep{xs:List V}{us:List Rs}(h:Vals xs us):∀k:Nat,Vals (Sg k xs).flatten (Sg k us).flatten
 |0=>.nil
 |k+1=>by
  rw[Vp,Vp,WR,WR];exact Vals.append h (Vals.rep h k)
def xk{α:Type}(l:List α):l.eraseIdx (l.length-1)=l.dropLast:=by
 induction l with
 |nil=>rfl
 |cons a r ih =>
  cases r with
  |nil=>rfl
  |cons b r =>
   have e:(a :: b :: r).length-1=((b :: r).length-1)+1:=by
    have h1:(a :: b :: r).length=r.length+2:=rfl;have h2:(b :: r).length=r.length+1:=rfl;lia
   rw[e,List.eraseIdx_cons_succ,ih]
   all_goals rfl
def qC{α:Type}:∀(l:List α) (i:Nat),(l.eraseIdx i).length<=l.length
 |[],_=>RB _
 |_ :: _,0=>WF _
 |_ :: r,i+1=>W_ (qC r i)
def foldl_rep(gV:List Rs):∀(k:Nat) (acc:List Rs),
  Zbp (λx1 x2=>x1++x2) acc.toArray (Sg k gV.toArray)=(acc++(Sg k gV).flatten).toArray
 |0,acc=>by simp
 |k+1,acc=>by
  have e:acc.toArray++gV.toArray=(acc++gV).toArray:=by simp
  have e2:(acc++gV)++(Sg k gV).flatten=acc++(Sg (k+1) gV).flatten:=by
   rw[Vp,WR,Tf]
  rw[<- e2,<- foldl_rep gV k (acc++gV),<- e,Vp,Xz]
section
variable{X:Cx}{ξ:List (Addr×Obj)}{σ:St}{H:Hp}{s:RC}{l b:Addr}{xs ys zs:List V}
def Inv.lset{gV its':List Rs}{f:Array Rs->Array Rs}{t':Nat}(I:Inv X ξ σ H s)(hH:H l=some (.lst xs))
  (e:s.heap.get? l=some {cls:=.type "list",data:=.seq gV.toArray n}) (hf:f gV.toArray=its'.toArray) (hv:Vals ys its') (hz:ys.length<=sizeLine) :
  Inv X ξ σ (upd H l (.lst ys)) {s with heap:=s.heap.update l (Wy f),toks:=t'}:=by
 have q:=PySem.IsL.update e f;rw[hf] at q;refine I.write (x:=l) (e:=l) (by rw[hH];exact trivial) (.inl rfl) (λb' u hb hu=>(Uc s.heap (Wy f) (UJ hb)).trans hu) ⟨_,q⟩ ?_;exact⟨hz,its',_,hv,q⟩
def Inv.lnew{t':Nat}(I:Inv X ξ σ H s)(hv:Vals ys gV)(hz:ys.length<=sizeLine) :
  Inv X ξ σ (upd H s.heap.objs.size (.lst ys)) {s with heap:=s.heap.push {cls:=.type "list",data:=.seq gV.toArray},toks:=t'} :=
 I.laid (λ_ _ q=>Rv _ q) (RB _) ⟨hz,gV,0,hv,Sb _ rfl⟩
def Inv.fresh(I:Inv X ξ σ H s):H s.heap.objs.size=none:=I.hok.fresh (RB _)
def Inv.lstM(I:Inv X ξ σ H s) (hH:H l=some (.lst xs)):xs.length<=sizeLine/\∃(gV:List Rs) (n:Nat),Vals xs gV/\xs.length=gV.length/\s.heap.get? l=some {cls:=.type "list",data:=.seq gV.toArray n}:=by
 obtain⟨z,gV,n,r,e⟩:=I.hok l _ hH;exact⟨z,gV,n,r,r.length,e⟩
def vk{n:Nat}(h:n<=sizeLine):Vl n=false:=by
 unfold Vl;exact decide_eq_false (by lia)
end
section
variable{X:Cx}
abbrev aJ:V->List V->Hp->VK->Prop:=λx vs H Q=>∃l xs y,x=.ref l/\vs=[y]/\H l=some (.lst xs)/\xs.length<sizeLine/\Q .non (upd H l (.lst (xs++[y])))
def qu:ON X "list.append" aJ:=by
 intro ξ s σ H x vs v us Q I rx rv h;obtain⟨l,xs,y,rfl,rfl,hH,hz,q⟩:=h;cases rx;obtain⟨u,rfl,ru⟩:=rv.one;obtain⟨z,gV,n,r,hl,e⟩:=I.lstM hH;refine Xa F.slot_list_append ⟨_,e,rfl⟩ F.entry_list_append (F.args_list_append_2 _ _) (PySem.list_append l gV.toArray n u (by rw[RZ];lia)) ⟨e,?_⟩;refine⟨.non,_,I.lset (its':=gV++[u]) hH e (by simp) (r.append (.cons ru .nil)) ?_,rfl,q⟩;rw[RF,TQ];lia
abbrev jv:V->List V->Hp->VK->Prop:=λx vs H Q=>∃l b xs zs,x=.ref l/\vs=[.ref b]/\H l=some (.lst xs)/\H b=some (.lst zs)/\xs.length+zs.length<=sizeLine/\Q .non (upd H l (.lst (xs++zs)))
def AX:ON X "list.extend" jv:=by
 intro ξ s σ H x vs v us Q I rx rv h;obtain⟨l,b,xs,zs,rfl,rfl,hH,hB,hz,q⟩:=h;cases rx;obtain⟨u,rfl,ru⟩:=rv.one;cases ru;obtain⟨z,gV,n,r,hl,e⟩:=I.lstM hH;obtain⟨z2,its2,n2,r2,hl2,e2⟩:=I.lstM hB;have hsz:gV.toArray.size+its2.toArray.size<=sizeLine:=by rw[RZ,RZ];lia
 have hlong : ¬ (!gV.toArray.isEmpty && Vl (gV.toArray.size+its2.toArray.size))=true:=by
  rw[vk hsz,Zbq];exact Sd
 refine Xa F.slot_list_extend ⟨_,e,rfl⟩ F.entry_list_extend (F.args_list_extend_2 _ _)
  (AutoSeq1.list_extend_list_list_0 l gV.toArray n b its2.toArray n2 hlong (by rw[RZ];lia) (by lia)) ⟨e,e2,?_⟩
 refine⟨.non,_,I.lset (its':=gV++its2) hH e (by simp) (r.append r2) ?_,rfl,q⟩;rw[RF];lia
abbrev Jj:V->List V->Hp->VK->Prop:=λx vs H Q=>∃l xs y,x=.ref l/\vs=[]/\H l=some (.lst xs)/\xs[xs.length-1]?=some y/\Q y (upd H l (.lst xs.dropLast))
def M3:ON X "list.pop" Jj:=by
 intro ξ s σ H x vs v us Q I rx rv h;obtain⟨l,xs,y,rfl,rfl,hH,hy,q⟩:=h;cases rx;have hus:=rv.zero;subst hus;obtain⟨z,gV,n,r,hl,e⟩:=I.lstM hH;obtain⟨u,hu,ru⟩:=r.get hy
 have hy':gV.toArray[gV.toArray.size-1]?=some u:=by
  show gV.toArray[gV.length-1]?=some u;rw[<- Sk,<- hl];exact hu
 refine Xa F.slot_list_pop ⟨_,e,rfl⟩ ZaO (F.args_list_pop_1 _) (MeetsSeq.list_pop_last l gV.toArray n u hy' (by rw[RZ];lia)) ⟨e,?_⟩;refine⟨y,_,I.lset (its':=gV.dropLast) hH e ?_ r.dropLast ?_,ru,q⟩
 .show gV.toArray.eraseIdxIfInBounds (gV.toArray.size-1)=gV.dropLast.toArray;rw[RZ,W1,xk]
 .rw[List.length_dropLast];lia
abbrev Ae:V->List V->Hp->VK->Prop:=λx vs H Q=>∃l xs i k y,x=.ref l/\vs=[.int i]/\H l=some (.lst xs)/\-(2 ^ 63)<=i/\i<2 ^ 63/\seqIndex? i xs.length=some k/\xs[k]?=some y/\Q y (upd H l (.lst (xs.eraseIdx k)))
def Fh:ON X "list.pop" Ae:=by
 intro ξ s σ H x vs v us Q I rx rv h;obtain⟨l,xs,i,k,y,rfl,rfl,hH,h1,h2,hk,hy,q⟩:=h;cases rx;obtain⟨u,rfl,ru⟩:=rv.one;obtain⟨t,rfl⟩:=ru;obtain⟨z,gV,n,r,hl,e⟩:=I.lstM hH;obtain⟨w,hw,rw'⟩:=r.get hy
 refine Xa F.slot_list_pop ⟨_,e,rfl⟩ ZaO (F.args_list_pop_2 _ _)
  (MeetsSeq.list_pop_at l gV.toArray n i t k w (fitsIndex_both h1 h2) (by rw[RZ,<- hl];exact hk) (by rw[<- Sk];exact hw) (by rw[RZ];lia)) ⟨e,?_⟩
 refine⟨y,_,I.lset (its':=gV.eraseIdx k) hH e ?_ (r.eraseIdx k) ?_,rw',q⟩
 .show gV.toArray.eraseIdxIfInBounds k=(gV.eraseIdx k).toArray;rw[W1]
 .have:=qC xs k
  lia
abbrev Ah:R2:=λx y H Q=>∃l b xs zs,x=.ref l/\y=.ref b/\H l=some (.lst xs)/\H b=some (.lst zs)/\xs.length+zs.length<=sizeLine/\∀p,H p=none->Q (.ref p) (upd H p (.lst (xs++zs)))
def MU:fu X (binaryOp .Add) Ah:=by
 intro ξ s σ H x y v u Q I rx ry h;obtain⟨l,b,xs,zs,rfl,rfl,hH,hB,hz,q⟩:=h;cases rx;cases ry;obtain⟨z,gV,n,r,hl,e⟩:=I.lstM hH;obtain⟨z2,its2,n2,r2,hl2,e2⟩:=I.lstM hB;refine PySem.P.add_list e e2 ?_ (by rw[RZ,RZ];lia);have ea:gV.toArray++its2.toArray=(gV++its2).toArray:=by simp
 rw[ea];exact⟨.ref _,_,I.lnew (t':=s.toks) (r.append r2) (by rw[RF];lia),rfl,q _ I.fresh⟩
abbrev Ji:R2:=λx y H Q=>∃l k xs,x=.ref l/\y=.int k/\H l=some (.lst xs)/\-(2 ^ 63)<=k/\k<2 ^ 63/\xs.length*k.toNat<=sizeLine /\
 ∀p,H p=none->Q (.ref p) (upd H p (.lst (Sg k.toNat xs).flatten))
def Fj{α:Type}(xs:List α)(k:Nat):(Sg k xs).flatten.length=k*xs.length:=by
 induction k with
 |zero=>simp
 |succ k ih=>rw[Vp,WR,RF,ih,Vz,YN]
def MK:fu X (binaryOp .Mult) Ji:=by
 intro ξ s σ H x y v u Q I rx ry h;obtain⟨l,k,xs,rfl,rfl,hH,h1,h2,hz,q⟩:=h;cases rx;obtain⟨t,rfl⟩:=ry;obtain⟨z,gV,n,r,hl,e⟩:=I.lstM hH;have hlen:gV.toArray.size*k.toNat<=sizeLine:=by rw[RZ,<- hl];exact hz
 have hcap : ¬ gV.toArray.size*k.toNat > (2 ^ 63-1) / 8:=by
  have:(sizeLine:Nat)<=(2 ^ 63-1) / 8:=by decide
  lia
 have hfit : ¬ (!Builtin.List.listFitsIndex k)=true:=by
  rw[fitsIndex_both h1 h2];exact Sd
 have hlong : ¬ Vl (gV.toArray.size*k.toNat)=true:=by
  rw[vk hlen];exact Sd
 have hnew:Zbp (λx1 x2=>x1++x2) #[] (Sg (if gV.toArray.isEmpty=true then 0 else k.toNat) gV.toArray)=(Sg k.toNat gV).flatten.toArray:=by
  have f0:∀m:Nat,Zbp (λx1 x2=>x1++x2) #[] (Sg m gV.toArray)=(Sg m gV).flatten.toArray:=λm=>by
   have:=foldl_rep gV m []
   rw[UO] at this;exact this
  rw[f0];cases gV with
  |nil=>simp
  |cons a r'=>rw[if_neg (by simp)]
 refine wpAny_binaryOp_repeat_ref (T:="list") (U:="int") (by decide) ⟨_,e,rfl⟩ (λs'=>typeIs_int s' k t) noFill_list_mul F.fills_int_mul F.slot_int_rmul repeat_list F.slot_int_index.lookup
  (Xa F.slot_int_rmul (typeIs_int s k t) F.entry_int_rmul (F.args_int_rmul_2 _ _) (int___rmul___int_list k t l gV.toArray n)
   ⟨e,rfl,⟨_,e,rfl⟩,Xa F.slot_list_mul ⟨_,e,rfl⟩ F.entry_list_mul (F.args_list_mul_2 _ _) (AutoListH.list___mul___list_int_3 l gV.toArray n k t hfit hcap hlong) ⟨e,?_⟩⟩)
 rw[hnew];exact⟨.ref _,_,I.lnew (t':=s.toks) (r.rep k.toNat) (by rw[Fj,Tu];exact hz),rfl,q _ I.fresh⟩
end
end L2
namespace Att
open PySem PySem.W PySem.Calls PyProof.Rows
def jN:∀(ns:List Int) (vs:List Rs),WellAll P h vs (ns.map WData.int)->VN vs ns:=by
 intro ns
 induction ns with
 |nil =>
  intro vs w;rw[XM] at w;cases w;exact .nil
 |cons n ns ih =>
  intro vs w;rw[Sy] at w;cases w with
  |cons a b =>
   cases a;exact .cons _ _ (ih _ b)
def zD{l:OpenLaw}{n:Nat}(hn:l.most=some n)
  (hpre:l.row.toRowW.claim.pre args=true) (hwl:WellAll P h vals args) :
  ∃a vs ns,vals=[R_ a]/\args=[WData.list (ns.map WData.int)]/\h.get? a=some {cls:=.type "list",data:=.seq vs.toArray}/\VN vs ns/\ns.length<=n:=by
 have hsh:WShape.hasAll [] args [.list .int]=true:=(pre_splitW hpre).1;have hc:l.pre.holds [] {args:=args}=true:=(pre_splitW hpre).2;obtain⟨d,r,rfl,h1,h2⟩:=hasAllW_cons hsh;obtain rfl:=hasAllW_nil h2;obtain⟨xs,rfl,h3⟩:=hasW_list h1;obtain⟨ns,rfl⟩:=items_int h3
 have hlen:ns.length<=n:=by
  unfold OpenLaw.pre at hc
  have h4:(WTm.not (.lt (.lit (.int (n:Int))) (.len (.arg 0)))).holds [] {args:=[.list (ns.map .int)]}=true:=by
   have h4:=(holds_andW hc).1;rw[hn] at h4;exact h4
  have h5:=condW_of h4 (w_not (w_lt w_lit (w_len_list (w_arg rfl))));rw[Rm] at h5;refine Nat.le_of_not_lt λq=>?_
  have q':(n:Int)<((ns.length:Nat):Int):=by lia
  first
   |(rw[decide_eq_true q'] at h5;exact absurd h5 (by decide))
   |(simp at h5;omega)
 cases hwl with
 |cons w1 w2 =>
  cases w2;cases w1 with
  |list ho hall=>exact⟨_,_,ns,rfl,rfl,ho,jN ns _ hall,hlen⟩
def Au(l:OpenLaw)(args:List WData):l.row.toRowW.claim.post args (.bool true) args=true :=
 postW_of (r:=l.row.toRowW) (X:=(true == true))
  (show WShape.has [] (.bool true) .bool=true by first|rfl|decide|simp[WShape.has,WShape.arms,WShape.armsAll])
  (show(WTm.eq .res (.lit (.bool true))).value [] {args:=args,res:=some (.bool true),after:=args}=some (.bool (true == true)) from w_eq_bool (w_res rfl) w_lit) rfl
def t_{l:OpenLaw}{n:Nat}{XP:(Str->Option Rs)->Heap->Prop}{YP:R4->Heap->Prop}{d:DefRec}
  (hn:l.most=some n) (hdf:d.params.defaults=[])
  (call:∀(w:R4) (s₀ s₁:RC) (mg mb:Str->Option Rs) (fa:Addr) (o:Obj) (pm cd doc:Rs) (a:Addr) (vs:List Rs) (ns:List Int),
   Ground q loose [] XP w s₀ mg mb s₁.heap->YP w s₁.heap ->
   s₁.heap.get? fa=some o->o.data=.func (docDef d.name d.params d.body d.scope pm cd doc)->s₁.heap.CodeRec cd d.name->mg d.name=⇑fa ->
   s₁.heap.get? a=some {cls:=.type "list",data:=.seq vs.toArray}->VN vs ns->ns.length<=n->s₁.gens = #[] ->
   codeAny (model l.prog w) callerA (.call (.ref fa) ⟨[.ref a],[]⟩) (λr s'=>r=.ok (.ret (.bool true))/\OldK s₁.heap s'.heap/\s'.os=s₁.os/\Xk s'.gens) s₁) :
  WalkO q loose XP YP l.row.toRowW d [] (λf vs=>ZT f vs):=by
 intro w s₀ s₁ mg mb G Y fa o pm cd doc dV kV ho hd hcd hD hmg hg args vals as hpre hlay hrd hwl hlo;obtain rfl:dV=.none:=Dflts.none hD hdf;obtain rfl:kV=.none:=Dflts.noKw hD;obtain⟨a,vs,ns,rfl,rfl,hobj,hints,hlen⟩:=zD hn hpre hwl;refine enter_call (V3 (call w s₀ s₁ mg mb fa o pm cd doc a vs ns G Y ho (fd_plain hd) hcd hmg hobj hints hlen hg) λr s' hq=>?_);obtain⟨rfl,h2,h3,h4⟩:=hq;exact⟨.inl ⟨.bool true,.bool true,[],rfl,λ_=>rfl,.bool true,Au l _,λ_=>⟨Zaj,λ_ hm=>(nomatch hm)⟩⟩,h2,h3,h4⟩
end Att
namespace L2
open PySem PySem.Spec PyProof.Rows
def oZ:∀{vs:List Rs} {ns:List Int},VN vs ns->Vals (ns.map V.int) vs
 |_,_,.nil=>.nil
 |_,_,.cons n t h=>.cons ⟨t,rfl⟩ (oZ h)
abbrev K2(H:Hp):Prop:=∀b,H b=none\/∃o xs,H b=some (.frz o (.lst xs))
def Fm{K:Fg}{CX:kI}{a:Addr}{x:Str}{sp:Sp}{s₁:RC}{vs:List Rs}
  (KX:K.In s₁.heap) (hns:s₁.heap.Ns mainGlobals mg) (hb:s₁.heap.Ns builtinsNs mb) (hbb:∀x:Str,x≠"__name__"->mb x=bootBuiltins x) (hlim:s₁.heap.NoLimit) (hg:s₁.gens = #[])
  (ha:s₁.heap.get? a=some {cls:=.type "list",data:=.seq vs.toArray}) (hi:VN vs ns) (hl:ns.length<=sizeLine) (hr:Room k callerA)
  (F:∀base:Heap,K.In base->base.Ns mainGlobals mg->FnOk P w K mg base CX k fa fd [x] sp) (hbind:∀(s:RC) (u:Rs),Zah s fd ⟨[u],[]⟩ [(x,u)])
  (hsp:∀H:Hp,K2 H->SqL K H a (ns.map V.int)->sp [.ref a] H (λv _=>v=.bl true) λ_ _ _=>False)
  (hCX:∀H e s',CX [] H s₁ (λ_ _ _=>False) e s'->False) :
  codeAny (model P w) callerA (.call (.ref fa) ⟨[.ref a],[]⟩) (λr s'=>r=.ok (.ret (.bool true))/\OldK s₁.heap s'.heap/\s'.os=s₁.os/\Xk s'.gens) s₁:=by
 have rv:=oZ hi;have lenV:=hi.length
 have core:∀H:Hp,K2 H->SqL K H a (ns.map V.int)->HOk P w H s₁.heap->(∀b,H b≠none->b=a)->(H a≠none->K.lookup a=none) ->
   codeAny (model P w) callerA (.call (.ref fa) ⟨[.ref a],[]⟩) (λr s'=>r=.ok (.ret (.bool true))/\OldK s₁.heap s'.heap/\s'.os=s₁.os/\Xk s'.gens) s₁:=by
  intro H hO hS hok hA hK;have base_of:∀{b:Addr} {o:Obj},s₁.heap.get? b=some o->H b=none->(oz s₁.heap H).get? b=some o:=λe n=>FG e n
  have noA:∀{b:Addr} {o:Obj} {es:Array XR} {ep:Nat},s₁.heap.get? b=some o->o.data=.dict es ep->H b=none:=λ{b o es ep} e d=>by
   cases q:H b with
   |none=>rfl
   |some u =>
    have e':b=a:=hA b (by rw[q];simp);subst e';rw[ha] at e;cases e;have d':ZbP vs.toArray _=Data.dict es ep:=d;cases d'
  have nsK:∀{b:Addr} {m:Str->Option Rs},s₁.heap.Ns b m->(oz s₁.heap H).Ns b m:=λ{b m} ⟨o,es,ep,e,d,r⟩=>⟨o,es,ep,base_of e (noA e d),d,r⟩
  have hKb:K.In (oz s₁.heap H):=λb o e=>base_of (KX b o e) (by
   cases q:H b with
   |none=>rfl
   |some u =>
    have e':b=a:=hA b (by rw[q];simp)
    subst e'
    rw[hK (by rw[q];simp)] at e;cases e)
  have hM:Mod K mg (oz s₁.heap H):=⟨hKb,nsK hns,⟨mb,nsK hb,hbb⟩,let ⟨mc,h1,h2⟩:=hlim;⟨mc,nsK h1,h2⟩⟩
  have e0:Env0 P w K mg (oz s₁.heap H) callerA [] s₁ H:=⟨rfl,hM,λb o e=>JY e,YO (BC _ _),trivial,λb hb=>absurd (show b∈([]:List Addr) from hb) (by simp),hok,.of_eq hg⟩
  refine V3 ((F _ hKb (nsK hns)).run callerA [] s₁ H ⟨[.ref a],[]⟩ [.ref a] [.ref a] _ _ hr e0 (hbind s₁ (.ref a)) (.cons rfl .nil) (hsp H hO hS)) λr s' h=>?_
  cases r with
  |error e=>exact(hCX H e s' h).elim
  |ok fl =>
   cases fl with
   |next=>exact Us h
   |brk=>exact Us h
   |cont=>exact Us h
   |ret u =>
    obtain⟨v,H',os,bare,un,hok',r',q⟩:=h;have q':v=.bl true:=q;subst q';obtain rfl:u=XS true:=r';refine⟨rfl,OldK.of_keep λb o e=>?_,os,bare⟩;cases q:H b with
    |none=>exact un.keep b o e q (by intro z;exact absurd (show b∈([]:List Addr) from z) (by simp)) (by simp)
    |some u =>
     rcases hO b with z|⟨ob,xs,z⟩
     .rw[q] at z;cases z
     .have z2:=un.frzs b ob _ z;obtain⟨e1,_⟩:=hok b _ z;obtain⟨e2,_⟩:=hok' b _ z2;rw[e] at e1;cases e1;exact e2
 cases hk:K.lookup a with
 |some o =>
  have e:=KX a o hk;rw[ha] at e;cases e;refine core (λ_=>none) (λ_=>.inl rfl) (.inr ⟨_,vs.toArray,_,hk,rfl,rfl,rfl,by rw[RZ,lenV];exact hl,by simpa using rv⟩) (λb u z=>by have z':(none:Option HO)=some u:=z;cases z') (λb z=>absurd rfl z) λz=>absurd rfl z
 |none =>
  refine core (λb=>if b=a then some (.frz {cls:=.type "list",data:=.seq vs.toArray} (.lst (ns.map V.int))) else none) (λb=>?_) (.inl (.inr ⟨{cls:=.type "list",data:=.seq vs.toArray},if_pos rfl⟩)) (λb u z=>?_) (λb z=>?_) λ_=>hk
  .by_cases hb:b=a
   .exact .inr ⟨_,_,if_pos hb⟩
   .exact .inl (if_neg hb)
  .by_cases hb:b=a
   .have z':=(if_pos hb).symm.trans z;cases z';subst hb;exact⟨ha,by rw[Rm];exact hl,vs,_,rv,ha⟩
   .have z':=(if_neg hb).symm.trans z;cases z'
  .by_cases hb:b=a
   .exact hb
   .exact absurd (if_neg hb) z
def HE{l:Zbb}{n:Nat}{XP:(Str->Option Rs)->Heap->Prop}{YP:R4->Heap->Prop}{d:DefRec}{K:Params->Z9}{CX:R4->kI}{sp:R4->Sp}{x:Str}
  (hn:l.most=some n) (hn2:n<=sizeLine) (hdf:d.params.defaults=[]) (hr:Room k callerA)
  (hY:∀(w:R4) (h:Heap),YP w h->(K w.params).In h)
  (F:∀(w:R4) (mg:Str->Option Rs) (fa:Addr) (h:Heap),(K w.params).In h->h.Ns mainGlobals mg->mg d.name=⇑fa ->
   ∃fd:UR,(∀(s:RC) (u:Rs),Zah s fd ⟨[u],[]⟩ [(x,u)]) /\
    ∀base:Heap,(K w.params).In base->base.Ns mainGlobals mg->FnOk l.prog w (K w.params) mg base (CX w) k fa fd [x] (sp w))
  (hsp:∀(w:R4) (H:Hp) (a:Addr) (ns:List Int),ns.length<=n->K2 H->SqL (K w.params) H a (ns.map V.int)->sp w [.ref a] H (λv _=>v=.bl true) λ_ _ _=>False)
  (hCX:∀(w:R4) (H:Hp) (s:RC) (e:Rs) (s':RC),CX w [] H s (λ_ _ _=>False) e s'->False) :
  ZD q loose XP YP l.row.toRowW d [] (λf vs=>ZT f vs):=by
 refine Att.t_ hn hdf λw s₀ s₁ mg mb fa o pm cd doc a vs ns G Y ho hd hcd hmg hobj hints hlen hg=>?_
 have KX:=hY w _ Y;obtain⟨fd,hb,hF⟩:=F w mg fa _ KX G.T.g hmg;exact Fm KX G.T.g G.T.b G.T.builtins G.T.nolimit hg hobj hints (RN hlen hn2) hr hF hb (λH hO hS=>hsp w H a ns hlen hO hS) λH e s'=>hCX w H s₁ e s'
abbrev cM(s:Stmt):Arguments:=match s with
 |.FunctionDef _ a _ _ _ _ _ _ _ _=>a
 |_=>{posonlyargs:=[],args:=[],vararg:=none,kwonlyargs:=[],kw_defaults:=[],kwarg:=none,defaults:=[]}
abbrev bK(s:Stmt):List Stmt:=match s with
 |.FunctionDef _ _ b _ _ _ _ _ _ _=>b
 |_=>[]
abbrev ak(s:Stmt):Scope:=match s with
 |.FunctionDef _ _ _ _ _ _ sc _ _ _=>sc
 |_=>{kind:=.function,names:=[],isGenerator:=false,isCoroutine:=false}
nonrec abbrev bh:kI:=λ_ _ _ _ _ _=>False
nonrec abbrev E0:XK:=λ_ _ _=>False
def Pt:jZ bh X E0:=λ_ _ _ _ _ _ _ h=>h.elim
structure Fun (K:Fg) (x qual:Str) (st:Stmt) (f:Addr) (fd:UR):Prop where
 ex:∃(oc:Rs) (od:Option Addr) (kV doc pm:Rs) (an:Option Addr) (cdv ct:Rs) (osl:Array (Option Rs)),
  fd=Uq x qual (cM st) (bK st) (ak st) .none kV doc pm an cdv ct/\K.lookup f=some ⟨oc,od,.func fd,osl⟩/\Vu K cdv qual=true
 kp:UG K (.ref f)=true
section
variable{P:RM}{w:R4}{K:Fg}{mg:Str->Option Rs}{base:Heap}
def Fun.ok{st:Stmt}{sp:Sp}(F:Fun K x qual st f fd)(S:ar N ps (ak st))(len:∀vs H Q E,sp vs H Q E->vs.length=ps.length)
  (hbody:∀(cdv:Rs) (A:SC) (outer:List Env) (s:RC) (H:Hp) (vs:List V) (Q:VK) (E:XK),Room k (A.deeper (envOfC qual (ak st) s.heap.objs.size f cdv))->sp vs H Q E ->
   ∃t,PSs (dg bh P w K mg base N qual (ak st) f cdv A outer s H E).nox (bK st) t/\t {nx:=λ_ H'=>Q .non H',rt:=Q} (start N vs) H):FnOk P w K mg base bh (k+1) f fd ps sp:=by
 obtain⟨oc,od,kV,doc,pm,an,cdv,ct,osl,rfl,lk,hcd⟩:=F.ex;refine N_ lk hcd S len λA outer s H vs Q E hr hsp=>?_
 obtain⟨t,h,q⟩:=hbody cdv A outer s H vs Q E hr hsp;exact⟨t,h.nox,q⟩
def Fun.binds{st:Stmt}{ps:List Str}(F:Fun K x qual st f fd)
  (h:∀(kV doc pm:Rs) (an:Option Addr) (cdv ct:Rs) (us:List Rs),us.length=ps.length->bindArgs (Uq x qual (cM st) (bK st) (ak st) .none kV doc pm an cdv ct) ⟨us,[]⟩=pure (ps.zip us)):Binds K fd ps []:=by
 obtain⟨oc,od,kV,doc,pm,an,cdv,ct,osl,rfl,lk,hcd⟩:=F.ex;exact .all (h kV doc pm an cdv ct)
def vI{st:Stmt}{oc:Rs}{od:Option Addr}{osl:Array (Option Rs)}{kV:Rs}(l:K.lookup f=some ⟨oc,od,.func (Uq x qual (cM st) (bK st) (ak st) .none kV doc pm an cdv ct),osl⟩)
  (c:Vu K cdv qual=true) (k:UG K (.ref f)=true):Fun K x qual st f (Uq x qual (cM st) (bK st) (ak st) .none kV doc pm an cdv ct):=⟨⟨oc,od,kV,doc,pm,an,cdv,ct,osl,rfl,l,c⟩,k⟩
end
def Qu(hr:Room k A):A.units+1<cLine:=RS (We (by decide:1<=64) _) hr.units
def aq{n:Nat}(h:n<=1000):n<sizeLine:=RS h (by decide)
section
variable{X:Cx}
def pv(i:Nat) {x:Str}  (hN:X.N[i]?=some x:=by rfl) (hv:O1 X.env.scope x:=by first|exact Or.inl rfl|exact Or.inr (Or.inl rfl)|exact Or.inr (Or.inr rfl)) (hd:(x == ("__debug__":Str))=false:=by decide)
  (hcd:(x == ("__classdict__":Str))=false:=by decide):PE X (.Name x pos) (aa i):=GN hN hv hd hcd
end
def tN{A B:Prop}(h:B):if false=true then A else B:=by
 rw[if_neg Sd];exact h
def tM{A B:Prop}(h:A):if true=true then A else B:=by
 rw[if_pos rfl];exact h
abbrev Same(H H':Hp):Prop:=∀b o,H b=some o->H' b=some o
def Same.refl(H:Hp):Same H H:=λ_ _ h=>h
def Same.trans(a:Same H H1)(b:Same H1 H2):Same H H2:=λc o h=>b c o (a c o h)
def Same.free(e:Same H H')(h:H' l=Option.none):H l=Option.none:=by
 cases q:H l with
 |none=>rfl
 |some o =>
  rw[e l o q] at h;cases h
def Same.seq{K:Fg}(e:Same H H')(h:SqL K H a xs):SqL K H' a xs:=by
 rcases h with(h|⟨o,h⟩)|h
 .exact .inl (.inl (e _ _ h))
 .exact .inl (.inr ⟨o,e _ _ h⟩)
 .exact .inr h
section
variable{κ:Type}[DecidableEq κ]
abbrev bE(de:List (κ×V))(k:κ):Option V:=(de.find? λkv=>decide (kv.1=k)).map (·.2)
abbrev b5(de:List (κ×V))(k:κ)(v:V):List (κ×V) :=
 if (de.any λkv=>decide (kv.1=k))=true then de.map (λkv=>if kv.1=k then (kv.1,v) else kv) else de++[(k,v)]
def uy{k:κ}:bE ([]:List (κ×V)) k=none:=rfl
def bq{p:κ×V}{r:List (κ×V)}{k:κ}(e:p.1=k):bE (p :: r) k=some p.2:=by simp[bE,UA,e]
def bi{p:κ×V}{r:List (κ×V)}{k:κ}(e : ¬ p.1=k):bE (p :: r) k=bE r k:=by simp[bE,UA,e]
def eY(k:κ):∀de:List (κ×V),(de.any λkv=>decide (kv.1=k))=(bE de k).isSome
 |[]=>rfl
 |p :: r=>by
  rw[ZG];by_cases e:p.1=k
  .simp only[bq e,decide_eq_true e,Bool.true_or,Option.isSome_some]
  .rw[bi e,decide_eq_false e,ZbD];exact eY k r
def uz(k j:κ)(y:V):∀de:List (κ×V),bE (de.map λkv=>if kv.1=k then (kv.1,y) else kv) j=(bE de j).map λx=>if j=k then y else x
 |[]=>rfl
 |p :: r=>by
  have ih:=uz k j y r;rw[Sy];by_cases h:p.1=k
  .rw[if_pos h];by_cases e:p.1=j
   .rw[bq (p:=(p.1,y)) e,bq e,XA,if_pos (e.symm.trans h)]
   .rw[bi (p:=(p.1,y)) e,bi e,ih]
  .rw[if_neg h];by_cases e:p.1=j
   .rw[bq (p:=p) e,bq e,XA,if_neg (λz=>h (e.trans z))]
   .rw[bi (p:=p) e,bi e,ih]
def o4(k j:κ)(y:V):∀de:List (κ×V),bE de k=none->bE (de++[(k,y)]) j=if j=k then some y else bE de j
 |[],_=>by
  by_cases e:k=j
  .rw[if_pos e.symm];exact bq (p:=(k,y)) e
  .rw[if_neg (λz=>e z.symm)];exact bi (p:=(k,y)) e
 |p :: r,hn=>by
  rw[W9];have hk : ¬ p.1=k:=λz=>by rw[bq z] at hn;cases hn
  rw[bi hk] at hn;have ih:=o4 k j y r hn;by_cases e:p.1=j
  .rw[bq e,bq e,if_neg (λz=>hk (e.trans z))]
  .rw[bi e,bi e,ih]
def lO(de:List (κ×V))(k j:κ)(y:V):bE (b5 de k y) j=if j=k then some y else bE de j:=by
 unfold b5;by_cases a:(de.any λkv=>decide (kv.1=k))=true
 .rw[if_pos a,uz];rw[eY] at a;by_cases e:j=k
  .obtain⟨x,hx⟩:=Wn.mp a;rw[if_pos e,e,hx,XA,if_pos rfl]
  .rw[if_neg e];cases bE de j with
   |none=>rfl
   |some x=>rw[XA,if_neg e]
 .rw[if_neg a];refine o4 k j y de ?_;rw[eY] at a;cases q:bE de k with
  |none=>rfl
  |some x=>rw[q] at a;exact(a rfl).elim
def b6(de:List (κ×V))(k:κ)(v:V):(b5 de k v).length<=de.length+1:=by
 unfold b5;split
 .rw[Rm];lia
 .rw[RF,Sn,VF];lia
def RelO.jM(r:RelO o u):o.isSome=u.isSome:=by
 cases o with
 |none=>cases u with
  |none=>rfl
  |some _=>exact(show False from r).elim
 |some _=>cases u with
  |none=>exact(show False from r).elim
  |some _=>rfl
def RelO.getD(r:RelO o u)(rd:RelV d d'):RelV (o.getD d) (u.getD d'):=by
 cases o with
 |none=>cases u with
  |none=>exact rd
  |some _=>exact(show False from r).elim
 |some _=>cases u with
  |none=>exact(show False from r).elim
  |some _=>exact r
def KV.val{de:List (κ×V)}{vs:List (κ×Rs)}(r:KV de vs)(k:κ):RelO (bE de k) (valueAt vs k):=by
 unfold KV at r
 induction r with
 |nil=>exact UB
 |@cons p q ps qs h t ih =>
  obtain⟨h1,h2⟩:=h;by_cases e:p.1=k
  .have e':q.1=k:=h1.symm.trans e;have b:valueAt (q :: qs) k=some q.2:=by simp[valueAt,UA,e']
   rw[bq e,b];exact h2
  .have e' : ¬ q.1=k:=λz=>e (h1.trans z)
   have b:valueAt (q :: qs) k=valueAt qs k:=by simp[valueAt,UA,e']
   rw[bi e,b];exact ih
def KV.any{de:List (κ×V)}{vs:List (κ×Rs)}(r:KV de vs)(k:κ):(de.any λkv=>decide (kv.1=k))=vs.any λkv=>decide (kv.1=k):=by
 unfold KV at r
 induction r with
 |nil=>rfl
 |cons h t ih=>rw[ZG,ZG,ih,h.1]
def KV.repl{de:List (κ×V)}{vs:List (κ×Rs)}(r:KV de vs)(k:κ)(ry:RelV y u) :
  KV (de.map λkv=>if kv.1=k then (kv.1,y) else kv) (vs.map λkv=>if kv.1=k then (kv.1,u) else kv):=by
 unfold KV at r ⊢
 induction r with
 |nil=>exact .nil
 |@cons p q ps qs h t ih =>
  rw[Sy,Sy];refine .cons ?_ ih;obtain⟨h1,h2⟩:=h;by_cases e:p.1=k
  .rw[if_pos e,if_pos (h1.symm.trans e)];exact⟨h1,ry⟩
  .rw[if_neg e,if_neg (λz=>e (h1.trans z))];exact⟨h1,h2⟩
def KV.put{de:List (κ×V)}{vs:List (κ×Rs)}(r:KV de vs)(k:κ)(ry:RelV y u):KV (b5 de k y) (stored vs k u):=by
 unfold b5 stored;rw[r.any k];by_cases e:(vs.any λkv=>decide (kv.1=k))=true
 .rw[if_pos e,if_pos e];exact r.repl k ry
 .rw[if_neg e,if_neg e];exact Paired.snoc r ⟨rfl,ry⟩
def KV.keys{de:List (κ×V)}{vs:List (κ×Rs)}(r:KV de vs):de.map (·.1)=vs.map (·.1):=by
 unfold KV at r
 induction r with
 |nil=>rfl
 |cons h t ih=>rw[Sy,Sy,ih,h.1]
def KV.length{de:List (κ×V)}{vs:List (κ×Rs)}(r:KV de vs):de.length=vs.length:=Wl r
end
def xf{k:ba}(r:RelV (kV k) u):(bv P w).is k u=true:=by
 cases k with
 |inl i=>obtain⟨t,e⟩:=(show ∃t,u=VH i t from r);subst e;exact tF P w i t
 |inr x=>obtain⟨t,e⟩:=(show ∃t,u=Yv x t from r);subst e;exact tE P w x t
def qI{P:RM}{w:R4}:∀{ks:List ba} {us:List Rs},Vals (ks.map kV) us->ItemsAre (bv P w) ks us
 |[],_,r=>by rw[XM] at r;cases r;exact .nil
 |k :: ks,_,r=>by
  rw[Sy] at r;cases r with
  |cons h t=>exact .cons (xf h) (qI t)
nonrec abbrev KT(H:Hp):List (List ba×V)->List (List ba×Addr×Rs)->Prop:=Paired λp q=>p.1=q.1/\H q.2.1=some (.tup (p.1.map kV))/\RelV p.2 q.2.2
def KT.val{de:List (List ba×V)}{xs:List (List ba×Addr×Rs)}(r:KT H de xs)(k:List ba):RelO (bE de k) ((atKey xs k).map (·.2)):=by
 induction r with
 |nil=>exact UB
 |@cons p q ps qs h t ih =>
  obtain⟨h1,_,h2⟩:=h;by_cases e:p.1=k
  .have e':q.1=k:=h1.symm.trans e;have b:atKey (q :: qs) k=some q.2:=by simp[atKey,UA,e']
   rw[bq e,b];exact h2
  .have e' : ¬ q.1=k:=λz=>e (h1.trans z)
   have b:atKey (q :: qs) k=atKey qs k:=by simp[atKey,UA,e']
   rw[bi e,b];exact ih
def KT.repl{de:List (List ba×V)}{xs:List (List ba×Addr×Rs)}(r:KT H de xs)(k:List ba)(ry:RelV y u) :
  KT H (de.map λkv=>if kv.1=k then (kv.1,y) else kv) (xs.map (putAt k u)):=by
 induction r with
 |nil=>exact .nil
 |@cons p q ps qs h t ih =>
  rw[Sy,Sy];refine .cons ?_ ih;obtain⟨h1,h2,h3⟩:=h;unfold putAt;by_cases e:p.1=k
  .rw[if_pos e,if_pos (h1.symm.trans e)];exact⟨h1,h2,ry⟩
  .rw[if_neg e,if_neg (λz=>e (h1.trans z))];exact⟨h1,h2,h3⟩
def KT.put{de:List (List ba×V)}{xs:List (List ba×Addr×Rs)}(r:KT H de xs)(k:List ba)(hb:H b=some (.tup (k.map kV)))(ry:RelV y u) :
  KT H (b5 de k y) (storedH xs k b u):=by
 have e:(de.any λkv=>decide (kv.1=k))=(atKey xs k).isSome:=by
  rw[eY,(r.val k).jM,Zak]
 unfold b5 storedH;rw[e];by_cases q:(atKey xs k).isSome=true
 .rw[if_pos q,if_pos q];exact r.repl k ry
 .rw[if_neg q,if_neg q];exact Paired.snoc r ⟨rfl,hb,ry⟩
def KT.keeps{H':Hp}{de:List (List ba×V)}{xs:List (List ba×Addr×Rs)}(r:KT H de xs)(ht:∀b ys,H b=some (.tup ys)->H' b=some (.tup ys)):KT H' de xs :=
 Paired.mapP r λ_ _ z=>⟨z.1,ht _ _ z.2.1,z.2.2⟩
section
variable{P:RM}{w:R4}{H:Hp}{h:Heap}{a:Addr}
def LZ(ok:HOk P w H h)(e:Rd H a u):bB P w H h a u:=e.ok ok
def tX{de:List (ba×V)}(ok:HOk P w H h)(e:Rd H a (.dK de)):de.length<=sizeLine/\(a == sysModules)=false/\∃vs,KV de vs/\h.DictOf (bv P w) a vs :=
 show bB P w H h a (.dK de) from LZ ok e
def KI{de:List (ba×V)}(ok:HOk P w H h)(e:H a=some (.dK de)):de.length<=sizeLine/\(a == sysModules)=false/\∃vs,KV de vs/\h.DictOf (bv P w) a vs:=tX ok (.inl e)
def qG{ks:List ba}(ok:HOk P w H h)(e:H a=some (.tup (ks.map kV))):(tupleKind (bv P w)).is h ks a:=by
 obtain⟨_,gV,r,o,h1,⟨h2,n,h3⟩,_⟩:=(show bB P w H h a (.tup (ks.map kV)) from ok a _ e)
 exact⟨o,gV.toArray,n,h1,h2,h3,by simpa using qI r⟩
def xo{de:List (List ba×V)}(ok:HOk P w H h)(e:Rd H a (.dT de)):de.length<=sizeLine/\(a == sysModules)=false /\
  ∃xs,KT H de xs/\h.DictOfH (tupleKind (bv P w)) a xs:=by
 obtain⟨z,y,xs,r,o,es,ep,h1,h2,h3,h4,h5⟩:=(show bB P w H h a (.dT de) from LZ ok e)
 refine⟨z,y,xs,r,o,es,ep,h1,h2,h3,h4,λx hx=>?_,h5⟩
 have all:∀{l:List (List ba×V)} {m:List (List ba×Addr×Rs)},KT H l m->∀x∈m,(tupleKind (bv P w)).is h x.1 x.2.1:=by
  intro l m q
  induction q with
  |nil=>intro x hx;exact nomatch hx
  |@cons p q ps qs hq t ih =>
   intro x hx;rcases RW.mp hx with e|hx
   .subst e;exact qG ok (by rw[<- hq.1];exact hq.2.1)
   .exact ih x hx
 exact all r x hx
def Oc{de:List (List ba×V)}(ok:HOk P w H h)(e:H a=some (.dT de)):de.length<=sizeLine/\(a == sysModules)=false /\
  ∃xs,KT H de xs/\h.DictOfH (tupleKind (bv P w)) a xs:=xo ok (.inl e)
end
abbrev DGet(H:Hp)(a:Addr)(y:V)(r:Option V):Prop :=
 (∃de k,Rd H a (.dK de)/\y=kV k/\r=bE de k)\/∃de k b,Rd H a (.dT de)/\y=.ref b/\H b=some (.tup (k.map kV))/\r=bE de k
abbrev DPut(H:Hp)(a:Addr)(y v:V)(H':Hp):Prop :=
 (∃de k,H a=some (.dK de)/\y=kV k/\de.length<sizeLine/\H'=upd H a (.dK (b5 de k v))) \/
 ∃de k b,H a=some (.dT de)/\y=.ref b/\H b=some (.tup (k.map kV))/\de.length<sizeLine/\H'=upd H a (.dT (b5 de k v))
def DGet.k{H:Hp}{de:List (ba×V)}{k:ba}(e:H a=some (.dK de)):DGet H a (kV k) (bE de k):=.inl ⟨de,k,.inl e,rfl,rfl⟩
def DGet.t{H:Hp}{de:List (List ba×V)}{k:List ba}(e:H a=some (.dT de))(eb:H b=some (.tup (k.map kV))):DGet H a (.ref b) (bE de k):=.inr ⟨de,k,b,.inl e,rfl,eb,rfl⟩
def DPut.k{H:Hp}{de:List (ba×V)}{k:ba}(e:H a=some (.dK de))(hl:de.length<sizeLine):DPut H a (kV k) v (upd H a (.dK (b5 de k v))):=.inl ⟨de,k,e,rfl,hl,rfl⟩
def DPut.t{H:Hp}{de:List (List ba×V)}{k:List ba}(e:H a=some (.dT de))(eb:H b=some (.tup (k.map kV)))(hl:de.length<sizeLine) :
  DPut H a (.ref b) v (upd H a (.dT (b5 de k v))):=.inr ⟨de,k,b,e,rfl,eb,hl,rfl⟩
section
variable{X:Cx}{ξ:List (Addr×Obj)}{σ:St}{H:Hp}{s:RC}{a:Addr}{y v:V}{u r:Rs}{o:Option V}{A:SC}{E:Rs->RC->Prop}
def Inv.big(I:Inv X ξ σ H s):sysModules<s.heap.objs.size:=by
 have h:mainGlobals<s.heap.objs.size:=(I.mod.glob.keeps I.bk).lt;exact SY (by decide) h
def Ci{Q:Rs->RC->Prop}(hu:A.units+1<cLine)(I:Inv X ξ σ H s)(g:DGet H a y (some v))(ry:RelV y u)(h:∀w' s',Inv X ξ σ H s'->RelV v w'->Q w' s') :
  wpAny (model X.prog X.w) A (getItem (.ref a) u) Q E s:=by
 rcases g with⟨de,k,e,ey,l⟩|⟨de,k,b,e,ey,eb,l⟩
 .subst ey;obtain⟨z,hd,vs,rel,dd⟩:=tX I.hok e;obtain⟨w',hw,rw'⟩:=RelO.some_of (v:=v) (o:=valueAt vs k) (by rw[l];exact rel.val k);exact wpAny_getItem_of (xf ry) dd.mapOf hw (h w' _ (I.tok _) rw')
 .subst ey;cases (show u=R_ b from ry);obtain⟨z,hd,xs,rel,dd⟩:=xo I.hok e;obtain⟨w',hw,rw'⟩:=RelO.some_of (v:=v) (o:=(atKey xs k).map (·.2)) (by rw[l];exact rel.val k);obtain⟨p,hp,hp2⟩:=RD.mp hw;refine wpAny_getItem_heap (Wz hu) (qG I.hok eb) dd hp ?_;rw[hp2];exact h w' _ (I.tok _) rw'
def KJ{Q:Rs->RC->Prop}(hu:A.units+1<cLine)(I:Inv X ξ σ H s)(g:DGet H a y o)(ry:RelV y u)(h:∀s',Inv X ξ σ H s'->Q (.bool (!o.isSome)) s') :
  wpAny (model X.prog X.w) A (compareOp .NotIn u (.ref a)) Q E s:=by
 rcases g with⟨de,k,e,ey,l⟩|⟨de,k,b,e,ey,eb,l⟩
 .subst ey;obtain⟨z,hd,vs,rel,dd⟩:=tX I.hok e;refine wpAny_notIn_of (xf ry) hd dd.mapOf ?_;rw[<- (rel.val k).jM,<- l];exact h _ (I.tok _)
 .subst ey;cases (show u=R_ b from ry);obtain⟨z,hd,xs,rel,dd⟩:=xo I.hok e;refine wpAny_notIn_heap (Wz hu) (qG I.hok eb) hd dd ?_;have q:=(rel.val k).jM;rw[Zak] at q;rw[<- q,<- l];exact h _ (I.tok _)
def tZ{t':Nat}(I:Inv X ξ σ H s)(mu:OM (H a))(hs:UT a s.heap h')(he:∃q,h'.get? a=some q)(new:bB X.prog X.w (upd H a ob) h' a ob) :
  Inv X ξ σ (upd H a ob) {s with heap:=h',toks:=t'} :=
 I.write (x:=a) (e:=a) mu (.inl rfl) (λb q hb z=>(hs.2 b hb).trans z) he new
def He{h':Heap}{de:List (ba×V)}{vs:List (ba×Rs)}(z:de.length<=sizeLine)(hd:(a == sysModules)=false)(rel:KV de vs)(dd:h'.DictOf (bv P w) a vs) :
  bB P w H' h' a (.dK de):=⟨z,hd,vs,rel,dd⟩
def Ch{Q:Unit->RC->Prop}(hu:A.units+1<cLine)(I:Inv X ξ σ H s)(g:DPut H a y v H')(ry:RelV y u)(rv:RelV v r)(h:∀s',Inv X ξ σ H' s'->Q () s') :
  wpAny (model X.prog X.w) A (setItem (.ref a) u r) Q E s:=by
 rcases g with⟨de,k,e,ey,l,eH⟩|⟨de,k,b,e,ey,eb,l,eH⟩
 .subst ey eH;obtain⟨z,hd,vs,rel,dd⟩:=KI I.hok e;have hz:vs.length<=sizeLine:=by rw[<- rel.length];exact z
  have hl:(b5 de k v).length<=sizeLine:=by have:=b6 de k v;lia
  refine wpAny_setItem_pairs (hsz:=hz) (xf ry) dd λh' dd' hs=>h _ ?_
  have he:∃q,h'.get? a=some q:=let ⟨q,_,_,hq,_⟩:=dd';⟨q,hq⟩
  exact tZ I (by rw[e];exact UB) hs he (He hl hd (rel.put k rv) dd')
 .subst ey eH;cases (show u=R_ b from ry);obtain⟨z,hd,xs,rel,dd⟩:=Oc I.hok e;have hz:xs.length<=sizeLine:=by rw[<- Wl rel];exact z
  have hl:(b5 de k v).length<=sizeLine:=by have:=b6 de k v;lia
  refine wpAny_setItem_heap (hsz:=hz) (Wz hu) (qG I.hok eb) dd λh' dd' hs=>h _ ?_
  obtain⟨q,es,ep,hq,h2,h3,h4,_,h5⟩:=dd';refine tZ I (by rw[e];exact UB) hs ⟨q,hq⟩ ⟨hl,hd,_,(rel.put k eb rv).keeps λc ys ec=>?_,q,es,ep,hq,h2,h3,h4,h5⟩;rw[aC (kG ec e (λz=>nomatch z))];exact ec
end
section
variable{X:Cx}{ξ:List (Addr×Obj)}{σ:St}{H:Hp}{s:RC}{a:Addr}{de:List (ba×V)}{k:ba}{u:Rs}{A:SC}{E:Rs->RC->Prop}
def QG{Q:Rs->RC->Prop} (I:Inv X ξ σ H s) (e:Rd H a (.dK de)) (h:∀t s',Inv X ξ σ H s'->Q (.int de.length t) s'):wpAny (model X.prog X.w) A (call (.builtin "len") [.ref a]) Q E s:=by
 obtain⟨z,hd,vs,rel,dd⟩:=tX I.hok e;refine call_len_dict hd dd (by rw[<- rel.length];rw[UY] at z;lia) ?_;rw[<- rel.length];exact h _ _ (I.tok _)
end
abbrev OL(i:Expr):Prop:=∀ov iv,subscripted i false ov iv=operate [ov,iv] (getItem ov iv)
def Ig{T id:String}
  (hl:typeLookup (.type T) "__getitem__"=pure (some (.builtin id))) (hs:OL slice)
  (h:wpAny (model prog w) A (eval value env) (λo s₁=>wpAny (model prog w) A (eval slice env) (λi s₂=>s₂.TypeIs o T/\wpAny (model prog w) A (getItem o i) Q E s₂) E s₁) E s) :
  wpAny (model prog w) A (eval (.Subscript value slice pos) env) Q E s:=by
 refine Subscript_ (SW h (λo s₁ h₁=>SW h₁ (λi s₂ h₂=>?_) λ_ _ x=>x) λ_ _ x=>x);obtain⟨hT,h₂⟩:=h₂;unfold subscriptTail;refine Ro ?_;rw[getitemInPython_of_ne hT.not_modules];refine Ro (wpAny_specialOf hT hl ?_)
 have fin:wpAny (model prog w) A (subscripted slice false o i) (λr s₃=>wpAny (model prog w) A (letTemporaryGo value o r >>= λ_=>pure r) Q E s₃) E s₂:=by
  rw[hs o i];exact wpAny_operating (SW h₂ (λr s₃ h₃=>Ro (wpAny_letTemporaryGo (RE h₃))) λ_ _ x=>x)
 first
  |exact RE (Ro fin)
  |exact Ro (RE (Ro fin))
  |exact Ro fin
def tY{H:Hp}     (I:Inv X ξ σ H s) (g:DGet H a y o):s.TypeIs (.ref a) "dict":=by
 rcases g with⟨de,k,e,_,_⟩|⟨de,k,b,e,_,_,_⟩
 .obtain⟨_,_,vs,_,dd⟩:=tX I.hok e;exact dd.typeIs
 .obtain⟨_,_,xs,_,dd⟩:=xo I.hok e;exact dd.typeIs
abbrev sv(td ty:TE):TE:=λσ H Q=>td σ H λx H1=>ty σ H1 λy H2=>∃a v,x=.ref a/\DGet H2 a y (some v)/\Q v H2
abbrev sr(ty td:TE):TE:=λσ H Q=>ty σ H λy H1=>td σ H1 λx H2=>∃a o,x=.ref a/\DGet H2 a y o/\Q (.bl (!o.isSome)) H2
abbrev pO(td ty tv:TE):TS:=λD σ H=>tv σ H λv H1=>td σ H1 λx H2=>ty σ H2 λy H3=>∃a H4,x=.ref a/\DPut H3 a y v H4/\D.nx σ H4
section
variable{X:Cx}{o i e value:Expr}{pos pos' tpos:Pos}{td ty tv:TE}
def JG(hu:X.A.units+1<cLine)(ho:PE X o td)(hi:PE X i ty)(hs:OL i):PE X (.Subscript o i pos) (sv td ty):=by
 intro ξ s σ H Q I h;refine Ig PySem.F.slot_dict_getitem.lookup hs (a5 (ho ξ s σ H _ I h) λu s1 ⟨x,H1,I1,rx,q1⟩=>a5 (hi ξ s1 σ H1 _ I1 q1) λiv s2 ω=>?_);obtain⟨y,H2,I2,ry,a,v,ex,g,q2⟩:=ω;subst ex;obtain rfl:u=R_ a:=rx;exact⟨tY I2 g,Ci hu I2 g ry λw' s3 I3 rw'=>⟨v,H2,I3,rw',q2⟩⟩
def AF(hu:X.A.units+1<cLine)(hi:PE X i ty)(ho:PE X o td):PC X .NotIn i o (sr ty td):=by
 intro ξ s σ H Q I h;refine a5 (hi ξ s σ H _ I h) λiv s1 ⟨y,H1,I1,ry,q1⟩=>a5 (ho ξ s1 σ H1 _ I1 q1) λu s2 ω=>?_;obtain⟨x,H2,I2,rx,a,ov,ex,g,q2⟩:=ω
 subst ex;obtain rfl:u=R_ a:=rx;exact KJ hu I2 g ry λs3 I3=>⟨.bl (!ov.isSome),H2,I3,rfl,q2⟩
def Jt(hu:X.A.units+1<cLine)(ho:PE X o td)(hi:PE X i ty)(hv:PE X value tv)(hs:swapsWith value (some (.Subscript o i pos')) pos.line X.env=pure false) :
  PS X (.Assign [.Subscript o i pos'] value pos) (pO td ty tv):=by
 intro ξ s σ H D I h;refine wpAny_Assign_Subscript (a5 (hv ξ s σ H _ I h) λr s1 ⟨v,H1,I1,rv,q1⟩=>a5 (ho ξ s1 σ H1 _ I1 q1) λu s2 ⟨x,H2,I2,rx,q2⟩=>a5 (hi ξ s2 σ H2 _ I2 q2) λiv s3 ω=>?_) hs;obtain⟨y,H3,I3,ry,a,H4,ex,g,q3⟩:=ω;subst ex;obtain rfl:u=R_ a:=rx;exact Ch hu I3 g ry rv λs4 I4=>⟨σ,H4,I4,q3⟩
end
def vQ(h:Heap) (hb:sysModules<h.objs.size):bB P w H (h.push {cls:=.type "dict",data:=.dict #[]}) h.objs.size (.dK []) :=
 ⟨SD _,beq_eq_false_iff_ne.mpr (UJ (Si hb)),[],.nil,Heap.DictOf.new h⟩
def FU(h:Heap) (hb:sysModules<h.objs.size):bB P w H (h.push {cls:=.type "dict",data:=.dict #[]}) h.objs.size (.dT []) :=
 ⟨SD _,beq_eq_false_iff_ne.mpr (UJ (Si hb)),[],.nil,_,#[],0,Sb _ rfl,⟨rfl,rfl,rfl⟩,rfl,rfl,Uu⟩
abbrev Gx:TE:=λ_ H Q=>∀p,H p=none->Q (.ref p) (upd H p (.dK []))
abbrev yZ:TE:=λ_ H Q=>∀p,H p=none->Q (.ref p) (upd H p (.dT []))
section
variable{X:Cx}{pos:Pos}
def E1:PE X (.Dict [] [] pos) Gx:=λξ s σ H Q I h =>
 wpAny_Dict_empty ⟨.ref s.heap.objs.size,_,I.laid (a:=s.heap.objs.size) (o:=.dK []) (t':=s.toks) (λ_ _ q=>Rv _ q) (RB _) (vQ s.heap I.big),rfl,h _ (I.hok.fresh (RB _))⟩
def EZ:PE X (.Dict [] [] pos) yZ:=λξ s σ H Q I h =>
 wpAny_Dict_empty ⟨.ref s.heap.objs.size,_,I.laid (a:=s.heap.objs.size) (o:=.dT []) (t':=s.toks) (λ_ _ q=>Rv _ q) (RB _) (FU s.heap I.big),rfl,h _ (I.hok.fresh (RB _))⟩
end
abbrev i_:List (TE×TE)->St->Hp->(List (V×V)->Hp->Prop)->Prop
 |[],_,H,Q=>Q [] H
 |(tk,tv) :: r,σ,H,Q=>tk σ H λx H1=>tv σ H1 λy H2=>i_ r σ H2 λps H3=>Q ((x,y) :: ps) H3
nonrec abbrev VV:List (V×V)->List (Rs×Rs)->Prop:=Paired λp q=>RelV p.1 q.1/\RelV p.2 q.2
abbrev OK(X:Cx)(pos:Pos)(keys:List (Option Expr))(values:List Expr)(trs:List (TE×TE)):Prop :=
 ∀(ξ:List (Addr×Obj)) (s:RC) (σ:St) (H:Hp) (Q:List (V×V)->Hp->Prop),Inv X ξ σ H s->i_ trs σ H Q ->
  wpAny (model X.prog X.w) X.A (evalPairs (pairTrees keys values X.env pos)) (λvs s'=>∃ps H',Inv X ξ σ H' s'/\VV ps vs/\Q ps H') X.xe s
def Jv:OK X pos [] [] []:=λξ s σ H Q I h=>pairTrees_nil_walk ⟨[],H,I,.nil,h⟩
def EW{vs:List Expr}{tk:TE}(hk:PE X k tk)(hv:PE X v tv)(hr:OK X pos ks vs trs) :
  OK X pos (some k :: ks) (v :: vs) ((tk,tv) :: trs):=λξ s σ H Q I h =>
 pairTrees_cons_walk (a5 (hk ξ s σ H _ I h) λu s1 ⟨x,H1,I1,rx,q1⟩=>a5 (hv ξ s1 σ H1 _ I1 q1) λw2 s2 ⟨y,H2,I2,ry,q2⟩ =>
  a5 (hr ξ s2 σ H2 _ I2 q2) (by rintro ws s3 ⟨ps,H3,I3,rel,q3⟩;exact ⟨(x,y) :: ps,H3,I3,.cons ⟨rx,ry⟩ rel,q3⟩))
abbrev dJ(de more:List (ba×V)):List (ba×V):=more.foldl (λacc kv=>b5 acc kv.1 kv.2) de
def KV.merge:∀{more:List (ba×V)} {rs:List (ba×Rs)} {de:List (ba×V)} {vs:List (ba×Rs)},KV more rs->KV de vs->KV (dJ de more) (merged vs rs):=by
 intro more rs de vs r;unfold KV at r
 induction r generalizing de vs with
 |nil=>intro q;exact q
 |@cons p q ps qs h t ih =>
  intro r0
  have e:KV (b5 de p.1 p.2) (stored vs q.1 q.2):=by
   have:=r0.put p.1 h.2
   rw[<- h.1];exact this
  exact ih e
def gC:∀(more de:List (ba×V)),(dJ de more).length<=de.length+more.length
 |[],de=>by show de.length<=de.length+0;lia
 |p :: r,de=>by
  have h1:=gC r (b5 de p.1 p.2);have h2:=b6 de p.1 p.2;show(dJ (b5 de p.1 p.2) r).length<=_;rw[Sn];lia
def lv{P:RM}{w:R4}:∀{de:List (ba×V)} {ws:List (Rs×Rs)},VV (de.map λkv=>(kV kv.1,kv.2)) ws->∃rs,Carries (bv P w) ws rs/\KV de rs
 |[],_,r=>by rw[XM] at r;cases r;exact⟨[],UB,.nil⟩
 |p :: de,_,r=>by
  rw[Sy] at r;cases r with
  |@cons a b as bs h t =>
   obtain⟨rs,c,q⟩:=lv (P:=P) (w:=w) t;obtain⟨b1,b2⟩:=b;exact⟨(p.1,b2) :: rs,⟨xf h.1,rfl,c⟩,.cons ⟨rfl,h.2⟩ q⟩
abbrev Ib(trs:List (TE×TE)):TE:=λσ H Q=>∀p,H p=none->i_ trs σ (upd H p (.dK [])) λps H2=>H2 p=some (.dK [])/\∃de:List (ba×V),ps=de.map (λkv=>(kV kv.1,kv.2))/\de.length<=15/\Q (.ref p) (upd H2 p (.dK (dJ [] de)))
def JF(h:OK X pos keys values trs)(hall:keys.all (·.isSome)=true)(hl:keys.length=values.length)(h0:keys≠[])
  (h15:keys.length<=15):PE X (.Dict keys values pos) (Ib trs):=by
 intro ξ s σ H Q I q;have hn:=I.hok.fresh (RB s.heap.objs.size);have I1:=I.laid (a:=s.heap.objs.size) (o:=.dK []) (h':=s.heap.push {cls:=.type "dict",data:=.dict #[]}) (t':=s.toks) (λ_ _ q=>Rv _ q) (RB _) (vQ s.heap I.big);refine wpAny_Dict_walk (knd:=bv X.prog X.w) hall hl h0 h15 (a5 (h ξ _ σ _ _ I1 (q _ hn)) λws s2 ω=>?_);obtain⟨ps,H2,I2,rel,e,de,ep,lk,q2⟩:=ω;subst ep;obtain⟨rs,c,rk⟩:=lv (P:=X.prog) (w:=X.w) rel;obtain⟨z,hd,vs0,r0,dd⟩:=KI I2.hok e;cases r0;refine⟨rs,c,dd,λh' dd' hs=>⟨.ref s.heap.objs.size,_,?_,rfl,q2⟩⟩
 have hz:(dJ [] de).length<=sizeLine:=by
  have h1:=gC de [];rw[VF] at h1;rw[UY];lia
 have he:∃q,h'.get? s.heap.objs.size=some q:=let ⟨q,_,_,hq,_⟩:=dd';⟨q,hq⟩
 exact tZ I2 (by rw[e];exact UB) hs he (He hz hd (rk.merge .nil) dd')
structure M1 (X:Cx) (o:Expr) (m:Str) (apos:Pos) (e:Expr) (cpos:Pos):Prop where
 base:attributeBase o m X.env (eval o X.env)=eval o X.env
 few:((backTo cpos (starEach [e] X.env)).all (λx=>!x.1) && (backToKw cpos (keywordEach [] X.env)).all (λx=>x.1.isSome)
  && decide (([e]:List Expr).length+([]:List Zbj).length+(if ([]:List Zbj).isEmpty then 0 else 1)<30))=true
 line:(apos.endLine == cpos.line)=true
 trees:backTo cpos (starEach [e] X.env)=[(false,eval e X.env)]
abbrev QU(H:Hp)(a:Addr):Prop:=(∃de,Rd H a (.dK de))\/∃de,Rd H a (.dT de)
def N2{H:Hp}(I:Inv X ξ σ H s)(d:QU H a) :
  s.TypeIs (.ref a) "dict"/\(∀b,R_ a=.ref b->∃ob,s.heap.get? b=some ob/\ob.dict=none)/\(a == sysModules)=false:=by
 rcases d with⟨de,e⟩|⟨de,e⟩
 .obtain⟨_,hd,vs,_,dd⟩:=tX I.hok e;refine⟨dd.typeIs,λb q=>?_,hd⟩;cases q;obtain⟨ob,_,_,h1,h2,_⟩:=dd;exact⟨ob,h1,h2.2.1⟩
 .obtain⟨_,hd,xs,_,dd⟩:=xo I.hok e;refine⟨dd.typeIs,λb q=>?_,hd⟩;cases q;obtain⟨ob,_,_,h1,h2,_⟩:=dd;exact⟨ob,h1,h2.2.1⟩
section
variable{X:Cx}{ξ:List (Addr×Obj)}{σ:St}{H:Hp}{s:RC}{a:Addr}{y d:V}{u r:Rs}{o:Option V}{A:SC}{E:Rs->RC->Prop}
def Og{Q:Rs->RC->Prop}(hu:A.units+1<cLine)(I:Inv X ξ σ H s)(g:DGet H a y o)(ry:RelV y u)(h:∀w' s',Inv X ξ σ H s'->RelV (o.getD .non) w'->Q w' s') :
  wpAny (model X.prog X.w) A (call (.builtin "dict.get") [.ref a,u]) Q E s:=by
 rcases g with⟨de,k,e,ey,l⟩|⟨de,k,b,e,ey,eb,l⟩
 .subst ey;obtain⟨z,hd,vs,rel,dd⟩:=tX I.hok e;refine call_meetsIn W4 dd.typeIs YQ (Yy _ _) (meets_dict_get (bv X.prog X.w) a (xf ry) hd) ⟨_,dd.mapOf,h _ _ (I.tok _) ?_⟩;rw[l];exact(rel.val k).getD rfl
 .subst ey;cases (show u=R_ b from ry);obtain⟨z,hd,xs,rel,dd⟩:=xo I.hok e;refine call_meetsIn W4 dd.typeIs YQ (Yy _ _) (meetsH_dict_get (tupleKind (bv X.prog X.w)) a b hd) ⟨Wz hu,k,xs,qG I.hok eb,dd,h _ _ (I.tok _) ?_⟩;rw[l];exact(rel.val k).getD rfl
end
abbrev y6(td ty:TE):TE:=λσ H Q=>td σ H λx H1=>∃a,x=.ref a/\QU H1 a/\ty σ H1 λy H2=>∃o,DGet H2 a y o/\Q (o.getD .non) H2
section
variable{X:Cx}{o e f:Expr}{apos cpos:Pos}{td ty tx:TE}
def E2(hu:X.A.units+1<cLine) (ho:PE X o td) (he:PE X e ty) (m:M1 X o "get" apos e cpos):PE X (.Call (.Attribute o "get" apos) [e] [] cpos) (y6 td ty):=by
 intro ξ s σ H Q I h;refine wpAny_Call_method m.base m.few m.line PySem.F.plainAttrs_dict W4 PySem.F.type_dict_get (a5 (ho ξ s σ H _ I h) λu s1 ω=>?_);obtain⟨x,H1,I1,rx,a,ex,d,q1⟩:=ω;subst ex;obtain rfl:u=R_ a:=rx;obtain⟨t1,t2,_⟩:=N2 I1 d;refine⟨t1,t2,?_⟩;rw[m.trees];refine WQ rfl (Xq (U1 (a5 (he ξ s1 σ H1 _ I1 q1) λiv s2 ⟨y,H2,I2,ry,ov,g,q2⟩=>Ve ?_)));exact Og hu I2 g ry λw' s3 I3 rw'=>⟨_,H2,I3,rw',q2⟩
end
section
variable{X:Cx}
def Cv:fF X (.builtin "len") (λxs H Q=>∃a de,xs=[V.ref a]/\H a=some (.dK de)/\Q (.int de.length) H):=by
 intro ξ s σ H xs us Q I r h;obtain⟨a,de,rfl,ha,q⟩:=h;obtain⟨u,rfl,ru⟩:=vals1 r;cases ru;exact QG I (.inl ha) λt s' I'=>⟨.int de.length,H,I',⟨t,rfl⟩,q⟩
end
open PySem PySem.W
abbrev Q3(K:Frag):List Str->Prop
 |[]=>True
 |n :: r=>nsIn K mainGlobals n=some none/\Q3 K r
abbrev K_(K:Frag):List (Str×Addr×VJ)->Prop
 |[]=>True
 |(n,q,d) :: r=>(nsIn K mainGlobals n=some (⇑q)/\typeIn K (.ref q)=some (.type "type")/\clsIn K q=some d)/\K_ K r
abbrev K6 (K:Frag) (q:Addr):Prop:=findIn K (.ref q) "__getattribute__"=some (some (.builtin "BaseException.__getattribute__"))/\findIn K (.ref q) "__getattr__"=some none/\findIn K (.ref q) "__class__"=some (some (.builtin "object.__class__"))
abbrev OG(K:Frag)(V:Addr):List (Addr×VJ)->Prop
 |[]=>True
 |(q,d) :: r=>(excIn K q [.type "ValueError",.type "Exception",.type "BaseException",.type "object"] "ValueError.__new__"=true/\d.mro=[.ref q,.ref V,.type "ValueError",.type "Exception",.type "BaseException",.type "object"]/\K6 K q)/\OG K V r
end L2
namespace K91H
open PySem PySem.Spec PyProof.Rows L2
abbrev top(i:Nat):Stmt:=PW91.main.body.getD i (.Pass ⟨0,0,0,0⟩)
abbrev ini(i:Nat):Stmt:=match top i with
 |.ClassDef _ _ _ b _ _ _ _ _ _ _=>b.getD 0 (.Pass ⟨0,0,0,0⟩)
 |_=>.Pass ⟨0,0,0,0⟩
abbrev spLaw(K:Fg):Sp:=λvs H Q _=>∃(a:Addr) (ns:List Int),vs=[.ref a]/\SqL K H a (ns.map V.int)/\ns.length<=63/\∀H',Q (.bl true) H'
abbrev K7(K:Fg)(n:Str)(st:Stmt):Prop:=∃(f:Addr) (od an:Option Addr) (sl:Array (Option Rs)) (oc kV dc pm cd ct:Rs),V4 K mainGlobals n=some (⇑f)/\K.lookup f=some ⟨oc,od,.func (Uq n n (cM st) (bK st) (ak st) .none kV dc pm an cd ct),sl⟩/\Vu K cd n=true/\UG K (.ref f)=true
def fnIn{K:Fg}{st:Stmt}{od:Option Addr}{sl:Array (Option Rs)}{oc kV:Rs}(a:V4 K mainGlobals n=some (⇑f))(l:K.lookup f=some ⟨oc,od,.func (Uq n n (cM st) (bK st) (ak st) .none kV dc pm an cd ct),sl⟩)(c:Vu K cd n=true)(k:UG K (.ref f)=true):K7 K n st:=⟨f,od,an,sl,oc,kV,dc,pm,cd,ct,a,l,c,k⟩
local macro_rules | `(tactic| fail "f")=>`(tactic| (refine' fnIn ?a ?l ?c ?k;(case a=>k_is);(case l=>k_is);(case c=>k_is);(case k=>k_is)))
abbrev CO(K:Fg):List (Str×Nat)->Prop
 |[]=>True
 |(n,i) :: r=>K7 K n (top i)/\CO K r
local macro_rules | `(tactic| walk_at "all")=>`(tactic| repeat' first|exact trivial|(refine And.intro ?_ ?_)|k_is|k_exc|fail "f"|exact rfl|decide)
def walk{l:Zbb}{XP:(Str->Option Rs)->Heap->Prop}{YP:R4->Heap->Prop}{d:DefRec}{K:Params->Z9}(hn:l.most=some 63)(hdf:d.params.defaults=[])
  (hY:∀(w:R4) (h:Heap),YP w h->(K w.params).In h)
  (F:∀(w:R4) (mg:Str->Option Rs) (fa:Addr) (h:Heap),(K w.params).In h->h.Ns mainGlobals mg->mg d.name=⇑fa ->
   ∃fd:UR,(∀(s:RC) (u:Rs),Zah s fd ⟨[u],[]⟩ [("_law_script",u)])/\∀base:Heap,(K w.params).In base->base.Ns mainGlobals mg->FnOk l.prog w (K w.params) mg base bh 12 fa fd ["_law_script"] (spLaw (K w.params))) :
  ZD q loose XP YP l.row.toRowW d [] (λf vs=>ZT f vs) :=
 L2.HE (n:=63) (k:=12) (x:="_law_script") (CX:=λ_=>bh) (sp:=λw=>spLaw (K w.params)) hn (by decide) hdf ⟨rfl,by decide,by decide⟩ hY F (λ_ _ a ns hl _ hS=>⟨a,ns,rfl,hS,hl,λ_=>rfl⟩) λ_ _ _ _ _ z=>z
open PySem.W in
def headed(hW:∀{w:R4} {K:Fg} {h:Heap} {mg:Str->Option Rs} {fa:Addr} (X:K.In h) (G:h.Ns mainGlobals mg) (hfa:mg "law"=⇑fa)
  (P0:CO K [("whole",17),("greatest_divisor",18),("fraction",20),("plus",21),("times",22),("first_place",24),("unit_row",25),("unit_rows",26),("common_divisor",27),("lowest",28),("cleared",29),("sifted",30),("nought_makers",31),("heaps_of",34),("heaps",35),("turning_at",36),("heap_numbers",38),("places_of",39),("lots",40),("check_heap",41)]) (P20:CO K [("road",42),("first_astray",43),("lot_marks",45),("lack_rows",46),("taken_out",48),("split",49),("place_with_divisor",50),("apart",51),("raised",52),("multiplied",53),("turnings_from",56),("picks",57),("is_tree",58),("pace_product",59),("tree_weight",60),("tree_weights",61),("falling",64),("can_be_made",65),("count_behind",66),("walked",67)]) (P40:CO K [("weight_powers",71),("even",72),("even_weights",73),("heaps_come_to",74),("gain_between",75),("gain",76),("shares",77),("_law_cell_at",79),("_law_mixed",80),("_law_divisor",81),("_law_lowest",82),("_law_words",83),("_law_heap",84),("_law_pool",85),("_law_pairs",86),("_law_pace",87),("_law_vessel",88),("_law_times",92),("_law_even_vessel",93),("_law_zero_lack",94)]) (P60:CO K [("_law_balanced",95),("_law_count",96),("_law_can",97),("_law_behind",98),("_law_whole",99),("_law_kinds",100),("_law_caught",101),("_law_due",102),("_law_as_due",103),("law",104)]) (Z:Q3 K ["len","abs","range","isinstance","int","bool","tuple","list","str","zip","set","all","any","min","max","sum","sorted","enumerate","reversed","dict","ord","divmod"])
  {V q0 q1 q2 q3 q4 q5 q6 q7 q8 q9 q10 q11 q12 q13:Addr} {qd0 qd1 qd2 qd3 qd4 qd5 qd6 qd7 qd8 qd9 qd10 qd11 qd12 qd13:VJ} {qdV:VJ} {fi7 Ni7:Addr} {nmi7 qni7:Str} {bsi7 tli7 sui7:List Rs} {hdi7 abi7:Bool} {sni7:List Str} {coi7:Option Bool} {ddi7 odi7 ani7:Option Addr} {kai7 kbi7 kci7 kdi7 kei7:Option Rs} {oci7 kVi7 dci7 pmi7 cdi7 cti7:Rs} {sli7:Array (Option Rs)} {tn0 tn1 to0 to1:Tok} {nq oq:Addr} {nqd oqd:Option Addr} {nqn oqn:Nat} {nqs oqs:Array (Option Rs)}
  (aV:V4 K mainGlobals "VesselError"=some (⇑V))
  (xV:Wo K V [.type "ValueError",.type "Exception",.type "BaseException",.type "object"] "ValueError.__new__"=true)
  (zVE:V4 K mainGlobals "ValueError"=some none)
  (gt:Yd K (.builtin "object.__class__") "__get__"=some (some (.builtin "getset_descriptor.__get__")))
  (tk:Zba K (.builtin "object.__class__")=some true)
  (sgV:Yd K (.ref V) "__getattribute__"=some (some (.builtin "type.__getattribute__")))
  (rdV:PySem.W.readsIn K V (.type "type")=true)
  (fcV:PySem.W.findCls K (.ref V) (.type "type") "__init__"=some (.val (.builtin "ValueError.__init__")))
  (dV:ZbE K V=some qdV)
  (mV:qdV.mro=[.ref V]++[.type "ValueError",.type "Exception",.type "BaseException",.type "object"])
  (cs:K_ K [("NoFraction",q0,qd0),("NoStuffs",q1,qd1),("NoHeap",q2,qd2),("NoPace",q3,qd3),("NoTurnings",q4,qd4),("NoTurning",q5,qd5),("NoText",q6,qd6),("NotNow",q7,qd7),("TooMany",q8,qd8),("NoDrain",q9,qd9),("NotEven",q10,qd10),("NoStuff",q11,qd11),("NoPieces",q12,qd12),("NoDeed",q13,qd13)])
  (nd:[V,q0,q1,q2,q3,q4,q5,q6,q7,q8,q9,q10,q11,q12,q13].Nodup)
  (rs:OG K V [(q5,qd5),(q10,qd10)])
  (L7:K.lookup q7=some (excClassObj nmi7 qni7 q7 Ni7 bsi7 tli7 hdi7 sni7 sui7 abi7 coi7 ddi7 kai7 kbi7 kci7 kdi7 kei7 "ValueError.__new__"))
  (ni7:Vt K (.ref q7) "__init__"=some (⇑fi7))
  (fn7:PySem.W.isFn K (.ref fi7)=true)
  (kq7:UG K (.ref q7)=true)
  (lf7:K.lookup fi7=some ⟨oci7,odi7,.func (Uq "__init__" "NotNow.__init__" (cM (ini 9)) (bK (ini 9)) (ak (ini 9)) .none kVi7 dci7 pmi7 ani7 cdi7 cti7),sli7⟩)
  (cf7:Vu K cdi7 "NotNow.__init__"=true)
  (kf7:UG K (.ref fi7)=true)
  (sa7:Vt K (.ref q7) "__setattr__"=some (some (.builtin "object.__setattr__")))
  (nf7:Vt K (.ref q7) "at"=some none)
  (hd7:Zac K q7=true)
  (mr7:qd7.mro=[.ref q7,.ref V,.type "ValueError",.type "Exception",.type "BaseException",.type "object"])
  (fd7:K6 K q7)
  (hcnN:V4 K mainGlobals "NOUGHT"=some (⇑nq))
  (hcnL:K.lookup nq=some ⟨.type "tuple",nqd,.seq #[.int 0 tn0,.int 1 tn1] nqn,nqs⟩)
  (hcnO:V4 K mainGlobals "ONE"=some (⇑oq))
  (hcnM:K.lookup oq=some ⟨.type "tuple",oqd,.seq #[.int 1 to0,.int 1 to1] oqn,oqs⟩)
  ,∃fd:UR,(∀(s:RC) (v:Rs),Zah s fd ⟨[v],[]⟩ [("_law_script",v)])/\∀base:Heap,K.In base->base.Ns mainGlobals mg->FnOk PySem.Challenge.rw_vesselhall_k91_not_even_not_now.prog w K mg base bh 12 fa fd ["_law_script"] (spLaw K)):PySem.Challenge.rw_vesselhall_k91_not_even_not_now.Holds:=by
 refine said ?_
 w_on
 refine ZR (q:=qv) (loose:=[]) (Xt:=λs=>WN qv [] s && Wj [] s) (XP:=Zbl qv []) (Yf:=ZaI (Xl pre.heap_1 asl asl_ok)) (Ya:=ZaJ (Xl pre.heap_1 asl asl_ok)) (YP:=Zaa (Xl pre.heap_1 asl asl_ok)) (N:=11544) hooks (Za_ (Xl pre.heap_1 asl asl_ok)) (ZS (Xl pre.heap_1 asl asl_ok)) (λs e=>ZbC s (VS.mp e).1) ZaK (by rfl) (by rfl) (by rfl) (λs e=>Zv (VS.mp e).2) (by rfl) (by first|assumption|decide +kernel) (by decide +kernel) ⟨rfl,rfl,rfl,rfl,rfl,by decide +kernel⟩ ?_ ?_
 .clear hW;w_witness2
 k_fill
 refine walk (l:=PySem.Challenge.rw_vesselhall_k91_not_even_not_now) rfl rfl (λw h Y=>PySem.W.kIn_of Y) ?F
 case F =>
  intro w mg fa h KX G hmg;refine' hW KX G hmg ?_ ?_ ?_ ?_ ?_ ?_ ?_ ?_ ?_ ?_ ?_ ?_ ?_ ?_ ?_ ?_ ?_ ?_ ?_ ?_ ?_ ?_ ?_ ?_ ?_ ?_ ?_ ?_ ?_ ?_ ?_ ?_ ?_ ?_
  all_goals try walk_at "all"
end K91H
namespace L2
open PySem PySem.Spec PyProof.Rows
section
variable{X:Cx}{a b c:Expr}{ta tb tc:TE}{pos:Pos}
abbrev OW(_ j:Int):Prop:=j≠0/\j.natAbs<2 ^ 9000
def E8:fu X (binaryOp .FloorDiv) (rI OW λi j=>.int (i.fdiv j)):=GQ λi j _ _ _ _ _ hc q=>by
 have h0:j.natAbs≠0:=by have:=hc.1;lia
 exact Zab hc.1 q (.inl (PyProof.noPylong_of_log2 ((Ye h0).mpr hc.2)))
abbrev uq(i j:Int):Prop:=i.natAbs<2 ^ 20000/\j.natAbs<2 ^ 20000
def uq.ok(h:uq i j):IntMulOk i j:=by
 have h1:=Yz h.1;have h2:=Yz h.2;unfold IntMulOk
 have e:Y6 ((Zx i:Int)+(Zx j:Int))=false:=by
  unfold Y6;refine decide_eq_false ?_
  have:(40000:Int)<=bitsLine:=by decide
  lia
 intro q;rw[e] at q;simp at q
def JN:fu X (binaryOp .Mult) (rI uq λi j=>.int (i*j)):=GQ λ_ _ _ _ _ _ _ hc q=>mul_int q hc.ok
def FZ:fF X (.builtin "isinstance") (λxs H Q=>∃x n t b,xs=[x,.ty n]/\TyOf X.K H x t/\WO X.K t (.type n)=some b/\Q (.bl b) H):=by
 intro ξ s σ H xs us Q I r h;obtain⟨x,n,t,b,rfl,ty,e,q⟩:=h;obtain⟨u,u',rfl,rx,ry⟩:=vals2 r;obtain rfl:u'=Wv n:=ry;exact Bw I rx ty e λtk=>⟨.bl b,H,I.tok tk,rfl,q⟩
end
structure FnC (P:RM) (w:R4) (K:Fg) (mg:Str->Option Rs) (base:Heap) (CX:kI) (k:Nat) (x:Str) (ps:List Str) (sp:Sp):Prop where
 ex:∃(f:Addr) (fd:UR),FnOk P w K mg base CX k f fd ps sp/\mg x=⇑f/\UG K (.ref f)=true/\Binds K fd ps []
structure aI (K:Fg) (mg:Str->Option Rs) (x:Str) (st:Stmt) (ps:List Str):Prop where
 ex:∃(f:Addr) (fd:UR),Fun K x x st f fd/\mg x=⇑f/\Binds K fd ps []
section
variable{P:RM}{w:R4}{K:Fg}{mg:Str->Option Rs}{base:Heap}{CX:kI}
def FL{st:Stmt}{ps:List Str}{oc:Rs}{od:Option Addr}{osl:Array (Option Rs)}{kV:Rs}(X:K.In h)(G:h.Ns mainGlobals mg)
  (a:V4 K mainGlobals x=some (⇑f)) (l:K.lookup f=some ⟨oc,od,.func (Uq x x (cM st) (bK st) (ak st) .none kV doc pm an cdv ct),osl⟩)
  (c:Vu K cdv x=true) (k:UG K (.ref f)=true)
  (hb:∀(kV doc pm:Rs) (an:Option Addr) (cdv ct:Rs) (us:List Rs),us.length=ps.length->bindArgs (Uq x x (cM st) (bK st) (ak st) .none kV doc pm an cdv ct) ⟨us,[]⟩=pure (ps.zip us)) :
  aI K mg x st ps:=by
 have F:=vI (K:=K) (x:=x) (qual:=x) (st:=st) l c k;exact⟨f,_,F,SB X G a,F.binds hb⟩
def FnC.mono{k:Nat}(F:FnC P w K mg base CX j x ps sp)(h:j<=k):FnC P w K mg base CX k x ps sp :=
 let ⟨f,fd,G,r⟩:=F.ex
 ⟨f,fd,G.mono h,r⟩
def FnC.imp{sp':Sp}(F:FnC P w K mg base CX k x ps sp)(h:∀vs H Q E,sp' vs H Q E->sp vs H Q E):FnC P w K mg base CX k x ps sp' :=
 let ⟨f,fd,G,r⟩:=F.ex
 ⟨f,fd,G.imp h,r⟩
def aI.ok{st:Stmt}{sp:Sp}(F:aI K mg x st ps)(S:ar N ps (ak st))(len:∀vs H Q E,sp vs H Q E->vs.length=ps.length)
  (hbody:∀(f:Addr) (cdv:Rs) (A:SC) (outer:List Env) (s:RC) (H:Hp) (vs:List V) (Q:VK) (E:XK),Room k (A.deeper (envOfC x (ak st) s.heap.objs.size f cdv))->sp vs H Q E ->
   ∃t,PSs (dg bh P w K mg base N x (ak st) f cdv A outer s H E).nox (bK st) t/\t {nx:=λ_ H'=>Q .non H',rt:=Q} (start N vs) H):FnC P w K mg base bh (k+1) x ps sp:=by
 obtain⟨f,fd,G,hm,hb⟩:=F.ex;exact⟨f,fd,G.ok S len (hbody f),hm,G.kp,hb⟩
end
section
variable{X:Cx}{CX:kI}{k:Nat}{ps:List Str}{sp:Sp}{E:XK}{x:Str}{p pos:Pos}{e:Expr}{es:List Expr}{t:TA}
def gu(F:FnC X.prog X.w X.K X.mg X.base CX k x ps sp)(hr:Room k X.A)(hg:Gl X x)(hx:jZ CX X E)(ha:PA X (e :: es) t)
  (hdb:(x == ("__debug__":Str))=false:=by decide) (he:starEach (e :: es) X.env=(false,eval e X.env) :: starEach es X.env:=by rfl) (hpl:(backTo pos (starEach es X.env)).any (·.1)=false:=by rfl) :
  PE X (.Call (.Name x p) (e :: es) [] pos) (aw sp [] E t):=by
 obtain⟨f,fd,G,hm,kp,hb⟩:=F.ex;exact JI G hr hg hm kp hb .nil hx ha hdb he hpl
def fe(F:FnC X.prog X.w X.K X.mg X.base bh k x ps sp)(hr:Room k X.A)(hg:Gl X x)(ha:PA X (e :: es) t)
  (hdb:(x == ("__debug__":Str))=false:=by decide) (he:starEach (e :: es) X.env=(false,eval e X.env) :: starEach es X.env:=by rfl) (hpl:(backTo pos (starEach es X.env)).any (·.1)=false:=by rfl) :
  PE X (.Call (.Name x p) (e :: es) [] pos) (aw sp [] E0 t):=gu F hr hg Pt ha hdb he hpl
end
def aj{H:Hp}(h:H p=none)(o:HO):Same H (upd H p o):=λb u q=>by rw[aC (au q h)];exact q
def Same.seqT{K:Fg}(e:Same H H')(h:SqT K H a xs):SqT K H' a xs:=by
 rcases h with(h|⟨o,h⟩)|h
 .exact .inl (.inl (e _ _ h))
 .exact .inl (.inr ⟨o,e _ _ h⟩)
 .exact .inr h
structure bF (mg:Str->Option Rs):Prop where
 len:mg "len"=none
 abs:mg "abs"=none
 range:mg "range"=none
 isinstance:mg "isinstance"=none
 int:mg "int"=none
 bool:mg "bool"=none
 tuple:mg "tuple"=none
 list:mg "list"=none
 str:mg "str"=none
 zip:mg "zip"=none
 set:mg "set"=none
 all:mg "all"=none
 any:mg "any"=none
 min:mg "min"=none
 max:mg "max"=none
 sum:mg "sum"=none
 sorted:mg "sorted"=none
 enumerate:mg "enumerate"=none
 reversed:mg "reversed"=none
 dict:mg "dict"=none
 ord:mg "ord"=none
 divmod:mg "divmod"=none
def Ho:bootBuiltins "len"=some (.builtin "len"):=by decide +kernel
def Ox:bootBuiltins "abs"=some (.builtin "abs"):=by decide +kernel
def oQ:bootBuiltins "isinstance"=some (.builtin "isinstance"):=by decide +kernel
def Hq:bootBuiltins "int"=some (.type "int"):=by decide +kernel
def KP:bootBuiltins "bool"=some (.type "bool"):=by decide +kernel
def vU:bootBuiltins "tuple"=some (.type "tuple"):=by decide +kernel
def CC:bootBuiltins "list"=some (.type "list"):=by decide +kernel
def oR:bootBuiltins "ValueError"=some (.type "ValueError"):=by decide +kernel
def NY{y z:Int}{A B:Prop}(h1:y≠z->A)(h2:y=z->B):if (!decide (V.int y=V.int z))=true then A else B:=by
 by_cases h:y=z
 .subst h;rw[decide_eq_true rfl];exact tN (h2 rfl)
 .rw[decide_eq_false (λq=>h (V.int.inj q))];exact tM (h1 h)
def NZ[Decidable c]{A B:Prop}(h1:c->A)(h2 : ¬ c->B):if decide c=true then A else B:=by
 by_cases h:c
 .rw[decide_eq_true h];exact tM (h1 h)
 .rw[decide_eq_false h];exact tN (h2 h)
nonrec abbrev aW:R2:=s_ λi j=>.int (i+j)
nonrec abbrev g6:R2:=s_ λi j=>.int (i-j)
nonrec abbrev eG:R2:=rI uq λi j=>.int (i*j)
nonrec abbrev bV:R2:=rI Lb λi j=>.int (i / j)
nonrec abbrev EO:R2:=rI OW λi j=>.int (i.fdiv j)
nonrec abbrev aQ:R2:=rI (λ_ j=>0<j) λi j=>.int (i % j)
nonrec abbrev Jk:R2:=rI (λ_ j=>j≠0) λi j=>.int (i.fmod j)
nonrec abbrev EL:R2:=rI OU λi j=>.int (i ^ j.toNat)
nonrec abbrev xE:R2:=s_ λi j=>.bl (decide (i<j))
nonrec abbrev Ph:R2:=s_ λi j=>.bl (decide (i<=j))
nonrec abbrev EN:R2:=s_ λi j=>.bl (decide (j<i))
nonrec abbrev Q9:R2:=s_ λi j=>.bl (decide (j<=i))
nonrec abbrev mY:R2:=λx y H Q=>y=.non/\Q (.bl (decide (x=.non))) H
nonrec abbrev Mf:R2:=λx y H Q=>y=.non/\Q (.bl (!decide (x=.non))) H
nonrec abbrev Jp:R2:=λx y H Q=>∃i j,x=.str i/\y=.str j/\i.length+j.length<=sizeLine/\Q (.str (i++j)) H
nonrec abbrev Mi:List V->Hp->VK->Prop:=λxs H Q=>∃i,xs=[.int i]/\Q (.int (if i<0 then -i else i)) H
nonrec abbrev bZ(K:Fg):List V->Hp->VK->Prop:=λxs H Q=>∃p ys,xs=[.ref p]/\(SqL K H p ys\/SqT K H p ys)/\Q (.int ys.length) H
nonrec abbrev Mh(K:Fg):List V->Hp->VK->Prop:=λxs H Q=>∃x n t b,xs=[x,.ty n]/\TyOf K H x t/\WO K t (.type n)=some b/\Q (.bl b) H
nonrec abbrev Jn:List V->Hp->VK->Prop:=λxs H Q=>(∃i,xs=[.int i]/\Q (.int i) H)\/∃k,xs=[.bl k]/\Q (.int (if k then 1 else 0)) H
nonrec abbrev cE(K:Fg):List V->Hp->VK->Prop:=λxs H Q=>∃p ys,xs=[.ref p]/\((SqL K H p ys/\∀l,H l=none->Q (.ref l) (upd H l (.tup ys)))\/(SqT K H p ys/\Q (.ref p) H))
nonrec abbrev eI(K:Fg):List V->Hp->VK->Prop:=λxs H Q=>∃p ys,xs=[.ref p]/\(SqL K H p ys\/SqT K H p ys)/\∀l,H l=none->Q (.ref l) (upd H l (.lst ys))
def Nh{K:Fg}:WO K (.type "int") (.type "int")=some true:=by rfl
def Ni{K:Fg}:WO K (.type "int") (.type "bool")=some false:=by
 show Zbr K (.type "int") (.type "bool")=some false;unfold Zbr
 kernel_rfl
abbrev Go(φ:Obj->Prop)(e:Addr)(h:Heap):Prop:=∃o,h.get? e=some o/\φ o
abbrev K3(φ:Obj->Prop):Prop:=∀o f,φ o->φ (SU f o)
section
variable{M:Model}{A:SC}{E:Rs->RC->Prop}{s:RC}{φ:Obj->Prop}{base:Heap}{env:Env}{outer:List Env}{L e:Addr}{cls a0:Rs}{Q:Unit->RC->Prop}
def k8{oe:Obj}{vs:Array Rs}(hfr:A.frames=some (env :: outer))(hl:s.heap.FunFrames base (env :: outer))(hf:env.frame=some L)(he:s.heap.get? e=some oe)(hd:oe.data=.fields vs)(hsz:1<vs.size)
  (k:∀(h1:Heap) (ot:Obj) (ts:Array Rs),Zbs ((env :: outer).filterMap (·.frame)) s.heap h1->h1.get? e=some oe->ot.data=.fields ts->ts[3]?=some (rawInt L)->Q () {s with heap:=(h1.push ot).update e (SU (·.setIfInBounds 1 (.ref h1.objs.size)))}) :
  wpAny M A (do setField (.ref e) 1 (<- Zy head (<- frameOf env) .none (rawInt L) .none (<- entryPlaceOf L more))) Q E s:=by
 have ne:e∉(env :: outer).filterMap (·.frame):=λhm=>by
  obtain⟨_,o,ho,z⟩:=hl.mem hm;cases he.symm.trans ho;exact z vs hd
 refine Ro (wpAny_frameOf_fun hfr hl hf λh1 S=>Ro (wpAny_entryPlaceOf λpl P=>?_));have e1:h1.get? e=some oe:=(S.2.1 e ne).trans he;unfold Zy newFields;refine Ro (TK (Uv (Rv _ e1) hd hsz (k h1 _ _ S e1 rfl ?_)) (P.sizeOk5 _ _ _ _ _));rcases P with rfl|⟨_,_,_,_,_,_,_,rfl⟩ <;> simp
def jT{oe:Obj}{vs:Array Rs}{h:Heap}{ot:Obj}(nf:K3 φ)(p:φ oe)(hl:h.FunFrames base (env :: outer))(he:h.get? e=some oe)(hkb:base.StaysIn h)(hen:base.get? e=none)(hd:oe.data=.fields vs)(hsz:1<vs.size)(h0:vs[0]?=some a0)
  (S:Zbs ((env :: outer).filterMap (·.frame)) h h1) (e1:h1.get? e=some oe) (dt:ot.data=.fields ts) (t3:ts[3]?=some (rawInt L)) :
  Za3 base (env :: outer) e oe.cls a0 (rawInt L) h ((h1.push ot).update e (SU (·.setIfInBounds 1 (.ref h1.objs.size))))/\Go φ e ((h1.push ot).update e (SU (·.setIfInBounds 1 (.ref h1.objs.size)))):=by
 have Te:h1.objs.size≠e:=UD (RV e1);have d3:=Tz hd (·.setIfInBounds 1 (R_ h1.objs.size));have e3:=SQ (SU (·.setIfInBounds 1 (R_ h1.objs.size))) (Rv ot e1) (Uj d3);have keep:∀b o,b≠e->h1.get? b=some o->((h1.push ot).update e (SU (·.setIfInBounds 1 (.ref h1.objs.size)))).get? b=some o:=λb o n q=>(Uc _ _ (UJ n)).trans (Rv _ q)
 have nr:∀b o,h.get? b=some o->(∀us,o.data≠.fields us)->b≠e:=λb o q z w=>by
  subst w;cases he.symm.trans q;exact z vs hd
 have kb1:base.StaysIn h1:=λb o q=>(S.2.1 b λhm=>by rw[(hl.mem hm).1] at q;cases q).trans (hkb b o q)
 refine⟨⟨λb o q=>keep b o (λz=>by rw[z,hen] at q;cases q) (kb1 b o q),hl.of_keeps λb o q z=>?_,?_,λb o q z=>?_⟩,⟨_,e3,nf _ _ p⟩⟩
 .obtain⟨sl,w⟩:=S.2.2 b o q;exact⟨_,keep b _ (nr b o q z) w,rfl⟩
 .refine⟨_,_,h1.objs.size,ot,ts,e3,⟨VO _ _,?_⟩,d3,by simp[hsz],kb1.fresh,Te,(Uc _ _ (UJ Te)).trans (Sb h1 (Uj dt)),dt,t3⟩;rw[W2 (by decide)];exact h0
 .obtain⟨sl,w⟩:=S.2.2 b o q;exact⟨sl,keep b _ (nr b o q z) w⟩
def wT{oe:Obj}{vs:Array Rs}(nf:K3 φ)(p:φ oe)(hfr:A.frames=some (env :: outer))(hl:s.heap.FunFrames base (env :: outer))(hf:env.frame=some L)(he:s.heap.get? e=some oe)(hkb:base.StaysIn s.heap)(hen:base.get? e=none)(hd:oe.data=.fields vs)(h1:vs[1]?=some .none)(h0:vs[0]?=some a0)
  (k:∀h',Za3 base (env :: outer) e oe.cls a0 (rawInt L) s.heap h'->Go φ e h'->Q () {s with heap:=h'}):wpAny M A (noteFrame (.ref e) env) Q E s:=by
 have hsz:=(TY.mp h1).1;unfold noteFrame;simp only[hf];refine Ro (Vf he hd h1 ?_);rw[if_neg (by decide)];exact k8 hfr hl hf he hd hsz λg1 ot ts S e1 dt t3=>(jT nf p hl he hkb hen hd hsz h0 S e1 dt t3).elim (k _)
def qp(nf:K3 φ)(p:Go φ e s.heap)(hfr:A.frames=some (env :: outer))(hl:s.heap.FunFrames base (env :: outer))(hf:env.frame=some L)(ht:s.heap.TracedW base e cls a0)(hkb:base.StaysIn s.heap)(hen:base.get? e=none)
  (k:∀h',Za3 base (env :: outer) e cls a0 (rawInt L) s.heap h'->Go φ e h'->Q () {s with heap:=h'}):wpAny M A (noteFrame (.ref e) env) Q E s:=by
 obtain⟨oe,vs,T,oT,ts,he,⟨rfl,h0⟩,hd,h1,nT,Te,hT,dT,h3⟩:=ht;obtain⟨o',q',p⟩:=p;cases he.symm.trans q';have hsz:=(TY.mp h1).1;unfold noteFrame;simp only[hf];refine Ro (Vf he hd h1 ?_);rw[if_pos (by simp)];refine Ro (Vf hT dT h3 ?_);rw[if_neg (by simp[rawInt])];refine Ro (Uv hT dT (TY.mp h3).1 ?_);have other:∀b,b≠T->(s.heap.update T (SU (·.setIfInBounds 3 Tx))).get? b=s.heap.get? b:=λb n=>Uc _ _ (UJ n)
 have nr:∀b o,s.heap.get? b=some o->(∀us,o.data≠.fields us)->b≠T:=λb o q z w=>by
  subst w;cases hT.symm.trans q;exact z ts dT
 have hl2:Heap.FunFrames (s.heap.update T (SU (·.setIfInBounds 3 Tx))) base (env :: outer):=hl.of_keeps λb o q z=>⟨o,(other b (nr b o q z)).trans q,rfl⟩
 have he2:=(other e (UJ Te)).trans he;have kb2:base.StaysIn (s.heap.update T (SU (·.setIfInBounds 3 Tx))):=λb o q=>(other b λz=>by rw[z,nT] at q;cases q).trans (hkb b o q)
 refine k8 (s:={s with heap:=s.heap.update T (SU (·.setIfInBounds 3 Tx))}) hfr hl2 hf he2 hd hsz λg1 ot us S e1 dt t3=>?_
 obtain⟨⟨x1,x2,x3,x4⟩,x5⟩:=jT nf p hl2 he2 kb2 hen hd hsz h0 S e1 dt t3;exact k _ ⟨x1,x2,x3,λb o q z=>x4 b o ((other b (nr b o q z)).trans q) z⟩ x5
def dA{fl:Rs}(p:Go φ e s.heap)(hkb:base.StaysIn s.heap)(hl:s.heap.FunFrames base l)(ht:s.heap.TracedAtW base e cls a0 fl)
  (k:∀h',base.StaysIn h'->h'.FunFrames base l->h'.TracedW base e cls a0->s.heap.UpToSlots h'->Go φ e h'->Q () {s with heap:=h'}):wpAny M A (setFlight (.ref e) none) Q E s:=by
 obtain⟨oe,vs,T,oT,ts,he,hc,hd,h1,nT,Te,hT,dT,h3⟩:=ht;obtain⟨o',q',p⟩:=p;cases he.symm.trans q';have hsz:=(TY.mp h3).1;have other:∀b,b≠T->(s.heap.update T (SU (·.setIfInBounds 3 ((none:Option Addr).elim Tx λf=>rawInt f)))).get? b=s.heap.get? b:=λb n=>Uc _ _ (UJ n)
 have nr:∀b o,s.heap.get? b=some o->(∀us,o.data≠.fields us)->b≠T:=λb o q z w=>by
  subst w;cases hT.symm.trans q;exact z ts dT
 unfold setFlight;refine Ro (Vf he hd h1 ?_);rw[if_pos (by simp)];refine Uv hT dT hsz (k _ (λb o q=>(other b λz=>by rw[z,nT] at q;cases q).trans (hkb b o q)) (hl.of_keeps λb o q z=>⟨o,(other b (nr b o q z)).trans q,rfl⟩) ?_ (λb o q z=>⟨o.slots,(other b (nr b o q z)).trans q⟩) ⟨_,(other e (UJ Te)).trans he,p⟩);exact⟨oe,vs,T,_,_,(other e (UJ Te)).trans he,hc,hd,h1,nT,Te,SQ _ hT (Uj (Tz dT _)),Tz dT _,by simp[hsz]⟩
abbrev rf(φ:Obj->Prop)(B:Heap)(l:List Env)(e:Addr)(cls a0:Rs)(h:Heap):Prop:=Heap.FlyingW B l e cls a0 h/\Go φ e h
def il{h:Heap}{oe:Obj}{vs:Array Rs}(nf:K3 φ)(p:φ oe)(hfr:A.frames=some (env :: outer))(hl:s.heap.FunFrames base (env :: outer))(hf:env.frame=some L)(he:s.heap.get? e=some oe)(hkb:base.StaysIn s.heap)(hen:base.get? e=none)(hd:oe.data=.fields vs)(h1:vs[1]?=some .none)(h0:vs[0]?=some a0)
  (k:∀h',rf φ base outer e oe.cls a0 h'->s.heap.UpToSlots h'->Q () {s with heap:=h'}):wpAny M A (leaving env (.ref e)) Q E s:=by
 unfold leaving;refine Ro (wT nf p hfr hl hf he hkb hen hd h1 h0 λg1 ⟨x1,x2,x3,x4⟩ x5=>?_);refine dA (s:={s with heap:=g1}) x5 x1 x2 x3 λg2 y1 y2 y3 y4 y5=>k g2 ⟨⟨y1,hen,y2.2.2,y3⟩,y5⟩ (Ze (h₂:=g1) x4 y4)
def wY(nf:K3 φ)(hfr:A.frames=some (env :: outer))(hf:env.frame=some L)(fl:rf φ base (env :: outer) e cls a0 s.heap)(k:∀h',rf φ base outer e cls a0 h'->s.heap.UpToSlots h'->Q () {s with heap:=h'}):wpAny M A (leaving env (.ref e)) Q E s:=by
 obtain⟨⟨f1,f2,f3,f4⟩,p⟩:=fl;unfold leaving;refine Ro (qp nf p hfr f3 hf f4 f1 f2 λg1 ⟨x1,x2,x3,x4⟩ x5=>?_);refine dA (s:={s with heap:=g1}) x5 x1 x2 x3 λg2 y1 y2 y3 y4 y5=>k g2 ⟨⟨y1,f2,y2.2.2,y3⟩,y5⟩ (Ze (h₂:=g1) x4 y4)
def Be(nf:K3 φ)(hfr:A.frames=some (env :: outer))(hf:env.frame=some L)(fl:rf φ base (env :: outer) e cls a0 s.heap)(k:∀h',Heap.HeldW base (env :: outer) e cls a0 L h'->Go φ e h'->s.heap.UpToSlots h'->Q () {s with heap:=h'}):wpAny M A (noteFrame (.ref e) env) Q E s:=by
 obtain⟨⟨f1,f2,f3,f4⟩,p⟩:=fl;exact qp nf p hfr f3 hf f4 f1 f2 (by rintro g1 ⟨x1,x2,x3,x4⟩ x5;exact k g1 ⟨x1,f2,x2,x3⟩ x5 x4)
def Nf(hh:Heap.HeldW base l e cls a0 L s.heap)(p:Go φ e s.heap)(k:∀h',rf φ base l e cls a0 h'->s.heap.UpToSlots h'->Q () {s with heap:=h'}):wpAny M A (setFlight (.ref e) none) Q E s:=by
 obtain⟨f1,f2,f3,f4⟩:=hh;exact dA p f1 f3 f4 λg2 y1 y2 y3 y4 y5=>k g2 ⟨⟨y1,f2,y2,y3⟩,y5⟩ y4
def qD(fl:rf φ base l e cls a0 s.heap)(k:∀h',rf φ base l e cls a0 h'->s.heap.UpToSlots h'->Q () {s with heap:=h'}):wpAny M A (setFlight (.ref e) none) Q E s:=by
 obtain⟨⟨f1,f2,f3,f4⟩,p⟩:=fl;exact dA p f1 f3 f4.at λg2 y1 y2 y3 y4 y5=>k g2 ⟨⟨y1,f2,y2,y3⟩,y5⟩ y4
end
structure OQ (P:RM) (w:R4) (outer:List Env) (H H':Hp) (h B h':Heap):Prop where
 hok:HOk P w H' B
 keep:∀b o,h.get? b=some o->H b=none->b∉frs outer->B.get? b=some o
 slot:∀b o,h.get? b=some o->H b=none->b∈frs outer->∃sl,h'.get? b=some {o with slots:=sl}
 free:∀b o,h.get? b=some o->H b=none->H' b=none
 there:∀b o,h.get? b=some o->b∉frs outer->∃o',B.get? b=some o'
 tups:∀b xs,H b=some (.tup xs)->H' b=some (.tup xs)
 frzs:∀b o u,H b=some (.frz o u)->H' b=some (.frz o u)
 tbls:∀b ps,H b=some (.tbl ps)->∃more,H' b=some (.tbl (ps++more))
abbrev iV(P:RM)(w:R4):kI:=λouter H s E e s' =>
 ∃(ea C:Addr) (a0:Rs) (B:Heap) (H':Hp) (d:Option Addr),e=.ref ea/\rf (λo=>o.dict=d) B outer ea (.ref C) a0 s'.heap/\OQ P w outer H H' s.heap B s'.heap/\s'.os=s.os/\Xk s'.gens/\E (.ref C) d H'
def iZ{d:Option Addr}:K3 λo=>o.dict=d:=λo f h=>by
 obtain⟨c,dd,da,sl⟩:=o;cases da <;> exact h
structure ia (X:Cx):Prop where
 stk:X.stack=X.env :: X.outer
 frm:X.env.frame=some X.env.locals
 exs:X.ex=[]
section
variable{X:Cx}{ξ:List (Addr×Obj)}{σ:St}{H:Hp}{s:RC}
def ia.frs(o:ia X):frs X.stack=X.env.locals :: X.fs:=by
 rw[o.stk];unfold L2.frs;rw[Vn,o.frm];rfl
def Inv.old_ne(I:Inv X ξ σ H s){b:Addr}{o:Obj}(e:X.s₀.heap.get? b=some o):b≠X.env.locals:=Si (R3 (RV e) I.ok.above)
def Inv.g_(I:Inv X ξ σ H s)(o:ia X){b:Addr}{ob:Obj}(e:X.s₀.heap.get? b=some ob)(h:b∉X.fs):b∉L2.frs X.stack:=by
 rw[o.frs];intro z;rcases RW.mp z with z|z
 .exact I.old_ne e z
 .exact h z
def Inv.jQ(I:Inv X ξ σ H s){b:Addr}{o:Obj}(hb:b∈X.fs)(e:s.heap.get? b=some o):∀vs,o.data≠.fields vs:=by
 obtain⟨_,o',e',d⟩:=I.funs.mem hb;rw[e] at e';cases e';exact d
def wZ{E:XK}(I:Inv X ξ σ H s)(o:ia X)(hx:Heap.MadeExcOf s.heap h2 e (.ref C) args)(hE:E (.ref C) none H) :
  wpAny M X.A (leaving X.env (.ref e)) (λ_ s''=>iV X.prog X.w X.outer X.H₀ X.s₀ E (.ref e) s'') E' {s with heap:=h2}:=by
 have FF:s.heap.FunFrames X.base (X.env :: X.outer):=o.stk ▸ I.stack;have hfr:X.A.frames=some (X.env :: X.outer):=o.stk ▸ I.ok.frames;have hin:∀env∈(X.env :: X.outer),∀b,env.frame=some b->b∈(X.env :: X.outer).filterMap (·.frame):=λenv he b hb=>Ww.mpr ⟨env,he,hb⟩
 have eqf:(X.env :: X.outer).filterMap (·.frame)=L2.frs X.stack:=by rw[o.stk];rfl
 have nox:∀b:Addr,b∉X.ex:=λb z=>by rw[o.exs] at z;cases z
 have getB:∀{b:Addr} {ob:Obj},s.heap.get? b=some ob->b∉L2.frs X.stack->(VE s.heap ((X.env :: X.outer).filterMap (·.frame))).get? b=some ob:=λ{b ob} q n=>Zw _ q (by rw[eqf];exact n)
 obtain⟨t,he,_,_⟩:=hx.there;have st2:Heap.StaysIn (VE s.heap ((X.env :: X.outer).filterMap (·.frame))) h2:=λb ob q=>hx.keeps b ob (XT _ q)
 have ne2:(VE s.heap ((X.env :: X.outer).filterMap (·.frame))).get? e=none:=by
  cases z:(VE s.heap ((X.env :: X.outer).filterMap (·.frame))).get? e with
  |none=>rfl
  |some ob=>have:=XT _ z;rw[hx.new] at this;cases this
 refine il (s:={s with heap:=h2}) (φ:=λo=>o.dict=none) (base:=VE s.heap ((X.env :: X.outer).filterMap (·.frame))) (h:=s.heap) iZ rfl hfr ((PySem.W.funFrames_hide FF hin).of_keeps λb ob q _=>⟨ob,hx.keeps b ob q,rfl⟩) o.frm he st2 ne2 rfl rfl rfl λh' fl up=>?_
 refine⟨e,C,_,_,H,none,rfl,fl,⟨λa ob q=>?_,λb ob q n hb=>?_,λb ob q n hb=>?_,λb ob q n=>?_,λb ob q hb=>?_,I.base.tups,I.base.frzs,I.base.tbls⟩,I.os,I.bare,hE⟩
 .refine(I.hok a ob q).stay (λb u hb g=>getB g λz=>?_) (λ_ z=>z) λ_ _ z=>z
  have fz:=I.ja b z;rcases hb with hb|hb
  .rw[hb,q] at fz;cases fz
  .rw[hb] at fz;cases fz
 .exact getB (I.base.keep b ob q n hb (nox b)) (I.g_ o q hb)
 .obtain⟨sl,e1⟩:=I.base.slot b ob q n hb (nox b);obtain⟨sl',e2⟩:=up b _ (hx.keeps b _ e1) (λvs=>I.jQ hb e1 vs);exact⟨sl',e2⟩
 .exact I.base.free b ob q n (nox b)
 .obtain⟨o',e1⟩:=I.base.there b ob q (nox b);exact⟨o',getB e1 (I.g_ o q hb)⟩
def Fl(I:Inv X ξ σ H s)(o:ia X)(h:iV X.prog X.w X.stack H s E e s') :
  wpAny M X.A (leaving X.env e) (λ_ s''=>iV X.prog X.w X.outer X.H₀ X.s₀ E e s'') E' s':=by
 obtain⟨ea,C,a0,B,H',d,rfl,fl,g,os,bare,hE⟩:=h;have hfr:X.A.frames=some (X.env :: X.outer):=o.stk ▸ I.ok.frames;have nox:∀b:Addr,b∉X.ex:=λb z=>by rw[o.exs] at z;cases z
 have inS:∀{b:Addr},b∈X.fs->b∈L2.frs X.stack:=λhb=>by rw[o.frs];exact RA _ hb
 rw[o.stk] at fl;refine wY iZ hfr o.frm fl λh' fl' up=>?_
 refine⟨ea,C,a0,B,H',d,rfl,fl',⟨g.hok,λb ob q n hb=>?_,λb ob q n hb=>?_,λb ob q n=>?_,λb ob q hb=>?_,λb xs q=>g.tups b xs (I.base.tups b xs q),λb ob u q=>g.frzs b ob u (I.base.frzs b ob u q),λb ps q=>?_⟩,os.trans I.os,bare,hE⟩
 .exact g.keep b ob (I.base.keep b ob q n hb (nox b)) (I.base.free b ob q n (nox b)) (I.g_ o q hb)
 .obtain⟨sl,e1⟩:=I.base.slot b ob q n hb (nox b);obtain⟨sl',e2⟩:=g.slot b _ e1 (I.base.free b ob q n (nox b)) (inS hb);obtain⟨sl'',e3⟩:=up b _ e2 (λvs=>I.jQ hb e1 vs);exact⟨sl'',e3⟩
 .obtain⟨o',e1⟩:=I.base.there b ob q (nox b);exact g.free b o' e1 (I.base.free b ob q n (nox b))
 .obtain⟨o',e1⟩:=I.base.there b ob q (nox b);exact g.there b o' e1 (I.g_ o q hb)
 .obtain⟨m1,e1⟩:=I.base.tbls b ps q;obtain⟨m2,e2⟩:=g.tbls b _ e1;exact⟨m1++m2,by rw[e2,ZU]⟩
end
def E5{CX:kI}{K:Fg} :
  ia (dg CX P w K mg base N qual sc f cd A outer s H E):=⟨rfl,rfl,rfl⟩
abbrev Lv(X:Cx)(E:XK):Prop:=ia X/\(∀e s',wpAny (model X.prog X.w) X.A (leaving X.env e) (λ_ s''=>iV X.prog X.w X.outer X.H₀ X.s₀ E e s'') (λe' s''=>iV X.prog X.w X.outer X.H₀ X.s₀ E e' s'') s'->X.xe e s')
def PD{K:Fg} :
  Lv (dg (iV P w) P w K mg base N qual sc f cd A outer s H E) E:=⟨E5,λ_ _ h=>h⟩
def N4{CX:kI}{K:Fg} :
  Yw (model P w) (dg CX P w K mg base N qual sc f cd A outer s H E).A (dg CX P w K mg base N qual sc f cd A outer s H E).env (dg CX P w K mg base N qual sc f cd A outer s H E).xe:=Yw.leaving
def Lv.pass(l:Lv X E):jZ (iV X.prog X.w) X E:=λ_ _ _ _ _ _ I h=>l.2 _ _ (Fl I l.1 h)
def aI.okE{K:Fg}{st:Stmt}{sp:Sp}(F:aI K mg x st ps)(S:ar N ps (ak st))(len:∀vs H Q E,sp vs H Q E->vs.length=ps.length)
  (hbody:∀(f:Addr) (cdv:Rs) (A:SC) (outer:List Env) (s:RC) (H:Hp) (vs:List V) (Q:VK) (E:XK),Room k (A.deeper (envOfC x (ak st) s.heap.objs.size f cdv))->sp vs H Q E ->
   ∃t,PSs (dg (iV P w) P w K mg base N x (ak st) f cdv A outer s H E) (bK st) t/\t {nx:=λ_ H'=>Q .non H',rt:=Q} (start N vs) H):FnC P w K mg base (iV P w) (k+1) x ps sp:=by
 obtain⟨f,fd,G,hm,hb⟩:=F.ex;obtain⟨oc,od,kV,doc,pm,an,cdv,ct,osl,rfl,lk,hcd⟩:=G.ex;exact⟨f,_,N_ lk hcd S len λA outer s H vs Q E hr hsp=>hbody f cdv A outer s H vs Q E hr hsp,hm,G.kp,hb⟩
structure K8 (K:Fg) (mg:Str->Option Rs) (x:Str) (C:Addr) (bmB:List Rs) (newId:String):Prop where
 at_:mg x=⇑C
 ok:Wo K C bmB newId=true
def oF{K:Fg}(X:K.In h)(ok:Wo K C bmB newId=true) :
  ∃tl N nm q bs hdct sn sub ab col dd k0 k1 k2 k3 k5 mN,h.get? C=some (excClassObj nm q C N bs tl hdct sn sub ab col dd k0 k1 k2 k3 k5 newId)/\h.Ns N mN/\mN "__init__"=none/\Zt h bmB tl:=by
 unfold Wo at ok;split at ok
 .rename_i dd cd sl lk;split at ok
  .rename_i C1 tl s0 s1 s2 s3 nw s5 em es;simp only[V5,beq_iff_eq,Bool.not_eq_true'] at ok;obtain⟨⟨⟨⟨⟨e1,e2⟩,nodel⟩,own⟩,isns⟩,noi⟩:=ok;subst e1 e2;obtain⟨nm,bs,mro,ns,qn,hd,sn,sub,ab,col,C_⟩:=cd;have em':mro=R_ C1 :: tl:=em;have nodel':C_=false:=nodel;subst em' nodel';obtain⟨sll⟩:=sl;have es':sll=[s0,s1,s2,s3,some (ZbF nw),s5]:=es;subst es';exact⟨tl,ns,nm,qn,bs,hd,sn,sub,ab,col,dd,s0,s1,s2,s3,s5,_,X _ _ lk,Heap.Ns.of_isNs (PySem.W.isNs_of_in X isns),PySem.W.nsMap_none_of_in X isns noi,PySem.W.tail_of_in X own⟩
  .exact absurd ok Sd
 .exact absurd ok Sd
abbrev uC(E:XK)(C:Addr)(te:TE):TS:=λ_ σ H=>te σ H λx H1=>[x].length=1/\E (.ref C) none H1
def uY{cpos:Pos}{te:TE}(l:Lv X E)(hc:X.calm=true)(hg:Gl X x)(c:K8 X.K X.mg x C bmB newId)(FB:YR B newId initId bmB)(he:PE X e₀ te)
  (hst:starEach [e₀] X.env=[(false,eval e₀ X.env)]:=by rfl) (hdb:(x == ("__debug__":Str))=false:=by decide) :
  PS X (.Raise (some (.Call (.Name x np) [e₀] [] cpos)) none pos) (uC E C te):=by
 intro ξ s σ H D I h;obtain⟨tl,N,nm,q,bs,hdct,sn,sub,ab,col,dd,k0,k1,k2,k3,k5,mN,hC,hN,hni,T⟩:=oF I.mod.kin c.ok
 refine wpAny_Raise_call_subT (C:=C) (nm:=nm) (q:=q) (N:=N) (bs:=bs) (bm:=tl) (hdct:=hdct) (sn:=sn) (sub:=sub) (ab:=ab) (col:=col) (dd:=dd) (k0:=k0) (k1:=k1) (k2:=k2) (k3:=k3) (k5:=k5)
  FB (mN:=mN) (T.hasType FB.hasBase) (I.ok.hd hc) (by rw[hst];rfl) hni (fZ I hg c.at_ ⟨rfl,?_⟩ hdb)
 have ha:PA X [e₀] (ae te ai):=aU he cu (by rw[hst];rfl);have r:=ha cpos ξ s σ H (λvs H1=>vs.length=1/\E (.ref C) none H1) I h;rw[hst] at r ⊢;refine Xq (SW r (by rintro us s2 ⟨vs,H1,I2,rv,hl,hE⟩;exact ⟨rfl,by rw[<- rv.length,hl];decide,I2.bk _ _ hC,hN.keeps I2.bk,T.keeps I2.bk,λh' e hx=>l.2 _ _ (wZ I2 l.1 hx hE)⟩) λ_ _ y=>y)
section
variable{M:Model}{A:SC}{E:Rs->RC->Prop}{h:Heap}{g:Array Zbm}{d:Drawn}{t:Nat}{os:Zr}
def tQ{C D:Addr}
  {e:Addr} {oe:Obj} {Q:Bool->RC->Prop}
  (hC:h.get? C=some (excClassObj nm q C N bs tl hd sn su ab co dd k0 k1 k2 k3 k5 nw)) (hD:h.get? D=some (excClassObj nm' q' D N' bs' tl' hd' sn' su' ab' co' dd' j0 j1 j2 j3 j5 nw'))
  (he:h.get? e=some oe) (hc:oe.cls=.ref C) (hb:tl'.contains (.type "BaseException")=true) (hs:(R_ C :: tl).contains (.ref D)=true)
  (hq:Q true ⟨h,g,d,t,os⟩):wpAny M A (excMatches (.ref e) (.ref D)) Q E ⟨h,g,d,t,os⟩:=by
 have hB:(R_ D :: tl').contains (.type "BaseException")=true:=by rw[ZX,hb,Bool.or_true]
 have nt:=tc_notTuple;unfold excMatches
 repeat (first
  |(with_reducible refine Uw he ?_;rw[hc])
  |with_reducible refine Uw hD ?_
  |with_reducible refine Uw hC ?_
  |(with_reducible refine Wf hD ?_;rw[hB])
  |(with_reducible refine Wf hC ?_;rw[hs])
  |wp_step)
 exact hq
end
def bB.there(x:bB P w H h a o):∃ob,h.get? a=some ob:=by
 cases o with
 |lst xs=>obtain⟨_,_,_,_,e⟩:=x;exact⟨_,e⟩
 |tup xs=>obtain⟨_,_,_,ob,e,_⟩:=x;exact⟨ob,e⟩
 |dK de=>obtain⟨_,_,_,_,ob,_,_,e,_⟩:=x;exact⟨ob,e⟩
 |dT de=>obtain⟨_,_,_,_,ob,_,_,e,_⟩:=x;exact⟨ob,e⟩
 |set S n=>obtain⟨ob,_,_,_,e,_⟩:=x;exact⟨ob,e⟩
 |ins C dx fs=>obtain⟨_,_,_,e,_⟩:=x;exact⟨_,e⟩
 |own y=>exact x
 |xd fs=>obtain⟨_,⟨ob,_,_,e,_⟩,_⟩:=x;exact⟨ob,e⟩
 |rng lo hi=>obtain⟨_,_,_,e⟩:=x;exact⟨_,e⟩
 |frz ob u=>obtain⟨e,_⟩:=x;exact⟨_,e⟩
 |tbl ps=>exact⟨_,(show h.get? a=some _ from x)⟩
 |met f y=>exact⟨_,(show h.get? a=some _ from x)⟩
 |ext φ=>obtain⟨_,e,_⟩:=x;exact e
section
variable{X:Cx}{ξ:List (Addr×Obj)}{σ:St}{H H':Hp}{s s':RC}
def Inv.back(I:Inv X ξ σ H s)(o:ia X)(g:OQ X.prog X.w X.stack H H' s.heap B s'.heap)(hos:s'.os=s.os)(bare:Xk s'.gens)(st:B.StaysIn h5)(up:s'.heap.UpToSlots h5) :
  Inv X ξ σ H' {s' with heap:=h5}:=by
 obtain⟨hh,g',d',t',os'⟩:=s';have e:os'=s.os:=hos;subst e;have inS:∀{b:Addr},b∈X.fs->b∈L2.frs X.stack:=λhb=>by rw[o.frs];exact RA _ hb
 have inL:X.env.locals∈L2.frs X.stack:=by rw[o.frs];exact Ru
 have out:∀{b:Addr},b≠X.env.locals->b∉X.fs->b∉L2.frs X.stack:=λh1 h2 z=>by
  rw[o.frs] at z;rcases RW.mp z with z|z
  .exact h1 z
  .exact h2 z
 have nsL:∀m,s.heap.Ns X.env.locals m->h5.Ns X.env.locals m:=λm hm=>by
  obtain⟨ob,es,ep,ho,hd,r⟩:=hm;obtain⟨sl,e1⟩:=g.slot _ ob ho I.free inL;obtain⟨sl',e2⟩:=up _ _ e1 (λvs z=>by have z':ob.data=.fields vs:=z;rw[hd] at z';cases z');exact⟨_,es,ep,e2,hd,r⟩
 suffices r:Inv X ξ σ H' {s with heap:=h5,gens:=g',drawn:=d',toks:=t'} from r
 refine I.step (ch:=[]) (λ_ z=>nomatch z) (λb ob nl nf _ e n=>st b ob (g.keep b ob e n (out nl nf))) (λb ob nl hb _ e n=>?_) (λb ob _ e n=>g.free b ob e n) (λb ob _ e=>?_) g.tups g.frzs g.tbls nsL (g.hok.kept st) bare
 .obtain⟨sl,e1⟩:=g.slot b ob e n (inS hb);obtain⟨sl',e2⟩:=up b _ e1 (λvs=>I.jQ hb e vs);exact⟨sl',e2⟩
 .by_cases hb:b∈L2.frs X.stack
  .have hb':=hb;rw[o.frs] at hb';rcases RW.mp hb' with z|z
   .obtain⟨m,hn,_⟩:=I.loc;obtain⟨o',_,_,ho',_⟩:=nsL m hn;exact⟨o',by rw[z];exact ho'⟩
   .obtain⟨sl,e1⟩:=g.slot b ob e (I.ja b hb) hb;obtain⟨sl',e2⟩:=up b _ e1 (λvs=>I.jQ z e vs);exact⟨_,e2⟩
  .obtain⟨o',e1⟩:=g.there b ob e hb;exact⟨o',st b o' e1⟩
abbrev tS(e C:Addr):HO:=.ext λh=>∃oe,h.get? e=some oe/\oe.cls=.ref C
def KB{h:Heap}{e:Addr}{oe:Obj}(he:h.get? e=some oe)(hc:oe.cls=.ref C):bB P w H h e (tS e C) :=
 ⟨⟨oe,he,hc⟩,⟨oe,he⟩,(by rintro _ _ ⟨o,h1,h2⟩ k;exact ⟨o,k o h1,h2⟩)⟩
abbrev xj(e C dx:Addr):HO:=.ext λh=>∃oe,h.get? e=some oe/\oe.cls=.ref C/\oe.dict=some dx/\XY oe=true
def KC{h:Heap}{e dx:Addr}{oe:Obj}(he:h.get? e=some oe)(hc:oe.cls=.ref C)(hd:oe.dict=some dx)(hn:XY oe=true):bB P w H h e (xj e C dx) :=
 ⟨⟨oe,he,hc,hd,hn⟩,⟨oe,he⟩,(by rintro _ _ ⟨o,h1,h2⟩ k;exact ⟨o,k o h1,h2⟩)⟩
@[reducible] noncomputable def FT (e C:Addr):Option Addr->HO
 |none=>tS e C
 |some dx=>xj e C dx
def FS{h:Heap}{e:Addr}{oe:Obj}{d:Option Addr}(he:h.get? e=some oe)(hc:oe.cls=.ref C)(hd:oe.dict=d)(hn:XY oe=true):bB P w H h e (FT e C d):=by
 cases d with
 |none=>exact KB he hc
 |some dx=>exact KC he hc hd hn
abbrev ExH(H:Hp)(e C:Addr):Prop:=∃d,H e=some (FT e C d)
def ExH.of(h:H e=some (tS e C)):ExH H e C:=⟨none,h⟩
def ExH.ofD(h:H e=some (xj e C dx)):ExH H e C:=⟨some dx,h⟩
def Inv.track(I:Inv X ξ σ H s)(hn:H e=none)(h0:X.s₀.heap.get? e=none)(hL:e≠X.env.locals)(hc:∀x c,X.env.cells.lookup x=some c->c≠e)(hp:∀p∈X.pn++ξ,p.1≠e)
  (ok:bB X.prog X.w (upd H e o) s.heap e o):Inv X ξ σ (upd H e o) s:=by
 have ne:∀b u,H b=some u->b≠e:=λb u q z=>by rw[z,hn] at q;cases q
 refine⟨I.ok,I.os,I.bare,⟨I.base.keep,I.base.slot,λb ob q n hx=>?_,I.base.there,λb xs q=>?_,λb ob u q=>?_,λb ps q=>?_⟩,I.loc,I.cell,?_,λx c q=>?_,λp hq=>?_,λa u q=>?_,I.len⟩
 .rw[aC (λz=>by rw[z,h0] at q;cases q)];exact I.base.free b ob q n hx
 .have z:=I.base.tups b xs q;rw[aC (ne _ _ z)];exact z
 .have z:=I.base.frzs b ob u q;rw[aC (ne _ _ z)];exact z
 .obtain⟨m,z⟩:=I.base.tbls b ps q;exact⟨m,by rw[aC (ne _ _ z)];exact z⟩
 .rw[aC (UJ hL)];exact I.free
 .rw[aC (hc x c q)];exact I.freeC x c q
 .obtain⟨q1,q2,q3⟩:=I.pin p hq;exact⟨q1,by rw[aC (hp p hq)];exact q2,q3⟩
 .by_cases z:a=e
  .subst z;rw[ag] at q;cases q;exact ok
  .rw[aC z] at q;exact(I.hok a u q).stay (λ_ _ _ r=>r) (λb r=>by rw[aC (ne _ _ r)];exact r) λb xs r=>by rw[aC (ne _ _ r)];exact r
def Df{i:Nat}{n:Str}{Q:Unit->RC->Prop}(I:Inv X ξ σ H s)(hN:X.N.Nodup)(hi:X.N[i]?=some n)(hk:X.env.scope.names.lookup n=some .local)
  (h:∀s',Inv X ξ (σ.set i none) H s'->Q () s'):wpAny M A (do bindName X.env n .none;unbindBehindTheSuite X.env n pos) Q E s:=by
 have hcls:(X.env.scope.kind == .class || (X.env.scope.kind == .module && X.env.locals != X.env.globals))=false:=by rw[I.ok.kind];rfl
 have hiσ:i<σ.length:=by rw[I.len];exact(Rq.mp hi).1
 refine Ro (Zc (eZ I hN hi (.inl hk) (v:=.non) rfl (λs1 I1=>?_) (.inr hk)));obtain⟨m,hn,hl⟩:=id I1.loc;obtain⟨u,ru,lu⟩:=hl i n .non hi (by rw[UU hiσ]) (.inl hk)
 have hmn:m n=some u:=by
  rcases lu with⟨_,z⟩|⟨z,_⟩
  .exact z
  .have k':X.env.kindOf n=some .local:=hk;rcases z with z|z <;> (rw[k'] at z;cases z)
 unfold unbindBehindTheSuite;refine wpAny_onRaise (wpAny_unbindName_local hk hn hmn hcls λh' v hn' hs=>?_);have cne:=I1.cne;obtain⟨oL,_,_,hoL,_⟩:=id hn
 have tracked:HOk X.prog X.w H h':=λb ob e=>by
  refine(I1.hok b ob e).stay (λc w' hc q=>(hs.2 c ?_).trans q) (λ_ q=>q) λ_ _ q=>q
  rintro rfl;have fr:=I1.free;rcases hc with hc|hc
  .rw[hc] at fr;rw[fr] at e;cases e
  .rw[fr] at hc;cases hc
 refine h _ ⟨I.ok,I1.os,I1.bare,⟨λb ob e n hb hx=>?_,λb ob e n hb hx=>?_,I1.base.free,λb ob e hx=>?_,I1.base.tups,I1.base.frzs,I1.base.tbls⟩,⟨_,hn',λj y v' e1 e2 e3=>?_⟩,λy c e=>?_,I1.free,I1.freeC,λp hp=>?_,tracked,by simpa using I.len⟩
 .exact(hs.2 b (I.old_ne e)).trans (I1.base.keep b ob e n hb hx)
 .obtain⟨sl,e1⟩:=I1.base.slot b ob e n hb hx;exact⟨sl,(hs.2 b (I.old_ne e)).trans e1⟩
 .obtain⟨o',e1⟩:=I1.base.there b ob e hx;exact⟨o',(hs.2 b (I.old_ne e)).trans e1⟩
 .by_cases hj:j=i
  .subst hj;rw[UU hiσ] at e2;cases e2
  .rw[VT (UJ hj)] at e2;obtain⟨u',r',q⟩:=hl j y v' e1 (by rw[VT (UJ hj)];exact e2) e3;refine⟨u',r',?_⟩;rcases q with⟨k,e⟩|⟨k,c,e,z⟩
   .refine .inl ⟨k,?_⟩;have ny:y≠n:=λz=>hj (nU hN e1 (z ▸ hi))
    simp[ny,e]
   .exact .inr ⟨k,c,e,z.sameBut hs (cne y c e)⟩
 .obtain⟨w',z⟩:=I1.cell y c e;exact⟨w',z.sameBut hs (cne y c e)⟩
 .obtain⟨e,n',ne,nf,d⟩:=I1.pin p hp;exact⟨(hs.2 p.1 ne).trans e,n',ne,nf,d⟩
nonrec abbrev Cx.marked(X:Cx)(e:Addr):Cx:={X with A:=X.A.mark (⇑e),calm:=false,xe:=λ_ _=>False}
def Inv.marked(I:Inv X ξ σ H s)(e:Addr):Inv (X.marked e) ξ σ H s :=
 ⟨⟨I.ok.mod,I.ok.kind,I.ok.glob,I.ok.blt,I.ok.above,I.ok.inj,I.ok.has,I.ok.cab,λz=>ZaP z,I.ok.frames,I.ok.stk,I.ok.exf,I.ok.bs,I.ok.bsz,I.ok.noex,I.ok.exfs,I.ok.funs,I.ok.frf⟩,
  I.os,I.bare,I.base,I.loc,I.cell,I.free,I.freeC,I.pin,I.hok,I.len⟩
def Inv.unmarked(I0:X.Ok)(I:Inv (X.marked e) ξ σ H s):Inv X ξ σ H s:=⟨I0,I.os,I.bare,I.base,I.loc,I.cell,I.free,I.freeC,I.pin,I.hok,I.len⟩
end
structure Gj (K:Fg) (mg:Str->Option Rs) (x:Str) (D:Addr):Prop where
 at_:mg x=⇑D
 ok:∃bmB newId,Wo K D bmB newId=true/\bmB.contains (.type "BaseException")=true
abbrev Gk(K:Fg)(C:Addr):Prop:=∀h:Heap,K.In h->∃tl N nm q bs hdct sn sub ab col dd k0 k1 k2 k3 k5 newId,h.get? C=some (excClassObj nm q C N bs tl hdct sn sub ab col dd k0 k1 k2 k3 k5 newId)
def vM{K:Fg}(ok:Wo K C bmB newId=true):Gk K C:=λh X=>by
 obtain⟨tl,N,nm,q,bs,hdct,sn,sub,ab,col,dd,k0,k1,k2,k3,k5,mN,hC,_⟩:=oF X ok;exact⟨tl,N,nm,q,bs,hdct,sn,sub,ab,col,dd,k0,k1,k2,k3,k5,newId,hC⟩
abbrev CL(K:Fg)(C D:Addr):Prop:=Gk K C/\ZF K C (.ref D)=some true
def J0{K:Fg}{C:Addr}(X:K.In h)
  (hC:h.get? C=some (excClassObj nm q C N bs tl hd sn su ab co dd k0 k1 k2 k3 k5 nw)) (e:ZF K C (.ref D)=some true):(R_ C :: tl).contains (.ref D)=true:=by
 obtain⟨cd,a,b⟩:=Vr.mp e;unfold ZbE at a;split at a
 .rename_i c1 d1 cd1 s1 lk;cases a;have z:=(X _ _ lk).symm.trans hC;unfold excClassObj at z;cases z;split at b
  .cases b
  .exact RY b
 .cases a
section
variable{X:Cx}{ξ:List (Addr×Obj)}{σ:St}{H:Hp}{s s':RC}
abbrev qQ(K:Fg)(Dv:Addr)(n y:Nat)(D:bH)(σ:St):XK:=λc d H2=>∃C,c=.ref C/\CL K C Dv/\∀e,H2 e=none->D.nx (((σ.set n (⇑e)).set y (⇑e)).set n none) (upd H2 e (FT e C d))
def KM{n y:Nat}{xn xy:Str}{D:bH}{p3 pos:Pos}(I:Inv X ξ σ H s)(o:ia X)(hg:Gl X v)(V:Gj X.K X.mg v Dv)(hN:X.N.Nodup)(hn:X.N[n]?=some xn)(hy:X.N[y]?=some xy)
  (ln:X.env.scope.names.lookup xn=some .local) (ly:X.env.scope.names.lookup xy=some .local) (hnd:(xn == ("__debug__":Str))=false) (hnc:(xn == ("__classdict__":Str))=false)
  (hsw:swapsWith (.Name xn p2) (some (.Name xy p1)) p3.line X.env=pure false)
  (h:iV X.prog X.w X.stack H s (qQ X.K Dv n y D σ) e s') (hdb:(v == ("__debug__":Str))=false:=by decide) :
  wpAny (model X.prog X.w) X.A (noteFrame e X.env) (λ_ s₂=>wpAny (model X.prog X.w) X.A (setFlight e none) (λ_ s₃ =>
   wpAny (model X.prog X.w) X.A (handleBy e X.env [.ExceptHandler (some (.Name v vp)) (some xn) [.Assign [.Name xy p1] (.Name xn p2) p3] pos]) (SP X ξ D) X.xe s₃) X.xe s₂) X.xe s':=by
 obtain⟨ea,C,a0,B,H',d,rfl,fl,g,hos,bare,C',eC,⟨okC,mro⟩,k⟩:=h;cases eC;have hfr:X.A.frames=some (X.env :: X.outer):=o.stk ▸ I.ok.frames;rw[o.stk] at fl;have be:B.get? ea=none:=fl.1.2.1;refine Be iZ hfr o.frm fl λh4 held4 at4 up4=>?_
 refine Nf (s:={s' with heap:=h4}) held4 at4 λh5 fl5 up5=>?_
 have up45:=up4.trans up5;have I5:Inv X ξ σ H' {s' with heap:=h5}:=I.back o g hos bare fl5.1.1 up45;obtain⟨oe5,he5,hc5⟩:=fl5.1.there;have I5m:=I5.marked ea;refine wpAny_handleBy_cons (codeAny_handlers_test (fZ (X:=X.marked ea) I5m hg V.at_ ?_ hdb)) (by intro q;cases q);obtain⟨tl,N,nm,q,bs,hdct,sn,sub,ab,col,dd,k0,k1,k2,k3,k5,nwC,hC⟩:=okC _ I5.kIn;obtain⟨bmV,nwV,okV,hbV⟩:=V.ok;obtain⟨tl',N',nm',q',bs',hdct',sn',sub',ab',col',dd',j0,j1,j2,j3,j5,mN',hV,_,_,TV⟩:=oF I5.kIn okV;refine tQ hC hV he5 hc5 (TV.hasType hbV) (J0 I5.kIn hC mro) ?_;refine codeAny_handlers_suite_as ?_;refine qD (s:={s' with heap:=h5}) fl5 λh6 fl6 up6=>?_
 have I6:Inv X ξ σ H' {s' with heap:=h6}:=I.back o g hos bare fl6.1.1 (up45.trans up6);obtain⟨oe,ws,he,hc,hdat,_⟩:=fl6.1.first
 have hdx:oe.dict=d:=by
  obtain⟨o',q1,q2⟩:=fl6.2;cases he.symm.trans q1;exact q2
 have se:s.heap.get? ea=none:=by
  cases z:s.heap.get? ea with
  |none=>rfl
  |some ob =>
   by_cases hb:ea∈L2.frs X.stack
   .rw[o.stk] at hb;obtain⟨_,o2,ho2,d2⟩:=fl6.1.2.2.1.mem hb;rw[he] at ho2;cases ho2;exact absurd hdat (d2 _)
   .obtain⟨o',e1⟩:=g.there ea ob z hb;rw[be] at e1;cases e1
 have s0e:X.s₀.heap.get? ea=none:=by
  cases z:X.s₀.heap.get? ea with
  |none=>rfl
  |some ob =>
   obtain⟨o',e1⟩:=I.base.there ea ob z (λq=>by rw[o.exs] at q;cases q);rw[se] at e1;cases e1
 have hL:ea≠X.env.locals:=λz=>by
  obtain⟨m,⟨ob,_,_,ho,_⟩,_⟩:=I.loc;rw[<- z,se] at ho;cases ho
 have hcl:∀x c,X.env.cells.lookup x=some c->c≠ea:=λx c q z=>by
  obtain⟨v',ob,ho,_⟩:=I.cell x c q;rw[z,se] at ho;cases ho
 have hpn:∀p∈X.pn++ξ,p.1≠ea:=λp hp z=>by
  have ho:=(I.pin p hp).1;rw[z,se] at ho;cases ho
 have hfree:H' ea=none:=by
  cases z:H' ea with
  |none=>rfl
  |some u =>
   obtain⟨ob,e1⟩:=(g.hok ea u z).there;rw[be] at e1;cases e1
 have I7:Inv X ξ σ (upd H' ea (FT ea C d)) {s' with heap:=h6}:=I6.track hfree s0e hL hcl hpn (FS he hc hdx (by unfold XY;rw[hdat]));refine eZ (X:=X.marked ea) (I7.marked ea) hN hn (.inl ln) (v:=.ref ea) rfl (λs8 I8=>?_) (.inr ln);have suite:PSs (X.marked ea) [.Assign [.Name xy p1] (.Name xn p2) p3] (av (aa n) (al y)):=cG (gm hN hy (.inl ly) (GN hn (.inl ln) hnd hnc) hsw (.inr ly));have hiσ:n<σ.length:=by rw[I.len];exact(Rq.mp hn).1
 refine SW (suite ξ s8 _ _ {nx:=λσ9 H9=>D.nx (σ9.set n none) H9,rt:=λ_ _=>False} I8 ⟨.ref ea,UU hiσ,k ea hfree⟩) (λf s9 q9=>?_) λ_ _ z=>z.elim
 cases f with
 |next =>
  obtain⟨σ9,H9,I9,q⟩:=q9;exact Df (I9.unmarked I.ok) hN hn ln λs10 I10=>⟨_,H9,I10,q⟩
 |ret u=>obtain⟨_,_,_,_,_,z⟩:=q9;exact z.elim
 |brk=>obtain⟨_,_,_,z⟩:=q9;exact z.elim
 |cont=>obtain⟨_,_,_,z⟩:=q9;exact z.elim
end
section
variable{X:Cx}{k:Nat}{ps:List Str}{sp:Sp}{fx v xn xy xa:Str}{Dv:Addr}{n y i:Nat}{fp cp ap vp p0 p1 p2 p3 hp pos ep:Pos}{e:Expr}{es:List Expr}{t:TA}
def uA{H:Hp}{D:bH}(F:FnC X.prog X.w X.K X.mg X.base (iV X.prog X.w) k fx ps sp)(hr:Room k X.A)(o:ia X)(hgf:Gl X fx)(ha:PA X.nox (e :: es) t)
  (hg:Gl X v) (V:Gj X.K X.mg v Dv) (hN:X.N.Nodup) (hn:X.N[n]?=some xn) (hy:X.N[y]?=some xy) (ln:X.env.scope.names.lookup xn=some .local) (ly:X.env.scope.names.lookup xy=some .local)
  (hnd:(xn == ("__debug__":Str))=false) (hnc:(xn == ("__classdict__":Str))=false) (hsw:swapsWith (.Name xn p2) (some (.Name xy p1)) p3.line X.env=pure false)
  (hvd:(v == ("__debug__":Str))=false) (hfd:(fx == ("__debug__":Str))=false) (he:starEach (e :: es) X.env=(false,eval e X.env) :: starEach es X.env) (hpl:(backTo cp (starEach es X.env)).any (·.1)=false)
  (I:Inv X ξ σ H s) (h:t σ H λvs H1=>sp (vs++[]) H1 Q (qQ X.K Dv n y D σ)) :
  wpAny (model X.prog X.w) X.A (eval (.Call (.Name fx fp) (e :: es) [] cp) X.env) (EP X ξ σ Q)
   (λe' s'=>wpAny (model X.prog X.w) X.A (noteFrame e' X.env) (λ_ s₂=>wpAny (model X.prog X.w) X.A (setFlight e' none) (λ_ s₃ =>
    wpAny (model X.prog X.w) X.A (handleBy e' X.env [.ExceptHandler (some (.Name v vp)) (some xn) [.Assign [.Name xy p1] (.Name xn p2) p3] hp]) (SP X ξ D) X.xe s₃) X.xe s₂) X.xe s') s:=by
 obtain⟨f,fd,G,hm,kp,hb⟩:=F.ex;refine TX (fZ I hgf hm ?_ hfd);refine ZW (h₀:=X.base) I.ok.mod.kin kp (SW (ha cp ξ s σ H _ (I.wish λ_ _=>False) h) (λus s1 ⟨vs,H1,I1,r,q⟩=>⟨I1.kIn,?_⟩) λ_ _ z=>z.elim) he hpl;have J1:Inv X ξ σ H1 s1:=I1.fG;have r2:Vals (vs++[]) (us++[]):=r.append .nil;have hl:(us++[]).length=ps.length:=by rw[<- r2.length];exact G.len _ _ _ _ q
 refine Wx (V3 (G.run X.A X.stack s1 H1 ⟨us,[]⟩ (us++[]) (vs++[]) Q _ hr J1.env0 (hb s1 us J1.kIn hl) r2 q) λres s' hq=>?_);cases res with
 |error e'=>exact KM J1 o hg V hN hn hy ln ly hnd hnc hsw hq hvd
 |ok fl =>
  cases fl with
  |ret u=>exact J1.after hq
  |next=>exact Us hq
  |brk=>exact Us hq
  |cont=>exact Us hq
end
section
variable{P:RM}{w:R4}{K:Fg}{mg:Str->Option Rs}{base:Heap}{x:Str}{st:Stmt}{N ps:List Str}{k:Nat}{sp:Sp}
def Ip:0<=sizeLine:=by decide
def gX:1<=sizeLine:=by decide
def aM:2<=sizeLine:=by decide
def fS:3<=sizeLine:=by decide
def aO{N:List Str}{n:Nat}(hN:N.length=n)(vs:List V):L2.start N vs=vs.map some++Sg (n-vs.length) none:=by
 subst hN;rfl
def aI.okN(F:aI K mg x st ps)(S:ar N ps (ak st))(len:∀vs H Q E,sp vs H Q E->vs.length=ps.length)
  (hbody:∀(f:Addr) (cdv:Rs) (A:SC) (outer:List Env) (s:RC) (H:Hp) (vs:List V) (Q:VK) (E:XK),N.Nodup->Room k (A.deeper (envOfC x (ak st) s.heap.objs.size f cdv))->(A.deeper (envOfC x (ak st) s.heap.objs.size f cdv)).units+64<cLine->(A.deeper (envOfC x (ak st) s.heap.objs.size f cdv)).units+1<cLine->(∀{M:Model} {A:SC} {env:Env},Yw M A env λ_ _=>False)->ia (dg bh P w K mg base N x (ak st) f cdv A outer s H E).nox->sp vs H Q E ->
   ∃t,PSs (dg bh P w K mg base N x (ak st) f cdv A outer s H E).nox (bK st) t/\t {nx:=λ_ H'=>Q .non H',rt:=Q} (start N vs) H):FnC P w K mg base bh (k+1) x ps sp :=
 F.ok S len λf cdv A outer s H vs Q E hr h=>hbody f cdv A outer s H vs Q E S.nd hr hr.units (RS (We (by decide:1<=64) _) hr.units) Y0 ⟨rfl,rfl,rfl⟩ h
def aI.okM(F:aI K mg x st ps)(S:ar N ps (ak st))(len:∀vs H Q E,sp vs H Q E->vs.length=ps.length)
  (hbody:∀(f:Addr) (cdv:Rs) (A:SC) (outer:List Env) (s:RC) (H:Hp) (vs:List V) (Q:VK) (E:XK),N.Nodup->Room k (A.deeper (envOfC x (ak st) s.heap.objs.size f cdv))->(A.deeper (envOfC x (ak st) s.heap.objs.size f cdv)).units+64<cLine->(A.deeper (envOfC x (ak st) s.heap.objs.size f cdv)).units+1<cLine->Yw (model P w) (dg (iV P w) P w K mg base N x (ak st) f cdv A outer s H E).A (dg (iV P w) P w K mg base N x (ak st) f cdv A outer s H E).env (dg (iV P w) P w K mg base N x (ak st) f cdv A outer s H E).xe->Lv (dg (iV P w) P w K mg base N x (ak st) f cdv A outer s H E) E->sp vs H Q E ->
   ∃t,PSs (dg (iV P w) P w K mg base N x (ak st) f cdv A outer s H E) (bK st) t/\t {nx:=λ_ H'=>Q .non H',rt:=Q} (start N vs) H):FnC P w K mg base (iV P w) (k+1) x ps sp :=
 F.okE S len λf cdv A outer s H vs Q E hr h=>hbody f cdv A outer s H vs Q E S.nd hr hr.units (RS (We (by decide:1<=64) _) hr.units) N4 PD h
end
open PySem PySem.Spec PyProof.Rows PySem.W Builtin Builtin.ObjectAttr Builtin.Getset_descriptor
structure j4 (K:Fg) (C:Addr):Prop where
 ga:findIn K (.ref C) "__getattribute__"=some (some (.builtin "BaseException.__getattribute__"))
 hk:findIn K (.ref C) "__getattr__"=some none
 cl:findIn K (.ref C) "__class__"=some (some (.builtin "object.__class__"))
 gt:specialIn K (.builtin "object.__class__") "__get__"=some (some (.builtin "getset_descriptor.__get__"))
 tk:takesIn K (.builtin "object.__class__")=some true
 ob:mroIn K C (.type "object")=some true
 be:mroIn K C (.type "BaseException")=some true
section
variable{prog:RM}{w:R4}{A:SC}{E:Rs->RC->Prop}{s:RC}{K:Frag}{x C:Addr}{R:ZaM->RC->Prop}
abbrev TyLk(h:Heap)(x C:Addr):Prop:=∃o,h.get? x=some o/\o.cls=.ref C
def TyLk.look(i:TyLk h x C)(M:Model):Zal M h (typeOf (.ref x)) (.ref C):=by
 obtain⟨o,h1,h2⟩:=i;exact h2 ▸ (Zal.ld h1).andThen .now
def oG{tp:Rs} (X:K.In s.heap) (i:TyLk s.heap x C) (hm:mroIn K C (.type "object")=some true) (h:R (.ok (.ret (.ref C))) s) :
  codeAny (model prog w) A (.call (.builtin "getset_descriptor.__get__") ⟨[.builtin "object.__class__",.ref x,tp],[]⟩) R s:=by
 obtain⟨hh,g,dr,t,os⟩:=s;have L0:=i.look (model prog w);have L1:=Za4 (M:=model prog w) X hm;refine UH KF.slot_gs.plain KF.entry_gs (KF.slot_gs.check _ _ _ _ _ _ _ _ KF.type_class (KF.args_gs _ _ _) ?_);unfold Ub.«getset_descriptor.__get__» descrGet;rw[dga_obj];refine Ro (RE ?_);unfold descrGetter descrCheckInstance descrNameAndClass isInstance;simp only[KF.owner_class]
 repeat lk
 refine⟨WA _ (by decide +kernel),Wu KF.entry_class ?_⟩;unfold Ub.«object.__class__» shownTypeOf
 repeat lk
 exact h
end
section
variable{prog:RM}{w:R4}{A:SC}{E:Rs->RC->Prop}{s:RC}{K:Frag}{x C:Addr}
def qY{rest:List Rs} {Q:Unit->RC->Prop} (X:K.In s.heap) (i:TyLk s.heap x C) (hb:mroIn K C (.type "BaseException")=some true) (ha:argsOk "BaseException.__getattribute__" ⟨.ref x :: rest,[]⟩) (hq:Q () s) :
  wpAny M A (checkBuiltinCall "BaseException.__getattribute__" ⟨.ref x :: rest,[]⟩) Q E s:=by
 obtain⟨hh,g,d,t,os⟩:=s;have kd:builtinKind "BaseException.__getattribute__"=some .slot:=by decide +kernel
 have sp:splitId "BaseException.__getattribute__"=some ("BaseException","__getattribute__"):=by decide +kernel
 have LI:Zal M hh (isInstance (.ref x) (.type "BaseException")) true:=(i.look M).andThen (Za4 X hb);simp only[checkBuiltinCall,kd,sp];refine Ro (LI.at ?_);simp only[Bool.not_true,U2,if_false];cases sg:Manifest.signature? "BaseException.__getattribute__" with
 |none=>exact RE hq
 |some v =>
  simp only[argsOk,sg] at ha;have h2:Zbt "BaseException.__getattribute__" v ⟨.ref x :: rest,[]⟩=pure ():=ha;show wpAny M A (Zbt "BaseException.__getattribute__" v ⟨.ref x :: rest,[]⟩) Q E _;rw[h2];exact RE hq
def FR(X:K.In h) (a:j4 K C):Zal M h (find (.ref x) (.ref C) "__class__") (.bind (.builtin "getset_descriptor.__get__") (.builtin "object.__class__")):=by
 have L1:=WS (M:=M) X a.cl;have L2:Zal M h (getOf (some (.builtin "object.__class__"))) (some (.builtin "getset_descriptor.__get__")):=looks_specialIn X a.gt;have L3:=looks_takesIn (M:=M) X a.tk;refine L1.andThen (L2.andThen ?_);exact(show Zal M h (dataDescriptor? (some (.builtin "object.__class__")) (some (.builtin "getset_descriptor.__get__"))) (some (.builtin "getset_descriptor.__get__",.builtin "object.__class__")) from L3.andThen .now).andThen (Zal.tag .now)
def Oa{tk:Tok}{Q:Fin->RC->Prop}(X:K.In s.heap)(i:TyLk s.heap x C)(a:j4 K C)(h:Q (.done (.ret (.ref C))) s) :
  wpAny (model prog w) A (Ub.«object.__getattribute__» ⟨[.ref x,.str "__class__" tk],[]⟩) Q E s:=by
 obtain⟨hh,g,d,t,os⟩:=s;have L0:=i.look (model prog w);have L1:=FR (M:=model prog w) (x:=x) X a;unfold Ub.«object.__getattribute__»
 repeat lk
 refine wpAny_run (oG X i a.ob ?_)
 repeat lk
 exact h
def B3{Q:Option Rs->RC->Prop} (X:K.In s.heap) (i:TyLk s.heap x C) (a:j4 K C) (h:Q (⇑C) {s with toks:=s.toks+1}):wpAny (model prog w) A (getAttr? (.ref x) "__class__") Q E s:=by
 obtain⟨hh,g,d,t,os⟩:=s;have L0:=i.look (model prog w);have L1:=WS (M:=model prog w) X a.ga;have L2:=WS (M:=model prog w) X a.hk;unfold getAttr? getAttrBy? getAttrBy;refine Ro (wpAny_mkText (Ro (Vm (TM (Ro (L0.at (Ro (L1.at ?_))))))));show wpAny _ _ (getAttrByItsOwn _ _ _ _ _ _) _ _ _;unfold getAttrByItsOwn hookBefore;refine Ro ?_;rw[if_pos (show onTheHeap (R_ C)=true from rfl)];refine L2.at ?_;refine Ro (Vm (TM ?_));unfold callGetattribute;rw[if_neg (by intro z;cases z)];unfold boundAndCalled;rw[VU.ga.bind (.ref x)];refine Ro (RE ?_);refine Wx (UH VU.ga.plain F.entry_bexc_ga (qY X i a.be (F.args_bexc_ga _ _) (Oa X i a ?_)));show wpAny (model prog w) A (handedOut (.ref C)) _ _ _;rw[handedOut_of (v:=.ref C) rfl];exact RE (RE h)
def jR(X:K.In h)(a:j4 K C):∃c d cd sl,h.get? C=some ⟨c,d,.cls cd,sl⟩:=by
 obtain⟨cd,hc,_⟩:=Vr.mp a.ob;unfold clsIn at hc;split at hc
 .rename_i c1 d1 cd1 s1 lk;exact⟨c1,d1,cd1,s1,X _ _ lk⟩
 .cases hc
def vy(a:j4 K C):KitX K (.ref x) (.ref C) (λh=>TyLk h x C) where
 ty:=λM h _ p=>p.look M
 it:=λM h X _=>by
  obtain⟨c1,d1,cd1,s1,ho⟩:=jR X a;intro A' Q' E' s' k q;unfold isType loadHead;exact Ro (wpAny_loadPart (k _ _ ho) (RE q))
 ne:=λh tp dd gV n sl X htp=>by
  obtain⟨c1,d1,cd1,s1,ho⟩:=jR X a;refine WT.mpr λq=>?_
  have e:C=tp:=ZbG (beq_iff_eq.mp q);subst e;have z:=ho.symm.trans htp;cases z
 ca:=λX p k=>B3 X p a k
end
abbrev uh(K:Frag)(C:Addr)(c:V)(b:Bool):Prop:=match c with
 |.ref D=>kitOne K (.ref C) (.ref D)=some b
 |.ty n=>kitOne K (.ref C) (.type n)=some b
 |_=>False
nonrec abbrev Jm(K:Frag):List V->Hp->VK->Prop:=λxs H Q=>∃e C c b,xs=[.ref e,c]/\ExH H e C/\j4 K C/\uh K C c b/\Q (.bl b) H
def Cw:fF X (.builtin "isinstance") (Jm X.K):=by
 intro ξ s σ H xs us Q I r h;obtain⟨e,C,c,b,rfl,he,a,k,q⟩:=h;obtain⟨u,u',rfl,rx,ry⟩:=vals2 r;obtain rfl:u=R_ e:=rx
 have ty:TyLk s.heap e C:=by
  obtain⟨d,he⟩:=he;cases d with
  |none=>exact(I.hok e _ he).1
  |some dx=>obtain⟨oe,h1,h2,_⟩:=(I.hok e _ he).1;exact⟨oe,h1,h2⟩
 have fin:∀tk,EP X ξ σ Q (.bool b) {s with toks:=tk}:=λtk=>⟨.bl b,H,I.tok tk,rfl,q⟩
 cases c with
 |ref D =>
  obtain rfl:u'=R_ D:=ry;exact kia_one (vy a) I.kIn ty k (λz=>nomatch z) fin
 |ty n =>
  obtain rfl:u'=Wv n:=ry;exact kia_one (vy a) I.kIn ty k (λz=>nomatch z) fin
 |non=>exact k.elim
 |bl _=>exact k.elim
 |int _=>exact k.elim
 |str _=>exact k.elim
 |byt _=>exact k.elim
 |flt _=>exact k.elim
def Kc{K:Frag}  {b:Bool} {cd:VJ} (h:mroIn K C (.ref D)=some b) (hs:mroIn K C (.ref C)=some true) (ht:typeIn K (.ref D)=some (.type "type")) (hc:clsIn K D=some cd):uh K C (.ref D) b:=by
 show kitOne K (.ref C) (.ref D)=some b;unfold kitOne;by_cases e:C=D
 .subst e;rw[hs] at h;cases h;rw[if_pos (beq_self_eq_true _)]
 .rw[if_neg (λz=>e (ZbG (beq_iff_eq.mp z)))];unfold kitCls;dsimp only;rw[if_pos (show((clsIn K D).isSome && typeIn K (.ref D) == some (.type "type"))=true by rw[hc,ht];rfl)];exact h
def Kb{K:Frag}{b:Bool}(h:mroIn K C (.type n)=some b)(hm:kitMeta n=true):uh K C (.ty n) b:=by
 show kitOne K (.ref C) (.type n)=some b;unfold kitOne;rw[if_neg (λz=>by cases beq_iff_eq.mp z)];unfold kitCls;dsimp only;rw[if_pos hm];exact h
section
variable{prog:RM}{w:R4}{A:SC}{E:Rs->RC->Prop}{h:Heap}{g:Array Zbm}{d:Drawn}{t:Nat}{os:Zr}
variable{nm q:Str}{C N:Addr}{bs bm bmB:List Rs}{hdct:Bool}{sn:List Str}{sub:List Rs}{ab:Bool}{col:Option Bool}{dd:Option Addr}{k0 k1 k2 k3 k5:Option Rs}{B newId initId:String}
nonrec abbrev cc(C t:Addr)(dx:Option Addr):Obj:={cls:=.ref C,dict:=dx,data:=.fields #[.ref t,.none,.none,.none,.bool false,.none]}
def xX{K:Fg}(F:YR B newId initId bmB)(T:Zt h bmB bm){rest:List Rs}{oI:Obj}{Q:Fin->RC->Prop}(X:K.In h)
  (hC:h.get? C=some (excClassObj nm q C N bs bm hdct sn sub ab col dd k0 k1 k2 k3 k5 newId)) (hi:Vt K (.ref C) "__init__"=some (⇑fI)) (hfI:h.get? fI=some oI) (hfc:oI.cls=.type "function")
  (hq:wpAny (model prog w) A (call (.ref fI) (.ref (h.objs.size+1) :: rest)) (λr s'=>r=.none/\Q (.done (.ret (.ref (h.objs.size+1)))) s') E ⟨(h.push {cls:=.type "tuple",data:=.seq rest.toArray}).push (cc C h.objs.size none),g,d,t,os⟩) (hrest:rest.length<=sizeLine) :
  wpAny (model prog w) A (Ub.«type.__call__» ⟨.ref C :: rest,[]⟩) Q E ⟨h,g,d,t,os⟩:=by
 repeat (first|with_reducible refine Uw hC ?_|with_reducible refine wpAny_madeBy_exc hC ?_|wp_step)
 refine codeAny_call_builtin_code (WA _ F.quiet) (wpAny_check_new_subT F T hC (codeAny_exc_new_subT F T hC (?_:wpAny _ _ _ _ _ _) hrest));have up:∀b o,h.get? b=some o->((h.push {cls:=.type "tuple",data:=.seq rest.toArray}).push {cls:=.ref C,data:=.fields #[.ref h.objs.size,.none,.none,.none,.bool false,.none]}).get? b=some o:=λb o e=>Rv _ (Rv _ e)
 have hC1:=up _ _ hC;have hfI1:=up _ _ hfI;have X1:=X.keeps up;have hget:((h.push {cls:=.type "tuple",data:=.seq rest.toArray}).push {cls:=.ref C,data:=.fields #[.ref h.objs.size,.none,.none,.none,.bool false,.none]}).get? (h.objs.size+1)=some {cls:=.ref C,data:=.fields #[.ref h.objs.size,.none,.none,.none,.bool false,.none]}:=by heap_get
 have hcC:(R_ C :: bm).contains (.ref C)=true:=by simp
 unfold isInstance
 repeat (first|with_reducible refine Uw hget ?_|(with_reducible refine Wf hC1 ?_;rw[hcC])|wp_step)
 refine(?_:wpAny _ _ (typeLookup (.ref C) _) _ _ _);refine PySem.W.Looks.here (PySem.W.looks_findIn X1 hi) ?_;refine TM (Ro ?_);unfold bindSpecial;refine Ro (wpAny_typeOf (T:="function") ⟨_,hfI1,hfc⟩ ?_);rw[if_pos (by decide)];refine RE (Ro (SW hq (λr s' hr=>?_) λ_ _ x=>x));obtain⟨rfl,hQ⟩:=hr;wp_walk;exact hQ
def F1{K:Fg}(F:YR B newId initId bmB)(T:Zt h bmB bm){rest:List Rs}{oI:Obj}{Q:Rs->RC->Prop}(X:K.In h)
  (hC:h.get? C=some (excClassObj nm q C N bs bm hdct sn sub ab col dd k0 k1 k2 k3 k5 newId)) (hi:Vt K (.ref C) "__init__"=some (⇑fI)) (hfI:h.get? fI=some oI) (hfc:oI.cls=.type "function")
  (hq:wpAny (model prog w) (A.under (.builtin "type.__call__" ⟨.ref C :: rest,[]⟩)) (call (.ref fI) (.ref (h.objs.size+1) :: rest)) (λr s'=>r=.none/\Q (.ref (h.objs.size+1)) s') E ⟨(h.push {cls:=.type "tuple",data:=.seq rest.toArray}).push (cc C h.objs.size none),g,d,t,os⟩) (hrest:rest.length<=sizeLine) :
  wpAny (model prog w) A (call (.ref C) rest) Q E ⟨h,g,d,t,os⟩:=by
 have f1:=tc_lookup;have f2:=tc_bind (.ref C);have hT:(⟨h,g,d,t,os⟩:RC).TypeIs (.ref C) "type":=⟨_,hC,rfl⟩
 refine Wx (Y1 (?_:wpAny _ _ (callAny (.ref C) _) _ _ _))
 repeat (any_goals (first|assumption|with_reducible refine Uw hC ?_|wp_step))
 exact⟨rfl,codeAny_call_builtin_at (WA _ (by decide +kernel)) entry_typeCall (wpAny_check_type_call_sub hC (xX F T X hC hi hfI hfc hq hrest))⟩
end
open PySem PySem.Spec PyProof.Rows PySem.W
section
variable{prog:RM}{w:R4}{A:SC}{E:Rs->RC->Prop}{h:Heap}{g:Array Zbm}{d:Drawn}{t:Nat}{os:Zr}
variable{nm q:Str}{C N:Addr}{bs bm bmB:List Rs}{hdct:Bool}{sn:List Str}{sub:List Rs}{ab:Bool}{col:Option Bool}{dd:Option Addr}{k0 k1 k2 k3 k5:Option Rs}{B newId initId:String}
def CD(F:YR B newId initId bmB)(T:Zt h bmB bm){rest:List Rs}{e:Addr}{Q:Rs->RC->Prop}
  (hC:h.get? C=some (excClassObj nm q C N bs bm hdct sn sub ab col dd k0 k1 k2 k3 k5 newId)) (he:h.get? e=some (cc C t0 dx))
  (hq:∀h' t1,(∀b o,b≠e->h.get? b=some o->h'.get? b=some o)->h'.get? e=some (cc C t1 dx)->Q .none ⟨h',g,d,t,os⟩) (hrest:rest.length<=sizeLine) :
  wpAny (model prog w) A (call (.builtin initId) (.ref e :: rest)) Q E ⟨h,g,d,t,os⟩:=by
 refine Wx (UH F.init.plain F.initEntry (wpAny_check_init_subT F T hC he rfl ?_));wp_walk;have ne:h.objs.size≠e:=UD (RV he);refine hq _ h.objs.size (λb o nb hb=>?_) ?_
 .rw[Uc _ _ (UJ nb)];exact Rv _ hb
 .rw[SQ _ (Rv _ he) rfl];rfl
end
section
variable{prog:RM}{w:R4}{A:SC}{E:Rs->RC->Prop}{s:RC}{K:Frag}{x C:Addr}{R:ZaM->RC->Prop}{name:Str}{v:Rs}
structure oS (K:Frag) (C:Addr) (f:Str):Prop where
 sa:findIn K (.ref C) "__setattr__"=some (some (.builtin "object.__setattr__"))
 no:findIn K (.ref C) f=some none
 hd:hasDictIn K C=true
 mro:∃cd tl,clsIn K C=some cd/\cd.mro=tl++[.type "ValueError",.type "Exception",.type "BaseException",.type "object"]/\tl.all (λ|.ref _=>true|_=>false)=true
 ob:mroIn K C (.type "object")=some true
def jt(self:Rs):∀{l r:List Rs},l.all (λ|.ref _=>true|_=>false)=true->refuseLoop self "__setattr__" r=pure ()->refuseLoop self "__setattr__" (l++r)=pure ()
 |[],_,_,e=>e
 |.ref c :: l,r,a,e=>by rw[W9,refuseLoop_ref];exact jt self (by simpa using a) e
def BZ{Q:Unit->RC->Prop}(X:K.In s.heap)(hx:s.heap.get? x=some (cc C t0 none))(a:oS K C name)
  (h:∀h' tk,h'.Ns1 s.heap.objs.size (λy=>if y=name then some v else none)->h'.get? x=some (cc C t0 (some s.heap.objs.size))->(∀b o,b≠x->s.heap.get? b=some o->h'.get? b=some o)->Q () {s with heap:=h',toks:=tk}) :
  wpAny (model prog w) A (setAttr (.ref x) name v) Q E s:=by
 have SF:=PySem.F.store_ValueError;obtain⟨cd,tl,hc,hm,htl⟩:=a.mro;have I:InstAt s.heap x (cc C t0 none) C none:=⟨hx,rfl,rfl,trivial⟩
 refine set_plain X I a.sa ?_;have sub:Zal (model prog w) s.heap (isInstance (.ref x) (.type "object")) true:=I.type.andThen (Za4 X a.ob);refine UH SF.slot.plain SF.entry (@check_slot (model prog w) _ _ {s with toks:=s.toks+1} "object.__setattr__" "object" "__setattr__" (.ref x) [.str name s.toks,v] [] _ SF.kind SF.split sub (SF.args (.ref x) (.str name s.toks) v) ?_);have hmro:Zal (model prog w) s.heap (mroOf (.ref C)) cd.mro:=(looks_clsIn X hc).andThen .now;rw[osa_eq,refuse_eq];refine Ro (Ro (Xb (s:={s with toks:=s.toks+1}) I.type (Ro (Xb (s:={s with toks:=s.toks+1}) hmro ?_))));rw[hm,jt _ htl (SF.passes _)];refine RE (Ro (Xb (s:={s with toks:=s.toks+1}) I.type (Ro (Xb (s:={s with toks:=s.toks+1}) (WS X a.no) (Ro (RE ?_))))));obtain⟨cd',hc',hd'⟩:=any_some a.hd;cases hc.symm.trans hc';have xs:x≠s.heap.objs.size:=Si (RV hx);have hx1:(s.heap.push {cls:=.type "dict",data:=.dict #[]}).get? x=some (cc C t0 none):=Rv _ hx;refine Ro (RE (Ro (Ro (wpAny_loadPart hx (Ro (Xb (s:={s with toks:=s.toks+1}) (looks_clsIn X hc) ?_))))));rw[hd'];have hx2:((s.heap.push {cls:=.type "dict",data:=.dict #[]}).update x λo=>{cls:=o.cls,dict:=some s.heap.objs.size,data:=o.data,slots:=o.slots}).get? x=some (cc C t0 (some s.heap.objs.size)):=SQ _ hx1 rfl;have hgd:((s.heap.push {cls:=.type "dict",data:=.dict #[]}).update x λo=>{cls:=o.cls,dict:=some s.heap.objs.size,data:=o.data,slots:=o.slots}).get? s.heap.objs.size=some {cls:=.type "dict",data:=.dict #[]}:=(Wg _ _ _ _ xs.symm).trans (Heap.get?_push_at rfl rfl);have hnd:((s.heap.push {cls:=.type "dict",data:=.dict #[]}).update x λo=>{cls:=o.cls,dict:=some s.heap.objs.size,data:=o.data,slots:=o.slots}).Ns s.heap.objs.size (λ_=>none):=⟨_,#[],_,hgd,rfl,λe he=>absurd he (by simp),λ_=>rfl⟩
 refine Ro (wpAny_alloc' (Ro (wpAny_update' hx1 (RE (a:=some s.heap.objs.size) ?_))));refine Ro (RE (Ro (wpAny_nsSet1 (Heap.Ns1.of_empty hnd) λh' hn' hs=>?_)));obtain⟨oD,esD,epD,hoD,hdD,hcD⟩:=hn'.count (YJ.cons name v YJ.nil);refine Ro (wpAny_lookBehind hoD (by rw[hdD];exact pastItsLine_dict (RN hcD (by rw[Sn,VF,UY];lia))) ?_);exact RE (h _ _ hn' ((hs.2 x xs).trans hx2) λb o nb hb=>(hs.2 b (Si (RV hb))).trans ((Wg _ _ _ _ nb).trans (Rv _ hb)))
def FQ{dx:Addr}{ox:Obj}{Q:Rs->RC->Prop}(X:K.In s.heap)(hx:s.heap.get? x=some ox)(hc:ox.cls=.ref C)(hn:notCls ox=true)(hdx:ox.dict=some dx)(n:s.heap.Ns1 dx mA)(a:j4 K C)(b:oS K C name)
  (hv:mA name=some v) (hv':handedIn v=true) (h:Q v {s with toks:=s.toks+1}):wpAny (model prog w) A (getAttr (.ref x) name expr) Q E s:=by
 obtain⟨od,ho,hl⟩:=qA n;have I:InstAt s.heap x ox C (some od):=⟨hx,hc,hn,by rw[hdx];exact ho⟩
 have i:TyLk s.heap x C:=⟨ox,hx,hc⟩
 have L0:=i.look (model prog w);have L1:=WS (M:=model prog w) X a.ga;have L2:=WS (M:=model prog w) X a.hk;have LF:Zal (model prog w) s.heap (Ub.ObjectAttr.find (.ref x) (.ref C) name) (.value v):=looks_find X I (findObj_own b.hd b.no rfl (by rw[hl,hv]));unfold getAttr getAttrBy;refine Ro (wpAny_mkText (TM (Ro (Xb (s:={s with toks:=s.toks+1}) L0 (Ro (Xb (s:={s with toks:=s.toks+1}) L1 ?_))))));show wpAny _ _ (getAttrByItsOwn _ _ _ _ _ _) _ _ _;unfold getAttrByItsOwn hookBefore;refine Ro ?_;rw[if_pos (show onTheHeap (R_ C)=true from rfl)];refine L2.at ?_;refine Ro (Vm (TM ?_));unfold callGetattribute;rw[if_neg (by rw[show onTheHeap (ZbF "BaseException.__getattribute__")=false from rfl,Zbq];decide)];unfold boundAndCalled;rw[VU.ga.bind (.ref x)];refine Ro (RE (Wx (UH VU.ga.plain F.entry_bexc_ga (qY (s:={s with toks:=s.toks+1}) X i a.be (F.args_bexc_ga _ _) ?_))));obtain⟨hh,g,d,t,os⟩:=s;unfold Ub.«object.__getattribute__»
 repeat lk
 show wpAny (model prog w) A (handedOut v) Q E _;rw[handedOut_of hv'];exact RE h
end
nonrec abbrev Hy:List Rs:=[.type "ValueError",.type "Exception",.type "BaseException",.type "object"]
structure ExcI (K:Frag) (mg:Str->Option Rs) (x:Str) (C f:Addr):Prop where
 at_:mg x=⇑C
 sh:∃tl N nm q bs hdct sn sub ab col dd k0 k1 k2 k3 k5,K.lookup C=some (excClassObj nm q C N bs tl hdct sn sub ab col dd k0 k1 k2 k3 k5 "ValueError.__new__")/\∀h:Heap,K.In h->Zt h Hy tl
 fi:findIn K (.ref C) "__init__"=some (⇑f)
 fn:isFn K (.ref f)=true
 kp:keepIn K (.ref C)=true
def ExcI.ob{K:Frag}(i:ExcI K mg x C f):Gk K C:=λh X=>by
 obtain⟨tl,N,nm,q,bs,hdct,sn,sub,ab,col,dd,k0,k1,k2,k3,k5,l,_⟩:=i.sh;exact⟨tl,N,nm,q,bs,hdct,sn,sub,ab,col,dd,k0,k1,k2,k3,k5,_,X _ _ l⟩
abbrev eQ(e C:Addr)(d:Option Addr):HO:=.ext λh=>∃t,h.get? e=some (cc C t d)
def tR{h:Heap}{e:Addr}(he:h.get? e=some (cc C t d)):bB P w H h e (eQ e C d) :=
 ⟨⟨t,he⟩,⟨_,he⟩,(by rintro _ _ ⟨t,h1⟩ k;exact ⟨t,k _ h1⟩)⟩
abbrev C_(H:Hp)(e:Addr):Hp:=λb=>if b=e then none else H b
def FW:C_ H e e=none:=by unfold C_;rw[if_pos rfl]
def gH{e b:Addr}(h:b≠e):C_ H e b=H b:=by unfold C_;rw[if_neg h]
section
variable{X:Cx}{ξ:List (Addr×Obj)}{σ:St}{H:Hp}{s:RC}
def nZ{E:XK}(I:Inv X ξ σ H s)(o:ia X)(hx:H e=some (eQ e C d))(h0:X.s₀.heap.get? e=none)(hE:E (.ref C) d (C_ H e)) :
  wpAny M X.A (leaving X.env (.ref e)) (λ_ s''=>iV X.prog X.w X.outer X.H₀ X.s₀ E (.ref e) s'') E' s:=by
 obtain⟨t,he⟩:=(I.hok e _ hx).1;have FF:s.heap.FunFrames X.base (X.env :: X.outer):=o.stk ▸ I.stack;have hfr:X.A.frames=some (X.env :: X.outer):=o.stk ▸ I.ok.frames;have eqf:(X.env :: X.outer).filterMap (·.frame)=L2.frs X.stack:=by rw[o.stk];rfl
 have hin:∀env∈(X.env :: X.outer),∀b,env.frame=some b->b∈e :: (X.env :: X.outer).filterMap (·.frame):=λenv he b hb=>RA _ (Ww.mpr ⟨env,he,hb⟩)
 have nox:∀b:Addr,b∉X.ex:=λb z=>by rw[o.exs] at z;cases z
 have getB:∀{b:Addr} {ob:Obj},s.heap.get? b=some ob->b≠e->b∉L2.frs X.stack->(hideAll s.heap (e :: (X.env :: X.outer).filterMap (·.frame))).get? b=some ob:=λ{b ob} q n1 n2=>hideAll_get _ q (λz=>by rcases RW.mp z with z|z;exact n1 z;rw[eqf] at z;exact n2 z)
 have ne0:∀{b:Addr} {ob:Obj},X.s₀.heap.get? b=some ob->b≠e:=λq z=>by rw[z,h0] at q;cases q
 refine il (φ:=λo=>o.dict=d) (base:=hideAll s.heap (e :: (X.env :: X.outer).filterMap (·.frame))) (h:=s.heap) iZ rfl hfr (funFrames_hide FF hin) o.frm he (λb ob q=>of_hideAll _ q) (hideAll_none _ Ru) rfl rfl rfl λh' fl up=>?_
 refine⟨e,C,_,_,C_ H e,d,rfl,fl,⟨λa ob q=>?_,λb ob q n hb=>?_,λb ob q n hb=>?_,λb ob q n=>?_,λb ob q hb=>?_,λb xs q=>?_,λb ob u q=>?_,λb ps q=>?_⟩,I.os,I.bare,hE⟩
 .have na:a≠e:=λz=>by rw[z,FW] at q;cases q
  rw[gH na] at q;refine(I.hok a ob q).stay (λb u hb g=>getB g (λz=>?_) λz=>?_) (λb z=>?_) λb xs z=>?_
  .subst z;rcases hb with hb|hb
   .exact na hb.symm
   .rw[hx] at hb;cases hb
  .have fz:=I.ja b z;rcases hb with hb|hb
   .rw[hb,q] at fz;cases fz
   .rw[hb] at fz;cases fz
  .rw[gH (λw=>by rw[w,hx] at z;cases z)];exact z
  .rw[gH (λw=>by rw[w,hx] at z;cases z)];exact z
 .exact getB (I.base.keep b ob q n hb (nox b)) (ne0 q) (I.g_ o q hb)
 .obtain⟨sl,e1⟩:=I.base.slot b ob q n hb (nox b);obtain⟨sl',e2⟩:=up b _ e1 (λvs=>I.jQ hb e1 vs);exact⟨sl',e2⟩
 .rw[gH (ne0 q)];exact I.base.free b ob q n (nox b)
 .obtain⟨o',e1⟩:=I.base.there b ob q (nox b);exact⟨o',getB e1 (ne0 q) (I.g_ o q hb)⟩
 .have z:=I.base.tups b xs q;rw[gH (λw=>by rw[w,hx] at z;cases z)];exact z
 .have z:=I.base.frzs b ob u q;rw[gH (λw=>by rw[w,hx] at z;cases z)];exact z
 .obtain⟨m,z⟩:=I.base.tbls b ps q;exact⟨m,by rw[gH (λw=>by rw[w,hx] at z;cases z)];exact z⟩
end
section
variable{M:Model}{A:SC}{E:Rs->RC->Prop}{env:Env}{s:RC}{Q:Flow->RC->Prop}
def EK{K:Frag}   (hb:Gk K C) (hbe:mroIn K C (.type "BaseException")=some true) (hh:A.handled=none)
  (h:wpAny M A x (λv s1=>∃e t d,v=.ref e/\K.In s1.heap/\s1.heap.get? e=some (cc C t d)/\E (.ref e) s1) E s):wpAny M A (raiseStmt env (some x) none) Q E s:=by
 unfold raiseStmt;refine Ro (SW h (λv s1 h1=>?_) λ_ _ x=>x);obtain⟨e,t,d,rfl,X,he,hE⟩:=h1;obtain⟨tl,N,nm,q,bs,hdct,sn,sub,ab,col,dd,k0,k1,k2,k3,k5,nw,hC⟩:=hb _ X;obtain⟨cd,ce,cm⟩:=Vr.mp hbe
 have hcB:(R_ C :: tl).contains (.type "BaseException")=true:=by
  unfold clsIn at ce;split at ce
  .rename_i c1 d1 cd1 s2 lk;cases ce;have z:=(X _ _ lk).symm.trans hC;unfold excClassObj at z;cases z;split at cm
   .cases cm
   .exact RY cm
  .cases ce
 obtain⟨hp,g,dr,tk,os⟩:=s1;have he':hp.get? e=some {cls:=.ref C,dict:=d,data:=.fields #[.ref t,.none,.none,.none,.bool false,.none]}:=he
 repeat (first|with_reducible refine Uw he' ?_|with_reducible refine Uw hC ?_|(with_reducible refine Wf hC ?_;rw[hcB])|wp_step)
 exact wpAny_raiseNew_none hh hE
end
abbrev mi(E:XK)(C:Addr)(sp:Sp)(te:TE):TS:=λ_ σ H=>te σ H λx H1=>∀e,H1 e=none->sp [.ref e,x] (upd H1 e (eQ e C none)) (λr H2=>r=.non/\∃d,H2 e=some (eQ e C d)/\E (.ref C) d (C_ H2 e)) E0
def Al{cpos:Pos}  {te:TE} (l:Lv X E) (hc:X.calm=true) (hg:Gl X x) (c:ExcI X.K X.mg x C f) (hbe:mroIn X.K C (.type "BaseException")=some true)
  (Fk:FnOk X.prog X.w X.K X.mg X.base bh k f fd ps sp) (hr:Room (k+1) X.A) (hb:Binds X.K fd ps []) (hps:ps.length=2) (he:PE X e₀ te)
  (hst:starEach [e₀] X.env=[(false,eval e₀ X.env)]:=by rfl) (hdb:(x == ("__debug__":Str))=false:=by decide) :
  PS X (.Raise (some (.Call (.Name x np) [e₀] [] cpos)) none pos) (mi E C sp te):=by
 intro ξ s σ H D I h;rw[arm_exec_Raise];simp only[evalOpt,Option.map];refine Ro (Wm (EK (K:=X.K) c.ob hbe (I.ok.hd hc) (Ro (SW (Q:=λv s1=>∃e t d,v=.ref e/\X.K.In s1.heap/\s1.heap.get? e=some (cc C t d)/\X.xe (.ref e) s1) ?_ (λv s3 h3=>Ro (Wm (RE h3))) λ_ _ z=>z))));refine TX (fZ I hg c.at_ ?_ hdb);refine callWith_K (h₀:=X.base) I.ok.mod.kin c.kp (a5 ((aU he cu (by rw[hst];rfl)) cpos ξ s σ H (λvs H1=>∀e,H1 e=none->sp (.ref e :: vs) (upd H1 e (eQ e C none)) (λr H2=>r=.non/\∃d,H2 e=some (eQ e C d)/\E (.ref C) d (C_ H2 e)) E0) I h) λus s1 ⟨vs,H1,I1,r,q⟩=>⟨I1.kIn,?_⟩) (by rw[hst];rfl) rfl;have hq:=q (s1.heap.objs.size+1) (I1.hok.fresh (WF _));have X1:=I1.kIn;obtain⟨tl,N,nm,qn,bs,hdct,sn,sub,ab,col,dd,k0,k1,k2,k3,k5,lk,ht⟩:=c.sh;obtain⟨oI,lI,cI⟩:=RD.mp (beq_iff_eq.mp c.fn);have lenv:=Fk.len _ _ _ _ hq;rw[hps] at lenv;have lenu:us.length=1:=by rw[<- r.length];exact SK lenv
 obtain⟨hh,g,dr,tk,os⟩:=s1;have up:∀b o,hh.get? b=some o->((hh.push {cls:=.type "tuple",data:=.seq us.toArray}).push (cc C hh.objs.size none)).get? b=some o:=λb o z=>Rv _ (Rv _ z)
 have got:((hh.push {cls:=.type "tuple",data:=.seq us.toArray}).push (cc C hh.objs.size none)).get? (hh.objs.size+1)=some (cc C hh.objs.size none):=by heap_get
 have I2:Inv X ξ σ (upd H1 (hh.objs.size+1) (eQ (hh.objs.size+1) C none)) ⟨(hh.push {cls:=.type "tuple",data:=.seq us.toArray}).push (cc C hh.objs.size none),g,dr,tk,os⟩ :=
  I1.laid (a:=hh.objs.size+1) (t':=tk) up (WF _) (tR got)
 have r2:Vals (V.ref (hh.objs.size+1) :: vs) (R_ (hh.objs.size+1) :: us):=.cons rfl r;have hl:(R_ (hh.objs.size+1) :: us++[]).length=ps.length:=by rw[Up,hps,Sn,lenu]
 refine F1 Zf (ht _ X1) X1 (X1 _ _ lk) c.fi (X1 _ _ lI) cI ?_ (by rw[UO,lenu];decide);have bd:=hb _ (R_ (hh.objs.size+1) :: us) I2.kIn hl;rw[Up] at bd;refine Wx (V3 (Fk.run _ X.stack _ _ ⟨R_ (hh.objs.size+1) :: us,[]⟩ (R_ (hh.objs.size+1) :: us) _ _ E0 (hr.make C us []) (I2.env0.make C us []) bd r2 hq) λrr s' hq'=>?_);have s0:X.s₀.heap.get? (hh.objs.size+1)=none:=Xp (RN I1.sz (WF _));cases rr with
 |error e=>exact hq'.elim
 |ok fl =>
  cases fl with
  |ret u =>
   obtain⟨v,H',I3,rv,ev,dx,e3,q3⟩:=I2.after hq';subst ev;obtain⟨t3,g3⟩:=(I3.hok _ _ e3).1;exact⟨rv,_,t3,dx,rfl,I3.kIn,g3,l.2 _ _ (nZ I3 l.1 e3 s0 q3)⟩
  |next=>exact Us hq'
  |brk=>exact Us hq'
  |cont=>exact Us hq'
abbrev uj (K:Frag) (C:Addr):Prop:=∃tl N nm q bs hdct sn sub ab col dd k0 k1 k2 k3 k5,K.lookup C=some (excClassObj nm q C N bs tl hdct sn sub ab col dd k0 k1 k2 k3 k5 "ValueError.__new__")/\∀h:Heap,K.In h->Zt h Hy tl
def ExcI.shape{K:Frag}(i:ExcI K mg x C f):uj K C:=by
 obtain⟨tl,N,nm,q,bs,hdct,sn,sub,ab,col,dd,k0,k1,k2,k3,k5,l,t⟩:=i.sh;exact⟨tl,N,nm,q,bs,hdct,sn,sub,ab,col,dd,k0,k1,k2,k3,k5,l,t⟩
def Di{K:Frag}{V:Addr}{cd cv:VJ}{sub:List Rs}(xV:excIn K V Hy nw=true)(dV:clsIn K V=some cv)(mV:cv.mro=[.ref V]++Hy)
  (L:K.lookup C=some (excClassObj nm q C N bs tl hdct sn sub ab col dd k0 k1 k2 k3 k5 n2)) (dC:clsIn K C=some cd) (mC:cd.mro=[.ref C,.ref V]++Hy) (h:Heap) (X:K.In h):Zt h Hy tl:=by
 have e1:tl=.ref V :: Hy:=by
  unfold clsIn at dC;rw[L] at dC;unfold excClassObj at dC;cases dC;exact(UE mC).2
 obtain⟨tV,NV,_,_,_,_,_,_,_,_,_,_,_,_,_,_,mN,hV,hn,hi,T⟩:=oF X xV
 have e2:tV=Hy:=by
  unfold clsIn at dV;split at dV
  .rename_i c1 d1 cd1 s1 lk;cases dV;have z:=(X _ _ lk).symm.trans hV;unfold excClassObj at z;cases z;exact(UE mV).2
  .cases dV
 rw[e1];rw[e2] at hV T;exact .own hV hn hi T
structure OR (K:Frag) (mg:Str->Option Rs) (v:Str) (V:Addr):Prop where
 at_:mg v=⇑V
 sg:specialIn K (.ref V) "__getattribute__"=some (some (.builtin "type.__getattribute__"))
 rd:readsIn K V (.type "type")=true
 fc:findCls K (.ref V) (.type "type") "__init__"=some (.val (.builtin "ValueError.__init__"))
abbrev y8(K:Frag)(t:TA):TE:=λσ H Q=>t σ H λvs H2=>∃e C d y,vs=[.ref e,y]/\H2 e=some (eQ e C d)/\uj K C/\Q .non H2
section
variable{X:Cx}{o a value:Expr}{es:List Expr}{ta tv:TE}{t:TA}{f v:Str}{V:Addr}{vp apos pos pos':Pos}
def E4{pl:Sem Bool} (hg:Gl X v) (B:OR X.K X.mg v V) (ha:PA X (a :: es) t) (hdb:(v == ("__debug__":Str))=false:=by decide)
  (hst:starEach (a :: es) X.env=(false,eval a X.env) :: starEach es X.env:=by rfl) (hpl:(backTo pos (starEach es X.env)).any (·.1)=false:=by rfl)
  (ht:eval (.Call (.Attribute (.Name v vp) "__init__" apos) (a :: es) [] pos) X.env=(do
   let ov <- eval (.Name v vp) X.env
   standAt apos.atName
   let (f,first) <- holding [ov] (getMethod ov "__init__" pl)
   callWith pos f first (backTo pos (starEach (a :: es) X.env)) (backToKw pos (keywordEach [] X.env))):=by rfl) :
  PE X (.Call (.Attribute (.Name v vp) "__init__" apos) (a :: es) [] pos) (y8 X.K t):=by
 intro ξ s σ H Q I h;refine methodCall_KW (pl:=pl) (fZ I hg B.at_ (method_cls I.kIn B.sg (cls_value I.kIn B.rd B.fc (by decide +kernel) ?_)) hdb) ht;refine Vv (a5 (ha pos ξ {s with toks:=s.toks+1} σ H _ (I.tok _) h) λus s2 ω=>?_) hst hpl;obtain⟨vs,H2,I2,r,e,C,d,y,hv,he,hS,q⟩:=ω;subst hv;obtain⟨u,u2,rfl,rx,_⟩:=vals2 r;obtain rfl:u=R_ e:=rx;obtain⟨tl,N,nm,qn,bs,hdct,sn,sub,ab,col,dd,k0,k1,k2,k3,k5,lk,ht'⟩:=hS;obtain⟨t0,g⟩:=(I2.hok e _ he).1;obtain⟨hh,gs,dr,tk,os⟩:=s2;refine CD (rest:=[u2]) Zf (ht' _ I2.kIn) (I2.kIn _ _ lk) g (λh' t1 kp gx=>?_) (show 1<=sizeLine by decide);have I3:Inv X ξ σ (upd H2 e (eQ e C d)) ⟨h',gs,dr,tk,os⟩:=I2.write (x:=e) (e:=e) (t':=tk) (by rw[he];exact UB) (.inl rfl) kp ⟨_,gx⟩ (tR gx)
 have eH:upd H2 e (eQ e C d)=H2:=funext λb=>by
  by_cases z:b=e
  .rw[z,ag,he]
  .rw[aC z]
 rw[eH] at I3;exact⟨.non,H2,I3,rfl,q⟩
abbrev LP(K:Frag)(ta tv:TE)(f:Str):TS:=λD σ H=>tv σ H λy H1=>ta σ H1 λx H2=>∃e C,x=.ref e/\H2 e=some (eQ e C none)/\oS K C f/\∀dx,H2 dx=none->D.nx σ (upd (upd H2 dx (.xd [(f,y)])) e (eQ e C (some dx)))
def Js(ha:PE X o ta)(hv:PE X value tv)(hs:swapsWith value (some (.Attribute o f pos')) pos.line X.env=pure false):PS X (.Assign [.Attribute o f pos'] value pos) (LP X.K ta tv f):=by
 intro ξ s σ H D I h;refine plainObj_wpAny_Assign_Attribute (a5 (hv ξ s σ H _ I h) λu s1 ⟨y,H1,I1,ry,q⟩=>a5 (ha ξ s1 σ H1 _ I1 q) λov s2 ω=>?_) hs;obtain⟨x,H2,I2,rx,e,C,ex,he,F,q2⟩:=ω;subst ex;obtain rfl:ov=R_ e:=rx;obtain⟨t,g⟩:=(I2.hok e _ he).1;refine BZ I2.kIn g F λh' tk n gx kp=>?_
 have fr:H2 s2.heap.objs.size=none:=I2.hok.fresh (RB _);have ne:e≠s2.heap.objs.size:=Si (RV g)
 have hxd:∀H',bB X.prog X.w H' h' s2.heap.objs.size (.xd [(f,y)]):=λH'=>by
  refine⟨_,n,λk=>?_⟩;by_cases z:k=f
  .subst z;simp only[List.lookup,BEq.rfl,if_pos];exact ry
  .have zb:(k == f)=false:=beq_eq_false_iff_ne.mpr z;simp only[List.lookup,zb,if_neg z];exact UB
 have I3:Inv X ξ σ (upd H2 e (eQ e C (some s2.heap.objs.size))) {s2 with heap:=h',toks:=tk}:=I2.write (x:=e) (e:=e) (t':=tk) (by rw[he];exact UB) (.inl rfl) kp ⟨_,gx⟩ (tR gx)
 have I4:=I3.track (e:=s2.heap.objs.size) (o:=.xd [(f,y)]) (by rw[aC (UJ ne)];exact fr) (Xp I2.sz) (UD I2.lt)
  (λx c z=>by obtain⟨v',ob,ho,_⟩:=I2.cell x c z;exact Si (RV ho)) (λp hp=>Si (RV (I2.pin p hp).1)) (hxd _)
 refine⟨σ,_,I4,?_⟩
 have sw:upd (upd H2 e (eQ e C (some s2.heap.objs.size))) s2.heap.objs.size (.xd [(f,y)])=upd (upd H2 s2.heap.objs.size (.xd [(f,y)])) e (eQ e C (some s2.heap.objs.size)):=funext λb=>by
  unfold upd;by_cases z:b=e
  .rw[if_pos z,if_neg (λw=>ne (z.symm.trans w)),if_pos z]
  .rw[if_neg z,if_neg z]
 rw[sw];exact q2 _ fr
abbrev yY(K:Frag)(ta:TE)(f:Str):TE:=λσ H Q=>ta σ H λx H1=>∃e C dx fs v,x=.ref e/\H1 e=some (xj e C dx)/\H1 dx=some (.xd fs)/\j4 K C/\oS K C f/\fs.lookup f=some v/\Q v H1
def JE(he:PE X a ta)(hb:attributeBase a f X.env (eval a X.env)=eval a X.env):PE X (.Attribute a f pos) (yY X.K ta f):=by
 intro ξ s σ H Q I h;refine KQ hb (a5 (he ξ s σ H _ I h) λu s1 ω=>?_);obtain⟨x,H1,I1,rx,e,C,dx,fs,v,ex,ee,ed,eA,eF,l,q⟩:=ω;subst ex;obtain rfl:u=R_ e:=rx;obtain⟨oe,h1,h2,h3,h4⟩:=(I1.hok e _ ee).1;obtain⟨mA,n,r⟩:=I1.hok dx _ ed;obtain⟨u',hu,ru⟩:=RelO.some_of (v:=v) (o:=mA f) (by rw[<- l];exact r f);exact FQ I1.kIn h1 h2 h4 h3 n eA eF hu (BH ru) ⟨v,H1,I1.tok _,ru,q⟩
end
structure K5 (P:RM) (w:R4) (K:Frag) (mg:Str->Option Rs) (base:Heap) (k:Nat) (x:Str) (C:Addr) (sp:Sp):Prop where
 ex:∃(f:Addr) (fd:UR) (ps:List Str),ExcI K mg x C f/\mroIn K C (.type "BaseException")=some true/\FnOk P w K mg base bh k f fd ps sp/\Binds K fd ps []/\ps.length=2
def Am{cpos:Pos}{te:TE}(l:Lv X E)(hc:X.calm=true)(hg:Gl X x)(i:K5 X.prog X.w X.K X.mg X.base k x C sp)(hr:Room (k+1) X.A)(he:PE X e₀ te)
  (hst:starEach [e₀] X.env=[(false,eval e₀ X.env)]:=by rfl) (hdb:(x == ("__debug__":Str))=false:=by decide) :
  PS X (.Raise (some (.Call (.Name x np) [e₀] [] cpos)) none pos) (mi E C sp te):=by
 obtain⟨f,fd,ps,c,be,Fk,hb,hp⟩:=i.ex;exact Al l hc hg c be Fk hr hb hp he hst hdb
abbrev sN(K:Frag)(C:Addr)(f:Str):Sp:=λvs H Q _=>∃(e:Addr) (n:Nat),vs=[.ref e,.int (n:Int)]/\n<1000/\H e=some (eQ e C none)/\uj K C/\oS K C f/\∀dx,H dx=none->Q .non (upd (upd H dx (.xd [(f,.int (n:Int))])) e (eQ e C (some dx)))
def J_{K:Frag}{vs:List V}{a b:Str}(h:sN K C f vs H Q E):vs.length=[a,b].length:=by
 obtain⟨e,y,rfl,_⟩:=h;rfl
def Fo{K:Frag}{E:XK}{i:Nat}{D:bH}{σ:St}{n:Nat}(s:uj K C)(a:oS K C f)(hv:σ[i]?=some (↥(n:Int)))(hn:n<1000)
  (k:∀dx H',Same H H'->H' dx=some (.xd [(f,.int (n:Int))])->E (.ref C) (some dx) H'):mi E C (sN K C f) (aa i) D σ H:=by
 refine⟨_,hv,λe he=>⟨e,n,rfl,hn,ag,s,a,λdx hdx=>⟨rfl,some dx,ag,k dx _ ?_ ?_⟩⟩⟩
 .have ne:dx≠e:=λz=>by rw[z,ag] at hdx;cases hdx
  have hd1:H dx=none:=by rw[aC ne] at hdx;exact hdx
  intro b o q;have nb:b≠e:=λz=>by rw[z,he] at q;cases q
  have nd:b≠dx:=λz=>by rw[z,hd1] at q;cases q
  rw[gH nb,aC nb,aC nd,aC nb];exact q
 .have ne:dx≠e:=λz=>by rw[z,ag] at hdx;cases hdx
  rw[gH ne,aC ne,ag]
def Fun.iniC{K:Frag}         (c:ExcI K mg x C f) (be:mroIn K C (.type "BaseException")=some true) (F:FnOk P w K mg base bh k f fd ps sp) (b:Binds K fd ps []) (l:ps.length=2):K5 P w K mg base k x C sp:=⟨⟨f,fd,ps,c,be,F,b,l⟩⟩
open PySem.W (Dat kqdP kqdPs kqdOk)
mutual
inductive Rep (K:Fg) (H:Hp):V->Dat->Prop
 |non:Rep K H .non .none
 |bl (b:Bool):Rep K H (.bl b) (.bool b)
 |int (i:Int):Rep K H (.int i) (.int i)
 |str (x:Str):Rep K H (.str x) (.str x)
 |tup {a:Addr} {xs:List V} {ds:List Dat}:SqT K H a xs->RepL K H xs ds->Rep K H (.ref a) (.tuple ds)
 |lst {a:Addr} {xs:List V} {ds:List Dat}:SqL K H a xs->RepL K H xs ds->Rep K H (.ref a) (.list ds)
inductive RepL (K:Fg) (H:Hp):List V->List Dat->Prop
 |nil:RepL K H [] []
 |cons {v:V} {d:Dat} {vs:List V} {ds:List Dat}:Rep K H v d->RepL K H vs ds->RepL K H (v :: vs) (d :: ds)
end
section
variable{K:Fg}{H H':Hp}
def RepL.ints:∀ns:List Int,RepL K H (ns.map V.int) (ns.map Ss)
 |[]=>.nil
 |n :: ns=>.cons (.int n) (RepL.ints ns)
end
section
variable{X:Cx}{ξ:List (Addr×Obj)}{σ:St}{H:Hp}{s:RC}
mutual
def Rep.reads(I:Inv X ξ σ H s):∀{v:V} {d:Dat} {u:Rs},Rep X.K H v d->RelV v u->∃as,Reads s.heap u (kqdP d) as
 |_,_,u,.non,r=>by
  cases (show u=Tx from r);exact⟨_,Reads.none⟩
 |_,_,u,.bl b,r=>by
  cases (show u=XS b from r);exact⟨_,Reads.bool b⟩
 |_,_,u,.int i,r=>by
  obtain⟨t,e⟩:=(show ∃t,u=VH i t from r)
  cases e;exact⟨_,Reads.int i t⟩
 |_,_,u,.str x,r=>by
  obtain⟨t,e⟩:=(show ∃t,u=Yv x t from r)
  cases e;exact⟨_,Reads.str x t⟩
 |_,_,u,@Rep.tup _ _ a xs ds h q,r=>by
  cases (show u=R_ a from r);obtain⟨gV,rv,⟨o,e,c,n,dd⟩,_⟩:=I.tuple h;obtain⟨as,p⟩:=RepL.reads I q rv;rw[kqdP];exact⟨_,Reads.tuple e c dd (by simpa using p)⟩
 |_,_,u,@Rep.lst _ _ a xs ds h q,r=>by
  cases (show u=R_ a from r);obtain⟨gV,rv,⟨o,n,e,c,_,dd⟩,_⟩:=I.list h;obtain⟨as,p⟩:=RepL.reads I q rv;rw[kqdP];exact⟨_,Reads.list e c dd (by simpa using p)⟩
def RepL.reads(I:Inv X ξ σ H s):∀{vs:List V} {ds:List Dat} {us:List Rs},RepL X.K H vs ds->Vals vs us->∃as,ReadsAll s.heap us (kqdPs ds) as
 |_,_,_,.nil,.nil=>by
  rw[kqdPs];exact⟨_,ReadsAll.nil⟩
 |_,_,_,.cons h q,.cons r rr=>by
  obtain⟨as,p⟩:=Rep.reads I h r;obtain⟨bs,p'⟩:=RepL.reads I q rr;rw[kqdPs];exact⟨_,ReadsAll.cons p p'⟩
end
open Classical in
def KE(hd:kqdOk 8 d=true)(he:kqdOk 8 e=true):PyData.eqv (kqdP d) (kqdP e)=decide (d=e):=by
 have q:=PySem.W.kqd_eqv 8 d e 8 hd he;by_cases z:d=e
 .rw[decide_eq_true z];exact q.mpr z
 .rw[decide_eq_false z];exact WT.mpr λy=>z (q.mp y)
def pB(h:kqdOk 8 d=true):SeqAt.shaped (kqdP d)=true:=by
 have l:=XB 8 d h;unfold SeqAt.shaped;rw[l.1,Bool.true_and];exact decide_eq_true (RN l.2 (by decide))
open Classical in
abbrev EM(K:Fg):R2:=λx y H Q=>∃d e,Rep K H x d/\Rep K H y e/\kqdOk 8 d=true/\kqdOk 8 e=true/\Q (.bl (!decide (d=e))) H
def MN(hu:X.A.units+64<cLine):fu X (compareOp .NotEq) (EM X.K):=by
 intro ξ s σ H x y v u Q I rx ry h;obtain⟨d,e,hd,he,kd,ke,q⟩:=h;obtain⟨as,ra⟩:=Rep.reads I hd rx;obtain⟨bs,rb⟩:=Rep.reads I he ry;exact ne_dataH ra rb (pB kd) (pB ke) hu ⟨_,H,I,(by rw[KE kd ke];rfl),q⟩
open Classical in
def CG{ds:List Dat}(ha:∀e∈ds,kqdOk 8 e=true)(hd:kqdOk 8 d=true):((kqdPs ds).any λy=>PyData.eqv y (kqdP d))=decide (d∈ds):=by
 by_cases z:d∈ds
 .rw[decide_eq_true z];exact(Zbc ds d ha hd).mpr z
 .rw[decide_eq_false z];exact WT.mpr λy=>z ((Zbc ds d ha hd).mp y)
open Classical in
abbrev pR(K:Fg)(neg:Bool):R2:=λx y H Q=>∃d ds,Rep K H x d/\Rep K H y (.list ds)/\(∀e∈ds,kqdOk 8 e=true)/\kqdOk 8 d=true/\Q (.bl (if neg then !decide (d∈ds) else decide (d∈ds))) H
def Bz{A:SC}(hd:kqdOk 8 d=true)(hu:A.units+64<cLine):A.units+1+min (Zbd (kqdPs ds)) (kqdP d).depth<cLine:=by
 have l:=(XB 8 d hd).2
 have:=YA (Zbd (kqdPs ds)) (kqdP d).depth
 lia
def MT(hu:X.A.units+64<cLine):fu X (compareOp .In) (pR X.K false):=by
 intro ξ s σ H x y v u Q I rx ry h;obtain⟨d,ds,hd,he,ka,kd,q⟩:=h;obtain⟨as,ra⟩:=Rep.reads I hd rx;obtain⟨bs,rb⟩:=Rep.reads I he ry;rw[kqdP] at rb;exact SeqAt.in_list_reads rb ra (ZaQ ka).1 (XB 8 d kd).1 (Bz kd hu) ⟨_,H,I,(by rw[CG ka kd];rfl),q⟩
def AH(hu:X.A.units+64<cLine):fu X (compareOp .NotIn) (pR X.K true):=by
 intro ξ s σ H x y v u Q I rx ry h;obtain⟨d,ds,hd,he,ka,kd,q⟩:=h;obtain⟨as,ra⟩:=Rep.reads I hd rx;obtain⟨bs,rb⟩:=Rep.reads I he ry;rw[kqdP] at rb;exact SeqAt.notIn_list_reads rb ra (ZaQ ka).1 (XB 8 d kd).1 (Bz kd hu) ⟨_,H,I,(by rw[CG ka kd];rfl),q⟩
end
abbrev aZ(X:Cx)(ys M:List Str)(scope:Scope)(cl:List (Str×Addr))(C:Addr)(s:RC)(H:Hp)(fp:List Addr)(ξ:List (Addr×Obj)):Cx where
 prog:=X.prog
 w:=X.w
 K:=X.K
 mg:=X.mg
 base:=X.base
 A:=X.A
 N:=ys++M
 s₀:=s
 H₀:=H
 env:=compEnvC scope cl C X.env
 outer:=X.stack
 stack:=X.stack
 ex:=fp
 fn:=λ_=>false
 calm:=X.calm
 pn:=X.pn++ξ
 xe:=λ_ _=>False
structure iq (X:Cx) (ys M:List Str) (scope:Scope) (cl:List (Str×Addr)):Prop where
 kind:scope.kind=.function
 nocell:∀y∈scope.names,y.2≠.cell
 names:∀y∈scope.names,y.2=.local->scope.names.lookup y.1=some .local
 own:∀y∈ys,scope.names.lookup y=some .local
 clos:closureFor scope X.env=pure cl
 nd:(ys++M).Nodup
 len:M.length=X.N.length
 same:∀p∈M.zip X.N,p.1=p.2\/(relabel scope X.env).names.lookup p.1=none
 apart:∀y∈M,(relabel scope X.env).names.lookup y≠some .local
 cells:∀y c,cl.lookup y=some c->X.env.cells.lookup y=some c/\(X.env.scope.names.lookup y=some .cell\/X.env.scope.names.lookup y=some .free)
 has:∀y,((relabel scope X.env).names.lookup y=some .cell\/(relabel scope X.env).names.lookup y=some .free)->∃c,cl.lookup y=some c
section
variable{X:Cx}{ys M:List Str}{scope:Scope}{cl:List (Str×Addr)}{C:Addr}{s:RC}{H:Hp}{fp:List Addr}{ξ:List (Addr×Obj)}{σ:St}
def Fy{h1:Heap}{tk:Nat}(I:Inv X ξ σ H s)(c:iq X ys M scope cl)(eC:C=s.heap.objs.size)(hns:h1.Ns C (λ_=>none))(hsb:UT C (s.heap.push o) h1)
  (fk:∀b∈fp,iU X ξ H b/\∃o,s.heap.get? b=some o):Inv (aZ X ys M scope cl C s H fp ξ) [] (Sg ys.length none ++ σ) H {s with heap:=h1,toks:=tk}:=by
 have keep:∀b u,s.heap.get? b=some u->h1.get? b=some u:=λb u e=>hsb.extBut b u (by rw[eC];exact Si (RV e)) (Rv _ e)
 have neC:∀b u,s.heap.get? b=some u->b≠C:=λb u e=>by rw[eC];exact Si (RV e)
 have out:∀{b:Addr},b≠X.env.locals->b∉X.fs->b∉frs X.stack:=λh1 h2 z=>(RW.mp (I.zc _ z)).elim h1 h2
 refine⟨⟨I.ok.mod,c.kind,I.ok.glob,I.ok.blt,by rw[eC];exact RB _,λy z a h1 h2=>I.ok.inj y z a (c.cells y a h1).1 (c.cells z a h2).1,c.has,λy a z _=>ZaP z,I.ok.hd,I.ok.frames,.inl rfl,λb hb=>?_,I.bs,RN I.ok.bsz I.sz,λb u e hb=>?_,λb hb=>?_,I.stack,I.ja⟩,
  rfl,I.bare,Un.kept keep,⟨_,hns,λi y v e1 e2 e3=>?_⟩,λy a e=>?_,I.hok.fresh (by rw[eC];exact RB _),λy a e=>I.freeC y a (c.cells y a e).1,λp hp=>?_,I.hok.kept keep,?_⟩
 .obtain⟨⟨_,_,_,_,f5,_⟩,u,e⟩:=fk b hb;exact⟨neC b u e,λy a q=>f5 y a (c.cells y a q).1⟩
 .obtain⟨⟨_,_,_,f4,_,_⟩,_⟩:=fk b hb;rcases f4 with z|z
  .exact I.ok.noex b u e z
  .exact absurd (R3 (RV (I.ok.bs b u e).1) z) (UX _)
 .obtain⟨⟨_,f2,f3,_,_,_⟩,_⟩:=fk b hb;exact out f2 f3
 .by_cases lt:i<ys.length
  .have e2':(Sg ys.length (none:Option V) ++ σ)[i]?=some (some v):=e2;rw[SO (by simpa using lt),List.getElem?_replicate_of_lt lt] at e2';cases e2'
  .have e0:M[i-ys.length]?=some y:=by
    have e1':(ys++M)[i]?=some y:=e1
    rwa [Tj (by lia)] at e1'
   have e2':σ[i-ys.length]?=some (some v):=by
    have e2':(Sg ys.length (none:Option V) ++ σ)[i]?=some (some v):=e2
    rwa [Tj (by simpa using lt),U5] at e2'
   have hy:y∈M:=Ry e0
   have vis0:(relabel scope X.env).names.lookup y≠none:=by
    rcases e3 with z|z|z <;> (intro q;have q':=(show(relabel scope X.env).names.lookup y=some _ from z).symm.trans q;cases q')
   have e1':X.N[i-ys.length]?=some y:=by
    have hlt:i-ys.length<X.N.length:=by rw[<- c.len];exact(Rq.mp e0).1
    have hz:(y,X.N[i-ys.length])∈M.zip X.N:=by
     refine Ry (i:=i-ys.length) ?_;rw[U8];exact⟨e0,Rn hlt⟩
    rcases c.same _ hz with q|q
    .rw[Rn hlt];exact congrArg some q.symm
    .exact absurd q vis0
   have e3':(relabel scope X.env).names.lookup y=some .cell\/(relabel scope X.env).names.lookup y=some .free:=by
    rcases e3 with z|z|z
    .exact absurd z (c.apart y hy)
    .exact .inl z
    .exact .inr z
   obtain⟨a,ea⟩:=c.has y e3';obtain⟨q1,q2⟩:=c.cells y a ea;obtain⟨m,_,hl⟩:=I.loc;have vis:O1 X.env.scope y:=.inr q2;obtain⟨u,ru,lu⟩:=hl (i-ys.length) y v e1' e2' vis;refine⟨u,ru,.inr ⟨e3',a,ea,?_⟩⟩;rcases lu with⟨z,_⟩|⟨_,a',ea',⟨oc,hoc,hd⟩⟩
   .have z':X.env.scope.names.lookup y=some .local:=z;rcases q2 with q2|q2 <;> (rw[z'] at q2;cases q2)
   .rw[q1] at ea';cases ea';exact⟨oc,keep _ _ hoc,hd⟩
 .obtain⟨v,oc,hoc,hd⟩:=I.cell y a (c.cells y a e).1;exact⟨v,oc,keep _ _ hoc,hd⟩
 .have hp':p∈X.pn++ξ:=by simpa[aZ] using hp
  obtain⟨q1,q2,q3,q4,q5⟩:=I.pin p hp';exact⟨keep _ _ q1,q2,neC _ _ q1,out q3 q4,q5⟩
 .show(Sg ys.length none ++ σ).length=(ys++M).length;rw[RF,RF,U5,I.len,c.len]
def xh(I:Inv X ξ σ H s)(fk:∀b∈fp,iU X ξ H b/\∃o,s.heap.get? b=some o)(I':Inv (aZ X ys M scope cl C s H fp ξ) pins' σ' H' s1):Inv X ξ σ H' s1 :=
 I.call' (ch:=fp) I'.os I'.base I'.hok I'.bare λb hb=>let ⟨⟨_,f2,_,f4,f5,f6⟩,_⟩:=fk b hb;⟨f4,f2,f5,f6⟩
abbrev ul(J:It)(n:Nat)(g:TG)(te:TE)(σ:St)(Q:VK)(H1:Hp):Prop:=∀D,H1 D=none->∃W:Nat->Nat->Hp->Prop,(∃m,W 0 m (upd H1 D (.lst [])))/\∀i m H,W i m H ->
 (J.stop i H/\Q (.ref D) H)\/(J.go i H/\∀v H',J.yld i H v H'->∀us:St,us.length=n->g v (us ++ σ) H' λσ2 H2=>(∃us':St,us'.length=n/\σ2=us' ++ σ)/\te σ2 H2 λy H3=>∃xs,H3 D=some (.lst xs)/\xs.length<sizeLine/\∃m',m'<m/\W (i+1) m' (upd H3 D (.lst (xs++[y]))))
abbrev fH(wi:TI)(n:Nat)(g:TG)(te:TE):TE:=λσ H Q=>wi σ H λJ H1=>ul J n g te σ Q H1
abbrev cQ(J:It)(te:TE)(σ:St)(Q:VK)(H1:Hp):Prop:=∀D,H1 D=none->∃W:Nat->Nat->Hp->Prop,(∃m,W 0 m (upd H1 D (.lst [])))/\∀i m H,W i m H ->
 (J.stop i H/\Q (.ref D) H)\/(J.go i H/\∀v H',J.yld i H v H'->te (some v :: σ) H' λy H2=>∃xs,H2 D=some (.lst xs)/\xs.length<sizeLine/\∃m',m'<m/\W (i+1) m' (upd H2 D (.lst (xs++[y]))))
abbrev fA(wi:TI)(te:TE):TE:=λσ H Q=>wi σ H λJ H1=>cQ J te σ Q H1
def vS{σ:St}{Q:VK}(h:cQ J te σ Q H1):ul J 1 (al 0) te σ Q H1:=by
 intro D nD;obtain⟨W,h0,hs⟩:=h D nD;refine⟨W,h0,λi m H w=>?_⟩;rcases hs i m H w with q|⟨go,st⟩
 .exact .inl q
 .refine .inr ⟨go,λv H' y us hu=>?_⟩;obtain⟨u,rfl⟩:∃u,us=[u]:=UV.mp hu;exact⟨⟨[some v],rfl,rfl⟩,st v H' y⟩
abbrev OT(J:It)(n:Nat)(g:TG)(tc:TT)(te:TE)(σ:St)(QQ:Addr->Hp->Prop)(H1:Hp):Prop:=∀D,H1 D=none->∃W:Nat->Nat->Hp->Prop,(∃m,W 0 m (upd H1 D (.lst [])))/\∀i m H,W i m H ->
 (J.stop i H/\QQ D H)\/(J.go i H/\∀v H',J.yld i H v H'->∀us:St,us.length=n->g v (us ++ σ) H' λσ2 H2=>(∃us':St,us'.length=n/\σ2=us' ++ σ)/\tc σ2 H2 λb H3 =>
  if b=true then te σ2 H3 λy H4=>∃xs,H4 D=some (.lst xs)/\xs.length<sizeLine/\∃m',m'<m/\W (i+1) m' (upd H4 D (.lst (xs++[y]))) else ∃m',m'<m/\W (i+1) m' H3)
nonrec abbrev CQ(J:It)(n:Nat)(g:TG)(tc:TT)(te:TE)(σ:St)(Q:VK)(H1:Hp):Prop:=OT J n g tc te σ (λD H=>Q (.ref D) H) H1
abbrev ig(wi:TI)(n:Nat)(g:TG)(tc:TT)(te:TE):TE:=λσ H Q=>wi σ H λJ H1=>CQ J n g tc te σ Q H1
nonrec abbrev Lq(ifs:List Expr)(env:Env):Sem Bool:=forIn ifs true λc r=>if r=true then (do let ok <- isTrue c env (eval c env);pure (XC ok)) else pure (XC r)
abbrev OI(X:Cx)(ifs:List Expr)(tc:TT):Prop:=∀(ξ:List (Addr×Obj)) (s:RC) (σ:St) (H:Hp) (Q:Bool->Hp->Prop),Inv X ξ σ H s->tc σ H Q->wpAny (model X.prog X.w) X.A (Lq ifs X.env) (λb s'=>∃H',Inv X ξ σ H' s'/\Q b H') X.xe s
nonrec abbrev Ie:TT:=λ_ H Q=>Q true H
def Ai{X:Cx}:OI X [] Ie:=λ_ _ _ H _ I h=>wpAny_tests_nil ⟨H,I,h⟩
def Jq{X:Cx}(h:PT X c tc):OI X [c] tc:=λξ s σ H Q I q=>wpAny_tests_one (h ξ s σ H Q I q)
def Cp{R:ZaM->RC->Prop}{s:RC}{iter:Expr}{scope:Scope}{acc:Rs}(I:Nat->RC->Prop)
  (turn:∀n s,I n s->wpAny (model prog w) A (pyNext it) (λr s1=>match r with
   |none=>R (.ok .next) s1
   |some v=>wpAny (model prog w) A (letOwnedTupleGo target it v) (λ_ s2=>wpAny (model prog w) A (assign target env v) (λ_ s3=>wpAny (model prog w) A (Lq ifs env) (λok s4 =>
     if ok=true then wpAny (model prog w) A (eval elt env) (λx s5=>wpAny (model prog w) A (call (.builtin "list.append") [acc,x]) (λ_ s6=>∃m,m<n/\I m s6) (λ_ _=>False) s5) (λ_ _=>False) s4
     else ∃m,m<n/\I m s4) (λ_ _=>False) s3) (λ_ _=>False) s2) (λ_ _=>False) s1) (λ_ _=>False) s) (n:Nat) (h:I n s) :
  codeAny (model prog w) A (.compLoop (.ListComp elt [⟨target,iter,ifs,0⟩] scope pos) 0 it acc env) R s:=by
 refine codeAny_loop rfl I (λk s1 hI=>?_) n h;have no:∀{α:Type} {t:Sem α} {P:α->RC->Prop} {E:Rs->RC->Prop} {z:RC},wpAny (model prog w) A t P (λ_ _=>False) z->wpAny (model prog w) A t P E z:=λq=>SW q (λ_ _ z=>z) λ_ _ z=>z.elim
 show wpAny _ _ ((compTurn (.ListComp elt [⟨target,iter,ifs,0⟩] scope pos) 0 it acc env).onRaise _) _ _ s1;refine wpAny_noted ?_;rw[compTurn_list];refine Ro (Wm (Ro (no (SW (turn k s1 hI) (λr s2 h2=>?_) λ_ _ z=>z))));cases r with
 |none=>exact RE h2
 |some v =>
  refine Ro (no (SW h2 (λ_ s3 h3=>?_) λ_ _ z=>z));refine Ro (no (SW h3 (λ_ s4 h4=>?_) λ_ _ z=>z));refine Ro (no (SW h4 (λok s5 h5=>?_) λ_ _ z=>z));cases ok with
  |true =>
   rw[if_pos rfl] at h5;refine Ro (Ro (no (SW h5 (λx s6 h6=>?_) λ_ _ z=>z)));exact Ro (no (SW h6 (λ_ s7 h7=>RE (RE ⟨rfl,h7⟩)) λ_ _ z=>z))
  |false =>
   rw[if_neg Sd] at h5;exact RE ⟨rfl,h5⟩
def qN{iter:Expr}{E:Rs->RC->Prop}{QQ:Addr->Hp->Prop}{RR:Rs->Addr->ZaM->RC->Prop}(I:Inv X ξ σ H s)(c:iq X ys M scope cl)(hc:X.calm=true)
  (hg:∀C s₀ H₀ fp ξ,PG (aZ X ys M scope cl C s₀ H₀ fp ξ) tg g) (ht:∀C s₀ H₀ fp ξ,OI (aZ X ys M scope cl C s₀ H₀ fp ξ) ifs tc) (he:∀C s₀ H₀ fp ξ,PE (aZ X ys M scope cl C s₀ H₀ fp ξ) elt te) (T:ug X.prog X.w X.K tg J fp it tn) (st:tn 0 s.heap) (fk:∀b∈fp,iU X ξ H b)
  (h:OT J ys.length g tc te σ QQ H)
  (fin:∀D C H' s',s.heap.objs.size<=C->s'.heap.get? C≠none->(∃m,s'.heap.Ns C m)->H' C=none->Inv X ξ σ H' s'->QQ D H'->RR (.ref D) C (.ok .next) s') :
  wpAny (model X.prog X.w) X.A (newList []) (λacc s₃=>wpAny (model X.prog X.w) X.A (newFunctionEnv scope X.env.globals cl [] X.env.qual none .none (some X.env)) (λcenv s₄ =>
   codeAny (model X.prog X.w) X.A (.compStart (.ListComp elt [⟨tg,iter,ifs,0⟩] scope pos) 0 (.ref it) acc {cenv with scope:=relabel scope X.env}) (RR acc cenv.locals) s₄) E s₃) E s:=by
 refine TK (wpAny_newFunctionEnv c.nocell (by intro y hy;simp at hy) (λh1 hns hsb=>?_) c.kind);dsimp only at hns hsb ⊢;have hf:H s.heap.objs.size=none:=I.hok.fresh (RB _)
 have I3:Inv X ξ σ (upd H s.heap.objs.size (.lst [])) {s with heap:=s.heap.push {cls:=.type "list",dict:=none,data:=.seq ([]:List Rs).toArray}} :=
  I.laid (t':=s.toks) (λb u e=>Rv _ e) (RB _) ⟨by decide,[],_,.nil,Sb _ rfl⟩
 have eD:∀b u,s.heap.get? b=some u->b≠s.heap.objs.size:=λb u e=>Si (RV e)
 have fk3:∀b∈fp,iU X ξ (upd H s.heap.objs.size (.lst [])) b/\∃o,(s.heap.push {cls:=.type "list",dict:=none,data:=.seq ([]:List Rs).toArray}).get? b=some o:=λb hb=>by
  obtain⟨o,eo,_⟩:=T.obj 0 _ st b hb;obtain⟨f1,f2⟩:=fk b hb;exact⟨⟨by rw[aC (eD b o eo)];exact f1,f2⟩,o,Rv _ eo⟩
 have I4:=Fy (tk:=s.toks+([]:List (Str×Rs)).length) I3 c rfl hns hsb fk3;obtain⟨W,⟨m0,w0⟩,turn⟩:=h _ hf
 have st4:tn 0 h1:=T.keep 0 _ _ st λb hb o e=>by
  have e2:=Rv {cls:=.type "list",dict:=none,data:=.seq ([]:List Rs).toArray} e;exact hsb.extBut b o (Si (RV e2)) (Rv _ e2)
 have stat:∀{H':Hp},(∀b∈fp,H' b=none)->∀b∈fp,iU (aZ X ys M scope cl (s.heap.push {cls:=.type "list",dict:=none,data:=.seq ([]:List Rs).toArray}).objs.size {s with heap:=s.heap.push {cls:=.type "list",dict:=none,data:=.seq ([]:List Rs).toArray}} (upd H s.heap.objs.size (.lst [])) fp ξ) [] H' b :=
  λhn b hb=>⟨hn b hb,(I4.ok.exf b hb).1,I4.ok.exfs b hb,.inl hb,(I4.ok.exf b hb).2,λp hp=>(fk3 b hb).1.2.2.2.2.2 p (by simpa[aZ] using hp)⟩
 have loop:∀s4:RC,s4 = {s with heap:=h1,toks:=s.toks+([]:List (Str×Rs)).length} ->
   codeAny (model X.prog X.w) X.A (.compLoop (.ListComp elt [⟨tg,iter,ifs,0⟩] scope pos) 0 (.ref it) (.ref s.heap.objs.size) (compEnvC scope cl (s.heap.push {cls:=.type "list",dict:=none,data:=.seq ([]:List Rs).toArray}).objs.size X.env))
    (RR (.ref s.heap.objs.size) (s.heap.push {cls:=.type "list",dict:=none,data:=.seq ([]:List Rs).toArray}).objs.size) s4:=by
  rintro s4 rfl
  refine Cp (λn s'=>∃(i:Nat) (us:St) (H':Hp),us.length=ys.length/\Inv (aZ X ys M scope cl (s.heap.push {cls:=.type "list",dict:=none,data:=.seq ([]:List Rs).toArray}).objs.size {s with heap:=s.heap.push {cls:=.type "list",dict:=none,data:=.seq ([]:List Rs).toArray}} (upd H s.heap.objs.size (.lst [])) fp ξ) [] (us ++ σ) H' s'/\tn i s'.heap/\(∀b∈fp,H' b=none)/\W i n H')
   ?_ m0 ⟨0,_,_,U5,I4,st4,λb hb=>(fk3 b hb).1.1,w0⟩
  rintro n s5 ⟨i,us,H5,lu,I5,st5,fr5,w5⟩;rcases turn i n H5 w5 with⟨stop,q⟩|⟨go,step⟩
  .refine a5 (T.done (aZ X ys M scope cl _ _ _ _ _) rfl rfl rfl hc i [] s5 _ H5 _ I5 (stat fr5) st5 stop) λr s6 ω=>?_;obtain⟨er,I6⟩:=ω
   subst er;obtain⟨m,hn6,_⟩:=id I6.loc;obtain⟨o6,_,_,ho6,_⟩:=id hn6;exact fin _ _ H5 s6 (by rw[U3];exact WF _) (λz=>by have z':=ho6.symm.trans z;cases z') ⟨m,hn6⟩ I6.free (xh I3 fk3 I6) q
  .refine a5 (T.item (aZ X ys M scope cl _ _ _ _ _) rfl rfl rfl hc i [] s5 _ H5 _ I5 (stat fr5) st5 go) λr s6 ω=>?_;obtain⟨u,er,h6⟩:=ω
   subst er;refine a5 h6 λ_ s7 ω=>?_;obtain⟨v',H7,I7,r7,y7,st7,fr7⟩:=ω
   have I7':=I7.pinned (stat fr7) (T.obj _ _ st7);refine SW (hg _ _ _ _ _ _ s7 _ H7 v' u _ I7' r7 (step v' H7 y7 us lu)) (λ_ s8 ω=>?_) λ_ _ z=>z.elim;obtain⟨σ8,H8,I8,⟨us',lu',e8⟩,q8⟩:=ω
   refine SW (ht _ _ _ _ _ _ s8 _ H8 _ I8 q8) (λok s9 ω=>?_) λ_ _ z=>z.elim;obtain⟨H9,I9,q9⟩:=ω
   subst e8;cases ok with
   |true =>
    rw[if_pos rfl] at q9 ⊢;refine SW (he _ _ _ _ _ _ s9 _ H9 _ I9 q9) (λy s10 ω=>?_) λ_ _ z=>z.elim;obtain⟨yv,H10,I10,ry,xs,hxs,hlen,m',hm,w10⟩:=ω
    refine SW (qu (X:=aZ X ys M scope cl _ _ _ _ _) _ s10 _ H10 (.ref s.heap.objs.size) [yv] (.ref s.heap.objs.size) [y] (λ_ H11=>H11=upd H10 s.heap.objs.size (.lst (xs++[yv]))) I10 rfl (.cons ry .nil) ⟨_,xs,yv,rfl,rfl,hxs,hlen,rfl⟩) (λ_ s11 ω=>?_) λ_ _ z=>z.elim;obtain⟨z,H11,I11,rz,q11⟩:=ω
    subst q11;refine⟨m',hm,i+1,us',_,lu',I11.gf (ξ:=[]),T.keep _ _ _ st7 λb hb o e=>(I11.pin (b,o) (RU _ (RU _ (cB hb e)))).1,λb hb=>?_,w10⟩;obtain⟨o,e,_⟩:=T.obj _ _ st7 b hb;exact(I11.pin (b,o) (RU _ (RU _ (cB hb e)))).2.1
   |false =>
    rw[if_neg Sd] at q9 ⊢;obtain⟨m',hm,w9⟩:=q9;refine⟨m',hm,i+1,us',_,lu',I9.gf (ξ:=[]),T.keep _ _ _ st7 λb hb o e=>(I9.pin (b,o) (RU _ (RU _ (cB hb e)))).1,λb hb=>?_,w9⟩;obtain⟨o,e,_⟩:=T.obj _ _ st7 b hb;exact(I9.pin (b,o) (RU _ (RU _ (cB hb e)))).2.1
 exact codeAny_compStart_list (loop _ rfl) (T.self _ 0 _ _ _ st4 (loop _ rfl))
end
section
variable{X:Cx}{ys M:List Str}{x:Str}{scope:Scope}{cl:List (Str×Addr)}
def vd{iter:Expr}(c:iq X ys M scope cl)(hc:X.calm=true)(hi:PI X tg iter wi)(hg:∀C s₀ H₀ fp ξ,PG (aZ X ys M scope cl C s₀ H₀ fp ξ) tg g)(ht:∀C s₀ H₀ fp ξ,OI (aZ X ys M scope cl C s₀ H₀ fp ξ) ifs tc)(he:∀C s₀ H₀ fp ξ,PE (aZ X ys M scope cl C s₀ H₀ fp ξ) elt te)
  (hs:∀v,foldedSetIterable iter X.env v=pure v:=by intro _;rfl):PE X (.ListComp elt [⟨tg,iter,ifs,0⟩] scope pos) (ig wi ys.length g tc te):=by
 intro ξ s σ H Q I h;rw[eval_ListComp];refine Yq (use:=none) rfl hs c.clos c.kind c.names (a5 (hi ξ s σ H _ I h) λv s1 h1=>a5 h1 λitv s2 h2=>?_);obtain⟨it,fp,tn,J,H2,rfl,I2,T,st2,fk2,h3⟩:=h2;refine qN (E:=X.xe) (QQ:=λD H'=>Q (.ref D) H') I2 c hc hg ht he T st2 fk2 h3 λD C H' s' hC hl ns fr I' q=>?_
 obtain⟨m,hn⟩:=ns;refine⟨m,hn,λh' hs'=>?_⟩;have sz:=I2.sz;exact⟨.ref D,H',I'.turned (t':=s'.toks) (λb o hb e=>(hs'.2 b hb).trans e) fr (I2.fpOk hC fr).2.1 (I2.fpOk hC fr).2.2.2.1 (I2.fpOk hC fr).2.2.2.2.1 (I2.fpOk hC fr).2.2.2.2.2,rfl,q⟩
def ET{iter:Expr}{sp:Pos}{i:Nat}{y:Str}(hy:X.N[i]?=some y)(ly:X.env.scope.names.lookup y=some .local)(c:iq X ys M scope cl)(hN:X.N.Nodup)(hc:X.calm=true)(hi:PI X tg iter wi)
  (hg:∀C s₀ H₀ fp ξ,PG (aZ X ys M scope cl C s₀ H₀ fp ξ) tg g) (ht:∀C s₀ H₀ fp ξ,OI (aZ X ys M scope cl C s₀ H₀ fp ξ) ifs tc) (he:∀C s₀ H₀ fp ξ,PE (aZ X ys M scope cl C s₀ H₀ fp ξ) elt te)
  (hsw:swapsWith (.ListComp elt [⟨tg,iter,ifs,0⟩] scope pos) (some (.Name y py)) sp.line X.env=pure true:=by rfl) (hs:∀v,foldedSetIterable iter X.env v=pure v:=by intro _;rfl) :
  PS X (.Assign [.Name y py] (.ListComp elt [⟨tg,iter,ifs,0⟩] scope pos) sp) (av (ig wi ys.length g tc te) (al i)):=by
 intro ξ s σ H D I h;rw[exec_Assign_Name_used _ _ _ _ hsw];refine Ro (Wm (Ro ?_));show wpAny _ X.A (do let _ <- comprehension (.ListComp elt [⟨tg,iter,ifs,0⟩] scope pos) scope X.env _ (newList []) false (eval iter X.env) (some (assign (.Name y py) X.env))) _ _ s;refine Ro (SW (Yq (use:=some (assign (.Name y py) X.env)) (Q:=λ_ s'=>SP X ξ D .next s') rfl hs c.clos c.kind c.names (a5 (hi ξ s σ H _ I h) λv s1 h1=>a5 h1 λitv s2 h2=>?_)) (λ_ s' hq=>RE (RE hq)) λ_ _ z=>z);obtain⟨it,fp,tn,J,H2,rfl,I2,T,st2,fk2,h3⟩:=h2;refine qN (E:=X.xe) (QQ:=λDa H'=>D.nx (σ.set i (⇑Da)) H') I2 c hc hg ht he T st2 fk2 h3 λDa C H' s' hC hl ns fr I' q=>?_
 obtain⟨m,hn⟩:=ns;refine wpAny_assign_Name (o9 I' hN hy (.inl ly) (v:=.ref Da) rfl (λs3 I3 ω=>?_) (.inr ly));obtain⟨a,hsa,ha⟩:=ω
 have nC:C≠a:=by
  rcases ha with z|z
  .rw[z];exact(I2.fpOk hC fr).2.1
  .exact λw'=>(I2.fpOk hC fr).2.2.2.2.1 y a z w'.symm
 refine⟨m,hn.sameBut hsa nC,λh' hs'=>⟨_,H',I3.turned (t':=s3.toks) (λb o hb e=>(hs'.2 b hb).trans e) fr (I2.fpOk hC fr).2.1 (I2.fpOk hC fr).2.2.2.1 (I2.fpOk hC fr).2.2.2.2.1 (I2.fpOk hC fr).2.2.2.2.2,q⟩⟩
def vc{iter:Expr}(c:iq X ys M scope cl)(hc:X.calm=true)(hi:PI X tg iter wi)(hg:∀C s₀ H₀ fp ξ,PG (aZ X ys M scope cl C s₀ H₀ fp ξ) tg g)(he:∀C s₀ H₀ fp ξ,PE (aZ X ys M scope cl C s₀ H₀ fp ξ) elt te)
  (hs:∀v,foldedSetIterable iter X.env v=pure v:=by intro _;rfl):PE X (.ListComp elt [⟨tg,iter,[],0⟩] scope pos) (fH wi ys.length g te):=vd (tc:=Ie) c hc hi hg (λ_ _ _ _ _=>Ai) he hs
def ES{iter:Expr}{sp:Pos}{i:Nat}{y:Str}(hy:X.N[i]?=some y)(ly:X.env.scope.names.lookup y=some .local)(c:iq X ys M scope cl)(hN:X.N.Nodup)(hc:X.calm=true)(hi:PI X tg iter wi)
  (hg:∀C s₀ H₀ fp ξ,PG (aZ X ys M scope cl C s₀ H₀ fp ξ) tg g) (he:∀C s₀ H₀ fp ξ,PE (aZ X ys M scope cl C s₀ H₀ fp ξ) elt te)
  (hsw:swapsWith (.ListComp elt [⟨tg,iter,[],0⟩] scope pos) (some (.Name y py)) sp.line X.env=pure true:=by rfl) (hs:∀v,foldedSetIterable iter X.env v=pure v:=by intro _;rfl) :
  PS X (.Assign [.Name y py] (.ListComp elt [⟨tg,iter,[],0⟩] scope pos) sp) (av (fH wi ys.length g te) (al i)):=ET (tc:=Ie) hy ly c hN hc hi hg (λ_ _ _ _ _=>Ai) he hsw hs
def GP(c:iq X [x] M scope cl)(C:Addr)(s₀:RC)(H₀:Hp)(fp:List Addr)(ξ:List (Addr×Obj)):PG (aZ X [x] M scope cl C s₀ H₀ fp ξ) (.Name x px) (al 0):=by
 have hx:(relabel scope X.env).names.lookup x=some .local:=lookup_relabel_local (c.own x (by simp));exact nu (X:=aZ X [x] M scope cl C s₀ H₀ fp ξ) (i:=0) c.nd rfl (.inl hx) (.inr hx)
end
abbrev Eh(scope sc:Scope):List (Str×Yx):=scope.names.map λ(n,k)=>if (k == .free && sc.kind == .function && sc.names.lookup n == some .cell) then (n,.cell) else (n,k)
abbrev iR(scope:Scope)(cells:List (Str×Addr)):List (Str×Addr):=((scope.names.filter λn=>n.2 == .free).map λn=>(n.1,(cells.lookup n.1).getD 0)).reverse
structure oV (sc:Scope) (N M ys:List Str) (scope:Scope):Prop where
 kind:scope.kind=.function
 nocell:∀y∈scope.names,y.2≠.cell
 names:∀y∈scope.names,y.2=.local->scope.names.lookup y.1=some .local
 own:∀y∈ys,scope.names.lookup y=some .local
 nd:(ys++M).Nodup
 len:M.length=N.length
 same:∀p∈M.zip N,p.1=p.2\/(Eh scope sc).lookup p.1=none
 apart:∀y∈M,(Eh scope sc).lookup y≠some .local
 free:∀n∈scope.names,n.2=.free->sc.names.lookup n.1=some .cell
def ik{g:Str->Addr}:∀{l:List (Str×Addr)} {y:Str},(∀n∈l,n.2=g n.1)->∀{c:Addr},l.lookup y=some c->c=g y/\∃n∈l,n.1=y
 |[],_,_,_,h=>by simp at h
 |(n,a) :: r,y,hg,c,h=>by
  by_cases e:y=n
  .subst e;rw[UZ,beq_self_eq_true] at h;have h':a=c:=RY h;exact⟨by rw[<- h'];exact hg (y,a) Ru,_,Ru,rfl⟩
  .have e':(y == n)=false:=beq_eq_false_iff_ne.mpr e;rw[UZ,e'] at h;obtain⟨h1,m,hm,h2⟩:=ik (λn hn=>hg n (RA _ hn)) h;exact⟨h1,m,RA _ hm,h2⟩
def tI{l:List (Str×Addr)}{y:Str}:(∃n∈l,n.1=y)->∃c,l.lookup y=some c:=by
 induction l with
 |nil=>rintro⟨n,hn,_⟩;cases hn
 |cons a r ih =>
  rintro⟨n,hn,e⟩;obtain⟨m,b⟩:=a;by_cases e':y=m
  .subst e';exact⟨b,by rw[UZ,beq_self_eq_true]⟩
  .have e2:(y == m)=false:=beq_eq_false_iff_ne.mpr e';rw[UZ,e2];refine ih ?_;rcases RW.mp hn with z|z
   .rw[z] at e;exact absurd e.symm e'
   .exact⟨n,z,e⟩
def oO{n:Str×Addr}:n∈iR scope cells↔∃m∈scope.names,m.2=.free/\n=(m.1,(cells.lookup m.1).getD 0):=by
 unfold iR;rw[List.mem_reverse,RO];constructor
 .rintro⟨m,hm,rfl⟩;rw[SG] at hm;exact⟨m,hm.1,beq_iff_eq.mp hm.2,rfl⟩
 .rintro⟨m,hm,hk,rfl⟩;exact⟨m,SG.mpr ⟨hm,beq_iff_eq.mpr hk⟩,rfl⟩
def k_{env:Env}:∀(names:List (Str×Yx)) (acc:List (Str×Addr)),(∀n∈names,n.2=.free->∃c,env.cells.lookup n.1=some c) ->
  (forIn names acc λx r=>do
   let (name,kind):=x
   if kind == .free then do
    let c <- cellOf env name
    pure (XC ((name,c) :: r))
   else pure (XC r):Sem (List (Str×Addr)))=pure (((names.filter λn=>n.2 == .free).map λn=>(n.1,(env.cells.lookup n.1).getD 0)).reverse++acc)
 |[],acc,_=>rfl
 |(n,k) :: r,acc,h=>by
  have ih:=λacc=>k_ r acc λm hm=>h m (RA _ hm)
  rw[List.forIn_cons];by_cases hk:k=.free
  .subst hk;obtain⟨c,hc⟩:=h (n,.free) Ru rfl;have e1:cellOf env n=pure c:=by unfold cellOf;rw[hc]
   simp only[beq_self_eq_true,if_true,e1,pure_bind,ZaR,Sy,Zam,Tf,W5];rw[hc];exact ih _
  .have hb:(k == ZbH)=false:=beq_eq_false_iff_ne.mpr hk;simp only[hb,U2,if_false,pure_bind,ZaR];exact ih _
def oV.sc{X:Cx}(c:oV X.env.scope X.N M ys scope)(ok:X.Ok):iq X ys M scope (iR scope X.env.cells):=by
 have hfc:∀n∈scope.names,n.2=.free->∃a,X.env.cells.lookup n.1=some a:=λn hn hk=>ok.has n.1 (.inl (c.free n hn hk))
 refine⟨c.kind,c.nocell,c.names,c.own,?_,c.nd,c.len,c.same,c.apart,λy a h=>?_,λy h=>?_⟩
 .have z:=k_ (env:=X.env) scope.names [] hfc;rw[Up] at z;exact(congrArg (λm:Sem (List (Str×Addr))=>m >>= λcs=>pure cs) z).trans rfl
 .obtain⟨h1,n,hn,e⟩:=ik (g:=λz=>(X.env.cells.lookup z).getD 0) (λn hn=>by obtain⟨m,_,_,rfl⟩:=oO.mp hn;rfl) h;obtain⟨m,hm,hk,e2⟩:=oO.mp hn;have ey:m.1=y:=by rw[<- e,e2]
  obtain⟨a',ha'⟩:=hfc m hm hk;rw[ey] at ha';refine⟨?_,.inl (by rw[<- ey];exact c.free m hm hk)⟩;rw[h1,ha'];rfl
 .have hm:∃m∈scope.names,m.1=y/\m.2=.free:=by
   have go:∀names:List (Str×Yx),(∀z∈names,z.2≠.cell)->((names.map λ(n,k)=>if (k == .free && X.env.scope.kind == .function && X.env.kindOf n == some .cell) then (n,Yr) else (n,k)).lookup y=some .cell\/(names.map λ(n,k)=>if (k == .free && X.env.scope.kind == .function && X.env.kindOf n == some .cell) then (n,Yr) else (n,k)).lookup y=some .free)->∃m∈names,m.1=y/\m.2=.free:=by
    intro names
    induction names with
    |nil=>intro _ h;simp at h
    |cons a r ih =>
     intro nc h;obtain⟨n,k⟩:=a;by_cases e:y=n
     .subst e;refine⟨_,Ru,rfl,?_⟩;have nk:k≠.cell:=nc (y,k) Ru;by_cases hk:k=.free
      .exact hk
      .have hb:(k == ZbH)=false:=beq_eq_false_iff_ne.mpr hk;simp only[Sy,hb,Zbn,U2,if_false,UZ,beq_self_eq_true] at h;rcases h with z|z
       .exact absurd (RY z) nk
       .exact absurd (RY z) hk
     .have e':(y == n)=false:=beq_eq_false_iff_ne.mpr e
      have h':(r.map λ(n,k)=>if (k == .free && X.env.scope.kind == .function && X.env.kindOf n == some .cell) then (n,Yr) else (n,k)).lookup y=some .cell\/(r.map λ(n,k)=>if (k == .free && X.env.scope.kind == .function && X.env.kindOf n == some .cell) then (n,Yr) else (n,k)).lookup y=some .free:=by
       by_cases hb:(k == .free && X.env.scope.kind == .function && X.env.kindOf n == some .cell)=true
       .simpa only[Sy,hb,if_true,UZ,e'] using h
       .simpa only[Sy,hb,U2,if_false,UZ,e'] using h
      obtain⟨m,hm,r1⟩:=ih (λz hz=>nc z (RA _ hz)) h';exact⟨m,RA _ hm,r1⟩
   exact go scope.names c.nocell h
  obtain⟨m,hm,e,hk⟩:=hm;exact tI ⟨_,oO.mpr ⟨m,hm,hk,rfl⟩,e⟩
section
variable{X:Cx}{x:Str}{ys M:List Str}{scope:Scope}
def Mz{iter:Expr}(c:oV X.env.scope X.N M ys scope)(hc:X.calm=true)(hi:PI X tg iter wi)(hg:∀C s₀ H₀ fp ξ,PG (aZ X ys M scope (iR scope X.env.cells) C s₀ H₀ fp ξ) tg g)(he:∀C s₀ H₀ fp ξ,PE (aZ X ys M scope (iR scope X.env.cells) C s₀ H₀ fp ξ) elt te)
  (hs:∀v,foldedSetIterable iter X.env v=pure v:=by intro _;rfl):PE X (.ListComp elt [⟨tg,iter,[],0⟩] scope pos) (fH wi ys.length g te):=λξ s σ H Q I h=>vc (c.sc I.ok) hc hi hg he hs ξ s σ H Q I h
def MB{elt iter:Expr}{px pos:Pos}{wi:TI}{te:TE}(c:oV X.env.scope X.N M [x] scope)(hN:X.N.Nodup)(hc:X.calm=true)(hi:PI X (.Name x px) iter wi)(he:∀C s₀ H₀ fp ξ,PE (aZ X [x] M scope (iR scope X.env.cells) C s₀ H₀ fp ξ) elt te)
  (hs:∀v,foldedSetIterable iter X.env v=pure v:=by intro _;rfl):PE X (.ListComp elt [⟨.Name x px,iter,[],0⟩] scope pos) (fA wi te):=by
 intro ξ s σ H Q I h
 have hi':PI X (.Name x px) iter (λσ H R=>∃R',(∀J H1,R' J H1->R J H1)/\wi σ H R'):=by
  intro ξ s σ H R I ⟨R',hR,hw⟩;refine a5 (hi ξ s σ H R' I hw) λv s1 h1=>a5 h1 (by rintro itv s2 ⟨it,fp,tn,J,H',e,I',T,t0,fk,r⟩;exact ⟨it,fp,tn,J,H',e,I',T,t0,fk,hR J H' r⟩)
 exact vc (c.sc I.ok) hc hi' (λC s₀ H₀ fp ξ=>GP (c.sc I.ok) C s₀ H₀ fp ξ) he hs ξ s σ H Q I ⟨_,λJ H1 q=>vS q,h⟩
def Pk{elt iter:Expr}{px pos py sp:Pos}{wi:TI}{te:TE}{i:Nat}{y:Str}(hN:X.N.Nodup)(hy:X.N[i]?=some y)(ly:X.env.scope.names.lookup y=some .local)(c:oV X.env.scope X.N M [x] scope)(hc:X.calm=true)(hi:PI X (.Name x px) iter wi)(he:∀C s₀ H₀ fp ξ,PE (aZ X [x] M scope (iR scope X.env.cells) C s₀ H₀ fp ξ) elt te)
  (hsw:swapsWith (.ListComp elt [⟨.Name x px,iter,[],0⟩] scope pos) (some (.Name y py)) sp.line X.env=pure true:=by rfl) (hs:∀v,foldedSetIterable iter X.env v=pure v:=by intro _;rfl) :
  PS X (.Assign [.Name y py] (.ListComp elt [⟨.Name x px,iter,[],0⟩] scope pos) sp) (av (fA wi te) (al i)):=by
 intro ξ s σ H D I h
 have hi':PI X (.Name x px) iter (λσ H R=>∃R',(∀J H1,R' J H1->R J H1)/\wi σ H R'):=by
  intro ξ s σ H R I ⟨R',hR,hw⟩;refine a5 (hi ξ s σ H R' I hw) λv s1 h1=>a5 h1 (by rintro itv s2 ⟨it,fp,tn,J,H',e,I',T,t0,fk,r⟩;exact ⟨it,fp,tn,J,H',e,I',T,t0,fk,hR J H' r⟩)
 exact ES hy ly (c.sc I.ok) hN hc hi' (λC s₀ H₀ fp ξ=>GP (c.sc I.ok) C s₀ H₀ fp ξ) he hsw hs ξ s σ H D I ⟨_,λJ H1 q=>vS q,h⟩
end
abbrev KZ(D:Addr)(Pv:Hp->Prop):VK:=λy H2=>∃xs,H2 D=some (.lst xs)/\xs.length<sizeLine/\Pv (upd H2 D (.lst (xs++[y])))
section
variable{K:Fg}{te:TE}{σ:St}{Q:VK}{H:Hp}
abbrev oU(D:Addr)(n i:Nat)(Pv:Nat->Hp->Prop):VK:=λy H2=>∃xs,H2 D=some (.lst xs)/\xs.length<sizeLine/\∃m',m'<n-i/\m'=n-(i+1)/\i+1<=n/\Pv (i+1) (upd H2 D (.lst (xs++[y])))
abbrev O6(te:TE)(σ:St)(v:V)(H:Hp)(D:Addr)(n i:Nat)(Pv:Nat->Hp->Prop):Prop:=te (some v :: σ) H (oU D n i Pv)
def a_{n i:Nat}{Pv:Nat->Hp->Prop}(hi:i<n)(h:KZ D (Pv (i+1)) y H2):oU D n i Pv y H2:=by
 obtain⟨xs,h1,h2,h3⟩:=h;exact⟨xs,h1,h2,n-(i+1),by lia,rfl,hi,h3⟩
def dh{lo:Int}{n:Nat}(h:∀D,H D=none->∃Pv:Nat->Hp->Prop,Pv 0 (upd H D (.lst []))/\(∀i H2,i<n->Pv i H2->O6 te σ (.int (lo+i)) H2 D n i Pv)/\∀H2,Pv n H2->Q (.ref D) H2):cQ (xD lo n) te σ Q H:=by
 intro D nD;obtain⟨Pv,h0,hs,hd⟩:=h D nD;refine⟨λi m H=>m=n-i/\i<=n/\Pv i H,⟨n,by simp,SD _,h0⟩,?_⟩;rintro i m H ⟨rfl,hi,p⟩;by_cases hlt:i<n
 .refine .inr ⟨hlt,λv H' y=>?_⟩;obtain⟨e,y⟩:=y;subst e y;exact hs i _ hlt p
 .have e:i=n:=by lia
  subst e;exact .inl ⟨RB _,hd H p⟩
def cN{xs:List V}(h:∀D,H D=none->∃Pv:Nat->Hp->Prop,Pv 0 (upd H D (.lst []))/\(∀i H2,i<=xs.length->Pv i H2->SqL K H2 a xs)/\(∀i x H2,xs[i]?=some x->Pv i H2->O6 te σ x H2 D xs.length i Pv)/\∀H2,Pv xs.length H2->Q (.ref D) H2):cQ (v0 K a) te σ Q H:=by
 intro D nD;obtain⟨Pv,h0,hl,hs,hd⟩:=h D nD;refine⟨λi m H=>m=xs.length-i/\i<=xs.length/\Pv i H,⟨xs.length,by simp,SD _,h0⟩,?_⟩;rintro i m H ⟨rfl,hi,p⟩;have q:=hl i H hi p;by_cases hlt:i<xs.length
 .refine .inr ⟨⟨xs,xs[i],q,by simp[hlt]⟩,λv H' y=>?_⟩;obtain⟨e,y⟩:=y;subst e;exact hs i v _ (y xs q) p
 .have e:i=xs.length:=by lia
  subst e;exact .inl ⟨⟨xs,q,RB _⟩,hd H p⟩
def FX{xs:List V}(h:∀D,H D=none->∃Pv:Nat->Hp->Prop,Pv 0 (upd H D (.lst []))/\(∀i H2,i<=xs.length->Pv i H2->SqT K H2 a xs)/\(∀i x H2,xs[i]?=some x->Pv i H2->O6 te σ x H2 D xs.length i Pv)/\∀H2,Pv xs.length H2->Q (.ref D) H2):cQ (xC K a) te σ Q H:=by
 intro D nD;obtain⟨Pv,h0,hl,hs,hd⟩:=h D nD;refine⟨λi m H=>m=xs.length-i/\i<=xs.length/\Pv i H,⟨xs.length,by simp,SD _,h0⟩,?_⟩;rintro i m H ⟨rfl,hi,p⟩;have q:=hl i H hi p;by_cases hlt:i<xs.length
 .refine .inr ⟨⟨xs,xs[i],q,by simp[hlt]⟩,λv H' y=>?_⟩;obtain⟨e,y⟩:=y;subst e;exact hs i v _ (y xs q) p
 .have e:i=xs.length:=by lia
  subst e;exact .inl ⟨⟨xs,q,RB _⟩,hd H p⟩
end
open PySem.W (Dat kqdOk)
section
variable{K:Fg}{σ:St}{H:Hp}{Q:VK}{D:bH}{ta tb tc te:TE}{t u:TS}{c:TT}{QB:Bool->Hp->Prop}{QA:List V->Hp->Prop}{QS:St->Hp->Prop}
def PX(h:t {D with nx:=u D} σ H):am t u D σ H:=h
def NC(h:D.nx σ H):a7 D σ H:=h
def Kk(h:te σ H λ_ H1=>D.nx σ H1):bn te D σ H:=h
def P1(h:te σ H D.rt):aE te D σ H:=h
def Qh(h:c σ H λb H1=>if b=true then t D σ H1 else u D σ H1):aS c t u D σ H:=h
def NQ{g:TG}(h:te σ H λx H1=>g x σ H1 D.nx):av te g D σ H:=h
def Bt{v:V}(h:QS (σ.set i (some v)) H):al i v σ H QS:=h
def w4{i:Nat}{v:V}(e:σ[i]?=some (some v))(h:Q v H):aa i σ H Q:=⟨v,e,h⟩
def Re(h:Q v H):tC v σ H Q:=h
def P9{r:R2}(h:ta σ H λx H1=>tb σ H1 λy H2=>r x y H2 Q):ao r ta tb σ H Q:=h
def PQ{r:V->Hp->VK->Prop}(h:ta σ H λx H1=>r x H1 Q):HY r ta σ H Q:=h
def Nw{g:Int->V}(h:Q (g i) H):rU g (.int i) H Q:=⟨i,rfl,h⟩
def P3{g:Int->Int->V}(h:Q (g i j) H):s_ g (.int i) (.int j) H Q:=⟨i,j,rfl,rfl,h⟩
def fD{C:Int->Int->Prop}{g:Int->Int->V}(hc:C i j)(h:Q (g i j) H):rI C g (.int i) (.int j) H Q:=⟨i,j,rfl,rfl,hc,h⟩
def Qk{i j:Int}(h:Q (.bl (decide (i=j))) H):gk (.int i) (.int j) H Q:=⟨rfl,by
 have e:decide (V.int i=V.int j)=decide (i=j):=by
  by_cases z:i=j
  .subst z;simp
  .simp[z]
 rw[e];exact h⟩
def P_{i j:Int}(h:Q (.bl (!decide (i=j))) H):GA (.int i) (.int j) H Q:=⟨rfl,by
 have e:decide (V.int i=V.int j)=decide (i=j):=by
  by_cases z:i=j
  .subst z;simp
  .simp[z]
 rw[e];exact h⟩
def Qe{x:V}(h:Q (.bl (decide (x=.non))) H):mY x .non H Q:=⟨rfl,h⟩
def NA{x:V}(h:Q (.bl (!decide (x=.non))) H):Mf x .non H Q:=⟨rfl,h⟩
def Nq(h:te σ H λx H'=>∃k,x=.bl k/\QB k H'):aP te σ H QB:=h
def PU(h:te σ H λx H'=>∃k,x=.bl k/\QB k H'):tB te σ H QB:=h
def Qp{P:Bool->Prop}(h:P b):∃k,V.bl b=.bl k/\P k:=⟨b,rfl,h⟩
def NB(h:c σ H λb H1=>QB (!b) H1):fR c σ H QB:=h
def Qq{c':TT}(h:c σ H λb H1=>if b=true then c' σ H1 QB else QB false H1):mn c c' σ H QB:=h
def P7{c':TT}(h:c σ H λb H1=>if b=true then QB true H1 else c' σ H1 QB):Gw c c' σ H QB:=h
def NR(h:ta σ H λx H1=>∃k,x=.bl k/\if k=true then tb σ H1 Q else Q (.bl false) H1):wB ta tb σ H Q:=h
def P6(h:ta σ H λx H1=>∃k,x=.bl k/\if k=true then Q (.bl true) H1 else tb σ H1 Q):H_ ta tb σ H Q:=h
def Nz(h:ta σ H λx H1=>∃k,x=.bl k/\Q (.bl (!k)) H1):DU ta σ H Q:=h
def Qi(h:c σ H λb H1=>if b=true then ta σ H1 Q else tb σ H1 Q):LG c ta tb σ H Q:=h
def Kq{r r':R2}(h:ta σ H λx H1=>tb σ H1 λy H2=>r x y H2 λz H3=>∃k,z=.bl k/\(if k=true then tc σ H3 λw' H4=>r' y w' H4 Q else Q (.bl false) H3)):uD r r' ta tb tc σ H Q:=h
def Ft(h:QA [] H):ai σ H QA:=h
def NM{tr:TA}(h:ta σ H λx H1=>tr σ H1 λxs H2=>QA (x :: xs) H2):ae ta tr σ H QA:=h
def NP{sp:Sp}{dR:List V}{ts:TA}(h:ts σ H λvs H1=>sp (vs++dR) H1 Q E):aw sp dR E ts σ H Q:=h
def Qm{r:List V->Hp->VK->Prop}{ts:TA}(h:ts σ H λvs H1=>r vs H1 Q):bU r ts σ H Q:=h
def PR{ts:TA}(h:ts σ H λxs H1=>xs.length<=sizeLine/\∀p,H1 p=none->Q (.ref p) (upd H1 p (.tup xs))):bg ts σ H Q:=h
def Qa{ts:TA}(h:ts σ H λxs H1=>xs.length<=sizeLine/\∀p,H1 p=none->Q (.ref p) (upd H1 p (.lst xs))):bP ts σ H Q:=h
def PV{r:V->Option Int->Option Int->Hp->VK->Prop}{tl th:TO}(h:te σ H λx H1=>tl σ H1 λl H2=>th σ H2 λu H3=>r x l u H3 Q):LC r te tl th σ H Q:=h
def Fs{QO:Option Int->Hp->Prop}(h:QO none H):mj σ H QO:=h
def Ny{QO:Option Int->Hp->Prop}(h:te σ H λx H1=>∃i,x=.int i/\QO (some i) H1):wA te σ H QO:=h
def Qf{P:Int->Prop}(h:P i):∃j,V.int i=.int j/\P j:=⟨i,rfl,h⟩
def aX[Decidable p]{A B:Prop}(h1:p->A)(h2 : ¬ p->B):if decide p=true then A else B:=NZ h1 h2
def im[Decidable p]{A B:Prop}(h1 : ¬ p->A)(h2:p->B):if (!decide p)=true then A else B:=by
 by_cases h:p
 .rw[decide_eq_true h];exact tN (h2 h)
 .rw[decide_eq_false h];exact tM (h1 h)
def Kh{A B:Prop}(h:A):if (!false)=true then A else B:=tM h
def Kg{A B:Prop}(h:B):if (!true)=true then A else B:=tN h
abbrev xF(J:It)(g:TG)(tb:TS)(D:bH)(σ:St)(H1:Hp):Prop:=∃W:Nat->Nat->St->Hp->Prop,(∃m,W 0 m σ H1)/\∀i m σ H,W i m σ H ->
 (J.stop i H/\D.nx σ H)\/(J.go i H/\∃N:St->Hp->Prop,(∀σ' H',N σ' H'->∃m',m'<m/\W (i+1) m' σ' H')/\∀x H',J.yld i H x H'->g x σ H' λσ2 H2=>tb {D with nx:=N,ct:=N,bk:=D.nx} σ2 H2)
def Qj{wi:TI}{tb:TS}(h:wi σ H λJ H1=>xF J g tb D σ H1):a9 wi g tb D σ H:=h
def NO{wi:TI}(h:wi σ H λJ H1=>cQ J te σ Q H1):fA wi te σ H Q:=h
def Nt{ts:TA}{R:It->Hp->Prop}(h:ts σ H λvs H1=>∃j:Int,vs=[.int j]/\-(2 ^ 62)<=j/\j<2 ^ 62/\R (xD 0 j.toNat) H1):b_ ts σ H R:=h
def P4{tb:TS}{j:Int}(h0 : -(2 ^ 62)<=j/\j<2 ^ 62)(h:xF (xD 0 j.toNat) g tb D σ H):∃i:Int,[V.int j]=[.int i]/\-(2 ^ 62)<=i/\i<2 ^ 62/\xF (xD 0 i.toNat) g tb D σ H:=⟨j,rfl,h0.1,h0.2,h⟩
def P5{j:Int}(h0 : -(2 ^ 62)<=j/\j<2 ^ 62)(h:cQ (xD 0 j.toNat) te σ Q H):∃i:Int,[V.int j]=[.int i]/\-(2 ^ 62)<=i/\i<2 ^ 62/\cQ (xD 0 i.toNat) te σ Q H:=⟨j,rfl,h0.1,h0.2,h⟩
def Ki{R:It->Hp->Prop}(h:te σ H λx H1=>∃a,x=.ref a/\(∃xs,SqL K H1 a xs)/\R (v0 K a) H1):cg K te σ H R:=h
def NF{R:It->Hp->Prop}(h:te σ H λx H1=>∃a,x=.ref a/\(∃xs,SqT K H1 a xs)/\R (xC K a) H1):BA K te σ H R:=h
def iO{tb:TS}(e:SqL K H a xs)(h:xF (v0 K a) g tb D σ H):∃b,V.ref a=.ref b/\(∃xs,SqL K H b xs)/\xF (v0 K b) g tb D σ H:=⟨a,rfl,⟨xs,e⟩,h⟩
def tK(e:SqL K H a xs)(h:cQ (v0 K a) te σ Q H):∃b,V.ref a=.ref b/\(∃xs,SqL K H b xs)/\cQ (v0 K b) te σ Q H:=⟨a,rfl,⟨xs,e⟩,h⟩
def PY{tb:TS}(e:SqT K H a xs)(h:xF (xC K a) g tb D σ H):∃b,V.ref a=.ref b/\(∃xs,SqT K H b xs)/\xF (xC K b) g tb D σ H:=⟨a,rfl,⟨xs,e⟩,h⟩
def PZ(e:SqT K H a xs)(h:cQ (xC K a) te σ Q H):∃b,V.ref a=.ref b/\(∃xs,SqT K H b xs)/\cQ (xC K b) te σ Q H:=⟨a,rfl,⟨xs,e⟩,h⟩
def aR{lo:Int}{n:Nat}{g:TG}{tb:TS}(Pv:Nat->St->Hp->Prop)(h0:Pv 0 σ H)
  (hs:∀i σ H,i<n->Pv i σ H->g (.int (lo+i)) σ H λσ2 H2=>tb {D with nx:=Pv (i+1),ct:=Pv (i+1),bk:=D.nx} σ2 H2) (hd:∀σ H,Pv n σ H->D.nx σ H):xF (xD lo n) g tb D σ H:=BU Pv h0 hs hd
def bz{xs:List V}{g:TG}{tb:TS}(Pv:Nat->St->Hp->Prop)(h0:Pv 0 σ H)(hl:∀i σ H,i<=xs.length->Pv i σ H->SqL K H a xs)
  (hs:∀i x σ H,xs[i]?=some x->Pv i σ H->g x σ H λσ2 H2=>tb {D with nx:=Pv (i+1),ct:=Pv (i+1),bk:=D.nx} σ2 H2) (hd:∀σ H,Pv xs.length σ H->D.nx σ H):xF (v0 K a) g tb D σ H:=FM Pv h0 hl hs hd
def BY{xs:List V}{g:TG}{tb:TS}(Pv:Nat->St->Hp->Prop)(h0:Pv 0 σ H)(hl:∀i σ H,i<=xs.length->Pv i σ H->SqT K H a xs)
  (hs:∀i x σ H,xs[i]?=some x->Pv i σ H->g x σ H λσ2 H2=>tb {D with nx:=Pv (i+1),ct:=Pv (i+1),bk:=D.nx} σ2 H2) (hd:∀σ H,Pv xs.length σ H->D.nx σ H):xF (xC K a) g tb D σ H:=Ky Pv h0 hl hs hd
def Ql{v:V}{D:Addr}(h:te (some v :: σ) H (oU D n i Pv)):O6 te σ v H D n i Pv:=h
def bG{n:Nat}{ts:Gg}(e:SqT K H a xs)(l:xs.length=n)(h:ts xs σ H QS):cj K n ts (.ref a) σ H QS:=⟨a,xs,rfl,e,l,h⟩
def Kj{tg:TG}{ts:Gg}(h:tg v σ H λσ' H'=>ts r σ' H' QS):aY tg ts (v :: r) σ H QS:=⟨v,r,rfl,h⟩
def NG(h:QS σ H):ck [] σ H QS:=⟨rfl,h⟩
def cw(e:SqL K H p xs)(h:Q (.int xs.length) H):bZ K [.ref p] H Q:=⟨p,xs,rfl,.inl e,h⟩
def jK(e:SqT K H p xs)(h:Q (.int xs.length) H):bZ K [.ref p] H Q:=⟨p,xs,rfl,.inr e,h⟩
def bQ{v:V}(e:SqL K H p xs)(a:rC xs i=some v)(h:Q v H):bI K (.ref p) (.int i) H Q:=⟨p,xs,i,v,rfl,rfl,e,a,h⟩
def aF{v:V}(e:SqT K H p xs)(a:rC xs i=some v)(h:Q v H):aG K (.ref p) (.int i) H Q:=⟨p,xs,i,v,rfl,rfl,e,a,h⟩
def Qd{z:Str}{c:Nat}(e:z.length<=sizeLine)(a:rC z.cps.toList i=some c)(h:Q (.str ⟨#[c]⟩) H):Jl (.str z) (.int i) H Q:=⟨z,i,c,rfl,rfl,e,a,h⟩
def fJ(e:SqL K H p xs)(h:∀l,H l=none->Q (.ref l) (upd H l (.tup xs))):cE K [.ref p] H Q:=⟨p,xs,rfl,.inl ⟨e,h⟩⟩
def Np(e:SqT K H p xs)(h:Q (.ref p) H):cE K [.ref p] H Q:=⟨p,xs,rfl,.inr ⟨e,h⟩⟩
def oj(e:SqL K H p xs)(h:∀l,H l=none->Q (.ref l) (upd H l (.lst xs))):eI K [.ref p] H Q:=⟨p,xs,rfl,.inl e,h⟩
def Bs(e:SqT K H p xs)(h:∀l,H l=none->Q (.ref l) (upd H l (.lst xs))):eI K [.ref p] H Q:=⟨p,xs,rfl,.inr e,h⟩
def Qo{T:String}{r:V->List V->Hp->VK->Prop}{to:TE}{ts:TA}(h:to σ H λx H1=>Gv K T x H1/\ts σ H1 λxs H2=>r x xs H2 Q):dD K T r to ts σ H Q:=h
def Qn{T:String}{r:V->List V->Hp->VK->Prop}{to:TE}(h:to σ H λx H1=>Gv K T x H1/\r x [] H1 Q):Ic K T r to σ H Q:=h
def w_(e:H p=some (.lst xs)):Gv K "list" (.ref p) H:=.inl ⟨rfl,xs,SqL.of e⟩
def Fv{y:V}(e:H l=some (.lst xs))(n:xs.length<sizeLine)(h:Q .non (upd H l (.lst (xs++[y])))):aJ (.ref l) [y] H Q:=⟨l,xs,y,rfl,rfl,e,n,h⟩
def NE{b:Bool}(h:Q (.int (if b then 1 else 0)) H):Jn [.bl b] H Q:=.inr ⟨b,rfl,h⟩
def G4{i j:Str}(n:i.length+j.length<=sizeLine)(h:Q (.str (i++j)) H):Jp (.str i) (.str j) H Q:=⟨i,j,rfl,rfl,n,h⟩
end
mutual
inductive Rp (K:Fg) (S:Addr->Prop) (H:Hp):V->Dat->Prop
 |non:Rp K S H .non .none
 |bl (b:Bool):Rp K S H (.bl b) (.bool b)
 |int (i:Int):Rp K S H (.int i) (.int i)
 |str (x:Str):Rp K S H (.str x) (.str x)
 |tup {a:Addr} {xs:List V} {ds:List Dat}:H a=some (.tup xs)->RpL K S H xs ds->Rp K S H (.ref a) (.tuple ds)
 |lst {a:Addr} {xs:List V} {ds:List Dat}:S a->H a=some (.lst xs)->RpL K S H xs ds->Rp K S H (.ref a) (.list ds)
inductive RpL (K:Fg) (S:Addr->Prop) (H:Hp):List V->List Dat->Prop
 |nil:RpL K S H [] []
 |cons {v:V} {d:Dat} {vs:List V} {ds:List Dat}:Rp K S H v d->RpL K S H vs ds->RpL K S H (v :: vs) (d :: ds)
end
structure Agr (S:Addr->Prop) (H H':Hp):Prop where
 tup:∀a xs,H a=some (.tup xs)->H' a=some (.tup xs)
 lst:∀a xs,S a->H a=some (.lst xs)->H' a=some (.lst xs)
section
variable{K:Fg}{S S':Addr->Prop}{H H':Hp}
def Agr.of_same(e:Same H H'):Agr S H H':=⟨λa xs h=>e _ _ h,λa xs _ h=>e _ _ h⟩
def Agr.eN(hl:H l=some (.lst ys))(ns : ¬ S l):Agr S H (upd H l o):=by
 refine⟨λa xs h=>?_,λa xs s h=>?_⟩
 .have ne:a≠l:=by
   rintro rfl;rw[hl] at h;cases h
  rw[aC ne];exact h
 .have ne:a≠l:=by
   rintro rfl;exact ns s
  rw[aC ne];exact h
mutual
def Rp.agr(e:Agr S H H'):∀{v:V} {d:Dat},Rp K S H v d->Rp K S H' v d
 |_,_,.non=>.non
 |_,_,.bl b=>.bl b
 |_,_,.int i=>.int i
 |_,_,.str x=>.str x
 |_,_,.tup h r=>.tup (e.tup _ _ h) (RpL.agr e r)
 |_,_,.lst s h r=>.lst s (e.lst _ _ s h) (RpL.agr e r)
def RpL.agr(e:Agr S H H'):∀{vs:List V} {ds:List Dat},RpL K S H vs ds->RpL K S H' vs ds
 |_,_,.nil=>.nil
 |_,_,.cons h r=>.cons (Rp.agr e h) (RpL.agr e r)
end
mutual
def Rp.mono(e:∀a,S a->S' a):∀{v:V} {d:Dat},Rp K S H v d->Rp K S' H v d
 |_,_,.non=>.non
 |_,_,.bl b=>.bl b
 |_,_,.int i=>.int i
 |_,_,.str x=>.str x
 |_,_,.tup h r=>.tup h (RpL.mono e r)
 |_,_,.lst s h r=>.lst (e _ s) h (RpL.mono e r)
def RpL.mono(e:∀a,S a->S' a):∀{vs:List V} {ds:List Dat},RpL K S H vs ds->RpL K S' H vs ds
 |_,_,.nil=>.nil
 |_,_,.cons h r=>.cons (Rp.mono e h) (RpL.mono e r)
end
mutual
def Rp.rep:∀{v:V} {d:Dat},Rp K S H v d->Rep K H v d
 |_,_,.non=>.non
 |_,_,.bl b=>.bl b
 |_,_,.int i=>.int i
 |_,_,.str x=>.str x
 |_,_,.tup h r=>.tup (SqT.of h) (RpL.rep r)
 |_,_,.lst _ h r=>.lst (SqL.of h) (RpL.rep r)
def RpL.rep:∀{vs:List V} {ds:List Dat},RpL K S H vs ds->RepL K H vs ds
 |_,_,.nil=>.nil
 |_,_,.cons h r=>.cons (Rp.rep h) (RpL.rep r)
end
def Rp.same(e:Same H H')(h:Rp K S H v d):Rp K S H' v d:=h.agr (Agr.of_same e)
def RpL.same(e:Same H H'){vs:List V}(h:RpL K S H vs ds):RpL K S H' vs ds:=h.agr (Agr.of_same e)
def RpL.length:∀{vs:List V} {ds:List Dat},RpL K S H vs ds->vs.length=ds.length
 |_,_,.nil=>rfl
 |_,_,.cons _ r=>congrArg (· + 1) (RpL.length r)
def RpL.get:∀{vs:List V} {ds:List Dat} {i:Nat} {v:V},RpL K S H vs ds->vs[i]?=some v->∃d,ds[i]?=some d/\Rp K S H v d
 |_,_,_,_,.nil,e=>by simp at e
 |_,_,0,_,.cons h _,e=>by simp at e;subst e;exact⟨_,rfl,h⟩
 |_,_,i+1,v,.cons _ r,e=>by
  obtain⟨d,h1,h2⟩:=RpL.get (i:=i) (v:=v) r (by simpa using e);exact⟨d,by simpa using h1,h2⟩
def RpL.get':∀{vs:List V} {ds:List Dat} {i:Nat} {d:Dat},RpL K S H vs ds->ds[i]?=some d->∃v,vs[i]?=some v/\Rp K S H v d
 |_,_,_,_,.nil,e=>by simp at e
 |_,_,0,_,.cons h _,e=>by simp at e;subst e;exact⟨_,rfl,h⟩
 |_,_,i+1,v,.cons _ r,e=>by
  obtain⟨d,h1,h2⟩:=RpL.get' (i:=i) (d:=v) r (by simpa using e);exact⟨d,by simpa using h1,h2⟩
def RpL.append:∀{vs ws:List V} {ds es:List Dat},RpL K S H vs ds->RpL K S H ws es->RpL K S H (vs++ws) (ds++es)
 |_,_,_,_,.nil,s=>s
 |_,_,_,_,.cons h r,s=>.cons h (RpL.append r s)
def RpL.ints:∀ns:List Int,RpL K S H (ns.map V.int) (ns.map Ss)
 |[]=>.nil
 |n :: ns=>.cons (.int n) (RpL.ints ns)
def RpL.strs:∀ns:List Str,RpL K S H (ns.map V.str) (ns.map YS)
 |[]=>.nil
 |n :: ns=>.cons (.str n) (RpL.strs ns)
def RpL.ints_of:∀{vs:List V} {ns:List Int},RpL K S H vs (ns.map Ss)->vs=ns.map V.int
 |_,[],.nil=>rfl
 |_,n :: ns,.cons h r=>by cases h;rw[RpL.ints_of r];rfl
def RpL.y_:∀{vs:List V} {ns:List Str},RpL K S H vs (ns.map YS)->vs=ns.map V.str
 |_,[],.nil=>rfl
 |_,n :: ns,.cons h r=>by cases h;rw[RpL.y_ r];rfl
def Rp.Lp(h:Rp K S H v (.tuple ds)):∃a xs,v=.ref a/\SqT K H a xs/\RpL K S H xs ds:=by
 cases h with
 |tup h r=>exact⟨_,_,rfl,SqT.of h,r⟩
def Rp.cr(h:Rp K S H v (.tuple ds)):∃a xs,v=.ref a/\H a=some (.tup xs)/\RpL K S H xs ds:=by
 cases h with
 |tup h r=>exact⟨_,_,rfl,h,r⟩
def Rp.kT(h:Rp K S H v (.list ds)):∃a xs,v=.ref a/\S a/\H a=some (.lst xs)/\RpL K S H xs ds:=by
 cases h with
 |lst s h r=>exact⟨_,_,rfl,s,h,r⟩
end
abbrev F0:Addr->Prop:=λ_=>False
nonrec abbrev Rz(K:Fg)(H:Hp):V->Dat->Prop:=Rp K F0 H
nonrec abbrev RzL(K:Fg)(H:Hp):List V->List Dat->Prop:=RpL K F0 H
section
variable{K:Fg}{S:Addr->Prop}{H H':Hp}
def RpL.z{vs:List V}(h:RzL K H vs ds):RpL K S H vs ds:=h.mono λ_ z=>z.elim
def Rz.upd(h:Rz K H v d)(hl:H l=some (.lst ys)):Rz K (L2.upd H l o) v d:=h.agr (Agr.eN hl λz=>z)
def RzL.upd(h:RzL K H v d)(hl:H l=some (.lst ys)):RzL K (L2.upd H l o) v d:=h.agr (Agr.eN hl λz=>z)
end
structure Acc (K:Fg) (H0:Hp) (l:Addr) (H:Hp) (ds:List Dat):Prop where
 same:Same H0 H
 new:H0 l=none
 at_:∃xs,H l=some (.lst xs)/\RpL K (λa=>H0 a=none/\a≠l) H xs ds
section
variable{K:Fg}{H0 H H':Hp}{l:Addr}{ds:List Dat}
def Acc.start(n:H0 l=none):Acc K H0 l (upd H0 l (.lst [])) []:=⟨aj n _,n,[],ag,.nil⟩
def Acc.on(A:Acc K H0 l H ds)(e:Same H H'):Acc K H0 l H' ds:=by
 obtain⟨xs,h1,h2⟩:=A.at_;exact⟨A.same.trans e,A.new,xs,e _ _ h1,h2.same e⟩
def Acc.ref(A:Acc K H0 l H ds):Rp K (λa=>H0 a=none) H (.ref l) (.list ds):=by
 obtain⟨xs,h1,h2⟩:=A.at_;exact .lst A.new h1 (h2.mono λ_ z=>z.1)
def Acc.push(A:Acc K H0 l H ds)(r:Rp K S H y d)(hS:∀a,S a->H0 a=none/\a≠l):∃xs,H l=some (.lst xs)/\xs.length=ds.length/\Acc K H0 l (upd H l (.lst (xs++[y]))) (ds++[d]):=by
 obtain⟨xs,h1,h2⟩:=A.at_;refine⟨xs,h1,h2.length,⟨λb o q=>?_,A.new,xs++[y],ag,?_⟩⟩
 .rw[aC (au q A.new)];exact A.same b o q
 .exact(h2.append (.cons (r.mono hS) .nil)).agr (Agr.eN h1 λz=>z.2 rfl)
def Acc.Pi(A:Acc K H0 l H ds)(e:Same H H')(r:Rp K (λa=>H a=none) H' y d):∃xs,H' l=some (.lst xs)/\xs.length=ds.length/\Acc K H0 l (upd H' l (.lst (xs++[y]))) (ds++[d]) :=
 (A.on e).push r λa z=>⟨A.same.free z,λq=>by obtain⟨xs,h1,_⟩:=A.at_;rw[q,h1] at z;cases z⟩
def Acc.cF(A:Acc K H0 l H ds)(e:Same H H')(r:Rp K (λa=>H a=none) H' y d)(n:ds.length<sizeLine){Pv:Hp->Prop}(h:∀H2,Acc K H0 l H2 (ds++[d])->Pv H2):KZ l Pv y H':=by
 obtain⟨xs,h1,h2,h3⟩:=A.Pi e r;exact⟨xs,h1,by rw[h2];exact n,h _ h3⟩
end
def Acc.ty{K:Fg}    (A:Acc K H0 l H ds):Gv K "list" (.ref l) H:=by
 obtain⟨xs,h1,_⟩:=A.at_;exact w_ h1
structure AccZ (K:Fg) (H0:Hp) (l:Addr) (H:Hp) (ds:List Dat):Prop where
 same:Same H0 H
 new:H0 l=none
 at_:∃xs,H l=some (.lst xs)/\RzL K H xs ds
section
variable{K:Fg}{H0 H H':Hp}{l m:Addr}{ds:List Dat}
def AccZ.start(e:Same H0 H)(n:H l=none):AccZ K H0 l (upd H l (.lst [])) []:=⟨e.trans (aj n _),e.free n,[],ag,.nil⟩
def AccZ.on(A:AccZ K H0 l H ds)(e:Same H H'):AccZ K H0 l H' ds:=by
 obtain⟨xs,h1,h2⟩:=A.at_;exact⟨A.same.trans e,A.new,xs,e _ _ h1,h2.same e⟩
def AccZ.ref(A:AccZ K H0 l H ds):Rp K (λa=>H0 a=none) H (.ref l) (.list ds):=by
 obtain⟨xs,h1,h2⟩:=A.at_;exact .lst A.new h1 h2.z
def AccZ.rep(A:AccZ K H0 l H ds):Rep K H (.ref l) (.list ds):=A.ref.rep
def AccZ.ty(A:AccZ K H0 l H ds):Gv K "list" (.ref l) H:=by
 obtain⟨xs,h1,_⟩:=A.at_;exact w_ h1
def AccZ.sq(A:AccZ K H0 l H ds):∃xs,SqL K H l xs/\xs.length=ds.length/\RzL K H xs ds:=by
 obtain⟨xs,h1,h2⟩:=A.at_;exact⟨xs,SqL.of h1,h2.length,h2⟩
def AccZ.ag(A:AccZ K H0 l H ds):Same H0 (L2.upd H l o):=λb u q=>by
 rw[L2.aC (au q A.new)];exact A.same b u q
def AccZ.other(A:AccZ K H0 l H ds)(ne:l≠m)(n:H0 m=none)(h:H m=some (.lst ys)):AccZ K H0 l (upd H m o) ds:=by
 obtain⟨xs,h1,h2⟩:=A.at_;refine⟨λb u q=>?_,A.new,xs,by rw[aC ne];exact h1,h2.upd h⟩;rw[aC (au q n)];exact A.same b u q
end
def bW{K:Fg}{Q:VK}(A:AccZ K H0 l H ds)(r:Rz K H y d)(n:ds.length<sizeLine)
  (h:∀H2,AccZ K H0 l H2 (ds++[d])->(∀{v:V} {e:Dat},Rz K H v e->Rz K H2 v e)->(∀b,b≠l->H2 b=H b)->(∀{m:Addr} {es:List Dat},m≠l->AccZ K H0 m H es->AccZ K H0 m H2 es)->Q .non H2):aJ (.ref l) [y] H Q:=by
 obtain⟨xs,h1,h2⟩:=A.at_;refine⟨l,xs,y,rfl,rfl,h1,by rw[h2.length];exact n,h _ ⟨A.ag,A.new,xs++[y],ag,?_⟩ (λq=>Rz.upd q h1) (λb nb=>aC nb) λne B=>B.other ne A.new h1⟩;exact RzL.upd (h2.append (.cons r .nil)) h1
section
variable{K:Fg}{H:Hp}{Q:VK}{x y:V}{d e:Dat}{ds:List Dat}
open Classical in
def oi(hd:Rep K H x d)(he:Rep K H y (.list ds))(ka:∀e∈ds,kqdOk 8 e=true)(kd:kqdOk 8 d=true)(h1:d∉ds->Q (.bl true) H)(h2:d∈ds->Q (.bl false) H):pR K true x y H Q:=by
 refine⟨d,ds,hd,he,ka,kd,?_⟩;by_cases z:d∈ds
 .have q:=h2 z;simpa[z] using q
 .have q:=h1 z;simpa[z] using q
open Classical in
def Qg(hd:Rep K H x d)(he:Rep K H y (.list ds))(ka:∀e∈ds,kqdOk 8 e=true)(kd:kqdOk 8 d=true)(h1:d∈ds->Q (.bl true) H)(h2:d∉ds->Q (.bl false) H):pR K false x y H Q:=by
 refine⟨d,ds,hd,he,ka,kd,?_⟩;by_cases z:d∈ds
 .have q:=h1 z;simpa[z] using q
 .have q:=h2 z;simpa[z] using q
open Classical in
def ND(hd:Rep K H x d)(he:Rep K H y e)(kd:kqdOk 8 d=true)(ke:kqdOk 8 e=true)(h1:d≠e->Q (.bl true) H)(h2:d=e->Q (.bl false) H):EM K x y H Q:=by
 refine⟨d,e,hd,he,kd,ke,?_⟩;by_cases z:d=e
 .have q:=h2 z;rw[decide_eq_true z];exact q
 .have q:=h1 z;rw[decide_eq_false z];exact q
end
abbrev FH(n:Nat):Option Int->Nat
 |none=>n
 |some j=>min j.toNat n
abbrev Ku(l:List Nat):Option Int->List Nat
 |none=>l
 |some j=>l.take j.toNat
def G6(n:Nat)(hi:Option Int):FH n hi<=n:=by
 cases hi with
 |none=>exact RB _
 |some j=>exact YA _ _
abbrev ko(z:Str)(lo hi:Option Int):Str:=⟨((Ku z.cps.toList hi).drop (lo.getD 0).toNat).toArray⟩
abbrev NN:Option Int->Prop
 |none=>True
 |some i=>0<=i
def O_{lo:Option Int}(n:Nat)(hl:NN lo)(hh:NN hi):SR lo hi 1 n=(RQ (FH n hi-min (lo.getD 0).toNat n)).map (λk=>min (lo.getD 0).toNat n+k):=by
 have core:∀(a b:Nat),a<=n->b<=n->sliceRange (a:Int) (b:Int) 1=(RQ (b-a)).map (λk=>a+k):=by
  intro a b ha hb;simp only[sliceRange,show((1:Int) > 0)=True from by simp,if_true];by_cases hlt:(a:Int)<b
  .have e3:(((b:Int)-a+1-1) / 1).toNat=b-a:=by rw[Int.ediv_one];lia
   simp only[hlt,if_true,e3];refine US λk _=>?_
   lia
  .have:b-a=0:=by lia
   simp[hlt,this]
 have clip:∀i:Int,0<=i->max (0:Int) (min (if i<0 then i+n else i) n)=((min i.toNat n:Nat):Int):=by
  intro i hi;rw[if_neg (by lia)];lia
 cases lo with
 |none =>
  cases hi with
  |none =>
   have:=core 0 n (by lia) (by lia)
   simpa[SR,FH] using this
  |some j =>
   have:=core 0 (min j.toNat n) (by lia) (by lia)
   simp only[SR,show((1:Int) > 0)=True from by simp,if_true];rw[clip j hh];simpa[FH] using this
 |some i =>
  cases hi with
  |none =>
   have:=core (min i.toNat n) n (by lia) (by lia)
   simp only[SR,show((1:Int) > 0)=True from by simp,if_true];rw[clip i hl];simpa[FH] using this
  |some j =>
   have:=core (min i.toNat n) (min j.toNat n) (by lia) (by lia)
   simp only[SR,show((1:Int) > 0)=True from by simp,if_true];rw[clip i hl,clip j hh];simpa[FH] using this
def D8(z:Str){lo:Option Int}(hl:NN lo)(hh:NN hi):ZbM z lo hi=ko z lo hi:=by
 have len:z.cps.toList.length=z.length:=by simp[Zbo]
 have e:=O_ z.length hl hh;have p:=StrLaws.picks z.cps.toList (FH z.length hi-min (lo.getD 0).toNat z.length) (min (lo.getD 0).toNat z.length) (by have:=G6 z.length hi;rw[len];lia)
 have q:(z.cps.toList.drop (min (lo.getD 0).toNat z.length)).take (FH z.length hi-min (lo.getD 0).toNat z.length)=(Ku z.cps.toList hi).drop (lo.getD 0).toNat:=by
  generalize (lo.getD 0).toNat=a;cases hi with
  |none =>
   show WG (z.length-min a z.length) (Zu (min a z.length) z.cps.toList)=Zu a z.cps.toList;by_cases ha:a<=z.length
   .rw[XD ha,RG (by rw[Ts,len];exact RB _)]
   .rw[Xc (by lia),Ux (by rw[len];exact RB _),Ux (by rw[len];lia)];simp
  |some j =>
   show WG (min j.toNat z.length-min a z.length) (Zu (min a z.length) z.cps.toList)=Zu a (z.cps.toList.take j.toNat);rw[List.drop_take];generalize j.toNat=b;by_cases ha:a<=z.length
   .rw[XD ha];by_cases hb:b<=z.length
    .rw[XD hb]
    .rw[Xc (by lia),RG (by rw[Ts,len];exact RB _),RG (by rw[Ts,len];lia)]
   .rw[Xc (by lia:z.length<=a),Ux (by rw[len];exact RB _),Ux (by rw[len];lia)];simp
 have r:(SR lo hi 1 z.length).filterMap (z.cps[·]?)=(Ku z.cps.toList hi).drop (lo.getD 0).toNat:=by
  rw[<- q,<- p,e];simp
 unfold ZbM ko;split
 .rename_i c;have c':(SR lo hi 1 z.length).length=z.length:=by simpa using c
  rw[e,Rm,R5] at c'
  have w:(z.cps.toList.drop (min (lo.getD 0).toNat z.length)).take (FH z.length hi-min (lo.getD 0).toNat z.length)=z.cps.toList:=by
   have b:=G6 z.length hi;by_cases h0:z.length=0
   .have:z.cps.toList=[]:=TW.mp (by rw[len];exact h0)
    rw[this];simp
   .have a0:min (lo.getD 0).toNat z.length=0:=by lia
    rw[a0,Zg,RG (by rw[len];lia)]
  rw[<- q,w]
 .rw[r]
abbrev Me:V->Option Int->Option Int->Hp->VK->Prop:=λx lo hi H Q=>∃z,x=.str z/\z.length<=sizeLine/\NN lo/\NN hi/\Q (.str (ko z lo hi)) H
abbrev Pe:List V->Hp->VK->Prop:=λxs H Q=>∃i j,xs=[.int i,.int j]/\Q (.int (if j<i then j else i)) H
section
variable{X:Cx}
def LN:O3 X Me:=by
 intro ξ s σ H x v vl vu lo hi sl Q I rx hs pl pu h;obtain⟨z,rfl,hz,hl,hh,q⟩:=h;obtain⟨t,rfl⟩:=rx;refine⟨"str",_,F.slot_str_getitem.lookup,typeIs_str _ _ _,?_⟩
 have fin:∀(l u:Option (Int×Tok)),l.map (·.1)=lo->u.map (·.1)=hi->(sliceMade z t l u none).post (EP X ξ σ Q) s:=by
  intro l u el eu
  have e:sliceMade z t l u none=if ((1:Int) == 1 && (SR lo hi 1 z.length).length == z.length)=true then Made.val (.str z t) else .str ⟨((SR lo hi 1 z.length).filterMap (z.cps[·]?)).toArray⟩:=by
   unfold sliceMade slicePicked;rw[el,eu];rfl
  rw[e];have lt:=Txt.slice_le z lo hi;have eq:=D8 z hl hh;unfold ZbM at lt eq;refine post_val_or_str ⟨RN lt hz,λt' k=>⟨.str (ko z lo hi),H,I.tok k,⟨t',?_⟩,q⟩⟩;rw[eq]
 cases pl with
 |none =>
  cases pu with
  |none=>exact Vw (l:=none) (u:=none) (st:=none) hs rfl (fin none none rfl rfl)
  |int j tj=>exact Vw (l:=none) (u:=some (j,tj)) (st:=none) hs rfl (fin none (some (j,tj)) rfl rfl)
 |int i ti =>
  cases pu with
  |none=>exact Vw (l:=some (i,ti)) (u:=none) (st:=none) hs rfl (fin (some (i,ti)) none rfl rfl)
  |int j tj=>exact Vw (l:=some (i,ti)) (u:=some (j,tj)) (st:=none) hs rfl (fin (some (i,ti)) (some (j,tj)) rfl rfl)
end
abbrev RawD(h:Heap)(d:Addr)(es:Array XR)(ep:Nat):Prop:=∃o,h.get? d=some o/\o.ExactDict/\o.data=.dict es ep
section
variable{prog:RM}{w:R4}{A:SC}{E:Rs->RC->Prop}{s:RC}{d it:Addr}{es:Array XR}{ep i:Nat}
def RawD.ty(m:RawD s.heap d es ep):s.TypeIs (.ref d) "dict":=by
 obtain⟨o,a,b,_⟩:=m;exact⟨o,a,b.1⟩
def RawD.at{h':Heap}(m:RawD h d es ep)(k:∀o,h.get? d=some o->h'.get? d=some o):RawD h' d es ep:=by
 obtain⟨o,a,b⟩:=m;exact⟨o,k o a,b⟩
def EI{Q:Rs->RC->Prop} (lo:(d == sysModules)=false) (m:RawD s.heap d es ep) (q:Q (.ref s.heap.objs.size) {s with heap:=s.heap.push {cls:=.type "dict_keyiterator",data:=.fields #[.ref d,.int 0 0,.int es.size 0,.int ep 0]}}) :
  wpAny (model prog w) A (pyIter (.ref d)) Q E s:=by
 have ty:=m.ty;obtain⟨o,ho,_,dt⟩:=m;refine Yg ty ZaS (Ud ZaS ty F.entry_dict_iter ?_ (F.args_dict_iter_1 _));unfold Ub.«dict.__iter__» Ub.Dict.dictSlotNone;refine Ro (Ro (wpAny_notOrdered_dict ty ?_));show wpAny _ _ (pure (R_ d)) _ _ s;refine RE ?_;show wpAny _ _ (Y7 d >>= _) _ _ s;unfold Y7;rw[if_neg (λz=>by rw[lo] at z;cases z)];refine Ro (RE (Ro (Yh ho dt (Ro (Y2 ho dt ?_)))));refine Ro (TK (RE ⟨_,rfl,"dict_keyiterator",_,⟨_,Sb _ rfl,rfl⟩,Ur.lookup,?_⟩));simpa[rawInt] using q
def uU{Q:Option Rs->RC->Prop}(ki:s.heap.IsKeyIter it d i es.size ep)(m:RawD s.heap d es ep) :
  (∀e,es[i]?=some e->(∀h',h'.IsKeyIter it d (i+1) es.size ep->UT it s.heap h'->Q (some e.key) {s with heap:=h'})->wpAny (model prog w) A (pyNext (.ref it)) Q E s) /\
  (A.handled=none->es[i]?=none->(∀h',Za5 it s.heap h'->Q none {s with heap:=h'})->wpAny (model prog w) A (pyNext (.ref it)) Q E s):=by
 obtain⟨o,ho,oc,od⟩:=id ki;obtain⟨dd,hd,_,dt⟩:=id m;have own:Ub.Dict_items.ownsTuple "dict_keyiterator"=false:=by decide
 have nn : ¬ ((R_ d == Tx)=true):=Sd;constructor
 .intro e he hq;unfold pyNext;refine Ro (Vm (Ut (name:=Vg "__next__") ki.typeIs Ur (Ud Ur ki.typeIs Xr ?_ (Xd _))));refine Ro (RE (Ro (Ro (Ro (UI ki.typeIs (RE (Ro (XZ ho od ?_))))))));simp only[own,U2,if_false];show wpAny _ _ (if (R_ d == Tx)=true then _ else _) _ _ s;rw[if_neg nn];refine Ro (RE (Ro (Yh hd dt ?_)));rw[if_neg (by simp)];refine Ro (RE (Ro (Y2 hd dt ?_)));rw[if_neg (by simp)];refine RE ?_;simp only[show ¬ ((i:Int)<0) from by lia,if_false,Su,he];refine Ro (Ro (UI ki.typeIs (RE (Ro (Y8 ki.typeIs ?_)))));show wpAny _ _ (setField (.ref it) 1 (rawInt ((i:Int)+1)) >>= _) _ _ s;refine Ro (Uv ho od (by simp) ?_);have k2:(s.heap.update it (SU (·.setIfInBounds 1 (rawInt ((i:Int)+1))))).IsKeyIter it d (i+1) es.size ep:=⟨_,SQ _ ho (Uj (Tz od _)),(VO ..).trans oc,by rw[Tz od];simp[rawInt]⟩
  refine Ro (TM (Ro (Y8 (s:={s with heap:=s.heap.update it (SU (·.setIfInBounds 1 (rawInt ((i:Int)+1))))}) k2.typeIs ?_)));show wpAny _ _ (pure e.key) _ _ _;exact RE (RE ⟨_,rfl,RE (hq _ k2 (Tq ..))⟩)
 .intro hh he hq;unfold pyNext;refine Ro (Vm (Ut (name:=Vg "__next__") ki.typeIs Ur (Ud Ur ki.typeIs Xr ?_ (Xd _))));refine Ro (RE (Ro (Ro (Ro (UI ki.typeIs (RE (Ro (XZ ho od ?_))))))));simp only[own,U2,if_false];show wpAny _ _ (if (R_ d == Tx)=true then _ else _) _ _ s;rw[if_neg nn];refine Ro (RE (Ro (Yh hd dt ?_)));rw[if_neg (by simp)];refine Ro (RE (Ro (Y2 hd dt ?_)));rw[if_neg (by simp)];refine RE ?_;simp only[show ¬ ((i:Int)<0) from by lia,if_false,Su,he];refine Ro (Ro (UI ki.typeIs (RE ?_)));show wpAny _ _ (setField (.ref it) 0 .none >>= _) _ _ s;refine Ro (Uv ho od (by simp) ?_);show wpAny _ _ (newExc (.type "StopIteration") [] >>= _) _ _ _;refine Ro ?_;simp only[newExc,newTuple];refine Ro (TK ?_ (by size_fits));refine Ro (m:=firstArgMember _ _) (Yi (a:=Tx) (by simp only[firstArgMember];rfl) (TK ?_ (by size_fits)));simp only[raiseNew];refine Ro (ZH ?_);rw[show A.in1.handled=none from hh];refine Ro (RE (Za6 ?_));refine Ro (Xe (T:="StopIteration") (b:=true) ⟨_,Sb _ rfl,rfl⟩ Zh ?_);exact RE (hq _ (((Tq ..).extBut.push _).push _))
def Ab(hh:A.handled=none)(I d:Addr)(ne:d≠I)(es:Array XR)(ep:Nat):Za1 prog w A I [I,d] [I] es.size (λi v=>∃e,es[i]?=some e/\v=e.key) (λi h=>h.IsKeyIter I d i es.size ep/\RawD h d es ep) where
 sub:=λb hb=>by rw[RL.mp hb];simp
 frame:=λ_ _ _ st hk=>⟨st.1.at λo e=>hk I (by simp) o e,st.2.at λo e=>hk d (by simp) o e⟩
 item:=λi s Q E hi st hq=>by
  refine(uU st.1 st.2).1 es[i] (by simp[hi]) λh' k1 k2=>?_
  exact hq _ h' s.toks ⟨es[i],by simp[hi],rfl⟩ ⟨k1,st.2.at λo e=>k2.extBut d o ne e⟩ λb o hb e=>k2.extBut b o (λz=>hb (by simp[z])) e
 done:=λs Q E st hq=>(uU st.1 st.2).2 hh (by simp) λh' k=>hq h' s.toks λb o hb e=>k b o (λz=>hb (by simp[z])) e
 self:=λ_ _ _ _ st hq=>wpAny_pyIter_keyiter st.1 hq
def Ac(lo:(d == sysModules)=false):Zbu prog w "dict" d d es.size (λi v=>∃e,es[i]?=some e/\v=e.key) (λh=>RawD h d es ep) where
 type:=λ_ m=>m.ty
 there:=(by rintro _ ⟨_,e,_⟩;exact ⟨RV e,RV e⟩)
 keep:=λ_ _ m hk=>m.at λo e=>hk d (.inl rfl) o e
 notList:=by decide
 notTuple:=by decide
 hint:=λ_ _ _ _ m q=>PySem.W.kdl_hint_dict m.ty q
 iter:=λ_ _ hh m=>⟨_,_,(λ_ _ q=>EI lo m q),Ab hh _ d (by obtain⟨_,e,_⟩:=m;exact Si (RV e)) es ep,⟨⟨_,Sb _ rfl,rfl,rfl⟩,m.at λ_ e=>Rv _ e⟩⟩
end
def pQ:∀ys:List (List ba×Addr×Rs),Vals (ys.map (V.ref∘λy=>y.2.1)) (ys.map λy=>R_ y.2.1)
 |[]=>.nil
 |_ :: ys=>.cons rfl (pQ ys)
def Ka{de:List (List ba×V)}{ys:List (List ba×Addr×Rs)}(r:KT H de ys):Paired (λ(p:List ba×V) b=>H b=some (.tup (p.1.map kV))) de (ys.map λy=>y.2.1):=by
 induction r with
 |nil=>exact .nil
 |cons h t ih=>exact .cons h.2.1 ih
abbrev GB:List V->Hp->VK->Prop:=λxs H Q=>∃a de,xs=[.ref a]/\H a=some (.dT de)/\∀(l:Addr) (bs:List Addr),H l=none->Paired (λ(p:List ba×V) b=>H b=some (.tup (p.1.map kV))) de bs->Q (.ref l) (upd H l (.lst (bs.map V.ref)))
def xx{X:Cx} (hc:X.calm=true):fF X (.type "list") GB:=by
 intro ξ s σ H xs us Q I r h;obtain⟨a,de,rfl,ha,q⟩:=h;obtain⟨u,rfl,ru⟩:=vals1 r;cases ru;obtain⟨z,lo,ys,kt,o,es,ep,ho,ex,dt,he,_,_⟩:=Oc I.hok ha;have sz:es.size=de.length:=by rw[<- Sj,he,Rm];exact(Wl kt).symm
 refine ZaT (Ac (es:=es) (ep:=ep) lo) (I.ok.hd hc) ⟨o,ho,ex,dt⟩ (by rw[sz];exact z) λh' tk acc c kp hl hit=>?_
 have acc_eq:acc.toList=ys.map λy=>R_ y.2.1:=by
  refine Yj λj=>?_
  by_cases lt:j<es.size
  .have hj:j<acc.toList.length:=by rw[Sj];rw[hit.1];exact lt
   have e1:acc.toList[j]?=some acc.toList[j]:=Rn hj;obtain⟨e,ee,ev⟩:=hit.2 j acc.toList[j] (by rw[<- Sk];exact e1);rw[e1,ev];rw[<- Sk,he,Rt] at ee;obtain⟨y,hy1,hy2⟩:=RD.mp ee;rw[Rt,hy1,<- hy2];rfl
  .rw[Sw (by rw[Sj,hit.1];lia),Sw];rw[Rm]
   have:=Wl kt
   lia
 have vals:Vals ((ys.map λy=>y.2.1).map V.ref) acc.toList:=by
  rw[acc_eq,Tv];exact pQ ys
 have bS:Paired (λ(p:List ba×V) b=>H b=some (.tup (p.1.map kV))) de (ys.map λy=>y.2.1):=by
  exact Ka kt
 refine⟨.ref s.heap.objs.size,_,I.laid (t':=tk) kp (RB _) (show bB X.prog X.w _ h' _ (.lst ((ys.map λy=>y.2.1).map V.ref)) from⟨?_,acc.toList,c,vals,by rw[Xs];exact hl⟩),rfl,q _ _ (I.hok.fresh (RB _)) bS⟩;rw[Rm,Rm,<- Wl kt];exact z
section
variable{X:Cx}{ξ:List (Addr×Obj)}{σ:St}{H:Hp}{s:RC}{h':Heap}
def Inv.lQ{t':Nat}{fp:List Addr}(I:Inv X ξ σ H s)(k:∀b o,b∉fp->s.heap.get? b=some o->h'.get? b=some o)(hf:∀b∈fp,iU X ξ H b):Inv X ξ σ H {s with heap:=h',toks:=t'}:=by
 have nit:∀b u,H b=some u->b∉fp:=λb u e z=>by
  have q:=(hf b z).1;rw[q] at e;cases e
 refine I.step (g':=s.gens) (d':=s.drawn) (ch:=fp) (λb hb=>⟨(hf b hb).2.2.2.1,(hf b hb).2.1,(hf b hb).2.2.2.2.1,(hf b hb).2.2.2.2.2⟩) (λb o _ _ hc e _=>k b o hc e) (λb o _ _ hc e _=>⟨o.slots,k b o hc e⟩) (λ_ _ _ _ n=>n)
  (λb o hc e=>⟨o,k b o hc e⟩) (λ_ _ e=>e) (λ_ _ _ e=>e) (λb ps e=>⟨#[],by rw[e,ZP]⟩) (λm hm=>?_) (λb u e=>?_) I.bare
 .obtain⟨o,es,ep,ho,r⟩:=hm;exact⟨o,es,ep,k _ o (λz=>(hf _ z).2.1 rfl) ho,r⟩
 .refine(I.hok b u e).stay (λc v hc q=>k c v ?_ q) (λ_ q=>q) λ_ _ q=>q
  rcases hc with z|z
  .rw[z];exact nit b u e
  .exact nit c _ z
end
end L2
local macro_rules | `(tactic| walk_at "zo")=>`(tactic| first|omega|(show(_:Nat)≠_;omega))
namespace L2
open PySem PySem.Spec PyProof.Rows
inductive Kn|L|T
abbrev Kn.sq(k:Kn)(K:Fg)(H:Hp)(a:Addr)(xs:List V):Prop:=match k with
 |.L=>SqL K H a xs
 |.T=>SqT K H a xs
abbrev Kn.it(k:Kn)(h:Heap)(i l:Addr)(j:Nat):Prop:=match k with
 |.L=>h.IsListIter i l j
 |.T=>h.IsTupleIter i l j
abbrev Kn.seq(k:Kn)(h:Heap)(l:Addr)(xs:Array Rs):Prop:=match k with
 |.L=>h.IsList l xs
 |.T=>h.IsTuple l xs
abbrev Kn.obj(k:Kn)(l:Addr):Obj:=match k with
 |.L=>{cls:=.type "list_iterator",data:=.fields #[.ref l,.int 0 0]}
 |.T=>{cls:=.type "tuple_iterator",data:=.fields #[.ref l,.int 0 0]}
def Kn.itAt(k:Kn){h':Heap}{it:Addr}(t:k.it h it l j)(e:∀o,h.get? it=some o->h'.get? it=some o):k.it h' it l j:=by
 cases k
 .exact Heap.IsListIter.at t e
 .exact Heap.IsTupleIter.at t e
def Kn.Qs(k:Kn){it:Addr}(t:k.it h it l j):∃o,h.get? it=some o/\∀v,o.data≠.cell v:=by
 cases k <;> (obtain⟨o,e,_,d⟩:=t;exact⟨o,e,λv z=>by rw[d] at z;cases z⟩)
def Kn.D7(k:Kn){h':Heap}(t:k.seq h l xs)(e:∀o,h.get? l=some o->h'.get? l=some o):k.seq h' l xs:=by
 cases k
 .exact Heap.IsList.at t e
 .obtain⟨o,a,b⟩:=t;exact⟨o,e o a,b⟩
def Kn.lt(k:Kn)(t:k.seq h l xs):l<h.objs.size:=by
 cases k <;> (obtain⟨o,a,_⟩:=t;exact RV a)
def Kn.inv{H:Hp}(k:Kn)(I:Inv X ξ σ H s)(q:k.sq X.K H a xs):∃gV:List Rs,Vals xs gV/\k.seq s.heap a gV.toArray:=by
 cases k
 .obtain⟨gV,r,p,_⟩:=I.list q;exact⟨gV,r,p.isList⟩
 .obtain⟨gV,r,p,_⟩:=I.tuple q;exact⟨gV,r,p⟩
def Kn.inj{H:Hp}(k:Kn)(I:Inv X ξ σ H s)(q:k.sq X.K H a xs)(r:k.sq X.K H a ys):xs=ys:=by
 cases k
 .exact I.nW q r
 .exact I.o5 q r
section
variable{prog:RM}{w:R4}{A:SC}{E:Rs->RC->Prop}{s:RC}
def Kn.iter(k:Kn){Q:Rs->RC->Prop}(t:k.seq s.heap l xs)(q:Q (.ref s.heap.objs.size) {s with heap:=s.heap.push (k.obj l)}):wpAny (model prog w) A (pyIter (.ref l)) Q E s:=by
 cases k
 .exact Yc t q
 .exact ZV t q
def Kn.it0(k:Kn)(h:Heap)(l:Addr):k.it (h.push (k.obj l)) h.objs.size l 0:=by
 cases k <;> exact⟨_,Sb _ rfl,rfl,rfl⟩
def Kn.nx(k:Kn){it:Addr}{Q:Rs->RC->Prop}(t:k.it s.heap it l i)(q:k.seq s.heap l xs)(hi:∀x h',xs[i]?=some x->k.it h' it l (i+1)->UT it s.heap h'->Q x {s with heap:=h'})
  (he:xs[i]?=none->A.handled=none/\∀h' e,Za5 it s.heap h'->(∃o,h'.get? e=some o/\o.cls=.type "StopIteration")->E (.ref e) {s with heap:=h'}):wpAny (model prog w) A (V_ (.ref it)) Q E s:=by
 cases k with
 |L=>cases hx:xs[i]? with
  |some x=>exact wpAny_nextOf_list_item t q hx λh'=>hi x h' hx
  |none=>exact wpAny_nextOf_list_end (he hx).1 t q hx (he hx).2
 |T =>
  obtain⟨o,ho,oc,od⟩:=id t;obtain⟨ol,hl,_,nl,dl⟩:=id q;unfold V_;refine Ro (Ut (name:=Vg "__next__") t.typeIs X0 (Ud X0 t.typeIs F.entry_tuple_iterator_next ?_ (F.args_tuple_iterator_next_1 _)));show wpAny _ _ (field (.ref it) 0 >>= _) _ _ s;refine Ro (Vf ho od (x:=.ref l) rfl ?_);show wpAny _ _ (if (R_ l == Tx)=true then _ else _) _ _ s;rw[if_neg (show ¬ ((R_ l == Tx)=true) from Sd)];show wpAny _ _ (field (.ref it) 1 >>= _) _ _ s;refine Ro (Vf ho od (x:=.int i 0) rfl ?_);show wpAny _ _ (seqItems? (.ref l) >>= _) _ _ s;refine Ro (X2 hl dl ?_);simp only[Su];cases hx:xs[i]? with
  |some x =>
   exact Ro (Uv ho od (by simp) (RE ⟨x,rfl,RE (hi x _ hx ⟨_,SQ _ ho (Uj (Tz od _)),(VO ..).trans oc,by rw[Tz od];simp[rawInt]⟩ (Tq ..))⟩))
  |none =>
   refine Ro (YK (Ro (Uv ho od (by simp) ?_)));show wpAny _ _ (newExc (.type "StopIteration") [] >>= _) _ _ _;refine Ro ?_;simp only[newExc,newTuple];refine Ro (TK ?_ (by size_fits));refine Ro (m:=firstArgMember _ _) (Yi (a:=Tx) (by simp only[firstArgMember];rfl) ?_);refine TK ?_ (by size_fits);simp only[raiseNew];refine Ro (ZH ?_);rw[show A.in1.handled=none from(he hx).1];exact Ro (RE (Za6 ((he hx).2 _ _ (((Tq ..).extBut.push _).push _) ⟨_,Sb _ rfl,rfl⟩)))
def ff{α β:Type}{F:α->β->Prop}:∀{l:List α} {m:List β} {i:Nat} {x:α},Paired F l m->l[i]?=some x->∃y,m[i]?=some y/\F x y
 |_,_,0,_,.cons r _,e=>by cases e;exact⟨_,rfl,r⟩
 |_,_,i+1,x,.cons _ t,e=>ff (i:=i) t e
structure OA (B:Nat) (ks:List (Kn×Addr)) (i:Nat) (f0:Rs) (h:Heap):Prop where
 z:IsZip h (B+ks.length+2) (B+ks.length) (B+ks.length+1) f0
 c:h.get? (B+ks.length)=some {cls:=.type "tuple",data:=.seq ((RQ ks.length).map λj=>R_ (B+j)).toArray}
 o:∃a:Array Rs,a.size=ks.length/\h.get? (B+ks.length+1)=some {cls:=.type "tuple",data:=.seq a}
 t:∀(j:Nat) (p:Kn×Addr),ks[j]?=some p->p.1.it h (B+j) p.2 i
structure QM (B:Nat) (ks:List (Kn×Addr)) (us:List (Array Rs)) (i j:Nat) (h0 h:Heap):Prop where
 sz:h.objs.size=h0.objs.size
 z:IsZip h (B+ks.length+2) (B+ks.length) (B+ks.length+1) .ellipsis
 o:∃a:Array Rs,a.size=ks.length/\h.get? (B+ks.length+1)=some {cls:=.type "tuple",data:=.seq a}/\∀m<j,∃u:Array Rs,us[m]?=some u/\a[m]? = u[i]?/\i<u.size
 t:∀(m:Nat) (p:Kn×Addr),ks[m]?=some p->p.1.it h (B+m) p.2 (if m<j then i+1 else i)
 k:∀c o,(c<B\/c=B+ks.length\/B+ks.length+2<c)->h0.get? c=some o->h.get? c=some o
def xG{ks:List (Kn×Addr)}{Q:Option Rs->RC->Prop}(ne:0<ks.length)(lz:ks.length<=sizeLine)(st:OA B ks i .none s.heap)(sq:Paired (λ(p:Kn×Addr) (u:Array Rs)=>p.2<B/\p.1.seq s.heap p.2 u) ks us)
  (hi:∀h' a,a.size=ks.length->(∀(m:Nat) (u:Array Rs),us[m]?=some u->i<u.size/\a[m]? = u[i]?)->OA B ks (i+1) (rawInt s.heap.objs.size) h'->h'.get? s.heap.objs.size=some {cls:=.type "tuple",data:=.seq a}->(∀c o,(c<B\/B+ks.length+2<c)->s.heap.get? c=some o->h'.get? c=some o)->Q (some (.ref s.heap.objs.size)) {s with heap:=h'})
  (he:∀u∈us,u.size<=i->A.handled=none/\∀h',(∀c o,(c<B\/B+ks.length+2<c)->s.heap.get? c=some o->h'.get? c=some o)->Q none {s with heap:=h'}):wpAny (model prog w) A (pyNext (.ref (B+ks.length+2))) Q E s:=by
 obtain⟨hz,hI,⟨a0,ha,hO⟩,ht⟩:=st;have ty:s.TypeIs (.ref (B+ks.length+2)) "zip":=⟨_,hz,rfl⟩
 unfold pyNext;refine Ro (Vm (Ut (name:=Vg "__next__") ty F.slot_zip_next (Ud F.slot_zip_next ty F.entry_zip_next ?_ (F.args_zip_next_1 _))));show wpAny _ _ (field (.ref (B+ks.length+2)) 2 >>= _) _ _ _;refine Ro (Vf hz rfl (x:=.bool false) rfl ?_);show wpAny _ _ (field (.ref (B+ks.length+2)) 3 >>= _) _ _ _;refine Ro (Vf hz rfl (x:=.ref (B+ks.length)) rfl (Ro (X2 hI rfl ?_)));have em : ¬ (((RQ ks.length).map λj=>R_ (B+j)).toArray.isEmpty=true):=λz=>by simp at z;rw[z] at ne;cases ne
 dsimp only;rw[if_neg em];refine Ro ?_;unfold Ub.SmallTypes.ownedTupleIsFree;refine Ro (Vf hz rfl (x:=.none) rfl (RE ?_));simp only[if_true];have pl:=sq.length;refine Ro (YK (Ro (Vf hz rfl (x:=.ref (B+ks.length+1)) rfl (Ro (WB hz (by simp) λh1 hz1 hs1=>?_)))));refine Ro (wpAny_forIn_list _ (λrest b s'=>∃j h,j<=ks.length/\rest=(((RQ ks.length).map λj=>R_ (B+j)).zipIdx).drop j/\b=(none,())/\s' = {s with heap:=h}/\QM B ks us i j s.heap h) _ ?_ ?_ _ _ ⟨0,h1,SD _,rfl,rfl,rfl,hs1.1,hz1,⟨a0,ha,hs1.extBut _ _ (by walk_at "zo") hO,λm z=>nomatch z⟩,λm p hp=>p.1.itAt (ht m p hp) λo=>hs1.extBut _ _ (by have:=(Rq.mp hp).1;walk_at "zo"),λc o hc=>hs1.extBut _ _ (by walk_at "zo")⟩)
 .rintro x rest b s' ⟨j,h,le,e,rfl,rfl,M⟩;have lj:j<ks.length:=ZY le λz=>by rw[z,Ux (by simp)] at e;cases e
  rw[U9 (by simpa using lj)] at e;obtain⟨e1,e2⟩:=UE e;obtain rfl:x=(R_ (B+j),j):=by rw[e1];simp
  have hp:ks[j]?=some ks[j]:=Rn lj;obtain⟨u,hu,lu,sp⟩:=ff sq hp;have tj:=M.t j _ hp;rw[if_neg (UX j)] at tj;show wpAny _ _ (((V_ (.ref (B+j)) >>= λv=>pure (some v)).onRaise _) >>= _) _ _ _;refine Ro (wpAny_onRaise (Ro (ks[j].1.nx tj (ks[j].1.D7 sp λo=>M.k _ o (.inl lu)) (λx h2 hx t2 hs2=>RE ?_) λhx=>?_)))
  .obtain⟨a,ha,hO,hd⟩:=M.o;have hO2:=hs2.extBut _ _ (by walk_at "zo") hO;have sb:=Tq h2 (B+ks.length+1) (Wy (·.setIfInBounds j x));have kp:∀c o,c≠B+j->c≠B+ks.length+1->h.get? c=some o->_:=λc o c1 c2 e=>sb.extBut c o c2 (hs2.extBut c o c1 e)
   refine Ro (X2 hO2 rfl (Ro (wpAny_updateSeq hO2 rfl (Ro (wpAny_letGo (RE ⟨j+1,_,lj,e2,rfl,rfl,?_,kp _ _ (by walk_at "zo") (by walk_at "zo") M.z,⟨a.setIfInBounds j x,by simpa using ha,?_,λm hm=>?_⟩,λm p hm=>?_,λc o hc e=>kp c o (by walk_at "zo") (by walk_at "zo") (M.k c o hc e)⟩))))))
   .rw[sb.1,hs2.1];exact M.sz
   .rw[SQ _ hO2 rfl];simp[Wy]
   .rcases Ys.mp hm with q|rfl
    .obtain⟨v,h1,h2,h3⟩:=hd m q;exact⟨v,h1,by rw[W2 (by lia)];exact h2,h3⟩
    .exact⟨u,hu,by rw[Array.getElem?_setIfInBounds_self_of_lt (by lia),hx],(TY.mp hx).1⟩
   .have lm:=(Rq.mp hm).1;by_cases q:m=j
    .subst q;rw[hp] at hm;cases hm;rw[if_pos (YB _)];exact ks[m].1.itAt t2 λo=>sb.extBut _ _ (by walk_at "zo")
    .rw[show(if m<j+1 then i+1 else i)=if m<j then i+1 else i by split <;> split <;> lia];exact p.1.itAt (M.t m p hm) λo=>kp _ _ (by walk_at "zo") (by walk_at "zo")
  .obtain⟨hh,q⟩:=he u (Ry hu) (Array.getElem?_eq_none_iff.mp hx);refine⟨hh,λh2 e hs2 ω=>?_⟩;obtain⟨oe,hoe,hce⟩:=ω;have hz2:=hs2 _ _ (by walk_at "zo") M.z;have ez:e≠B+ks.length+2:=λx=>by rw[x,hz2] at hoe;cases hoe;simp at hce
   refine WB hz2 (by simp) λh3 _ hs3=>?_
   exact Ro (Xe (T:="StopIteration") (b:=true) ⟨oe,hs3.extBut _ _ ez hoe,hce⟩ Zh (RE (q _ λc o hc e=>hs3.extBut _ _ (by walk_at "zo") (hs2 _ _ (by walk_at "zo") (M.k c o (by walk_at "zo") e)))))
 .rintro b s' ⟨j,h,le,e,rfl,rfl,M⟩
  obtain rfl:j=ks.length:=by
   have:=congrArg Ue e
   simp at this;lia
  obtain⟨a,ha,hO,hd⟩:=M.o;refine Ro (X2 hO rfl (Ro (Zi ?_ (by rw[Sj,ha];exact lz))));show wpAny _ _ (Wh (.ref (B+ks.length+2)) (.ref h.objs.size) >>= _) _ _ _;refine Ro ?_;unfold Wh;have zl:=RV M.z;refine Ro (WB (Rv _ M.z) (by simp) λh7 hz7 hs7=>WB hz7 (by simp) λh8 hz8 hs8=>RE ⟨_,rfl,?_⟩);have up:∀c o,c≠B+ks.length+2->h.get? c=some o->h8.get? c=some o:=λc o c1 e=>hs8.extBut _ _ c1 (hs7.extBut _ _ c1 (Rv _ e))
  have hT:=hs8.extBut _ _ (UD zl) (hs7.extBut _ _ (UD zl) (Sb (o:={cls:=.type "tuple",data:=.seq a}) h rfl));show wpAny _ _ (pure (some (R_ h.objs.size))) _ _ _;rw[M.sz] at hT hz8 ⊢;refine RE (hi h8 a ha (λm u hu=>?_) ⟨hz8,up _ _ (by walk_at "zo") (M.k _ _ (.inr (.inl rfl)) hI),⟨a,ha,up _ _ (by walk_at "zo") hO⟩,λm p hp=>p.1.itAt ?_ λo=>up _ o (by have:=(Rq.mp hp).1;walk_at "zo")⟩ hT λc o hc e=>up c o (by walk_at "zo") (M.k c o (by walk_at "zo") e))
  .obtain⟨v,h1,h2,h3⟩:=hd m (by have:=(Rq.mp hu).1;lia);rw[h1] at hu;cases hu;exact⟨h3,h2⟩
  .have:=M.t m p hp
   rwa [if_pos (Rq.mp hp).1] at this
def Dd{Q:List Rs->RC->Prop}(sq:Paired (λ(p:Kn×Addr) (u:Array Rs)=>p.1.seq s.heap p.2 u) ks us)
  (q:∀h':Heap,h'.objs.size=s.heap.objs.size+ks.length->(∀(j:Nat) (p:Kn×Addr),ks[j]?=some p->p.1.it h' (s.heap.objs.size+j) p.2 0)->(∀c o,s.heap.get? c=some o->h'.get? c=some o)->Q ((RQ ks.length).map λj=>R_ (s.heap.objs.size+j)) {s with heap:=h'}) :
  wpAny (model prog w) A (X3 (ks.map λp=>.ref p.2)) Q E s:=by
 unfold X3
 refine Ro (wpAny_forIn_list _ (λrest b s'=>∃j h,j<=ks.length/\rest=(ks.map λp=>R_ p.2).drop j/\b=((RQ j).map λj=>R_ (s.heap.objs.size+j)).toArray/\s' = {s with heap:=h}/\h.objs.size=s.heap.objs.size+j /\
  (∀(m:Nat) (p:Kn×Addr),m<j->ks[m]?=some p->p.1.it h (s.heap.objs.size+m) p.2 0)/\∀c o,s.heap.get? c=some o->h.get? c=some o) _ ?_ ?_ _ _ ⟨0,s.heap,SD _,rfl,rfl,rfl,rfl,(λm p z=>absurd z (T_ m)),λc o e=>e⟩)
 .rintro x rest b s' ⟨j,h,le,e,rfl,rfl,sz,t,kp⟩;have lj:j<ks.length:=ZY le λz=>by rw[z,Ux (by simp)] at e;cases e
  rw[U9 (by simpa using lj)] at e;obtain⟨e1,e2⟩:=UE e;obtain rfl:x=R_ ks[j].2:=by rw[e1];simp
  obtain⟨u,_,sp⟩:=ff sq (Rn lj);refine Ro (TM (ks[j].1.iter (ks[j].1.D7 sp λo=>kp _ o) (RE ⟨j+1,_,lj,e2,?_,rfl,?_,λm p hm hp=>?_,λc o e=>Rv _ (kp c o e)⟩)))
  .simp[UQ,sz]
  .simp[U3,sz];lia
  .rcases Ys.mp hm with q|rfl
   .exact p.1.itAt (t m p q hp) λo=>Rv _
   .rw[Rn lj] at hp;cases hp;rw[<- sz];exact ks[m].1.it0 _ _
 .rintro b s' ⟨j,h,le,e,rfl,rfl,sz,t,kp⟩
  obtain rfl:j=ks.length:=by
   have:=congrArg Ue e
   simp at this;lia
  exact RE (q h sz (λj p hp=>t j p (Rq.mp hp).1 hp) kp)
def Pj{h:Heap}{n:Nat}{a b c:Obj}(sz:h.objs.size=n)(fa:a.isFreed=false)(fb:b.isFreed=false)(fc:c.isFreed=false):(h.push a).objs.size=n+1/\((h.push a).push b).objs.size=n+2 /\
  (((h.push a).push b).push c).get? n=some a/\(((h.push a).push b).push c).get? (n+1)=some b/\(((h.push a).push b).push c).get? (n+2)=some c/\∀x o,h.get? x=some o->(((h.push a).push b).push c).get? x=some o:=by
 have e1:(h.push a).objs.size=n+1:=by rw[U3,sz]
 have e2:((h.push a).push b).objs.size=n+2:=by rw[U3,e1]
 refine⟨e1,e2,?_,?_,?_,λx o e=>Rv _ (Rv _ (Rv _ e))⟩
 .rw[<- sz];exact Rv _ (Rv _ (Sb _ fa))
 .rw[<- e1];exact Rv _ (Sb _ fb)
 .rw[<- e2];exact Sb _ fc
def Dc(ks:List (Kn×Addr)) (us:List (Array Rs)):Meets (Ub.«zip.__new__» ⟨.type "zip" :: ks.map λp=>.ref p.2,[]⟩) (λ_ R s=>ks.length<=sizeLine/\Paired (λ(p:Kn×Addr) (u:Array Rs)=>p.1.seq s.heap p.2 u) ks us /\
  ∀h',OA s.heap.objs.size ks 0 .none h'->(∀c o,s.heap.get? c=some o->h'.get? c=some o)->R (.ok (.ret (.ref (s.heap.objs.size+ks.length+2)))) {s with heap:=h'}) :=
 .of_wp λprog w A R s h=>by
  obtain⟨lz,sq,h⟩:=h;have hsub:=sub_zip;wp_walk using Dd sq;intro h' sz t kp;refine Ro (Zi (Ro (Zi (Ro ?_) (by simpa using lz))) (by simpa using lz));wp_walk;refine⟨_,rfl,?_⟩
  obtain⟨e1,e2,g1,g2,g3,kp2⟩:=Pj (h:=h') (a:={cls:=.type "tuple",data:=.seq ((RQ ks.length).map λj=>R_ (s.heap.objs.size+j)).toArray}) (b:={cls:=.type "tuple",data:=.seq (((RQ ks.length).map λj=>R_ (s.heap.objs.size+j)).map λ_=>Tx).toArray})
   (c:={cls:=.type "zip",data:=.fields #[.none,.bool false,.bool false,.ref (s.heap.objs.size+ks.length),.ref (s.heap.objs.size+ks.length+1)]}) sz rfl rfl rfl
  simp only[sz,e1,e2];exact h _ ⟨g3,g1,⟨_,by simp,g2⟩,λj p hp=>p.1.itAt (t j p hp) λo=>kp2 _ o⟩ λc o e=>kp2 c o (kp c o e)
end
abbrev O5(K:Fg)(ks:List (Kn×Addr)):It :=
 ⟨λi H=>∀p∈ks,∃xs,p.1.sq K H p.2 xs/\i<xs.length,λi H v H'=>∃T ys,H T=none/\v=.ref T/\H'=upd H T (.tup ys)/\Paired (λ(p:Kn×Addr) y=>∀xs,p.1.sq K H p.2 xs->xs[i]?=some y) ks ys,
  λi H=>∀p∈ks,∃xs,p.1.sq K H p.2 xs/\(i<xs.length->∃p∈ks,∃xs,p.1.sq K H p.2 xs/\xs.length<=i)⟩
def g9{α β:Type}{F:α->β->Prop}:∀{l:List α},(∀x∈l,∃y,F x y)->∃m,Paired F l m
 |[],_=>⟨[],.nil⟩
 |x :: l,h=>by
  obtain⟨y,hy⟩:=h x Ru;obtain⟨m,hm⟩:=g9 λz hz=>h z (RA x hz)
  exact⟨y :: m,.cons hy hm⟩
def kQ{α β:Type}{F:α->β->Prop}:∀{l:List α} {m:List β},Paired F l m->∀y∈m,∃x∈l,F x y
 |_,_,.cons r t,y,h=>by
  rcases RW.mp h with rfl|z
  .exact⟨_,Ru,r⟩
  .obtain⟨x,hx,e⟩:=kQ t y z;exact⟨x,RA _ hx,e⟩
def ut{X:Cx}{ξ:List (Addr×Obj)}{σ:St}{H:Hp}{s:RC}(I:Inv X ξ σ H s){i:Nat}:∀{ks:List (Kn×Addr)} {us:List (Array Rs)},Paired (λ(p:Kn×Addr) (u:Array Rs)=>∃xs,p.1.sq X.K H p.2 xs/\Vals xs u.toList) ks us->(∀(m:Nat) (u:Array Rs),us[m]?=some u->i<u.size) ->
  ∃ys vs,Paired (λ(p:Kn×Addr) y=>∀xs,p.1.sq X.K H p.2 xs->xs[i]?=some y) ks ys/\Vals ys vs/\vs.length=us.length/\∀(m:Nat) (u:Array Rs),us[m]?=some u->vs[m]? = u[i]?
 |_,_,.nil,_=>⟨[],[],.nil,.nil,rfl,λm u e=>nomatch e⟩
 |p :: ks,u :: us,.cons ⟨xs,q,r⟩ t,h=>by
  obtain⟨ys,vs,h1,h2,h3,h4⟩:=ut I t λm u e=>h (m+1) u e
  have l:=h 0 u rfl;have lx:i<xs.length:=by rw[r.length];exact l
  obtain⟨v,e1,e2⟩:=r.get (Rn lx);refine⟨xs[i] :: ys,v :: vs,.cons (λzs hz=>by rw[p.1.inj I hz q];exact Rn lx) h1,.cons e2 h2,congrArg (· + 1) h3,λm w e=>?_⟩;cases m with
  |zero=>cases e;exact e1.symm.trans (by simp)
  |succ m=>exact h4 m w e
def xR{K:Fg}{x1}{ks:List (Kn×Addr)}{B:Nat}(ne:0<ks.length)(lz:ks.length<=sizeLine)(lb:∀p∈ks,p.2<B):ug P w K (.Tuple elts x1 pos) (O5 K ks) (Xu B (ks.length+3)) (B+ks.length+2) (λi h=>OA B ks i .none h):=by
 have mem:∀{c:Nat},c∈Xu B (ks.length+3)↔B<=c/\c<B+(ks.length+3):=λ{c}=>Zan
 have out:∀{c:Nat},c∉Xu B (ks.length+3)->c<B\/B+ks.length+2<c:=λ{c} hc=>by rw[mem] at hc;lia
 have obj:∀i h,OA B ks i .none h->∀b∈Xu B (ks.length+3),∃o,h.get? b=some o/\∀v,o.data≠.cell v:=λi h st b hb=>by
  obtain⟨b1,b2⟩:=mem.mp hb;by_cases c:b<B+ks.length
  .obtain⟨j,rfl⟩:=Nat.exists_eq_add_of_le b1;have lj:j<ks.length:=by lia
   exact ks[j].1.Qs (st.t j _ (Rn lj))
  .rcases (by lia:b=B+ks.length\/b=B+ks.length+1\/b=B+ks.length+2) with rfl|rfl|rfl
   .exact⟨_,st.c,λv q=>by cases (show ZbP _ _=Zs v from q)⟩
   .obtain⟨a,_,e⟩:=st.o;exact⟨_,e,λv q=>by cases (show ZbP _ _=Zs v from q)⟩
   .exact⟨_,st.z,λv q=>by cases (show Za0 _=Zs v from q)⟩
 have us_of:∀{X:Cx} {ξ:List (Addr×Obj)} {σ:St} {H:Hp} {s:RC},Inv X ξ σ H s->(∀p∈ks,∃xs,p.1.sq X.K H p.2 xs)->∃us:List (Array Rs),Paired (λ(p:Kn×Addr) (u:Array Rs)=>∃xs,p.1.sq X.K H p.2 xs/\Vals xs u.toList) ks us/\Paired (λ(p:Kn×Addr) (u:Array Rs)=>p.2<B/\p.1.seq s.heap p.2 u) ks us:=λ{X ξ σ H s} I h=>by
  obtain⟨us,hu⟩:=g9 (F:=λ(p:Kn×Addr) (u:Array Rs)=>(∃xs,p.1.sq X.K H p.2 xs/\Vals xs u.toList)/\p.2<B/\p.1.seq s.heap p.2 u) λp hp=>by
   obtain⟨xs,q⟩:=h p hp;obtain⟨gV,r,z⟩:=p.1.inv I q;exact⟨gV.toArray,⟨xs,q,r⟩,lb p hp,z⟩
  exact⟨us,Paired.mapP hu λ_ _ z=>z.1,Paired.mapP hu λ_ _ z=>z.2⟩
 refine⟨mem.mpr (by lia),obj,λi h h' st kp=>⟨kp _ (mem.mpr (by lia)) _ st.z,kp _ (mem.mpr (by lia)) _ st.c,?_,λj p hp=>p.1.itAt (st.t j p hp) (kp _ (mem.mpr (by have:=(Rq.mp hp).1;lia)))⟩,?_,?_,λ_ _ _ _ _ st q=>wpAny_pyIter_zip st.z q⟩
 .obtain⟨a,e,q⟩:=st.o;exact⟨a,e,kp _ (mem.mpr (by lia)) _ q⟩
 .intro X hP hw hK hc i ξ s σ H E I hf st hg;subst hP hw hK;obtain⟨us,u1,u2⟩:=us_of I λp hp=>let ⟨xs,q,_⟩:=hg p hp;⟨xs,q⟩
  refine xG ne lz st u2 (λh' a ha hu st' hT all=>⟨_,rfl,?_⟩) λu hm le=>?_
  .obtain⟨ys,vs,y1,y2,y3,y4⟩:=ut I u1 λm u e=>(hu m u e).1
   obtain rfl:a=vs.toArray:=by
    refine ZZ λm=>?_
    by_cases c:m<us.length
    .exact(hu m _ (Rn c)).2.trans ((y4 m _ (Rn c)).symm.trans (by simp))
    .rw[UW (by rw[ha,u1.length];lia),VL,Sw (by lia)]
   refine wpAny_letOwnedTupleGo_zip st'.z λh2 hz2 sb=>?_
   have nT:∀c∈Xu B (ks.length+3),c≠s.heap.objs.size:=λc hc=>let ⟨_,q,_⟩:=obj i _ st c hc;Si (RV q)
   have I1:Inv X ξ σ (upd H s.heap.objs.size (.tup ys)) {s with heap:=s.heap.push {cls:=.type "tuple",data:=.seq vs.toArray}} :=
    I.laid (t':=s.toks) (λb u e=>Rv _ e) (RB _) ⟨by rw[<- y1.length];exact lz,vs,y2,TupD.new _ _⟩
   have up:∀c o,c∉Xu B (ks.length+3)->(s.heap.push {cls:=.type "tuple",data:=.seq vs.toArray}).get? c=some o->h2.get? c=some o:=λc o hc e=>by
    have ncz:c≠B+ks.length+2:=λz=>hc (mem.mpr (by rw[z];lia))
    rcases Zj e with⟨ec,eo⟩|e
    .rw[ec,eo];exact sb.extBut _ _ (by rw[<- ec];exact ncz) hT
    .exact sb.extBut _ _ ncz (all c o (out hc) e)
   refine⟨.ref s.heap.objs.size,_,Inv.lQ (s:={s with heap:=s.heap.push {cls:=.type "tuple",data:=.seq vs.toArray}}) (t':=s.toks) I1 up λc hc=>⟨by rw[aC (nT c hc)];exact(hf c hc).1,(hf c hc).2⟩,rfl,⟨_,ys,I.hok.fresh (RB _),rfl,rfl,y1⟩,⟨hz2,sb.extBut _ _ (by walk_at "zo") st'.c,?_,λj p hp=>p.1.itAt (st'.t j p hp) λo=>sb.extBut _ _ (by have:=(Rq.mp hp).1;walk_at "zo")⟩,λc hc=>by rw[aC (nT c hc)];exact(hf c hc).1⟩;obtain⟨a,e,q⟩:=st'.o;exact⟨a,e,sb.extBut _ _ (by walk_at "zo") q⟩
  .obtain⟨p,hp,xs,q,r⟩:=kQ u1 u hm;obtain⟨ys,q',l⟩:=hg p hp;rw[p.1.inj I q' q,r.length] at l;exact absurd l (Nat.not_lt.mpr le)
 .intro X hP hw hK hc i ξ s σ H E I hf st hg;subst hP hw hK;obtain⟨us,u1,u2⟩:=us_of I λp hp=>let ⟨xs,q,_⟩:=hg p hp;⟨xs,q⟩
  refine xG ne lz st u2 (λh' a ha hu _ _ _=>?_) λu _ _=>⟨I.ok.hd hc,λh' all=>⟨rfl,I.lQ (t':=s.toks) (λc o hc e=>all c o (out hc) e) hf⟩⟩
  have big:∀p∈ks,∀xs,p.1.sq X.K H p.2 xs->i<xs.length:=λp hp xs q=>by
   obtain⟨j,hj⟩:=SN hp;obtain⟨u,e,ys,q',r⟩:=ff u1 hj;rw[p.1.inj I q q',r.length];exact(hu j u e).1
  obtain⟨p,hp⟩:=List.exists_mem_of_length_pos ne;obtain⟨xs,q,f⟩:=hg p hp;obtain⟨p',hp',ys,q',le⟩:=f (big p hp xs q);exact absurd (big p' hp' ys q') (Nat.not_lt.mpr le)
section
variable{X:Cx}
def oY:∀{as:List (Kn×Addr)} {us:List Rs},Vals (as.map λp=>V.ref p.2) us->us=as.map λp=>R_ p.2
 |[],_,.nil=>rfl
 |_ :: _,_,.cons r t=>by cases r;rw[oY t];rfl
def xH{H:Hp}{x1}{R:It->Hp->Prop}{ks:List (Kn×Addr)}(I:Inv X ξ σ H s)(r:Vals (ks.map λp=>V.ref p.2) us)(ne:0<ks.length)(lz:ks.length<=sizeLine)(hs:∀p∈ks,∃xs,p.1.sq X.K H p.2 xs)(q:R (O5 X.K ks) H)
  (c1:checkTypeCall "zip" ⟨ks.map λp=>.ref p.2,[]⟩=pure ()) (c2:checkBuiltinCall "zip.__new__" ⟨.type "zip" :: ks.map λp=>.ref p.2,[]⟩=pure ()) (c3:∀o,argsOk "object.__init__" ⟨o :: ks.map λp=>.ref p.2,[]⟩) :
  wpAny (model X.prog X.w) X.A (call (.type "zip") us) (λv s1=>wpAny (model X.prog X.w) X.A (pyIter v) (QT X ξ σ (.Tuple elts x1 tp) R) X.xe s1) X.xe s:=by
 rw[oY r];obtain⟨vs,hv⟩:=g9 (F:=λ(p:Kn×Addr) (u:Array Rs)=>p.1.seq s.heap p.2 u) λp hp=>let ⟨xs,q⟩:=hs p hp;let ⟨gV,_,z⟩:=p.1.inv I q;⟨gV.toArray,z⟩
 refine callType_new F.called_zip (by decide) c1 c2 c3 F.entry_zip_new (Dc ks vs) ⟨lz,hv,λh' st kp=>⟨⟨_,st.z,rfl⟩,wpAny_pyIter_zip (s:={s with heap:=h'}) st.z ⟨_,_,_,_,H,rfl,I.kept (t':=s.toks) kp,xR ne lz λp hp=>?_,st,λc hc=>?_,q⟩⟩⟩
 .obtain⟨xs,q⟩:=hs p hp;obtain⟨gV,_,z⟩:=p.1.inv I q;exact p.1.lt z
 .have le:=(Zan.mp hc).1;exact I.fpOk le (I.hok.fresh le)
def all2{α:Type}{F:α->Prop}{x y:α}(h1:F x)(h2:F y):∀z∈[x,y],F z:=Xv.mpr ⟨h1,Xv.mpr ⟨h2,nofun⟩⟩
def Hn:bootBuiltins "zip"=some (.type "zip"):=by decide +kernel
nonrec abbrev Hu(K:Fg)(k1 k2:Kn)(a b:Addr):It:=O5 K [(k1,a),(k2,b)]
abbrev tO(K:Fg)(k1 k2:Kn)(ta:TA):TI:=λσ H R=>ta σ H λvs H1=>∃a b xs ys,vs=[.ref a,.ref b]/\k1.sq K H1 a xs/\k2.sq K H1 b ys/\R (Hu K k1 k2 a b) H1
def Mq{x y:Expr} {ta:TA}  {x1} {p pos:Pos} (hg:Gl X "zip") (hm:X.mg "zip"=none) (ha:PA X [x,y] ta) (hs:starEach [x,y] X.env=[(false,eval x X.env),(false,eval y X.env)]:=by rfl) (hs2:starEach [y] X.env=[(false,eval y X.env)]:=by rfl) :
  PI X (.Tuple elts x1 tp) (.Call (.Name "zip" p) [x,y] [] pos) (tO X.K k1 k2 ta):=by
 intro ξ s σ H R I h;refine Call_ (eO I hg hm Hn (Tb (a5 (ha pos ξ s σ H _ I h) λus s1 ω=>?_) (by rw[hs,hs2]) (by rw[hs2];rfl)));obtain⟨vs,H1,I1,r1,a,b,xs,ys,e,s1q,s2q,q⟩:=ω;subst e;exact xH (ks:=[(k1,a),(k2,b)]) I1 r1 (YT _) aM (all2 ⟨xs,s1q⟩ ⟨ys,s2q⟩) q (F.typeCall_zip_2 _ _) (F.newCall_zip_2 _ _) λo=>F.args_object_init_3 o _ _
def xI{K:Fg}{k1 k2:Kn}{i n:Nat}(q1:k1.sq K H a xs)(q2:k2.sq K H b ys)(e1:n<=xs.length)(e2:n<=ys.length)(e3:xs.length=n\/ys.length=n):(i<n->(Hu K k1 k2 a b).go i H)/\(n<=i->(Hu K k1 k2 a b).stop i H)/\∀{v H'},(Hu K k1 k2 a b).yld i H v H'->∃T x y,H T=none/\v=.ref T/\H'=upd H T (.tup [x,y])/\xs[i]?=some x/\ys[i]?=some y:=by
 refine⟨λl=>all2 ⟨xs,q1,by lia⟩ ⟨ys,q2,by lia⟩,λl=>?_,λ⟨T,zs,h1,h2,h3,h4⟩=>?_⟩
 .have:∃p∈[(k1,a),(k2,b)],∃xs,p.1.sq K H p.2 xs/\xs.length<=i:=by
   rcases e3 with e|e
   .exact⟨_,.head _,xs,q1,by lia⟩
   .exact⟨_,.tail _ (.head _),ys,q2,by lia⟩
  exact all2 ⟨xs,q1,λ_=>this⟩ ⟨ys,q2,λ_=>this⟩
 .obtain _|⟨z1,_|⟨z2,_|_⟩⟩:=h4
  exact⟨T,_,_,h1,h2,h3,z1 xs q1,z2 ys q2⟩
end
section
variable{K:Fg}{te:TE}{σ:St}{Q:VK}{H:Hp}
abbrev Gm(g:TG)(n:Nat)(te:TE)(σ:St)(v:V)(H:Hp)(D:Addr)(m i:Nat)(Pv:Nat->Hp->Prop):Prop:=∀us:St,us.length=n->g v (us ++ σ) H λσ2 H2=>(∃us':St,us'.length=n/\σ2=us' ++ σ)/\te σ2 H2 (oU D m i Pv)
def vR{k1 k2:Kn}{xs ys:List V}(h:∀D,H D=none->∃Pv:Nat->Hp->Prop,Pv 0 (upd H D (.lst []))/\(∀i H2,i<=min xs.length ys.length->Pv i H2->k1.sq K H2 a xs/\k2.sq K H2 b ys) /\
  (∀i x y H2 T,xs[i]?=some x->ys[i]?=some y->Pv i H2->H2 T=none->Gm g n te σ (.ref T) (upd H2 T (.tup [x,y])) D (min xs.length ys.length) i Pv)/\∀H2,Pv (min xs.length ys.length) H2->Q (.ref D) H2):ul (Hu K k1 k2 a b) n g te σ Q H:=by
 intro D nD;obtain⟨Pv,h0,hl,hs,hd⟩:=h D nD;refine⟨λi m H=>m=min xs.length ys.length-i/\i<=min xs.length ys.length/\Pv i H,⟨_,rfl,SD _,h0⟩,?_⟩;rintro i m H ⟨rfl,hi,p⟩;obtain⟨q1,q2⟩:=hl i H hi p;obtain⟨g1,g2,g3⟩:=xI (i:=i) (n:=min xs.length ys.length) q1 q2 (by lia) (by lia) (by lia);by_cases hlt:i<min xs.length ys.length
 .refine .inr ⟨g1 hlt,λv H' y us hu=>?_⟩;obtain⟨T,x,z,nT,rfl,rfl,z1,z2⟩:=g3 y;exact hs i x z H T z1 z2 p nT us hu
 .obtain rfl:i=min xs.length ys.length:=by lia
  exact .inl ⟨g2 (RB _),hd H p⟩
end
open PySem.W (Dat kqdOk)
def AccZ.cF{K:Fg}(A:AccZ K H0 l H ds)(r:Rz K H y d)(n:ds.length<sizeLine){Pv:Hp->Prop}(h:∀H2,AccZ K H0 l H2 (ds++[d])->Pv H2):KZ l Pv y H:=by
 obtain⟨xs,h1,h2⟩:=A.at_;refine⟨xs,h1,by rw[h2.length];exact n,h _ ⟨A.ag,A.new,xs++[y],L2.ag,?_⟩⟩;exact RzL.upd (h2.append (.cons r .nil)) h1
open PySem
section
variable{K:Fg}{σ:St}{H:Hp}{Q:VK}{te:TE}
def Km{wi:TI}(h:wi σ H λJ H1=>ul J n g te σ Q H1):fH wi n g te σ H Q:=h
def PN{k1 k2:Kn}{ta:TA}{R:It->Hp->Prop}(h:ta σ H λvs H1=>∃a b xs ys,vs=[.ref a,.ref b]/\k1.sq K H1 a xs/\k2.sq K H1 b ys/\R (Hu K k1 k2 a b) H1):tO K k1 k2 ta σ H R:=h
end
section
variable{K:Fg}{σ:St}{H:Hp}{Q:VK}{D:bH}{td ty tv te tk:TE}
def NK(h:tv σ H λv H1=>td σ H1 λx H2=>ty σ H2 λy H3=>∃a H4,x=.ref a/\DPut H3 a y v H4/\D.nx σ H4):pO td ty tv D σ H:=h
end
section
variable{X:Cx}{scope:Scope}
def My{elt iter tg:Expr}{pos:Pos}{wi:TI}{g:TG}{te:TE}{n:Nat}(ys M:List Str)(c:oV X.env.scope X.N M ys scope)(hc:X.calm=true)(hi:PI X tg iter wi)(hg:∀C s₀ H₀ fp ξ,PG (aZ X ys M scope (iR scope X.env.cells) C s₀ H₀ fp ξ) tg g)(he:∀C s₀ H₀ fp ξ,PE (aZ X ys M scope (iR scope X.env.cells) C s₀ H₀ fp ξ) elt te)
  (hn:ys.length=n:=by rfl) (hs:∀v,foldedSetIterable iter X.env v=pure v:=by intro _;rfl):PE X (.ListComp elt [⟨tg,iter,[],0⟩] scope pos) (fH wi n g te):=by
 subst hn;exact Mz c hc hi hg he hs
end
section
variable{X:Cx}
abbrev Jo(K:Fg):List V->Hp->VK->Prop:=λxs H Q=>∃(a:Addr) (bs:List Bool),xs=[.ref a]/\SqL K H a (bs.map V.bl)/\Q (.bl (bs.all id)) H
def qS:∀{bs:List Bool} {us:List Rs},Vals (bs.map V.bl) us->LSm.BoolsAre us bs
 |[],_,.nil=>.nil
 |b :: bs,_,.cons r rr=>by
  cases (show _=XS b from r);exact .cons b (qS rr)
def wf{M:Model}{A:SC}{E:Rs->RC->Prop}{H:Hp}{bs:List Bool}(d:Bool)(I:Inv X ξ σ H s)(q1:SqL X.K H a (bs.map V.bl))(hh:A.handled=none)(hM:M=model X.prog X.w)
  {Qr:Bool->Rs->RC->Prop} {f:(Nat->Bool)->Nat->Bool} {r:Bool} (hf:f (λi=>(bs[i]?).getD d) bs.length=r) (q:∀h' tk,Inv X ξ σ H {s with heap:=h',toks:=tk}->Qr r (.bool r) {s with heap:=h',toks:=tk}) :
  wpAny M A (pyIter (.ref a)) (λit s₂=>∃I fp wr n P St tr,it=.ref I/\Za1 X.prog X.w A I fp wr n P St/\St 0 s₂.heap/\TruthOf X.prog X.w A P tr/\∀h' tk,(∀b o,b∉wr->s₂.heap.get? b=some o->h'.get? b=some o)->Qr r (.bool (f tr n)) {s₂ with heap:=h',toks:=tk}) E s:=by
 subst hM;obtain⟨gV,rv,p,_⟩:=I.list q1;have hl:s.heap.IsList a gV.toArray:=p.isList;have hb:=qS rv;have hlt:a<s.heap.objs.size:=by obtain⟨_,e,_⟩:=hl;exact RV e
 refine Yc hl ⟨s.heap.objs.size,[s.heap.objs.size,a],[s.heap.objs.size],gV.toArray.size,_,_,λi=>(bs[i]?).getD d,rfl,Za1.list hh _ a (Si hlt) gV.toArray,⟨⟨_,Sb _ rfl,rfl,rfl⟩,hl.push _⟩,λi v s' Q' E' hP hQ=>?_,λh' tk hk=>?_⟩
 .obtain⟨b,e,rfl⟩:=hb.get i v (by simpa using hP);dsimp only at hQ;rw[e] at hQ;exact Uf hQ
 .rw[RZ,hb.length,hf];exact q h' tk (I.kept (t':=tk) λb o e=>hk b o (λz=>absurd (RV e) (by rw[RL.mp z];exact UX _)) (Rv _ e))
def F3(hc:X.calm=true):fF X (.builtin "all") (Jo X.K):=by
 intro ξ s σ H xs us Q I r h;obtain⟨a,bs,rfl,q1,q⟩:=h;obtain⟨u,rfl,ru⟩:=vals1 r;cases ru;refine call_all_walk (wf (f:=λtr n=>(RQ n).all tr) (r:=bs.all id) true I q1 (by have:=I.ok.hd hc;simpa using this) rfl (LSm.range_all bs) (Qr:=λ_ v s'=>EP X ξ σ Q v s') λh' tk I2=>⟨.bl _,H,I2,rfl,q⟩)
def Ow:bootBuiltins "all"=some (.builtin "all"):=by decide +kernel
end
section
variable{X:Cx}{ys M:List Str}{scope:Scope}{cl:List (Str×Addr)}{C:Addr}{s:RC}{H:Hp}{fp:List Addr}{ξ:List (Addr×Obj)}{σ:St}
def MA{elt iter tg cn:Expr}{pos:Pos}{wi:TI}{g:TG}{tc:TT}{te:TE}{n:Nat}(ys M:List Str)(c0:oV X.env.scope X.N M ys scope)(hc:X.calm=true)(hi:PI X tg iter wi)(hg:∀C s₀ H₀ fp ξ,PG (aZ X ys M scope (iR scope X.env.cells) C s₀ H₀ fp ξ) tg g)
  (ht:∀C s₀ H₀ fp ξ,PT (aZ X ys M scope (iR scope X.env.cells) C s₀ H₀ fp ξ) cn tc) (he:∀C s₀ H₀ fp ξ,PE (aZ X ys M scope (iR scope X.env.cells) C s₀ H₀ fp ξ) elt te)
  (hn:ys.length=n:=by rfl) (hs:∀v,foldedSetIterable iter X.env v=pure v:=by intro _;rfl):PE X (.ListComp elt [⟨tg,iter,[cn],0⟩] scope pos) (ig wi n g tc te):=by
 subst hn;exact λξ s σ H Q I h=>vd (c0.sc I.ok) hc hi hg (λC s₀ H₀ fp ξ=>Jq (ht C s₀ H₀ fp ξ)) he hs ξ s σ H Q I h
end
section
variable{K:Fg}{tc:TT}{te:TE}{σ:St}{Q:VK}{H:Hp}
def Ko{wi:TI}(h:wi σ H λJ H1=>CQ J n g tc te σ Q H1):ig wi n g tc te σ H Q:=h
abbrev Q4(n i:Nat)(Pv:Nat->Hp->Prop):Hp->Prop:=λH2=>∃m',m'<n-i/\m'=n-(i+1)/\i+1<=n/\Pv (i+1) H2
abbrev K9(g:TG)(n:Nat)(tc:TT)(te:TE)(σ:St)(v:V)(H:Hp)(D:Addr)(m i:Nat)(Pv:Nat->Hp->Prop):Prop:=∀us:St,us.length=n->g v (us ++ σ) H λσ2 H2=>(∃us':St,us'.length=n/\σ2=us' ++ σ)/\tc σ2 H2 λb H3=>if b=true then te σ2 H3 (oU D m i Pv) else Q4 m i Pv H3
def iY{n i:Nat}{Pv:Nat->Hp->Prop}(hi:i<n)(h:Pv (i+1) H2):Q4 n i Pv H2:=⟨n-(i+1),by lia,rfl,hi,h⟩
def Cq{k1 k2:Kn}{xs ys:List V}(h:∀D,H D=none->∃Pv:Nat->Hp->Prop,Pv 0 (upd H D (.lst []))/\(∀i H2,i<=min xs.length ys.length->Pv i H2->k1.sq K H2 a xs/\k2.sq K H2 b ys) /\
  (∀i x y H2 T,xs[i]?=some x->ys[i]?=some y->Pv i H2->H2 T=none->K9 g n tc te σ (.ref T) (upd H2 T (.tup [x,y])) D (min xs.length ys.length) i Pv)/\∀H2,Pv (min xs.length ys.length) H2->Q (.ref D) H2):CQ (Hu K k1 k2 a b) n g tc te σ Q H:=by
 intro D nD;obtain⟨Pv,h0,hl,hs,hd⟩:=h D nD;refine⟨λi m H=>m=min xs.length ys.length-i/\i<=min xs.length ys.length/\Pv i H,⟨_,rfl,SD _,h0⟩,?_⟩;rintro i m H ⟨rfl,hi,p⟩;obtain⟨q1,q2⟩:=hl i H hi p;obtain⟨g1,g2,g3⟩:=xI (i:=i) (n:=min xs.length ys.length) q1 q2 (by lia) (by lia) (by lia);by_cases hlt:i<min xs.length ys.length
 .refine .inr ⟨g1 hlt,λv H' y us hu=>?_⟩;obtain⟨T,x,z,nT,rfl,rfl,z1,z2⟩:=g3 y;exact hs i x z H T z1 z2 p nT us hu
 .obtain rfl:i=min xs.length ys.length:=by lia
  exact .inl ⟨g2 (RB _),hd H p⟩
end
abbrev Bv(i:Int):Str:=toString i
abbrev Ia(te:TE):TE:=λσ H Q=>te σ H λx H1=>∃i,x=.int i/\i.natAbs.log2<1920/\Q (.str (Bv i)) H1
abbrev DV:List TE->Str->TE
 |[],acc=>λ_ H Q=>Q (.str acc) H
 |t :: r,acc=>λσ H Q=>t σ H λx H1=>∃y,x=.str y/\(acc++y).length<=sizeLine/\DV r (acc++y) σ H1 Q
section
variable{X:Cx}{pos:Pos}
def JD(h:PE X e te):PE X (.FormattedValue e (-1) none pos) (Ia te):=by
 intro ξ s σ H Q I q;refine FormattedValue_plain (a5 (h ξ s σ H _ I q) λv s1 ω=>?_);obtain⟨x,H1,I1,r1,i,e1,li,q1⟩:=ω;subst e1;obtain⟨t,rfl⟩:=r1;exact formatField_int_small li ⟨.str (Bv i),H1,I1.tok _,⟨_,rfl⟩,q1⟩
inductive PJ (X:Cx):List Expr->List TE->Prop
 |nil:PJ X [] []
 |cons {e:Expr} {es:List Expr} {t:TE} {ts:List TE}:PE X e t->PJ X es ts->PJ X (e :: es) (t :: ts)
def PJ.run:∀{es:List Expr} {ts:List TE},PJ X es ts->∀(acc:Str) (ξ:List (Addr×Obj)) (s:RC) (σ:St) (H:Hp) (Q:VK),acc.length<=sizeLine->Inv X ξ σ H s->DV ts acc σ H Q ->
  wpAny (model X.prog X.w) X.A (joinParts acc (evalEach es X.env)) (EP X ξ σ Q) X.xe s
 |_,_,.nil,acc,ξ,s,σ,H,Q,la,I,q=>joinParts_nil ⟨.str acc,H,I.tok _,⟨_,rfl⟩,q⟩ la
 |_,_,.cons he r,acc,ξ,s,σ,H,Q,la,I,q=>by
  refine joinParts_cons (a5 (he ξ s σ H _ I q) λv s1 ω=>?_);obtain⟨x,H1,I1,r1,y,e1,ly,q1⟩:=ω;subst e1;obtain⟨t,rfl⟩:=r1;exact⟨ly,r.run (acc++y) ξ s1 σ H1 Q ly I1 q1⟩
def Pq{e e2:Expr}{es:List Expr}(h:PJ X (e :: e2 :: es) ts):PE X (.JoinedStr (e :: e2 :: es) pos) (DV ts VI):=λξ s σ H Q I q=>JoinedStr_many (h.run VI ξ s σ H Q (by decide) I q)
end
section
variable{K:Fg}{σ:St}{H:Hp}{Q:VK}{te:TE}
def NH(h:te σ H λx H1=>∃i,x=.int i/\i.natAbs.log2<1920/\Q (.str (Bv i)) H1):Ia te σ H Q:=h
def Qb(h:Q (.str acc) H):DV [] acc σ H Q:=h
def Qc{t:TE}{acc:Str}(h:t σ H λx H1=>∃y,x=.str y/\(acc++y).length<=sizeLine/\DV r (acc++y) σ H1 Q):DV (t :: r) acc σ H Q:=h
def Kf{acc y:Str}(n:(acc++y).length<=sizeLine)(h:DV r (acc++y) σ H Q):∃z,V.str y=.str z/\(acc++z).length<=sizeLine/\DV r (acc++z) σ H Q:=⟨y,rfl,n,h⟩
end
section
variable{K:Fg}{te:TE}{σ:St}{Q:VK}{H:Hp}
def NS{bs:List Bool}(e:SqL K H a (bs.map V.bl))(h:Q (.bl (bs.all id)) H):Jo K [.ref a] H Q:=⟨a,bs,rfl,e,h⟩
def AccZ.bls{bs:List Bool}(A:AccZ K H0 l H (bs.map ZaU)):SqL K H l (bs.map V.bl):=by
 obtain⟨xs,h1,h2⟩:=A.at_
 have:∀{vs:List V} {bs:List Bool},RzL K H vs (bs.map ZaU)->vs=bs.map V.bl:=by
  intro vs bs
  induction bs generalizing vs with
  |nil=>intro h;cases h;rfl
  |cons b bs ih =>
   intro h;cases h with
   |cons h1 h2 =>
    cases h1;rw[ih h2];rfl
 rw[this h2] at h1;exact SqL.of h1
end
end L2
namespace Gd
abbrev gd(a b:Int):Int:=(Zao a b:Nat)
def BK(a b:Int):gd b (Zap a b)=gd a b:=by
 unfold gd
 have e:Zap a b=a+b*(-(Zk a b)):=by
  rw[Zaq,Za7];lia
 rw[e,Int.gcd_add_mul_left_right,Int.gcd_comm]
def BM{b:Int}(h:b≠0):(Zap a b).natAbs<b.natAbs:=by
 rcases (by lia:0<b\/b<0) with p|p
 .have h1:=YU a p;have h2:=Z1 a p;lia
 .have e:Zap a b = -(Zap (-a) (-b)):=by
   rw[Zaq,Zaq,Int.neg_fdiv_neg];rw[VW];lia
  have h1:=YU (-a) (b:=-b) (by lia);have h2:=Z1 (-a) (b:=-b) (by lia);lia
def Kw(a:Int):gd a 0=(a.natAbs:Int):=by
 unfold gd;rw[Int.gcd_zero_right]
def G9(a:Int):(if a<0 then -a else a)=gd a 0:=by
 rw[Kw];split <;> lia
def vH{b:Int}(h:b≠0):0<gd a b:=by
 unfold gd
 have:Zao a b≠0:=λe=>h (Int.gcd_eq_zero_iff.mp e).2
 lia
def BL(a b:Int):0<=gd a b:=X4 _
structure Low (top bottom q p:Int):Prop where
 pos:0<p
 low:gd q p=1
 worth:q*bottom=top*p
def Ba{b d:Int}(hb:b≠0)(hd:d=gd t b/\0<b\/d = - gd t b/\b<0):Low t b (Zk t d) (Zk b d):=by
 have gp:=vH (a:=t) hb;have d1:gd t b∣t:=YC t b;have d2:gd t b∣b:=Yk t b;have e1:d∣t:=by rcases hd with⟨e,_⟩|⟨e,_⟩ <;> rw[e];exact d1;exact Yl.mpr d1
 have e2:d∣b:=by rcases hd with⟨e,_⟩|⟨e,_⟩ <;> rw[e];exact d2;exact Yl.mpr d2
 have d0:d≠0:=by rcases hd with⟨e,_⟩|⟨e,_⟩ <;> lia
 obtain⟨q,rfl⟩:=e1;obtain⟨p,rfl⟩:=e2;rw[Wr _ d0,Wr _ d0];refine⟨?_,?_,?_⟩
 .rcases hd with⟨e,z⟩|⟨e,z⟩
  .exact Yt z (by lia) |> λh=>h
  .have z':0<(-d)*p:=by rw[VW];lia
   exact Yt z' (by lia)
 .have m:gd (d*q) (d*p)=(d.natAbs:Int)*gd q p:=by
   unfold gd;rw[YD];simp
  have n:gd (d*q) (d*p)=(d.natAbs:Int):=by
   rcases hd with⟨e,z⟩|⟨e,z⟩ <;> lia
  rw[n] at m;have k:(d.natAbs:Int)*gd q p=(d.natAbs:Int)*1:=by lia
  exact Wa (by lia) k
 .rw[<- Ua,WU q d]
def oE{t d:Int}(h:d≠0)(hd:d∣t):(Zk t d).natAbs<=t.natAbs:=by
 obtain⟨q,rfl⟩:=hd;rw[Wr _ h,SL];exact TL _ (by lia)
def Bc{b d:Int}(hb:b≠0)(hd:d=gd t b/\0<b\/d = - gd t b/\b<0):(Zk t d).natAbs<=t.natAbs/\(Zk b d).natAbs<=b.natAbs:=by
 have gp:=vH (a:=t) hb;have d1:gd t b∣t:=YC t b;have d2:gd t b∣b:=Yk t b;have d0:d≠0:=by rcases hd with⟨e,_⟩|⟨e,_⟩ <;> lia
 refine⟨oE d0 ?_,oE d0 ?_⟩
 .rcases hd with⟨e,_⟩|⟨e,_⟩ <;> rw[e];exact d1;exact Yl.mpr d1
 .rcases hd with⟨e,_⟩|⟨e,_⟩ <;> rw[e];exact d2;exact Yl.mpr d2
end Gd
namespace Fr
open PySem L2
abbrev pf:Sp:=λvs H Q _=>∃a b:Int,vs=[.int a,.int b]/\Q (.int (Gd.gd a b)) H
abbrev LH:TS:=(am (ic (aP (ao GA (aa 1) (tC (.int 0))))
 (am (av (ao Jk (aa 0) (aa 1)) (al 2))
 (am (av (aa 1) (al 0))
 (av (aa 2) (al 1)))))
 (aE (bU Mi (ae (aa 0) ai))))
def L6(a b:Int)(H:Hp)(D:bH)(k:D.rt (.int (Gd.gd a b)) H):LH D [↥a,↥b,none] H:=by
 refine iW (λσ H'=>H'=H/\∃(i j:Int) (v:Option V),σ=[↥i,↥j,v]/\Gd.gd i j=Gd.gd a b)
  (λσ _=>match σ with | [_,↥j,_]=>j.natAbs|_=>0) ⟨rfl,a,b,none,rfl,rfl⟩ ?_ ?_
 .rintro σ H' ⟨rfl,i,j,v,rfl,e⟩;refine⟨_,rfl,rfl,_,rfl,NY (λhj=>?_) (λhj=>?_)⟩
  .refine⟨_,rfl,_,rfl,_,_,rfl,rfl,hj,_,rfl,_,rfl,⟨rfl,j,i.fmod j,_,rfl,(Gd.BK i j).trans e⟩,?_⟩;exact Gd.BM hj
  .subst hj;refine⟨_,rfl,_,rfl,?_⟩;rw[Gd.G9,e];exact k
 .rintro σ H' R R' h ⟨v,e,sc,c,ec,q⟩;exact⟨v,e,sc,c,ec,h _ _ q⟩
open PySem.W (Dat kqdOk)
abbrev cellOf(ns:List Int)(k:Int):Int:=(ns[k.toNat]?).getD 0
abbrev cC(K:Fg):Sp:=λvs H Q _=>∃(a:Addr) (ns:List Int) (k:Int),vs=[.ref a,.int k]/\SqL K H a (ns.map V.int)/\0<=k/\Q (.int (cellOf ns k)) H
abbrev LJ(K:Fg):TS:=(am (aS (aP (ao xE (aa 1) (bU (bZ K) (ae (aa 0) ai))))
 (aE (ao (bI K) (aa 0) (aa 1)))
 a7)
 (aE (tC (.int 0))))
def I_{K:Fg}{ns:List Int}{k:Int}{D:bH}(hS:SqL K H a (ns.map V.int))(h0:0<=k)(q:D.rt (.int (cellOf ns k)) H):LJ K D [⇑a,↥k] H:=by
 have el:(ns.map V.int).length=ns.length:=Rm _;refine⟨_,rfl,_,rfl,a,_,rfl,.inl hS,_,_,rfl,rfl,_,rfl,NZ (λc=>?_) (λc=>?_)⟩
 .rw[el] at c;have hk:k.toNat<ns.length:=by lia
  have e:k=((k.toNat:Nat):Int):=by lia
  have z:cellOf ns k=ns[k.toNat]:=by
   unfold cellOf;rw[Rn hk];rfl
  have w:rC (ns.map V.int) ((k.toNat:Nat):Int)=some (.int ns[k.toNat]):=aK (by rw[Rt];simp[hk]);rw[<- e] at w;rw[z] at q;exact⟨_,rfl,_,rfl,a,_,_,_,rfl,rfl,hS,w,q⟩
 .rw[el] at c
  have z:cellOf ns k=0:=by
   unfold cellOf;rw[Sw (by lia)];rfl
  rw[z] at q;exact q
abbrev d_:Sp:=λvs H Q _=>∃i:Int,vs=[.int i]/\Q (.bl true) H
abbrev yW (K:Fg):TS:=(aE (wB (bU (Mh K) (ae (aa 0) (ae (tC (.ty "int")) ai))) (DU (bU (Mh K) (ae (aa 0) (ae (tC (.ty "bool")) ai))))))
def uT{K:Fg}{D:bH}(q:D.rt (.bl true) H):yW K D [↥i] H :=
 ⟨_,rfl,_,_,_,_,rfl,TyOf.int i,Nh,_,rfl,tM ⟨_,rfl,_,_,_,_,rfl,TyOf.int i,Ni,_,rfl,q⟩⟩
end Fr
namespace Kd
open PySem L2
abbrev dY(K:Fg)(c:V)(nm:Str):TS:=(aS (tB (bU (Jm K) (ae (aa 0) (ae (tC c) ai))))
 (bn (dD K "list" aJ (aa 1) (ae (tC (.str nm)) ai)))
 a7)
def Pb{K:Fg}{D:bH}(he:ExH H e C)(a:j4 K C)(k:uh K C c false)(q:D.nx [⇑e,⇑l] H) :
  dY K c nm D [⇑e,⇑l] H:=⟨_,rfl,e,C,c,false,rfl,he,a,k,_,rfl,tN q⟩
def LU{K:Fg}{D:bH}(he:ExH H e C)(a:j4 K C)(k:uh K C c true)(hl:H l=some (.lst []))(q:D.nx [⇑e,⇑l] (upd H l (.lst [.str nm]))) :
  dY K c nm D [⇑e,⇑l] H :=
 ⟨_,rfl,e,C,c,true,rfl,he,a,k,_,rfl,tM ⟨_,rfl,.inl ⟨rfl,_,SqL.of hl⟩,l,_,_,rfl,rfl,hl,(by show 0<sizeLine;decide),q⟩⟩
end Kd
namespace Ex0
open PySem L2 Fr Kd
structure Ad where
 V:Addr
 c0:Addr
 c1:Addr
 c2:Addr
 c3:Addr
 c4:Addr
 c5:Addr
 c6:Addr
 c7:Addr
 c8:Addr
 c9:Addr
 c10:Addr
 c11:Addr
 c12:Addr
 c13:Addr
abbrev yX(K:Fg)(x:Ad):TS:=(am (av (bP ai) (al 1))
 (am (dY K (.ref x.c0) "NoFraction")
 (am (dY K (.ref x.c1) "NoStuffs")
 (am (dY K (.ref x.c2) "NoHeap")
 (am (dY K (.ref x.c3) "NoPace")
 (am (dY K (.ref x.c4) "NoTurnings")
 (am (dY K (.ref x.c5) "NoTurning")
 (am (dY K (.ref x.c6) "NoText")
 (am (dY K (.ref x.c7) "NotNow")
 (am (dY K (.ref x.c8) "TooMany")
 (am (dY K (.ref x.c9) "NoDrain")
 (am (dY K (.ref x.c10) "NotEven")
 (am (dY K (.ref x.c11) "NoStuff")
 (am (dY K (.ref x.c12) "NoPieces")
 (am (dY K (.ref x.c13) "NoDeed")
 (am (aS (fR (tB (bU (Jm K) (ae (aa 0) (ae (tC (.ty "ValueError")) ai)))))
 (bn (dD K "list" aJ (aa 1) (ae (tC (.str "other")) ai)))
 a7)
 (aE (aa 1))))))))))))))))))
open PySem.W (mroIn clsIn typeIn findIn specialIn takesIn)
nonrec abbrev BX:List Rs:=[.type "ValueError",.type "Exception",.type "BaseException",.type "object"]
abbrev Ad.l(x:Ad):List Addr:=[x.V,x.c0,x.c1,x.c2,x.c3,x.c4,x.c5,x.c6,x.c7,x.c8,x.c9,x.c10,x.c11,x.c12,x.c13]
abbrev Ad.ca(x:Ad)(i:Nat):Addr:=x.l.getD (i+1) 0
abbrev MZ (i:Nat):Str:=(["NoFraction","NoStuffs","NoHeap","NoPace","NoTurnings","NoTurning","NoText","NotNow","TooMany","NoDrain","NotEven","NoStuff","NoPieces","NoDeed"]:List Str).getD i ""
abbrev xA (K:Fg) (x:Ad) (C:Addr) (r:Nat):Prop:=j4 K C/\(∀i,i<14->uh K C (.ref (x.ca i)) (i == r))/\uh K C (.ty "ValueError") true
def cP{K:Fg}{i:Nat}{H:Hp}{D:bH}(T:xA K x C r)(nl:H l=none)(hi:i<14)(he:ExH Hi e C)(hl:Hi l=some (.lst (if r<i then [.str (MZ r)] else [])))(S:Same H Hi)
  (q:∀Hj,ExH Hj e C->Hj l=some (.lst (if r<i+1 then [.str (MZ r)] else []))->Same H Hj->D.nx [⇑e,⇑l] Hj):dY K (.ref (x.ca i)) (MZ i) D [⇑e,⇑l] Hi:=by
 by_cases z:r=i
 .subst z;rw[if_neg (UX _)] at hl;have k:=T.2.1 r hi;rw[beq_self_eq_true] at k;obtain⟨d,he⟩:=he;have ne:e≠l:=λy=>by rw[y,hl] at he;cases d <;> cases he
  refine LU ⟨d,he⟩ T.1 k hl (q _ ⟨d,by rw[aC ne];exact he⟩ ?_ λb o y=>?_)
  .rw[if_pos (by lia),ag]
  .rw[aC (au y nl)];exact S _ _ y
 .have k:=T.2.1 i hi;rw[show(i == r)=false from beq_false_of_ne λy=>z y.symm] at k;refine Pb he T.1 k (q Hi he ?_ S);rw[hl];by_cases y:r<i
  .rw[if_pos y,if_pos (by lia)]
  .rw[if_neg y,if_neg (by lia)]
def mX{K:Fg}{D:bH}(T:xA K x C r)(hr:r<14)(he:ExH H e C)(k:∀(p:Addr) (H':Hp),Same H H'->H' p=some (.lst [.str (MZ r)])->D.rt (.ref p) H'):yX K x D [⇑e,none] H:=by
 refine⟨Ip,λl nl=>?_⟩;obtain⟨d,he⟩:=he;have ne:e≠l:=au he nl;have h1:ExH (upd H l (.lst [])) e C:=⟨d,by rw[aC ne];exact he⟩
 have h2:upd H l (.lst []) l=some (.lst (if r<0 then [.str (MZ r)] else [])):=by rw[if_neg (T_ _)];exact ag
 have h3:=aj nl (.lst []);generalize upd H l (.lst [])=H1 at h1 h2 h3 ⊢;refine cP (i:=0) T nl (by decide) h1 h2 h3 λH1 h1 h2 h3=>?_
 refine cP (i:=1) T nl (by decide) h1 h2 h3 λH1 h1 h2 h3=>?_
 refine cP (i:=2) T nl (by decide) h1 h2 h3 λH1 h1 h2 h3=>?_
 refine cP (i:=3) T nl (by decide) h1 h2 h3 λH1 h1 h2 h3=>?_
 refine cP (i:=4) T nl (by decide) h1 h2 h3 λH1 h1 h2 h3=>?_
 refine cP (i:=5) T nl (by decide) h1 h2 h3 λH1 h1 h2 h3=>?_
 refine cP (i:=6) T nl (by decide) h1 h2 h3 λH1 h1 h2 h3=>?_
 refine cP (i:=7) T nl (by decide) h1 h2 h3 λH1 h1 h2 h3=>?_
 refine cP (i:=8) T nl (by decide) h1 h2 h3 λH1 h1 h2 h3=>?_
 refine cP (i:=9) T nl (by decide) h1 h2 h3 λH1 h1 h2 h3=>?_
 refine cP (i:=10) T nl (by decide) h1 h2 h3 λH1 h1 h2 h3=>?_
 refine cP (i:=11) T nl (by decide) h1 h2 h3 λH1 h1 h2 h3=>?_
 refine cP (i:=12) T nl (by decide) h1 h2 h3 λH1 h1 h2 h3=>?_
 refine cP (i:=13) T nl (by decide) h1 h2 h3 λH1 h1 h2 h3=>?_
 rw[if_pos hr] at h2;refine⟨_,rfl,e,C,_,true,rfl,h1,T.1,T.2.2,_,rfl,tN ?_⟩;exact⟨_,rfl,k l H1 h3 h2⟩
def vm{K:Fg}{V:Addr}{d:VJ}(c:clsIn K q=some d)(m:d.mro=[.ref q,.ref V]++BX)(t:Rs):mroIn K q t=some (([R_ q,.ref V]++BX).contains t):=by
 unfold mroIn;rw[c];show(if d.mro.isEmpty then none else some (d.mro.contains t))=_;rw[m];rfl
def J2{K:Fg}{V:Addr}{d:VJ}(c:clsIn K q=some d)(m:d.mro=[.ref q,.ref V]++BX):mroIn K q (.ref V)=some true:=by
 rw[vm c m];exact congrArg some (TB.mpr (by simp))
def qy{K:Fg}{V:Addr}{d:VJ}(c:clsIn K q=some d)(m:d.mro=[.ref q,.ref V]++BX)(h:BX.contains t=true):mroIn K q t=some true:=by
 rw[vm c m];exact congrArg some (TB.mpr (RU _ (TB.mp h)))
def O8{K:Fg} {x:Ad} {n0 n1 n2 n3 n4 n5 n6 n7 n8 n9 n10 n11 n12 n13:Str} {d0 d1 d2 d3 d4 d5 d6 d7 d8 d9 d10 d11 d12 d13:VJ} (h:K_ K [(n0,x.c0,d0),(n1,x.c1,d1),(n2,x.c2,d2),(n3,x.c3,d3),(n4,x.c4,d4),(n5,x.c5,d5),(n6,x.c6,d6),(n7,x.c7,d7),(n8,x.c8,d8),(n9,x.c9,d9),(n10,x.c10,d10),(n11,x.c11,d11),(n12,x.c12,d12),(n13,x.c13,d13)]):∀i,i<14->typeIn K (.ref (x.ca i))=some (.type "type")/\∃cd,clsIn K (x.ca i)=some cd:=by
 obtain⟨c0,c1,c2,c3,c4,c5,c6,c7,c8,c9,c10,c11,c12,c13,_⟩:=h
 exact λi hi=>match i,hi with
  |0,_=>⟨c0.2.1,_,c0.2.2⟩
  |1,_=>⟨c1.2.1,_,c1.2.2⟩
  |2,_=>⟨c2.2.1,_,c2.2.2⟩
  |3,_=>⟨c3.2.1,_,c3.2.2⟩
  |4,_=>⟨c4.2.1,_,c4.2.2⟩
  |5,_=>⟨c5.2.1,_,c5.2.2⟩
  |6,_=>⟨c6.2.1,_,c6.2.2⟩
  |7,_=>⟨c7.2.1,_,c7.2.2⟩
  |8,_=>⟨c8.2.1,_,c8.2.2⟩
  |9,_=>⟨c9.2.1,_,c9.2.2⟩
  |10,_=>⟨c10.2.1,_,c10.2.2⟩
  |11,_=>⟨c11.2.1,_,c11.2.2⟩
  |12,_=>⟨c12.2.1,_,c12.2.2⟩
  |13,_=>⟨c13.2.1,_,c13.2.2⟩
def tJ{K:Fg} {x:Ad} {r:Nat} {d:VJ} (tc:∀i,i<14->typeIn K (.ref (x.ca i))=some (.type "type")/\∃cd,clsIn K (x.ca i)=some cd) (nd:x.l.Nodup) (hr:r<14) (c:clsIn K (x.ca r)=some d) (m:d.mro=[R_ (x.ca r),.ref x.V]++BX) (f:K6 K (x.ca r))
  (gt:specialIn K (.builtin "object.__class__") "__get__"=some (some (.builtin "getset_descriptor.__get__"))) (tk:takesIn K (.builtin "object.__class__")=some true):xA K x (x.ca r) r:=by
 have atl:∀i,i<14->x.l[i+1]?=some (x.ca i):=λi hi=>by
  have h:i+1<x.l.length:=by show i+1<15;lia
  unfold Ad.ca;rw[Rr,Rn h];rfl
 refine⟨⟨f.1,f.2.1,f.2.2,gt,tk,qy c m (by decide +kernel),qy c m (by decide +kernel)⟩,λi hi=>?_,Kb (qy c m (by decide +kernel)) (by decide +kernel)⟩;obtain⟨ti,cd,ci⟩:=tc i hi;refine Kc ?_ ?_ ti ci
 .rw[vm c m];refine congrArg some ?_;by_cases z:i=r
  .subst z;rw[beq_self_eq_true];exact TB.mpr Ru
  .rw[beq_false_of_ne z];refine WT.mpr λy=>?_
   rcases RW.mp (TB.mp y) with y|y
   .injection y with y
    have e:=(Zar (show i+1<x.l.length by show i+1<15;lia) nd).mp ((atl i hi).trans ((congrArg some y).trans (atl r hr).symm));lia
   rcases RW.mp y with y|y
   .injection y with y
    have e:=(Zar (show i+1<x.l.length by show i+1<15;lia) nd).mp ((atl i hi).trans (congrArg some y):x.l[i+1]? = x.l[0]?);lia
   .simp at y
 .rw[vm c m];exact congrArg some (TB.mpr Ru)
end Ex0
namespace L2
open PySem PySem.SetTable
def gD{α:Type}(l:List α)(p:Nat)(x:α)(_hp:p<=l.length):insertAt l.toArray p x=(l.take p++x :: l.drop p).toArray:=by
 unfold insertAt;apply Array.ext';simp[List.extract_eq_take_drop];rw[RG (by simp)]
def wD{t:Uk}{l:List Nat}(hp:t.place=l.toArray)(hd:t.dummies = #[]){j:Nat}(h:j∉l):t.slot j=.empty:=by
 unfold Uk.slot;rw[hp,hd];show(if l.toArray[below l.toArray j]? == some j then _ else _)=_;rw[if_neg,if_neg]
 .simp[has,below,below.go]
 .intro e;exact h (Ry (by simpa using e))
def vG{α:Type}{l:List α}{p:Nat}(hp:p<=l.length)(x:α)(i:Nat):(l.take p++x :: l.drop p)[i]? = if i<p then l[i]? else if i=p then some x else l[i-1]?:=by
 have ht:(l.take p).length=p:=by rw[RT];lia
 by_cases h1:i<p
 .rw[if_pos h1,SO (by lia),Z2,if_pos h1]
 .rw[if_neg h1,Tj (by lia),ht];by_cases h2:i=p
  .rw[if_pos h2,h2,Zas];rfl
  .rw[if_neg h2,show i-p=(i-p-1)+1 by lia,WH,Z3];congr 1;lia
open PySem PySem.Spec PyProof.Rows
open PySem.W (Dat kqdP kqdOk)
section
variable{prog:RM}{w:R4}{A:SC}{R:ZaM->RC->Prop}{I:Addr}{fp wr:List Addr}{n:Nat}{P:Nat->Rs->Prop}{St:Nat->Heap->Prop}
def D6(W:Za1 prog w A.in1 I fp wr n P St)(S:Addr)(nS:S∉fp)(Z:Nat->Heap->Prop)(zk:∀i h h',Z i h->(∀b o,b∉wr->h.get? b=some o->h'.get? b=some o)->Z i h')
  (za:∀i v (s:RC) (Q:Bool->RC->Prop) (E:Rs->RC->Prop),i<n->P i v->Z i s.heap->(∀r h' tk,Z (i+1) h'->(∀b,b≠S->h'.get? b=s.heap.get? b)->Q r {s with heap:=h',toks:=tk})->wpAny (model prog w) A.in1 (setAdd S v) Q E s) :
  ∀(k i:Nat) (s:RC),n-i=k->i<=n->St i s.heap->Z i s.heap->(∀h' tk,Z n h'->(∀b o,b∉S :: wr->s.heap.get? b=some o->h'.get? b=some o)->R (.ok (.ret .none)) {s with heap:=h',toks:=tk}) ->
   codeAny (model prog w) A (.builtin "set.update.loop" ⟨[.ref S,.ref I],[]⟩) R s:=by
 have nw:S∉wr:=λh=>nS (W.sub _ h)
 intro k
 induction k with
 |zero =>
  intro i s hk hi hst hz hR;obtain rfl:i=n:=by lia
  refine Wu YE ?_;rw[Xw WI _];refine(show wpAny _ A.in1 (pyNext (.ref I) >>= _) _ _ s from Ro (W.done s _ _ hst λh' tk hm=>?_));refine(show wpAny _ A.in1 (ret Tx) _ _ _ from RE (hR h' tk (zk _ _ _ hz hm) λb o hb e=>hm b o (λz=>hb (RA _ z)) e))
 |succ k ih =>
  intro i s hk hi hst hz hR;have hlt:i<n:=by lia
  refine Wu YE ?_;rw[Xw WI _];refine(show wpAny _ A.in1 (pyNext (.ref I) >>= _) _ _ s from Ro (W.item i s _ _ hlt hst λv h' tk hP hst' hm=>?_));refine(show wpAny _ A.in1 (holding [v] (setAdd S v) >>= _) _ _ _ from Ro (TM (za i v _ _ _ hlt hP (zk _ _ _ hz hm) λr h2 tk2 z2 k2=>?_)));refine RE ⟨plainId_quiet WI _,ih (i+1) _ (by lia) hlt (W.frame _ _ _ hst' λb hb o e=>?_) z2 λh3 tk3 z3 k3=>hR h3 tk3 z3 λb o hb e=>?_⟩
  .exact(k2 b λz=>nS (z ▸ hb)).trans e
  .refine k3 b o hb ((k2 b λz=>hb (z ▸ Ru)).trans (hm b o (λz=>hb (RA _ z)) e))
end
namespace F
def sub_tuple_set:isSubtype (.type "tuple") (.type "set")=pure false:=by rw[WV];kernel_rfl
def sub_tuple_frozenset:isSubtype (.type "tuple") (.type "frozenset")=pure false:=by rw[WV];kernel_rfl
end F
section
variable{prog:RM}{w:R4}{A:SC}{E:Rs->RC->Prop}{s:RC}
def Kn.walks(k:Kn)(hh:A.handled=none)(I ax:Addr)(hne:ax≠I)(items:Array Rs):Za1 prog w A I [I,ax] [I] items.size (λi v=>items[i]?=some v) (λi h=>k.it h I ax i/\k.seq h ax items):=by
 cases k
 .exact Za1.list hh I ax hne items
 .exact Za1.tuple hh I ax hne items
abbrev uQ (led:Bool):Obj:={cls:=.type "set",dict:=none,data:=.set #[] 0 (.fresh 0 0 led)}
end
def Ot:bootBuiltins "set"=some (.type "set"):=by decide +kernel
open PySem PySem.Spec PyProof.Rows PySem.SetTable
abbrev Lg(K:Fg)(a:Addr):It :=
 ⟨λi H=>∃xs,SqL K H a xs/\i<xs.length,λi H v H'=>∃T x,H T=none/\v=.ref T/\H'=upd H T (.tup [.int i,x])/\∀xs,SqL K H a xs->xs[i]?=some x,λi H=>∃xs,SqL K H a xs/\xs.length<=i⟩
def xT{K:Fg}{x1}{a e it:Addr}(n1:e≠it)(n2:a≠it) :
  ug P w K (.Tuple elts x1 pos) (Lg K a) [e,it] e (λi h=>(∃old,IsEnum h e it (i:Int) old)/\h.IsListIter it a i) where
 mem:=by simp
 obj:=λi h ⟨⟨old,he⟩,t⟩ c hc=>by
  simp only[RW,U0,or_false] at hc;rcases hc with rfl|rfl
  .exact⟨_,he,λv q=>by cases (show Za0 _=Zs v from q)⟩
  .obtain⟨o,ho,_,d⟩:=t;exact⟨o,ho,λv q=>by rw[d] at q;cases q⟩
 keep:=(by rintro i h h' ⟨⟨old,he⟩,t⟩ kp;exact ⟨⟨old,kp e (by simp) _ he⟩,t.at λo z=>kp it (by simp) o z⟩)
 item:=by
  intro X hP hw hK hc i ξ s σ H E I hf ⟨⟨old,he⟩,t⟩ hg;subst hP hw hK;obtain⟨xs,q1,l1⟩:=hg;obtain⟨gV,r1,p,_⟩:=I.list q1;obtain⟨u1,e1,ru1⟩:=r1.get (Rn l1);refine wpAny_pyNext_enum_item he t p.isList (x:=u1) (by simpa using e1) n1 λh' he' t' hT sz all=>⟨_,rfl,?_⟩
  refine wpAny_letOwnedTupleGo_enum (s:={s with heap:=h',toks:=s.toks+1}) he' λh2 he2 sb=>?_
  have hfr:H s.heap.objs.size=none:=I.hok.fresh (RB _)
  have nT:∀c∈[e,it],c≠s.heap.objs.size:=λc hc'=>by
   simp only[RW,U0,or_false] at hc';rcases hc' with rfl|rfl
   .exact Si (RV he)
   .obtain⟨o,ho,_⟩:=t;exact Si (RV ho)
  have I1:Inv X ξ σ (upd H s.heap.objs.size (.tup [.int i,xs[i]])) {s with heap:=s.heap.push {cls:=.type "tuple",data:=.seq #[.int i s.toks,u1]}} :=
   I.laid (t':=s.toks) (λb u z=>Rv _ z) (RB _) ⟨aM,[.int i s.toks,u1],.cons ⟨_,rfl⟩ (.cons ru1 .nil),TupD.new _ _⟩
  have I2:Inv X ξ σ (upd H s.heap.objs.size (.tup [.int i,xs[i]])) {s with heap:=h2,toks:=s.toks+1}:=Inv.lQ (s:={s with heap:=s.heap.push {cls:=.type "tuple",data:=.seq #[.int i s.toks,u1]}}) (t':=s.toks+1) (fp:=[e,it]) I1 (λc o hc' z=>by
   have c1:c≠e:=λx=>hc' (by simp[x])
   have c2:c≠it:=λx=>hc' (by simp[x])
   rcases Zj z with⟨ec,eo⟩|z
   .rw[ec,eo];exact sb.extBut _ _ (nT e (by simp)).symm hT
   .exact sb.extBut _ _ c1 (all c o c1 c2 z)) λc hc'=>⟨by rw[aC (nT c hc')];exact(hf c hc').1,(hf c hc').2⟩
  exact⟨.ref s.heap.objs.size,_,I2,rfl,⟨s.heap.objs.size,xs[i],hfr,rfl,rfl,λzs hz=>by rw[I.nW hz q1,Rn l1]⟩,⟨⟨_,he2⟩,t'.at λo z=>sb.extBut _ _ n1.symm z⟩,λc hc'=>by rw[aC (nT c hc')];exact(hf c hc').1⟩
 done:=by
  intro X hP hw hK hc i ξ s σ H E I hf ⟨⟨old,he⟩,t⟩ hg;subst hP hw hK;obtain⟨xs,q1,le⟩:=hg;obtain⟨gV,r1,p,_⟩:=I.list q1;have e1:=r1.length;exact wpAny_pyNext_enum_end (I.ok.hd hc) he t p.isList (by simp;lia) λh' all=>⟨rfl,I.lQ (t':=s.toks) (λc o hc' z=>all c o (λx=>hc' (by simp[x])) z) hf⟩
 self:=λ_ _ _ _ _ st q=>let ⟨⟨_,he⟩,_⟩:=st;wpAny_pyIter_enum he q
abbrev iP(K:Fg)(ta:TA):TI:=λσ H R=>ta σ H λvs H1=>∃a xs,vs=[.ref a]/\SqL K H1 a xs/\R (Lg K a) H1
def qZ:bootBuiltins "enumerate"=some (.type "enumerate"):=by decide +kernel
section
variable{X:Cx}
def AC{x:Expr} {ta:TA}  {x1} {p pos:Pos} (hg:Gl X "enumerate") (hm:X.mg "enumerate"=none) (ha:PA X [x] ta) (hs:starEach [x] X.env=[(false,eval x X.env)]:=by rfl) :
  PI X (.Tuple elts x1 tp) (.Call (.Name "enumerate" p) [x] [] pos) (iP X.K ta):=by
 intro ξ s σ H R I h;refine Call_ (eO I hg hm qZ (Tb (a5 (ha pos ξ s σ H _ I h) λus s1 ω=>?_) (by rw[hs];rfl) (by rfl)));obtain⟨vs,H1,I1,r1,q1⟩:=ω;obtain⟨a,xs,e,sq,q⟩:=q1;subst e;obtain⟨u1,rfl,ra⟩:=vals1 r1;cases ra;obtain⟨gV,rv,p1,_⟩:=I1.list sq;have lt:a<s1.heap.objs.size:=by obtain⟨_,z,_⟩:=p1.isList;exact RV z
 refine call_enumerate_list p1.isList λh' he t sz kp=>?_
 refine wpAny_pyIter_enum (s:={s1 with heap:=h'}) he ?_;refine⟨s1.heap.objs.size+1,[s1.heap.objs.size+1,s1.heap.objs.size],_,_,H1,rfl,I1.kept (t':=s1.toks) kp,xT (Nat.succ_ne_self _) (Si lt),⟨⟨_,he⟩,t⟩,λc hc=>?_,q⟩
 have le2:s1.heap.objs.size<=c:=by
  simp only[RW,U0,or_false] at hc;rcases hc with rfl|rfl
  .exact WF _
  .exact RB _
 exact I1.fpOk le2 (I1.hok.fresh le2)
end
section
variable{K:Fg}{te:TE}{tc:TT}{σ:St}{Q:VK}{H:Hp}{D:bH}
def NJ{ta:TA}{R:It->Hp->Prop}(h:ta σ H λvs H1=>∃a xs,vs=[.ref a]/\SqL K H1 a xs/\R (Lg K a) H1):iP K ta σ H R:=h
def dB{xs:List V}{g:TG}{tb:TS}(Pv:Nat->St->Hp->Prop)(h0:Pv 0 σ H)(hl:∀i σ H,i<=xs.length->Pv i σ H->SqL K H a xs)
  (hs:∀i x σ H T,xs[i]?=some x->Pv i σ H->H T=none->g (.ref T) σ (upd H T (.tup [.int i,x])) λσ2 H2=>tb {D with nx:=Pv (i+1),ct:=Pv (i+1),bk:=D.nx} σ2 H2) (hd:∀σ H,Pv xs.length σ H->D.nx σ H):xF (Lg K a) g tb D σ H:=by
 refine⟨λi m σ H=>m=xs.length-i/\i<=xs.length/\Pv i σ H,⟨_,rfl,SD _,h0⟩,?_⟩;rintro i m σ H ⟨rfl,hi,p⟩;have q:=hl i σ H hi p;by_cases hlt:i<xs.length
 .refine .inr ⟨⟨xs,q,hlt⟩,Pv (i+1),λσ' H' p'=>⟨xs.length-(i+1),by lia,rfl,hlt,p'⟩,λv H' y=>?_⟩;obtain⟨T,x,nT,rfl,rfl,z⟩:=y;exact hs i x σ H T (z xs q) p nT
 .have e:i=xs.length:=by lia
  subst e;exact .inl ⟨⟨xs,q,RB _⟩,hd σ H p⟩
end
abbrev Jh:R2:=λx y H Q=>∃z i,x=.str z/\y=.int i/\(i=0\/i=1)/\Q (.str (if i=0 then VI else z)) H
section
variable{X:Cx}
def JL:fu X (binaryOp .Mult) Jh:=by
 intro ξ s σ H x y v u Q I rx ry h;obtain⟨z,i,rfl,rfl,hi,q⟩:=h;obtain⟨t,rfl⟩:=rx;obtain⟨t',rfl⟩:=ry;rcases hi with rfl|rfl
 .exact P.mul_str_none (by decide) (by decide) ⟨.str VI,H,I.tok _,⟨_,rfl⟩,q⟩
 .refine P.mul_str (by decide) (λ_ e=>by simp at e) (λ_ e=>by simp at e) ?_;rw[if_neg (by decide),if_pos (by simp)];exact⟨.str z,H,I,⟨_,rfl⟩,q⟩
def Nu{Q:VK}{z:Str}{i:Int}(hi:i=0\/i=1)(q:Q (.str (if i=0 then VI else z)) H):Jh (.str z) (.int i) H Q:=⟨z,i,rfl,rfl,hi,q⟩
end
open PySem.W (Dat kqdOk kqdP kqdPs)
section
variable{K:Fg}{σ:St}{Q:VK}{H:Hp}{td ty:TE}{D:bH}
def NL(h:td σ H λx H1=>ty σ H1 λy H2=>∃a v,x=.ref a/\DGet H2 a y (some v)/\Q v H2):sv td ty σ H Q:=h
def Fu(h:ty σ H λy H1=>td σ H1 λx H2=>∃a o,x=.ref a/\DGet H2 a y o/\Q (.bl (!o.isSome)) H2):sr ty td σ H Q:=h
def Kl(h:td σ H λx H1=>∃a,x=.ref a/\QU H1 a/\ty σ H1 λy H2=>∃o,DGet H2 a y o/\Q (o.getD .non) H2):y6 td ty σ H Q:=h
end
section
variable{K:Fg}{te:TE}{tc:TT}{σ:St}{Q:VK}{H:Hp}
def xu{xs:List V}(h:∀D,H D=none->∃Pv:Nat->Hp->Prop,Pv 0 (upd H D (.lst []))/\(∀i H2,i<=xs.length->Pv i H2->SqL K H2 a xs)/\(∀i x H2,xs[i]?=some x->Pv i H2->K9 g n tc te σ x H2 D xs.length i Pv)/\∀H2,Pv xs.length H2->Q (.ref D) H2):CQ (v0 K a) n g tc te σ Q H:=by
 intro D nD;obtain⟨Pv,h0,hl,hs,hd⟩:=h D nD;refine⟨λi m H=>m=xs.length-i/\i<=xs.length/\Pv i H,⟨_,rfl,SD _,h0⟩,?_⟩;rintro i m H ⟨rfl,hi,p⟩;have q:=hl i H hi p;by_cases hlt:i<xs.length
 .refine .inr ⟨⟨xs,xs[i],q,Rn hlt⟩,λv H' y us hu=>?_⟩;obtain⟨rfl,z⟩:=y;exact hs i v _ (z xs q) p us hu
 .have e:i=xs.length:=by lia
  subst e;exact .inl ⟨⟨xs,q,RB _⟩,hd H p⟩
def k9{xs:List V}(h:∀D,H D=none->∃Pv:Nat->Hp->Prop,Pv 0 (upd H D (.lst []))/\(∀i H2,i<=xs.length->Pv i H2->SqL K H2 a xs) /\
  (∀i x H2 T,xs[i]?=some x->Pv i H2->H2 T=none->K9 g n tc te σ (.ref T) (upd H2 T (.tup [.int i,x])) D xs.length i Pv)/\∀H2,Pv xs.length H2->Q (.ref D) H2):CQ (Lg K a) n g tc te σ Q H:=by
 intro D nD;obtain⟨Pv,h0,hl,hs,hd⟩:=h D nD;refine⟨λi m H=>m=xs.length-i/\i<=xs.length/\Pv i H,⟨_,rfl,SD _,h0⟩,?_⟩;rintro i m H ⟨rfl,hi,p⟩;have q:=hl i H hi p;by_cases hlt:i<xs.length
 .refine .inr ⟨⟨xs,q,hlt⟩,λv H' y us hu=>?_⟩;obtain⟨T,x,nT,rfl,rfl,z⟩:=y;exact hs i x H T (z xs q) p nT us hu
 .have e:i=xs.length:=by lia
  subst e;exact .inl ⟨⟨xs,q,RB _⟩,hd H p⟩
end
section
variable{X:Cx}
def Ov:bootBuiltins "max"=some (.builtin "max"):=by decide +kernel
end
end L2
namespace Rk
abbrev pt(r:List Int)(p:Nat):Int:=r.getD p 0
abbrev bA:List Int->List (List Int)->Nat->Int
 |a :: as,r :: rs,p=>a*pt r p+bA as rs p
 |_,_,_=>0
abbrev dU(R:List (List Int)):Prop:=∀a:List Int,a.length=R.length->(∀p,bA a R p=0)->∀c∈a,c=0
def tW(a:List Int)(p:Nat):bA a [] p=0:=by cases a <;> rfl
def h_:∀{a:List Int} {R:List (List Int)} (b:List Int) (S:List (List Int)) (p:Nat),a.length=R.length->bA (a++b) (R++S) p=bA a R p+bA b S p
 |[],[],b,S,p,_=>by simp[bA]
 |x :: a,r :: R,b,S,p,h=>by
  have ih:=h_ (a:=a) (R:=R) b S p (by simpa using h);show x*pt r p+bA (a++b) (R++S) p=(x*pt r p+bA a R p)+bA b S p;rw[ih,Int.add_assoc]
def fo(k:Int):∀(a:List Int) (R:List (List Int)) (p:Nat),bA (a.map λx=>k*x) R p=k*bA a R p
 |[],R,p=>by cases R <;> simp[bA]
 |x :: a,[],p=>by simp[bA]
 |x :: a,r :: R,p=>by
  have ih:=fo k a R p;show k*x*pt r p+bA (a.map λx=>k*x) R p=k*(x*pt r p+bA a R p);rw[ih,Vy,Ua]
def split_len{a:List Int}{R S:List (List Int)}(h:a.length=(R++S).length):∃b c,a=b++c/\b.length=R.length/\c.length=S.length:=by
 refine⟨a.take R.length,a.drop R.length,(W6 _ _).symm,?_,?_⟩
 .rw[RT,h,RF];lia
 .rw[Ts,h,RF];lia
abbrev kn(by_:List Int)(p:Nat)(r:List Int):List Int:=V6 (λone rA=>one*pt by_ p-pt r p*rA) r by_
def Ak{by_ r:List Int}(h:r.length=by_.length):pt (kn by_ p r) q=pt r q*pt by_ p-pt r p*pt by_ q:=by
 unfold pt kn;rw[Rr,VM,Rr (l:=r) (i:=q),Rr (l:=by_) (i:=q)];by_cases l:q<r.length
 .rw[Rn l,Rn (by lia)];rfl
 .rw[Sw (by lia),Sw (by lia)];simp
abbrev Wide(w:Nat)(R:List (List Int)):Prop:=∀r∈R,r.length=w
def oM{by_ r:List Int}(h:r.length=by_.length):(kn by_ p r).length=by_.length:=by
 unfold kn;rw[Zz];lia
def Cc:∀(a b:List Int) (R:List (List Int)) (p:Nat),a.length=b.length->bA (V6 (· + ·) a b) R p=bA a R p+bA b R p
 |[],[],R,p,_=>by cases R <;> simp[bA]
 |x :: a,y :: b,[],p,_=>by simp[bA]
 |x :: a,y :: b,r :: R,p,h=>by
  have ih:=Cc a b R p (by simpa using h);show(x+y)*pt r p+bA (V6 (· + ·) a b) R p=(x*pt r p+bA a R p)+(y*pt r p+bA b R p)
  rw[ih,Zl];lia
def kY{S T:List (List Int)}{d:List Int}{c G:Int}(ld:d.length=S.length)(hc:c≠0)(hG:G≠0)(e:∀q,G*pt s q=c*pt r q+bA d S q)(h:dU (S++r :: T)):dU (S++s :: T):=by
 intro a la ha;obtain⟨a1,a',rfl,l1,l'⟩:=split_len la;obtain⟨x,a2,rfl⟩:∃x a2,a'=x :: a2:=Vx (by rw[l'];simp);have l2:a2.length=T.length:=by simpa using l'
 have at_:∀q,bA a1 S q+(x*pt s q+bA a2 T q)=0:=λq=>by
  have:=ha q
  rw[h_ _ _ _ l1] at this;exact this
 have h':=h (V6 (· + ·) (a1.map λy=>G*y) (d.map λy=>x*y)++(x*c) :: a2.map λy=>G*y) (by simp[l1,l2,ld]) λq=>by
  rw[h_ _ _ _ (by simp[l1,ld])];show bA (V6 (· + ·) (a1.map λy=>G*y) (d.map λy=>x*y)) S q+(x*c*pt r q+bA (a2.map λy=>G*y) T q)=0;rw[Cc _ _ _ _ (by simp[l1,ld]),fo,fo,fo];have e1:=at_ q;have e2:=e q;have e3:G*(bA a1 S q+(x*pt s q+bA a2 T q))=0:=by rw[e1,WW]
  rw[Vy,Vy] at e3;have e4:G*(x*pt s q)=x*(c*pt r q+bA d S q):=by rw[<- e2,<- Ua,<- Ua,WU G x]
  rw[e4,Vy] at e3;have e5:x*(c*pt r q)=x*c*pt r q:=by rw[Ua]
  lia
 have x0:x=0:=by
  have:=h' (x*c) (RU _ Ru)
  exact(TF.mp this).resolve_right hc
 have a20:∀y∈a2,y=0:=λy hy=>by
  have:=h' (G*y) (RU _ (RA _ (RO.mpr ⟨y,hy,rfl⟩)))
  exact(TF.mp this).resolve_left hG
 have a10:∀y∈a1,y=0:=λy hy=>by
  obtain⟨i,hi,rfl⟩:=Tc.mp hy
  have m:G*a1[i]+x*d[i]'(by lia)∈V6 (· + ·) (a1.map λy=>G*y) (d.map λy=>x*y):=by
   refine Tc.mpr ⟨i,by simp;lia,by simp⟩
  have:=h' _ (Sa _ m)
  rw[x0,WX,VA] at this;exact(TF.mp this).resolve_left hG
 intro y hy;rcases RX.mp hy with z|z
 .exact a10 y z
 .rcases RW.mp z with rfl|z
  .exact x0
  .exact a20 y z
def qK{S T:List (List Int)}{d:List Int}{c G:Int}(ld:d.length=S.length)(hc:c≠0)(hG:G≠0)(e:∀q,G*pt s q=c*pt r q+bA d S q):dU (S++r :: T)↔dU (S++s :: T) :=
 ⟨kY ld hc hG e,kY (d:=d.map λy=>(-1)*y) (by simp[ld]) hG hc λq=>by rw[fo];have:=e q;lia⟩
abbrev Eqv(F S:List (List Int)):Prop:=∀T,dU (F++T)↔dU (S++T)
def Eqv.snoc{d:List Int}{c G:Int}(h:Eqv F S)(ld:d.length=S.length)(hc:c≠0)(hG:G≠0)(e:∀q,G*pt s q=c*pt r q+bA d S q):Eqv (F++[r]) (S++[s]):=λT=>by
 rw[Tf,Tf,h,W5,W5];exact qK ld hc hG e
inductive cq:List (List Int)->List Nat->Prop
 |nil:cq [] []
 |cons {s:List Int} {p:Nat} {S:List (List Int)} {ps:List Nat}:pt s p≠0->(∀t∈S,pt t p=0)->cq S ps->cq (s :: S) (p :: ps)
def cq.snoc{s:List Int}{p:Nat}:∀{S:List (List Int)} {ps:List Nat},cq S ps->(∀q∈ps,pt s q=0)->pt s p≠0->cq (S++[s]) (ps++[p])
 |_,_,.nil,_,h=>.cons h (by simp) .nil
 |_,_,.cons (s:=t) (p:=q) h1 h2 r,z,h=>.cons h1 (λu hu=>by
   rcases RX.mp hu with m|m
   .exact h2 u m
   .rw[RL.mp m];exact z q Ru) (cq.snoc r (λq hq=>z q (RA _ hq)) h)
def kN{x:List Int}:∀{S:List (List Int)} {ps:List Nat},cq S ps->(∀q∈ps,pt x q=0)->(dU (S++[x])↔∃q,pt x q≠0)
 |[],[],.nil,_=>by
  constructor
  .intro h;by_cases z:∃q,pt x q≠0
   .exact z
   .have:=h [1] rfl (λp=>by
     show 1*pt x p+bA [] [] p=0
     have:pt x p=0:=Decidable.byContradiction λy=>z ⟨p,y⟩
     rw[this];rfl) 1 Ru
    cases this
  .rintro⟨q,hq⟩ a la ha c hc;obtain⟨y,rfl⟩:∃y,a=[y]:=UV.mp la
   have:=ha q
   have e:y*pt x q+0=0:=this;rw[VA] at e;rw[RL.mp hc];exact(TF.mp e).resolve_right hq
 |s :: S,p :: ps,.cons h1 h2 r,z=>by
  have ih:=kN r λq hq=>z q (RA _ hq)
  have zp:∀t∈S++[x],pt t p=0:=λt ht=>by
   rcases RX.mp ht with m|m
   .exact h2 t m
   .rw[RL.mp m];exact z p Ru
  have nought:∀(b:List Int) (R:List (List Int)),(∀t∈R,pt t p=0)->bA b R p=0:=by
   intro b
   induction b with
   |nil=>intro R _;cases R <;> rfl
   |cons c b ihb =>
    intro R hR;cases R with
    |nil=>rfl
    |cons t R =>
     show c*pt t p+bA b R p=0;rw[hR t Ru,ihb R λt ht=>hR t (RA _ ht)];lia
  rw[<- ih];constructor
  .intro h a la ha c hc
   exact h (0 :: a) (by simp[la]) (λq=>by
    show 0*pt s q+bA a (S++[x]) q=0
    rw[ha q];lia) c (RA _ hc)
  .intro h a la ha;obtain⟨y,b,rfl⟩:∃y b,a=y :: b:=Vx (by rw[la];simp);have at_:∀q,y*pt s q+bA b (S++[x]) q=0:=ha
   have y0:y=0:=by
    have:=at_ p
    rw[nought b _ zp,VA] at this;exact(TF.mp this).resolve_right h1
   have:=h b (by simpa using la) λq=>by
    have:=at_ q
    rw[y0] at this;lia
   intro c hc;rcases RW.mp hc with rfl|hc
   .exact y0
   .exact this c hc
structure Clrd (S:List (List Int)) (ps:List Nat) (x x':List Int):Prop where
 made:∃(d:List Int) (c G:Int),d.length=S.length/\c≠0/\G≠0/\∀q,G*pt x' q=c*pt x q+bA d S q
 nought:∀q∈ps,pt x' q=0
 len:x'.length=x.length
def Clrd.snoc{z s:List Int}{p:Nat}{g:Int}(h:Clrd S ps x y)(st:cq (S++[s]) (ps++[p]))(lp:S.length=ps.length)(ls:y.length=s.length)(hg:g≠0)(lz:z.length=y.length)(ez:∀q,g*pt z q=pt (kn s p y) q):Clrd (S++[s]) (ps++[p]) x z:=by
 obtain⟨d,c,G,ld,hc,hG,e⟩:=h.made
 have sp:pt s p≠0:=by
  have:∀{S:List (List Int)} {ps:List Nat},cq (S++[s]) (ps++[p])->S.length=ps.length->pt s p≠0:=by
   intro S
   induction S with
   |nil =>
    intro ps st l
    have:ps=[]:=TW.mp l.symm
    subst this;cases st with
    |cons h _ _=>exact h
   |cons t S ih =>
    intro ps st l;cases ps with
    |nil=>simp at l
    |cons q ps =>
     cases st with
     |cons _ _ r=>exact ih r (by simpa using l)
  exact this st lp
 have s0:∀q∈ps,pt s q=0:=by
  have:∀{S:List (List Int)} {ps:List Nat},cq (S++[s]) (ps++[p])->S.length=ps.length->∀q∈ps,pt s q=0:=by
   intro S
   induction S with
   |nil =>
    intro ps st l q hq
    have:ps=[]:=TW.mp l.symm
    subst this;cases hq
   |cons t S ih =>
    intro ps st l q hq;cases ps with
    |nil=>simp at l
    |cons q0 ps =>
     cases st with
     |cons _ h2 r =>
      rcases RW.mp hq with rfl|hq
      .exact h2 s (RU _ (RL.mpr rfl))
      .exact ih r (by simpa using l) q hq
  exact this st lp
 have ec:∀q,g*pt z q=pt y q*pt s p-pt y p*pt s q:=λq=>by rw[ez q,Ak ls]
 have zero:∀q,pt y q*pt s p-pt y p*pt s q=0->pt z q=0:=λq h0=>by
  have:=ec q
  rw[h0] at this;exact(TF.mp this).resolve_left hg
 refine⟨⟨(d.map λv=>pt s p*v)++[-(G*pt y p)],pt s p*c,G*g,by simp[ld],λw=>?_,λw=>?_,λq=>?_⟩,λq hq=>?_,by rw[lz,h.len]⟩
 .rcases TF.mp w with w|w
  .exact sp w
  .exact hc w
 .rcases TF.mp w with w|w
  .exact hG w
  .exact hg w
 .rw[h_ _ _ _ (by simp[ld]),fo];show G*g*pt z q=pt s p*c*pt x q+(pt s p*bA d S q+(-(G*pt y p)*pt s q+0))
  have e1:=e q;rw[Ua,ec q,Za8,VA,VW];have a1:G*(pt y q*pt s p)=pt s p*(c*pt x q+bA d S q):=by rw[<- e1,<- Ua,WU]
  have a2:G*(pt y p*pt s q)=G*pt y p*pt s q:=by rw[Ua]
  have a3:pt s p*(c*pt x q+bA d S q)=pt s p*c*pt x q+pt s p*bA d S q:=by rw[Vy,Ua]
  lia
 .rcases RX.mp hq with m|m
  .refine zero q ?_;rw[h.nought q m,s0 q m];simp
  .rw[RL.mp m];refine zero p ?_;lia
def Clrd.start{x:List Int}:Clrd [] [] x x:=⟨⟨[],1,1,rfl,by decide,by decide,λq=>by simp[bA]⟩,by simp,rfl⟩
def Cr(E:Eqv F S)(st:cq S ps)(c:Clrd S ps x x'):dU (F++[x])↔∃q,pt x' q≠0:=by
 obtain⟨d,c0,G,ld,hc,hG,e⟩:=c.made;rw[E [x]];rw[qK (T:=[]) ld hc hG e];exact kN st c.nought
end Rk
namespace Dn
open Rk
nonrec abbrev Tp:=List Int×List Int
abbrev can(t:Tp)(c:List Int):Bool:=(TZ t.1 c).all λz=>decide (z.1<=z.2)
abbrev beh(t:Tp)(c:List Int):List Int:=(RQ c.length).map λk=>pt c k-pt t.1 k+pt t.2 k
end Dn
namespace L2
open PySem PySem.Spec PyProof.Rows
open PySem.W (Dat KasT kas_sort kas_ask)
section
variable{X:Cx}
def CB:bootBuiltins "sorted"=some (.builtin "sorted"):=by decide +kernel
end
def lP(a b c:Rs):checkTypeCall "zip" ⟨[a,b,c],[]⟩=pure ():=by kernel_rfl
def qt(a b c:Rs):checkBuiltinCall "zip.__new__" ⟨[.type "zip",a,b,c],[]⟩=pure ():=by kernel_rfl
def uc(a b c d:Rs):argsOk "object.__init__" ⟨[a,b,c,d],[]⟩:=by
 unfold argsOk;rw[signature?_of (id:="object.__init__") (n:=['_','_','t','i','n','i','_','_']) (o:=['t','c','e','j','b','o']) (by kernel_rfl) PySem.F.owner_object];kernel_rfl
nonrec abbrev K4(k:Kn)(K:Fg)(a b c:Addr):It:=O5 K [(k,a),(k,b),(k,c)]
abbrev N3(k:Kn)(K:Fg)(ta:TA):TI:=λσ H R=>ta σ H λvs H1=>∃a b c xs ys zs,vs=[.ref a,.ref b,.ref c]/\k.sq K H1 a xs/\k.sq K H1 b ys/\k.sq K H1 c zs/\R (K4 k K a b c) H1
def KR{α:Type}{F:α->Prop}{x y z:α}(h1:F x)(h2:F y)(h3:F z):∀u∈[x,y,z],F u:=Xv.mpr ⟨h1,all2 h2 h3⟩
def JA{x y u:Expr} {ta:TA}  {x1} {p pos:Pos} (hg:Gl X "zip") (hm:X.mg "zip"=none) (ha:PA X [x,y,u] ta) (hs:starEach [x,y,u] X.env=[(false,eval x X.env),(false,eval y X.env),(false,eval u X.env)]:=by rfl) (hs2:starEach [y,u] X.env=[(false,eval y X.env),(false,eval u X.env)]:=by rfl) :
  PI X (.Tuple elts x1 tp) (.Call (.Name "zip" p) [x,y,u] [] pos) (N3 k X.K ta):=by
 intro ξ s σ H R I h;refine Call_ (eO I hg hm Hn (Tb (a5 (ha pos ξ s σ H _ I h) λus s1 ω=>?_) (by rw[hs,hs2]) (by rw[hs2];rfl)));obtain⟨vs,H1,I1,r1,a,b,c,xs,ys,zs,e,s1q,s2q,s3q,q⟩:=ω;subst e;exact xH (ks:=[(k,a),(k,b),(k,c)]) I1 r1 (YT _) fS (KR ⟨xs,s1q⟩ ⟨ys,s2q⟩ ⟨zs,s3q⟩) q (lP _ _ _) (qt _ _ _) λo=>uc o _ _ _
section
variable{K:Fg}{te:TE}{σ:St}{Q:VK}{H:Hp}
def Co{k:Kn}{xs ys zs:List V}{m:Nat}(e1:xs.length=m)(e2:ys.length=m)(e3:zs.length=m)(h:∀D,H D=none->∃Pv:Nat->Hp->Prop,Pv 0 (upd H D (.lst []))/\(∀i H2,i<=m->Pv i H2->k.sq K H2 a xs/\k.sq K H2 b ys/\k.sq K H2 c zs) /\
  (∀i x y u H2 T,xs[i]?=some x->ys[i]?=some y->zs[i]?=some u->Pv i H2->H2 T=none->Gm g n te σ (.ref T) (upd H2 T (.tup [x,y,u])) D m i Pv)/\∀H2,Pv m H2->Q (.ref D) H2):ul (K4 k K a b c) n g te σ Q H:=by
 intro D nD;obtain⟨Pv,h0,hl,hs,hd⟩:=h D nD;refine⟨λi k H=>k=m-i/\i<=m/\Pv i H,⟨_,rfl,SD _,h0⟩,?_⟩;rintro i j H ⟨rfl,hi,p⟩;obtain⟨q1,q2,q3⟩:=hl i H hi p;by_cases hlt:i<m
 .refine .inr ⟨KR ⟨xs,q1,by lia⟩ ⟨ys,q2,by lia⟩ ⟨zs,q3,by lia⟩,λv H' ⟨T,ws,nT,h1,h2,h3⟩ us hu=>?_⟩;subst h1 h2;obtain _|⟨z1,_|⟨z2,_|⟨z3,_|_⟩⟩⟩:=h3
  exact hs i _ _ _ H T (z1 xs q1) (z2 ys q2) (z3 zs q3) p nT us hu
 .obtain rfl:i=m:=by lia
  exact .inl ⟨KR ⟨xs,q1,λz=>by lia⟩ ⟨ys,q2,λz=>by lia⟩ ⟨zs,q3,λz=>by lia⟩,hd H p⟩
nonrec abbrev OP(K:Fg):=K4 .T K
nonrec abbrev FD(K:Fg):=N3 .T K
def JB{x y u:Expr} {ta:TA}  {x1} {p pos:Pos} (hg:Gl X "zip") (hm:X.mg "zip"=none) (ha:PA X [x,y,u] ta) (hs:starEach [x,y,u] X.env=[(false,eval x X.env),(false,eval y X.env),(false,eval u X.env)]:=by rfl) (hs2:starEach [y,u] X.env=[(false,eval y X.env),(false,eval u X.env)]:=by rfl) :
  PI X (.Tuple elts x1 tp) (.Call (.Name "zip" p) [x,y,u] [] pos) (FD X.K ta):=JA hg hm ha hs hs2
def GZ{ta:TA}{R:It->Hp->Prop}(h:ta σ H λvs H1=>∃a b c xs ys zs,vs=[.ref a,.ref b,.ref c]/\SqT K H1 a xs/\SqT K H1 b ys/\SqT K H1 c zs/\R (OP K a b c) H1):FD K ta σ H R:=h
def qM{xs ys zs:List V}{m:Nat}(e1:xs.length=m)(e2:ys.length=m)(e3:zs.length=m)(h:∀D,H D=none->∃Pv:Nat->Hp->Prop,Pv 0 (upd H D (.lst []))/\(∀i H2,i<=m->Pv i H2->SqT K H2 a xs/\SqT K H2 b ys/\SqT K H2 c zs) /\
  (∀i x y u H2 T,xs[i]?=some x->ys[i]?=some y->zs[i]?=some u->Pv i H2->H2 T=none->Gm g n te σ (.ref T) (upd H2 T (.tup [x,y,u])) D m i Pv)/\∀H2,Pv m H2->Q (.ref D) H2):ul (OP K a b c) n g te σ Q H:=Co e1 e2 e3 h
end
end L2
namespace L2
open PySem PySem.Spec PyProof.Rows
abbrev ud(es:Array (Int×Rs))(t:Uk)(h:Int)(x:Rs)(i:Int):Array (Int×Rs)×Uk :=
 match es.toList.findIdx? (λe=>Uz i e.2) with
 |some _=>(es,t)
 |none=>if (!(layNew t es h x).2.2.1 && (layNew t es h x).2.1.tooFull)=true then ((relayAll (layNew t es h x).2.1 (layNew t es h x).1 (Uy (layNew t es h x).1.size)).1,(relayAll (layNew t es h x).2.1 (layNew t es h x).1 (Uy (layNew t es h x).1.size)).2.1)
  else ((layNew t es h x).1,(layNew t es h x).2.1)
section
variable{prog:RM}{w:R4}{A:SC}{E:Rs->RC->Prop}{s:RC}
def KS{a:Addr}      {Q:Bool->RC->Prop} (ho:s.heap.get? a=some {cls:=.type "set",dict:=none,data:=.set es ep t,slots:=#[]}) (hf:t.fits es.size=true) (hel:ElemsOf (intKind prog w) es.toList) (hb:es.size+2<scanBound)
  (h:∀h' ep' r tk,UT a s.heap h'->h'.get? a=some {cls:=.type "set",dict:=none,data:=.set (ud es t (hashInt i) (.int i u) i).1 ep' (ud es t (hashInt i) (.int i u) i).2,slots:=#[]}->Q r {s with heap:=h',toks:=tk}) :
  wpAny (model prog w) A (setAdd a (.int i u)) Q E s:=by
 unfold setAdd;refine TM (Ro (wpAny_pyHash_int ?_));unfold setAddHashed setAddHashedIn;refine TM (Ro (WY ho rfl hf ?_));dsimp only;rw[byScan_of (knd:=intKind prog w) (show Zbe (.int i u)=true from rfl) (by lia) hel];simp only[↓reduceIte];unfold setAddByScan;refine Ro (Ro (YK (Ro (wpAny_setScan_of (knd:=intKind prog w) (k:=i) (show Uz i (.int i u)=true by simp[Uz]) ho rfl hf hel ?_))));unfold ud at h;cases hr:es.toList.findIdx? (λe=>Uz i e.2) with
 |some j =>
  rw[hr] at h;rw[show(es.toList.findIdx? λe=>(intKind prog w).is i e.2)=some j from hr];dsimp only;refine RE (RE ?_);exact h s.heap ep _ _ (UT.refl a s.heap) ho
 |none =>
  rw[hr] at h;rw[show(es.toList.findIdx? λe=>(intKind prog w).is i e.2)=none from hr];dsimp only
  have sz:(layNew t es (hashInt i) (.int i u)).1.size=es.size+1:=by
   have:=(layNew_perm t es (hashInt i) (.int i u)).length_eq
   rw[Sj,Sj,Array.size_push] at this;exact this
  generalize layNew t es (hashInt i) (.int i u)=L at h sz ⊢;obtain⟨es1,t1,wd,gv⟩:=L;dsimp only at h sz ⊢
  have gw:∀(b:Bool) (s₁:RC) (R:Unit->RC->Prop) (m:Bool->Sem Unit),m=(λb=>match b with|true=>rule "set.scan.the-table-gave-way" | false=>pure ())->R () s₁->wpAny (model prog w) A (m b) R E s₁:=by
   rintro b s₁ R m rfl hq;cases b <;> first|exact RE hq|exact YK hq
  have fin:∀(s':RC),(∃tk,s' = {s with heap:=s.heap,toks:=tk})->wpAny (model prog w) A (do
    storeSet a es1 t1
    if (!wd && t1.tooFull)=true then do
      (match (relayAll t1 es1 (Uy es1.size)).2.2 with|true=>rule "set.scan.the-table-gave-way" | false=>pure ())
      storeSet a (relayAll t1 es1 (Uy es1.size)).1 (relayAll t1 es1 (Uy es1.size)).2.1
      pure (some true)
     else pure (some true)) (λr s''=>wpAny (model prog w) A (match r with|some added=>pure added|none=>setAddHashedIn a (.int i u) (hashInt i) 99999) Q E s'') E s':=by
   rintro s' ⟨tk,rfl⟩
   have e1:(s.heap.update a (X5 es1 t1)).get? a=some {cls:=.type "set",dict:=none,data:=.set es1 (ep+1) t1,slots:=#[]}:=by
    have:=SQ (X5 es1 t1) ho (by rw[ZaV es1 t1 rfl];rfl)
    rw[ZaV es1 t1 rfl] at this;exact this
   refine Ro (wpAny_storeSet_of (s:={s with heap:=s.heap,toks:=tk}) ho rfl ?_ (fits_of_scanBound (by lia)));by_cases c:(!wd && t1.tooFull)=true
   .rw[if_pos c] at h ⊢
    have sz2:(relayAll t1 es1 (Uy es1.size)).1.size=es1.size:=by
     have:=(relayAll_perm t1 es1 (Uy es1.size)).length_eq
     rw[Sj,Sj] at this;exact this
    generalize relayAll t1 es1 (Uy es1.size)=Rl at h sz2 ⊢;obtain⟨es2,t2,gv2⟩:=Rl;dsimp only at h sz2 ⊢
    have e2:((s.heap.update a (X5 es1 t1)).update a (X5 es2 t2)).get? a=some {cls:=.type "set",dict:=none,data:=.set es2 (ep+1+1) t2,slots:=#[]}:=by
     have:=SQ (X5 es2 t2) e1 (by rw[ZaV es2 t2 rfl];rfl)
     rw[ZaV es2 t2 rfl] at this;exact this
    refine Ro (gw gv2 _ _ _ rfl ?_);refine Ro (wpAny_storeSet_of (s:={s with heap:=s.heap.update a (X5 es1 t1),toks:=tk}) e1 rfl ?_ (fits_of_scanBound (by lia)));exact RE (RE (h _ _ _ _ ((Tq ..).trans (Tq ..)) e2))
   .rw[if_neg c] at h ⊢;exact RE (RE (h _ _ _ _ (Tq ..) e1))
  refine Ro (gw gv _ _ _ rfl ?_);split
  .refine Ro ?_;rw[hashByValue_scannable 8 (show Zbe (.int i u)=true from rfl)];refine RE ?_;exact fin _ ⟨_,rfl⟩
  .refine Ro (RE ?_);exact fin _ ⟨_,rfl⟩
end
abbrev aH(b:Nat):List Nat:=(RQ 8).filter λk=>b.testBit k
abbrev bp(b k:Nat):Nat:=if (aH b).contains k then b else b+2 ^ k
def fh:∀b<256,(aH b).length<=8:=by decide +kernel
def ou:∀b<256,∀k<8,bp b k<256:=by decide +kernel
def Fz:∀b<256,∀k<8,∀j<8,(aH (bp b k)).contains j=((aH b).contains j || j == k):=by decide +kernel
abbrev Q1(b k:Nat):Bool:=(aH b).contains k || ((aH b).take (U4 (aH b).toArray k)++k :: (aH b).drop (U4 (aH b).toArray k) == aH (b+2 ^ k) && U4 (aH b).toArray k<=(aH b).length)
def Mj:∀b<256,∀k<8,Q1 b k=true:=by decide +kernel
abbrev Q2(b:Nat):Bool:=match Zat 31 ((aH b).map λk:Nat=>(k:Int)).toArray with
 |some o=>((RQ 32).filterMap λj=>(o.getD j none).map (j,·)) == (aH b).zipIdx
 |none=>false
def M_:∀b<256,Q2 b=true:=by decide +kernel
def N6:∀k<8,hashInt ((k:Nat):Int)=(k:Int):=by decide +kernel
def Oo:∀k<8,ZI ((k:Nat):Int) % 8=k/\ZI ((k:Nat):Int) % 32=k:=by decide +kernel
abbrev ER(es:Array (Int×Rs))(l:List Nat):Prop:=es.size=l.length/\∀(i k:Nat),l[i]?=some k->∃tk,es[i]?=some ((k:Int),.int (k:Int) tk)
structure TR (led:Bool) (t:Uk) (b:Nat):Prop where
 place:t.place=(aH b).toArray
 dum:t.dummies = #[]
 led:t.led=led
 plain:t.plain=true
 mask:(t.mask=7/\(aH b).length<=4)\/t.mask=31
def TR.fill{led:Bool}(T:TR led t b):t.fill=(aH b).length:=by
 unfold Xm;rw[T.place,T.dum];simp
def TR.fits{led:Bool}{n:Nat}(T:TR led t b)(hb:b<256)(hn:n=(aH b).length):t.fits n=true:=by
 have l8:=fh b hb;unfold ZJ;rw[T.fill,T.place];simp only[RZ,V5,beq_iff_eq,decide_eq_true_eq];rcases T.mask with⟨m,l⟩|m <;> rw[m] <;> lia
def ER.elems(R:ER es (aH b))(h8:∀k∈aH b,k<8):ElemsOf (intKind prog w) es.toList:=by
 intro e he;obtain⟨i,li,ei⟩:=Tc.mp he;have l2:i<(aH b).length:=by rw[<- R.1];simpa using li
 obtain⟨tk,et⟩:=R.2 i _ (Rn l2);have e2:es.toList[i]?=some e:=by rw[Rn li,ei]
 rw[Sk] at e2;rw[et] at e2;cases e2;refine⟨⟨((aH b)[i]:Int),by simp[intKind,Uz],?_⟩,rfl⟩;exact(N6 _ (h8 _ (Td l2))).symm
def tG(b:Nat):∀k∈aH b,k<8:=λk hk=>by
 unfold aH at hk;exact Sr.mp (SG.mp hk).1
def FC{k:Nat}(R:ER es l)(h:k∉l):es.toList.findIdx? (λe=>Uz (k:Int) e.2)=none:=by
 rw[U_];intro e he;obtain⟨i,li,ei⟩:=Tc.mp he;have l2:i<l.length:=by rw[<- R.1];simpa using li
 obtain⟨tk,et⟩:=R.2 i _ (Rn l2);have e2:es.toList[i]?=some e:=by rw[Rn li,ei]
 rw[Sk,et] at e2;cases e2;have ne:l[i]≠k:=λz=>h (z ▸ Td l2)
 have : ¬ ((l[i]:Int)=(k:Int)):=by lia
 simp[Uz,this]
def FA{k:Nat}(R:ER es l)(h:k∈l):∃j,es.toList.findIdx? (λe=>Uz (k:Int) e.2)=some j:=by
 cases e:es.toList.findIdx? (λe=>Uz (k:Int) e.2) with
 |some j=>exact⟨j,rfl⟩
 |none =>
  rw[U_] at e;obtain⟨i,li,ei⟩:=Tc.mp h;obtain⟨tk,et⟩:=R.2 i k (by rw[Rn li,ei])
  have:=e ((k:Int),.int (k:Int) tk) (Ry (by rw[Sk];exact et))
  simp[Uz] at this
def Qz{led:Bool}{k:Nat}(T:TR led t b)(hk:k<8)(h:k∉aH b):t.freeSlot (k:Int)=some (k,false):=by
 have ej:(t.probeStart (k:Int)).j=k:=by
  show ZI (k:Int) % (t.mask+1)=k;rcases T.mask with⟨m,_⟩|m <;> rw[m]
  .exact(Oo k hk).1
  .exact(Oo k hk).2
 have sl:=wD T.place T.dum h;obtain⟨n,hn⟩:∃n,10*Zm t.mask=n+1:=⟨10*Zm t.mask-1,by unfold Zm;lia⟩
 unfold Uk.freeSlot Zbv;rw[hn];unfold Zbv.go;rw[ej,sl];rfl
def ju{α:Type}:∀l:List α,(RQ l.length).filterMap (λi=>l[i]?)=l
 |[]=>rfl
 |x :: l=>by
  rw[Sn,List.range_succ_eq_map,Vn];show x :: (ZbO Nat.succ (RQ l.length)).filterMap (λi=>(x :: l)[i]?)=x :: l;rw[List.filterMap_map];congr 1;exact ju l
def range_all{α:Type}(a:Array α):(RQ a.size).toArray.filterMap (λx=>a[x]?)=a:=by
 obtain⟨l⟩:=a;apply Array.toList_inj.mp;rw[Array.toList_filterMap];simpa using ju l
def HB(l:List Nat):l.zipIdx.map (·.1)=l:=by simp
def HA(l:List Nat):l.zipIdx.map (·.2)=RQ l.length:=by simp[List.range_eq_range']
def KU{led:Bool}{b k:Nat}(hb:b<256)(hk:k<8)(R:ER es (aH b))(T:TR led t b) :
  ER (ud es t (hashInt (k:Int)) (.int (k:Int) u) (k:Int)).1 (aH (bp b k))/\TR led (ud es t (hashInt (k:Int)) (.int (k:Int) u) (k:Int)).2 (bp b k):=by
 rw[N6 k hk];have l8:=fh b hb;by_cases h:k∈aH b
 .obtain⟨j,e⟩:=FA R h;have ei:bp b k=b:=by unfold bp;rw[if_pos (by simpa using h)]
  unfold ud;rw[e,ei];exact⟨R,T⟩
 .have ei:bp b k=b+2 ^ k:=by unfold bp;rw[if_neg (by simpa using h)]
  have pk:=Mj b hb k hk;unfold Q1 at pk;rw[show(aH b).contains k=false by simpa using h,ZbD,V5,beq_iff_eq,decide_eq_true_eq] at pk;obtain⟨p1,p2⟩:=pk;have l8':=fh (bp b k) (ou b hb k hk);rw[<- ei] at p1
  have ll:(aH (bp b k)).length=(aH b).length+1:=by
   rw[<- p1,RF,Sn,RT,Ts];lia
  generalize hp:U4 (aH b).toArray k=p at p1 p2
  have put:t.put k=({t with place:=(aH (bp b k)).toArray,dummies:=#[]},p):=by
   unfold Uk.put;rw[T.place,T.dum,hp];dsimp only;rw[gD _ _ _ p2,p1,if_neg (by simp[Uk.has,U4,U4.go])]
  have esl:Vh es p ((k:Int),.int (k:Int) u)=(es.toList.take p++((k:Int),VH (k:Int) u) :: es.toList.drop p).toArray:=by
   have:=gD es.toList p ((k:Int),VH (k:Int) u) (by rw[Sj,R.1];exact p2)
   simpa using this
  have R1:ER (Vh es p ((k:Int),.int (k:Int) u)) (aH (bp b k)):=by
   refine⟨?_,λi j hj=>?_⟩
   .rw[esl,ll,<- R.1];simp;lia
   .rw[esl];rw[<- p1,vG p2] at hj;rw[VL,vG (by rw[Sj,R.1];exact p2)];split at hj
    .rename_i c;rw[if_pos c,Sk];exact R.2 i j hj
    .rename_i c;rw[if_neg c];split at hj
     .rename_i c2;cases hj;rw[if_pos c2];exact⟨u,rfl⟩
     .rename_i c2;rw[if_neg c2,Sk];exact R.2 _ j hj
  have sz1:(Vh es p ((k:Int),.int (k:Int) u)).size=(aH (bp b k)).length:=R1.1
  have ft:({t with place:=(aH (bp b k)).toArray,dummies:=#[]}:Uk).fits (Vh es p ((k:Int),.int (k:Int) u)).size=true:=by
   unfold ZJ Xm;rw[sz1];simp only[RZ,V5,beq_iff_eq,decide_eq_true_eq];refine⟨trivial,?_⟩;show(aH (bp b k)).length+0<=t.mask;rcases T.mask with⟨m,l⟩|m <;> rw[m] <;> lia
  have lay:layNew t es (k:Int) (.int (k:Int) u)=(Vh es p ((k:Int),.int (k:Int) u),{t with place:=(aH (bp b k)).toArray,dummies:=#[]},false,false):=by
   unfold layNew;rw[Qz T hk h];dsimp only;rw[put];dsimp only;unfold Uk.orStandIn;rw[ft];rfl
  unfold ud;rw[FC R h,lay];dsimp only;generalize Vh es p ((k:Int),.int (k:Int) u)=es1 at R1 sz1 ft
  have hs:es1.map (·.1)=((aH (bp b k)).map λk:Nat=>(k:Int)).toArray:=by
   apply ZZ;intro i;simp only[Array.getElem?_map,VL,Rt];by_cases li:i<(aH (bp b k)).length
   .obtain⟨tk,et⟩:=R1.2 i _ (Rn li);rw[et,Rn li];rfl
   .rw[UW (by lia),Sw (by lia)];rfl
  by_cases c:(!false && ({t with place:=(aH (bp b k)).toArray,dummies:=#[]}:Uk).tooFull)=true
  .rw[if_pos c]
   have c2:((aH (bp b k)).length+0)*5≥t.mask*3:=by
    have c1:({t with place:=(aH (bp b k)).toArray,dummies:=#[]}:Uk).tooFull=true:=by simpa using c
    unfold ZaW Xm at c1;simpa using c1
   have n5:(aH (bp b k)).length=5:=by
    rcases T.mask with⟨m,l⟩|m <;> rw[m] at c2 <;> lia
   have g20:Uk.sizeAbove (Uy es1.size)-1=31:=by rw[sz1,n5];decide
   have lk:=M_ (bp b k) (ou b hb k hk);unfold Q2 at lk
   have rel:∃mv,relayAll ({t with place:=(aH (bp b k)).toArray,dummies:=#[]}:Uk) es1 (Uy es1.size)=(es1,{mask:=31,place:=(aH (bp b k)).toArray,dummies:=#[],finger:=t.finger,led:=t.led,moves:=mv,plain:=t.plain},false):=by
    cases lc:Zat 31 ((aH (bp b k)).map λk:Nat=>(k:Int)).toArray with
    |none=>rw[lc] at lk;cases lk
    |some o =>
     rw[lc] at lk;have lz:((RQ 32).filterMap λj=>(o.getD j none).map (j,·))=(aH (bp b k)).zipIdx:=by simpa using lk
     refine⟨({t with place:=(aH (bp b k)).toArray,dummies:=#[]}:Uk).movedTo 31,?_⟩;unfold relayAll Uk.relaid Uk.laid;rw[hs,g20,lc];simp only[Option.bind_eq_bind,Option.bind_some,lz,HB,HA];dsimp only[Option.pure_def];have ef:(RQ (aH (bp b k)).length).toArray.filterMap (λx=>es1[x]?)=es1:=by rw[<- sz1];exact range_all es1
     rw[ef]
     have cv:coversAll (RQ (aH (bp b k)).length).toArray es1.size=true:=by
      unfold coversAll;rw[sz1,n5];rfl
     have ft2:({mask:=31,place:=(aH (bp b k)).toArray,dummies:=#[],finger:=t.finger,led:=t.led,moves:=({t with place:=(aH (bp b k)).toArray,dummies:=#[]}:Uk).movedTo 31,plain:=t.plain}:Uk).fits es1.size=true:=by
      unfold ZJ Xm;rw[sz1];simp;lia
     rw[cv,ft2];rfl
   obtain⟨mv,rel⟩:=rel;rw[rel];exact⟨R1,rfl,rfl,T.led,T.plain,.inr rfl⟩
  .rw[if_neg c]
   have c2 : ¬ ((aH (bp b k)).length+0)*5≥t.mask*3:=λz=>c (by
    show(true && ({t with place:=(aH (bp b k)).toArray,dummies:=#[]}:Uk).tooFull)=true
    unfold ZaW Xm
    simpa using z)
   refine⟨R1,rfl,rfl,T.led,T.plain,?_⟩;rcases T.mask with⟨m,l⟩|m
   .refine .inl ⟨m,?_⟩;rw[m] at c2;lia
   .exact .inr m
structure jX (led:Bool) (h:Heap) (a:Addr) (b:Nat):Prop where
 b8:b<256
 at_:∃es ep t,h.get? a=some {cls:=.type "set",dict:=none,data:=.set es ep t,slots:=#[]}/\ER es (aH b)/\TR led t b
def jX.keep{led:Bool}{h':Heap}(S:jX led h a b)(k:∀o,h.get? a=some o->h'.get? a=some o):jX led h' a b:=by
 obtain⟨es,ep,t,e,r⟩:=S.at_;exact⟨S.b8,es,ep,t,k _ e,r⟩
section
variable{prog:RM}{w:R4}{A:SC}{E:Rs->RC->Prop}{s:RC}
def LL{led:Bool}{k:Nat}{Q:Bool->RC->Prop}(S:jX led s.heap a b)(hk:k<8)(h:∀h' r tk,UT a s.heap h'->jX led h' a (bp b k)->Q r {s with heap:=h',toks:=tk}) :
  wpAny (model prog w) A (setAdd a (.int (k:Int) u)) Q E s:=by
 obtain⟨es,ep,t,e,R,T⟩:=S.at_;have l8:=fh b S.b8;have sb:scanBound=4096:=rfl;refine KS e (T.fits S.b8 R.1) (R.elems (tG b)) (by rw[R.1,sb];lia) λh' ep' r tk sm e'=>?_
 obtain⟨R',T'⟩:=KU (u:=u) S.b8 hk R T;exact h h' r tk sm ⟨ou b S.b8 k hk,_,ep',_,e',R',T'⟩
abbrev iS (w:R4):Bool:=w.params.followText "set-order"
def sS(a:Rs){Q₁:Rs->RC->Prop}(h:Q₁ (.ref s.heap.objs.size) {s with heap:=s.heap.push (uQ (!iS w))}) :
  codeAny (model prog w) A (.call (.builtin "set.__new__") ⟨[.type "set",a],[]⟩) (wants Q₁ E) s:=by
 refine Y1 (show wpAny _ A.in1 (do checkBuiltinCall "set.__new__" ⟨[.type "set",a],[]⟩;again (.builtin "set.__new__" ⟨[.type "set",a],[]⟩)) _ _ s from ?_);refine Ro (Yi (F.newCall_set_1 a) (RE ⟨plainId_quiet F.plain_set_new _,Wu F.entry_set_new ?_⟩));rw[Xw F.plain_set_new _];unfold Ub.«set.__new__» Ub.Frozenset.newClass;have hsub:=sub_set_self;obtain⟨hp,g,d,tk,os⟩:=s;dsimp only;wp_walk;refine V7 (RE ?_);dsimp only;simp only[newObj];refine Ro (wpAny_alloc (RE (RE ?_)));exact h
end
section
variable{prog:RM}{w:R4}{A:SC}{E:Rs->RC->Prop}{s:RC}
def zB(k:Kn){Q:Rs->RC->Prop}(hh:A.handled=none)(hl:k.seq s.heap l items)(Z:Nat->Heap->Prop)
  (z0:∀h,h.get? s.heap.objs.size=some (uQ (!iS w))->(∀b o,s.heap.get? b=some o->h.get? b=some o)->Z 0 h) (zk:∀i h h',Z i h->(∀b o,b≠s.heap.objs.size+1->h.get? b=some o->h'.get? b=some o)->Z i h')
  (za:∀(A':SC) i v (s':RC) (Q:Bool->RC->Prop) (E:Rs->RC->Prop),A'.units<=A.units+8->i<items.size->items[i]?=some v->Z i s'.heap->(∀r h' tk,Z (i+1) h'->(∀b,b≠s.heap.objs.size->h'.get? b=s'.heap.get? b)->Q r {s' with heap:=h',toks:=tk})->wpAny (model prog w) A' (setAdd s.heap.objs.size v) Q E s')
  (q:∀h' tk,Z items.size h'->(∀b o,b<s.heap.objs.size->s.heap.get? b=some o->h'.get? b=some o)->Q (.ref s.heap.objs.size) {s with heap:=h',toks:=tk}):wpAny (model prog w) A (call (.type "set") [.ref l]) Q E s:=by
 obtain⟨c,tl,hmro⟩:=VB.mro;have hmade:=VB.made;have hsub:=VB.sub;refine Wx (Y1 ?_);show wpAny _ _ (callAny (.type "set") _) _ _ _;refine RE ⟨WA _ (by decide +kernel),Wu F.entry_type_call ?_⟩;rw[SC.under_plain (weight_type_call_type "set" [.ref l] []) rfl];have h1:=VB.notType;have h2:=VB.canCreate;have hct:=F.typeCall_set_1 (.ref l)
 repeat (any_goals (first|assumption|wp_step))
 refine V3 (sS (.ref l) (E:=E) (Q₁:=λobj s₁=>∃led:Bool,led = !iS w/\obj=.ref s.heap.objs.size/\s₁ = {s with heap:=s.heap.push (uQ led)}) ⟨_,rfl,rfl,rfl⟩) λr s₁ hr=>?_
 cases r with
 |error e=>exact hr
 |ok fl =>
  cases fl with
  |ret obj =>
   obtain⟨led,hled,rfl,rfl⟩:=hr;have hS:(s.heap.push (uQ led)).get? s.heap.objs.size=some (uQ led):=Sb _ rfl;have hT:RC.TypeIs {s with heap:=s.heap.push (uQ led)} (.ref s.heap.objs.size) "set":=⟨_,hS,rfl⟩
   have hli:=VB.init.lookup;have hbi:=VB.init.bind (.ref s.heap.objs.size)
   repeat (any_goals (first|assumption|wp_step))
   refine V3 (UH (R:=wants (λr s₂=>r=.none/\∃h' tk,s₂ = {s with heap:=h',toks:=tk}/\Z items.size h'/\(∀b o,b<s.heap.objs.size->s.heap.get? b=some o->h'.get? b=some o)) E) VB.init.plain F.entry_set_init (check_set_init_1 hT ?_)) λr₂ s₂ hr₂=>?_
   .have hlt:l<s.heap.objs.size:=k.lt hl;have hl1:k.seq (s.heap.push (uQ led)) l items:=k.D7 hl λo e=>Rv _ e
    have nI:l≠(s.heap.push (uQ led)).objs.size:=by rw[U3];exact Si (Zau hlt)
    have nS:s.heap.objs.size∉[(s.heap.push (uQ led)).objs.size,l]:=by
     rw[U3];simp only[RW,U0,or_false,not_or];exact⟨Si (YB _),UD hlt⟩
    have fin:∀(A':SC) (R':ZaM->RC->Prop),A'.in1.handled=none->A'.in1.units<=A.units+8->(∀h' tk,Z items.size h'->(∀b o,b<s.heap.objs.size->s.heap.get? b=some o->h'.get? b=some o)->R' (.ok (.ret .none)) {s with heap:=h',toks:=tk}) ->
      codeAny (model prog w) A' (.builtin "set.update.loop" ⟨[.ref s.heap.objs.size,.ref (s.heap.push (uQ led)).objs.size],[]⟩) R' {s with heap:=(s.heap.push (uQ led)).push (k.obj l)}:=by
     intro A' R' ha hu hR;refine D6 (k.walks ha _ l nI items) s.heap.objs.size nS Z (λi h h' z kp=>zk i h h' z λb o hb e=>kp b o (by rw[U3];simpa using hb) e) (λi v s' Q' E' hi hv hz hq=>za _ i v s' Q' E' hu hi hv hz hq) (items.size-0) 0 _ rfl (SD _) ⟨k.it0 _ l,k.D7 hl1 λo e=>Rv _ e⟩ (z0 _ (hled ▸ Rv _ hS) λb o e=>Rv _ (Rv _ e)) λh' tk z kp=>hR h' tk z λb o hb e=>kp b o ?_ (Rv _ (Rv _ e))
     rw[U3];simp only[RW,U0,or_false,not_or];exact⟨Si hb,Si (Zau hb)⟩
    cases k
    .have hl2:(s.heap.push (uQ led)).IsList l items:=hl1;obtain⟨ol,hol,hcl,nl,hdl⟩:=hl1;obtain⟨ocls,odict,odata,oslots⟩:=ol;simp only at hcl hdl;subst hcl;subst hdl;have hsls:=F.sub_list_set;have hslf:=F.sub_list_frozenset;have hne:(Wv "list" == Wv "dict")=false:=by decide
     unfold Ub.«set.__init__» noKeywords XE;generalize hPI:pyIter=PI;wp_walk;subst hPI;refine Kn.iter .L hl2 (Ro (wpAny_runValue (fin _ _ (by simp[hh]) (by simp) λh' tk z kp=>?_)));refine(show wpAny _ _ _ _ _ _ from RE (show wpAny _ _ (ret Tx) _ _ _ from RE ⟨rfl,h',tk,rfl,z,kp⟩))
    .have hl2:(s.heap.push (uQ led)).IsTuple l items:=hl1;obtain⟨ol,hol,hcl,nl,hdl⟩:=hl1;obtain⟨ocls,odict,odata,oslots⟩:=ol;simp only at hcl hdl;subst hcl;subst hdl;have hsls:=F.sub_tuple_set;have hslf:=F.sub_tuple_frozenset;have hne:(Wv "tuple" == Wv "dict")=false:=by decide
     unfold Ub.«set.__init__» noKeywords XE;generalize hPI:pyIter=PI;wp_walk;subst hPI;refine Kn.iter .T hl2 (Ro (wpAny_runValue (fin _ _ (by simp[hh]) (by simp) λh' tk z kp=>?_)));refine(show wpAny _ _ _ _ _ _ from RE (show wpAny _ _ (ret Tx) _ _ _ from RE ⟨rfl,h',tk,rfl,z,kp⟩))
   .cases r₂ with
    |error e=>exact hr₂
    |ok fl₂ =>
     cases fl₂ with
     |ret r =>
      obtain⟨rfl,h',tk,rfl,hz,hk'⟩:=hr₂
      repeat (any_goals (first|assumption|wp_step))
      exact q _ _ hz hk'
     |_=>exact hr₂.elim
  |_=>exact hr.elim
abbrev dG:List Nat->Nat->Nat
 |[],b=>b
 |k :: l,b=>dG l (bp b k)
def kP:∀(l:List Nat) (k b:Nat),dG (l++[k]) b=bp (dG l b) k
 |[],_,_=>rfl
 |j :: l,k,b=>kP l k (bp b j)
def gA:aH 0=[]:=by decide
def D4(led:Bool)(h:Heap)(a:Addr)(e:h.get? a=some (uQ led)):jX led h a 0:=by
 refine⟨by decide,#[],0,_,e,⟨by rw[gA];rfl,λi k hk=>by rw[gA] at hk;cases hk⟩,?_⟩;exact⟨by rw[gA];rfl,rfl,rfl,rfl,.inl ⟨rfl,by rw[gA];decide⟩⟩
def Im{items:List Rs}{ks:List Nat}{Q:Rs->RC->Prop}(hh:A.handled=none)(hl:s.heap.IsList l items.toArray)(hi:VN items (ks.map λk:Nat=>(k:Int)))(h8:∀k∈ks,k<8)
  (q:∀h' tk,jX (!iS w) h' s.heap.objs.size (dG ks 0)->(∀b o,b<s.heap.objs.size->s.heap.get? b=some o->h'.get? b=some o)->Q (.ref s.heap.objs.size) {s with heap:=h',toks:=tk}):wpAny (model prog w) A (call (.type "set") [.ref l]) Q E s:=by
 have li:items.length=ks.length:=by have:=VN.length hi;rw[Rm] at this;exact this
 refine zB .L (items:=items.toArray) hh hl (λi h=>jX (!iS w) h s.heap.objs.size (dG (ks.take i) 0)) (λh e _=>by simpa[dG] using D4 _ h _ e) (λi h h' z k=>z.keep λo e=>k _ o (Si (YB _)) e) (λA' i v s' Q' E' _ hlt hv z hq=>?_) (λh' tk z k=>q h' tk (by simpa[li] using z) k);have lt:i<ks.length:=by rw[<- li];simpa using hlt
 have hk:=h8 _ (Td lt)
 obtain⟨u,rfl⟩:∃u,v=.int ((ks[i]:Nat):Int) u:=by
  have:∀{vs:List Rs} {ns:List Int} (i:Nat),VN vs ns->∀v,vs[i]?=some v->∃n u,ns[i]?=some n/\v=.int n u:=by
   intro vs ns i h
   induction h generalizing i with
   |nil=>intro v e;cases e
   |cons n t r ih =>
    intro v e;cases i with
    |zero=>cases e;exact⟨n,t,rfl,rfl⟩
    |succ i=>exact ih i v e
  obtain⟨n,u,e1,e2⟩:=this i hi v (by simpa using hv);rw[Rt,Rn lt] at e1;cases e1;exact⟨u,e2⟩
 refine LL z hk λh' r tk sm z'=>?_
 refine hq r h' tk ?_ λb hb=>?_
 .show jX _ h' _ (dG (ks.take (i+1)) 0);rw[RP,Rn lt];show jX _ h' _ (dG (ks.take i++[ks[i]]) 0);rw[kP];exact z'
 .exact sm.2 b hb
end
namespace F7
def kH:entryFor table "set.__iter__"=some Ub.«frozenset.__iter__»:=entryFor_alias (id':="frozenset.__iter__") (by kernel_rfl) (by first|rfl|decide +kernel|(unfold Zbw;simp +decide [Zav])) (by decide +kernel) (by kernel_rfl)
def slot_next:Slot "set_iterator" "__next__" "set_iterator.__next__":=.of (owner:="set_iterator") (n:="__next__") (by rw[typeLookup_type,Y9];kernel_rfl) (by decide +kernel) (by decide +kernel) (by decide +kernel) (by first|exact .inl (by decide +kernel)|exact .inr (by decide +kernel)) (by rw[WV];kernel_rfl)
def entry_next:entryFor table "set_iterator.__next__"=some Ub.«set_iterator.__next__»:=entryFor_of_tree (by kernel_rfl)
def args_next(a:Rs):argsOk "set_iterator.__next__" ⟨[a],[]⟩:=by unfold argsOk;kernel_rfl
def pj:Slot "set_iterator" "__iter__" "set_iterator.__iter__":=.of (owner:="set_iterator") (n:="__iter__") (by rw[typeLookup_type,Y9];kernel_rfl) (by decide +kernel) (by decide +kernel) (by decide +kernel) (by first|exact .inl (by decide +kernel)|exact .inr (by decide +kernel)) (by rw[WV];kernel_rfl)
def xl:entryFor table "set_iterator.__iter__"=some Ub.«dict_keyiterator.__iter__»:=entryFor_alias (id':="dict_keyiterator.__iter__") (by kernel_rfl) (by first|rfl|decide +kernel|(unfold Zbw;simp +decide [Zav])) (by decide +kernel) (by kernel_rfl)
def CF(a:Rs):argsOk "set_iterator.__iter__" ⟨[a],[]⟩:=by unfold argsOk;kernel_rfl
end F7
abbrev O4 (h:Heap) (I S:Addr) (sl i n ep:Nat):Prop:=∃o,h.get? I=some o/\o.cls=.type "set_iterator"/\o.data=.fields #[.int (sl:Int) 0,.int (i:Int) 0,.ref S,.int (n:Int) 0,.int (ep:Int) 0]
abbrev xz (h:Heap) (S:Addr) (es:Array (Int×Rs)) (ep:Nat) (t:Uk):Prop:=h.get? S=some {cls:=.type "set",dict:=none,data:=.set es ep t,slots:=#[]}
section
variable{prog:RM}{w:R4}{A:SC}{E:Rs->RC->Prop}{s:RC}{S I:Addr}{es:Array (Int×Rs)}{ep:Nat}{t:Uk}
def Il{Q:Rs->RC->Prop} (m:xz s.heap S es ep t) (hf:t.fits es.size=true) (pl:t.plain=true) (q:Q (.ref s.heap.objs.size) {s with heap:=s.heap.push {cls:=.type "set_iterator",data:=.fields #[.int 0 0,.int 0 0,.ref S,.int (es.size:Int) 0,.int (ep:Int) 0]}}) :
  wpAny (model prog w) A (pyIter (.ref S)) Q E s:=by
 have ty:s.TypeIs (.ref S) "set":=⟨_,m,rfl⟩
 refine Yg ty F.slot_set_iter (Ud F.slot_set_iter ty F7.kH ?_ (F.args_set_iter_1 _));unfold Ub.«frozenset.__iter__»;refine Ro (Yi (a:=S) rfl ?_);unfold Ub.Frozenset.sizeOf;refine Ro (Ro (XJ m rfl hf (RE ?_)));rw[show setDrawn S=(do let x <- setState S;let b <- setsByText;return !b && (!x.2.2.plain && decide (x.1.size > 1))) from rfl];refine Ro (Ro (WY m rfl hf ?_));unfold setsByText;refine Ro (Ro (V7 (RE (RE ?_))));dsimp only;rw[pl,show(!(model prog w).w.params.followText "set-order" && (!true && decide (es.size > 1)))=false by simp,if_neg (by simp)];refine Ro (RE (Ro (wpAny_setEpoch_of m rfl hf ?_)));refine Ro (TK (RE ⟨_,rfl,"set_iterator",_,⟨_,Sb _ rfl,rfl⟩,F7.slot_next.lookup,?_⟩));simpa[rawInt] using q
def zy{Q:Option Rs->RC->Prop}(it:O4 s.heap I S sl i es.size ep)(m:xz s.heap S es ep t)(hf:t.fits es.size=true) :
  (∀v nx,(∀(R:Option (Rs×Nat)->RC->Prop) (E':Rs->RC->Prop),R (some (v,nx)) s->wpAny (model prog w) A.in1 (setNext S sl i ep) R E' s)->(∀h',O4 h' I S nx (i+1) es.size ep->UT I s.heap h'->Q (some v) {s with heap:=h'})->wpAny (model prog w) A (pyNext (.ref I)) Q E s) /\
  (A.handled=none->(∀(R:Option (Rs×Nat)->RC->Prop) (E':Rs->RC->Prop),R none s->wpAny (model prog w) A.in1 (setNext S sl i ep) R E' s)->(∀h',Za5 I s.heap h'->Q none {s with heap:=h'})->wpAny (model prog w) A (pyNext (.ref I)) Q E s):=by
 obtain⟨o,ho,oc,od⟩:=id it;have ty:s.TypeIs (.ref I) "set_iterator":=⟨_,ho,oc⟩
 constructor
 .intro v nx hn hq;unfold pyNext;refine Ro (Vm (Ut (name:=Vg "__next__") ty F7.slot_next (Ud F7.slot_next ty F7.entry_next ?_ (F7.args_next _))));unfold Ub.«set_iterator.__next__»;refine Ro (RE (Ro (XZ ho od ?_)));dsimp only;refine Ro (XJ m rfl hf ?_);rw[if_neg (by simp)];simp only[Su];refine Ro (hn _ _ ?_);dsimp only;refine Ro (Uv ho od (by simp) ?_);have od1:(SU (·.setIfInBounds 0 (rawInt (nx:Int))) o).data=.fields #[.int (nx:Int) 0,.int (i:Int) 0,.ref S,.int (es.size:Int) 0,.int (ep:Int) 0]:=by rw[Tz od];simp[rawInt]
  have ho1:(s.heap.update I (SU (·.setIfInBounds 0 (rawInt (nx:Int))))).get? I=some (SU (·.setIfInBounds 0 (rawInt (nx:Int))) o):=SQ _ ho (Uj (Tz od _));refine Ro (Uv (s:={s with heap:=s.heap.update I (SU (·.setIfInBounds 0 (rawInt (nx:Int))))}) ho1 od1 (by simp) ?_);have ho2:=SQ (SU (·.setIfInBounds 1 (rawInt ((i:Int)+1)))) ho1 (Uj (Tz od1 _));have k2:O4 ((s.heap.update I (SU (·.setIfInBounds 0 (rawInt (nx:Int))))).update I (SU (·.setIfInBounds 1 (rawInt ((i:Int)+1))))) I S nx (i+1) es.size ep:=⟨_,ho2,(VO ..).trans ((VO ..).trans oc),by rw[Tz od1];simp[rawInt]⟩
  exact RE ⟨_,rfl,RE (hq _ k2 ((Tq ..).trans (Tq ..)))⟩
 .intro hh hn hq;unfold pyNext;refine Ro (Vm (Ut (name:=Vg "__next__") ty F7.slot_next (Ud F7.slot_next ty F7.entry_next ?_ (F7.args_next _))));unfold Ub.«set_iterator.__next__»;refine Ro (RE (Ro (XZ ho od ?_)));dsimp only;refine Ro (XJ m rfl hf ?_);rw[if_neg (by simp)];simp only[Su];refine Ro (hn _ _ ?_);dsimp only;refine Ro (Uv ho od (by simp) ?_);show wpAny _ _ (newExc (.type "StopIteration") [] >>= _) _ _ _;refine Ro ?_;simp only[newExc,newTuple];refine Ro (TK ?_ (by size_fits));refine Ro (m:=firstArgMember _ _) (Yi (a:=Tx) (by simp only[firstArgMember];rfl) (TK ?_ (by size_fits)));simp only[raiseNew];refine Ro (ZH ?_);rw[show A.in1.handled=none from hh];refine Ro (RE (Za6 ?_));refine Ro (Xe (T:="StopIteration") (b:=true) ⟨_,Sb _ rfl,rfl⟩ Zh ?_);exact RE (hq _ (((Tq ..).extBut.push _).push _))
abbrev fC(w:R4)(S:Addr)(ep:Nat)(es:Array (Int×Rs)):Array (Int×Rs):=if iS w then pickOrder (w.params.setOrder S ep) es else es
abbrev slotAt(w:R4)(l:List Nat)(i:Nat):Nat:=if iS w then 0 else if i=0 then 0 else l.getD (i-1) 0+1
def Oq:∀b<256,∀i<9,(aH b).length<i\/U4 (aH b).toArray (if i=0 then 0 else (aH b).getD (i-1) 0+1)=i:=by decide +kernel
def kZ{α:Type}:∀(l:List α) (i:Nat) (h:i<l.length),(l[i] :: l.eraseIdx i).Perm l
 |x :: l,0,_=>Zbx _
 |x :: l,i+1,h=>by
  have h':i<l.length:=Nat.lt_of_succ_lt_succ h;exact(ZbN.swap x l[i] (l.eraseIdx i)).trans ((kZ l i h').cons x)
def Az{α:Type}(f:Nat->Nat):∀(n k:Nat) (left:List α) (out:Array α),n=left.length->(pickOrder.go f n k left out).toList.Perm (out.toList++left)
 |0,k,left,out,h=>by
  have:left=[]:=TW.mp h.symm
  subst this;show out.toList.Perm (out.toList++[]);rw[Up]
 |n+1,k,left,out,h=>by
  have lt:f k % left.length<left.length:=Nat.mod_lt _ (by lia);unfold pickOrder.go;rw[Rn lt];refine(Az f n (k+1) _ _ (by rw[Zn,if_pos lt];lia)).trans ?_;rw[Array.toList_push,Tf];refine ZbN.append_left _ ?_;exact kZ left _ lt
def nF{es:Array (Int×Rs)}:(fC w S ep es).toList.Perm es.toList:=by
 unfold fC;split
 .have:=Az (w.params.setOrder S ep) es.size 0 es.toList #[] (by simp)
  simpa[pickOrder] using this
 .exact Zbx _
def nB{es:Array (Int×Rs)}:(fC w S ep es).size=es.size:=by
 have:=(nF (w:=w) (S:=S) (ep:=ep) (es:=es)).length_eq
 simpa using this
def uR{b i:Nat}{R:Option (Rs×Nat)->RC->Prop}(m:xz s.heap S es ep t)(hb:b<256)(T:TR (!iS w) t b)(hr:ER es (aH b))(hi:i<=es.size)(h:R ((fC w S ep es)[i]?.map λe=>(e.2,slotAt w (aH b) (i+1))) s) :
  wpAny (model prog w) A (setNext S (slotAt w (aH b) i) i ep) R E' s:=by
 have hf:=T.fits hb hr.1;have l8:=fh b hb;unfold setNext;refine Ro (WY m rfl hf ?_);dsimp only;unfold setsByText;refine Ro (Ro (V7 (RE ?_)));cases bt:iS w with
 |true =>
  have bt':(model prog w).w.params.followText "set-order"=true:=bt;dsimp only;rw[bt',if_pos rfl,if_neg (by simp)];unfold setWalk;refine Ro (Ro (WY m rfl hf ?_));dsimp only;unfold setsByText;refine Ro (Ro (V7 (RE ?_)));dsimp only;rw[bt',if_pos rfl];refine Ro (V7 (RE (RE ?_)));unfold fC slotAt at h;rw[bt] at h;unfold slotAt;rw[bt];exact h
 |false =>
  have bt':(model prog w).w.params.followText "set-order"=false:=bt;dsimp only;rw[bt',if_neg (by simp)];have sl:slotAt w (aH b) i=if i=0 then 0 else (aH b).getD (i-1) 0+1:=by unfold slotAt;rw[bt];rfl
  have sl2:slotAt w (aH b) (i+1)=(aH b).getD i 0+1:=by unfold slotAt;rw[bt];rfl
  have bl:U4 t.place (slotAt w (aH b) i)=i:=by
   rw[sl,T.place];rcases Oq b hb i (by have:=hr.1;lia) with z|z
   .have:=hr.1;lia
   .exact z
  have eo:fC w S ep es=es:=by unfold fC;rw[bt];rfl
  rw[eo,sl2] at h;split
  .rename_i z;have z2:(!t.plain && decide (es.size > 1))=true:=z;rw[T.plain] at z2;cases z2
  .refine Ro (show wpAny _ _ (if (!t.led && !es.isEmpty)=true then unsupported "set:maker-not-led" else pure ()) _ _ _ from ?_);rw[T.led,bt,if_neg (by simp)];refine RE (RE ?_);rw[bl,T.place];by_cases li:i<es.size
   .have l2:i<(aH b).length:=by rw[<- hr.1];exact li
    obtain⟨tk,et⟩:=hr.2 i _ (Rn l2);rw[et] at h ⊢;rw[VL,Rn l2];rw[Rr,Rn l2] at h;exact h
   .have en:es[i]?=none:=UW (by lia);rw[en] at h ⊢;exact h
def DZ(hh:A.handled=none)(I S:Addr)(ne:S≠I){b:Nat}(hb:b<256)(T:TR (!iS w) t b)(hr:ER es (aH b)):Za1 prog w A I [I,S] [I] es.size (λi v=>∃e,(fC w S ep es)[i]?=some e/\v=e.2) (λi h=>O4 h I S (slotAt w (aH b) i) i es.size ep/\xz h S es ep t) where
 sub:=λb hb=>by rw[RL.mp hb];simp
 frame:=λ_ _ _ st hk=>⟨by obtain⟨o,e,r⟩:=st.1;exact⟨o,hk I (by simp) o e,r⟩,hk S (by simp) _ st.2⟩
 item:=λi s Q E hi st hq=>by
  have lo:(fC w S ep es).size=es.size:=nB;have ei:(fC w S ep es)[i]?=some (fC w S ep es)[i]:=by simp[lo,hi]
  refine(zy st.1 st.2 (T.fits hb hr.1)).1 (fC w S ep es)[i].2 (slotAt w (aH b) (i+1)) (λR E' h=>uR st.2 hb T hr (UC hi) (by rw[ei];exact h)) λh' k1 k2=>?_
  exact hq _ h' s.toks ⟨_,ei,rfl⟩ ⟨k1,k2.extBut S _ ne st.2⟩ λb o hb e=>k2.extBut b o (λz=>hb (by simp[z])) e
 done:=λs Q E st hq=>(zy st.1 st.2 (T.fits hb hr.1)).2 hh (λR E' h=>uR st.2 hb T hr (RB _) (by rw[show(fC w S ep es)[es.size]?=none from UW (by rw[nB];exact RB _)];exact h)) λh' k=>hq h' s.toks λb o hb e=>k b o (λz=>hb (by simp[z])) e
 self:=λ_ s _ _ st hq=>by
  obtain⟨o,ho,oc,od⟩:=st.1;have ty:s.TypeIs (.ref I) "set_iterator":=⟨_,ho,oc⟩
  refine Yg ty F7.pj (Ud F7.pj ty F7.xl (show wpAny _ _ (ret (.ref I)) _ _ s from RE ⟨_,rfl,"set_iterator",_,ty,F7.slot_next.lookup,hq⟩) (F7.CF _))
def FE{Q:Bool->RC->Prop} (hT:s.TypeIs (.ref r) "set") (h:Q false s):wpAny (model prog w) A (XN (.ref r)) Q E s:=by
 unfold XN;refine Ro (wpAny_specialOf hT PySem.F.slot_set_len.lookup ?_);generalize hid:("set.__len__" : String)=id0;wp_delta;rw[show splitId id0=some ("set","__len__") from by subst hid;decide +kernel];subst hid;refine Ro (Xe (T:="set") (b:=true) hT (by rw[WV];kernel_rfl) ?_);refine wpAny_ite_split (λhab=>absurd hab (by decide)) (λ_=>?_);refine wpAny_ite_split (λ_=>?_) (λhab=>absurd (by decide +kernel) hab);refine Ro (wpAny_typeOf hT ?_);exact RE h
def LK{b:Nat} (hb:b<256) (T:TR (!iS w) t b) (hr:ER es (aH b)):Zbu prog w "set" S S es.size (λi v=>∃e,(fC w S ep es)[i]?=some e/\v=e.2) (λh=>xz h S es ep t) where
 type:=λ_ m=>⟨_,m,rfl⟩
 there:=λ_ m=>⟨RV m,RV m⟩
 keep:=λ_ _ m hk=>hk S (.inl rfl) _ m
 notList:=by decide
 notTuple:=by decide
 hint:=λ_ _ _ _ m q=>FE ⟨_,m,rfl⟩ q
 iter:=λ_ _ hh m=>⟨_,_,(λ_ _ q=>Il m (T.fits hb hr.1) T.plain q),DZ hh _ S (Si (RV m)) hb T hr,⟨⟨_,Sb _ rfl,rfl,by unfold slotAt;simp⟩,Rv _ m⟩⟩
def ints_of:∀{vs:List Rs} {ns:List Int},vs.length=ns.length->(∀(j:Nat) (v:Rs),vs[j]?=some v->∃n u,ns[j]?=some n/\v=VH n u)->VN vs ns
 |[],[],_,_=>.nil
 |[],_ :: _,h,_=>by cases h
 |_ :: _,[],h,_=>by cases h
 |v :: vs,n :: ns,h,k=>by
  obtain⟨n',u,e1,rfl⟩:=k 0 v rfl;cases e1;exact .cons n u (ints_of (by simpa using h) λj v hj=>k (j+1) v hj)
def J4:∀b<256,((aH b).map λk:Nat=>(k:Int)).Pairwise (· < ·):=by decide +kernel
def jg:∀{a b:List Int},a.Perm b->a.Pairwise (·<=·)->b.Pairwise (· < ·)->a=b
 |[],b,p,_,_=>p.nil_eq
 |x :: a,[],p,_,_=>by have:=p.length_eq;cases this
 |x :: a,y :: b,p,h1,h2=>by
  obtain⟨x1,x2⟩:=WC.mp h1;obtain⟨y1,y2⟩:=WC.mp h2
  have e:x=y:=by
   have m1:y∈x :: a:=p.mem_iff.mpr Ru;have m2:x∈y :: b:=p.mem_iff.mp Ru;rcases RW.mp m1 with e|m1
   .exact e.symm
   .rcases RW.mp m2 with e|m2
    .exact e
    .have:=x1 y m1
     have:=y1 x m2
     lia
  subst e;rw[jg (ZbN.cons_inv p) x2 y2]
def zx{Q:Rs->RC->Prop} (hh:A.handled=none) (m:jX (!iS w) s.heap S b) (q:∀(h1 h':Heap) (tk:Nat) (D:Addr) (vs:List Rs) (c:Nat),(∀b o,s.heap.get? b=some o->h1.get? b=some o)->(∀b o,h1.get? b=some o->h'.get? b=some o)->h1.objs.size<=D->h'.get? D=some (seqObj "list" (List.toArray vs) c)->VN vs ((aH b).map λk:Nat=>(k:Int))->Q (.ref D) {s with heap:=h',toks:=tk}) :
  wpAny (model prog w) A (call (.builtin "sorted") [.ref S]) Q E s:=by
 obtain⟨es,ep,t,e,hr,T⟩:=m.at_;have l8:=fh b m.b8;have raw:xz s.heap S es ep t:=e;refine Calls.call_function_entry kind_sorted plain_sorted entry_sorted (args_sorted1 _) ?_;unfold Ub.«sorted»;refine Ro (m:=checkCount "sorted" 1 1 _) (RE ?_);refine Ro (PySem.W.kdu_collect (A:=A.in1) (LK m.b8 T hr) hh raw (by rw[hr.1,UY];lia) λh' tk acc hk hacc=>?_);have la:acc.size=es.size:=hacc.1;have lo:(fC w S ep es).size=es.size:=nB
 have ent:∀e∈es.toList,∃(k:Int) (tk:Tok),e=(k,VH k tk):=λe he=>by
  obtain⟨i,li,ei⟩:=Tc.mp he;have l2:i<(aH b).length:=by rw[<- hr.1];simpa using li
  obtain⟨tk,et⟩:=hr.2 i _ (Rn l2);have e2:es.toList[i]?=some e:=by rw[Rn li,ei]
  rw[Sk,et] at e2;cases e2;exact⟨_,tk,rfl⟩
 have hs:es.toList.map (·.1)=(aH b).map λk:Nat=>(k:Int):=by
  apply Yj;intro i;rw[Rt,Rt,Sk];by_cases li:i<(aH b).length
  .obtain⟨tk,et⟩:=hr.2 i _ (Rn li);rw[et,Rn li];rfl
  .rw[UW (by rw[hr.1];lia),Sw (by lia)];rfl
 have hI:VN acc.toList ((fC w S ep es).toList.map (·.1)):=ints_of (by rw[Sj,Rm,Sj,la,lo]) λj v hj=>by
  rw[Sk] at hj;obtain⟨e,e1,e2⟩:=hacc.2 j v hj;obtain⟨k,tk,rfl⟩:=ent e (nF.mem_iff.mp (Ry (by rw[Sk];exact e1)));exact⟨_,tk,by rw[Rt,Sk,e1];rfl,e2⟩
 have l64:acc.toList.length<64:=by rw[Sj,la,hr.1];lia
 refine Ro (wpAny_newList ?_ (by rw[UY];lia));have hoL:(h'.push (seqObj "list" acc.toList.toArray 0)).get? h'.objs.size=some (seqObj "list" acc.toList.toArray 0):=Sb _ rfl;refine Ro (TM (Ud (s:={s with heap:=h'.push (seqObj "list" acc.toList.toArray 0),toks:=tk}) slot_list_sort ⟨_,hoL,rfl⟩ entry_list_sort (list_sort_tree hoL hI l64 λout ns' i' p' pw=>⟨_,rfl,?_⟩) (args_list_sort _)));have en:ns'=(aH b).map λk:Nat=>(k:Int):=jg (p'.trans (by rw[<- hs];exact nF.map _)) pw (J4 b m.b8)
 subst en
 have keep2:∀c o,c≠h'.objs.size->(h'.push (seqObj "list" acc.toList.toArray 0)).get? c=some o->(sortedHeap (h'.push (seqObj "list" acc.toList.toArray 0)) h'.objs.size acc.toList out).get? c=some o:=λc o hc e2=>by
  unfold sortedHeap;rw[Wg _ _ _ _ hc];exact Rv _ (Rv _ (by rw[Wg _ _ _ _ hc];exact e2))
 obtain⟨e1,ho1⟩:∃e1,((h'.push (seqObj "list" acc.toList.toArray 0)).update h'.objs.size (Wy λ_=>(#[]:Array Rs))).get? h'.objs.size=some (seqObj "list" #[] e1):=⟨_,get?_update_seq hoL λ_=>#[]⟩
 obtain⟨c2,ho2⟩:∃c2,(sortedHeap (h'.push (seqObj "list" acc.toList.toArray 0)) h'.objs.size acc.toList out).get? h'.objs.size=some (seqObj "list" out c2):=⟨_,get?_update_seq (Rv _ (Rv _ ho1)) λ_=>out⟩
 exact RE ⟨_,rfl,q h' _ tk h'.objs.size out.toList c2 hk (λc o e2=>keep2 c o (Si (RV e2)) (Rv _ e2)) (RB _) (by simpa using ho2) i'⟩
end
open PySem.W (Dat)
def kO:∀(ks:List Nat) (b:Nat),b<256->(∀k∈ks,k<8)->∀j,j∈aH (dG ks b)↔j∈aH b\/j∈ks
 |[],b,_,_,j=>by simp[dG]
 |k :: ks,b,h,g,j=>by
  have hk:=g k Ru;rw[dG,kO ks (bp b k) (ou b h k hk) (λj hj=>g j (RA _ hj)) j,RW]
  have:j∈aH (bp b k)↔j∈aH b\/j=k:=by
   by_cases j8:j<8
   .have:=Fz b h k hk j j8
    rw[UP] at this;simpa using this
   .exact⟨λz=>absurd (tG _ _ z) j8,λz=>by
     rcases z with z|z
     .exact absurd (tG _ _ z) j8
     .exact absurd (z ▸ hk) j8⟩
  rw[this];constructor
  .rintro((z|z)|z)
   .exact .inl z
   .exact .inr (.inl z)
   .exact .inr (.inr z)
  .rintro(z|z|z)
   .exact .inl (.inl z)
   .exact .inl (.inr z)
   .exact .inr z
abbrev cR(ks:List Nat):List Nat:=(RQ 8).filter λk=>ks.contains k
def zC{ks:List Nat}(g:∀k∈ks,k<8):aH (dG ks 0)=cR ks:=by
 unfold cR;have e:=kO ks 0 (by decide) g;unfold aH at e ⊢;refine Zaw λk hk=>?_
 have:=e k
 rw[SG] at this;rw[UP,TB];refine⟨λz=>?_,λz=>(this.mpr (.inr z)).2⟩;rcases this.mp ⟨hk,z⟩ with y|y
 .rw[SG] at y;simp at y
 .exact y
def ux{vs:List Rs}(h:VN vs ns):Vals (ns.map V.int) vs:=by
 induction h with
 |nil=>exact .nil
 |cons n t r ih=>exact .cons ⟨t,rfl⟩ ih
section
variable{X:Cx}
abbrev uV(K:Fg):V->Hp->VK->Prop:=λx H Q=>∃(a:Addr) (ks:List Nat),x=.ref a/\SqL K H a (ks.map λk:Nat=>.int (k:Int))/\(∀k∈ks,k<8)/\∀l,H l=none->Q (.ref l) (upd H l (.lst ((cR ks).map λk:Nat=>.int (k:Int))))
abbrev mf(K:Fg)(te:TE):TE:=λσ H Q=>te σ H λx H1=>uV K x H1 Q
def wL{p p2 pos pos2:Pos} (hc:X.calm=true) (hgl:Gl X "sorted") (hml:X.mg "sorted"=none) (hgs:Gl X "set") (hms:X.mg "set"=none) (he:PE X e te)
  (hs:starEach [e] X.env=[(false,eval e X.env)]:=by rfl) (hs2:starEach [Expr.Call (.Name "set" p2) [e] [] pos2] X.env=[(false,eval (.Call (.Name "set" p2) [e] [] pos2) X.env)]:=by rfl) :
  PE X (.Call (.Name "sorted" p) [.Call (.Name "set" p2) [e] [] pos2] [] pos) (mf X.K te):=by
 intro ξ s σ H Q I h;refine TX (eO I hgl hml CB ?_);refine Vv ?_ hs2 rfl;rw[hs2];refine(show wpAny _ _ (spliced ((false,eval (.Call (.Name "set" p2) [e] [] pos2) X.env) :: backTo pos [])) _ _ s from U1 ?_);refine TX (eO I hgs hms Ot ?_);refine Tb ?_ hs rfl;rw[hs];refine(show wpAny _ _ (spliced ((false,eval e X.env) :: backTo pos2 [])) _ _ s from U1 (a5 (he ξ s σ H _ I h) λu s1 ⟨x,H1,I1,r1,q1⟩=>Ve ?_));obtain⟨a,ks,rfl,hq,g8,q⟩:=q1;cases r1;obtain⟨gV,rv,pl,_⟩:=I1.list hq;have hl:s1.heap.IsList a gV.toArray:=pl.isList;have hi:VN gV (ks.map λk:Nat=>(k:Int)):=intsAre_of (by rw[Tv];exact rv);have hh:=I1.ok.hd hc;refine Im hh hl hi g8 λh' tk sm kp=>Ve ?_
 refine zx (s:={s1 with heap:=h',toks:=tk}) hh sm λh1 h2 tk2 D vs c k1 k2 lD eD iD=>?_
 have keep:∀b o,s1.heap.get? b=some o->h2.get? b=some o:=λb o e=>k2 b o (k1 b o (kp b o (RV e) e))
 rw[zC g8] at iD;have l8:(cR ks).length<=8:=by unfold cR;exact TC _ _
 have lS:s1.heap.objs.size<=D:=by
  obtain⟨es,ep,t,e,_⟩:=sm.at_
  have:=RV (k1 _ _ e)
  exact RN (UC this) lD
 refine⟨.ref D,_,I1.laid (t':=tk2) (o:=.lst ((cR ks).map λk:Nat=>.int (k:Int))) keep lS ⟨?_,vs,c,?_,eD⟩,rfl,q D (I1.hok.fresh lS)⟩
 .rw[Rm,UY];lia
 .have:=ux iD
  rw[Tv] at this;exact this
abbrev gT(te:TE):TE:=λσ H Q=>te σ H λx H1=>∃n:Nat,x=.int (n:Int)/\n<=1000/\∀l,H1 l=none->Q (.ref l) (upd H1 l (.lst ((RQ n).map λk:Nat=>.int (k:Int))))
def pY{p p2 pos pos2:Pos} (hc:X.calm=true) (hgl:Gl X "list") (hml:X.mg "list"=none) (hgs:Gl X "range") (hms:X.mg "range"=none) (he:PE X e te)
  (hs:starEach [e] X.env=[(false,eval e X.env)]:=by rfl) (hs2:starEach [Expr.Call (.Name "range" p2) [e] [] pos2] X.env=[(false,eval (.Call (.Name "range" p2) [e] [] pos2) X.env)]:=by rfl) :
  PE X (.Call (.Name "list" p) [.Call (.Name "range" p2) [e] [] pos2] [] pos) (gT te):=by
 intro ξ s σ H Q I h;refine TX (eO I hgl hml CC ?_);refine Tb ?_ hs2 rfl;rw[hs2];refine(show wpAny _ _ (spliced ((false,eval (.Call (.Name "range" p2) [e] [] pos2) X.env) :: backTo pos [])) _ _ s from U1 ?_);refine TX (eO I hgs hms boot_range ?_);refine Tb ?_ hs rfl;rw[hs];refine(show wpAny _ _ (spliced ((false,eval e X.env) :: backTo pos2 [])) _ _ s from U1 (a5 (he ξ s σ H _ I h) λu s1 ⟨x,H1,I1,r1,q1⟩=>Ve ?_));obtain⟨n,rfl,hn,q⟩:=q1;obtain⟨t,rfl⟩:=r1;refine call_range_1 (Ve ?_);refine call_list_range (n:=n) (I1.ok.hd hc) (IsRange.new ..) (small_one (by lia) (by lia) (by lia) (by lia)) (by rw[rangeSize_nat];lia) (by lia) λh' tk acc c kp ha hit=>?_
 have hsz:(s1.heap.push {cls:=.type "range",data:=.fields #[.int 0 s1.toks,.int (n:Int) t,.int 1 (s1.toks+1)]}).objs.size=s1.heap.objs.size+1:=size_push' _ _
 have hi:VN acc.toList ((RQ n).map λk:Nat=>(k:Int)):=ints_of (by rw[Sj,Rm,R5];exact hit.1) λj v hj=>by
  rw[Sk] at hj;obtain⟨u,e2⟩:=hit.2 j v hj
  have lj:j<n:=by
   have:=(TY.mp hj).1
   rw[hit.1] at this;exact this
  exact⟨_,u,by rw[Rt,SM lj];rfl,by rw[e2];simp⟩
 have lS:s1.heap.objs.size<=(s1.heap.push {cls:=.type "range",data:=.fields #[.int 0 s1.toks,.int (n:Int) t,.int 1 (s1.toks+1)]}).objs.size:=by rw[hsz];exact WF _
 refine⟨.ref _,_,I1.laid (t':=tk) (o:=.lst ((RQ n).map λk:Nat=>.int (k:Int))) (λb o e=>kp b o (Rv _ e)) lS ⟨?_,acc.toList,c,?_,by rw[Xs];exact ha⟩,rfl,q _ (I1.hok.fresh lS)⟩
 .rw[Rm,R5,UY];lia
 .have:=ux hi
  rw[Tv] at this;exact this
abbrev Pf:List V->Hp->VK->Prop:=λxs H Q=>∃i j,xs=[.int i,.int j]/\Q (.int (if j > i then j else i)) H
end
abbrev Mg:List V->Hp->VK->Prop:=λxs H Q=>∃a de,xs=[V.ref a]/\H a=some (.dK de)/\Q (.int de.length) H
def IA{k:ba}(h:n_ k v=true):RelV (kV k) v:=by
 cases k with
 |inl i =>
  cases v <;> simp[n_,Uz] at h
  subst h;exact⟨_,rfl⟩
 |inr x =>
  cases v <;> simp[n_,ZE] at h
  subst h;exact⟨_,rfl⟩
def qF{P:RM}{w:R4}:∀{es:List XR} {vs:List (ba×Rs)},Pairs (bv P w) es vs->Vals (vs.map λkv=>kV kv.1) (es.map λe=>e.key)
 |_,_,.nil=>.nil
 |_,_,.cons h _ r=>.cons (IA h) (qF r)
def pairs_len{P:RM}{w:R4}:∀{es:List XR} {vs:List (ba×Rs)},Pairs (bv P w) es vs->es.length=vs.length
 |_,_,.nil=>rfl
 |_,_,.cons _ _ r=>congrArg (· + 1) (pairs_len r)
abbrev Af:List V->Hp->VK->Prop:=λxs H Q=>∃a de,xs=[.ref a]/\H a=some (.dK de)/\∀l:Addr,H l=none->Q (.ref l) (upd H l (.lst (de.map λkv=>kV kv.1)))
def t9{X:Cx} (hc:X.calm=true):fF X (.type "list") Af:=by
 intro ξ s σ H xs us Q I r h;obtain⟨a,de,rfl,ha,q⟩:=h;obtain⟨u,rfl,ru⟩:=vals1 r;cases ru;obtain⟨z,lo,vs,kv,o,es,ep,ho,ex,dt,_,pr,_⟩:=KI I.hok ha
 have ek:(de.map λkv=>kV kv.1)=vs.map λkv=>kV kv.1:=by
  have:=congrArg (ZbO kV) kv.keys
  rw[Tv,Tv] at this;exact this
 have lk:de.length=vs.length:=by have:=congrArg Ue ek;rwa [Rm,Rm] at this
 have sz:es.size=de.length:=by rw[<- Sj,pairs_len pr,lk]
 refine ZaT (Ac (es:=es) (ep:=ep) lo) (I.ok.hd hc) ⟨o,ho,ex,dt⟩ (by rw[sz];exact z) λh' tk acc c kp hl hit=>?_
 have acc_eq:acc.toList=es.toList.map λe=>e.key:=by
  refine Yj λj=>?_
  by_cases lt:j<es.size
  .have hj:j<acc.toList.length:=by rw[Sj];rw[hit.1];exact lt
   have e1:acc.toList[j]?=some acc.toList[j]:=Rn hj;obtain⟨e,ee,ev⟩:=hit.2 j acc.toList[j] (by rw[<- Sk];exact e1);rw[e1,ev,Rt,Sk,ee];rfl
  .rw[Sw (by rw[Sj,hit.1];lia),Sw];rw[Rm,Sj];lia
 have vals:Vals (de.map λkv=>kV kv.1) acc.toList:=by
  rw[acc_eq,ek];exact qF pr
 refine⟨.ref s.heap.objs.size,_,I.laid (t':=tk) kp (RB _) (show bB X.prog X.w _ h' _ (.lst (de.map λkv=>kV kv.1)) from⟨?_,acc.toList,c,vals,by rw[Xs];exact hl⟩),rfl,q _ (I.hok.fresh (RB _))⟩;rw[Rm];exact z
open PySem.Builtin.Str (occurrences lastOccurrence strSub subAt partsBetween)
open PySem PySem.Spec PyProof.Rows PySem.W
abbrev Kt(xs:List V)(i:Nat)(y:V):List V:=xs.take i++y :: xs.drop i
abbrev Ag:V->List V->Hp->VK->Prop:=λx vs H Q=>∃l xs y,∃i:Int,x=.ref l/\vs=[.int i,y]/\H l=some (.lst xs)/\0<=i/\i<=xs.length/\xs.length<1000/\Q .non (upd H l (.lst (Kt xs i.toNat y)))
def xP{vs:List V}(r:Vals vs us)(i:Nat):Vals (vs.take i) (us.take i):=by
 induction r generalizing i with
 |nil=>rw[ZK,ZK];exact .nil
 |cons a b ih=>cases i with
  |zero=>exact .nil
  |succ n=>exact .cons a (ih n)
def xQ{vs:List V}(r:Vals vs us)(i:Nat):Vals (vs.drop i) (us.drop i):=by
 induction r generalizing i with
 |nil=>rw[ZbI,ZbI];exact .nil
 |cons a b ih=>cases i with
  |zero=>exact .cons a b
  |succ n=>exact ih n
def AW:ON X "list.insert" Ag:=by
 intro ξ s σ H x vs v us Q I rx rv h;obtain⟨l,xs,y,i,rfl,rfl,hH,h0,hi,hz,q⟩:=h;cases rx;obtain⟨u,u2,rfl,ru,ru2⟩:=vals2 rv;obtain⟨t,rfl⟩:=(show ∃t,u=VH i t from ru)
 obtain⟨z,gV,n,r,hl,e⟩:=I.lstM hH
 have fits:X6 i=true:=by
  unfold X6;rw[V5,decide_eq_true_eq,decide_eq_true_eq];constructor <;> lia
 have zz:gV.toArray.size<=sizeLine:=by rw[RZ,<- hl];exact z
 refine Xa F.slot_list_insert ⟨_,e,rfl⟩ F.entry_list_insert (F.args_list_insert_3 _ _ _) (PySem.AutoSeq1.list_insert_list_int_val_1 l gV.toArray n i t u2 (by rw[fits];decide) zz) ⟨e,?_⟩;refine⟨.non,_,I.lset (its':=gV.take i.toNat++u2 :: gV.drop i.toNat) hH e ?_ ((xP r _).append (.cons ru2 (xQ r _))) ?_,rfl,q⟩
 .have hk:(if i<0 then (i+(gV.toArray.size:Int)).toNat else min i.toNat gV.toArray.size)=i.toNat:=by
   rw[if_neg (by lia),RZ];lia
  show(gV.toArray.extract 0 (if i<0 then (i+(gV.toArray.size:Int)).toNat else min i.toNat gV.toArray.size)).push u2++gV.toArray.extract (if i<0 then (i+(gV.toArray.size:Int)).toNat else min i.toNat gV.toArray.size)=_;rw[hk,kl_ins_eq]
 .rw[RF,Sn,RT,Ts]
  have:(1001:Nat)<=sizeLine:=by decide
  lia
end L2
namespace L2
open PySem PySem.Spec PyProof.Rows
open PySem.Builtin.Str (strSub subAt occurrences)
def oV.of{sc scope:Scope}{N M ys:List Str}(h:decide (scope.kind=.function/\(∀y∈scope.names,y.2≠.cell)/\(∀y∈scope.names,y.2=.local->scope.names.lookup y.1=some .local)/\(∀y∈ys,scope.names.lookup y=some .local)/\(ys++M).Nodup/\M.length=N.length/\(∀p∈M.zip N,p.1=p.2\/(Eh scope sc).lookup p.1=none)/\(∀y∈M,(Eh scope sc).lookup y≠some .local)/\∀n∈scope.names,n.2=.free->sc.names.lookup n.1=some .cell)=true):oV sc N M ys scope:=by
 obtain⟨a,b,c,d,e,f,g,i,j⟩:=of_decide_eq_true h;exact⟨a,b,c,d,e,f,g,i,j⟩
abbrev Q0:Expr->List Str
 |.Name x _=>[x]
 |.Tuple es _ _=>es.map λe=>match e with|.Name x _=>x|_=>VI
 |_=>[]
section
variable{X:Cx}{x:Str}{scope:Scope}{elt iter tg cn:Expr}{pos py sp:Pos}{wi:TI}{g:TG}{tc:TT}{te:TE}{n i:Nat}{y:Str}
abbrev Rc:=@MB X x X.N scope
abbrev Q7:=@Pk X x X.N scope
abbrev Ra:=@My X scope elt iter tg pos wi g te n (Q0 tg) X.N
abbrev Rb:=@MA X scope elt iter tg cn pos wi g tc te n (Q0 tg) X.N
end
def qq{x:Int}(h:x.natAbs<2 ^ 13500):XF x y=false:=by
 unfold XF;by_cases z:x=0
 .subst z;simp
 .have l:x.natAbs.log2<13500:=(Ye (by lia)).mpr h;have e:(x == 0)=false:=by simp[z]
  simp only[e];simp;intro _;lia
abbrev OV(i j:Int):Prop:=j≠0/\i.natAbs<2 ^ 13500
def E7:fu X (binaryOp .FloorDiv) (rI OV λi j=>.int (i.fdiv j)):=GQ λ_ _ _ _ _ _ _ hc q=>Zab hc.1 q (.inl (qq hc.2))
nonrec abbrev wK:R2:=rI OV λi j=>.int (i.fdiv j)
section
variable{X:Cx}{k:Nat}{ps ps2:List Str}{sp sp2:Sp}{fx fx2 v xn xy:Str}{Dv:Addr}{n y:Nat}{fp cp ap fp2 cp2 ap2 vp p1 p2 p3 hp pos ip:Pos}{c e e2:Expr}{es es2:List Expr}{tc:TT}{t t2:TA}
abbrev HZ(K:Fg)(tc:TT)(sp sp2:Sp)(Dv:Addr)(n y:Nat)(t t2:TA):TS:=λD σ H=>tc σ H λd H1=>if d=true then t σ H1 λvs H2=>sp (vs++[]) H2 (λ_ H3=>D.nx σ H3) (qQ K Dv n y D σ) else t2 σ H1 λvs H2=>sp2 (vs++[]) H2 (λ_ H3=>D.nx σ H3) (qQ K Dv n y D σ)
def Jr(hc:PT X.nox c tc)(F:FnC X.prog X.w X.K X.mg X.base (iV X.prog X.w) k fx ps sp)(F2:FnC X.prog X.w X.K X.mg X.base (iV X.prog X.w) k fx2 ps2 sp2)(hr:Room k X.A)(o:ia X)(hgf:Gl X fx)(hgf2:Gl X fx2)(ha:PA X.nox (e :: es) t)(ha2:PA X.nox (e2 :: es2) t2)
  (hg:Gl X v) (V:Gj X.K X.mg v Dv) (hN:X.N.Nodup) (hn:X.N[n]?=some xn) (hy:X.N[y]?=some xy) (ln:X.env.scope.names.lookup xn=some .local) (ly:X.env.scope.names.lookup xy=some .local)
  (hnd:(xn == ("__debug__":Str))=false:=by decide) (hnc:(xn == ("__classdict__":Str))=false:=by decide) (hsw:swapsWith (.Name xn p2) (some (.Name xy p1)) p3.line X.env=pure false:=by rfl)
  (hvd:(v == ("__debug__":Str))=false:=by decide) (hfd:(fx == ("__debug__":Str))=false:=by decide) (hfd2:(fx2 == ("__debug__":Str))=false:=by decide) (he:starEach (e :: es) X.env=(false,eval e X.env) :: starEach es X.env:=by rfl) (hpl:(backTo cp (starEach es X.env)).any (·.1)=false:=by rfl)
  (he2:starEach (e2 :: es2) X.env=(false,eval e2 X.env) :: starEach es2 X.env:=by rfl) (hpl2:(backTo cp2 (starEach es2 X.env)).any (·.1)=false:=by rfl)
  (hse:swapsWith (.Call (.Name fx fp) (e :: es) [] cp) none ap.line X.env=pure false:=by rfl) (hse2:swapsWith (.Call (.Name fx2 fp2) (e2 :: es2) [] cp2) none ap2.line X.env=pure false:=by rfl) :
  PS X (.Try [.If c [.Expr (.Call (.Name fx fp) (e :: es) [] cp) ap] [.Expr (.Call (.Name fx2 fp2) (e2 :: es2) [] cp2) ap2] ip] [.ExceptHandler (some (.Name v vp)) (some xn) [.Assign [.Name xy p1] (.Name xn p2) p3] hp] [] [] pos) (HZ X.K tc sp sp2 Dv n y t t2):=by
 intro ξ s σ H D I h;refine wpAny_Try_except (V2 (wpAny_If (SW (hc ξ s σ H _ (I.wish λ_ _=>False) h) (λd s1 ω=>?_) λ_ _ z=>z.elim)));obtain⟨H1,I1,q1⟩:=ω;have J:=I1.fG;cases d with
 |true=>exact V2 (Zb (SW (uA (D:=D) F hr o hgf ha hg V hN hn hy ln ly hnd hnc hsw hvd hfd he hpl J q1) (by rintro u s1 ⟨x,H2,I2,r,q⟩;exact Uo (Uo (Uo ⟨_,H2,I2,q⟩))) λ_ _ z=>z) J.quiet hse)
 |false=>exact V2 (Zb (SW (uA (D:=D) F2 hr o hgf2 ha2 hg V hN hn hy ln ly hnd hnc hsw hvd hfd2 he2 hpl2 J q1) (by rintro u s1 ⟨x,H2,I2,r,q⟩;exact Uo (Uo (Uo ⟨_,H2,I2,q⟩))) λ_ _ z=>z) J.quiet hse2)
end
end L2
open L2
local macro_rules | `(tactic| fail "z")=>`(tactic| first
 |(show(0:Int)<_;omega)
 |(unfold Lb;omega)
 |(unfold CMul;omega)
 |exact⟨by decide,by decide,by decide⟩)
local macro_rules | `(tactic| fail "1")=>`(tactic| first
 |(with_reducible first|apply PX|apply NQ|apply Bt)
 |((with_reducible refine' w4 ?k1 ?_);(case k1=>exact rfl))
 |(with_reducible first|apply Re|apply P9|apply P3|apply Qk|apply P_|apply Qh|apply Nq|apply PU|apply Qp|apply P1|apply NC|apply Kk|apply NB|apply Qq|apply P7|apply NR|apply P6|apply Nz|apply Qi|apply Kq|apply Ft|apply NM|apply NP|apply Qm|apply PR|apply Qa|apply PQ|apply Nw|apply PV|apply Fs|apply Ny|apply Qf|apply NK|apply Km|apply Ko|apply NJ|apply NL|apply Fu|apply Kl|apply NH|apply Qc|apply Qb|apply PN|apply Qe|apply NA|apply Qj|apply NO|apply Nt|apply Ki|apply NF|apply Qo|apply Qn|apply Ql|apply Kj|apply NG|apply NE|apply tM|apply tN|apply Kg|apply Kh)
 |((with_reducible refine' fD ?k1 ?_);(case k1=>fail "z"))
 |((with_reducible refine' P4 ?k1 ?_);(case k1=>(constructor <;> omega)))
 |((with_reducible refine' P5 ?k1 ?_);(case k1=>(constructor <;> omega))))
local macro_rules | `(tactic| cbv)=>`(tactic| repeat fail "1")
namespace G1
open PySem L2 Fr
open PySem.W (Dat kqdOk)
nonrec abbrev ends(Q:VK):bH:={nx:=λ_ H'=>Q .non H',rt:=Q}
abbrev eR(n:Nat)(hs:List Int):Prop:=hs.length=n/\∀x∈hs,0<=x/\x<=3
nonrec abbrev dI(ns:List Int):Dat:=.tuple (ns.map Ss)
def AccZ.ints{K:Fg}{ns:List Int}(A:AccZ K H0 l H (ns.map Ss)):H l=some (.lst (ns.map V.int)):=by
 obtain⟨xs,h1,h2⟩:=A.at_;rw[RpL.ints_of h2] at h1;exact h1
def AccZ.strs{K:Fg}{ns:List Str}(A:AccZ K H0 l H (ns.map YS)):H l=some (.lst (ns.map V.str)):=by
 obtain⟨xs,h1,h2⟩:=A.at_;rw[RpL.y_ h2] at h1;exact h1
nonrec abbrev az:Str:="abcdefghijklmnopqrstuvwxyz"
def QK:∀j:Nat,j<26->az.cps.toList[j]?=some (97+j):=by decide +kernel
def Oy:az.length<=sizeLine:=by decide +kernel
def QJ{i:Int}(h0:0<=i)(h1:i<26):rC az.cps.toList i=some (97+i.toNat):=by
 have e:i=((i.toNat:Nat):Int):=by lia
 have q:=aK (QK i.toNat (by lia));rw[<- e] at q;exact q
abbrev Low(z:Str):Prop:=∀x∈z.cps.toList,97<=x/\x<=122
def Hm(z:Str):z.cps.toList.length=z.length:=by simp[Zbo]
def J6{c:Nat}(h0:97<=c)(h1:c<=122):Low ⟨#[c]⟩:=λx hx=>by
 have:x=c:=by simpa using hx
 lia
def J7{lo:Option Int}(h:Low z):Low (ko z lo hi):=λx hx=>by
 have q:x∈(Ku z.cps.toList hi).drop (lo.getD 0).toNat:=by simpa[ko] using hx
 have q2:=VX q;cases hi with
 |none=>exact h x q2
 |some j=>exact h x (T0 q2)
def D9(z:Str)(lo hi:Option Int):(ko z lo hi).length=(Ku z.cps.toList hi).length-(lo.getD 0).toNat:=by
 show(Zu (lo.getD 0).toNat (Ku z.cps.toList hi)).toArray.size=_;rw[RZ,Ts]
abbrev OC(w:Str):Prop:=1<=w.length/\w.length<=8/\Low w
abbrev ue(ws:List Str):Prop:=ws.Nodup/\∀w∈ws,OC w
def cA{α:Type}{xs:List α}{x:α}(h:xs.Nodup)(n:x∉xs):(xs++[x]).Nodup:=by
 rw[VP];refine⟨h,by simp,?_⟩;intro a ha b hb e;rw[RL.mp hb] at e;exact n (e ▸ ha)
def b7{α:Type}{P:α->Prop}{xs:List α}{x:α}(h:∀y∈xs,P y)(n:P x):∀y∈xs++[x],P y:=λy hy=>by
 rcases RX.mp hy with q|q
 .exact h y q
 .rw[RL.mp q];exact n
abbrev gL(q d:Int):Prop:=0<q/\0<d/\Gd.gd q d=1/\q<=10000000000/\d<=10000000000
def wR(ns:List Int)(n:Nat):kqdOk (n+1) (dI ns)=true:=by
 show((ns.map Ss).all (kqdOk n))=true;rw[Xf];intro x hx;obtain⟨i,_,rfl⟩:=RO.mp hx;cases n <;> rfl
def Hk(h:dI a=dI b):a=b:=by
 have:=Dat.tuple.inj h
 exact(Z4 (λx y e=>Ss.inj e)).mp this
def M6{hs:List (List Int)}:dI a∈hs.map dI↔a∈hs:=by
 rw[RO];constructor
 .rintro⟨b,hb,e⟩;rw[<- Hk e];exact hb
 .intro h;exact⟨a,h,rfl⟩
abbrev vZ(n:Nat)(hs:List (List Int)):Prop:=hs.Nodup/\∀h∈hs,eR n h
end G1
namespace G1
open PySem L2 Fr
open PySem.W (Dat kqdOk)
structure Tn where
 fr:List Int
 to:List Int
 q:Int
 d:Int
abbrev dT(t:Tn):Dat:=.tuple [dI t.fr,dI t.to,dI [t.q,t.d]]
abbrev TurnOk(hs:List (List Int))(t:Tn):Prop:=t.fr∈hs/\t.to∈hs/\t.fr≠t.to/\gL t.q t.d
abbrev cf(t:Tn):List Int×List Int:=(t.fr,t.to)
structure uf (hs:List (List Int)) (ts:List Tn):Prop where
 ne:ts≠[]
 le:ts.length<=8
 nd:(ts.map cf).Nodup
 ok:∀t∈ts,TurnOk hs t
abbrev dP(p:Nat×Nat):Dat:=dI [(p.1:Int),(p.2:Int)]
def Oh(h:dP a=dP b):a=b:=by
 have e:=Hk h;have e1:(a.1:Int)=b.1:=(UE e).1;have e2:(a.2:Int)=b.2:=(UE (UE e).2).1;obtain⟨a1,a2⟩:=a;obtain⟨b1,b2⟩:=b;have e1':a1=b1:=Xn e1;have e2':a2=b2:=Xn e2;rw[e1',e2']
def M5{ps:List (Nat×Nat)}:dP a∈ps.map dP↔a∈ps:=by
 rw[RO];constructor
 .rintro⟨b,hb,e⟩;rw[<- Oh e];exact hb
 .intro h;exact⟨a,h,rfl⟩
abbrev lF(n:Nat)(p:Nat×Nat):Prop:=p.1<n/\p.2<n/\p.1≠p.2
abbrev rA(hs:List (List Int))(p:Nat×Nat):List Int×List Int:=(hs.getD p.1 [],hs.getD p.2 [])
structure Good (hs:List (List Int)) (ps:List (Nat×Nat)) (ts:List Tn):Prop where
 nd:ps.Nodup
 le:ps.length<=8
 eq:ts.map cf=ps.map (rA hs)
 ok:∀p∈ps,lF hs.length p
 pc:∀t∈ts,gL t.q t.d
def getD_mem{hs:List (List Int)}{i:Nat}(h:i<hs.length):hs.getD i []∈hs:=by
 rw[Rr,Rn h];exact Td h
def jO{hs:List (List Int)}(nd:hs.Nodup){i j:Nat}(hi:i<hs.length)(hj:j<hs.length)(e:hs.getD i []=hs.getD j []):i=j:=by
 rw[Rr,Rn hi,Rr,Rn hj] at e;have e':hs[i]=hs[j]:=e;have pw:=List.pairwise_iff_getElem.mp nd;rcases Zax i j with z|z|z
 .exact absurd e' (pw i j hi hj z)
 .exact z
 .exact absurd e'.symm (pw j i hj hi z)
def nodup_map_on{α β:Type}{f:α->β}:∀{xs:List α},xs.Nodup->(∀a∈xs,∀b∈xs,f a=f b->a=b)->(xs.map f).Nodup
 |[],_,_=>Uu
 |x :: xs,h,hf=>by
  rw[Sy,SJ];refine⟨λhm=>?_,nodup_map_on (SJ.mp h).2 λa ha b hb=>hf a (RA _ ha) b (RA _ hb)⟩;obtain⟨y,hy,e⟩:=RO.mp hm;rw[<- hf y (RA _ hy) x Ru e] at h;exact(SJ.mp h).1 hy
def Good.turns(g:Good hs ps ts)(nd:hs.Nodup)(ne:ps≠[]):uf hs ts:=by
 have len:ts.length=ps.length:=by have:=congrArg Ue g.eq;simpa using this
 refine⟨λz=>?_,by rw[len];exact g.le,?_,λt ht=>?_⟩
 .rw[z] at len;exact ne (TW.mp len.symm)
 .rw[g.eq];refine nodup_map_on g.nd λa ha b hb e=>?_
  have oa:=g.ok a ha;have ob:=g.ok b hb;have e1:=jO nd oa.1 ob.1 (congrArg YF e);have e2:=jO nd oa.2.1 ob.2.1 (congrArg X7 e);obtain⟨a1,a2⟩:=a;obtain⟨b1,b2⟩:=b;simp only at e1 e2;rw[e1,e2]
 .have hm:cf t∈ps.map (rA hs):=by rw[<- g.eq];exact RO.mpr ⟨t,ht,rfl⟩
  obtain⟨p,hp,e⟩:=RO.mp hm;have op:=g.ok p hp;have e1:hs.getD p.1 []=t.fr:=congrArg YF e;have e2:hs.getD p.2 []=t.to:=congrArg X7 e;refine⟨e1 ▸ getD_mem op.1,e2 ▸ getD_mem op.2.1,λz=>op.2.2 ?_,g.pc t ht⟩;rw[<- e1,<- e2] at z;exact jO nd op.1 op.2.1 z
structure gK (ws:List Str) (ts:List Tn):Prop where
 words:ue ws
 w1:1<=ws.length
 w5:ws.length<=5
 turns:∃hs,vZ ws.length hs/\hs.length<=8/\uf hs ts
abbrev dV(ws:List Str)(ts:List Tn):Dat:=.tuple [.tuple (ws.map YS),.tuple (ts.map dT)]
end G1
namespace Sm
end Sm
namespace L2
nonrec abbrev ρ(n:Nat)(sp:Sp)(t:TS):Prop:=∀⦃vs:List V⦄⦃H:Hp⦄⦃Q:VK⦄⦃E:XK⦄⦃N:List PySem.Str⦄,N.length=n->sp vs H Q E->t (G1.ends Q) (L2.start N vs) H
end L2
set_option hygiene false in
local macro_rules | `(tactic| fail "R")=>`(tactic| intro vs H Q E N hN h)
namespace Vs
open PySem L2 Fr G1 Sm
open PySem.W (Dat kqdOk)
abbrev cJ(hs:List (List Int))(h:List Int):List (List Int):=if h∈hs then hs else hs++[h]
abbrev iQ(hs:List (List Int))(ts:List Tn):List (List Int):=ts.foldl (λhs t=>cJ (cJ hs t.fr) t.to) hs
abbrev a8(ts:List Tn):List (List Int):=iQ [] ts
def vB(hs:List (List Int))(h:List Int):(cJ hs h).length<=hs.length+1:=by
 unfold cJ;split
 .lia
 .simp
def oB:∀(ts:List Tn) (hs:List (List Int)),(iQ hs ts).length<=hs.length+2*ts.length
 |[],hs=>by simp[iQ]
 |t :: ts,hs=>by
  have h1:=oB ts (cJ (cJ hs t.fr) t.to);have h2:=vB (cJ hs t.fr) t.to;have h3:=vB hs t.fr;show(iQ (cJ (cJ hs t.fr) t.to) ts).length<=_;rw[Sn];lia
def BF(hs:List (List Int))(ts:List Tn)(t:Tn):iQ hs (ts++[t])=cJ (cJ (iQ hs ts) t.fr) t.to:=by
 unfold iQ;rw[Ug];rfl
abbrev iX(h:List Int):List ba:=h.map V0
def kK(h:List Int):(iX h).map kV=h.map V.int:=by
 unfold iX;rw[Tv];rfl
def xU(h:iX a=iX b):a=b:=(Z4 (λx y e=>WE e)).mp h
def pS{de:List (List ba×V)}{hs:List (List Int)}(e:de.map (·.1)=hs.map iX)(h:List Int)(v:V):(b5 de (iX h) v).map (·.1)=(cJ hs h).map iX:=by
 have any:(de.any λkv=>decide (kv.1=iX h))=decide (h∈hs):=by
  rw[UP,List.any_eq_true,decide_eq_true_iff];constructor
  .rintro⟨kv,hm,q⟩
   have:kv.1∈hs.map iX:=by rw[<- e];exact RO.mpr ⟨kv,hm,rfl⟩
   obtain⟨g,hg,eg⟩:=RO.mp this;rw[of_decide_eq_true q] at eg;rw[<- xU eg];exact hg
  .intro hm
   have:iX h∈de.map (·.1):=by rw[e];exact RO.mpr ⟨h,hm,rfl⟩
   obtain⟨kv,hk,ek⟩:=RO.mp this;exact⟨kv,hk,decide_eq_true ek⟩
 unfold b5 cJ;rw[any];by_cases z:h∈hs
 .rw[if_pos z,decide_eq_true z,if_pos rfl,Tv,<- e];refine US λkv _=>?_
  show(if kv.1=iX h then (kv.1,v) else kv).1=kv.1;split <;> rfl
 .rw[if_neg z,decide_eq_false z,if_neg Sd,Rx,Rx,e];rfl
def Bk{K:Fg}{H:Hp}:∀{de:List (List ba×V)} {hs:List (List Int)} {bs:List Addr},de.map (·.1)=hs.map iX->Paired (λ(p:List ba×V) b=>H b=some (.tup (p.1.map kV))) de bs->RzL K H (bs.map V.ref) (hs.map dI)
 |[],[],_,_,.nil=>.nil
 |[],h :: hs,_,e,_=>by simp at e
 |kv :: de,[],_,e,_=>by simp at e
 |kv :: de,h :: hs,_,e,.cons q t=>by
  have e1:kv.1=iX h:=(UE e).1;have e2:=(UE e).2;rw[e1,kK] at q;exact .cons (.tup q (RpL.ints h)) (Bk e2 t)
abbrev jc(K:Fg):Sp:=λvs H Q _=>∃(v:V) (ts:List Tn),vs=[v]/\Rz K H v (.tuple (ts.map dT))/\ts.length<=100/\∀(p:Addr) (H':Hp),AccZ K H p H' ((a8 ts).map dI)->Q (.ref p) H'
abbrev i6(K:Fg):TS:=(am (av yZ (al 1))
 (am (a9 (BA K (aa 0)) (al 2)
 (am (pO (aa 1) (ao (aG K) (aa 2) (tC (.int 0))) (tC (.bl true)))
 (pO (aa 1) (ao (aG K) (aa 2) (tC (.int 1))) (tC (.bl true)))))
 (aE (bU GB (ae (aa 1) ai)))))
def oJ{K:Fg}(h:Rz K H v (dT t)):∃(a:Addr) (v1 v2 v3:V),v=.ref a/\H a=some (.tup [v1,v2,v3])/\Rz K H v1 (dI t.fr)/\Rz K H v2 (dI t.to)/\Rz K H v3 (dI [t.q,t.d]):=by
 obtain⟨a,xs,e,ha,r⟩:=h.cr;cases r with
 |cons r1 r =>
  cases r with
  |cons r2 r =>
   cases r with
   |cons r3 r =>
    cases r;exact⟨a,_,_,_,e,ha,r1,r2,r3⟩
def bM{K:Fg}(h:Rz K H v (dI ns)):∃a:Addr,v=.ref a/\H a=some (.tup (ns.map V.int)):=by
 obtain⟨a,xs,e,ha,r⟩:=h.cr;rw[RpL.ints_of r] at ha;exact⟨a,e,ha⟩
def wJ{K:Fg}:ρ 3 (jc K) (i6 K):=by
 fail "R";obtain⟨v,ts,rfl,rv,hl,k⟩:=h;obtain⟨a,xs,rfl,ha,rx⟩:=rv.cr;rw[L2.aO hN];walk_at "t";have lx:xs.length=ts.length:=by rw[rx.length,Rm]
 unfold i6;cbv;intro d nd;cbv;refine PY (SqT.of ((aj nd _) _ _ ha)) ?_;refine BY (xs:=xs) (λi σ H2=>∃(de:List (List ba×V)) (u:Option V),σ=[⇑a,⇑d,u]/\Same H H2/\H2 d=some (.dT de)/\de.map (·.1)=(a8 (ts.take i)).map iX) ⟨[],none,rfl,aj nd _,ag,rfl⟩ ?_ ?_ ?_
 .rintro i σ H2 _ ⟨de,u,rfl,S,ed,ek⟩;exact SqT.of (S _ _ ha)
 .rintro i z σ H2 hz ⟨de,u,rfl,S,ed,ek⟩;obtain⟨dd,g1,g2⟩:=rx.get hz;rw[Rt] at g1;obtain⟨t,ht,rfl⟩:=RD.mp g1;obtain⟨at_,v1,v2,v3,rfl,hat,r1,r2,_⟩:=oJ (g2.same S);obtain⟨b1,rfl,hb1⟩:=bM r1;obtain⟨b2,rfl,hb2⟩:=bM r2;have ti:i<ts.length:=(Rq.mp ht).1;have kl:de.length=(a8 (ts.take i)).length:=by have:=congrArg Ue ek;simpa using this
  have hl2:=oB (ts.take i) [];rw[RT] at hl2;have kl2:de.length<=2*i:=by rw[kl];unfold a8;simp only[VF] at hl2;lia
  have e1:=pS ek t.fr (.bl true);have e2:=pS e1 t.to (.bl true);have le1:=b6 de (iX t.fr) (.bl true);have n1:b1≠d:=kG hb1 ed (by intro z;cases z);have n2:b2≠d:=kG hb2 ed (by intro z;cases z);have n3:at_≠d:=kG hat ed (by intro z;cases z);cbv;refine aF (SqT.of hat) (v:=.ref b1) rfl ?_;refine⟨d,_,rfl,DPut.t ed (k:=iX t.fr) (by rw[kK];exact hb1) (aq (by lia)),?_⟩;cbv;refine aF (SqT.of (by rw[aC n3];exact hat)) (v:=.ref b2) rfl ?_;refine⟨d,_,rfl,DPut.t ag (k:=iX t.to) (by rw[kK,aC n2];exact hb2) (aq (by lia)),?_⟩;rw[HF];refine⟨_,_,rfl,λb o q=>?_,ag,?_⟩
  .rw[aC (au q nd)];exact S _ _ q
  .rw[e2];congr 1;have et:ts.take (i+1)=ts.take i++[t]:=by rw[RP,ht];rfl
   rw[et];exact(BF [] (ts.take i) t).symm
 .rintro σ H2 ⟨de,u,rfl,S,ed,ek⟩;rw[lx,RG (RB _)] at ek;cbv;refine⟨d,de,rfl,ed,λl bs nl pr=>?_⟩;have S2:=aj nl (.lst (bs.map V.ref));exact k l _ ⟨S.trans S2,S.free nl,_,ag,(Bk ek pr).same S2⟩
abbrev gU(K:Fg):Sp:=λvs H Q _=>∃(v:V) (ws:List Str) (ts:List Tn),vs=[v]/\Rz K H v (dV ws ts)/\ts.length<=100/\∀(p:Addr) (H':Hp),AccZ K H p H' ((a8 ts).map dI)->Q (.ref p) H'
def t5{K:Fg}(h:Rz K H v (dV ws ts)):∃(a:Addr) (v1 v2:V),v=.ref a/\H a=some (.tup [v1,v2])/\Rz K H v1 (.tuple (ws.map YS))/\Rz K H v2 (.tuple (ts.map dT)):=by
 obtain⟨a,xs,e,ha,r⟩:=h.cr;cases r with
 |cons r1 r =>
  cases r with
  |cons r2 r =>
   cases r;exact⟨a,_,_,e,ha,r1,r2⟩
abbrev rX(K:Fg):TS:=(aE (aw (jc K) [] E0 (ae (ao (aG K) (aa 0) (tC (.int 1))) ai)))
def Ey{K:Fg}:ρ 1 (gU K) (rX K):=by
 fail "R";obtain⟨v,ws,ts,rfl,rv,hl,k⟩:=h;obtain⟨a,v1,v2,rfl,ha,r1,r2⟩:=t5 rv;rw[L2.aO hN];walk_at "t";unfold rX;cbv;refine aF (SqT.of ha) (v:=v2) rfl ?_;exact⟨v2,ts,rfl,r2,hl,k⟩
end Vs
namespace G2
open PySem L2 Fr G1
open PySem.W (Dat kqdOk)
abbrev Ri(n:Int):Prop:=0<=n/\n<2147483587
abbrev dF:Sp:=λvs H Q _=>∃c p:Int,vs=[.int c,.int p]/\0<=p/\p<=1000/\∀m:Int,Ri m->Q (.int m) H
nonrec abbrev DK(K:Fg):TS:=(am (av (ao aQ (ao aW (ao aW (ao (rI CMul λi j=>.int (i*j)) (aa 2) (aa 2)) (ao (rI CMul λi j=>.int (i*j)) (tC (.int 48271)) (aa 1))) (tC (.int 7))) (tC (.int 2147483629))) (al 2))
 (aE (ao aQ (ao aW (ao (rI CMul λi j=>.int (i*j)) (aa 2) (aa 2)) (tC (.int 69621))) (tC (.int 2147483587)))))
abbrev yp(K:Fg):TS:=(am (av (ao aQ (ao aW (ao aW (ao (rI CMul λi j=>.int (i*j)) (ao aQ (aa 0) (tC (.int 2147483629))) (tC (.int 16807))) (ao (rI CMul λi j=>.int (i*j)) (tC (.int 69621)) (aa 1))) (tC (.int 11))) (tC (.int 2147483629))) (al 2))
 (DK K))
def IL{K:Fg}:ρ 3 dF (yp K):=by
 fail "R";obtain⟨c,p,rfl,h0,h1,k⟩:=h;rw[L2.aO hN];walk_at "t";unfold yp;cbv;generalize hx:(c % 2147483629*16807+69621*p+11) % 2147483629=x;have x0:0<=x/\x<2147483629:=by lia
 cbv;generalize hy:(x*x+48271*p+7) % 2147483629=y;have y0:0<=y/\y<2147483629:=by lia
 cbv;exact k _ ⟨by lia,by lia⟩
abbrev yN(K:Fg):TS:=(am (ic (aP (ao GA (aa 1) (tC (.int 0))))
 (LD 0 1 (ae (aa 1) (ae (ao Jk (aa 0) (aa 1)) ai))))
 (aE (bU Mi (ae (aa 0) ai))))
def IW{K:Fg}:ρ 2 pf (yN K):=by
 fail "R";obtain⟨a,b,rfl,k⟩:=h;rw[L2.aO hN];walk_at "t";unfold yN
 refine iW (λσ H'=>H'=H/\∃i j:Int,σ=[↥i,↥j]/\Gd.gd i j=Gd.gd a b)
  (λσ _=>match σ with | [_,↥j]=>j.natAbs|_=>0) ⟨rfl,a,b,rfl,rfl⟩ ?_ ?_
 .rintro σ H' ⟨rfl,i,j,rfl,e⟩;refine⟨_,rfl,rfl,_,rfl,NY (λhj=>?_) (λhj=>?_)⟩
  .refine⟨_,rfl,_,rfl,_,rfl,_,_,rfl,rfl,hj,_,_,rfl,⟨rfl,j,i.fmod j,rfl,(Gd.BK i j).trans e⟩,?_⟩;exact Gd.BM hj
  .subst hj;refine⟨_,rfl,_,rfl,?_⟩;rw[Gd.G9,e];exact k
 .rintro σ H' R R' h ⟨v,e,sc,c,ec,q⟩;exact⟨v,e,sc,c,ec,h _ _ q⟩
abbrev jb(K:Fg):Sp:=λvs H Q _=>∃a b:Int,vs=[.int a,.int b]/\∀(p:Addr) (q d:Int) (H':Hp),Same H H'->gL q d->Rz K H' (.ref p) (dI [q,d])->Q (.ref p) H'
def p9:(10:Int) ^ (9:Int).toNat=1000000000:=by decide +kernel
def Qy:Gd.gd 1 1=1:=by decide +kernel
abbrev gg(K:Fg):Sp:=λvs H Q _=>∃n m:Int,vs=[.int n,.int m]/\0<=n/\1<=m/\m<=5/\∀(p:Addr) (H':Hp) (ws:List Str),Same H H'->ue ws->ws.length=m.toNat->Rz K H' (.ref p) (.tuple (ws.map YS))->Q (.ref p) H'
def HC:∀j:Nat,j<4->(ko "xyz" none (some (j:Int))).length<=3/\Low (ko "xyz" none (some (j:Int))):=by
 intro j hj;have sl:=D9 ("xyz":Str) none (some (j:Int));have l3:(("xyz":Str)).length=3:=by decide +kernel
 refine⟨?_,J7 ?_⟩
 .rw[sl];simp only[Ku,RT,Hm,l3,Option.getD];lia
 .intro x hx
  have:(("xyz":Str)).cps.toList=[120,121,122]:=by decide +kernel
  rw[this] at hx;simp only[RW,U0,or_false] at hx;lia
def jW(a b:Str):(a++b).cps.toList=a.cps.toList++b.cps.toList:=by
 show(a.cps++b.cps).toList=_;exact Array.toList_append
def Bb(h1:Low a)(h2:Low b):Low (a++b):=λx hx=>by
 rw[jW] at hx;rcases RX.mp hx with q|q
 .exact h1 x q
 .exact h2 x q
nonrec abbrev wn (K:Fg):TS:=(bn (dD K "list" aJ (aa 3) (ae (ao Jp (ao Jp (aa 5) (LC Me (tC (.str "xyz")) mj (wA (ao aQ (ao bV (aa 0) (tC (.int 26))) (tC (.int 4)))))) (ao Jh (aa 5) (ao aQ (ao bV (aa 0) (tC (.int 104))) (tC (.int 2))))) ai)))
nonrec abbrev wm(K:Fg):TS:=(am (a9 (b_ (ae (aa 1) ai)) (al 4)
 (am (av (ao Jl (aa 2) (ao aQ (ao aW (aa 0) (ao (rI CMul λi j=>.int (i*j)) (tC (.int 5)) (aa 4))) (tC (.int 26)))) (al 5))
 (wn K)))
 (aE (bU (cE K) (ae (aa 3) ai))))
abbrev lT (K:Fg):TS:=(am (av (tC (.str "abcdefghijklmnopqrstuvwxyz")) (al 2))
 (am (av (bP ai) (al 3))
 (wm K)))
def zO{K:Fg}:ρ 6 (gg K) (lT K):=by
 fail "R";obtain⟨n,m,rfl,n0,m1,m5,k⟩:=h;rw[L2.aO hN];walk_at "t";unfold lT;cbv;refine⟨by decide,λl nl=>?_⟩;cbv
 refine aR (λi σ H2=>∃(ws:List Str) (v4 v5:Option V),σ=[↥n,↥m,some (.str az),⇑l,v4,v5]/\AccZ K H l H2 (ws.map YS)/\ws.length=i/\ue ws /\
   ∀(j:Nat) (w:Str),ws[j]?=some w->w.cps.toList[0]?=some (97+((n+5*(j:Int)) % 26).toNat))
  ⟨[],none,none,rfl,AccZ.start (Same.refl _) nl,rfl,⟨Uu,by simp⟩,by simp⟩ ?_ ?_
 .rintro i σ H2 hi ⟨ws,v4,v5,rfl,A,hl,hw,hj⟩;have e0:(0:Int)+(i:Int)=(i:Int):=by lia
  rw[e0];have f0:=Tt (n+5*(i:Int)) (b:=26) (by lia);have f1:=S_ (n+5*(i:Int)) (b:=26) (by lia);cbv;refine Qd Oy (QJ f0 f1) ?_;have lf:=J6 (c:=97+((n+5*(i:Int)) % 26).toNat) (by lia) (by lia);have len1:(⟨#[97+((n+5*(i:Int)) % 26).toNat]⟩:Str).length=1:=rfl;have hd1:(⟨#[97+((n+5*(i:Int)) % 26).toNat]⟩:Str).cps.toList[0]?=some (97+((n+5*(i:Int)) % 26).toNat):=rfl;generalize hf:(⟨#[97+((n+5*(i:Int)) % 26).toNat]⟩:Str)=fw at lf len1 hd1 ⊢;cbv;refine⟨A.ty,?_⟩;cbv;have j0:0<=n / 26 % 4:=by lia
  have ej:n / 26 % 4=(((n / 26 % 4).toNat:Nat):Int):=by lia
  have xc:=HC (n / 26 % 4).toNat (by lia);rw[<- ej] at xc;refine⟨_,rfl,by decide +kernel,trivial,j0,?_⟩;generalize ko "xyz" none (some (n / 26 % 4))=mid at xc ⊢;refine G4 (by rw[len1,show sizeLine=16777216 by decide];lia) ?_;cbv;refine Nu (by lia) ?_;generalize he:(if n / 104 % 2=0 then VI else fw)=tl
  have tlo:tl.length<=1/\Low tl:=by
   rw[<- he];split
   .exact⟨by decide,λx hx=>by cases hx⟩
   .exact⟨by lia,lf⟩
  have lnew:(fw++mid++tl).length=fw.length+mid.length+tl.length:=by rw[ZM,ZM]
  refine G4 (by rw[ZM,len1,show sizeLine=16777216 by decide];lia) ?_;cbv;refine bW A (.str _) (aq (by rw[Rm];lia)) λH3 A3 _ _ _=>?_
  have hd2:(fw++mid++tl).cps.toList[0]?=some (97+((n+5*(i:Int)) % 26).toNat):=by
   rw[jW,jW,Tf,SO (by rw[Hm,len1];lia)];exact hd1
  cbv;refine⟨ws++[fw++mid++tl],_,_,rfl,by rw[Rx];exact A3,by simp[hl],⟨cA hw.1 λhx=>?_,b7 hw.2 ⟨by lia,by lia,Bb (Bb lf xc.2) tlo.2⟩⟩,λj w e=>?_⟩
  .obtain⟨j,hj1,hj2⟩:=Tc.mp hx;have g:=hj j _ (by rw[Rn hj1,hj2]);rw[hd2] at g;have g':=RY g;omega
  .by_cases lt:j<ws.length
   .rw[SO lt] at e;exact hj j w e
   .rw[Tj (by lia)] at e
    have z:j-ws.length=0:=by
     rcases Z5 (j-ws.length) with z|z
     .exact z
     .rw[Sw (by simp;lia)] at e;cases e
    rw[z] at e;have e':fw++mid++tl=w:=by simpa using e
    have ej2:j=i:=by lia
    rw[<- e',ej2];exact hd2
 .rintro σ H2 ⟨ws,v4,v5,rfl,A,hl,hw,hj⟩;have e:=AccZ.strs A;cbv;refine fJ (SqL.of e) λp np=>?_
  exact k p _ ws (A.same.trans (aj np _)) hw hl (.tup ag (RpL.strs ws))
abbrev sO(K:Fg):Sp:=λvs H Q _=>∃(c k m t:Int) (pl:Bool),vs=[.int c,.int k,.int m,.int t,.bl pl]/\0<=k/\k<=100/\0<=m/\m<=5/\2<=t/\t<=4/\∀(p:Addr) (H':Hp) (hs:List Int),Same H H'->eR m.toNat hs->Rz K H' (.ref p) (dI hs)->Q (.ref p) H'
nonrec abbrev yA(K:Fg):TS:=(aS (tB (aa 4))
 (am (bn (dD K "list" aJ (aa 6) (ae (ao aQ (aa 5) (aa 3)) ai)))
 (av (ao bV (aa 5) (aa 3)) (al 5)))
 (bn (dD K "list" aJ (aa 6) (ae (ao aQ (aw dF [] E0 (ae (aa 0) (ae (ao aW (ao (rI CMul λi j=>.int (i*j)) (tC (.int 5)) (aa 1)) (aa 7)) ai))) (aa 3)) ai))))
nonrec abbrev yz(K:Fg):TS:=(am (aS (aP (ao EN (aa 1) (tC (.int 5))))
 (av (ao bV (aa 0) (tC (.int 1024))) (al 5))
 a7)
 (am (av (bP ai) (al 6))
 (am (a9 (b_ (ae (aa 2) ai)) (al 7)
 (yA K))
 (aE (bU (cE K) (ae (aa 6) ai))))))
abbrev rZ(K:Fg):TS:=(am (av (aa 0) (al 5))
 (yz K))
def Ez{K:Fg}:ρ 8 (sO K) (rZ K):=by
 fail "R";obtain⟨c,kk,m,t,pl,rfl,k0,k1,m0,m5,t2,t4,k⟩:=h;rw[L2.aO hN];walk_at "t";unfold rZ;cbv;have rest:∀z0:Int,(am (av (bP ai) (al 6)) (am (a9 (b_ (ae (aa 2) ai)) (al 7)
 (aS (tB (aa 4))
 (am (bn (dD K "list" aJ (aa 6) (ae (ao aQ (aa 5) (aa 3)) ai)))
 (av (ao bV (aa 5) (aa 3)) (al 5)))
 (bn (dD K "list" aJ (aa 6) (ae (ao aQ (aw dF [] E0 (ae (aa 0) (ae (ao aW (ao (rI CMul λi j=>.int (i*j)) (tC (.int 5)) (aa 1)) (aa 7)) ai))) (aa 3)) ai)))))
 (aE (bU (cE K) (ae (aa 6) ai))))) (ends Q) [↥c,↥kk,↥m,↥t,some (.bl pl),↥z0,none,none] H:=by
  intro z0;cbv;refine⟨by decide,λl nl=>?_⟩;cbv;refine aR (λi σ H2=>∃(ns:List Int) (z:Int) (v:Option V),σ=[↥c,↥kk,↥m,↥t,some (.bl pl),↥z,⇑l,v]/\AccZ K H l H2 (ns.map Ss)/\eR i ns) ⟨[],z0,none,rfl,AccZ.start (Same.refl _) nl,rfl,by simp⟩ ?_ ?_
  .rintro i σ H2 hi ⟨ns,z,v,rfl,A,hl,hb⟩
   have one:∀x:Int,eR (i+1) (ns++[x % t]):=λx=>⟨by simp[hl],λy hy=>by
    rcases RX.mp hy with q|q
    .exact hb y q
    .rw[RL.mp q]
     have e1:=Tt x (b:=t) (by lia)
     have e2:=S_ x (b:=t) (by lia)
     exact⟨by lia,by lia⟩⟩
   cbv;cases pl with
   |true =>
    cbv;refine⟨A.ty,?_⟩;cbv;refine bW A (.int _) (aq (by rw[Rm];lia)) λH3 A3 _ _ _=>?_
    cbv;exact⟨ns++[z % t],_,_,rfl,by simpa using A3,one z⟩
   |false =>
    cbv;refine⟨A.ty,?_⟩;cbv;refine⟨c,5*kk+(0+(i:Int)),rfl,by lia,by lia,λx hx=>?_⟩;cbv;refine bW A (.int _) (aq (by rw[Rm];lia)) λH3 A3 _ _ _=>?_
    cbv;exact⟨ns++[x % t],_,_,rfl,by simpa using A3,one x⟩
  .rintro σ H2 ⟨ns,z,v,rfl,A,hh⟩;cbv;have e:=AccZ.ints A;refine fJ (SqL.of e) λp np=>?_
   exact k p _ ns (A.same.trans (aj np _)) hh (.tup ag (RpL.ints ns))
 refine aX (λ_=>?_) (λ_=>?_)
 .fail "1";fail "1";fail "1";fail "1";fail "1";fail "1";exact rest _
 .exact rest _
def vV{K:Fg}(S:Same H H3)(A:AccZ K H3 l H' ds):AccZ K H l H' ds:=⟨S.trans A.same,S.free A.new,A.at_⟩
abbrev dZ(h1:Int)(m:Nat):List Int:=(RQ m).map λj=>if j=0 then (if decide (h1=0)=true then 1 else 0) else 0
abbrev sG(K:Fg):Sp:=λvs H Q _=>∃(a:Addr) (ns:List Int) (t m s tp:Int) (pl:Bool),vs=[.ref a,.int t,.int m,.int s,.int tp,.bl pl]/\SqL K H a (ns.map V.int)/\0<=t/\1<=m/\m<=5/\2<=s/\s<=8/\2<=tp/\tp<=4 /\
 ∀(p:Addr) (H':Hp) (hs:List (List Int)),AccZ K H p H' (hs.map dI)->vZ m.toNat hs->2<=hs.length->hs.length<=8->Q (.ref p) H'
nonrec abbrev yj(K:Fg):TS:=(am (av (aw (sO K) [] E0 (ae (aw (cC K) [] E0 (ae (aa 0) (ae (ao aW (aa 1) (ao aQ (aa 7) (tC (.int 6)))) ai))) (ae (aa 7) (ae (aa 2) (ae (aa 4) (ae (aa 5) ai)))))) (al 8))
 (aS (aP (ao (pR K true) (aa 8) (aa 6)))
 (bn (dD K "list" aJ (aa 6) (ae (aa 8) ai)))
 a7))
nonrec abbrev yi (K:Fg):TS:=(bn (dD K "list" aJ (aa 6) (ae (bU (cE K) (ae (fA (b_ (ae (aa 2) ai)) (bU Jn (ae (wB (ao gk (aa 0) (tC (.int 0))) (ao gk (ao (aG K) (ao (bI K) (aa 7) (tC (.int 0))) (tC (.int 0))) (tC (.int 0)))) ai))) ai)) ai)))
abbrev rN(K:Fg):TS:=(am (av (bP ai) (al 6))
 (am (a9 (b_ (ae (aa 3) ai)) (al 7)
 (yj K))
 (am (aS (aP (ao gk (bU (bZ K) (ae (aa 6) ai)) (tC (.int 1))))
 (yi K)
 a7)
 (aE (aa 6)))))
def Eo{K:Fg}:ρ 9 (sG K) (rN K):=by
 fail "R";obtain⟨a,ns,t,m,s,tp,pl,rfl,hS,t0,m1,m5,s2,s8,p2,p4,k⟩:=h;rw[L2.aO hN];walk_at "t";unfold rN;cbv;refine⟨by decide,λl nl=>?_⟩;cbv
 refine aR (λi σ H2=>∃(hs:List (List Int)) (v7 v8:Option V),σ=[⇑a,↥t,↥m,↥s,↥tp,some (.bl pl),⇑l,v7,v8]/\AccZ K H l H2 (hs.map dI)/\hs.length<=i/\vZ m.toNat hs/\(0<i->hs≠[]))
  ⟨[],none,none,rfl,AccZ.start (Same.refl _) nl,RB _,⟨Uu,by simp⟩,by simp⟩ ?_ ?_
 .rintro i σ H2 hi ⟨hs,v7,v8,rfl,A,hl,hp,_⟩;cbv;refine⟨a,ns,t+(0+(i:Int)) % 6,rfl,A.same.seq hS,by lia,?_⟩;generalize cellOf ns (t+(0+(i:Int)) % 6)=c1;cbv;refine⟨c1,0+(i:Int),m,tp,pl,rfl,by lia,by lia,by lia,by lia,p2,p4,λph H4 h S4' oh rh=>?_⟩;have A4:=A.on S4';cbv;refine oi rh.rep A4.rep (λe he=>by obtain⟨b,_,rfl⟩:=RO.mp he;exact wR b 7) (wR h 7) (λnm=>?_) (λmm=>?_)
  .cbv;refine⟨A4.ty,?_⟩;cbv;refine bW A4 rh (aq (by rw[Rm];lia)) λH5 A5 _ _ _=>?_
   cbv;exact⟨hs++[h],_,_,rfl,by rw[Rx];exact A5,by simp;lia,⟨cA hp.1 λz=>nm (M6.mpr z),b7 hp.2 oh⟩,by simp⟩
  .cbv;exact⟨hs,_,_,rfl,A4,by lia,hp,λ_ z=>by rw[z] at mm;cases mm⟩
 .rintro σ H2 ⟨hs,v7,v8,rfl,A,hl,hp,hne⟩;have ne:=hne (by lia);obtain⟨xs,sx,lx,rx⟩:=A.sq;rw[Rm] at lx;cbv;refine cw sx ?_;cbv;refine aX (λfew=>?_) (λfew=>?_)
  .have l1:hs.length=1:=by lia
   obtain⟨h,rfl⟩:∃x,hs=[x]:=UV.mp l1;have oh:=hp.2 h (by simp);obtain⟨h1,hr,eh⟩:∃h1 hr,h=h1 :: hr:=Vx (by have:=oh.1;lia);obtain⟨v,ev,rv⟩:=RpL.get' (i:=0) rx (d:=dI h) rfl;obtain⟨ah,ys,e1,sh,rh⟩:=rv.Lp;cases e1;cases RpL.ints_of rh;cbv;refine⟨A.ty,?_⟩;cbv;refine dh λDl nD=>⟨λj H4=>AccZ K H2 Dl H4 ((dZ h1 j).map Ss),AccZ.start (Same.refl _) nD,?_,?_⟩
   .intro j H4 hj B
    have put:∀x:Int,x=(if j=0 then (if decide (h1=0)=true then 1 else 0) else 0)->oU Dl m.toNat j (λj H4=>AccZ K H2 Dl H4 ((dZ h1 j).map Ss)) (.int x) H4:=by
     intro x ex;refine a_ hj (B.cF (.int x) (aq ?_) λH5 B5=>?_)
     .rw[Rm];unfold dZ;rw[Rm,R5];lia
     .show AccZ K H2 Dl H5 ((dZ h1 (j+1)).map Ss);unfold dZ;rw[UQ,Rx,Rx,WD,WD,<- ex];exact B5
    cbv;refine aX (λj0=>?_) (λj0=>?_)
    .cbv;refine bQ (B.same.seq sx) (aK (j:=0) ev) ?_;cbv;refine aF (B.same.seqT sh) (v:=.int h1) (aK (j:=0) (by rw[eh];rfl)) ?_;cbv;refine put _ ?_;rw[if_pos (show j=0 by lia)]
    .cbv;refine put _ ?_;rw[if_neg (show ¬ j=0 by lia)];rfl
   .intro H4 B;have eB:=AccZ.ints B;cbv;refine fJ (SqL.of eB) λp np=>?_
    cbv;have Sp:=aj np (.tup ((dZ h1 m.toNat).map V.int));have A5:=(A.on B.same).on Sp;refine bW A5 (d:=dI (dZ h1 m.toNat)) (.tup ag (RpL.ints _)) (aq (by simp)) λH6 A6 _ _ _=>?_
    cbv
    have e0:(dZ h1 m.toNat)[0]?=some (if decide (h1=0)=true then 1 else 0):=by
     unfold dZ;rw[Rt,SM (by lia)];rfl
    refine k l H6 ([h]++[_]) (by rw[Rx];exact A6) ⟨cA hp.1 λz=>?_,b7 hp.2 ⟨?_,λx hx=>?_⟩⟩ (by simp) (by simp)
    .have z':=RL.mp z;rw[z',eh] at e0;have z2:h1=(if decide (h1=0)=true then 1 else 0):=RY e0;by_cases h10:h1=0
     .rw[decide_eq_true h10] at z2;simp at z2;lia
     .rw[decide_eq_false h10] at z2;simp at z2;lia
    .unfold dZ;rw[Rm,R5]
    .unfold dZ at hx;obtain⟨j,_,rfl⟩:=RO.mp hx;split
     .split <;> decide
     .decide
  .cbv
   have:0<hs.length:=Wi.mpr ne
   exact k l H2 hs A hp (by lia) (by lia)
abbrev Hl(p:Int×Int):Dat:=dI [p.1,p.2]
abbrev FP(s:Int)(p:Int×Int):Prop:=0<=p.1/\p.1<s/\0<=p.2/\p.1≠p.2
abbrev mE(K:Fg):Sp:=λvs H Q _=>∃(a:Addr) (ns:List Int) (t s kd:Int) (pl:Bool),vs=[.ref a,.int t,.int s,.int kd,.bl pl]/\SqL K H a (ns.map V.int)/\0<=t/\2<=s/\s<=8/\0<=kd/\kd<=3 /\
 ∀(p:Addr) (H':Hp) (ps:List (Nat×Nat)),AccZ K H p H' (ps.map dP)->ps.Nodup->ps.length<=8->ps≠[]->(∀q∈ps,lF s.toNat q)->Q (.ref p) H'
nonrec abbrev wz(K:Fg):TS:=(am (aS (mn (aP (ao gk (aa 3) (tC (.int 3)))) (aP (ao EN (aa 2) (tC (.int 3)))))
 (bn (dD K "list" aJ (aa 5) (ae (bg (ae (aa 6) (ae (ao aW (ao (rI CMul λi j=>.int (i*j)) (ao bV (aa 6) (tC (.int 2))) (tC (.int 2))) (ao aQ (ao aW (aa 6) (tC (.int 1))) (tC (.int 2)))) ai))) ai)))
 (aS (aP (ao EN (aa 3) (tC (.int 0))))
 (bn (dD K "list" aJ (aa 5) (ae (bg (ae (aa 6) (ae (aa 7) ai))) ai)))
 a7))
 (aS (aP (ao gk (aa 3) (tC (.int 2))))
 (bn (dD K "list" aJ (aa 5) (ae (bg (ae (aa 7) (ae (aa 6) ai))) ai)))
 a7))
nonrec abbrev wy(K:Fg):TS:=(am (aS (tB (aa 4))
 (am (av (ao aQ (ao aQ (ao bV (aa 8) (tC (.int 5))) (tC (.int 8))) (aa 2)) (al 9))
 (av (ao aQ (ao aQ (ao bV (aa 8) (tC (.int 40))) (tC (.int 8))) (ao g6 (aa 2) (tC (.int 1)))) (al 10)))
 a7)
 (bn (dD K "list" aJ (aa 5) (ae (bg (ae (aa 9) (ae (ao aQ (ao aW (ao aW (aa 9) (tC (.int 1))) (aa 10)) (aa 2)) ai))) ai))))
nonrec abbrev wx(K:Fg):TS:=(am (av (ao aQ (aw dF [] E0 (ae (aa 8) (ae (tC (.int 50)) ai))) (aa 2)) (al 9))
 (am (av (ao aQ (aw dF [] E0 (ae (aa 8) (ae (tC (.int 51)) ai))) (ao g6 (aa 2) (tC (.int 1)))) (al 10))
 (wy K)))
nonrec abbrev ww(K:Fg):TS:=(am (av (aw (cC K) [] E0 (ae (aa 0) (ae (ao aW (aa 1) (aa 6)) ai))) (al 8))
 (aS (Gw (aP (ao gk (aa 3) (tC (.int 0)))) (aP (ao gk (ao aQ (aa 8) (tC (.int 5))) (tC (.int 1)))))
 (wx K)
 a7))
nonrec abbrev wv(K:Fg):TS:=(aS (mn (aP (ao (pR K true) (bg (ae (aa 9) (ae (aa 12) ai))) (aa 11))) (mn (aP (ao xE (aa 12) (aa 2))) (aP (ao xE (bU (bZ K) (ae (aa 11) ai)) (tC (.int 8))))))
 (bn (dD K "list" aJ (aa 11) (ae (bg (ae (aa 9) (ae (aa 12) ai))) ai)))
 a7)
nonrec abbrev wu(K:Fg):TS:=(am (a9 (b_ (ae (aa 2) ai)) (al 6)
 (am (av (ao aQ (ao aW (aa 6) (tC (.int 1))) (aa 2)) (al 7))
 (wz K)))
 (am (a9 (b_ (ae (tC (.int 8)) ai)) (al 6)
 (ww K))
 (am (av (bP ai) (al 11))
 (am (a9 (cg K (aa 5)) (cj K 2 (aY (al 9) (aY (al 12) ck)))
 (wv K))
 (aE (aa 11))))))
abbrev lZ(K:Fg):TS:=(am (av (bP ai) (al 5))
 (wu K))
def kW{K:Fg}{fs:List (Int×Int)}{x y:Int}{Q:VK}(A:AccZ K H l H2 (fs.map Hl))(n:fs.length<=100)(k:∀H3,AccZ K H l H3 ((fs++[(x,y)]).map Hl)->Q .non H3) :
  ([V.int x,.int y].length<=sizeLine/\∀p,H2 p=none->ai σ (upd H2 p (.tup [.int x,.int y])) λxs H3=>aJ (.ref l) (.ref p :: xs) H3 Q):=by
 refine⟨aM,λp np=>?_⟩;have S:=aj np (.tup [V.int x,.int y]);refine Ft ?_;refine bW (A.on S) (d:=Hl (x,y)) (.tup ag (RpL.ints [x,y])) (aq (by rw[Rm];lia)) λH3 A3 _ _ _=>k H3 ?_
 rw[Rx];exact A3
def hZ{fs:List (Int×Int)}(h:∀q∈fs,FP s q)(n:FP s p):∀q∈fs++[p],FP s q:=b7 h n
def M2{n u v:Int}(h1:0<=u)(h2:u<n)(h3:0<=v)(h4:v<n-1):(u+1+v) % n≠u:=by
 intro e;by_cases z:u+1+v<n
 .rw[Zay (by lia) z] at e;lia
 .have e2:(u+1+v) % n=u+1+v-n:=by
   rw[<- Int.sub_emod_right,Zay (by lia) (by lia)]
  lia
def B_{s:Int}{fs:List (Int×Int)}{p:Int×Int}(h:∃q∈fs,q.2<s):∃q∈fs++[p],q.2<s:=by
 obtain⟨q,h1,h2⟩:=h;exact⟨q,Sa _ h1,h2⟩
def jS{s:Int}{fs:List (Int×Int)}{p:Int×Int}(h:p.2<s):∃q∈fs++[p],q.2<s:=⟨p,RU _ (RL.mpr rfl),h⟩
def zU{K:Fg}:ρ 13 (mE K) (lZ K):=by
 fail "R";obtain⟨a,ns,t,s,kd,pl,rfl,hS,t0,s2,s8,k0,k3,k⟩:=h;rw[L2.aO hN];walk_at "t";unfold lZ;cbv;refine⟨by decide,λl nl=>?_⟩;cbv
 refine aR (λi σ H2=>∃(fs:List (Int×Int)) (v6 v7:Option V),σ=[⇑a,↥t,↥s,↥kd,some (.bl pl),⇑l,v6,v7,none,none,none,none,none]/\AccZ K H l H2 (fs.map Hl)/\fs.length<=2*i/\(∀q∈fs,FP s q)/\(0<i->0<kd->∃q∈fs,q.2<s))
  ⟨[],none,none,rfl,AccZ.start (Same.refl _) nl,RB _,by simp,by simp⟩ ?_ ?_
 .rintro i σ H2 hi ⟨fs,v6,v7,rfl,A,hl,hf,hx⟩;have i8:(i:Int)<s:=by lia
  have hm0:=Tt (0+(i:Int)+1) (b:=s) (by lia);have hm1:=S_ (0+(i:Int)+1) (b:=s) (by lia)
  have hne:(0+(i:Int)+1) % s≠0+(i:Int):=by
   have z:=M2 (n:=s) (u:=0+(i:Int)) (v:=0) (by lia) (by lia) (by lia) (by lia);rw[VA] at z;exact z
  have back:∀(gs:List (Int×Int)) (H3:Hp) (D':bH),AccZ K H l H3 (gs.map Hl)->gs.length<=2*i+1->(∀q∈gs,FP s q)->(0<kd->∃q∈gs,q.2<s) ->
    (∀σ' H',(∃(fs:List (Int×Int)) (v6 v7:Option V),σ'=[⇑a,↥t,↥s,↥kd,some (.bl pl),⇑l,v6,v7,none,none,none,none,none]/\AccZ K H l H' (fs.map Hl)/\fs.length<=2*(i+1)/\(∀q∈fs,FP s q)/\(0<i+1->0<kd->∃q∈fs,q.2<s))->D'.nx σ' H') ->
    (aS (aP (ao gk (aa 3) (tC (.int 2))))
     (bn (dD K "list" aJ (aa 5) (ae (bg (ae (aa 7) (ae (aa 6) ai))) ai))) a7) D' [⇑a,↥t,↥s,↥kd,some (.bl pl),⇑l,some (.int (0+(i:Int))),some (.int ((0+(i:Int)+1) % s)),none,none,none,none,none] H3:=by
   intro gs H3 D' B lg fg xg fin;cbv;refine aX (λ_=>?_) (λ_=>?_)
   .cbv;refine⟨B.ty,?_⟩;cbv;refine kW B (by lia) λH4 B4=>?_
    exact fin _ _ ⟨_,_,_,rfl,B4,by simp;lia,hZ fg ⟨hm0,hm1,by dsimp only;lia,λe=>hne e⟩,λ_ z=>B_ (xg z)⟩
   .cbv;exact fin _ _ ⟨gs,_,_,rfl,B,by lia,fg,λ_ z=>xg z⟩
  cbv;refine aX (λe3=>?_) (λe3=>?_)
  .cbv;refine aX (λs3=>?_) (λs3=>?_)
   .cbv;refine⟨A.ty,?_⟩;cbv;refine kW A (by lia) λH3 B=>?_
    refine back _ _ _ B (by simp;lia) (hZ hf ⟨by dsimp only;lia,by dsimp only;lia,by dsimp only;lia,by dsimp only;lia⟩) (λz=>?_) λσ' H' z=>z
    by_cases i0:0<i
    .exact B_ (hx i0 z)
    .exact jS (by dsimp only;lia)
   .cbv;refine aX (λ_=>?_) (λz=>absurd z (by lia));cbv;refine⟨A.ty,?_⟩;cbv;refine kW A (by lia) λH3 B=>?_
    exact back _ _ _ B (by simp;lia) (hZ hf ⟨by dsimp only;lia,by dsimp only;lia,hm0,λe=>hne e.symm⟩) (λz=>jS hm1) λσ' H' z=>z
  .cbv;refine aX (λkp=>?_) (λkp=>?_)
   .cbv;refine⟨A.ty,?_⟩;cbv;refine kW A (by lia) λH3 B=>?_
    exact back _ _ _ B (by simp;lia) (hZ hf ⟨by dsimp only;lia,by dsimp only;lia,hm0,λe=>hne e.symm⟩) (λz=>jS hm1) λσ' H' z=>z
   .exact back fs _ _ A (by lia) hf (λz=>absurd z kp) λσ' H' z=>z
 rintro σ H2 ⟨fs,v6,v7,rfl,A,hl,hf,hx⟩;have s8':s.toNat<=8:=by lia
 cbv
 refine aR (λi σ H3=>∃(gs:List (Int×Int)) (u6 u7 u8 u9 u10:Option V),σ=[⇑a,↥t,↥s,↥kd,some (.bl pl),⇑l,u6,u7,u8,u9,u10,none,none]/\AccZ K H l H3 (gs.map Hl)/\gs.length<=16+i/\(∀q∈gs,FP s q)/\(0<kd\/0<i->∃q∈gs,q.2<s))
  ⟨fs,v6,v7,none,none,none,rfl,A,by lia,hf,λz=>hx (by lia) (by lia)⟩ ?_ ?_
 .rintro i σ H3 hi ⟨gs,u6,u7,u8,u9,u10,rfl,B,lg,fg,xg⟩;cbv;refine⟨a,ns,t+(0+(i:Int)),rfl,B.same.seq hS,by lia,?_⟩;generalize cellOf ns (t+(0+(i:Int)))=c
  have draw:∀(D':bH),(∀σ' H',(∃(gs:List (Int×Int)) (u6 u7 u8 u9 u10:Option V),σ'=[⇑a,↥t,↥s,↥kd,some (.bl pl),⇑l,u6,u7,u8,u9,u10,none,none]/\AccZ K H l H' (gs.map Hl)/\gs.length<=16+(i+1)/\(∀q∈gs,FP s q)/\(0<kd\/0<i+1->∃q∈gs,q.2<s))->D'.nx σ' H') ->
    (am (av (ao aQ (aw dF [] E0 (ae (aa 8) (ae (tC (.int 50)) ai))) (aa 2)) (al 9))
    (am (av (ao aQ (aw dF [] E0 (ae (aa 8) (ae (tC (.int 51)) ai))) (ao g6 (aa 2) (tC (.int 1)))) (al 10))
    (am (aS (tB (aa 4))
    (am (av (ao aQ (ao aQ (ao bV (aa 8) (tC (.int 5))) (tC (.int 8))) (aa 2)) (al 9))
    (av (ao aQ (ao aQ (ao bV (aa 8) (tC (.int 40))) (tC (.int 8))) (ao g6 (aa 2) (tC (.int 1)))) (al 10)))
    a7)
    (bn (dD K "list" aJ (aa 5) (ae (bg (ae (aa 9) (ae (ao aQ (ao aW (ao aW (aa 9) (tC (.int 1))) (aa 10)) (aa 2)) ai))) ai)))))) D'
     [⇑a,↥t,↥s,↥kd,some (.bl pl),⇑l,some (.int (0+(i:Int))),u7,↥c,u9,u10,none,none] H3:=by
   intro D' fin
   have last:∀o st:Int,0<=o->o<s->0<=st->st<s-1->FP s (o,(o+1+st) % s)/\(o+1+st) % s<s:=λo st h1 h2 h3 h4 =>
    ⟨⟨h1,h2,Tt _ (by lia),λe=>M2 h1 h2 h3 h4 e.symm⟩,S_ _ (by lia)⟩
   cbv;refine⟨c,50,rfl,by decide,by decide,λy hy=>?_⟩;have y0:=Tt y (b:=s) (by lia);have y1:=S_ y (b:=s) (by lia);cbv;refine⟨c,51,rfl,by decide,by decide,λw hw=>?_⟩;have w0:=Tt w (b:=s-1) (by lia);have w1:=S_ w (b:=s-1) (by lia);cbv;cases pl with
   |true =>
    have z0:=Tt (c / 5 % 8) (b:=s) (by lia);have z1:=S_ (c / 5 % 8) (b:=s) (by lia);have x0:=Tt (c / 40 % 8) (b:=s-1) (by lia);have x1:=S_ (c / 40 % 8) (b:=s-1) (by lia);cbv;refine⟨B.ty,?_⟩;cbv;refine kW B (by lia) λH4 B4=>?_
    obtain⟨o1,o2⟩:=last (c / 5 % 8 % s) (c / 40 % 8 % (s-1)) z0 z1 x0 x1;exact fin _ _ ⟨_,_,_,_,_,_,rfl,B4,by simp;lia,hZ fg o1,λ_=>jS o2⟩
   |false =>
    cbv;refine⟨B.ty,?_⟩;cbv;refine kW B (by lia) λH4 B4=>?_
    obtain⟨o1,o2⟩:=last (y % s) (w % (s-1)) y0 y1 w0 w1;exact fin _ _ ⟨_,_,_,_,_,_,rfl,B4,by simp;lia,hZ fg o1,λ_=>jS o2⟩
  cbv;refine aX (λz=>?_) (λz=>?_)
  .fail "1";exact draw _ λσ' H' z=>z
  .cbv;refine aX (λy=>?_) (λy=>?_)
   .exact draw _ λσ' H' z=>z
   .cbv;exact⟨gs,_,_,_,_,_,rfl,B,by lia,fg,λ_=>xg (.inl (by lia))⟩
 rintro σ H3 ⟨gs,u6,u7,u8,u9,u10,rfl,B,lg,fg,xg⟩;have xg':=xg (.inr (by decide));obtain⟨xs,hl3,rx⟩:=B.at_;have lx:xs.length=gs.length:=by rw[rx.length,Rm]
 cbv;refine⟨by decide,λl2 nl2=>?_⟩;cbv;have S2:=aj nl2 (.lst []);refine iO (SqL.of (S2 _ _ hl3)) ?_
 refine bz (xs:=xs) (λi σ H4=>∃(ps:List (Nat×Nat)) (w6 w7 w8 w9 w10 w12:Option V),σ=[⇑a,↥t,↥s,↥kd,some (.bl pl),⇑l,w6,w7,w8,w9,w10,⇑l2,w12]/\AccZ K H3 l2 H4 (ps.map dP)/\ps.Nodup/\ps.length<=8/\(∀q∈ps,lF s.toNat q)/\((∃q∈gs.take i,q.2<s)->ps≠[]))
  ⟨[],u6,u7,u8,u9,u10,none,rfl,AccZ.start (Same.refl _) nl2,Uu,by decide,by simp,by simp⟩ ?_ ?_ ?_
 .rintro i σ H4 _ ⟨ps,w6,w7,w8,w9,w10,w12,rfl,C,_⟩;exact SqL.of (C.same _ _ hl3)
 .rintro i z σ H4 hz ⟨ps,w6,w7,w8,w9,w10,w12,rfl,C,nd,l8,okp,hne⟩;obtain⟨dd,g1,g2⟩:=rx.get hz;rw[Rt] at g1;obtain⟨g,eg,rfl⟩:=RD.mp g1;have og:=fg g (Ry eg);obtain⟨tz,zs,e1,st,rt⟩:=(g2.same C.same).cr;cases e1;cases RpL.ints_of (ns:=[g.1,g.2]) rt;obtain⟨x,y⟩:=g;obtain⟨o0,o1,o2,o3⟩:=og;dsimp only at o0 o1 o2 o3
  have oo:y<s->lF s.toNat (x.toNat,y.toNat):=λys=>by
   clear hne xg xg' hx;exact⟨by show x.toNat<s.toNat;lia,by show y.toNat<s.toNat;lia,by show x.toNat≠y.toNat;lia⟩
  have tk:gs.take (i+1)=gs.take i++[(x,y)]:=by rw[RP,eg];rfl
  have old:(∃q∈gs.take (i+1),q.2<s)->¬ y<s->∃q∈gs.take i,q.2<s:=by
   rintro⟨q,h1,h2⟩ ny;rw[tk] at h1;rcases RX.mp h1 with h|h
   .exact⟨q,h,h2⟩
   .rw[RL.mp h] at h2;exact absurd h2 ny
  have st':H4 tz=some (.tup [.int x,.int y]):=st;refine bG (SqT.of st') rfl ?_;cbv;refine⟨aM,λp np=>?_⟩;have S5:=aj np (.tup [V.int x,.int y]);have C5:=C.on S5;have r5:Rz K (upd H4 p (.tup [V.int x,.int y])) (.ref p) (dI [x,y]):=.tup ag (RpL.ints [x,y])
  have eP:dI [x,y]=dP (x.toNat,y.toNat):=by
   show dI [x,y]=dI [((x.toNat:Nat):Int),((y.toNat:Nat):Int)];rw[ZA o0,ZA o2]
  rw[eP] at r5;cbv;refine oi r5.rep C5.rep (λe he=>by obtain⟨b,_,rfl⟩:=RO.mp he;exact wR _ 7) (wR _ 7) (λnm=>?_) (λmm=>?_)
  .cbv;refine aX (λys=>?_) (λys=>?_)
   .obtain⟨xs5,s5,n5,_⟩:=C5.sq;rw[Rm] at n5;cbv;refine cw s5 ?_;cbv;refine aX (λlt=>?_) (λge=>?_)
    .cbv;refine⟨C5.ty,?_⟩;cbv;refine⟨aM,λp' np'=>?_⟩;have S6:=aj np' (.tup [V.int x,.int y]);refine Ft ?_;refine bW (C5.on S6) (d:=dP (x.toNat,y.toNat)) (by rw[<- eP];exact .tup ag (RpL.ints [x,y])) (aq (by rw[Rm];lia)) λH6 C6 _ _ _=>?_
     cbv;exact⟨ps++[(x.toNat,y.toNat)],_,_,_,_,_,_,rfl,by rw[Rx];exact C6,cA nd λz=>nm (M5.mpr z),by simp;lia,b7 okp (oo ys),by simp⟩
    .have lz:ps=[]->False:=λz=>by
      have z0:ps.length=0:=by rw[z];rfl
      clear hne xg xg' hx;lia
     cbv;exact⟨ps,_,_,_,_,_,_,rfl,C5,nd,l8,okp,λ_ z=>lz z⟩
   .cbv;exact⟨ps,_,_,_,_,_,_,rfl,C5,nd,l8,okp,λz=>hne (old z ys)⟩
  .cbv;exact⟨ps,_,_,_,_,_,_,rfl,C5,nd,l8,okp,λ_ z=>by rw[z] at mm;cases mm⟩
 .rintro σ H4 ⟨ps,w6,w7,w8,w9,w10,w12,rfl,C,nd,l8,okp,hne⟩;rw[lx,RG (RB _)] at hne;cbv;exact k l2 H4 ps (vV B.same C) nd l8 (hne xg') okp
abbrev uH(K:Fg):Sp:=λvs H Q _=>∃(a:Addr) (ns:List Int) (t:Int),vs=[.ref a,.int t]/\SqL K H a (ns.map V.int)/\0<=t/\∀(p:Addr) (H':Hp) (ws:List Str) (ts:List Tn),Same H H'->gK ws ts->Rz K H' (.ref p) (dV ws ts)->Q (.ref p) H'
nonrec abbrev DA (K:Fg):TS:=(bn (dD K "list" aJ (aa 8) (ae (bg (ae (ao (bI K) (aa 6) (aa 11)) (ae (ao (bI K) (aa 6) (aa 12)) (ae (aw (jb K) [] E0 (ae (ao bV (aa 10) (tC (.int 320))) (ae (ao aQ (ao bV (aa 2) (tC (.int 420))) (tC (.int 3))) ai))) ai)))) ai)))
nonrec abbrev Dz(K:Fg):TS:=(am (av (aw (cC K) [] E0 (ae (aa 0) (ae (ao aW (ao aW (aa 1) (tC (.int 7))) (aa 9)) ai))) (al 10))
 (am (av (ao (bI K) (aa 7) (aa 9)) (cj K 2 (aY (al 11) (aY (al 12) ck))))
 (DA K)))
nonrec abbrev Dy(K:Fg):TS:=(am (a9 (b_ (ae (bU (bZ K) (ae (aa 7) ai)) ai)) (al 9)
 (Dz K))
 (aE (bg (ae (aw (gg K) [] E0 (ae (ao bV (aa 2) (tC (.int 2520))) (ae (aa 3) ai))) (ae (bU (cE K) (ae (aa 8) ai)) ai)))))
nonrec abbrev Dx(K:Fg):TS:=(am (av (aw (mE K) [] E0 (ae (aa 0) (ae (ao aW (aa 1) (tC (.int 7))) (ae (bU (bZ K) (ae (aa 6) ai)) (ae (ao aQ (ao bV (aa 2) (tC (.int 105))) (tC (.int 4))) (ae (aa 5) ai)))))) (al 7))
 (am (av (bP ai) (al 8))
 (Dy K)))
nonrec abbrev Dw(K:Fg):TS:=(am (av (aw (sG K) [] E0 (ae (aa 0) (ae (ao aW (aa 1) (tC (.int 1))) (ae (aa 3) (ae (ao aW (tC (.int 2)) (ao aQ (ao bV (aa 2) (tC (.int 15))) (tC (.int 7)))) (ae (aa 4) (ae (aa 5) ai))))))) (al 6))
 (Dx K))
nonrec abbrev Du(K:Fg):TS:=(am (av (ao aW (tC (.int 1)) (ao aQ (aa 2) (tC (.int 5)))) (al 3))
 (am (av (ao aW (tC (.int 2)) (ao aQ (ao bV (aa 2) (tC (.int 5))) (tC (.int 3)))) (al 4))
 (am (av (ao gk (ao aQ (ao bV (aa 2) (tC (.int 1260))) (tC (.int 2))) (tC (.int 1))) (al 5))
 (Dw K))))
abbrev xZ(K:Fg):TS:=(am (av (aw dF [] E0 (ae (aw (cC K) [] E0 (ae (aa 0) (ae (aa 1) ai))) (ae (tC (.int 1)) ai))) (al 2))
 (Du K))
def IC{K:Fg}:ρ 13 (uH K) (xZ K):=by
 fail "R";obtain⟨a,ns,t,rfl,hS,t0,k⟩:=h;rw[L2.aO hN];walk_at "t";unfold xZ;cbv;refine⟨a,ns,t,rfl,hS,t0,?_⟩;generalize cellOf ns t=c;cbv;refine⟨c,1,rfl,by decide,by decide,λn ω=>?_⟩;obtain⟨n0,_⟩:=ω;cbv;generalize decide (n / 1260 % 2=1)=pl;refine⟨a,ns,t+1,1+n % 5,2+n / 15 % 7,2+n / 5 % 3,pl,rfl,hS,by lia,by lia,by lia,by lia,by lia,by lia,by lia,λpp H1 hs A1 op h2 h8=>?_⟩;obtain⟨xs,hpp,rz⟩:=A1.at_;have lx:xs.length=hs.length:=by rw[rz.length,Rm]
 have S1:=A1.same;cbv;refine cw (SqL.of hpp) ?_;cbv;refine⟨a,ns,t+7,(xs.length:Int),n / 105 % 4,pl,rfl,S1.seq hS,by lia,by lia,by lia,by lia,by lia,λpr H2 ps A2 nd l8 ne okp=>?_⟩;obtain⟨ys,hpr,ry⟩:=A2.at_;have ly:ys.length=ps.length:=by rw[ry.length,Rm]
 have S2:=A2.same;have S02:=S1.trans S2;cbv;refine⟨by decide,λl nl=>?_⟩;cbv;have Sl:=aj nl (.lst []);refine cw (SqL.of (Sl _ _ hpr)) ?_;rw[ly];cbv;have et:((ps.length:Nat):Int).toNat=ps.length:=by lia
 rw[et]
 refine aR (λi σ H3=>∃(ts:List Tn) (v9 v10 v11 v12:Option V),σ=[⇑a,↥t,↥n,↥(1+n % 5),↥(2+n / 5 % 3),some (.bl pl),⇑pp,⇑pr,⇑l,v9,v10,v11,v12]/\AccZ K H2 l H3 (ts.map dT)/\ts.map cf=(ps.take i).map (rA hs)/\∀t∈ts,gL t.q t.d)
  ⟨[],none,none,none,none,rfl,AccZ.start (Same.refl _) nl,rfl,by simp⟩ ?_ ?_
 .rintro i σ H3 hi ⟨ts,v9,v10,v11,v12,rfl,A,em,pc⟩;have S3:=A.same
  have lts:ts.length=i:=by
   have:=congrArg Ue em
   rw[Rm,Rm,RT] at this;lia
  have eq1:ps[i]?=some ps[i]:=Rn hi;have oq:=okp _ (Td hi);generalize ps[i]=q at eq1 oq;have oq1:q.1<hs.length:=by have:=oq.1;lia
  have oq2:q.2<hs.length:=by have:=oq.2.1;lia
  obtain⟨w,ew,rw_⟩:=ry.get' (i:=i) (d:=dP q) (by rw[Rt,eq1];rfl);cbv;refine⟨a,ns,t+7+(0+(i:Int)),rfl,(S02.trans S3).seq hS,by lia,?_⟩;generalize cellOf ns (t+7+(0+(i:Int)))=c2;cbv;refine bQ (SqL.of (S3 _ _ hpr)) (v:=w) (by rw[Vi];exact aK ew) ?_;obtain⟨tz,zs,rfl,st,rt⟩:=(rw_.same S3).cr;cases RpL.ints_of (ns:=[(q.1:Int),(q.2:Int)]) rt;have st':H3 tz=some (.tup [.int (q.1:Int),.int (q.2:Int)]):=st;refine bG (SqT.of st') rfl ?_;have g1:(hs.map dI)[q.1]?=some (dI (hs.getD q.1 [])):=by rw[Rt,Rr,Rn oq1];rfl
  have g2:(hs.map dI)[q.2]?=some (dI (hs.getD q.2 [])):=by rw[Rt,Rr,Rn oq2];rfl
  obtain⟨w1,ew1,rw1⟩:=rz.get' g1;obtain⟨w2,ew2,rw2⟩:=rz.get' g2;have S13:=S2.trans S3;cbv;refine⟨A.ty,?_⟩;cbv;refine bQ (SqL.of (S13 _ _ hpp)) (aK ew1) ?_;cbv;refine bQ (SqL.of (S13 _ _ hpp)) (aK ew2) ?_;cbv;refine⟨_,_,rfl,λpa pq pd H4 S4 ok4 r4=>?_⟩;cbv;refine⟨fS,λpt npt=>?_⟩;have S5:=aj npt (.tup [w1,w2,.ref pa]);have S15:=S13.trans (S4.trans S5);have r5:Rz K (upd H4 pt (.tup [w1,w2,.ref pa])) (.ref pt) (dT ⟨hs.getD q.1 [],hs.getD q.2 [],pq,pd⟩):=.tup ag (.cons (rw1.same S15) (.cons (rw2.same S15) (.cons (r4.same S5) .nil)));cbv;refine bW (A.on (S4.trans S5)) r5 (aq (by rw[Rm];lia)) λH6 A6 _ _ _=>?_
  cbv;refine⟨ts++[_],_,_,_,_,rfl,by rw[Rx];exact A6,?_,b7 pc ok4⟩;rw[Rx,em,RP,eq1,Rx];rfl
 .rintro σ H3 ⟨ts,v9,v10,v11,v12,rfl,A,em,pc⟩;rw[RG (RB _)] at em;have S3:=A.same;obtain⟨zs,hl,rzs⟩:=A.at_;have gd:G1.Good hs ps ts:=⟨nd,l8,em,λp hp=>by have:=okp p hp;have e:((xs.length:Nat):Int).toNat=hs.length:=(by lia);rw[e] at this;exact this,pc⟩
  have tk:=gd.turns op.1 ne;cbv;refine⟨n / 2520,1+n % 5,rfl,by lia,by lia,by lia,λpw H4 ws S4 ow lw r4=>?_⟩;cbv;refine fJ (SqL.of (S4 _ _ hl)) λp np=>?_
  have S5:=aj np (.tup zs);cbv;refine⟨aM,λr nr=>?_⟩;have S6:=aj nr (.tup [.ref pw,.ref p]);have r5:Rz K (upd H4 p (.tup zs)) (.ref p) (.tuple (ts.map dT)):=.tup ag ((rzs.same S4).same S5);refine k r _ ws ts (S02.trans (S3.trans (S4.trans (S5.trans S6)))) ⟨ow,by lia,by lia,hs,?_,h8,tk⟩ (.tup ag (.cons ((r4.same S5).same S6) (.cons (r5.same S6) .nil)));rw[lw];exact op
end G2
namespace Ti
open PySem L2 Fr G1 Sm Vs G2
open PySem.W (Dat kqdOk)
abbrev ix:List (List Int)->List Int->Nat
 |[],_=>0
 |x :: xs,h=>if x=h then 0 else ix xs h+1
def NX:∀{hs:List (List Int)} {h:List Int},h∈hs->hs[ix hs h]?=some h
 |x :: xs,h,m=>by
  unfold ix;by_cases e:x=h
  .rw[if_pos e,e];rfl
  .rw[if_neg e,WH];exact NX ((RW.mp m).resolve_left λz=>e z.symm)
def NU:∀{hs:List (List Int)} {h:List Int} {i:Nat},hs.Nodup->hs[i]?=some h->ix hs h=i
 |x :: xs,h,0,nd,e=>by
  unfold ix;rw[if_pos (RY e)]
 |x :: xs,h,i+1,nd,e=>by
  rw[SJ] at nd;rw[WH] at e;unfold ix;rw[if_neg (show ¬ x=h from λz=>nd.1 (by rw[z];exact Ry e)),NU nd.2 e]
def NW{hs:List (List Int)}{h:List Int}(m:h∈hs):ix hs h<hs.length:=(Rq.mp (NX m)).1
def om{hs:List (List Int)}{x:List Int}(m:x∈hs):x∈cJ hs h:=by
 unfold cJ;split
 .exact m
 .exact Sa _ m
def vA(hs:List (List Int))(h:List Int):h∈cJ hs h:=by
 unfold cJ;split
 .assumption
 .exact RU _ (RL.mpr rfl)
def oA:∀{ts:List Tn} {hs:List (List Int)} {x:List Int},x∈hs->x∈iQ hs ts
 |[],_,_,m=>m
 |t :: ts,hs,x,m=>oA (ts:=ts) (om (om m))
def gE:∀{ts:List Tn} {hs:List (List Int)} {t:Tn},t∈ts->t.fr∈iQ hs ts/\t.to∈iQ hs ts
 |u :: ts,hs,t,m=>by
  rcases RW.mp m with rfl|m
  .exact⟨oA (ts:=ts) (om (vA _ _)),oA (ts:=ts) (vA _ _)⟩
  .exact gE (ts:=ts) m
def By{hs:List (List Int)}(nd:hs.Nodup):(cJ hs h).Nodup:=by
 unfold cJ;split
 .exact nd
 .rename_i z;exact cA nd z
def BG:∀(ts:List Tn) {hs:List (List Int)},hs.Nodup->(iQ hs ts).Nodup
 |[],_,nd=>nd
 |t :: ts,_,nd=>BG ts (By (By nd))
def G7(ts:List Tn):(a8 ts).Nodup:=BG ts Uu
def BD{ts:List Tn}(l:ts.length<=100):(a8 ts).length<=200:=by
 have:=oB ts []
 unfold a8;simp only[VF] at this;lia
abbrev aD(ts:List Tn):List (Nat×Nat):=ts.map λt=>(ix (a8 ts) t.fr,ix (a8 ts) t.to)
abbrev OS(n:Nat)(es:List (Nat×Nat)):Prop:=∀e∈es,e.1<n/\e.2<n
def cV(ts:List Tn):OS (a8 ts).length (aD ts):=λe he=>by
 obtain⟨t,ht,rfl⟩:=RO.mp he
 have:=gE (hs:=[]) ht
 exact⟨NW this.1,NW this.2⟩
abbrev je(K:Fg):Sp:=λvs H Q _=>∃(v:V) (ws:List Str) (ts:List Tn),vs=[v]/\Rz K H v (dV ws ts)/\ts.length<=100/\∀(p:Addr) (H':Hp),AccZ K H p H' ((aD ts).map dP)->Q (.ref p) H'
def KH{K:Fg}{H:Hp}{σ:St}{Q:VK}{te:TE}{ts:List Tn}(l:ts.length<=100)(hb:H b=some (.tup xs))(rx:RzL K H xs (ts.map dT))
  (ht:∀(H2:Hp) (v:V) (t:Tn) (Q':VK),t∈ts->Same H H2->Rz K H2 v (dT t)->(∀p,H2 p=none->Q' (.ref p) (upd H2 p (.tup [.int (ix (a8 ts) t.fr),.int (ix (a8 ts) t.to)])))->te (some v :: σ) H2 Q')
  (hq:∀(D:Addr) (H':Hp),AccZ K H D H' ((aD ts).map dP)->Q (.ref D) H'):cQ (xC K b) te σ Q H:=by
 have lx:xs.length=ts.length:=by rw[rx.length,Rm]
 refine FX (xs:=xs) λD nD=>⟨λi H2=>AccZ K H D H2 (((ts.take i).map λt=>(ix (a8 ts) t.fr,ix (a8 ts) t.to)).map dP),AccZ.start (Same.refl _) nD,λi H2 _ A=>SqT.of (A.same _ _ hb),?_,?_⟩
 .intro i z H2 hz A;obtain⟨dd,g1,g2⟩:=rx.get hz;rw[Rt] at g1;obtain⟨t,et,rfl⟩:=RD.mp g1;have li:i<ts.length:=(Rq.mp et).1;refine ht H2 z t _ (Ry et) A.same (g2.same A.same) λp np=>?_
  have S3:=aj np (.tup [V.int (ix (a8 ts) t.fr),.int (ix (a8 ts) t.to)]);refine a_ (by lia) ((A.on S3).cF (d:=dP (ix (a8 ts) t.fr,ix (a8 ts) t.to)) (.tup ag (RpL.ints [_,_])) (aq ?_) λH4 A4=>?_)
  .rw[Rm,Rm,RT];lia
  .show AccZ K H D H4 (((ts.take (i+1)).map λt=>(ix (a8 ts) t.fr,ix (a8 ts) t.to)).map dP);rw[RP,et,Rx,Rx];exact A4
 .intro H2 A;rw[lx,RG (RB _)] at A;exact hq D H2 A
nonrec abbrev DR(K:Fg):TS:=(am (a9 (iP K (ae (aw (gU K) [] E0 (ae (aa 0) ai)) ai)) (cj K 2 (aY (al 2) (aY (al 3) ck)))
 (pO (aa 1) (aa 3) (aa 2)))
 (aE (fA (BA K (ao (aG K) (aa 0) (tC (.int 1)))) (bg (ae (sv (aa 2) (ao (aG K) (aa 0) (tC (.int 0)))) (ae (sv (aa 2) (ao (aG K) (aa 0) (tC (.int 1)))) ai))))))
abbrev yy(K:Fg):TS:=(am (av yZ (al 1))
 (DR K))
def IS{K:Fg}:ρ 4 (je K) (yy K):=by
 fail "R";obtain⟨v,ws,ts,rfl,rv,hl,k⟩:=h;rw[L2.aO hN];walk_at "t";have hl2:=BD hl;have nd:=G7 ts;unfold yy;cbv;intro d fd;have S0:=aj fd (.dT []);cbv;refine⟨v,ws,ts,rfl,rv.same S0,hl,λp H1 A1=>?_⟩;obtain⟨xs,hp,rx⟩:=A1.at_;have lx:xs.length=(a8 ts).length:=by rw[rx.length,Rm]
 have S1:=A1.same;have e1:H1 d=some (.dT []):=S1 _ _ ag;cbv;refine⟨p,xs,rfl,SqL.of hp,?_⟩
 refine dB (xs:=xs) (λi σ H2=>∃(de:List (List ba×V)) (u2 u3:Option V),σ=[some v,⇑d,u2,u3]/\Same H H2/\(∀b o,b≠d->H1 b=some o->H2 b=some o)/\H2 d=some (.dT de)/\de.length<=i/\∀g:List Int,g∈(a8 ts).take i->bE de (iX g)=some (.int (ix (a8 ts) g)))
  ⟨[],none,none,rfl,S0.trans S1,λ_ _ _ z=>z,e1,RB _,by simp⟩ ?_ ?_ ?_
 .rintro i σ H2 _ ⟨de,u2,u3,rfl,S,kp,ed,ek,eg⟩;exact SqL.of (kp p _ (kG hp e1 (by intro z;cases z)) hp)
 .rintro i z σ H2 T hz ⟨de,u2,u3,rfl,S,kp,ed,ek,eg⟩ nT;obtain⟨dd,g1,g2⟩:=rx.get hz;rw[Rt] at g1;obtain⟨g,hg,rfl⟩:=RD.mp g1;have li:i<(a8 ts).length:=(Rq.mp hg).1;obtain⟨b,rfl,hb⟩:=bM g2;have nbd:b≠d:=kG hb e1 (by intro z;cases z);have S2:=aj nT (.tup [.int (i:Int),.ref b]);have nTd:T≠d:=(au ed nT).symm;have ed2:=S2 _ _ ed;have hb2:=S2 _ _ (kp b _ nbd hb);refine bG (SqT.of ag) rfl ?_;cbv;refine⟨d,_,rfl,DPut.t ed2 (k:=iX g) (by rw[kK];exact hb2) (aq (by lia)),?_⟩;have le1:=b6 de (iX g) (.int (i:Int));refine⟨_,_,_,rfl,λb' o q=>?_,λb' o n q=>?_,ag,by lia,λg' mg=>?_⟩
  .rw[aC (au q fd)];exact S2 _ _ (S _ _ q)
  .rw[aC n];exact S2 _ _ (kp b' o n q)
  .rw[lO];by_cases e:iX g'=iX g
   .rw[if_pos e,xU e,NU nd hg]
   .rw[if_neg e];refine eg g' ?_;rw[RP,hg] at mg;rcases RX.mp mg with m|m
    .exact m
    .exact absurd (by rw[RL.mp m]) e
 .rintro σ H2 ⟨de,u2,u3,rfl,S,kp,ed,ek,eg⟩;rw[lx,RG (RB _)] at eg;obtain⟨a0,y1,y2,rfl,ha0,_,r2⟩:=t5 (rv.same S);obtain⟨a,zs,rfl,ha,rz⟩:=r2.cr;cbv;refine aF (SqT.of ha0) (v:=.ref a) rfl ?_;refine PZ (SqT.of ha) ?_;refine KH hl ha rz (λH3 z t Q' mt S3 rt q=>?_) λD H' A=>k D H' (vV S A)
  obtain⟨b,w1,w2,w3,rfl,hb,q1,q2,_⟩:=oJ rt;obtain⟨b1,rfl,hb1⟩:=bM q1;obtain⟨b2,rfl,hb2⟩:=bM q2;have mm:=gE (hs:=[]) mt;cbv;refine aF (SqT.of hb) (v:=.ref b1) rfl ?_;refine⟨d,_,rfl,(by have:=DGet.t (S3 _ _ ed) (k:=iX t.fr) (b:=b1) (by rw[kK];exact hb1);rw[eg t.fr mm.1] at this;exact this),?_⟩;cbv;refine aF (SqT.of hb) (v:=.ref b2) rfl ?_;refine⟨d,_,rfl,(by have:=DGet.t (S3 _ _ ed) (k:=iX t.to) (b:=b2) (by rw[kK];exact hb2);rw[eg t.to mm.2] at this;exact this),?_⟩;cbv;exact⟨aM,q⟩
def b9{α:Type}[DecidableEq α]:∀{l hs:List α},l.Nodup->(∀x∈l,x∈hs)->l.length<=hs.length
 |[],_,_,_=>SD _
 |x :: l,hs,nd,sub=>by
  rw[SJ] at nd;have hx:=sub x Ru
  have h:=b9 (l:=l) (hs:=hs.erase x) nd.2 λy hy=>by
   refine(List.mem_erase_of_ne ?_).mpr (sub y (RA _ hy));rintro rfl;exact nd.1 hy
  rw[List.length_erase_of_mem hx] at h
  have:=YV hx
  rw[Sn];lia
inductive Rch (es:List (Nat×Nat)) (a:Nat):Nat->Prop
 |refl:Rch es a a
 |step {x y:Nat}:Rch es a x->(x,y)∈es->Rch es a y
abbrev Cl(es:List (Nat×Nat))(S:List Nat):Prop:=∀e∈es,e.1∈S->e.2∈S
def Ma{S:List Nat}{a:Nat}(ha:a∈S)(c:Cl es S)(h:Rch es a b):b∈S:=by
 induction h with
 |refl=>exact ha
 |step _ m ih=>exact c _ m ih
abbrev dN(n:Nat):Dat:=.int (n:Int)
def Cj{K:Fg}(h:Rz K H v (dP q)):∃a:Addr,v=.ref a/\H a=some (.tup [.int (q.1:Int),.int (q.2:Int)]):=by
 obtain⟨a,xs,e,ha,r⟩:=h.cr;cases RpL.ints_of (ns:=[(q.1:Int),(q.2:Int)]) r;exact⟨a,e,ha⟩
abbrev uP(K:Fg):Sp:=λvs H Q _=>∃(v:V) (ws:List Str) (ts:List Tn) (n:Nat),vs=[v,.int (n:Int)]/\Rz K H v (dV ws ts)/\ts.length<=100/\n<(a8 ts).length/\∀H',Same H H'->Q .non H'
abbrev yR(K:Fg):TS:=(aS (Gw (fR (tB (aw d_ [] E0 (ae (aa 1) ai)))) (fR (aP (uD Ph xE (tC (.int 0)) (aa 1) (bU (bZ K) (ae (aw (gU K) [] E0 (ae (aa 0) ai)) ai))))))
 o8
 a7)
def IZ{K:Fg}:ρ 2 (uP K) (yR K):=by
 fail "R";obtain⟨v,ws,ts,n,rfl,rv,hl,ln,k⟩:=h;rw[L2.aO hN];walk_at "t";unfold yR;cbv;refine⟨(n:Int),rfl,?_⟩;cbv;refine aX (λ_=>?_) (λz=>absurd z (by lia));cbv;refine⟨v,ws,ts,rfl,rv,hl,λp H1 A1=>?_⟩;obtain⟨xs,hp,lx,_⟩:=A1.sq;rw[Rm] at lx;cbv;refine cw hp ?_;cbv;refine im (λz=>absurd z (by lia)) (λ_=>?_);cbv;exact k H1 A1.same
structure RI (es:List (Nat×Nat)) (a n:Nat) (H3:Hp) (rd ct:Addr) (cs:List Nat) (H:Hp):Prop where
 same:Same H3 H
 dict:∃de:List (ba×V),H rd=some (.dK de)/\de.length<=cs.length/\(∀c:Nat,(bE de (.inl (c:Int))).isSome=true↔c∈cs)/\∀k v,bE de k=some v->∃q xs,v=.ref q/\H q=some (.lst xs)/\q≠ct/\xs.length<=cs.length
 come:H ct=some (.lst (cs.map λc:Nat=>V.int (c:Int)))
 nd:cs.Nodup
 lt:∀c∈cs,c<n
 one:a∈cs
 rch:∀c∈cs,Rch es a c
def RI.on(R:RI es a n H3 rd ct cs H)(S:Same H H'):RI es a n H3 rd ct cs H':=by
 obtain⟨de,h1,h2,h3,h4⟩:=R.dict;refine⟨R.same.trans S,⟨de,S _ _ h1,h2,h3,λk v e=>?_⟩,S _ _ R.come,R.nd,R.lt,R.one,R.rch⟩;obtain⟨q,xs,e1,e2,e3⟩:=h4 k v e;exact⟨q,xs,e1,S _ _ e2,e3⟩
def RI.len(R:RI es a n H3 rd ct cs H):cs.length<=n:=by
 have:=b9 (hs:=RQ n) R.nd λx hx=>Sr.mpr (R.lt x hx)
 rwa [R5] at this
def RI.more{de:List (ba×V)}{y:Nat}(R:RI es a n H3 rd ct cs H)(nr:H3 rd=none)(nc:H3 ct=none)(ed:H rd=some (.dK de))(ny:y∉cs)(ly:y<n)(ry:Rch es a y)
  (hp:H p=some (.lst xs)) (npc:p≠ct) (lxs:xs.length<=cs.length+1) :
  RI es a n H3 rd ct (cs++[y]) (upd (upd H rd (.dK (b5 de (.inl (y:Int)) (.ref p)))) ct (.lst ((cs.map λc:Nat=>V.int (c:Int))++[.int (y:Int)]))):=by
 obtain⟨kvs',h1,h2,h3,h4⟩:=R.dict;rw[ed] at h1;cases h1;have ncr:rd≠ct:=kG ed R.come (by intro z;cases z);have lp:=b6 de (V0 (y:Int):ba) (.ref p);refine⟨λb o q=>?_,⟨_,by rw[aC ncr];exact ag,by rw[RF];simp only[TQ];lia,λc=>?_,λk v e=>?_⟩,by rw[ag,Rx];rfl,cA R.nd ny,b7 R.lt ly,Sa _ R.one,b7 R.rch ry⟩
 .rw[aC (au q nc),aC (au q nr)];exact R.same b o q
 .rw[lO,RX,RL];by_cases e:c=y
  .subst e;simp
  .rw[if_neg (show ¬ ((V0 (c:Int):ba)=V0 (y:Int)) from λz=>e (Xn (WE z))),h3 c];simp[e]
 .rw[lO] at e
  have keep:∀q ys,H q=some (.lst ys)->q≠ct->upd (upd H rd (.dK (b5 de (.inl (y:Int)) (.ref p)))) ct (.lst ((cs.map λc:Nat=>V.int (c:Int))++[.int (y:Int)])) q=some (.lst ys):=λq ys hq nq=>by
   rw[aC nq,aC (kG hq ed (by intro z;cases z))];exact hq
  rw[RF];simp only[TQ];by_cases ek:k=.inl (y:Int)
  .rw[if_pos ek] at e;exact⟨p,xs,(RY e).symm,keep p xs hp npc,npc,lxs⟩
  .rw[if_neg ek] at e;obtain⟨q,ys,e1,e2,e3,e4⟩:=h4 k v e;exact⟨q,ys,e1,keep q ys e2 e3,e3,by lia⟩
abbrev zj(K:Fg):Sp:=λvs H Q _=>∃(v:V) (ws:List Str) (ts:List Tn) (a b:Nat),vs=[v,.int (a:Int),.int (b:Int)]/\Rz K H v (dV ws ts)/\ts.length<=100/\a<(a8 ts).length/\b<(a8 ts).length /\
 (Rch (aD ts) a b->∀(p:Addr) (H':Hp),Same H H'->Q (.ref p) H')/\(¬ Rch (aD ts) a b->∀H',Same H H'->Q .non H')
nonrec abbrev DH(K:Fg):TS:=(aS (mn (aP (ao gk (ao (aG K) (aa 9) (tC (.int 0))) (aa 7))) (tB (sr (ao (aG K) (aa 9) (tC (.int 1))) (aa 4))))
 (am (pO (aa 4) (ao (aG K) (aa 9) (tC (.int 1))) (ao Ah (sv (aa 4) (aa 7)) (bP (ae (aa 8) ai))))
 (bn (dD K "list" aJ (aa 5) (ae (ao (aG K) (aa 9) (tC (.int 1))) ai))))
 a7)
nonrec abbrev DG(K:Fg):TS:=(am (ic (aP (ao xE (aa 6) (bU (bZ K) (ae (aa 5) ai))))
 (am (av (ao (bI K) (aa 5) (aa 6)) (al 7))
 (am (a9 (iP K (ae (aa 3) ai)) (cj K 2 (aY (al 8) (aY (al 9) ck)))
 (DH K))
 (av (ao aW (aa 6) (tC (.int 1))) (al 6)))))
 (aE (y6 (aa 4) (aa 2))))
nonrec abbrev DF(K:Fg):TS:=(am (bn (aw (uP K) [] E0 (ae (aa 0) (ae (aa 2) ai))))
 (am (av (aw (je K) [] E0 (ae (aa 0) ai)) (al 3))
 (am (av (Ib [((aa 1),(bP ai))]) (al 4))
 (am (av (bP (ae (aa 1) ai)) (al 5))
 (am (av (tC (.int 0)) (al 6))
 (DG K))))))
abbrev yg(K:Fg):TS:=(am (bn (aw (uP K) [] E0 (ae (aa 0) (ae (aa 1) ai))))
 (DF K))
def IG{K:Fg}:ρ 10 (zj K) (yg K):=by
 fail "R";obtain⟨v,ws,ts,a,b,rfl,rv,hl,la,lb,kyes,kno⟩:=h;rw[L2.aO hN];walk_at "t";have hl2:=BD hl;have eo:=cV ts;unfold yg;cbv;refine⟨v,ws,ts,a,rfl,rv,hl,la,λH1 S1=>?_⟩;cbv;refine⟨v,ws,ts,b,rfl,rv.same S1,hl,lb,λH2 S2=>?_⟩;cbv;refine⟨v,ws,ts,rfl,(rv.same S1).same S2,hl,λpe H3 A3=>?_⟩;have S03:=S1.trans (S2.trans A3.same);obtain⟨xs,hpe,rx⟩:=A3.at_;have le:(aD ts).length=ts.length:=by unfold aD;rw[Rm]
 have lx:xs.length=(aD ts).length:=by rw[rx.length,Rm]
 generalize aD ts=es at kyes kno rx lx eo le;generalize (a8 ts).length=n at la lb hl2 eo;cbv;intro rd nr;have T1:=aj nr (.dK []);unfold i_;cbv;refine⟨by decide,λq0 nq0=>?_⟩;have T2:=aj nq0 (.lst []);unfold i_;refine⟨T2 _ _ ag,[(.inl (a:Int),.ref q0)],rfl,by show 1<=15;decide,?_⟩;have nq:q0≠rd:=(au (show upd H3 rd (.dK []) rd=some _ from ag) nq0).symm
 have S4:Same H3 (upd (upd (upd H3 rd (.dK [])) q0 (.lst [])) rd (.dK (dJ [] [(.inl (a:Int),.ref q0)]))):=λb' o q=>by
  rw[aC (au q nr)];exact T2 _ _ (T1 _ _ q)
 have ed:upd (upd (upd H3 rd (.dK [])) q0 (.lst [])) rd (.dK (dJ [] [(.inl (a:Int),.ref q0)])) rd=some (.dK [((.inl (a:Int):ba),.ref q0)]):=ag;have eq0:upd (upd (upd H3 rd (.dK [])) q0 (.lst [])) rd (.dK (dJ [] [(.inl (a:Int),.ref q0)])) q0=some (.lst []):=by rw[aC nq];exact ag
 generalize upd (upd (upd H3 rd (.dK [])) q0 (.lst [])) rd (.dK (dJ [] [(.inl (a:Int),.ref q0)]))=H4 at S4 ed eq0 ⊢;cbv;refine⟨gX,λct nct=>?_⟩;have S5:=aj nct (.lst [.int (a:Int)]);have nc:H3 ct=none:=S4.free nct
 have R0:RI es a n H3 rd ct [a] (upd H4 ct (.lst [.int (a:Int)])):=by
  refine⟨S4.trans S5,⟨_,S5 _ _ ed,by simp,λc=>?_,λk v e=>?_⟩,ag,by simp,λc hc=>by rw[RL.mp hc];exact la,by simp,λc hc=>by rw[RL.mp hc];exact .refl⟩
  .by_cases e:c=a
   .subst e;rw[bq rfl];simp
   .rw[bi (show ¬ (V0 (a:Int):ba)=V0 (c:Int) from λz=>e (Xn (WE z)).symm)];simp[e,uy]
  .by_cases e':(V0 (a:Int):ba)=k
   .rw[bq e'] at e;exact⟨q0,[],(RY e).symm,S5 _ _ eq0,au eq0 nct,by simp⟩
   .rw[bi e',uy] at e;cases e
 generalize upd H4 ct (.lst [.int (a:Int)])=H5 at R0;cbv
 refine iW (λσ H6=>∃(cs:List Nat) (pl:Nat) (u7 u8 u9:Option V),σ=[some v,↥(a:Int),↥(b:Int),⇑pe,⇑rd,⇑ct,↥(pl:Int),u7,u8,u9]/\RI es a n H3 rd ct cs H6/\pl<=cs.length/\∀j<pl,∀x,cs[j]?=some x->∀y,(x,y)∈es->y∈cs)
  (λσ _=>match σ with | [_,_,_,_,_,_,↥pl,_,_,_]=>n-pl.toNat|_=>0) ⟨[a],0,none,none,none,rfl,R0,SD _,λj hj=>absurd hj (T_ _)⟩ ?_ ?_
 .rintro σ H6 ⟨cs,pl,u7,u8,u9,rfl,R,lpl,done⟩;have lcs:=R.len;cbv;refine cw (SqL.of R.come) ?_;rw[Rm];cbv;refine aX (λlt=>?_) (λge=>?_)
  .have lt':pl<cs.length:=by lia
   have ehere:cs[pl]?=some cs[pl]:=Rn lt';have mhere:=Td lt';generalize cs[pl]=hr at ehere mhere;cbv;refine bQ (SqL.of R.come) (v:=.int (hr:Int)) (aK (by rw[Rt,ehere];rfl)) ?_;cbv;refine⟨pe,xs,rfl,SqL.of (R.same _ _ hpe),?_⟩
   refine dB (xs:=xs) (λi σ H7=>∃(ex:List Nat) (w8 w9:Option V),σ=[some v,↥(a:Int),↥(b:Int),⇑pe,⇑rd,⇑ct,↥(pl:Int),↥(hr:Int),w8,w9]/\RI es a n H3 rd ct (cs++ex) H7/\∀j<i,∀y,es[j]?=some (hr,y)->y∈cs++ex)
    ⟨[],u8,u9,rfl,by rw[Up];exact R,λj hj=>absurd hj (T_ _)⟩ ?_ ?_ ?_
   .rintro i σ H7 _ ⟨ex,w8,w9,rfl,R7,_⟩;exact SqL.of (R7.same _ _ hpe)
   .rintro i z σ H7 T hz ⟨ex,w8,w9,rfl,R7,dn⟩ nT;obtain⟨dd,g1,g2⟩:=rx.get hz;rw[Rt] at g1;obtain⟨e,he,rfl⟩:=RD.mp g1;obtain⟨x,y⟩:=e;have mem:(x,y)∈es:=Ry he;have oe:=eo _ mem;have S8:=aj nT (.tup [.int (i:Int),z]);have R8:=R7.on S8;obtain⟨pb,rfl,hpb⟩:=Cj ((g2.same R7.same).same S8)
    have keep:(x=hr->y∈cs++ex)->∀j<i+1,∀y',es[j]?=some (hr,y')->y'∈cs++ex:=λq j hj y' ge=>by
     by_cases ji:j<i
     .exact dn j ji y' ge
     .have:j=i:=by lia
      rw[this,he] at ge;have e1:=RY ge;have e2:x=hr:=congrArg YF e1;have e3:y=y':=congrArg X7 e1;rw[<- e3];exact q e2
    have hT:upd H7 T (.tup [.int (i:Int),.ref pb]) T=some (.tup [.int (i:Int),.ref pb]):=ag;refine bG (SqT.of ag) rfl ?_;cbv;generalize upd H7 T (.tup [.int (i:Int),.ref pb])=H8 at S8 R8 hpb hT ⊢;refine aF (SqT.of hpb) (v:=.int (x:Int)) rfl ?_;cbv;refine aX (λex1=>?_) (λex1=>?_)
    .have exh:x=hr:=Xn ex1;cbv;refine aF (SqT.of hpb) (v:=.int (y:Int)) rfl ?_;cbv;obtain⟨de,d1,d2,d3,d4⟩:=id R8.dict;refine⟨rd,_,rfl,(DGet.k d1:DGet H8 rd (kV (.inl (y:Int))) _),?_⟩;by_cases my:y∈cs++ex
     .rw[(d3 y).mpr my];cbv;exact⟨ex,_,_,rfl,R8,keep λ_=>my⟩
     .have nv:(bE de (.inl (y:Int))).isSome=false:=by
       cases hh:(bE de (.inl (y:Int):ba)).isSome with
       |false=>rfl
       |true=>exact absurd ((d3 y).mp hh) my
      rw[nv];cbv;obtain⟨vh,evh⟩:=Wn.mp ((d3 hr).mpr (Sa _ mhere));obtain⟨q,zs,rfl,hq,nqc,lz⟩:=d4 _ _ evh;have lall:=R8.len;refine⟨rd,_,rfl,(by have:=(DGet.k d1:DGet H8 rd (kV (.inl (hr:Int))) _);rw[evh] at this;exact this),?_⟩;cbv;refine⟨gX,λp1 np1=>?_⟩;have S9:=aj np1 (.lst [.int (i:Int)]);have hp1:upd H8 p1 (.lst [.int (i:Int)]) p1=some (.lst [.int (i:Int)]):=ag;have R9:=R8.on S9;have d9:=S9 _ _ d1;have hq9:=S9 _ _ hq;have hpb9:=S9 _ _ hpb;generalize upd H8 p1 (.lst [.int (i:Int)])=H9 at S9 hp1 R9 d9 hq9 hpb9 ⊢;refine⟨q,p1,zs,_,rfl,rfl,hq9,hp1,by rw[show sizeLine=16777216 by decide];simp only[TQ];lia,λp2 np2=>?_⟩;have S10:=aj np2 (.lst (zs++[.int (i:Int)]));have hp2:upd H9 p2 (.lst (zs++[.int (i:Int)])) p2=some (.lst (zs++[.int (i:Int)])):=ag;have R10:=R9.on S10;have d10:=S10 _ _ d9;have hpb10:=S10 _ _ hpb9;have np2c:p2≠ct:=(au R9.come np2).symm;generalize upd H9 p2 (.lst (zs++[.int (i:Int)]))=H10 at S10 hp2 R10 d10 hpb10 ⊢;cbv;refine aF (SqT.of hpb10) (v:=.int (y:Int)) rfl ?_;refine⟨rd,_,rfl,(DPut.k d10 (aq (by lia)):DPut H10 rd (kV (.inl (y:Int))) _ _),?_⟩;have ncr:ct≠rd:=(kG d10 R10.come (by intro z;cases z)).symm;have npr:pb≠rd:=kG hpb10 d10 (by intro z;cases z);have hc11:upd H10 rd (.dK (b5 de (.inl (y:Int)) (.ref p2))) ct=some (.lst ((cs++ex).map λc:Nat=>V.int (c:Int))):=by rw[aC ncr];exact R10.come
      have R11:=R10.more (y:=y) (p:=p2) (xs:=zs++[.int (i:Int)]) nr nc d10 my oe.2 (.step (R8.rch x (exh ▸ Sa _ mhere)) mem) hp2 np2c (by rw[RF];simp only[TQ];lia);cbv;refine⟨w_ hc11,?_⟩;cbv;refine aF (SqT.of (by rw[aC npr];exact hpb10)) (v:=.int (y:Int)) rfl ?_;refine Ft ?_;refine Fv hc11 (aq (by rw[Rm];lia)) ?_;cbv;refine⟨ex++[y],_,_,rfl,by rw[<- Tf];exact R11,λj hj y' ge=>?_⟩;rw[<- Tf];by_cases ji:j<i
      .exact Sa _ (dn j ji y' ge)
      .have:j=i:=by lia
       rw[this,he] at ge;have e3:y=y':=congrArg X7 (RY ge);exact RU _ (by rw[e3];exact RL.mpr rfl)
    .cbv;exact⟨ex,_,_,rfl,R8,keep λz=>absurd (by rw[z]) ex1⟩
   .rintro σ H7 ⟨ex,w8,w9,rfl,R7,dn⟩;cbv;refine⟨⟨cs++ex,pl+1,_,_,_,rfl,R7,by rw[RF];lia,λj hj x gx y my=>?_⟩,?_⟩
    .by_cases jp:j<pl
     .rw[SO (by lia)] at gx;exact Sa _ (done j jp x gx y my)
     .have:j=pl:=by lia
      rw[this,SO lt',ehere] at gx;cases RY gx;obtain⟨m,hm,ge⟩:=Tc.mp my;exact dn m (by lia) y (by rw[Rn hm,ge])
    .show n-((pl:Int)+1).toNat<n-((pl:Int)).toNat;lia
  .have epl:pl=cs.length:=by lia
   have cl:Cl es cs:=λe he m1=>by
    obtain⟨j,hj,gj⟩:=Tc.mp m1;exact done j (by lia) e.1 (by rw[Rn hj,gj]) e.2 he
   obtain⟨de,d1,d2,d3,d4⟩:=id R.dict;cbv;refine⟨rd,rfl,.inl ⟨de,.inl d1⟩,?_⟩;cbv;refine⟨_,(DGet.k d1:DGet H6 rd (kV (.inl (b:Int))) _),?_⟩;cases hv:bE de (.inl (b:Int)) with
   |none =>
    refine kno (λr=>?_) H6 (S03.trans R.same)
    have:=(d3 b).mpr (Ma R.one cl r)
    rw[hv] at this;cases this
   |some w =>
    obtain⟨q,zs,rfl,_⟩:=d4 _ _ hv;exact kyes (R.rch b ((d3 b).mp (by rw[hv];rfl))) q H6 (S03.trans R.same)
 .rintro σ H' R R' h ⟨w1,e1,w2,e2,p,ys,e3,e4,i,j,e5,e6,kk,e7,q⟩;exact⟨w1,e1,w2,e2,p,ys,e3,e4,i,j,e5,e6,kk,e7,h _ _ q⟩
end Ti
namespace Sz
open PySem L2 Fr G1 Sm Vs G2 Rk
open PySem.W (Dat kqdOk)
abbrev dL(r:List Int):Dat:=.list (r.map Ss)
def xq{K:Fg}(h:Rp K S H v (dL r)):∃b,v=.ref b/\S b/\H b=some (.lst (r.map V.int)):=by
 obtain⟨b,xs,rfl,s,hb,rx⟩:=Rp.kT h;rw[RpL.ints_of rx] at hb;exact⟨b,rfl,s,hb⟩
def xp{K:Fg}{S:Addr->Prop}{H:Hp}{r:List Int}(s:S b)(h:H b=some (.lst (r.map V.int))):Rp K S H (.ref b) (dL r):=.lst s h (RpL.ints r)
abbrev Db(n:Nat)(R:List (List Int)):Prop:=∀r∈R,∀c∈r,c.natAbs<2 ^ n
def pU{n:Nat}{r:List Int}(h:∀c∈r,c.natAbs<2 ^ n)(p:Nat):(pt r p).natAbs<2 ^ n:=by
 unfold pt;rw[Rr];cases e:r[p]? with
 |none=>exact Zbf n
 |some c=>exact h c (Ry e)
def Cs{n:Nat}{by_ r:List Int}(hb:∀c∈by_,c.natAbs<2 ^ n)(hr:∀c∈r,c.natAbs<2 ^ n):∀c∈kn by_ p r,c.natAbs<2 ^ (2*n+1):=by
 intro c hc;unfold kn at hc;obtain⟨i,hi⟩:=SN hc;rw[VM] at hi;cases e1:r[i]? with
 |none=>rw[e1] at hi;simp at hi
 |some one =>
  cases e2:by_[i]? with
  |none=>rw[e1,e2] at hi;simp at hi
  |some rA =>
   rw[e1,e2] at hi;have hi':=RY hi;subst hi'
   have m1:(one*pt by_ p).natAbs<2 ^ n*2 ^ n:=by
    rw[SL];exact Xg (hr one (Ry e1)) (pU hb p)
   have m2:(pt r p*rA).natAbs<2 ^ n*2 ^ n:=by
    rw[SL];exact Xg (pU hr p) (hb rA (Ry e2))
   have e:2 ^ (2*n+1)=2 ^ n*2 ^ n+2 ^ n*2 ^ n:=by
    rw[TU,Nat.two_mul n,Vj];lia
   rw[e];generalize one*pt by_ p=x at m1 ⊢;generalize pt r p*rA=y at m2 ⊢;generalize 2 ^ n*2 ^ n=z at m1 m2 ⊢;show(x-y).natAbs<z+z;lia
def GV{n:Nat}{x y:Int}(h:n<=20000)(hx:x.natAbs<2 ^ n)(hy:y.natAbs<2 ^ n):uq x y:=⟨R3 hx (RJ (by decide) h),R3 hy (RJ (by decide) h)⟩
def ua{r:List Int}{i:Nat}(h:i<r.length):rC (r.map V.int) ((i:Nat):Int)=some (V.int (pt r i)):=by
 refine aK ?_;unfold pt;rw[Rt,Rr,Rn h];rfl
abbrev Oj(t:Tn):List Int:=V6 (λa b=>b-a) t.fr t.to
end Sz
namespace Sf
open Rk Sz
abbrev fp(r:List Int):Option Nat:=r.findIdx? (λx=>decide (x≠0))
def cU{i:Nat}(h:fp r=some i):i<r.length/\pt r i≠0/\∀j,j<i->pt r j=0:=by
 unfold fp at h;rw[U7] at h;obtain⟨l,h1,h2⟩:=h;refine⟨l,?_,λj hj=>?_⟩
 .unfold pt;rw[Rr,Rn l];simpa using h1
 .have:=h2 j hj
  unfold pt;rw[Rr,Rn (by lia)];simpa using this
def BS(h:fp r=none)(q:Nat):pt r q=0:=by
 unfold fp at h;rw[U_] at h;unfold pt;rw[Rr];cases e:r[q]? with
 |none=>rfl
 |some c=>simpa using h c (Ry e)
abbrev cK(r:List Int):Int:=r.foldl Gd.gd 0
def N8(a b:Int):Gd.gd a b∣a/\Gd.gd a b∣b:=⟨YC ..,Yk ..⟩
def i4:∀(r:List Int) (g:Int),r.foldl Gd.gd g∣g/\∀x∈r,r.foldl Gd.gd g∣x
 |[],g=>⟨Int.dvd_refl g,by simp⟩
 |y :: r,g=>by
  obtain⟨h1,h2⟩:=i4 r (Gd.gd g y);obtain⟨d1,d2⟩:=N8 g y;refine⟨Int.dvd_trans h1 d1,λx hx=>?_⟩;rcases RW.mp hx with rfl|hx
  .exact Int.dvd_trans h1 d2
  .exact h2 x hx
def BO(h:pt r i≠0):cK r≠0:=by
 intro z;unfold pt at h;rw[Rr] at h;cases e:r[i]? with
 |none=>rw[e] at h;exact h rfl
 |some c =>
  rw[e] at h
  have:=(i4 r 0).2 c (Ry e)
  unfold cK at z;rw[z] at this;exact h (Int.zero_dvd.mp this)
abbrev dR(r:List Int)(i:Nat):Int:=if pt r i<0 then -cK r else cK r
abbrev bo(r:List Int):List Int:=match fp r with
 |none=>r
 |some i=>r.map λx=>x.fdiv (dR r i)
def vN(h:pt r i≠0):dR r i≠0:=by
 have:=BO h
 unfold dR;split <;> lia
def tT(r:List Int)(i:Nat):∀x∈r,dR r i∣x:=λx hx=>by
 have:=(i4 r 0).2 x hx
 unfold dR;split
 .exact(Yl).mpr this
 .exact this
def du(r:List Int):(bo r).length=r.length:=by
 unfold bo;split
 .rfl
 .rw[Rm]
def jI(r:List Int):∃g:Int,g≠0/\∀q,g*pt (bo r) q=pt r q:=by
 unfold bo;split
 .exact⟨1,by decide,λq=>Ym _⟩
 .rename_i i e
  have:=(cU e).2.1
  refine⟨dR r i,vN this,λq=>?_⟩;unfold pt;rw[Rr,Rt,Rr];cases e2:r[q]? with
  |none=>exact WW _
  |some c=>exact Xx (tT r i c (Ry e2))
def vv{n:Nat}{r:List Int}(h:∀c∈r,c.natAbs<2 ^ n):∀c∈bo r,c.natAbs<2 ^ n:=by
 unfold bo;split
 .exact h
 .rename_i i e;intro c hc;obtain⟨x,hx,rfl⟩:=RO.mp hc;exact RS (Gd.oE (vN (cU e).2.1) (tT r i x hx)) (h x hx)
abbrev cX(row s:List Int):List Int:=bo (kn s ((fp s).getD 0) row)
abbrev aT(row:List Int)(S:List (List Int)):List Int:=S.foldl cX row
abbrev bu(n i:Nat):List Int:=(RQ n).map λo=>if o=i then 1 else 0
structure rD where
 stairs:List (List Int)
 free:List Nat
 makers:List (List Int)
abbrev cD(n:Nat)(st:rD)(i:Nat)(r:List Int):List Int:=aT (r++bu n i) st.stairs
abbrev js(n:Nat)(st:rD)(i:Nat)(r:List Int):rD :=
 if (fp (cD n st i r)).getD (r.length+n)<r.length then ⟨st.stairs++[cD n st i r],st.free++[i],st.makers⟩
 else ⟨st.stairs,st.free,st.makers++[bo ((cD n st i r).drop r.length)]⟩
abbrev zL(R:List (List Int)):Nat->rD
 |0=>⟨[],[],[]⟩
 |i+1=>js R.length (zL R i) i (R.getD i [])
abbrev rowsOf(R:List (List Int))(ix:List Nat):List (List Int):=ix.map λi=>R.getD i []
open Classical in
abbrev qJ (R:List (List Int)):Nat->List Nat
 |0=>[]
 |i+1=>if dU (rowsOf R (qJ R i)++[R.getD i []]) then qJ R i++[i] else qJ R i
open Classical in
def BI{R:List (List Int)}{r:List Int}(e:R.getD i []=r)(h:dU (rowsOf R (qJ R i)++[r])):qJ R (i+1)=qJ R i++[i]:=by
 subst e;exact if_pos h
open Classical in
def G8{R:List (List Int)}{r:List Int}(e:R.getD i []=r)(h : ¬ dU (rowsOf R (qJ R i)++[r])):qJ R (i+1)=qJ R i:=by
 subst e;exact if_neg h
def eJ{s:List Int}:pt (s.take w) q=if q<w then pt s q else 0:=by
 unfold pt;rw[Rr,Z2,Rr];split
 .rfl
 .rfl
def vP{w q:Nat}:∀(d:List Int) (S:List (List Int)),bA d (S.map (WG w)) q=if q<w then bA d S q else 0
 |[],S=>by cases S <;> simp[bA]
 |x :: d,[]=>by simp[bA]
 |x :: d,s :: S=>by
  have ih:=vP (w:=w) (q:=q) d S;show x*pt (s.take w) q+bA d (S.map (WG w)) q=_;rw[ih,eJ];split
  .rfl
  .simp
def kM{w:Nat}:∀{S:List (List Int)} {ps:List Nat},cq S ps->(∀p∈ps,p<w)->cq (S.map (WG w)) ps
 |_,_,.nil,_=>.nil
 |_,_,.cons h1 h2 r,hp=>.cons (by rw[eJ,if_pos (hp _ Ru)];exact h1) (λt ht=>by
   obtain⟨u,hu,rfl⟩:=RO.mp ht
   rw[eJ,if_pos (hp _ Ru)]
   exact h2 u hu) (kM r λp hpp=>hp p (RA _ hpp))
def qO{w:Nat}(c:Clrd S ps x x')(hp:∀p∈ps,p<w):Clrd (S.map (WG w)) ps (x.take w) (x'.take w):=by
 obtain⟨d,c0,G,ld,hc,hG,e⟩:=c.made;refine⟨⟨d,c0,G,by rw[ld,Rm],hc,hG,λq=>?_⟩,λq hq=>by rw[eJ,if_pos (hp q hq)];exact c.nought q hq,by rw[RT,RT,c.len]⟩;rw[eJ,eJ,vP];split
 .exact e q
 .simp
def FY{x:List Int}{L:Nat}(lx:x.length=L):∀{S:List (List Int)} {ps:List Nat},cq S ps->(∀s∈S,s.length=L)->S.map fp=ps.map some->Clrd S ps x (aT x S):=by
 have go:∀(T:List (List Int)) (qs:List Nat) (S:List (List Int)) (ps:List Nat) (y:List Int),Clrd S ps x y->S.length=ps.length->cq (S++T) (ps++qs)->(∀s∈T,s.length=L)->T.map fp=qs.map some->Clrd (S++T) (ps++qs) x (aT y T):=by
  intro T
  induction T with
  |nil =>
   intro qs S ps y c _ _ _ e;cases qs with
   |nil=>simpa[aT] using c
   |cons=>simp at e
  |cons s T ih =>
   intro qs S ps y c l st hl e;cases qs with
   |nil=>simp at e
   |cons p qs =>
    obtain⟨e1,e2⟩:=UE e;rw[show S++s :: T=(S++[s])++T by simp,show ps++p :: qs=(ps++[p])++qs by simp] at st ⊢
    have st':cq (S++[s]) (ps++[p]):=by
     have:∀(T:List (List Int)) {S:List (List Int)} {qs ps:List Nat},S.length=ps.length->cq (S++T) (ps++qs)->cq S ps:=by
      intro T S
      induction S with
      |nil =>
       intro qs ps l _
       have:ps=[]:=TW.mp l.symm
       subst this;exact .nil
      |cons t S ihS =>
       intro qs ps l h;cases ps with
       |nil=>simp at l
       |cons q ps =>
        cases h with
        |cons h1 h2 r=>exact .cons h1 (λu hu=>h2 u (Sa _ hu)) (ihS (by simpa using l) r)
     exact this T (by simp[l]) st
    obtain⟨g,hg,eg⟩:=jI (kn s ((fp s).getD 0) y);have ls:s.length=L:=hl s Ru;have ly:y.length=s.length:=by rw[c.len,lx,ls]
    have lz:(cX y s).length=y.length:=by
     unfold cX;rw[du,oM ly,ly]
    refine ih qs (S++[s]) (ps++[p]) (cX y s) (Clrd.snoc c st' l ly hg lz λq=>?_) (by simp[l]) st (λu hu=>hl u (RA _ hu)) e2
    have:=eg q
    rw[e1] at this;unfold cX;rw[e1];exact this
 intro S ps st hl e
 have:=go S ps [] [] x Clrd.start rfl st hl e
 simpa using this
abbrev bits(b k:Nat):Nat:=(b+1)*2 ^ k-1
def qT(b k:Nat):bits b (k+1)=2*bits b k+1:=by
 unfold bits;have pos:0<(b+1)*2 ^ k:=Sq (YT _) (Zbf k)
 have:(b+1)*2 ^ (k+1)=2*((b+1)*2 ^ k):=by rw[TU,<- SA,Tu]
 lia
def gJ{k m:Nat}(h:k<=m):bits b k<=bits b m:=by
 unfold bits
 have:=Sh (b+1) (RJ (by decide:0<2) h)
 lia
abbrev Ld(b:Nat)(S:List (List Int)):Prop:=∀k s,S[k]?=some s->∀c∈s,c.natAbs<2 ^ bits b k
def f_{b:Nat}{x:List Int}(hx:∀c∈x,c.natAbs<2 ^ b){S:List (List Int)}(hS:Ld b S):∀k,k<=S.length->∀c∈aT x (S.take k),c.natAbs<2 ^ bits b k
 |0,_=>by simpa[aT,bits] using hx
 |k+1,h=>by
  have ih:=f_ hx hS k (by lia);have lk:k<S.length:=by lia
  rw[RP,Rn lk];show ∀c∈(S.take k++[S[k]]).foldl cX x,c.natAbs<2 ^ bits b (k+1);rw[Ug];show ∀c∈cX (aT x (S.take k)) S[k],c.natAbs<2 ^ bits b (k+1);rw[qT];exact vv (Cs (hS k _ (Rn lk)) ih)
def vf{w j:Nat}{r:List Int}(lr:r.length=w):pt (r++bu n i) (w+j)=if j<n/\j=i then 1 else 0:=by
 unfold pt bu;rw[Rr,Tj (by lia),lr,show w+j-w=j by lia,Rt];by_cases h:j<n
 .rw[SM h];by_cases e:j=i
  .simp[e,e ▸ h]
  .simp[e]
 .rw[Sw (by simpa using h)];simp[h]
def df:∀{S:List (List Int)},(∀s∈S,pt s q=0)->bA d S q=0:=by
 induction d with
 |nil=>intro S _;cases S <;> rfl
 |cons x d ih =>
  intro S h;cases S with
  |nil=>rfl
  |cons s S =>
   show x*pt s q+bA d S q=0;rw[h s Ru,ih λt ht=>h t (RA _ ht)];lia
structure SI (R:List (List Int)) (w b i:Nat) (st:rD):Prop where
 sta:∃ps,cq st.stairs ps/\(∀p∈ps,p<w)/\st.stairs.map fp=ps.map some/\Eqv (rowsOf R st.free) (st.stairs.map (WG w))
 len:∀s∈st.stairs,s.length=w+R.length
 own:∀s∈st.stairs,∀j,i<=j->pt s (w+j)=0
 cnt:st.stairs.length<=i
 bnd:Ld b st.stairs
 free:st.free=qJ R i
 mks:st.makers.length<=i
structure RI (R:List (List Int)) (w b i:Nat) (st:rD) (r rest:List Int):Prop where
 len:rest.length=w+R.length
 ne:∃q,fp rest=some q/\q<=w+i
 bnd:∀c∈rest,c.natAbs<2 ^ bits b st.stairs.length
 own:∀j,i+1<=j->pt rest (w+j)=0
 free:dU (rowsOf R (qJ R i)++[r])↔∃q,fp rest=some q/\q<w
def Iz{st:rD}{r:List Int}(I:SI R w b i st)(hb:1<=b)(hi:i<R.length)(lr:r.length=w)(br:∀c∈r,c.natAbs<2 ^ b) :
  RI R w b i st r (cD R.length st i r)/\∃ps,cq st.stairs ps/\(∀p∈ps,p<w)/\st.stairs.map fp=ps.map some/\Eqv (rowsOf R st.free) (st.stairs.map (WG w))/\Clrd st.stairs ps (r++bu R.length i) (cD R.length st i r):=by
 obtain⟨ps,s1,s2,s3,s4⟩:=I.sta;have lx:(r++bu R.length i).length=w+R.length:=by unfold bu;rw[RF,Rm,R5,lr]
 have C:=FY lx s1 I.len s3
 have hx:∀c∈r++bu R.length i,c.natAbs<2 ^ b:=by
  intro c hc;rcases RX.mp hc with m|m
  .exact br c m
  .unfold bu at m;obtain⟨o,_,rfl⟩:=RO.mp m
   have:2 ^ 1<=2 ^ b:=RJ (by decide) hb
   split <;> lia
 have hbn:=f_ hx I.bnd st.stairs.length (RB _);rw[SZ] at hbn;obtain⟨d,c,G,ld,hc,hG,e⟩:=C.made
 have at_i:pt (cD R.length st i r) (w+i)≠0:=by
  intro z;have e1:=e (w+i);have z':pt (aT (r++bu R.length i) st.stairs) (w+i)=0:=z;rw[z',vf lr,df λs hs=>I.own s hs i (RB _),if_pos ⟨hi,rfl⟩] at e1;lia
 have fq:∃q,fp (cD R.length st i r)=some q/\q<=w+i:=by
  cases f:fp (cD R.length st i r) with
  |none=>exact absurd (BS f (w+i)) at_i
  |some q =>
   refine⟨q,rfl,?_⟩;by_cases l:q<=w+i
   .exact l
   .exact absurd ((cU f).2.2 (w+i) (by lia)) at_i
 have tk:(r++bu R.length i).take w=r:=by rw[Xy (by lia),RG (by lia)]
 refine⟨⟨?_,fq,hbn,λj hj=>?_,?_⟩,ps,s1,s2,s3,s4,C⟩
 .show(aT _ _).length=_;rw[C.len,lx]
 .have e1:=e (w+j);rw[vf lr,df λs hs=>I.own s hs j (by lia),if_neg (by lia)] at e1
  have:G*pt (cD R.length st i r) (w+j)=0:=by
   show G*pt (aT (r++bu R.length i) st.stairs) (w+j)=0;rw[e1];lia
  exact(TF.mp this).resolve_left hG
 .rw[<- I.free]
  have:=Cr s4 (kM s1 s2) (qO C s2)
  rw[tk] at this;rw[this];constructor
  .rintro⟨q,hq⟩;rw[eJ] at hq;split at hq
   .rename_i lq;obtain⟨q',f1,f2⟩:=fq;refine⟨q',f1,?_⟩;by_cases l:q'<w
    .exact l
    .exact absurd ((cU f1).2.2 q (by lia)) hq
   .exact absurd rfl hq
  .rintro⟨q,f1,f2⟩;refine⟨q,?_⟩;rw[eJ,if_pos f2];exact(cU f1).2.1
def Iq{st:rD}{r:List Int}(I:SI R w b i st)(hb:1<=b)(hr:R[i]?=some r)(lr:r.length=w)(br:∀c∈r,c.natAbs<2 ^ b):SI R w b (i+1) (js R.length st i r):=by
 have hi:i<R.length:=(Rq.mp hr).1;obtain⟨Y,ps,s1,s2,s3,s4,C⟩:=Iz I hb hi lr br;have er:R.getD i []=r:=by rw[Rr,hr];rfl
 unfold js;generalize hz:cD R.length st i r=z at Y C;obtain⟨q,f1,f2⟩:=Y.ne;rw[f1];show SI R w b (i+1) (if q<r.length then _ else _);split
 .rename_i lq;rw[lr] at lq;have fr:dU (rowsOf R (qJ R i)++[r]):=Y.free.mpr ⟨q,f1,lq⟩;have tk:(r++bu R.length i).take w=r:=by rw[Xy (by lia),RG (by lia)]
  refine⟨⟨ps++[q],s1.snoc C.nought (cU f1).2.1,λp hp=>?_,?_,?_⟩,λs hs=>?_,λs hs j hj=>?_,?_,λk s hk=>?_,?_,Zaz I.mks⟩
  .rcases RX.mp hp with m|m
   .exact s2 p m
   .rw[RL.mp m];exact lq
  .show(st.stairs++[z]).map fp=_;rw[Rx,Rx,s3];show _++[fp z]=_++[some q]
   rw[f1]
  .show Eqv (rowsOf R (st.free++[i])) ((st.stairs++[z]).map (WG w));unfold rowsOf at s4 ⊢;rw[Rx,Rx];show Eqv (_++[R.getD i []]) (_++[z.take w]);rw[er];obtain⟨d,c,G,ld,hc,hG,e⟩:=(qO C s2).made;rw[tk] at e;exact s4.snoc ld hc hG e
  .rcases RX.mp hs with m|m
   .exact I.len s m
   .rw[RL.mp m];exact Y.len
  .rcases RX.mp hs with m|m
   .exact I.own s m j (by lia)
   .rw[RL.mp m];exact Y.own j hj
  .show(st.stairs++[z]).length<=i+1;rw[RF];exact W_ I.cnt
  .have hk':(st.stairs++[z])[k]?=some s:=hk;by_cases l:k<st.stairs.length
   .rw[SO l] at hk';exact I.bnd k s hk'
   .rw[Tj (by lia)] at hk'
    have k0:k=st.stairs.length:=by
     have:=(Rq.mp hk').1
     simp at this;lia
    subst k0;rw[Zas] at hk';rw[<- RY hk'];exact Y.bnd
  .show st.free++[i]=qJ R (i+1);rw[I.free];rw[BI er fr]
 .rename_i lq;rw[lr] at lq
  have nf : ¬ dU (rowsOf R (qJ R i)++[r]):=λh=>by
   obtain⟨q',g1,g2⟩:=Y.free.mp h;rw[f1] at g1;cases g1;exact lq g2
  refine⟨I.sta,I.len,λs hs j hj=>I.own s hs j (by lia),Zaz I.cnt,I.bnd,?_,?_⟩
  .show st.free=qJ R (i+1);rw[I.free];rw[G8 er nf]
  .show(st.makers++[_]).length<=i+1;rw[RF];exact W_ I.mks
def Ir{R:List (List Int)}{w b:Nat}(hw:Wide w R)(hb:1<=b)(br:Db b R):∀i,i<=R.length->SI R w b i (zL R i)
 |0,_=>⟨⟨[],.nil,(by simp),rfl,λT=>Iff.rfl⟩,(λs hs=>by cases hs),(λs hs=>by cases hs),RB _,(λk s hk=>by simp[zL] at hk),rfl,RB _⟩
 |i+1,h=>by
  have hr:R[i]?=some (R.getD i []):=by rw[Rr,Rn (by lia)];rfl
  exact Iq (Ir hw hb br i (by lia)) hb hr (hw _ (Ry hr)) (br _ (Ry hr))
end Sf
namespace Rw
open PySem L2 Fr G1 Sm Vs G2 Rk Sz Sf
open PySem.W (Dat kqdOk)
abbrev Hb(r:List Int):V:=match fp r with
 |some i=>.int i
 |none=>.non
abbrev jd(K:Fg):Sp:=λvs H Q _=>∃(a:Addr) (r:List Int),vs=[.ref a]/\H a=some (.lst (r.map V.int))/\∀H',Same H H'->Q (Hb r) H'
def QE{i:Nat}{c:Int}(h:∀j,j<i->pt r j=0)(hi:r[i]?=some c)(hc:c≠0):fp r=some i:=by
 unfold fp;rw[U7];obtain⟨l,e⟩:=Rq.mp hi;refine⟨l,by rw[e];simpa using hc,λj hj=>?_⟩
 have:=h j hj
 unfold pt at this;rw[Rr,Rn (by lia)] at this;simpa using this
def QD{r:List Int}(h:∀j,j<r.length->pt r j=0):fp r=none:=by
 unfold fp;rw[U_];intro x hx;obtain⟨j,l,rfl⟩:=Tc.mp hx
 have:=h j l
 unfold pt at this;rw[Rr,Rn l] at this;simpa using this
abbrev sd(K:Fg):TS:=(am (a9 (iP K (ae (aa 0) ai)) (cj K 2 (aY (al 1) (aY (al 2) ck)))
 (aS (aP (ao GA (aa 2) (tC (.int 0))))
 (aE (aa 1))
 a7))
 (aE (tC .non)))
def EC{K:Fg}:ρ 3 (jd K) (sd K):=by
 fail "R";obtain⟨a,r,rfl,ha,k⟩:=h;rw[L2.aO hN];walk_at "t";unfold sd;cbv;refine⟨a,_,rfl,SqL.of ha,?_⟩;refine dB (xs:=r.map V.int) (λi σ H2=>∃u1 u2:Option V,σ=[⇑a,u1,u2]/\Same H H2/\∀j<i,pt r j=0) ⟨none,none,rfl,Same.refl _,λj hj=>absurd hj (T_ _)⟩ (by rintro i σ H2 _ ⟨_,_,_,S,_⟩;exact SqL.of (S _ _ ha)) ?_ ?_
 .rintro i z σ H2 T hz ⟨u1,u2,rfl,S,d⟩ nT;rw[Rt] at hz;obtain⟨c,hc,rfl⟩:=RD.mp hz;have S2:=S.trans (aj nT (.tup [.int (i:Int),.int c]));have hT:upd H2 T (.tup [.int (i:Int),.int c]) T=some (.tup [.int (i:Int),.int c]):=ag;generalize upd H2 T (.tup [.int (i:Int),.int c])=H3 at S2 hT ⊢;refine bG (SqT.of hT) rfl ?_;cbv;have ec:pt r i=c:=by unfold pt;rw[Rr,hc];rfl
  refine im (λnz=>?_) (λz=>?_)
  .cbv
   have:=k H3 S2
   unfold Hb at this;rw[QE d hc nz] at this;exact this
  .cbv;refine⟨_,_,rfl,S2,λj hj=>?_⟩;by_cases e:j=i
   .rw[e,ec,z]
   .exact d j (by lia)
 .rintro σ H2 ⟨u1,u2,rfl,S,d⟩;cbv
  have:=k H2 S
  unfold Hb at this;rw[QD λj hj=>d j (by rw[Rm];exact hj)] at this;exact this
abbrev uK(K:Fg):Sp:=λvs H Q _=>∃(a:Addr) (r:List Int),vs=[.ref a]/\H a=some (.lst (r.map V.int))/\r.length<=100/\(∀c∈r,c.natAbs<2 ^ 9000)/\∀(p:Addr) (H':Hp),AccZ K H p H' ((bo r).map Ss)->Q (.ref p) H'
def BP{r:List Int}{i:Nat}{c:Int}(h:r[i]?=some c):(r.take (i+1)).foldl Gd.gd 0=Gd.gd ((r.take i).foldl Gd.gd 0) c:=by
 rw[RP,h,Ug];rfl
def Kx{n:Nat}(h:pt r i≠0)(hb:∀c∈r,c.natAbs<2 ^ n):(cK r).natAbs<2 ^ n:=by
 have d:cK r∣pt r i:=by
  unfold pt at h ⊢;rw[Rr] at h ⊢;cases e:r[i]? with
  |none=>rw[e] at h;exact absurd rfl h
  |some c=>exact(i4 r 0).2 c (Ry e)
 have:=UF (by lia) (Int.natAbs_dvd_natAbs.mpr d)
 exact RS this (pU hb i)
abbrev Ii(K:Fg):Sp:=λvs H Q _=>∃(a:Addr) (r:List Int),vs=[.ref a]/\H a=some (.lst (r.map V.int))/\∀H',Same H H'->Q (.int (cK r)) H'
abbrev HV(K:Fg):TS:=(am (av (tC (.int 0)) (al 1))
 (am (a9 (cg K (aa 0)) (al 2)
 (av (aw pf [] E0 (ae (aa 1) (ae (aa 2) ai))) (al 1)))
 (aE (aa 1))))
def L8{K:Fg}:ρ 3 (Ii K) (HV K):=by
 fail "R";obtain⟨a,r,rfl,ha,k⟩:=h;rw[L2.aO hN];walk_at "t";unfold HV;cbv;refine iO (SqL.of ha) ?_;refine bz (xs:=r.map V.int) (λj σ H2=>∃u3:Option V,σ=[⇑a,some (.int ((r.take j).foldl Gd.gd 0)),u3]/\Same H H2) ⟨_,rfl,Same.refl _⟩ (by rintro j σ H2 _ ⟨_,_,S⟩;exact SqL.of (S _ _ ha)) ?_ ?_
 .rintro j z σ H2 hz ⟨u3,rfl,S⟩;rw[Rt] at hz;obtain⟨c,hc,rfl⟩:=RD.mp hz;cbv;refine⟨_,_,rfl,?_⟩;cbv;refine⟨_,by rw[BP hc];rfl,S⟩
 .rintro σ H2 ⟨u3,rfl,S⟩;rw[RG (by rw[Rm];exact RB _)];cbv;exact k H2 S
nonrec abbrev DL(K:Fg):TS:=(am (av (aw (Ii K) [] E0 (ae (aa 0) ai)) (al 2))
 (am (aS (aP (ao xE (ao (bI K) (aa 0) (aa 1)) (tC (.int 0))))
 (av (HY (rU λi=>.int (-i)) (aa 2)) (al 2))
 a7)
 (aE (fA (cg K (aa 0)) (ao EO (aa 0) (aa 3))))))
abbrev yr(K:Fg):TS:=(am (av (aw (jd K) [] E0 (ae (aa 0) ai)) (al 1))
 (am (aS (aP (ao mY (aa 1) (tC .non)))
 (aE (bU (eI K) (ae (aa 0) ai)))
 a7)
 (DL K)))
def IN{K:Fg}:ρ 3 (uK K) (yr K):=by
 fail "R";obtain⟨a,r,rfl,ha,hl,hb,k⟩:=h;rw[L2.aO hN];walk_at "t";unfold yr;cbv;refine⟨a,r,rfl,ha,λH1 S1=>?_⟩;unfold Hb;cases f:fp r with
 |none =>
  cbv;refine aX (λ_=>?_) (λz=>absurd rfl z);cbv;refine oj (SqL.of (S1 _ _ ha)) λl nl=>?_
  have e:bo r=r:=by unfold bo;rw[f]
  rw[e] at k;exact k l _ ⟨S1.trans (aj nl _),S1.free nl,_,ag,RpL.ints r⟩
 |some i =>
  obtain⟨f1,f2,f3⟩:=cU f;cbv;refine aX (λz=>by cases z) (λ_=>?_);cbv;refine⟨a,r,rfl,S1 _ _ ha,λH2 S2=>?_⟩;have S:=S1.trans S2;cbv;refine bQ (SqL.of (S _ _ ha)) (ua f1) ?_
  have fin:cQ (v0 K a) (ao EO (aa 0) (aa 3)) [⇑a,↥i,↥(dR r i)] (ends Q).rt H2:=by
   refine cN (xs:=r.map V.int) λD nD=>⟨λj H3=>AccZ K H D H3 (((bo r).take j).map Ss),by simpa using AccZ.start S nD,λj H3 _ A=>SqL.of (A.same _ _ ha),?_,?_⟩
   .intro j x H3 hx A;have lj:=(Rq.mp hx).1;rw[Rt] at hx;obtain⟨c,hc,rfl⟩:=RD.mp hx;cbv;refine⟨c,dR r i,rfl,rfl,⟨vN f2,?_⟩,?_⟩
    .have:=Kx f2 hb
     have e:(dR r i).natAbs=(cK r).natAbs:=by unfold dR;split <;> lia
     rw[e];exact this
    refine a_ lj ?_;refine A.cF (.int _) (aq (by rw[Rm,RT,du];lia)) λH4 A4=>?_
    have e:(bo r)[j]?=some (c.fdiv (dR r i)):=by unfold bo;rw[f];show(r.map _)[j]? = _;rw[Rt,hc];rfl
    show AccZ K H D H4 (((bo r).take (j+1)).map Ss);rw[RP,e,Rx];exact A4
   .intro H3 A;rw[RG (by rw[du,Rm];exact RB _)] at A;exact k D H3 A
  cbv;refine aX (λng=>?_) (λng=>?_)
  .cbv;refine tK (SqL.of (S _ _ ha)) ?_;have e:dR r i = -cK r:=by unfold dR;rw[if_pos ng]
   rw[e] at fin;exact fin
  .cbv;refine tK (SqL.of (S _ _ ha)) ?_;have e:dR r i=cK r:=by unfold dR;rw[if_neg ng]
   rw[e] at fin;exact fin
abbrev OE(K:Fg)(S:Addr->Prop)(H:Hp)(a:Addr)(T:List (List Int)):Prop:=∃xs,H a=some (.lst xs)/\RpL K S H xs (T.map dL)
abbrev Ij(K:Fg):Sp:=λvs H Q _=>∃(a s:Addr) (r:List Int) (T:List (List Int)) (b:Nat),vs=[.ref a,.ref s]/\H a=some (.lst (r.map V.int))/\OE K (λ_=>True) H s T/\r.length<=100/\(∀t∈T,t.length=r.length/\∃i,fp t=some i)/\(∀c∈r,c.natAbs<2 ^ b)/\Ld b T/\bits b T.length<=9000 /\
 ∀(p:Addr) (H':Hp),Same H H'->(p=a\/H p=none)->H' p=some (.lst ((aT r T).map V.int))->Q (.ref p) H'
def qP{r:List Int}:∀{T:List (List Int)},(∀t∈T,t.length=r.length)->(aT r T).length=r.length:=by
 intro T
 have go:∀(T:List (List Int)) (y:List Int),y.length=r.length->(∀t∈T,t.length=r.length)->(aT y T).length=r.length:=by
  intro T
  induction T with
  |nil=>intro y ly _;exact ly
  |cons t T ih =>
   intro y ly h;refine ih (cX y t) ?_ λu hu=>h u (RA _ hu)
   unfold cX
   have:=h t Ru
   rw[du,oM (by lia)];exact this
 exact go T r rfl
def oN{t:List Int}{T:List (List Int)}{i:Nat}(h:T[i]?=some t):aT r (T.take (i+1))=cX (aT r (T.take i)) t:=by
 unfold aT;rw[RP,h,Ug];rfl
nonrec abbrev DT(K:Fg):TS:=(av (aw (uK K) [] E0 (ae (fH (tO K .L .L (ae (aa 0) (ae (aa 2) ai))) 2 (cj K 2 (aY (al 0) (aY (al 1) ck))) (ao g6 (ao eG (ao (bI K) (aa 4) (aa 5)) (aa 0)) (ao eG (ao (bI K) (aa 2) (aa 5)) (aa 1)))) ai)) (al 0))
abbrev yQ(K:Fg):TS:=(am (a9 (cg K (aa 1)) (al 2)
 (am (av (aw (jd K) [] E0 (ae (aa 2) ai)) (al 3))
 (DT K)))
 (aE (aa 0)))
def IY{K:Fg}:ρ 4 (Ij K) (yQ K):=by
 fail "R";obtain⟨a,s,r,T,b,rfl,ha,⟨xs,hs,rx⟩,hl,hT,hb,hB,hbits,k⟩:=h;rw[L2.aO hN];walk_at "t";have lx:xs.length=T.length:=by rw[rx.length,Rm]
 unfold yQ;cbv;refine iO (SqL.of hs) ?_;refine bz (xs:=xs) (λj σ H2=>∃(p:Addr) (u2 u3:Option V),σ=[⇑p,⇑s,u2,u3]/\Same H H2/\(p=a\/H p=none)/\H2 p=some (.lst ((aT r (T.take j)).map V.int))) ⟨a,none,none,rfl,Same.refl _,.inl rfl,by simpa[aT] using ha⟩ (by rintro j σ H2 _ ⟨_,_,_,_,S,_⟩;exact SqL.of (S _ _ hs)) ?_ ?_
 .rintro j z σ H2 hz ⟨p,u2,u3,rfl,S,hp,h2⟩;obtain⟨d,g1,g2⟩:=rx.get hz;rw[Rt] at g1;obtain⟨t,ht,rfl⟩:=RD.mp g1;obtain⟨b0,rfl,_,hb0⟩:=xq g2;obtain⟨lt,i,fi⟩:=hT t (Ry ht);obtain⟨f1,f2,f3⟩:=cU fi;have lj:j<T.length:=(Rq.mp ht).1;have ly:(aT r (T.take j)).length=r.length:=qP λt ht=>(hT t (T0 ht)).1
  have by_:=f_ hb hB j (by lia);have bm:bits b (j+1)<=bits b T.length:=gJ (by lia);rw[qT] at bm;have hBt:=hB j t ht;rw[oN ht];generalize aT r (T.take j)=y at h2 ly by_ ⊢;cbv;refine⟨b0,t,rfl,S _ _ hb0,λH3 S3=>?_⟩;have fv:Hb t=.int i:=by unfold Hb;rw[fi]
  rw[fv];have S4:=S.trans S3;have h3:=S3 _ _ h2;cbv;refine⟨p,b0,_,_,rfl,SqL.of h3,SqL.of (S4 _ _ hb0),?_⟩;refine vR (xs:=y.map V.int) (ys:=t.map V.int) λD nD=>⟨λm H5=>AccZ K H3 D H5 (((kn t i y).take m).map Ss),AccZ.start (Same.refl _) nD,λm H5 _ C=>⟨SqL.of (C.same _ _ h3),SqL.of (C.same _ _ (S4 _ _ hb0))⟩,?_,?_⟩
  .intro m y1 y2 H5 T' e1 e2 C nT us hu
   obtain⟨u1,u2',rfl⟩:∃u0 u1,us=[u0,u1]:=ex2 hu
   rw[Rt] at e1 e2;obtain⟨m1,g1,rfl⟩:=RD.mp e1;obtain⟨m2,g2,rfl⟩:=RD.mp e2;have ec:(kn t i y)[m]?=some (m1*pt t i-pt y i*m2):=by unfold kn;rw[VM,g1,g2]
   have lm:=(Rq.mp g1).1;have lm2:=(Rq.mp g2).1;have C2:=C.on (aj nT (.tup [.int m1,.int m2]));have hT':upd H5 T' (.tup [.int m1,.int m2]) T'=some (.tup [.int m1,.int m2]):=ag;generalize upd H5 T' (.tup [.int m1,.int m2])=H7 at C2 hT' ⊢;refine bG (SqT.of hT') rfl ?_;cbv;refine⟨⟨[↥m1,↥m2],rfl,rfl⟩,?_⟩;cbv;refine bQ (SqL.of (C2.same _ _ (S4 _ _ hb0))) (ua f1) ?_;cbv;refine⟨pt t i,m1,rfl,rfl,GV (by lia) (pU hBt i) (by_ _ (Ry g1)),?_⟩;cbv;refine bQ (SqL.of (C2.same _ _ h3)) (ua (by lia)) ?_;cbv;refine⟨pt y i,m2,rfl,rfl,GV (by lia) (pU by_ i) (hBt _ (Ry g2)),?_⟩;cbv;refine a_ (by rw[Rm,Rm];lia) ?_;rw[WU (pt t i) m1];refine C2.cF (.int _) (aq ?_) λH8 C8=>?_
   .rw[Rm,RT];lia
   .show AccZ K H3 D H8 (((kn t i y).take (m+1)).map Ss);rw[RP,ec,Rx];exact C8
  .intro H5 C;have lc:(kn t i y).length=t.length:=oM (by lia);rw[RG (by rw[Rm,Rm];lia)] at C;cbv;refine⟨D,kn t i y,rfl,AccZ.ints C,by lia,λc hc=>?_,λp2 H6 A6=>?_⟩
   .exact R3 (Cs hBt by_ c hc) (RJ (by decide) (by lia))
   .cbv;refine⟨p2,_,_,rfl,S4.trans (C.same.trans A6.same),.inr ((S4.trans C.same).free A6.new),?_⟩;have e:cX y t=bo (kn t i y):=by unfold cX;rw[fi];rfl
    rw[e];exact AccZ.ints A6
 .rintro σ H2 ⟨p,u2,u3,rfl,S,hp,h2⟩;rw[RG (by lia)] at h2;cbv;exact k p H2 S hp h2
abbrev SS(H:Hp)(D1 D2 D3:Addr):Addr->Prop:=λa=>H a=none/\a≠D1/\a≠D2/\a≠D3
abbrev ni(l:List Nat):List Int:=l.map λi:Nat=>(i:Int)
structure SH (K:Fg) (H H2:Hp) (D1 D2 D3:Addr) (st:rD):Prop where
 same:Same H H2
 n1:H D1=none
 n2:H D2=none
 n3:H D3=none
 d12:D1≠D2
 d13:D1≠D3
 d23:D2≠D3
 a1:∃xs,H2 D1=some (.lst xs)/\RpL K (SS H D1 D2 D3) H2 xs (st.stairs.map dL)
 a2:H2 D2=some (.lst ((ni st.free).map V.int))
 a3:∃xs,H2 D3=some (.lst xs)/\RpL K (SS H D1 D2 D3) H2 xs (st.makers.map dL)
def SH.on{K:Fg}{st:rD}(A:SH K H H2 D1 D2 D3 st)(e:Same H2 H3):SH K H H3 D1 D2 D3 st:=by
 obtain⟨xs,h1,r1⟩:=A.a1;obtain⟨zs,h3,r3⟩:=A.a3;exact⟨A.same.trans e,A.n1,A.n2,A.n3,A.d12,A.d13,A.d23,⟨xs,e _ _ h1,r1.same e⟩,e _ _ A.a2,⟨zs,e _ _ h3,r3.same e⟩⟩
def SH.O9{K:Fg}{H H2:Hp}{D1 D2 D3:Addr}{st:rD}{p:Addr}{z:List Int}{i:Nat}(A:SH K H H2 D1 D2 D3 st)(hp:SS H D1 D2 D3 p)(h:H2 p=some (.lst (z.map V.int))):∃xs,H2 D1=some (.lst xs)/\xs.length=st.stairs.length/\upd H2 D1 (.lst (xs++[.ref p])) D2=some (.lst ((ni st.free).map V.int)) /\
  SH K H (upd (upd H2 D1 (.lst (xs++[.ref p]))) D2 (.lst ((ni st.free).map V.int++[.int i]))) D1 D2 D3 ⟨st.stairs++[z],st.free++[i],st.makers⟩:=by
 obtain⟨xs,h1,r1⟩:=A.a1;obtain⟨zs,h3,r3⟩:=A.a3;have e2:upd H2 D1 (.lst (xs++[.ref p])) D2=some (.lst ((ni st.free).map V.int)):=by rw[aC A.d12.symm];exact A.a2
 refine⟨xs,h1,by rw[r1.length,Rm],e2,⟨λb o q=>?_,A.n1,A.n2,A.n3,A.d12,A.d13,A.d23,⟨xs++[.ref p],?_,?_⟩,?_,⟨zs,?_,?_⟩⟩⟩
 .rw[aC (au q A.n2),aC (au q A.n1)];exact A.same b o q
 .rw[aC A.d12];exact ag
 .show RpL K (SS H D1 D2 D3) _ _ ((st.stairs++[z]).map dL);rw[Rx];exact((r1.append (.cons (xp hp h) .nil)).agr (Agr.eN h1 λw=>w.2.1 rfl)).agr (Agr.eN e2 λw=>w.2.2.1 rfl)
 .show upd _ D2 _ D2=some (.lst ((ni (st.free++[i])).map V.int));rw[ag];unfold ni;rw[Rx,Rx];rfl
 .rw[aC A.d23.symm,aC A.d13.symm];exact h3
 .exact(r3.agr (Agr.eN h1 λw=>w.2.1 rfl)).agr (Agr.eN e2 λw=>w.2.2.1 rfl)
def SH.maker{K:Fg}{st:rD}{z:List Int}(A:SH K H H2 D1 D2 D3 st)(hp:SS H D1 D2 D3 p)(h:H2 p=some (.lst (z.map V.int))):∃xs,H2 D3=some (.lst xs)/\xs.length=st.makers.length /\
  SH K H (upd H2 D3 (.lst (xs++[.ref p]))) D1 D2 D3 ⟨st.stairs,st.free,st.makers++[z]⟩:=by
 obtain⟨xs,h1,r1⟩:=A.a1;obtain⟨zs,h3,r3⟩:=A.a3;refine⟨zs,h3,by rw[r3.length,Rm],⟨λb o q=>?_,A.n1,A.n2,A.n3,A.d12,A.d13,A.d23,⟨xs,?_,?_⟩,?_,⟨zs++[.ref p],ag,?_⟩⟩⟩
 .rw[aC (au q A.n3)];exact A.same b o q
 .rw[aC A.d13];exact h1
 .exact r1.agr (Agr.eN h3 λw=>w.2.2.2 rfl)
 .rw[aC A.d23];exact A.a2
 .show RpL K (SS H D1 D2 D3) _ _ ((st.makers++[z]).map dL);rw[Rx];exact(r3.append (.cons (xp hp h) .nil)).agr (Agr.eN h3 λw=>w.2.2.2 rfl)
abbrev RowV(H:Hp)(x:V)(r:List Int):Prop:=∃c,x=.ref c/\(H c=some (.lst (r.map V.int))\/H c=some (.tup (r.map V.int)))
abbrev CN(H:Hp)(a:Addr)(R:List (List Int)):Prop:=∃xs,H a=some (.lst xs)/\xs.length=R.length/\∀(i:Nat) (x:V) (r:List Int),xs[i]?=some x->R[i]?=some r->RowV H x r
def RowV.same(h:RowV H x r)(e:Same H H'):RowV H' x r:=by
 obtain⟨c,rfl,h⟩:=h;exact⟨c,rfl,h.imp (e _ _) (e _ _)⟩
abbrev OY(R:List (List Int)):rD:=zL R R.length
abbrev dS(st:rD):Dat:=.tuple [dL (ni st.free),.list (st.makers.map dL)]
abbrev zh(K:Fg):Sp:=λvs H Q _=>∃(a:Addr) (R:List (List Int)) (w b:Nat),vs=[.ref a]/\CN H a R/\Wide w R/\R.length<=20/\w<=20/\Db b R/\1<=b/\bits b R.length<=9000 /\
 ∀(p:Addr) (H':Hp),Same H H'->Rp K (λa=>H a=none) H' (.ref p) (dS (OY R))->Q (.ref p) H'
def Ef{R:List (List Int)}{i:Nat}{r:List Int}(h:R[i]?=some r):zL R (i+1)=js R.length (zL R i) i r:=by
 show js R.length (zL R i) i (R.getD i [])=_;rw[Rr,h];rfl
def Ke{K:Fg}{Q:VK}(e:RowV H x r)(h:∀l,H l=none->Q (.ref l) (upd H l (.lst (r.map V.int)))):eI K [x] H Q:=by
 obtain⟨c,rfl,e|e⟩:=e
 .exact oj (SqL.of e) h
 .exact Bs (SqT.of e) h
def G0{K:Fg}{Q:VK}(e:RowV H x r)(h:Q (.int r.length) H):bZ K [x] H Q:=by
 obtain⟨c,rfl,e|e⟩:=e
 .exact cw (SqL.of e) (by rw[Rm];exact h)
 .exact jK (SqT.of e) (by rw[Rm];exact h)
def Ck(xs:List V)(k:Nat):oK xs (some (k:Int)) none=xs.drop k:=by
 have e:HT.sIx xs.length 0 (some (k:Int))=min k xs.length:=by
  show(if (k:Int)<0 then ((k:Int)+(xs.length:Nat)).toNat else min (k:Int).toNat xs.length)=_;rw[if_neg (by lia),Su]
 have e2:HT.sIx xs.length xs.length none=xs.length:=rfl;unfold oK;rw[e,e2];by_cases h:k<=xs.length
 .rw[XD h,RG (by rw[Ts];exact RB _)]
 .rw[Xc (by lia),VC (RB _),VC (by lia),ZK]
abbrev sB(K:Fg):Sp:=λvs H Q _=>∃n i:Nat,vs=[.int (n:Int),.int (i:Int)]/\n<=100/\∀(p:Addr) (H':Hp),AccZ K H p H' ((bu n i).map Ss)->Q (.ref p) H'
def vg(n i:Nat):(bu n i).length=n:=by unfold bu;rw[Rm,R5]
abbrev rH(K:Fg):TS:=(aE (fA (b_ (ae (aa 0) ai)) (LG (aP (ao gk (aa 0) (aa 2))) (tC (.int 1)) (tC (.int 0)))))
def Ej{K:Fg}:ρ 2 (sB K) (rH K):=by
 fail "R";obtain⟨n,i,rfl,hn,k⟩:=h;rw[L2.aO hN];walk_at "t";unfold rH;cbv;rw[Su];refine dh (n:=n) λD nD=>⟨λj H4=>AccZ K H D H4 (((bu n i).take j).map Ss),by simpa using AccZ.start (Same.refl _) nD,?_,?_⟩
 .intro j H4 hj B;have eo:(bu n i)[j]?=some (if j=i then 1 else 0):=by unfold bu;rw[Rt,SM hj];rfl
  have fin:∀(v:Int),v=(if j=i then 1 else 0)->oU D n j (λj H4=>AccZ K H D H4 (((bu n i).take j).map Ss)) (.int v) H4:=by
   rintro v rfl;refine a_ hj ?_;refine B.cF (.int _) (aq (by rw[Rm,RT];lia)) λH5 B5=>?_
   show AccZ K H D H5 (((bu n i).take (j+1)).map Ss);rw[RP,eo,Rx];exact B5
  rw[Vi];cbv;refine aX (λe=>?_) (λe=>?_)
  .cbv;exact fin 1 (by rw[if_pos (by lia)])
  .cbv;exact fin 0 (by rw[if_neg (by lia)])
 intro H4 B;rw[RG (by rw[vg];exact RB _)] at B;exact k D H4 B
abbrev p_(n:Nat):List (List Int):=(RQ n).map (bu n)
def AG(n:Nat):(p_ n).length=n:=by unfold p_;rw[Rm,R5]
def ve{n i:Nat}(h:i<n):(p_ n)[i]?=some (bu n i):=by unfold p_;rw[Rt,SM h];rfl
abbrev sA(K:Fg):Sp:=λvs H Q _=>∃n:Nat,vs=[.int (n:Int)]/\n<=100/\∀(p:Addr) (H':Hp),Acc K H p H' ((p_ n).map dL)->Q (.ref p) H'
abbrev rG(K:Fg):TS:=(aE (fA (b_ (ae (aa 0) ai)) (aw (sB K) [] E0 (ae (aa 1) (ae (aa 0) ai)))))
def Ei{K:Fg}:ρ 1 (sA K) (rG K):=by
 fail "R";obtain⟨n,rfl,hn,k⟩:=h;rw[L2.aO hN];walk_at "t";unfold rG;cbv;rw[Su];refine dh (n:=n) λD nD=>⟨λj H3=>Acc K H D H3 (((p_ n).take j).map dL),by simpa using Acc.start nD,?_,?_⟩
 .intro j H3 hj A;rw[Vi];cbv;refine⟨n,j,rfl,hn,λp H4 C=>?_⟩;refine a_ hj ?_;refine A.cF C.same (d:=dL (bu n j)) C.ref (aq (by rw[Rm,RT];lia)) λH5 A5=>?_
  show Acc K H D H5 (((p_ n).take (j+1)).map dL);rw[RP,ve hj,Rx];exact A5
 .intro H3 A;rw[RG (by rw[AG];exact RB _)] at A;exact k D H3 A
structure UN (K:Fg) (H H2:Hp) (D1 D2 D3 U:Addr) (n:Nat):Prop where
 s:SS H D1 D2 D3 U
 at_:∃xs,H2 U=some (.lst xs)/\RpL K (SS H D1 D2 D3) H2 xs ((p_ n).map dL)
def UN.on{K:Fg}(A:UN K H H2 D1 D2 D3 U n)(e:Same H2 H3):UN K H H3 D1 D2 D3 U n:=by
 obtain⟨xs,h1,r1⟩:=A.at_;exact⟨A.s,xs,e _ _ h1,r1.same e⟩
def UN.upd{K:Fg}{D:Addr}(A:UN K H H2 D1 D2 D3 U n)(hD:D=D1\/D=D2\/D=D3)(h:H2 D=some (.lst l)):UN K H (L2.upd H2 D o) D1 D2 D3 U n:=by
 obtain⟨xs,h1,r1⟩:=A.at_
 have no:∀a,SS H D1 D2 D3 a->a≠D:=λa z e=>by
  rcases hD with rfl|rfl|rfl
  .exact z.2.1 e
  .exact z.2.2.1 e
  .exact z.2.2.2 e
 exact⟨A.s,xs,by rw[aC (no _ A.s)];exact h1,r1.agr (Agr.eN h λw=>no _ w rfl)⟩
def UN.get{K:Fg}{i:Nat}(A:UN K H H2 D1 D2 D3 U n)(hi:i<n):∃xs c,H2 U=some (.lst xs)/\xs[i]?=⇑c/\H2 c=some (.lst ((bu n i).map V.int)):=by
 obtain⟨xs,h1,r1⟩:=A.at_;obtain⟨x,e0,q0⟩:=r1.get' (i:=i) (d:=dL (bu n i)) (by rw[Rt,ve hi];rfl);obtain⟨c,rfl,_,hc⟩:=xq q0;exact⟨xs,c,h1,e0,hc⟩
nonrec abbrev DE(K:Fg):TS:=(aS (aP (ao xE (aw (jd K) [] E0 (ae (aa 7) ai)) (bU (bZ K) (ae (aa 6) ai))))
 (am (bn (dD K "list" aJ (aa 1) (ae (aa 7) ai)))
 (bn (dD K "list" aJ (aa 2) (ae (aa 5) ai))))
 (bn (dD K "list" aJ (aa 3) (ae (aw (uK K) [] E0 (ae (LC (Jf K) (aa 7) (wA (bU (bZ K) (ae (aa 6) ai))) mj) ai)) ai))))
nonrec abbrev DC(K:Fg):TS:=(am (a9 (iP K (ae (aa 0) ai)) (cj K 2 (aY (al 5) (aY (al 6) ck)))
 (am (av (aw (Ij K) [] E0 (ae (ao Ah (bU (eI K) (ae (aa 6) ai)) (ao (bI K) (aa 4) (aa 5))) (ae (aa 1) ai))) (al 7))
 (DE K)))
 (aE (bg (ae (aa 2) (ae (aa 3) ai)))))
abbrev yd(K:Fg):TS:=(am (av (bP ai) (al 1))
 (am (av (bP ai) (al 2))
 (am (av (bP ai) (al 3))
 (am (av (aw (sA K) [] E0 (ae (bU (bZ K) (ae (aa 0) ai)) ai)) (al 4))
 (DC K)))))
def IE{K:Fg}:ρ 8 (zh K) (yd K):=by
 fail "R";obtain⟨a,R,w,b,rfl,⟨xs,ha,lx,rx⟩,hw,hl,hw1,hb,hb1,hbits,k⟩:=h;rw[L2.aO hN];walk_at "t";unfold yd;cbv;refine⟨by decide,λD1 n1=>?_⟩;cbv;refine⟨by decide,λD2 n2=>?_⟩;cbv;refine⟨by decide,λD3 n3=>?_⟩
 have A0:SH K H (upd (upd (upd H D1 (.lst [])) D2 (.lst [])) D3 (.lst [])) D1 D2 D3 (zL R 0):=by
  have S1:=aj n1 (.lst []);have S2:=aj n2 (.lst []);have S3:=aj n3 (.lst []);have h1:upd H D1 (.lst []) D1=some (.lst []):=ag;have h2:upd (upd H D1 (.lst [])) D2 (.lst []) D2=some (.lst []):=ag;exact⟨S1.trans (S2.trans S3),n1,S1.free n2,(S1.trans S2).free n3,au h1 n2,au (S2 _ _ h1) n3,au h2 n3,⟨[],S3 _ _ (S2 _ _ h1),.nil⟩,S3 _ _ h2,⟨[],ag,.nil⟩⟩
 generalize upd (upd (upd H D1 (.lst [])) D2 (.lst [])) D3 (.lst [])=H0 at A0 ⊢;cbv;refine cw (SqL.of (A0.same _ _ ha)) ?_;rw[lx];cbv;refine⟨R.length,rfl,by lia,λU H1 AU=>?_⟩
 have B0:UN K H H1 D1 D2 D3 U R.length:=by
  obtain⟨x1,hx1,_⟩:=A0.a1;obtain⟨x3,hx3,_⟩:=A0.a3;have ss:∀q,H0 q=none->SS H D1 D2 D3 q:=λq nq=>⟨A0.same.free nq,(au hx1 nq).symm,(au A0.a2 nq).symm,(au hx3 nq).symm⟩
  obtain⟨ys,hy,ry⟩:=AU.at_;exact⟨ss U AU.new,ys,hy,ry.mono λq z=>ss q z.1⟩
 replace A0:=A0.on AU.same;clear AU;cbv;refine⟨a,xs,rfl,SqL.of (A0.same _ _ ha),?_⟩;refine dB (xs:=xs) (λi σ H2=>∃u5 u6 u7:Option V,σ=[⇑a,⇑D1,⇑D2,⇑D3,⇑U,u5,u6,u7]/\SH K H H2 D1 D2 D3 (zL R i)/\UN K H H2 D1 D2 D3 U R.length) ⟨none,none,none,rfl,A0,B0⟩ (by rintro i σ H2 _ ⟨_,_,_,_,A,_⟩;exact SqL.of (A.same _ _ ha)) ?_ ?_
 .clear A0 B0 n1 n2 n3;rintro i x σ H2 T hx ⟨u5,u6,u7,rfl,A,B⟩ nT;have li:i<R.length:=by rw[<- lx];exact(Rq.mp hx).1
  obtain⟨r,hr⟩:∃r,R[i]?=some r:=⟨_,Rn li⟩
  have rv:=rx i x r hx hr;have I:=Ir hw hb1 hb i (by lia);have lr:=hw r (Ry hr);have Y:=(Iz I hb1 li lr (hb r (Ry hr))).1;have es:=Ef hr;rw[es];generalize zL R i=st at A I Y ⊢;have A2:=A.on (aj nT (.tup [.int (i:Int),x]));have B2:=B.on (aj nT (.tup [.int (i:Int),x]));have hT:upd H2 T (.tup [.int (i:Int),x]) T=some (.tup [.int (i:Int),x]):=ag;generalize upd H2 T (.tup [.int (i:Int),x])=H3 at A2 B2 hT ⊢;refine bG (SqT.of hT) rfl ?_;have lo:(bu R.length i).length=R.length:=vg _ _;cbv;refine Ke (rv.same A2.same) λl nl=>?_
  have A5:=A2.on (aj nl (.lst (r.map V.int)));have B5:=B2.on (aj nl (.lst (r.map V.int)));have hl5:upd H3 l (.lst (r.map V.int)) l=some (.lst (r.map V.int)):=ag;generalize upd H3 l (.lst (r.map V.int))=H5 at A5 B5 hl5 ⊢;obtain⟨us,D,hU,eD,hD5⟩:=B5.get li;cbv;refine bQ (SqL.of hU) (v:=.ref D) (aK (j:=i) eD) ?_;cbv;refine⟨l,D,_,_,rfl,rfl,hl5,hD5,?_,λq nq=>?_⟩
  .have:(r.map V.int).length+((bu R.length i).map V.int).length<sizeLine:=aq (by rw[Rm,Rm];lia)
   lia
  rw[<- Rx];have hq6:upd H5 q (.lst ((r++bu R.length i).map V.int)) q=some (.lst ((r++bu R.length i).map V.int)):=ag;have A6:=A5.on (aj nq (.lst ((r++bu R.length i).map V.int)));have B6:=B5.on (aj nq (.lst ((r++bu R.length i).map V.int)));obtain⟨x1,hx1,rx1⟩:=A5.a1;obtain⟨x3,hx3,rx3⟩:=A5.a3;have sq:SS H D1 D2 D3 q:=⟨A5.same.free nq,(au hx1 nq).symm,(au A5.a2 nq).symm,(au hx3 nq).symm⟩
  generalize upd H5 q (.lst ((r++bu R.length i).map V.int))=H6 at hq6 A6 B6 ⊢;cbv;obtain⟨ps,s1,s2,s3,_⟩:=I.sta;have lxo:(r++bu R.length i).length=w+R.length:=by rw[RF,lo,lr]
  have bst:bits b st.stairs.length<=bits b R.length:=gJ (by have:=I.cnt;lia);refine⟨q,D1,r++bu R.length i,st.stairs,b,rfl,hq6,?_,by lia,λt ht=>⟨by rw[I.len t ht,lxo],?_⟩,?_,I.bnd,by lia,λp H7 S7 hp h7=>?_⟩
  .obtain⟨y1,hy1,ry1⟩:=A6.a1;exact⟨y1,hy1,ry1.mono λ_ _=>trivial⟩
  .have:fp t∈st.stairs.map fp:=RO.mpr ⟨t,ht,rfl⟩
   rw[s3] at this;obtain⟨p0,_,e0⟩:=RO.mp this;exact⟨p0,e0.symm⟩
  .intro c hc;rcases RX.mp hc with m|m
   .exact hb r (Ry hr) c m
   .unfold bu at m;obtain⟨o,_,rfl⟩:=RO.mp m
    have:2 ^ 1<=2 ^ b:=RJ (by decide) hb1
    split <;> lia
  have A7:=A6.on S7;have B7:=B6.on S7
  have sp:SS H D1 D2 D3 p:=by
   rcases hp with rfl|np
   .exact sq
   .obtain⟨y1,hy1,_⟩:=A6.a1;obtain⟨y3,hy3,_⟩:=A6.a3;exact⟨A6.same.free np,(au hy1 np).symm,(au A6.a2 np).symm,(au hy3 np).symm⟩
  have h7':H7 p=some (.lst ((cD R.length st i r).map V.int)):=h7;cbv;refine⟨p,cD R.length st i r,rfl,h7',λH8 S8=>?_⟩;have A8:=A7.on S8;have B8:=B7.on S8;have h8:=S8 _ _ h7';obtain⟨f,f1,f2⟩:=Y.ne;have fv:Hb (cD R.length st i r)=.int f:=by unfold Hb;rw[f1]
  rw[fv];cbv;refine G0 (rv.same A8.same) ?_;cbv;refine aX (λc=>?_) (λc=>?_)
  .have c':f<r.length:=by lia
   have e1:js R.length st i r=⟨st.stairs++[cD R.length st i r],st.free++[i],st.makers⟩:=by
    unfold js;rw[f1];exact if_pos c'
   obtain⟨zs,z1,z2,z3,z4⟩:=A8.O9 (i:=i) sp h8;cbv;refine⟨w_ z1,?_⟩;cbv;refine⟨D1,zs,_,rfl,rfl,z1,aq (by have:=I.cnt;lia),?_⟩;cbv;refine⟨w_ z3,?_⟩;cbv;refine⟨D2,_,_,rfl,rfl,z3,aq ?_,?_⟩
   .have:st.free.length<=i:=by
     rw[I.free]
     have:∀i,(qJ R i).length<=i:=by
      intro i
      induction i with
      |zero=>exact RB _
      |succ i ih =>
       by_cases g:dU (rowsOf R (qJ R i)++[R.getD i []])
       .rw[BI rfl g,RF];exact W_ ih
       .rw[G8 rfl g];lia
     exact this i
    unfold ni;rw[Rm,Rm];lia
   .rw[e1];exact⟨_,_,_,rfl,z4,(B8.upd (.inl rfl) z1).upd (.inr (.inl rfl)) z3⟩
  .have c' : ¬ f<r.length:=by lia
   have e1:js R.length st i r=⟨st.stairs,st.free,st.makers++[bo ((cD R.length st i r).drop r.length)]⟩:=by
    unfold js;rw[f1];exact if_neg c'
   obtain⟨y3,hy3,_⟩:=A8.a3;cbv;refine⟨w_ hy3,?_⟩;cbv;refine G0 (rv.same A8.same) ?_;cbv;refine⟨p,_,rfl,SqL.of h8,λt nt=>?_⟩;rw[Ck,<- ZN];have A9:=A8.on (aj nt (.lst (((cD R.length st i r).drop r.length).map V.int)));have B9:=B8.on (aj nt (.lst (((cD R.length st i r).drop r.length).map V.int)));have h9:upd H8 t (.lst (((cD R.length st i r).drop r.length).map V.int)) t=some (.lst (((cD R.length st i r).drop r.length).map V.int)):=ag;generalize upd H8 t (.lst (((cD R.length st i r).drop r.length).map V.int))=H9 at A9 B9 h9 ⊢;cbv;refine⟨t,_,rfl,h9,by rw[Ts,Y.len];lia,λc hc=>?_,λp2 H10 C2=>?_⟩
   .exact R3 (Y.bnd c (VX hc)) (RJ (by decide) (by lia))
   .have A10:=A9.on C2.same;obtain⟨y1,hy1,_⟩:=A9.a1;obtain⟨y4,hy4,_⟩:=A9.a3;have sp2:SS H D1 D2 D3 p2:=⟨A9.same.free C2.new,(au hy1 C2.new).symm,(au A9.a2 C2.new).symm,(au hy4 C2.new).symm⟩
    obtain⟨zs,z1,z2,z3⟩:=A10.maker sp2 (AccZ.ints C2);cbv;refine⟨D3,zs,_,rfl,rfl,z1,aq (by have:=I.mks;lia),?_⟩;rw[e1];exact⟨_,_,_,rfl,z3,(B9.on C2.same).upd (.inr (.inr rfl)) z1⟩
 .rintro σ H2 ⟨u5,u6,u7,rfl,A,_⟩;rw[lx] at A;cbv;refine⟨aM,λp np=>?_⟩;obtain⟨x3,h3,r3⟩:=A.a3;have S:=aj np (.tup [.ref D2,.ref D3]);refine k p _ (A.same.trans S) (.tup ag (.cons (xp A.n2 (S _ _ A.a2)) (.cons (.lst A.n3 (S _ _ h3) ((r3.same S).mono λ_ z=>z.1)) .nil)))
structure La (w:Nat) (ts:List Tn):Prop where
 le:ts.length<=8
 w5:w<=5
 fr:∀t∈ts,t.fr.length=w
 wide:Wide w (ts.map Oj)
 bnd:Db 2 (ts.map Oj)
def QH(vo:gK ws ts):La ws.length ts:=by
 obtain⟨hs,po,_,tk⟩:=vo.turns;have ho:∀t∈ts,eR ws.length t.fr/\eR ws.length t.to:=λt ht=>⟨po.2 _ (tk.ok t ht).1,po.2 _ (tk.ok t ht).2.1⟩
 refine⟨tk.le,vo.w5,λt ht=>(ho t ht).1.1,λr hr=>?_,λr hr c hc=>?_⟩
 .obtain⟨t,ht,rfl⟩:=RO.mp hr;unfold Oj;rw[Zz,(ho t ht).1.1,(ho t ht).2.1,Nat.min_self]
 .obtain⟨t,ht,rfl⟩:=RO.mp hr;unfold Oj at hc;obtain⟨i,hi⟩:=SN hc;rw[VM] at hi;cases e1:t.fr[i]? with
  |none=>rw[e1] at hi;simp at hi
  |some x =>
   cases e2:t.to[i]? with
   |none=>rw[e1,e2] at hi;simp at hi
   |some y =>
    rw[e1,e2] at hi;have hi':=RY hi;have b1:=(ho t ht).1.2 x (Ry e1);have b2:=(ho t ht).2.2 y (Ry e2);show c.natAbs<4;lia
def Op{n:Nat}(h:n<=8):bits 2 n<=9000:=RN (gJ h) (by decide)
end Rw
namespace Cl
end Cl
namespace Mk
open Rk Sz Sf Cl
def jw(a:List Int)(j:Nat):pt a.tail j=pt a (j+1):=by
 cases a with
 |nil=>rfl
 |cons x a=>rfl
def gF(a:List Int)(r:List Int)(R:List (List Int))(q:Nat):bA a (r :: R) q=pt a 0*pt r q+bA a.tail R q:=by
 cases a with
 |nil=>show(0:Int)=0*pt r q+bA [] R q;cases R <;> simp[bA]
 |cons x a=>rfl
def jU{α β:Int}{q:Nat}:∀{R:List (List Int)} {a b c:List Int},(∀j,pt c j=α * pt a j + β * pt b j)->bA c R q=α * bA a R q + β * bA b R q
 |[],a,b,c,_=>by rw[tW,tW,tW];simp
 |r :: R,a,b,c,h=>by
  have ih:=jU (R:=R) (a:=a.tail) (b:=b.tail) (c:=c.tail) (q:=q) λj=>by rw[jw,jw,jw];exact h (j+1)
  rw[gF,gF,gF,ih,h 0,Zl,Vy,Vy,Ua,Ua];lia
def eK(s:List Int)(w j:Nat):pt (s.drop w) j=pt s (w+j):=by
 unfold pt;rw[Rr,Rr,Z3]
def vO{q:Nat}:∀{R:List (List Int)} {a:List Int} {i:Nat} {r:List Int},R[i]?=some r->(∀j,pt a j=if j=i then 1 else 0)->bA a R q=pt r q
 |x :: R,a,0,r,e,h=>by
  have e':x=r:=RY e;have z:bA a.tail R q=0*bA [] R q+0*bA [] R q:=jU λj=>by rw[jw,h (j+1)];simp
  rw[gF,z,h 0,e'];simp
 |x :: R,a,i+1,r,e,h=>by
  have ih:=vO (R:=R) (a:=a.tail) (i:=i) (q:=q) (by simpa using e) λj=>by rw[jw,h (j+1)];simp
  rw[gF,ih,h 0];simp
abbrev Md(w:Nat)(R:List (List Int))(s:List Int):Prop:=∀q<w,pt s q=bA (s.drop w) R q
def M8{w:Nat}{R:List (List Int)}{r:List Int}{i:Nat}(hr:R[i]?=some r)(lr:r.length=w):Md w R (r++bu R.length i):=by
 intro q hq;have hi:i<R.length:=(Rq.mp hr).1
 have e:pt (r++bu R.length i) q=pt r q:=by
  unfold pt;rw[Rr,SO (by lia),Rr]
 rw[e];refine(vO hr λj=>?_).symm;rw[eK,vf lr];by_cases z:j=i
 .rw[if_pos ⟨z ▸ hi,z⟩,if_pos z]
 .rw[if_neg (λy=>z y.2),if_neg z]
def M7(my:Md w R y)(ms:Md w R s)(l:y.length=s.length):Md w R (cX y s):=by
 intro q hq;unfold cX;generalize (fp s).getD 0=p;obtain⟨g,hg,eg⟩:=jI (kn s p y)
 have e1:g*pt (bo (kn s p y)) q=g*bA ((bo (kn s p y)).drop w) R q:=by
  have a1:bA ((kn s p y).drop w) R q=g*bA ((bo (kn s p y)).drop w) R q+0*bA [] R q:=jU λj=>by
   rw[eK,eK,eg (w+j)];simp
  have a2:bA ((kn s p y).drop w) R q=pt s p*bA (y.drop w) R q+(-pt y p)*bA (s.drop w) R q:=jU λj=>by
   rw[eK,eK,eK,Ak l,WU (pt y (w+j)),VW];lia
  rw[eg q,Ak l,my q hq,ms q hq];rw[a1,WX,VA] at a2;rw[a2,WU (bA (y.drop w) R q),VW];lia
 exact Wa hg e1
def kS{w L:Nat}{R:List (List Int)}:∀(S:List (List Int)) (y:List Int),(∀s∈S,s.length=L/\Md w R s)->y.length=L->Md w R y->Md w R (aT y S)
 |[],y,_,_,m=>m
 |s :: S,y,h,l,m=>by
  have hs:=h s Ru;refine kS S (cX y s) (λt ht=>h t (RA _ ht)) ?_ (M7 m hs.2 (by rw[l,hs.1]));unfold cX;rw[du,oM (by rw[l,hs.1]),hs.1]
def BN{g:Int}:∀(r:List Int) (d:Int),(r.map λx=>g*x).foldl Gd.gd (g*d)=(g.natAbs:Int)*r.foldl Gd.gd d\/(r=[]/\(r.map λx=>g*x).foldl Gd.gd (g*d)=g*d)
 |[],d=>.inr ⟨rfl,rfl⟩
 |x :: r,d=>by
  refine .inl ?_
  have e:Gd.gd (g*d) (g*x)=(g.natAbs:Int)*Gd.gd d x:=by
   unfold Gd.gd;rw[YD];simp
  show(r.map λx=>g*x).foldl Gd.gd (Gd.gd (g*d) (g*x))=(g.natAbs:Int)*r.foldl Gd.gd (Gd.gd d x);rw[e]
  have abs:∀(r:List Int) (d:Int),(r.map λx=>g*x).foldl Gd.gd ((g.natAbs:Int)*d)=(g.natAbs:Int)*r.foldl Gd.gd d:=by
   intro r
   induction r with
   |nil=>intro d;rfl
   |cons y r ih =>
    intro d
    have e:Gd.gd ((g.natAbs:Int)*d) (g*y)=(g.natAbs:Int)*Gd.gd d y:=by
     unfold Gd.gd
     have:Zao ((g.natAbs:Int)*d) (g*y)=Zao (g*d) (g*y):=by
      rw[XG,XG,SL,SL,SL];simp
     rw[this,YD];simp
    show(r.map λx=>g*x).foldl Gd.gd (Gd.gd ((g.natAbs:Int)*d) (g*y))=_;rw[e,ih];rfl
  exact abs r _
def jP:∀(r:List Int) (d:Int),0<=d->0<=r.foldl Gd.gd d
 |[],d,h=>h
 |x :: r,d,_=>jP r _ (Gd.BL d x)
def Fi{i:Nat}(h:fp r=some i):cK (bo r)=1/\fp (bo r)=some i/\0<pt (bo r) i:=by
 obtain⟨f1,f2,f3⟩:=cU h;have d0:=vN f2;have dd:=tT r i;have el:bo r=r.map λx=>x.fdiv (dR r i):=by unfold bo;rw[h]
 have back:r=(bo r).map λx=>dR r i*x:=by
  rw[el,Tv]
  conv=>lhs;rw[<- List.map_id r]
  refine US λx hx=>?_
  show x=dR r i*x.fdiv (dR r i);rw[Xx (dd x hx)]
 have ptl:∀q,dR r i*pt (bo r) q=pt r q:=by
  intro q;rw[el];unfold pt;rw[Rr,Rt,Rr];cases e2:r[q]? with
  |none=>exact WW _
  |some c=>exact Xx (dd c (Ry e2))
 have g0:=BO f2;have gn:0<=cK r:=jP r 0 (Int.le_refl _);have gp:0<cK r:=by lia
 have da:((dR r i).natAbs:Int)=cK r:=by unfold dR;split <;> lia
 refine⟨?_,?_,?_⟩
 .have:=BN (g:=dR r i) (bo r) 0
  rw[WW,<- back] at this;rcases this with e|⟨e,_⟩
  .have e':cK r=cK r*cK (bo r):=by rw[da] at e;exact e
   have:cK r*cK (bo r)=cK r*1:=by lia
   exact Wa g0 this
  .rw[e] at back;rw[back] at f1;simp at f1
 .have nz:pt (bo r) i≠0:=λz=>f2 (by rw[<- ptl i,z,WW])
  have l:i<(bo r).length:=by rw[du];exact f1
  unfold fp;rw[U7];refine⟨l,?_,λj hj=>?_⟩
  .unfold pt at nz;rw[Rr,Rn l] at nz;simpa using nz
  .have z:pt (bo r) j=0:=by
    have:=ptl j
    rw[f3 j hj] at this;exact(TF.mp this).resolve_left d0
   unfold pt at z;rw[Rr,Rn (by lia)] at z;simpa using z
 .have e:=ptl i;unfold dR at e;split at e
  .rename_i ng;by_cases z:0<pt (bo r) i
   .exact z
   .have:0<=cK r * -pt (bo r) i:=Zby gn (by lia)
    rw[Za7] at this;rw[VW] at e;lia
  .rename_i ng;by_cases z:0<pt (bo r) i
   .exact z
   .have:0<=cK r * -pt (bo r) i:=Zby gn (by lia)
    rw[Za7] at this;lia
def BR(h:dU M)(n:pt m p≠0)(z:∀t∈M,pt t p=0):dU (M++[m]):=by
 intro a la ha;obtain⟨a1,a2,rfl,l1,l2⟩:=split_len la;obtain⟨x,rfl⟩:∃x,a2=[x]:=UV.mp l2
 have x0:x=0:=by
  have:=ha p
  rw[h_ _ _ _ l1,df z] at this;have e:0+(x*pt m p+0)=0:=this;exact(TF.mp (by lia:x*pt m p=0)).resolve_right n
 intro c hc;rcases RX.mp hc with q|q
 .refine h a1 l1 (λk=>?_) c q
  have:=ha k
  rw[h_ _ _ _ l1,x0] at this;have e:bA a1 M k+(0*pt m k+0)=0:=this;lia
 .rw[RL.mp q];exact x0
def o_:∀{S:List (List Int)} {ps:List Nat},cq S ps->S.length=ps.length
 |_,_,.nil=>rfl
 |_,_,.cons _ _ r=>congrArg (· + 1) (o_ r)
def uF{p:Nat}:∀{S:List (List Int)} {ps:List Nat},cq S ps->(∀t∈S,pt t p=0)->p∉ps
 |_,_,.nil,_=>by simp
 |_,_,.cons (s:=s) (p:=q) h1 _ r,z=>λm=>by
  rcases RW.mp m with e|m
  .exact h1 (by rw[<- e];exact z s Ru)
  .exact uF r (λt ht=>z t (RA _ ht)) m
def uG:∀{S:List (List Int)} {ps:List Nat},cq S ps->ps.Nodup
 |_,_,.nil=>Uu
 |_,_,.cons _ h2 r=>SJ.mpr ⟨uF r h2,uG r⟩
def DW{w:Nat}(h:cq S ps)(l:∀p∈ps,p<w):S.length<=w:=by
 have:=Ti.b9 (hs:=RQ w) (uG h) λp hp=>Sr.mpr (l p hp)
 rw[R5] at this;rw[o_ h];exact this
structure Good (R:List (List Int)) (w b:Nat) (m:List Int):Prop where
 len:m.length=R.length
 nought:∀q,bA m R q=0
 low:cK m=1
 first:∃k,fp m=some k/\0<pt m k
 bnd:∀c∈m,c.natAbs<2 ^ bits b (min w R.length)
structure MI (R:List (List Int)) (w b i:Nat) (st:rD):Prop where
 cnt:st.makers.length+st.free.length=i
 md:∀s∈st.stairs,Md w R s
 good:∀m∈st.makers,Good R w b m
 last:∀m∈st.makers,∀j,i<=j->pt m j=0
 free:dU st.makers
def FV{q:Nat}(hw:Wide w R)(hq:w<=q):bA a R q=0:=df λs hs=>by
 unfold pt;rw[Rr,Sw (by rw[hw s hs];exact hq)];rfl
def J3{st:rD}{r:List Int}(hw:Wide w R)(I:SI R w b i st)(J:MI R w b i st)(hb:1<=b)(hr:R[i]?=some r)(br:∀c∈r,c.natAbs<2 ^ b):MI R w b (i+1) (js R.length st i r):=by
 have lr:=hw r (Ry hr);have hi:i<R.length:=(Rq.mp hr).1;obtain⟨Y,ps,s1,s2,s3,s4,C⟩:=Iz I hb hi lr br;have lx:(r++bu R.length i).length=w+R.length:=by unfold bu;rw[RF,Rm,R5,lr]
 have M:Md w R (cD R.length st i r):=kS st.stairs _ (λs hs=>⟨I.len s hs,J.md s hs⟩) lx (M8 hr lr);have ws:=DW s1 s2;obtain⟨d,c,G,ld,hc,hG,e⟩:=C.made
 have at_i:pt (cD R.length st i r) (w+i)≠0:=by
  intro z;have e1:=e (w+i);rw[z,vf lr,df λs hs=>I.own s hs i (RB _),if_pos ⟨hi,rfl⟩] at e1;lia
 unfold js;generalize cD R.length st i r=z at Y C M at_i;obtain⟨q,f1,f2⟩:=Y.ne;rw[f1];show MI R w b (i+1) (if q<r.length then _ else _);split
 .refine⟨?_,λs hs=>?_,J.good,λm hm j hj=>J.last m hm j (by lia),J.free⟩
  .show st.makers.length+(st.free++[i]).length=i+1;rw[RF]
   have:=J.cnt
   show st.makers.length+(st.free.length+1)=i+1;lia
  .rcases RX.mp hs with m|m
   .exact J.md s m
   .rw[RL.mp m];exact M
 .rename_i lq;rw[lr] at lq;have z0:∀k,k<w->pt z k=0:=λk hk=>(cU f1).2.2 k (by lia)
  rw[lr];have dn:pt (z.drop w) i≠0:=by rw[eK];exact at_i
  obtain⟨k,fk⟩:∃k,fp (z.drop w)=some k:=by
   cases f:fp (z.drop w) with
   |none=>exact absurd (BS f i) dn
   |some k=>exact⟨k,rfl⟩
  obtain⟨l1,l2,l3⟩:=Fi fk;obtain⟨g,hg,eg⟩:=jI (z.drop w)
  have zero:∀j,pt (z.drop w) j=0->pt (bo (z.drop w)) j=0:=λj h=>by
   have:=eg j
   rw[h] at this;exact(TF.mp this).resolve_left hg
  have G1:Good R w b (bo (z.drop w)):=by
   refine⟨?_,λq=>?_,l1,⟨k,l2,l3⟩,?_⟩
   .rw[du,Ts,Y.len];lia
   .by_cases hq:q<w
    .have a1:bA (z.drop w) R q=g*bA (bo (z.drop w)) R q+0*bA [] R q:=jU λj=>by rw[eg j];simp
     rw[<- M q hq,z0 q hq,WX,VA] at a1;exact(TF.mp a1.symm).resolve_left hg
    .exact FV hw (by lia)
   .refine vv λc hc=>?_
    exact R3 (Y.bnd c (VX hc)) (RJ (by decide) (gJ (by have:=I.cnt;lia)))
  refine⟨?_,J.md,λm hm=>?_,λm hm j hj=>?_,?_⟩
  .show(st.makers++[_]).length+st.free.length=i+1;rw[RF]
   have:=J.cnt
   show st.makers.length+1+st.free.length=i+1;lia
  .rcases RX.mp hm with y|y
   .exact J.good m y
   .rw[RL.mp y];exact G1
  .rcases RX.mp hm with y|y
   .exact J.last m y j (by lia)
   .rw[RL.mp y];exact zero j (by rw[eK];exact Y.own j hj)
  .refine BR (p:=i) J.free (λy=>dn ?_) λt ht=>J.last t ht i (RB _)
   rw[<- eg i,y,WW]
def M4{R:List (List Int)}{w b:Nat}(hw:Wide w R)(hb:1<=b)(br:Db b R):∀i,i<=R.length->MI R w b i (zL R i)
 |0,_=>⟨rfl,(λs hs=>by cases hs),(λs hs=>by cases hs),(λs hs=>by cases hs),λa la _ c hc=>by
   have:a=[]:=TW.mp la
   subst this
   cases hc⟩
 |i+1,h=>by
  have hr:R[i]?=some (R.getD i []):=by rw[Rr,Rn (by lia)];rfl
  exact J3 hw (Ir hw hb br i (by lia)) (M4 hw hb br i (by lia)) hb hr (br _ (Ry hr))
end Mk
namespace Rw
open PySem L2 Fr G1 Sm Vs G2 Rk Sz Sf Cl
open PySem.W (Dat kqdOk)
abbrev dM(M:List (List Int)):Dat:=.list (M.map dL)
abbrev mF(K:Fg):Sp:=λvs H Q _=>∃(a:Addr) (R:List (List Int)) (w b:Nat),vs=[.ref a]/\CN H a R/\Wide w R/\R.length<=20/\w<=20/\Db b R/\1<=b/\bits b R.length<=9000 /\
 ∀(p:Addr) (H':Hp),Same H H'->Rp K (λa=>H a=none) H' (.ref p) (dM (OY R).makers)->Q (.ref p) H'
abbrev l4(K:Fg):TS:=(aE (ao (aG K) (aw (zh K) [] E0 (ae (aa 0) ai)) (tC (.int 1))))
def zW{K:Fg}:ρ 1 (mF K) (l4 K):=by
 fail "R";obtain⟨a,R,w,b,rfl,hr,hw,hl,hw1,hb,hb1,hbits,k⟩:=h;rw[L2.aO hN];walk_at "t";unfold l4;cbv;refine⟨a,R,w,b,rfl,hr,hw,hl,hw1,hb,hb1,hbits,λp H1 S1 rp=>?_⟩;obtain⟨q,xs,e,hq,rx⟩:=rp.cr;cases e;cases rx with
 |cons h1 r1 =>
  cases r1 with
  |cons h2 r2 =>
   cases r2;obtain⟨c,ys,rfl,nc,hc,ry⟩:=Rp.kT h2;cbv;refine aF (SqT.of hq) (v:=.ref c) (aK (j:=1) rfl) ?_;exact k c H1 S1 h2
def Pa{K:Fg}{R:List (List Int)}(A:Acc K H0 p H (R.map dL)):CN H p R:=by
 obtain⟨xs,h1,h2⟩:=A.at_;refine⟨xs,h1,by rw[h2.length,Rm],λi x r hx hr=>?_⟩;obtain⟨d,g1,g2⟩:=h2.get hx;rw[Rt,hr] at g1;cases g1;obtain⟨b,rfl,_,hb⟩:=xq g2;exact⟨b,rfl,.inl hb⟩
end Rw
namespace Dn
open PySem L2 Fr G1 Sm Vs G2 Rk Sz
open PySem.W (Dat kqdOk)
abbrev pr(t:Tn):Tp:=(t.fr,t.to)
end Dn
namespace Dn
open PySem L2 Fr G1 Sm Vs G2 Rk Sz
open PySem.W (Dat kqdOk kas_sort)
open PySem.W (Dat kqdOk)
abbrev sR(K:Fg):Sp:=λvs H Q _=>∃(c z:Int) (n:Nat),vs=[.int c,.int (n:Int),.int z]/\n<=5/\0<z/\z.natAbs<2 ^ 9000/\∀(p:Addr) (H':Hp) (cs:List Int),Same H H'->cs.length=n->(∀x∈cs,0<=x/\x<z)->Rz K H' (.ref p) (dI cs)->Q (.ref p) H'
nonrec abbrev yO(K:Fg):TS:=(aS (aP (ao gk (ao aQ (aa 0) (tC (.int 2))) (tC (.int 1))))
 (am (bn (dD K "list" aJ (aa 3) (ae (ao aQ (aa 4) (aa 2)) ai)))
 (av (ao EO (aa 4) (aa 2)) (al 4)))
 (bn (dD K "list" aJ (aa 3) (ae (ao aQ (aw dF [] E0 (ae (aa 0) (ae (ao aW (tC (.int 30)) (aa 5)) ai))) (aa 2)) ai))))
abbrev sk(K:Fg):TS:=(am (av (bP ai) (al 3))
 (am (av (ao bV (aa 0) (tC (.int 2))) (al 4))
 (am (a9 (b_ (ae (aa 1) ai)) (al 5)
 (yO K))
 (aE (bU (cE K) (ae (aa 3) ai))))))
def EF{K:Fg}:ρ 6 (sR K) (sk K):=by
 fail "R";obtain⟨c,z,n,rfl,hn,hz,hz2,k⟩:=h;rw[L2.aO hN];walk_at "t";unfold sk;cbv;refine⟨by decide,λl nl=>?_⟩;have A0:AccZ K H l (upd H l (.lst [])) (([]:List Int).map Ss):=AccZ.start (Same.refl _) nl;generalize upd H l (.lst [])=H0 at A0 ⊢;cbv;rw[Su];refine aR (λi σ H2=>∃(cs:List Int) (m:Int) (u5:Option V),σ=[↥c,↥(n:Int),↥z,⇑l,↥m,u5]/\AccZ K H l H2 (cs.map Ss)/\cs.length=i/\∀x∈cs,0<=x/\x<z) ⟨[],_,none,rfl,A0,rfl,by simp⟩ ?_ ?_
 .rintro i σ H2 hi ⟨cs,m,u5,rfl,A,lc,bc⟩
  have fin:∀(x:Int) (σ':St),0<=x->x<z->∀H3,AccZ K H l H3 (cs.map Ss++[.int x])->AccZ K H l H3 ((cs++[x]).map Ss)/\(cs++[x]).length=i+1/\∀y∈cs++[x],0<=y/\y<z:=by
   intro x _ x0 x1 H3 A3;refine⟨by rw[Rx];exact A3,by rw[RF,lc];rfl,λy hy=>?_⟩;rcases RX.mp hy with m|m
   .exact bc y m
   .rw[RL.mp m];exact⟨x0,x1⟩
  cbv;refine aX (λe=>?_) (λe=>?_)
  .cbv;refine⟨A.ty,?_⟩;cbv;refine bW A (.int _) (aq (by rw[Rm];lia)) λH3 A3 _ _ _=>?_
   obtain⟨f1,f2,f3⟩:=fin (m % z) [] (Tt _ (by lia)) (S_ _ hz) H3 A3;cbv;refine⟨m,z,rfl,rfl,⟨by lia,hz2⟩,?_⟩;cbv;exact⟨cs++[m % z],_,_,rfl,f1,f2,f3⟩
  .cbv;refine⟨A.ty,?_⟩;cbv;refine⟨c,30+(0+(i:Int)),rfl,by lia,by lia,λq hq=>?_⟩;cbv;refine bW A (.int _) (aq (by rw[Rm];lia)) λH3 A3 _ _ _=>?_
   obtain⟨f1,f2,f3⟩:=fin (q % z) [] (Tt _ (by lia)) (S_ _ hz) H3 A3;exact⟨cs++[q % z],_,_,rfl,f1,f2,f3⟩
 .rintro σ H2 ⟨cs,m,u5,rfl,A,lc,bc⟩;cbv;refine fJ (SqL.of (AccZ.ints A)) λp np=>?_
  exact k p _ cs (A.same.trans (aj np _)) lc bc (.tup ag (RpL.ints _))
abbrev Ik(K:Fg):Sp:=λvs H Q _=>∃(v w:V) (t:Tn) (c:List Int),vs=[v,w]/\Rz K H v (dT t)/\Rz K H w (dI c)/\t.fr.length<=100/\∀H',Same H H'->Q (.bl (can (pr t) c)) H'
def Ol{t:Tp}:decide ((((TZ t.1 c).filter λz=>decide (z.2<z.1)).length:Int)=0)=can t c:=by
 cases e:can t c with
 |true =>
  unfold can at e;rw[Xf] at e
  have z:(TZ t.1 c).filter (λz=>decide (z.2<z.1))=[]:=YW.mpr λx hx=>by
   have:=e x hx
   simp only[decide_eq_true_eq] at this ⊢;lia
  rw[z];rfl
 |false =>
  unfold can at e;rw[List.all_eq_false] at e;obtain⟨x,hx,p⟩:=e
  have:0<((TZ t.1 c).filter λz=>decide (z.2<z.1)).length:=Wi.mpr λz=>by
   have m:x∈(TZ t.1 c).filter λz=>decide (z.2<z.1):=SG.mpr ⟨hx,by simp only[decide_eq_true_eq] at p ⊢;lia⟩
   rw[z] at m;cases m
  exact decide_eq_false (by lia)
abbrev HW(K:Fg):TS:=(aE (ao gk (bU (bZ K) (ae (ig (tO K .T .T (ae (ao (aG K) (aa 0) (tC (.int 0))) (ae (aa 1) ai))) 2 (cj K 2 (aY (al 0) (aY (al 1) ck))) (aP (ao xE (aa 1) (aa 0))) (tC (.int 1))) ai)) (tC (.int 0))))
def L9{K:Fg}:ρ 2 (Ik K) (HW K):=by
 fail "R";obtain⟨v,w,t,c,rfl,rv,rw_,hl,k⟩:=h;obtain⟨a,w1,w2,w3,rfl,ha,q1,q2,_⟩:=oJ rv;obtain⟨b,rfl,hb⟩:=bM rw_;obtain⟨f,rfl,hf⟩:=bM q1;rw[L2.aO hN];walk_at "t";unfold HW;have lz:(TZ t.fr c).length=min t.fr.length c.length:=Zbg;cbv;refine aF (SqT.of ha) (v:=.ref f) rfl ?_;cbv;refine⟨f,b,_,_,rfl,SqT.of hf,SqT.of hb,?_⟩;have ml:min (t.fr.map V.int).length (c.map V.int).length=(TZ t.fr c).length:=by rw[Rm,Rm,lz]
 refine Cq (k1:=.T) (k2:=.T) (xs:=t.fr.map V.int) (ys:=c.map V.int) λD nD=>⟨λi H2=>AccZ K H D H2 ((((TZ t.fr c).take i).filter λz=>decide (z.2<z.1)).map λ_=>Ss 1),by simpa using AccZ.start (Same.refl _) nD,λi H2 _ A=>⟨SqT.of (A.same _ _ hf),SqT.of (A.same _ _ hb)⟩,?_,?_⟩
 .intro i x y H2 T e1 e2 A nT us hu
  obtain⟨u1,u2',rfl⟩:∃u0 u1,us=[u0,u1]:=ex2 hu
  rw[Rt] at e1 e2;obtain⟨m1,f1,rfl⟩:=RD.mp e1;obtain⟨m2,f2,rfl⟩:=RD.mp e2;have ez:(TZ t.fr c)[i]?=some (m1,m2):=by rw[U8];exact⟨f1,f2⟩
  have li:i<(TZ t.fr c).length:=(Rq.mp ez).1;have A2:=A.on (aj nT (.tup [.int m1,.int m2]));have lf:(((TZ t.fr c).take i).filter λz=>decide (z.2<z.1)).length<=100:=RN (TC _ _) (by rw[RT];lia);have er:(((TZ t.fr c).take (i+1)).filter λz=>decide (z.2<z.1))=(((TZ t.fr c).take i).filter λz=>decide (z.2<z.1))++[(m1,m2)].filter λz=>decide (z.2<z.1):=by rw[RP,ez,VD];rfl
  refine bG (SqT.of ag) rfl ?_;generalize upd H2 T (.tup [.int m1,.int m2])=H3 at A2 ⊢;cbv;refine⟨⟨[↥m1,↥m2],rfl,rfl⟩,?_⟩;cbv;refine aX (λe=>?_) (λe=>?_)
  .cbv;refine a_ (by rw[ml];exact li) ?_;refine A2.cF (.int 1) (aq (by rw[Rm];lia)) λH4 A4=>?_
   show AccZ K H D H4 ((((TZ t.fr c).take (i+1)).filter λz=>decide (z.2<z.1)).map λ_=>Ss 1);rw[er,TH (by simpa using e),Rx];exact A4
  .refine iY (by rw[ml];exact li) ?_;show AccZ K H D H3 ((((TZ t.fr c).take (i+1)).filter λz=>decide (z.2<z.1)).map λ_=>Ss 1);rw[er,Tl (by simpa using e)];simpa using A2
 .intro H2 A;rw[ml,RG (RB _)] at A;obtain⟨zs,hzs,rz⟩:=A.at_;cbv;refine cw (SqL.of hzs) ?_;rw[rz.length,Rm];cbv
  have:=Ol (t:=pr t) (c:=c)
  rw[show((TZ t.fr c).filter λz=>decide (z.2<z.1))=((TZ (pr t).1 c).filter λz=>decide (z.2<z.1)) from rfl,this];exact k H2 A.same
abbrev mI(K:Fg):Sp:=λvs H Q _=>∃(v w:V) (t:Tn) (c:List Int),vs=[v,w]/\Rz K H v (dT t)/\Rz K H w (dI c)/\t.fr.length=c.length/\t.to.length=c.length/\c.length<=100/\∀(p:Addr) (H':Hp),Same H H'->Rz K H' (.ref p) (dI (beh (pr t) c))->Q (.ref p) H'
abbrev l_(K:Fg):TS:=(aE (bU (cE K) (ae (fH (FD K (ae (ao (aG K) (aa 0) (tC (.int 0))) (ae (ao (aG K) (aa 0) (tC (.int 1))) (ae (aa 1) ai)))) 3 (cj K 3 (aY (al 0) (aY (al 1) (aY (al 2) ck)))) (ao aW (ao g6 (aa 2) (aa 0)) (aa 1))) ai)))
def z_{K:Fg}:ρ 2 (mI K) (l_ K):=by
 fail "R";obtain⟨v,w,t,c,rfl,rv,rw_,l1,l2,hl,k⟩:=h;obtain⟨a,w1,w2,w3,rfl,ha,q1,q2,_⟩:=oJ rv;obtain⟨b,rfl,hb⟩:=bM rw_;obtain⟨f,rfl,hf⟩:=bM q1;obtain⟨g,rfl,hg⟩:=bM q2;rw[L2.aO hN];walk_at "t";unfold l_;have lb:(beh (pr t) c).length=c.length:=by unfold beh;rw[Rm,R5]
 cbv;refine GZ ?_;cbv;refine aF (SqT.of ha) (v:=.ref f) rfl ?_;cbv;refine aF (SqT.of ha) (v:=.ref g) rfl ?_;cbv;refine⟨f,g,b,_,_,_,rfl,SqT.of hf,SqT.of hg,SqT.of hb,?_⟩;refine qM (xs:=t.fr.map V.int) (ys:=t.to.map V.int) (zs:=c.map V.int) (m:=c.length) (by rw[Rm];exact l1) (by rw[Rm];exact l2) (Rm _) λD nD=>⟨λi H2=>AccZ K H D H2 (((beh (pr t) c).take i).map Ss),by simpa using AccZ.start (Same.refl _) nD,λi H2 _ A=>⟨SqT.of (A.same _ _ hf),SqT.of (A.same _ _ hg),SqT.of (A.same _ _ hb)⟩,?_,?_⟩
 .intro i x y u H2 T e1 e2 e3 A nT us hu
  obtain⟨u1,u2,u3,rfl⟩:∃u0 u1 u2,us=[u0,u1,u2]:=by
   match us,hu with
   |[u0,u1,u2],_=>exact⟨u0,u1,u2,rfl⟩
  rw[Rt] at e1 e2 e3;obtain⟨m1,f1,rfl⟩:=RD.mp e1;obtain⟨m2,f2,rfl⟩:=RD.mp e2;obtain⟨m3,f3,rfl⟩:=RD.mp e3;have li:i<c.length:=(Rq.mp f3).1
  have ec:(beh (pr t) c)[i]?=some (m3-m1+m2):=by
   unfold beh;rw[Rt,SM li];show some (pt c i-pt t.fr i+pt t.to i)=_;unfold pt;rw[Rr,f3,Rr,f1,Rr,f2];rfl
  refine bG (SqT.of ag) rfl ?_;cbv;refine⟨⟨[↥m1,↥m2,↥m3],rfl,rfl⟩,?_⟩;cbv;refine a_ li ?_;refine(A.on (aj nT _)).cF (.int _) (aq (by rw[Rm,RT];lia)) λH4 A4=>?_
  show AccZ K H D H4 (((beh (pr t) c).take (i+1)).map Ss);rw[RP,ec,Rx];exact A4
 .intro H2 A;rw[RG (by lia)] at A;cbv;refine fJ (SqL.of (AccZ.ints A)) λp np=>?_
  exact k p _ (A.same.trans (aj np _)) (.tup ag (RpL.ints _))
end Dn
namespace L2
open PySem
def G3{to ti:TE}{t:Gf}{H:Hp}{Q:St->Hp->Prop}(h:to σ H λo H1=>ti σ H1 λi H2=>t o i v H2 λH3=>Q σ H3):FK to ti t v σ H Q:=h
end L2
namespace Lo
open Ti
def Rch.trans(h:Rch es a b)(k:Rch es b c):Rch es a c:=by
 induction k with
 |refl=>exact h
 |step _ m ih=>exact .step ih m
abbrev iT(es:List (Nat×Nat)):List (Nat×Nat):=es++es.map λe=>(e.2,e.1)
def F9{a b:Nat}(h:(a,b)∈iT es):(b,a)∈iT es:=by
 unfold iT at h ⊢;rcases RX.mp h with h|h
 .exact RU _ (RO.mpr ⟨_,h,rfl⟩)
 .obtain⟨e,m,z⟩:=RO.mp h;refine Sa _ ?_;obtain⟨x,y⟩:=e;simp only[ZbJ] at z;rw[<- z.1,<- z.2];exact m
def oP(h:Rch (iT es) a b):Rch (iT es) b a:=by
 induction h with
 |refl=>exact .refl
 |step _ m ih=>exact Rch.trans (.step .refl (F9 m)) ih
abbrev at_(f:List Nat)(i:Nat):Nat:=f.getD i 0
abbrev tH(f:List Nat)(e:Nat×Nat):Nat:=if at_ f e.2<at_ f e.1 then at_ f e.2 else at_ f e.1
abbrev rB(f:List Nat)(e:Nat×Nat):Nat:=if at_ f e.2 > at_ f e.1 then at_ f e.2 else at_ f e.1
abbrev cZ(f:List Nat)(e:Nat×Nat):List Nat:=f.map λx=>if x=rB f e then tH f e else x
def cT{f:List Nat}{i:Nat}(h:i<f.length):at_ (cZ f e) i=if at_ f i=rB f e then tH f e else at_ f i:=by
 unfold cZ at_;rw[Rr,Rt,Rr,Rn h];rfl
def J5(f:List Nat)(e:Nat×Nat):(tH f e=at_ f e.1/\rB f e=at_ f e.2/\at_ f e.1<=at_ f e.2)\/(tH f e=at_ f e.2/\rB f e=at_ f e.1/\at_ f e.2<=at_ f e.1):=by
 unfold tH rB;by_cases h:at_ f e.2<at_ f e.1
 .right;rw[if_pos h,if_neg (by lia)];lia
 .left;rw[if_neg h];by_cases g:at_ f e.2 > at_ f e.1
  .rw[if_pos g];lia
  .rw[if_neg g];lia
structure FI (n:Nat) (es seen:List (Nat×Nat)) (f:List Nat):Prop where
 len:f.length=n
 le:∀i<n,at_ f i<=i
 fix:∀i<n,at_ f (at_ f i)=at_ f i
 tie:∀i<n,Rch (iT es) i (at_ f i)
 one:∀e∈seen,at_ f e.1=at_ f e.2
def FI.start(n:Nat)(es:List (Nat×Nat)):FI n es [] (RQ n):=by
 have e:∀i<n,at_ (RQ n) i=i:=λi h=>by
  unfold at_;rw[Rr,SM h];rfl
 exact⟨R5,λi h=>by rw[e i h];exact RB _,λi h=>by rw[e i h,e i h],λi h=>by rw[e i h];exact .refl,λe h=>by cases h⟩
def FI.more{seen:List (Nat×Nat)}{e:Nat×Nat}(F:FI n es seen f)(ok:OS n es)(sub:∀e∈seen,e∈es)(m:e∈es):FI n es (seen++[e]) (cZ f e):=by
 obtain⟨l1,l2⟩:=ok e m;have hl:=F.len;have a1:=F.le e.1 l1;have a2:=F.le e.2 l2;have f1:=F.fix e.1 l1;have f2:=F.fix e.2 l2;have eg:(e.1,e.2)∈iT es:=Sa _ m;have t12:Rch (iT es) (at_ f e.1) (at_ f e.2):=Rch.trans (oP (F.tie e.1 l1)) (Rch.trans (.step .refl eg) (F.tie e.2 l2))
 have gl:Rch (iT es) (rB f e) (tH f e):=by
  rcases J5 f e with⟨x,y,_⟩|⟨x,y,_⟩
  .rw[x,y];exact oP t12
  .rw[x,y];exact t12
 have hls:tH f e<n/\at_ f (tH f e)=tH f e/\tH f e<=rB f e:=by
  rcases J5 f e with⟨x,y,z⟩|⟨x,y,z⟩
  .rw[x,y];exact⟨by lia,f1,z⟩
  .rw[x,y];exact⟨by lia,f2,z⟩
 refine⟨by unfold cZ;rw[Rm];exact hl,λi h=>?_,λi h=>?_,λi h=>?_,λd hd=>?_⟩
 .have:=F.le i h
  rw[cT (by lia)];split
  .rename_i z
   have:=hls.2.2
   lia
  .exact this
 .have li:=F.le i h;rw[cT (e:=e) (i:=i) (by lia)];by_cases z:at_ f i=rB f e
  .rw[if_pos z,cT (by lia),hls.2.1];split <;> rfl
  .rw[if_neg z,cT (by lia),F.fix i h,if_neg z]
 .rw[cT (by lia)];by_cases z:at_ f i=rB f e
  .rw[if_pos z]
   have:=F.tie i h
   rw[z] at this;exact Rch.trans this gl
  .rw[if_neg z];exact F.tie i h
 .rcases RX.mp hd with hd|hd
  .obtain⟨d1,d2⟩:=ok d (sub d hd);rw[cT (by lia),cT (by lia),F.one d hd]
  .cases RL.mp hd;rw[cT (by lia),cT (by lia)];rcases J5 f e with⟨x,y,z⟩|⟨x,y,z⟩
   .rw[x,y,if_pos rfl];split <;> rfl
   .rw[x,y,if_pos rfl];split <;> rfl
abbrev bO(n:Nat)(es:List (Nat×Nat)):List Nat:=es.foldl cZ (RQ n)
def vJ(ok:OS n es)(i:Nat):FI n es (es.take i) ((es.take i).foldl cZ (RQ n)):=by
 induction i with
 |zero=>exact FI.start n es
 |succ i ih =>
  by_cases h:i<es.length
  .rw[RP,Rn h,X8,Ug];exact ih.more ok (λe he=>T0 he) (Td h)
  .rw[RG (by lia)] at ih ⊢;exact ih
def c_(ok:OS n es):FI n es es (bO n es):=by
 have:=vJ ok es.length
 rwa [SZ] at this
def FI.same(F:FI n es es f)(h:Rch (iT es) i j):at_ f i=at_ f j:=by
 induction h with
 |refl=>rfl
 |step _ m ih =>
  rw[ih];rcases RX.mp m with m|m
  .exact F.one _ m
  .obtain⟨e,m,z⟩:=RO.mp m;simp only[ZbJ] at z;rw[<- z.1,<- z.2];exact(F.one e m).symm
def FI.tied(F:FI n es es f){i j:Nat}(hi:i<n)(hj:j<n):at_ f i=at_ f j↔Rch (iT es) i j:=by
 refine⟨λh=>?_,F.same⟩;have a:=F.tie i hi;have b:=F.tie j hj;rw[h] at a;exact Rch.trans a (oP b)
abbrev aN(f:List Nat)(v:Nat):List Nat:=(RQ f.length).filter λi=>at_ f i=v
abbrev gB(f:List Nat):List (List Nat):=((RQ f.length).filter λv=>at_ f v=v).map (aN f)
def FI.mem{seen:List (Nat×Nat)}(F:FI n es seen f){v:Nat}:v∈f↔v<n/\at_ f v=v:=by
 constructor
 .intro h;obtain⟨i,li,e⟩:=Tc.mp h
  have ea:at_ f i=v:=by
   unfold at_;rw[Rr,Rn li];exact e
  rw[F.len] at li
  have:=F.le i li
  have fx:=F.fix i li;rw[ea] at this fx;exact⟨by lia,fx⟩
 .rintro⟨h,e⟩;unfold at_ at e;rw[Rr,Rn (by rw[F.len];exact h)] at e;exact List.mem_of_getElem (by exact e)
def O7{seen:List (Nat×Nat)}(F:FI n es seen f)(h8:n<=8):L2.cR f=(RQ f.length).filter λv=>at_ f v=v:=by
 unfold L2.cR
 have e8:RQ 8=RQ f.length++(RQ (8-f.length)).map (f.length + ·):=by
  rw[<- List.range_add];congr 1;have:=F.len;lia
 rw[e8,VD]
 have z:((RQ (8-f.length)).map (f.length + ·)).filter (λk=>f.contains k)=[]:=by
  rw[YW];intro a ha;obtain⟨k,_,rfl⟩:=RO.mp ha;rw[TB,F.mem]
  have:=F.len
  lia
 rw[z,Up];refine Zaw λv hv=>?_
 rw[Sr,F.len] at hv;rw[UP,TB,F.mem];simp[hv]
end Lo
namespace L2
open PySem
def Ou:bootBuiltins "min"=some (.builtin "min"):=by decide +kernel
def tL{te:TE}{H:Hp}{Q:VK}(h:te σ H λx H1=>∃n:Nat,x=.int (n:Int)/\n<=1000/\∀l,H1 l=none->Q (.ref l) (upd H1 l (.lst ((RQ n).map λk:Nat=>.int (k:Int))))):gT te σ H Q:=h
def Bp{K:Fg}{te:TE}{H:Hp}(h:te σ H λx H1=>uV K x H1 Q):mf K te σ H Q:=h
end L2
namespace Lo
open PySem L2 Fr G1 Sm Vs G2 Ti Sz Rw
open PySem.W (Dat kqdOk)
abbrev zN(l:List Nat):List Int:=l.map λk:Nat=>(k:Int)
def uu(l:List Nat):(zN l).length=l.length:=Rm _
def zV(l:List Nat):(zN l).map V.int=l.map λk:Nat=>V.int (k:Int):=by unfold zN;rw[Tv];rfl
def Gq(l m:List Nat):zN (l++m)=zN l++zN m:=Rx
def lC{f:List Nat}{i:Nat}(h:i<f.length):((zN f).map V.int)[i]?=↥(at_ f i:Int):=by
 rw[zV,Rt];unfold at_;rw[Rr,Rn h];rfl
abbrev mD(K:Fg):Sp:=λvs H Q _=>∃(a:Addr) (f:List Nat) (v:Nat),vs=[.ref a,.int (v:Int)]/\H a=some (.lst ((zN f).map V.int))/\f.length<=100/\∀(p:Addr) (H':Hp),AccZ K H p H' ((zN (aN f v)).map Ss)->Q (.ref p) H'
abbrev lY(K:Fg):TS:=(aE (ig (iP K (ae (aa 0) ai)) 2 (cj K 2 (aY (al 0) (aY (al 1) ck))) (aP (ao gk (aa 1) (aa 3))) (aa 0)))
def zS{K:Fg}:ρ 2 (mD K) (lY K):=by
 fail "R";obtain⟨a,f,v,rfl,ha,hl,k⟩:=h;rw[L2.aO hN];walk_at "t";unfold lY;cbv;refine⟨a,_,rfl,SqL.of ha,?_⟩;have lf:((zN f).map V.int).length=f.length:=by rw[Rm,uu]
 refine k9 (xs:=(zN f).map V.int) λD nD=>⟨λj H2=>AccZ K H D H2 ((zN ((RQ j).filter λi=>at_ f i=v)).map Ss),by simpa[zN] using AccZ.start (Same.refl _) nD,λj H2 _ A=>SqL.of (A.same _ _ ha),?_,?_⟩
 .intro j x H2 T hx A nT us hu
  obtain⟨u0,u1,rfl⟩:∃u w,us=[u,w]:=ex2 hu
  have lj:j<f.length:=by rw[<- lf];exact(Rq.mp hx).1
  rw[lC lj] at hx;cases hx;have er:((RQ (j+1)).filter λi=>decide (at_ f i=v))=((RQ j).filter λi=>decide (at_ f i=v))++[j].filter λi=>decide (at_ f i=v):=by rw[UQ,VD]
  have lr:((RQ j).filter λi=>decide (at_ f i=v)).length<=100:=RN (TC _ _) (by rw[R5];lia);have S2:=aj nT (.tup [.int (j:Int),.int (at_ f j:Int)]);have hT:upd H2 T (.tup [.int (j:Int),.int (at_ f j:Int)]) T=some (.tup [.int (j:Int),.int (at_ f j:Int)]):=ag;have A2:=A.on S2;generalize upd H2 T (.tup [.int (j:Int),.int (at_ f j:Int)])=H3 at hT A2 ⊢;cbv;refine bG (SqT.of hT) rfl ?_;cbv;refine⟨⟨[↥(j:Int),↥(at_ f j:Int)],rfl,rfl⟩,?_⟩;cbv;refine aX (λc=>?_) (λc=>?_)
  .have c':at_ f j=v:=by
    have:(at_ f j:Int)=(v:Int):=by simpa using c
    lia
   cbv;refine a_ (by rw[lf];exact lj) ?_;refine A2.cF (.int (j:Int)) (aq (by rw[Rm,uu];lia)) λH4 A4=>?_
   show AccZ K H D H4 ((zN ((RQ (j+1)).filter λi=>decide (at_ f i=v))).map Ss);rw[er,TH (by simpa using c'),Gq,Rx];exact A4
  .have c' : ¬ at_ f j=v:=λz=>c (by simp[z])
   refine iY (by rw[lf];exact lj) ?_;show AccZ K H D H3 ((zN ((RQ (j+1)).filter λi=>decide (at_ f i=v))).map Ss);rw[er,Tl (by simpa using c')];simpa using A2
 .intro H2 A;rw[lf] at A;exact k D H2 A
abbrev cY(ts:List Tn):List (List Int):=(gB (bO (a8 ts).length (aD ts))).map zN
abbrev uL(K:Fg):Sp:=λvs H Q _=>∃(v:V) (ws:List Str) (ts:List Tn),vs=[v]/\Rz K H v (dV ws ts)/\ts.length<=8/\(a8 ts).length<=8/\∀(p:Addr) (H':Hp),Same H H'->Rp K (λa=>H a=none) H' (.ref p) (dM (cY ts))->Q (.ref p) H'
nonrec abbrev DN(K:Fg):TS:=(am (av (bU Pe (ae (ao (bI K) (aa 1) (aa 2)) (ae (ao (bI K) (aa 1) (aa 3)) ai))) (al 4))
 (am (av (bU Pf (ae (ao (bI K) (aa 1) (aa 2)) (ae (ao (bI K) (aa 1) (aa 3)) ai))) (al 5))
 (av (fA (cg K (aa 1)) (LG (aP (ao gk (aa 0) (aa 6))) (aa 5) (aa 0))) (al 1))))
nonrec abbrev DM(K:Fg):TS:=(am (a9 (cg K (aw (je K) [] E0 (ae (aa 0) ai))) (cj K 2 (aY (al 2) (aY (al 3) ck)))
 (DN K))
 (aE (fA (cg K (mf K (aa 1))) (aw (mD K) [] E0 (ae (aa 2) (ae (aa 0) ai))))))
abbrev yt(K:Fg):TS:=(am (av (gT (bU (bZ K) (ae (aw (gU K) [] E0 (ae (aa 0) ai)) ai))) (al 1))
 (DM K))
def IP{K:Fg}:ρ 6 (uL K) (yt K):=by
 fail "R";obtain⟨v,ws,ts,rfl,rv,ht,h8,k⟩:=h;rw[L2.aO hN];walk_at "t";unfold yt;cbv;refine tL ?_;cbv;refine⟨v,ws,ts,rfl,rv,by lia,λp H1 A1=>?_⟩;obtain⟨xs,hp,rx⟩:=A1.at_;have lx:xs.length=(a8 ts).length:=by rw[rx.length,Rm]
 have ok:=cV ts;have le:(aD ts).length=ts.length:=by unfold aD;rw[Rm]
 unfold cY at k;generalize (a8 ts).length=n at lx ok h8 k;cbv;refine cw (SqL.of hp) ?_;refine⟨n,by rw[lx],by lia,λl nl=>?_⟩;have S2:=aj nl (.lst ((RQ n).map λk:Nat=>.int (k:Int)));have hl:upd H1 l (.lst ((RQ n).map λk:Nat=>.int (k:Int))) l=some (.lst ((zN (RQ n)).map V.int)):=by rw[zV];exact ag
 have S02:=A1.same.trans S2;generalize upd H1 l (.lst ((RQ n).map λk:Nat=>.int (k:Int)))=H2 at S2 hl S02 ⊢;cbv;refine⟨v,ws,ts,rfl,rv.same S02,by lia,λpe H3 A3=>?_⟩;obtain⟨ys,hpe,ry⟩:=A3.at_;have S03:=S02.trans A3.same;generalize aD ts=es at ok le ry k A3;have ly:ys.length=es.length:=by rw[ry.length,Rm]
 have hl3:=A3.same _ _ hl;cbv;refine iO (SqL.of hpe) ?_;refine bz (xs:=ys) (λj σ H4=>∃(l:Addr) (u2 u3 u4 u5:Option V),σ=[some v,⇑l,u2,u3,u4,u5]/\Same H3 H4/\H4 l=some (.lst ((zN ((es.take j).foldl cZ (RQ n))).map V.int))) ⟨l,none,none,none,none,rfl,Same.refl _,hl3⟩ (by rintro j σ H4 _ ⟨_,_,_,_,_,_,S,_⟩;exact SqL.of (S _ _ hpe)) ?_ ?_
 .rintro j x σ H4 hx ⟨m,u2,u3,u4,u5,rfl,S4,hm⟩;have lj:=(Rq.mp hx).1;obtain⟨d,g1,g2⟩:=ry.get hx;rw[Rt] at g1;obtain⟨e,he,rfl⟩:=RD.mp g1;obtain⟨b,rfl,hb⟩:=Cj (g2.same S4);have FI:=vJ ok j;have et:(es.take (j+1)).foldl cZ (RQ n)=cZ ((es.take j).foldl cZ (RQ n)) e:=by rw[RP,he,X8,Ug];rfl
  obtain⟨o1,o2⟩:=ok e (Ry he);have lf:=FI.len;rw[et];generalize (es.take j).foldl cZ (RQ n)=f at hm FI lf;refine bG (SqT.of hb) rfl ?_;cbv;refine bQ (SqL.of hm) (aK (lC (i:=e.1) (by lia))) ?_;cbv;refine bQ (SqL.of hm) (aK (lC (i:=e.2) (by lia))) ?_;cbv;refine⟨_,_,rfl,?_⟩
  have q1:(if (at_ f e.2:Int)<(at_ f e.1:Int) then (at_ f e.2:Int) else (at_ f e.1:Int))=(tH f e:Int):=by
   unfold tH;by_cases c:at_ f e.2<at_ f e.1
   .rw[if_pos c,if_pos (by lia)]
   .rw[if_neg c,if_neg (by lia)]
  have q2:(if (at_ f e.2:Int) > (at_ f e.1:Int) then (at_ f e.2:Int) else (at_ f e.1:Int))=(rB f e:Int):=by
   unfold rB;by_cases c:at_ f e.2 > at_ f e.1
   .rw[if_pos c,if_pos (by lia)]
   .rw[if_neg c,if_neg (by lia)]
  rw[q1];cbv;refine bQ (SqL.of hm) (aK (lC (i:=e.1) (by lia))) ?_;cbv;refine bQ (SqL.of hm) (aK (lC (i:=e.2) (by lia))) ?_;cbv;refine⟨_,_,rfl,?_⟩;rw[q2];cbv;refine tK (SqL.of hm) ?_;have lzf:((zN f).map V.int).length=f.length:=by rw[Rm,uu]
  refine cN (xs:=(zN f).map V.int) λD nD=>⟨λi H5=>AccZ K H4 D H5 ((zN ((cZ f e).take i)).map Ss),by simpa[zN] using AccZ.start (Same.refl _) nD,λi H5 _ A=>SqL.of (A.same _ _ hm),?_,?_⟩
  .intro i x H5 hx A;have li:i<f.length:=by rw[<- lzf];exact(Rq.mp hx).1
   rw[lC li] at hx;cases hx
   have ej:(cZ f e)[i]?=some (if at_ f i=rB f e then tH f e else at_ f i):=by
    have lj2:i<(cZ f e).length:=by unfold cZ;rw[Rm];exact li
    rw[<- cT (e:=e) li];unfold at_;rw[Rr,Rn lj2];rfl
   have fin:∀(w:Nat),w=(if at_ f i=rB f e then tH f e else at_ f i)->oU D ((zN f).map V.int).length i (λi H5=>AccZ K H4 D H5 ((zN ((cZ f e).take i)).map Ss)) (.int (w:Int)) H5:=λw hw=>by
    refine a_ (by rw[lzf];exact li) ?_;refine A.cF (.int (w:Int)) (aq (by rw[Rm,uu,RT];lia)) λH6 A6=>?_
    show AccZ K H4 D H6 ((zN ((cZ f e).take (i+1))).map Ss);rw[RP,ej,<- hw,X8,Gq,Rx];exact A6
   cbv;refine aX (λc=>?_) (λc=>?_)
   .have c':at_ f i=rB f e:=by
     have:(at_ f i:Int)=(rB f e:Int):=by simpa using c
     lia
    cbv;exact fin (tH f e) (by rw[if_pos c'])
   .have c' : ¬ at_ f i=rB f e:=λz=>c (by simp[z])
    cbv;exact fin (at_ f i) (by rw[if_neg c'])
  .intro H5 A;have lJ:(cZ f e).length=f.length:=by unfold cZ;rw[Rm]
   rw[lzf,<- lJ,SZ] at A;exact⟨D,_,_,_,_,rfl,S4.trans A.same,AccZ.ints A⟩
 .rintro σ H4 ⟨m,u2,u3,u4,u5,rfl,S4,hm⟩;rw[ly,SZ] at hm;have FI:=c_ ok;have FI':=FI;unfold bO at FI k;generalize es.foldl cZ (RQ n)=f at hm FI k;have lf:=FI.len;have f8:∀x∈f,x<8:=λx hx=>by have:=(FI.mem.mp hx).1;lia
  cbv;refine Bp ?_;cbv;refine⟨m,f,rfl,by rw[<- zV];exact SqL.of hm,f8,λq nq=>?_⟩;have eu:=O7 FI h8;have el:(cR f).map (aN f)=gB f:=by rw[eu];rfl
  have S5:=aj nq (.lst ((cR f).map λk:Nat=>.int (k:Int)));have hq:upd H4 q (.lst ((cR f).map λk:Nat=>.int (k:Int))) q=some (.lst ((cR f).map λk:Nat=>.int (k:Int))):=ag;generalize upd H4 q (.lst ((cR f).map λk:Nat=>.int (k:Int)))=H5 at S5 hq ⊢;have lu:((cR f).map λk:Nat=>V.int (k:Int)).length=(cR f).length:=Rm _;have lu8:(cR f).length<=8:=by unfold cR;exact TC _ _
  refine tK (SqL.of hq) ?_;refine cN (xs:=(cR f).map λk:Nat=>.int (k:Int)) λD nD=>⟨λi H6=>Acc K H5 D H6 ((((cR f).take i).map λv=>zN (aN f v)).map dL),by simpa using Acc.start nD,λi H6 _ A=>SqL.of (A.same _ _ hq),?_,?_⟩
  .intro i x H6 hx A;have li:=(Rq.mp hx).1;rw[Rt] at hx;obtain⟨w,hw,rfl⟩:=RD.mp hx;cbv;refine⟨m,f,w,rfl,A.same _ _ (S5 _ _ hm),by lia,λr H7 C=>?_⟩;refine a_ li ?_;refine A.cF C.same (d:=dL (zN (aN f w))) C.ref (aq (by rw[Rm,Rm,RT];lia)) λH8 A8=>?_
   show Acc K H5 D H8 ((((cR f).take (i+1)).map λv=>zN (aN f v)).map dL);rw[RP,hw,Rx,Rx];exact A8
  .intro H6 A;rw[lu,SZ] at A;have S06:=S03.trans (S4.trans S5);have em:((cR f).map λv=>zN (aN f v))=(gB f).map zN:=by rw[<- el,Tv];rfl
   rw[em] at A;exact k D H6 (S06.trans A.same) (A.ref.mono λ_ z=>S06.free z)
end Lo
namespace Bo
end Bo
namespace L2
open PySem
def xt{K:Fg}{Q:VK}{H:Hp}{xs:List V}(h:∀D,H D=none->∃Pv:Nat->Hp->Prop,Pv 0 (upd H D (.lst []))/\(∀i H2,i<=xs.length->Pv i H2->SqL K H2 a xs) /\
  (∀i x H2 T,xs[i]?=some x->Pv i H2->H2 T=none->Gm g n te σ (.ref T) (upd H2 T (.tup [.int i,x])) D xs.length i Pv)/\∀H2,Pv xs.length H2->Q (.ref D) H2):ul (Lg K a) n g te σ Q H:=by
 intro D nD;obtain⟨Pv,h0,hl,hs,hd⟩:=h D nD;refine⟨λi m H=>m=xs.length-i/\i<=xs.length/\Pv i H,⟨_,rfl,SD _,h0⟩,?_⟩;rintro i m H ⟨rfl,hi,p⟩;have q:=hl i H hi p;by_cases hlt:i<xs.length
 .refine .inr ⟨⟨xs,q,hlt⟩,λv H' y us hu=>?_⟩;obtain⟨T,x,nT,rfl,rfl,z⟩:=y;exact hs i x H T (z xs q) p nT us hu
 .have e:i=xs.length:=by lia
  subst e;exact .inl ⟨⟨xs,q,RB _⟩,hd H p⟩
def BW{K:Fg}{H:Hp}{D:bH}{k1 k2:Kn}{xs ys:List V}{g:TG}{tb:TS}{n:Nat}(e1:xs.length=n)(e2:ys.length=n)(Pv:Nat->St->Hp->Prop)(h0:Pv 0 σ H)(hl:∀i σ H,i<=n->Pv i σ H->k1.sq K H a xs/\k2.sq K H b ys)
  (hs:∀i x y σ H T,xs[i]?=some x->ys[i]?=some y->Pv i σ H->H T=none->g (.ref T) σ (upd H T (.tup [x,y])) λσ2 H2=>tb {D with nx:=Pv (i+1),ct:=Pv (i+1),bk:=D.nx} σ2 H2) (hd:∀σ H,Pv n σ H->D.nx σ H):xF (Hu K k1 k2 a b) g tb D σ H:=by
 refine⟨λi m σ H=>m=n-i/\i<=n/\Pv i σ H,⟨_,rfl,SD _,h0⟩,?_⟩;rintro i m σ H ⟨rfl,hi,p⟩;obtain⟨q1,q2⟩:=hl i σ H hi p;obtain⟨g1,g2,g3⟩:=xI (i:=i) q1 q2 (YO e1.symm) (YO e2.symm) (.inl e1);by_cases hlt:i<n
 .refine .inr ⟨g1 hlt,Pv (i+1),λσ' H' p'=>⟨n-(i+1),by lia,rfl,hlt,p'⟩,λv H' y=>?_⟩;obtain⟨T,x,z,nT,rfl,rfl,z1,z2⟩:=g3 y;exact hs i x z σ H T z1 z2 p nT
 .obtain rfl:i=n:=by lia
  exact .inl ⟨g2 (RB _),hd σ H p⟩
end L2
namespace Br
end Br
namespace Br
open Rk Sf Rw Bo
open PySem L2 Fr G1 Sm Vs G2 Rk Sz Sf Rw
open PySem.W (Dat kqdOk)
def P2{H:Hp}{Q:VK}{c:V}{k:Nat}(h0:H l0=some (.lst [c]))(hk:k<=100)(h:∀l,H l=none->Q (.ref l) (upd H l (.lst (Sg k c)))):Ji (.ref l0) (.int (k:Int)) H Q:=by
 refine⟨l0,(k:Int),_,rfl,rfl,h0,by lia,by lia,by rw[UY];show 1*_<=_;lia,λl nl=>?_⟩;rw[Su,List.flatten_replicate_singleton];exact h l nl
end Br
namespace Fr
def hX{b:Int}(hb:b≠0)(L:Gd.Low t b q d):q=(Sc t b).num/\d=((Sc t b).den:Int):=by
 obtain⟨pos,low,worth⟩:=L;have e:Sc t b=Sc q d:=(Ul hb (by lia)).mpr worth.symm
 have cp:T6 q.natAbs d.natAbs:=by
  unfold Gd.gd at low;unfold T6
  have:Zao q d=So q.natAbs d.natAbs:=rfl
  lia
 have m:Rat.mk' q d.natAbs (by lia) cp=Sc q d:=by
  rw[Rat.mk_eq_divInt];congr 1;lia
 rw[e,<- m];exact⟨rfl,by show d=(d.natAbs:Int);lia⟩
def gZ(x:Rat):Sc x.num (x.den:Int)=x:=T7 x
def Je(x y:Rat):Sc (x.num*(y.den:Int)+y.num*(x.den:Int)) ((x.den:Int)*(y.den:Int))=x+y:=by
 have h1:(x.den:Int)≠0:=by have:=x.den_nz;lia
 have h2:(y.den:Int)≠0:=by have:=y.den_nz;lia
 rw[<- Rat.divInt_add_divInt _ _ h1 h2,gZ,gZ]
def Jc(x y:Rat):Sc (x.num*y.num) ((x.den:Int)*(y.den:Int))=x*y:=by
 rw[<- U6,gZ,gZ]
def Hf(x y:Rat):(x.den:Int)*(y.den:Int)≠0:=by
 have:=x.den_nz
 have:=y.den_nz
 exact Y3 (by lia) (by lia)
def Jd(x:Rat):0<(x.den:Int)/\Gd.gd x.num (x.den:Int)=1:=by
 have h:=x.den_nz;refine⟨by lia,?_⟩;have c:=x.reduced;unfold T6 at c;unfold Gd.gd
 have:Zao x.num (x.den:Int)=So x.num.natAbs x.den:=rfl
 lia
end Fr
namespace Tr
abbrev ls{α:Type}(l:List α)(f:α->Rat):Rat:=(l.map f).sum
def GW{α:Type}(f:α->Rat):ls [] f=0:=rfl
def cS{α:Type}(a:α)(l:List α)(f:α->Rat):ls (a :: l) f=f a+ls l f:=rfl
def i3{α:Type}{l:List α}{f g:α->Rat}(h:∀x∈l,f x=g x):ls l f=ls l g:=by
 unfold ls;rw[US h]
section
variable(fm:Nat->List Nat)
abbrev up(g:Nat->Nat)(h k:Nat):Nat->Nat:=λx=>if x=h then k else g x
abbrev T:List Nat->((Nat->Nat)->Rat)->Rat
 |[],F=>F λ_=>0
 |h :: hs,F=>ls (fm h) λk=>T hs λg=>F (up g h k)
variable{fm}
def CJ:∀{hs:List Nat} {F G:(Nat->Nat)->Rat},hs.Nodup->(∀g,(∀h∈hs,g h∈fm h)->F g=G g)->T fm hs F=T fm hs G
 |[],F,G,_,e=>e _ λh hh=>by cases hh
 |h :: hs,F,G,nd,e=>i3 λk hk=>CJ (SJ.mp nd).2 λg hg=>e _ λx hx=>by
  unfold up;by_cases q:x=h
  .rw[if_pos q,q];exact hk
  .rw[if_neg q];exact hg x ((RW.mp hx).resolve_left q)
def QP{F G:(Nat->Nat)->Rat}(e:∀g,F g=G g):T fm hs F=T fm hs G:=by rw[show F=G from funext e]
end
abbrev fE(f:Nat->Nat):Nat->Nat->Nat
 |0,x=>x
 |n+1,x=>f (fE f n x)
def jL(f:Nat->Nat)(a:Nat):∀(b x:Nat),fE f (b+a) x=fE f b (fE f a x)
 |0,x=>by rw[WM];rfl
 |b+1,x=>by rw[Nat.add_right_comm];exact congrArg f (jL f a b x)
def vz{f:Nat->Nat}{L:List Nat}(hf:∀h∈L,f h∈L){x:Nat}(hx:x∈L):∀n,fE f n x∈L
 |0=>hx
 |n+1=>hf _ (vz hf hx n)
abbrev cX(s:Nat->Nat)(r:Nat):Nat->Nat:=λx=>if x=r then r else s x
abbrev All(s:Nat->Nat)(L:List Nat)(r:Nat):Prop:=∀h∈L,∃n,fE s n h=r
abbrev Tree(s:Nat->Nat)(L:List Nat)(r:Nat):Prop:=∀h∈L,fE (cX s r) L.length h=r
def uE(s:Nat->Nat)(r:Nat):∀n,fE (cX s r) n r=r
 |0=>rfl
 |n+1=>by
  show cX s r (fE (cX s r) n r)=r;rw[uE s r n];exact if_pos rfl
def mq{s:Nat->Nat}{r h:Nat}:∀n,(∀m,m<n->fE s m h≠r)->fE (cX s r) n h=fE s n h
 |0,_=>rfl
 |n+1,d=>by
  show cX s r (fE (cX s r) n h)=s (fE s n h);rw[mq n λm hm=>d m (by lia)];exact if_neg (d n (by lia))
def Bi{P:Nat->Prop}:∀n,P n->∃m,m<=n/\P m/\∀k,k<m->¬ P k
 |n,h=>by
  induction n using Vc with
  |_ n ih =>
   by_cases q:∃k,k<n/\P k
   .obtain⟨k,hk,pk⟩:=q;obtain⟨m,hm,r⟩:=ih k hk pk;exact⟨m,by lia,r⟩
   .exact⟨n,RB _,h,λk hk pk=>q ⟨k,hk,pk⟩⟩
def Dg{s:Nat->Nat}{L:List Nat}(hs:∀h∈L,s h∈L)(pig:∀l:List Nat,l.Nodup->(∀x∈l,x∈L)->l.length<=L.length):Tree s L r↔All s L r:=by
 constructor
 .intro t h hh;refine Wc λno=>?_
  have:=t h hh
  rw[mq _ λm _ e=>no ⟨m,e⟩] at this;exact no ⟨_,this⟩
 .intro a h hh;obtain⟨n,hn⟩:=a h hh;obtain⟨m,_,pm,lo⟩:=Bi (P:=λn=>fE s n h=r) n hn;have e1:fE (cX s r) m h=r:=by rw[mq m lo];exact pm
  have nd:((RQ (m+1)).map λi=>fE s i h).Nodup:=by
   unfold List.Nodup;rw[List.pairwise_map];refine List.Pairwise.imp_of_mem ?_ List.pairwise_lt_range;intro i j _ hj lt e;have hj:j<m+1:=Sr.mp hj;have go:∀d,fE s (d+i) h=fE s (d+j) h:=λd=>by rw[jL s i d h,jL s j d h,e]
   have:=go (m-j)
   rw[show m-j+j=m by lia,pm] at this;exact lo (m-j+i) (by lia) this
  have:=pig _ nd λx hx=>by
   obtain⟨i,_,rfl⟩:=RO.mp hx;exact vz hs hh i
  rw[Rm,R5] at this;rw[show L.length=(L.length-m)+m by lia,jL (cX s r) m,e1];exact uE s r _
section
variable(es:List (Nat×Nat))(pc:Nat->Rat)
abbrev fro(k:Nat):Nat:=(es.getD k (0,0)).1
abbrev tow(k:Nat):Nat:=(es.getD k (0,0)).2
abbrev frm(h:Nat):List Nat:=(RQ es.length).filter λk=>fro es k == h
abbrev bY(L:List Nat)(r:Nat):List Nat:=L.filter λx=>x != r
abbrev bS(g:Nat->Nat):List Nat->Rat
 |[]=>1
 |h :: hs=>pc (g h)*bS g hs
open Classical in
abbrev W (L:List Nat) (r:Nat):Rat:=T (frm es) (bY L r) λg=>if Tree (λh=>tow es (g h)) L r then bS pc g (bY L r) else 0
variable{es}{pc}
def E6{L:List Nat}(nd:L.Nodup){i:Nat}(hi:i∈L):L.Perm (i :: bY L i):=by
 have:=List.perm_cons_erase hi
 rw[nd.erase_eq_filter] at this;exact this
def JK{i:Nat}:i∉bY L i:=λh=>by
 have:=(SG.mp h).2
 simp at this
def qz{α:Type}{l:List α}{f:α->Rat}(h:∀x∈l,0<=f x):0<=ls l f:=by
 induction l with
 |nil=>exact Rat.le_refl
 |cons a l ih =>
  have h1:=h a Ru;have h2:=ih λx hx=>h x (RA _ hx)
  rw[cS]
  grind
def Nc{α:Type}{l:List α}{f:α->Rat}(h:∀x∈l,0<=f x){a:α}(ha:a∈l)(p:0<f a):0<ls l f:=by
 induction l with
 |nil=>cases ha
 |cons b l ih =>
  rw[cS];have h1:=h b Ru;have h2:=qz λx hx=>h x (RA b hx)
  rcases RW.mp ha with rfl|hb
  .grind
  .have:=ih (λx hx=>h x (RA _ hx)) hb
   grind
def vW{fm:Nat->List Nat}:∀{hs:List Nat} {F:(Nat->Nat)->Rat},hs.Nodup->(∀g,(∀h∈hs,g h∈fm h)->0<=F g)->0<=T fm hs F
 |[],F,_,e=>e _ λh hh=>by cases hh
 |h :: hs,F,nd,e=>qz λk hk=>vW (SJ.mp nd).2 λg hg=>e _ λx hx=>by
  unfold up;by_cases q:x=h
  .rw[if_pos q,q];exact hk
  .rw[if_neg q];exact hg x ((RW.mp hx).resolve_left q)
def OD{fm:Nat->List Nat}:∀{hs:List Nat} {F:(Nat->Nat)->Rat} {g0:Nat->Nat},hs.Nodup->(∀g,(∀h∈hs,g h∈fm h)->0<=F g)->(∀h∈hs,g0 h∈fm h)->(∀h,h∉hs->g0 h=0)->0<F g0->0<T fm hs F
 |[],F,g0,_,_,_,z,p=>by
  show 0<F λ_=>0
  rw[show(λ_=>0)=g0 from funext λx=>(z x λh=>by cases h).symm];exact p
 |h :: hs,F,g0,nd,e,v,z,p=>by
  obtain⟨n1,n2⟩:=SJ.mp nd
  have ok:∀k∈fm h,∀g,(∀x∈hs,g x∈fm x)->0<=F (up g h k):=λk hk g hg=>e _ λx hx=>by
   unfold up;by_cases q:x=h
   .rw[if_pos q,q];exact hk
   .rw[if_neg q];exact hg x ((RW.mp hx).resolve_left q)
  refine Nc (λk hk=>vW n2 (ok k hk)) (v h Ru) ?_;refine OD (g0:=λx=>if x=h then 0 else g0 x) n2 (ok _ (v h Ru)) (λx hx=>?_) (λx hx=>?_) ?_
  .show(if x=h then 0 else g0 x)∈fm x;have ne:x≠h:=λq=>n1 (by rw[<- q];exact hx)
   rw[if_neg ne];exact v x (RA _ hx)
  .show(if x=h then 0 else g0 x)=0;by_cases q:x=h
   .rw[if_pos q]
   .rw[if_neg q];exact z x λm=>hx ((RW.mp m).resolve_left q)
  .rw[show up (λx=>if x=h then 0 else g0 x) h (g0 h)=g0 from funext λx=>?_]
   .exact p
   .unfold up;by_cases q:x=h
    .rw[if_pos q,q]
    .rw[if_neg q];exact if_neg q
def g7{g:Nat->Nat}:∀{l:List Nat},(∀h∈l,0<pc (g h))->0<bS pc g l
 |[],_=>by show(0:Rat)<1;decide
 |h :: l,a=>VY (a h Ru) (g7 λx hx=>a x (RA _ hx))
abbrev Pn(es:List (Nat×Nat)):Nat->Nat->Nat->Prop
 |0,a,b=>a=b
 |n+1,a,b=>∃k,k<es.length/\fro es k=a/\Pn es n (tow es k) b
def Pn.snoc{es:List (Nat×Nat)}{k:Nat}(hk:k<es.length):∀{n a:Nat},Pn es n a (fro es k)->Pn es (n+1) a (tow es k)
 |0,_,h=>⟨k,hk,h.symm,rfl⟩
 |_+1,_,⟨m,hm,e,h⟩=>⟨m,hm,e,Pn.snoc hk h⟩
open Classical in
def QN{L:List Nat}(nd:L.Nodup){r:Nat}(hr:r∈L)(cl:∀k,k<es.length->(fro es k∈L↔tow es k∈L))(pig:∀l:List Nat,l.Nodup->(∀x∈l,x∈L)->l.length<=L.length)(pp:∀k,k<es.length->0<pc k)(bk:∀h∈L,∃n,Pn es n h r):0<W es pc L r:=by
 have ndo:(bY L r).Nodup:=nd.filter _;have mo:∀{h},h∈bY L r↔h∈L/\h≠r:=λ{h}=>by unfold bY;rw[SG];simp
 have pos:∀g:Nat->Nat,(∀h∈bY L r,g h∈frm es h)->0<bS pc g (bY L r):=λg hg=>g7 λh hh=>pp _ (Sr.mp (SG.mp (hg h hh)).1)
 have near:∀h,h∈bY L r->∃k,k∈frm es h/\∀n,(Pn es n h r/\∀m,m<n->¬ Pn es m h r)->∃m,m<n/\Pn es m (tow es k) r:=by
  intro h hh;obtain⟨hL,ne⟩:=mo.mp hh;obtain⟨n0,p0⟩:=bk h hL;obtain⟨n,_,pn,lo⟩:=Bi (P:=λn=>Pn es n h r) n0 p0;cases n with
  |zero=>exact absurd pn ne
  |succ n =>
   obtain⟨k,hk,e,p⟩:=pn;refine⟨k,SG.mpr ⟨Sr.mpr hk,by simpa using e⟩,λn' ⟨q1,q2⟩=>⟨n,?_,p⟩⟩;rcases YX n n' with z|z
   .exact z
   .exact absurd q1 (lo n' (by lia))
 let g0:Nat->Nat:=λh=>if q:h∈bY L r then (near h q).choose else 0
 have v:∀h∈bY L r,g0 h∈frm es h:=λh hh=>by
  show(if q:h∈bY L r then (near h q).choose else 0)∈_;rw[dif_pos hh];exact(near h hh).choose_spec.1
 have step:∀h∈bY L r,∀n,(Pn es n h r/\∀m,m<n->¬ Pn es m h r)->∃m,m<n/\Pn es m (tow es (g0 h)) r:=λh hh=>by
  show ∀n,_->∃m,m<n/\Pn es m (tow es (if q:h∈bY L r then (near h q).choose else 0)) r;rw[dif_pos hh];exact(near h hh).choose_spec.2
 have inL:∀h∈bY L r,tow es (g0 h)∈L:=λh hh=>by
  obtain⟨m1,m2⟩:=SG.mp (v h hh);exact(cl _ (Sr.mp m1)).mp (by rw[show fro es (g0 h)=h by simpa using m2];exact(mo.mp hh).1)
 refine OD (g0:=g0) ndo (λg hg=>?_) v (λh hh=>?_) ?_
 .split
  .exact XO (pos g hg)
  .exact Rat.le_refl
 .show(if q:h∈bY L r then (near h q).choose else 0)=0;rw[dif_neg hh]
 .have all:∀n h,h∈L->Pn es n h r->∃m,fE (cX (λh=>tow es (g0 h)) r) m h=r:=by
   intro n
   induction n using Vc with
   |_ n ih =>
    intro h hL p;by_cases e:h=r
    .exact⟨0,e⟩
    .obtain⟨m,hm,pm,lo⟩:=Bi (P:=λn=>Pn es n h r) n p;have hh:=mo.mpr ⟨hL,e⟩;obtain⟨q,hq,pq⟩:=step h hh m ⟨pm,lo⟩;obtain⟨t,ht⟩:=ih q (by lia) _ (inL h hh) pq;refine⟨t+1,?_⟩;rw[jL (cX (λh=>tow es (g0 h)) r) 1 t h,show fE (cX (λh=>tow es (g0 h)) r) 1 h=tow es (g0 h) from if_neg e];exact ht
  have tr:Tree (cX (λh=>tow es (g0 h)) r) L r:=(Dg (s:=cX (λh=>tow es (g0 h)) r) (λh hh=>by
   unfold cX
   by_cases e:h=r
   .rw[if_pos e];exact hr
   .rw[if_neg e];exact inL h (mo.mpr ⟨hh,e⟩)) pig).mpr λh hh=>by
    obtain⟨n,pn⟩:=bk h hh;exact all n h hh pn
  have tr2:Tree (λh=>tow es (g0 h)) L r:=λh hh=>by
   have:=tr h hh
   rw[show cX (cX (λh=>tow es (g0 h)) r) r=cX (λh=>tow es (g0 h)) r from funext λx=>by
    unfold cX
    by_cases e:x=r
    .rw[if_pos e,if_pos e]
    .rw[if_neg e,if_neg e]] at this
   exact this
  rw[if_pos tr2];exact pos g0 v
end
open PySem L2 Fr G1 Sm Vs G2 Rk Sz Sf Rw Ti
open PySem.W (Dat kqdOk)
abbrev dQ(x:Rat):Dat:=dI [x.num,(x.den:Int)]
abbrev QV(K:Fg)(H:Hp)(v:V)(x:Rat):Prop:=∃a:Addr,v=.ref a/\SqT K H a [.int x.num,.int (x.den:Int)]
def QV.of{K:Fg}(h:Rz K H v (dQ x)):QV K H v x:=by
 obtain⟨a,e,ha⟩:=bM h;exact⟨a,e,SqT.of ha⟩
abbrev Bq(n:Nat)(x:Rat):Prop:=x.num.natAbs<2 ^ n/\x.den<2 ^ n
abbrev gW(K:Fg):Sp:=λvs H Q _=>∃t b:Int,vs=[.int t,.int b]/\b≠0/\t.natAbs<2 ^ 8000/\b.natAbs<2 ^ 8000/\∀(p:Addr) (H':Hp),Same H H'->Rz K H' (.ref p) (dQ (Sc t b))->Q (.ref p) H'
abbrev sH(K:Fg):Sp:=λvs H Q _=>∃(v u:V) (x y:Rat),vs=[v,u]/\QV K H v x/\QV K H u y/\Bq 3900 x/\Bq 3900 y/\∀(p:Addr) (H':Hp),Same H H'->Rz K H' (.ref p) (dQ (x+y))->Q (.ref p) H'
abbrev mB(K:Fg):Sp:=λvs H Q _=>∃(v u:V) (x y:Rat),vs=[v,u]/\QV K H v x/\QV K H u y/\Bq 3900 x/\Bq 3900 y/\∀(p:Addr) (H':Hp),Same H H'->Rz K H' (.ref p) (dQ (x*y))->Q (.ref p) H'
def Bq.mul{x y:Int}(hx:x.natAbs<2 ^ 3900)(hy:y.natAbs<2 ^ 3900):(x*y).natAbs<2 ^ 7800:=by
 rw[SL]
 have:=Xg hx hy
 rwa [<- Vj] at this
def pw_lt{a b:Nat}(h:a<b):(2:Nat) ^ a<2 ^ b:=T8 (by decide) h
def Bq.w{x:Int}(h:x.natAbs<2 ^ 3900):x.natAbs<2 ^ 20000:=SY h (pw_lt (by decide))
def Bq.d(h:Bq 3900 x):((x.den:Nat):Int).natAbs<2 ^ 3900:=h.2
def Bq.sum{x y:Int}(hx:x.natAbs<2 ^ 7800)(hy:y.natAbs<2 ^ 7800):(x+y).natAbs<2 ^ 8000:=by
 refine R3 (RS (Yn x y) (Nat.add_lt_add hx hy)) ?_;rw[<- Nat.two_mul,Tu,<- TU];exact RJ (by decide) (by decide)
abbrev rO(K:Fg):TS:=(aE (aw (gW K) [] E0 (ae (ao aW (ao eG (ao (aG K) (aa 0) (tC (.int 0))) (ao (aG K) (aa 1) (tC (.int 1)))) (ao eG (ao (aG K) (aa 1) (tC (.int 0))) (ao (aG K) (aa 0) (tC (.int 1))))) (ae (ao eG (ao (aG K) (aa 0) (tC (.int 1))) (ao (aG K) (aa 1) (tC (.int 1)))) ai))))
def Ep{K:Fg}:ρ 2 (sH K) (rO K):=by
 fail "R";obtain⟨v,u,x,y,rfl,rv,ru,bx,by_,k⟩:=h;obtain⟨a,rfl,ha⟩:=rv;obtain⟨b,rfl,hb⟩:=ru;rw[L2.aO hN];walk_at "t";unfold rO;cbv;refine aF ha (v:=.int x.num) rfl ?_;cbv;refine aF hb (v:=.int (y.den:Int)) rfl ?_;refine⟨_,_,rfl,rfl,⟨Bq.w bx.1,Bq.w by_.d⟩,?_⟩;cbv;refine aF hb (v:=.int y.num) rfl ?_;cbv;refine aF ha (v:=.int (x.den:Int)) rfl ?_;refine⟨_,_,rfl,rfl,⟨Bq.w by_.1,Bq.w bx.d⟩,?_⟩;cbv;refine aF ha (v:=.int (x.den:Int)) rfl ?_;cbv;refine aF hb (v:=.int (y.den:Int)) rfl ?_;refine⟨_,_,rfl,rfl,⟨Bq.w bx.d,Bq.w by_.d⟩,?_⟩;cbv;refine⟨_,_,rfl,Hf x y,Bq.sum (Bq.mul bx.1 by_.d) (Bq.mul by_.1 bx.d),SY (Bq.mul bx.d by_.d) (pw_lt (by decide)),λp H' S r=>?_⟩;rw[Je] at r;exact k p H' S r
abbrev lX(K:Fg):TS:=(aE (aw (gW K) [] E0 (ae (ao eG (ao (aG K) (aa 0) (tC (.int 0))) (ao (aG K) (aa 1) (tC (.int 0)))) (ae (ao eG (ao (aG K) (aa 0) (tC (.int 1))) (ao (aG K) (aa 1) (tC (.int 1)))) ai))))
def zR{K:Fg}:ρ 2 (mB K) (lX K):=by
 fail "R";obtain⟨v,u,x,y,rfl,rv,ru,bx,by_,k⟩:=h;obtain⟨a,rfl,ha⟩:=rv;obtain⟨b,rfl,hb⟩:=ru;rw[L2.aO hN];walk_at "t";unfold lX;cbv;refine aF ha (v:=.int x.num) rfl ?_;cbv;refine aF hb (v:=.int y.num) rfl ?_;refine⟨_,_,rfl,rfl,⟨Bq.w bx.1,Bq.w by_.1⟩,?_⟩;cbv;refine aF ha (v:=.int (x.den:Int)) rfl ?_;cbv;refine aF hb (v:=.int (y.den:Int)) rfl ?_;refine⟨_,_,rfl,rfl,⟨Bq.w bx.d,Bq.w by_.d⟩,?_⟩;cbv;refine⟨_,_,rfl,Hf x y,SY (Bq.mul bx.1 by_.1) (pw_lt (by decide)),SY (Bq.mul bx.d by_.d) (pw_lt (by decide)),λp H' S r=>?_⟩;rw[Jc] at r;exact k p H' S r
def Acc.ext{K:Fg}(A:Acc K H0 l H ds)(hb:H b=some (.lst zs))(rz:RpL K (λa=>H0 a=none/\a≠l) H zs es)(n:ds.length+es.length<=1000){Q:VK}(h:∀H2,Acc K H0 l H2 (ds++es)->Q .non H2):jv (.ref l) [.ref b] H Q:=by
 obtain⟨xs,h1,h2⟩:=A.at_
 have lz:xs.length+zs.length<=sizeLine:=by
  have:=aq n
  rw[h2.length,rz.length];lia
 refine⟨l,b,xs,zs,rfl,rfl,h1,hb,lz,h _ ⟨λc o q=>?_,A.new,_,L2.ag,?_⟩⟩
 .rw[L2.aC (au q A.new)];exact A.same c o q
 .exact(h2.append rz).agr (Agr.eN h1 λw=>w.2 rfl)
abbrev zt(K:Fg):Sp:=λvs H Q _=>∃(p:Addr) (xs:List V) (es:List (Nat×Nat)) (h:Nat),vs=[.ref p,.int (h:Int)]/\H p=some (.lst xs)/\RzL K H xs (es.map dP)/\es.length<=100/\∀(q:Addr) (H':Hp),AccZ K H q H' ((frm es h).map dN)->Q (.ref q) H'
def BQ{es:List (Nat×Nat)}{j:Nat}{e:Nat×Nat}(h:es[j]?=some e):fro es j=e.1/\tow es j=e.2:=by
 unfold fro tow;rw[Rr,h];exact⟨rfl,rfl⟩
abbrev yC(K:Fg):TS:=(aE (ig (iP K (ae (aa 0) ai)) 2 (cj K 2 (aY (al 0) (aY (al 1) ck))) (aP (ao gk (ao (aG K) (aa 1) (tC (.int 0))) (aa 3))) (aa 0)))
def IT{K:Fg}:ρ 2 (zt K) (yC K):=by
 fail "R";obtain⟨p,xs,es,h,rfl,hp,rx,le,k⟩:=h;rw[L2.aO hN];walk_at "t";have lx:xs.length=es.length:=by rw[rx.length,Rm]
 unfold yC;cbv;refine⟨p,xs,rfl,SqL.of hp,?_⟩;refine k9 (xs:=xs) λD nD=>⟨λj H2=>AccZ K H D H2 (((RQ j).filter λk=>fro es k == h).map dN),AccZ.start (Same.refl _) nD,λj H2 _ A=>SqL.of (A.same _ _ hp),?_,?_⟩
 .intro j x H2 T hx A nT us hu
  obtain⟨u0,u1,rfl⟩:∃u0 u1,us=[u0,u1]:=ex2 hu
  have lj:=(Rq.mp hx).1;obtain⟨d,g1,g2⟩:=rx.get hx;rw[Rt] at g1;obtain⟨e,he,rfl⟩:=RD.mp g1;obtain⟨f1,_⟩:=BQ he;have A2:=A.on (aj nT (.tup [.int (j:Int),x]));have hT:upd H2 T (.tup [.int (j:Int),x]) T=some (.tup [.int (j:Int),x]):=ag;generalize upd H2 T (.tup [.int (j:Int),x])=H3 at A2 hT ⊢;obtain⟨pb,rfl,hpb⟩:=Cj (g2.same A2.same);have lr:((RQ j).filter λk=>fro es k == h).length<=100:=RN (TC _ _) (by rw[R5];lia);have er:(RQ (j+1)).filter (λk=>fro es k == h)=(RQ j).filter (λk=>fro es k == h)++[j].filter λk=>fro es k == h:=by rw[UQ,VD]
  refine bG (SqT.of hT) rfl ?_;cbv;refine⟨⟨[↥(j:Int),⇑pb],rfl,rfl⟩,?_⟩;cbv;refine aF (SqT.of hpb) (v:=.int (e.1:Int)) rfl ?_;cbv;refine aX (λc=>?_) (λc=>?_)
  .have c':fro es j=h:=by lia
   cbv;refine a_ lj ?_;refine A2.cF (d:=dN j) (.int _) (aq (by rw[Rm];lia)) λH4 A4=>?_
   show AccZ K H D H4 (((RQ (j+1)).filter λk=>fro es k == h).map dN);rw[er,TH (by simpa using c'),Rx];exact A4
  .have c' : ¬ fro es j=h:=by lia
   refine iY lj ?_;show AccZ K H D H3 (((RQ (j+1)).filter λk=>fro es k == h).map dN);rw[er,Tl (by simpa using c')];simpa using A2
 .intro H2 A;rw[lx] at A;exact k D H2 A
abbrev jy(es:List (Nat×Nat))(acc:List (List Nat))(h:Nat):List (List Nat):=acc.flatMap λp=>(frm es h).map λk=>p++[k]
abbrev pk(es:List (Nat×Nat))(hs:List Nat):List (List Nat):=hs.foldl (jy es) [[]]
abbrev Hh(p:List Nat):Dat:=dL (ni p)
abbrev sJ(K:Fg):Sp:=λvs H Q _=>∃(p b:Addr) (xs:List V) (es:List (Nat×Nat)) (hs:List Nat),vs=[.ref p,.ref b]/\H p=some (.lst xs)/\RzL K H xs (es.map dP)/\es.length<=100/\H b=some (.lst ((ni hs).map V.int))/\hs.length<=100/\(∀i,(pk es (hs.take i)).length<=900)/\∀(q:Addr) (H':Hp),Acc K H q H' ((pk es hs).map Hh)->Q (.ref q) H'
def Aw{hs:List Nat}{i h:Nat}(e:hs[i]?=some h):pk es (hs.take (i+1))=jy es (pk es (hs.take i)) h:=by
 unfold pk;rw[RP,e,Ug];rfl
def GK{es:List (Nat×Nat)}:∀{hs:List Nat} {acc:List (List Nat)} {n:Nat},(∀p∈acc,p.length=n)->∀p∈hs.foldl (jy es) acc,p.length=n+hs.length
 |[],_,_,h,p,hp=>h p hp
 |x :: hs,acc,n,h,p,hp=>by
  have:=GK (hs:=hs) (acc:=jy es acc x) (n:=n+1) (λq hq=>by
   obtain⟨a,ha,hq⟩:=ZaX.mp hq
   obtain⟨k,_,rfl⟩:=RO.mp hq
   rw[RF,h a ha]
   rfl) p hp
  rw[this,Sn];lia
nonrec abbrev yk(K:Fg):TS:=(am (a9 (cg K (aa 2)) (al 5)
 (bn (dD K "list" jv (aa 4) (ae (fA (cg K (aw (zt K) [] E0 (ae (aa 0) (ae (aa 3) ai)))) (ao Ah (aa 6) (bP (ae (aa 0) ai)))) ai))))
 (av (aa 4) (al 2)))
abbrev rQ(K:Fg):TS:=(am (av (bP (ae (bP ai) ai)) (al 2))
 (am (a9 (cg K (aa 1)) (al 3)
 (am (av (bP ai) (al 4))
 (yk K)))
 (aE (aa 2))))
def Es{K:Fg}:ρ 6 (sJ K) (rQ K):=by
 fail "R";obtain⟨p,b,xs,es,hs,rfl,hp,rx,le,hb,lh,few,k⟩:=h;rw[L2.aO hN];walk_at "t";unfold rQ;cbv;refine⟨by decide,λl0 n0=>?_⟩;have S0:=aj n0 (.lst []);have h0:upd H l0 (.lst []) l0=some (.lst (([]:List Int).map V.int)):=ag;generalize upd H l0 (.lst [])=H0 at S0 h0 ⊢;cbv;refine⟨gX,λl1 n1=>?_⟩;have S1:=aj n1 (.lst [.ref l0]);have A1:Acc K H l1 (upd H0 l1 (.lst [.ref l0])) ((pk es (hs.take 0)).map Hh):=⟨S0.trans S1,S0.free n1,_,ag,.cons (xp ⟨n0,au h0 n1⟩ (S1 _ _ h0)) .nil⟩
 generalize upd H0 l1 (.lst [.ref l0])=H1 at A1 ⊢;clear S1 S0 h0;cbv;refine iO (SqL.of (A1.same _ _ hb)) ?_;refine bz (xs:=(ni hs).map V.int) (λi σ H2=>∃(t:Addr) (u3 u4 u5:Option V),σ=[⇑p,⇑b,⇑t,u3,u4,u5]/\Acc K H t H2 ((pk es (hs.take i)).map Hh)) ⟨l1,none,none,none,rfl,A1⟩ (by rintro i σ H2 _ ⟨_,_,_,_,_,A⟩;exact SqL.of (A.same _ _ hb)) ?_ ?_
 .rintro i x σ H2 hx ⟨t,u3,u4,u5,rfl,A⟩
  obtain⟨h,eh,rfl⟩:∃h,hs[i]?=some h/\x=.int (h:Int):=by
   unfold ni at hx;rw[Rt,Rt] at hx;cases e:hs[i]? with
   |none=>rw[e] at hx;cases hx
   |some h=>rw[e] at hx;exact⟨h,rfl,(RY hx).symm⟩
  have fw:=few (i+1);rw[Aw eh] at fw
  have ln:∀q∈pk es (hs.take i),q.length<=100:=λq hq=>by
   have:=GK (acc:=[[]]) (n:=0) (λp hp=>by rw[RL.mp hp];rfl) q hq
   rw[this,RT];lia
  obtain⟨ts,ht,rt⟩:=A.at_;generalize hP:pk es (hs.take i)=P at A rt fw ln;cbv;refine⟨by decide,λl nl=>?_⟩;have B0:Acc K H2 l (upd H2 l (.lst [])) ((jy es (P.take 0) h).map Hh):=Acc.start nl;generalize upd H2 l (.lst [])=H3 at B0 ⊢;cbv;refine iO (SqL.of (B0.same _ _ ht)) ?_;refine bz (xs:=ts) (λj σ H4=>∃u5:Option V,σ=[⇑p,⇑b,⇑t,↥(h:Int),⇑l,u5]/\Acc K H2 l H4 ((jy es (P.take j) h).map Hh)) ⟨u5,rfl,B0⟩ (by rintro j σ H4 _ ⟨_,_,B⟩;exact SqL.of (B.same _ _ ht)) ?_ ?_
  .rintro j y σ H4 hy ⟨u5,rfl,B⟩;have lj:=(Rq.mp hy).1;obtain⟨d,g1,g2⟩:=rt.get hy;rw[Rt] at g1;obtain⟨q,hq,rfl⟩:=RD.mp g1;obtain⟨c,rfl,_,hc⟩:=xq g2;have lq:=ln q (Ry hq)
   have ej:jy es (P.take (j+1)) h=jy es (P.take j) h++(frm es h).map λk=>q++[k]:=by
    unfold jy;rw[RP,hq,ZB];simp
   have e2:jy es P h=jy es (P.take (j+1)) h++jy es (P.drop (j+1)) h:=by unfold jy;rw[<- ZB,W6]
   have fj:(jy es (P.take (j+1)) h).length<=900:=by
    rw[e2,RF] at fw;lia
   rw[ej,RF,Rm] at fj;cbv;refine⟨B.ty,?_⟩;cbv;refine⟨p,xs,es,h,rfl,B.same _ _ (A.same _ _ hp),rx.same (A.same.trans B.same),le,λr H5 A5=>?_⟩;have hr:H5 r=some (.lst ((ni (frm es h)).map V.int)):=AccZ.ints (by unfold ni;rw[Tv];exact A5);have lf:((ni (frm es h)).map V.int).length=(frm es h).length:=by unfold ni;rw[Rm,Rm]
   refine tK (SqL.of hr) ?_;refine cN (xs:=(ni (frm es h)).map V.int) λE nE=>⟨λm H6=>Acc K H5 E H6 ((((frm es h).take m).map λk=>q++[k]).map Hh),by simpa using Acc.start nE,λm H6 _ C=>SqL.of (C.same _ _ hr),?_,?_⟩
   .intro m z H6 hz C;have lm:=(Rq.mp hz).1
    obtain⟨n,en,rfl⟩:∃n,(frm es h)[m]?=some n/\z=.int (n:Int):=by
     unfold ni at hz;rw[Rt,Rt] at hz;cases e:(frm es h)[m]? with
     |none=>rw[e] at hz;cases hz
     |some n=>rw[e] at hz;exact⟨n,rfl,(RY hz).symm⟩
    have hc6:=C.same _ _ (A5.same _ _ (B.same _ _ hc));cbv;refine⟨gX,λl2 n2=>?_⟩;have S7:=aj n2 (.lst [.int (n:Int)]);have h7:upd H6 l2 (.lst [.int (n:Int)]) l2=some (.lst [.int (n:Int)]):=ag;have hc7:=S7 _ _ hc6;generalize upd H6 l2 (.lst [.int (n:Int)])=H7 at S7 h7 hc7 ⊢;refine⟨c,l2,_,_,rfl,rfl,hc7,h7,by rw[Rm,UY];unfold ni;rw[Rm];show q.length+1<=_;lia,λl3 n3=>?_⟩;have S8:=S7.trans (aj n3 (.lst ((ni q).map V.int++[.int (n:Int)])));have h8:upd H7 l3 (.lst ((ni q).map V.int++[.int (n:Int)])) l3=some (.lst ((ni (q++[n])).map V.int)):=by unfold ni;rw[Rx,Rx];exact ag
    have n36:=S7.free n3;generalize upd H7 l3 (.lst ((ni q).map V.int++[.int (n:Int)]))=H8 at S8 h8 ⊢;refine a_ lm ?_;refine C.cF S8 (d:=Hh (q++[n])) (xp n36 h8) (aq (by rw[Rm,Rm,RT];lia)) λH9 C9=>?_
    show Acc K H5 E H9 ((((frm es h).take (m+1)).map λk=>q++[k]).map Hh);rw[RP,en,Rx,Rx];exact C9
   .intro H6 C;rw[lf,RG (RB _)] at C;obtain⟨zs,hz,rz⟩:=C.at_;have B6:=(B.on A5.same).on C.same
    have lB:H4 l≠none:=by
     obtain⟨ys,h1,_⟩:=B.at_;rw[h1];exact λz=>by cases z
    cbv;refine Acc.ext B6 hz (rz.mono λa z=>⟨B.same.free (A5.same.free z.1),λe=>lB (by rw[<- e];exact A5.same.free z.1)⟩) (by rw[Rm,Rm,Rm];lia) λH7 B7=>?_
    refine⟨_,rfl,?_⟩;rw[ej,Rx];exact B7
  .rintro σ H4 ⟨u5,rfl,B⟩;have lt:ts.length=P.length:=by rw[rt.length,Rm]
   rw[lt,RG (RB _)] at B;cbv;refine⟨l,_,_,_,rfl,?_⟩;rw[Aw eh,hP];obtain⟨zs,hz,rz⟩:=B.at_;exact⟨A.same.trans B.same,A.same.free B.new,zs,hz,rz.mono λ_ z=>⟨A.same.free z.1,z.2⟩⟩
 .rintro σ H2 ⟨t,u3,u4,u5,rfl,A⟩;rw[RG (by unfold ni;rw[Rm,Rm];exact RB _)] at A;cbv;exact k t H2 A
def Gh{K:Fg}(h:SqT K H a xs)(S:Same H H'):SqT K H' a xs:=by
 rcases h with(h|⟨o,h⟩)|h
 .exact .inl (.inl (S _ _ h))
 .exact .inl (.inr ⟨o,S _ _ h⟩)
 .exact .inr h
def QV.same{K:Fg}(h:QV K H v x)(S:Same H H'):QV K H' v x:=by
 obtain⟨a,e,ha⟩:=h;exact⟨a,e,Gh ha S⟩
def qr{i:Nat}{x:V}(hx:((ni hs).map V.int)[i]?=some x):∃h,hs[i]?=some h/\x=.int (h:Int):=by
 unfold ni at hx;rw[Rt,Rt] at hx;cases e:hs[i]? with
 |none=>rw[e] at hx;cases hx
 |some h=>rw[e] at hx;exact⟨h,rfl,(RY hx).symm⟩
def dH(hs:List Nat):((ni hs).map V.int).length=hs.length:=by unfold ni;rw[Rm,Rm]
abbrev kd(ps:List (Nat×Nat)):List (ba×V):=ps.map λq=>((.inl (q.1:Int):ba),V.int (q.2:Int))
abbrev lk(ps:List (Nat×Nat))(h:Nat):Nat:=((ps.find? λq=>q.1 == h).map (·.2)).getD 0
def Bn:∀(ps:List (Nat×Nat)) (h:Nat),bE (kd ps) (.inl (h:Int))=(ps.find? λq=>q.1 == h).map λq=>V.int (q.2:Int)
 |[],h=>rfl
 |q :: ps,h=>by
  show bE (((.inl (q.1:Int):ba),V.int (q.2:Int)) :: kd ps) (.inl (h:Int))=_;rw[UA];by_cases e:q.1=h
  .rw[bq (by rw[e]),show(q.1 == h)=true by simpa using e];rfl
  .rw[bi (λz=>e (by have:=WE z;lia)),show(q.1 == h)=false by simpa using e];exact Bn ps h
def PM{ps:List (Nat×Nat)}{h:Nat}(m:h∈ps.map (·.1)):bE (kd ps) (.inl (h:Int))=↥(lk ps h:Int):=by
 rw[Bn];unfold lk;cases e:ps.find? λq=>q.1 == h with
 |none =>
  obtain⟨q,hq,e2⟩:=RO.mp m
  have:=X9.mp e q hq
  simp[e2] at this
 |some q=>rfl
def No{ps:List (Nat×Nat)}{a b:Nat}(n:a∉ps.map (·.1)):b5 (kd ps) (.inl (a:Int)) (.int (b:Int))=kd (ps++[(a,b)]):=by
 have z:bE (kd ps) (.inl (a:Int))=none:=by
  rw[Bn,X9.mpr]
  .rfl
  .intro q hq e;exact n (RO.mpr ⟨q,hq,by simpa using e⟩)
 unfold b5;rw[eY,z];show kd ps++[_]=_;unfold kd;rw[Rx];rfl
abbrev prs(es:List (Nat×Nat))(ks:List Nat)(r:Nat):List (Nat×Nat):=(r,r) :: ks.map λk=>(fro es k,tow es k)
abbrev TD(ps:List (Nat×Nat))(r:Nat):Prop:=∀q∈ps,fE (lk ps) ps.length q.1=r
abbrev zg(K:Fg):Sp:=λvs H Q _=>∃(p b:Addr) (xs:List V) (es:List (Nat×Nat)) (ks:List Nat) (r:Nat),vs=[.ref p,.ref b,.int (r:Int)]/\H p=some (.lst xs)/\RzL K H xs (es.map dP)/\H b=some (.lst ((ni ks).map V.int))/\ks.length<=100/\(∀k∈ks,k<es.length)/\((prs es ks r).map (·.1)).Nodup/\(∀q∈prs es ks r,q.2∈(prs es ks r).map (·.1)) /\
 (TD (prs es ks r) r->∀H',Same H H'->Q (.bl true) H')/\(¬ TD (prs es ks r) r->∀H',Same H H'->Q (.bl false) H')
def PH{ps:List (Nat×Nat)}(cl:∀q∈ps,q.2∈ps.map (·.1)){h:Nat}(m:h∈ps.map (·.1)):lk ps h∈ps.map (·.1):=by
 unfold lk;cases e:ps.find? λq=>q.1 == h with
 |none =>
  obtain⟨q,hq,e2⟩:=RO.mp m
  have:=X9.mp e q hq
  simp[e2] at this
 |some q=>exact cl q (List.mem_of_find?_eq_some e)
nonrec abbrev DB(K:Fg):TS:=(am (a9 (cg K (bU Af (ae (aa 3) ai))) (al 5)
 (am (av (aa 5) (al 6))
 (am (a9 (b_ (ae (bU Mg (ae (aa 3) ai)) ai)) (al 7)
 (av (sv (aa 3) (aa 6)) (al 6)))
 (aS (aP (ao GA (aa 6) (aa 2)))
 (aE (tC (.bl false)))
 a7))))
 (aE (tC (.bl true))))
abbrev x_(K:Fg):TS:=(am (av (Ib [((aa 2),(aa 2))]) (al 3))
 (am (a9 (cg K (aa 1)) (al 4)
 (pO (aa 3) (ao (aG K) (ao (bI K) (aa 0) (aa 4)) (tC (.int 0))) (ao (aG K) (ao (bI K) (aa 0) (aa 4)) (tC (.int 1)))))
 (DB K)))
def ID{K:Fg}:ρ 8 (zg K) (x_ K):=by
 fail "R";obtain⟨p,b,xs,es,ks,r,rfl,hp,rx,hb,lk_,lt,nd,cl,kyes,kno⟩:=h;rw[L2.aO hN];walk_at "t";have lx:xs.length=es.length:=by rw[rx.length,Rm]
 unfold x_;cbv;intro rd nr;have T1:=aj nr (.dK []);unfold i_;cbv;unfold i_;refine⟨ag,[(.inl (r:Int),.int (r:Int))],rfl,by show 1<=15;decide,?_⟩
 have S1:Same H (upd (upd H rd (.dK [])) rd (.dK (dJ [] [(.inl (r:Int),.int (r:Int))]))):=λc o q=>by
  rw[aC (au q nr)];exact T1 _ _ q
 have d1:upd (upd H rd (.dK [])) rd (.dK (dJ [] [(.inl (r:Int),.int (r:Int))])) rd=some (.dK (kd (prs es (ks.take 0) r))):=ag;generalize upd (upd H rd (.dK [])) rd (.dK (dJ [] [(.inl (r:Int),.int (r:Int))]))=H1 at S1 d1 ⊢;cbv;refine iO (SqL.of (S1 _ _ hb)) ?_;refine bz (xs:=(ni ks).map V.int) (λi σ H2=>∃u4:Option V,σ=[⇑p,⇑b,↥(r:Int),⇑rd,u4,none,none,none]/\Same H H2/\H2 rd=some (.dK (kd (prs es (ks.take i) r)))) ⟨none,rfl,S1,d1⟩ (by rintro i σ H2 _ ⟨_,_,S,_⟩;exact SqL.of (S _ _ hb)) ?_ ?_
 .rintro i x σ H2 hx ⟨u4,rfl,S2,d2⟩;obtain⟨k,ek,rfl⟩:=qr hx;have lk2:=lt k (Ry ek);obtain⟨e,he⟩:∃e,es[k]?=some e:=⟨_,Rn lk2⟩
  obtain⟨f1,f2⟩:=BQ he;obtain⟨z,ez⟩:∃z,xs[k]?=some z:=⟨_,Rn (by lia)⟩
  obtain⟨d,g1,g2⟩:=rx.get ez;rw[Rt,he] at g1;cases g1;obtain⟨pb,rfl,hpb⟩:=Cj (g2.same S2);have li:i<ks.length:=(Rq.mp ek).1
  have ee:prs es (ks.take (i+1)) r=prs es (ks.take i) r++[(e.1,e.2)]:=by
   unfold prs;rw[RP,ek,Rx,<- f1,<- f2];rfl
  have nk:e.1∉(prs es (ks.take i) r).map (·.1):=by
   have n2:((prs es (ks.take (i+1)) r).map (·.1)).Nodup:=by
    refine nd.sublist ?_;unfold prs;exact((WP (i+1) ks).map _).cons_cons _ |>.map _
   rw[ee,Rx,VP] at n2;exact λm=>n2.2.2 _ m _ Ru rfl
  cbv;refine bQ (SqL.of (S2 _ _ hp)) (aK ez) ?_;cbv;refine aF (SqT.of hpb) (v:=.int (e.2:Int)) rfl ?_;cbv;refine bQ (SqL.of (S2 _ _ hp)) (aK ez) ?_;cbv;refine aF (SqT.of hpb) (v:=.int (e.1:Int)) rfl ?_;refine⟨rd,_,rfl,(DPut.k d2 (aq (by unfold kd prs;rw[Rm,Sn,Rm,RT];lia)):DPut H2 rd (kV (.inl (e.1:Int))) _ _),?_⟩;refine⟨_,rfl,λc o q=>?_,?_⟩
  .rw[aC (au q nr)];exact S2 c o q
  .rw[ag,ee,No nk]
 rintro σ H2 ⟨u4,rfl,S2,d2⟩;rw[dH,RG (RB _)] at d2;have lp:(prs es ks r).length<=101:=by unfold prs;rw[Sn,Rm];lia
 generalize prs es ks r=ps at d2 nd cl kyes kno lp;have lkd:(kd ps).length=ps.length:=Rm _;cbv;refine⟨rd,_,rfl,d2,λl nl=>?_⟩;have el:((kd ps).map λkv=>kV kv.1)=(ni (ps.map (·.1))).map V.int:=by unfold kd ni;rw[Tv,Tv,Tv];rfl
 rw[el];have S3:=S2.trans (aj nl (.lst ((ni (ps.map (·.1))).map V.int)));have d3:=aj nl (.lst ((ni (ps.map (·.1))).map V.int)) _ _ d2;have h3:upd H2 l (.lst ((ni (ps.map (·.1))).map V.int)) l=some (.lst ((ni (ps.map (·.1))).map V.int)):=ag;generalize upd H2 l (.lst ((ni (ps.map (·.1))).map V.int))=H3 at S3 d3 h3 ⊢;refine iO (SqL.of h3) ?_;refine bz (xs:=(ni (ps.map (·.1))).map V.int) (λi σ H4=>∃u5 u6 u7:Option V,σ=[⇑p,⇑b,↥(r:Int),⇑rd,u4,u5,u6,u7]/\H4=H3/\∀m,m<i->∀h,(ps.map (·.1))[m]?=some h->fE (lk ps) ps.length h=r) ⟨none,none,none,rfl,rfl,λm hm=>absurd hm (T_ _)⟩ (λi σ H4 _ ⟨_,_,_,_,e,_⟩=>by rw[e];exact SqL.of h3) ?_ ?_
 .rintro i x σ H4 hx ⟨u5,u6,u7,rfl,rfl,dn⟩;obtain⟨h,eh,rfl⟩:=qr hx;have mh:=Ry eh;cbv;refine⟨rd,_,rfl,d3,?_⟩;rw[lkd];refine⟨_,rfl,by lia,by lia,?_⟩;rw[Su];refine aR (λm σ H5=>∃u7:Option V,σ=[⇑p,⇑b,↥(r:Int),⇑rd,u4,↥(h:Int),some (.int (fE (lk ps) m h:Int)),u7]/\H5=H4) ⟨_,rfl,rfl⟩ ?_ ?_
  .rintro m σ H5 hm ⟨u7,rfl,rfl⟩;have mm:fE (lk ps) m h∈ps.map (·.1):=vz (λx hx=>PH cl hx) mh m;cbv;refine⟨rd,_,rfl,(by have:=(DGet.k d3:DGet H5 rd (kV (.inl (fE (lk ps) m h:Int))) _);rw[PM mm] at this;exact this),?_⟩;cbv;exact⟨_,rfl,rfl⟩
  .rintro σ H5 ⟨u7,rfl,rfl⟩;cbv;refine im (λc=>?_) (λc=>?_)
   .cbv;refine kno (λt=>c ?_) H5 S3;obtain⟨q,hq,e⟩:=RO.mp mh
    have:=t q hq
    rw[e] at this;rw[this]
   .cbv;refine⟨_,_,_,rfl,rfl,λm hm h' e'=>?_⟩;rcases YX m i with z|z
    .exact dn m z h' e'
    .rw[show m=i by lia,eh] at e';cases e';lia
 .rintro σ H4 ⟨u5,u6,u7,rfl,rfl,dn⟩;rw[dH] at dn;cbv;refine kyes (λq hq=>?_) H4 S3;have m1:q.1∈ps.map (·.1):=RO.mpr ⟨q,hq,rfl⟩;obtain⟨m,hm⟩:=SN m1;exact dn m (Rq.mp hm).1 q.1 hm
open Fr
def GX{α β:Type}(g:α->β)(f:β->Rat):∀l:List α,ls (l.map g) f=ls l λx=>f (g x)
 |[]=>rfl
 |a :: l=>by rw[Sy,cS,cS,GX g f l]
def A_{α:Type}(f:α->Rat):∀l m:List α,ls (l++m) f=ls l f+ls m f
 |[],m=>by rw[UO,GW,Rat.zero_add]
 |a :: l,m=>by rw[W9,cS,cS,A_ f l m,Rat.add_assoc]
def AZ{α β:Type}(g:α->List β)(f:β->Rat):∀l:List α,ls (l.flatMap g) f=ls l λx=>ls (g x) f
 |[]=>rfl
 |a :: l=>by rw[List.flatMap_cons,A_,cS,AZ g f l]
section
variable{es:List (Nat×Nat)}{pc:Nat->Rat}
def M9{h:Nat}{hs:List Nat}(n:h∉hs):hs.map (up g h k)=hs.map g:=US λx hx=>if_neg λe:x=h=>n (by rw[<- e];exact hx)
def GJ(G:List Nat->Rat):∀{hs:List Nat} (acc:List (List Nat)),hs.Nodup->ls (hs.foldl (jy es) acc) G=ls acc λa=>T (frm es) hs λg=>G (a++hs.map g)
 |[],acc,_=>i3 λa _=>by show G a=G (a++[]);rw[Up]
 |h :: hs,acc,nd=>by
  obtain⟨n1,n2⟩:=SJ.mp nd;rw[Xz,GJ G (jy es acc h) n2];unfold jy;rw[AZ];refine i3 λa _=>?_
  rw[GX];refine i3 λk _=>QP λg=>?_
  show G (a++[k]++hs.map g)=G (a++(h :: hs).map (up g h k));rw[Sy,M9 n1,show up g h k h=k from if_pos rfl,Tf];rfl
abbrev pq(pc:Nat->Rat)(q:List Nat):Rat:=q.foldl (λx k=>x*pc k) 1
def Ju:∀(q:List Nat) (x:Rat),q.foldl (λx k=>x*pc k) x=x*pq pc q
 |[],x=>(Uh x).symm
 |k :: q,x=>by
  unfold pq;rw[Xz,Xz,Ju q,Ju q,WJ,SV]
def GE(g:Nat->Nat):∀hs:List Nat,pq pc (hs.map g)=bS pc g hs
 |[]=>rfl
 |h :: hs=>by
  show(hs.map g).foldl (λx k=>x*pc k) (1*pc (g h))=pc (g h)*bS pc g hs;rw[Ju,GE g hs,WJ]
def G5{f f':Nat->Nat}{L:List Nat}(hf:∀h∈L,f h∈L)(e:∀h∈L,f h=f' h){x:Nat}(hx:x∈L):∀n,fE f n x=fE f' n x
 |0=>rfl
 |n+1=>by
  show f (fE f n x)=f' (fE f' n x);rw[e _ (vz hf hx n),G5 hf e hx n]
def qL{g:Nat->Nat}{h:Nat}:∀{hs:List Nat},h∈hs->((hs.map λx=>(x,g x)).find? λq=>q.1 == h)=some (h,g h)
 |[],m=>by cases m
 |x :: hs,m=>by
  rw[Sy,UA];by_cases e:x=h
  .rw[show((x,g x).1 == h)=true by simpa using e,e]
  .rw[show((x,g x).1 == h)=false by simpa using e];exact qL ((RW.mp m).resolve_left λz=>e z.symm)
def Ao{hs:List Nat}{g:Nat->Nat}(v:∀h∈hs,g h∈frm es h)(r:Nat):prs es (hs.map g) r=(r,r) :: hs.map λh=>(h,tow es (g h)):=by
 unfold prs;rw[Tv];congr 1;refine US λh hh=>?_
 have:=(SG.mp (v h hh)).2
 show(fro es (g h),tow es (g h))=_;rw[show fro es (g h)=h by simpa using this]
def fY{h:Nat}:h∈bY L r↔h∈L/\h≠r:=by unfold bY;rw[SG];simp
def PK{g:Nat->Nat}(v:∀h∈bY L r,g h∈frm es h){h:Nat}(hh:h∈L):lk (prs es ((bY L r).map g) r) h=cX (λh=>tow es (g h)) r h:=by
 rw[Ao v];unfold lk cX;rw[UA];by_cases e:h=r
 .rw[if_pos e,show((r,r).1 == h)=true by simpa using e.symm];rfl
 .rw[if_neg e,show((r,r).1 == h)=false by simpa using λz=>e z.symm,qL (g:=λh=>tow es (g h)) (fY.mpr ⟨hh,e⟩)];rfl
def nA{L:List Nat}(nd:L.Nodup){r:Nat}(hr:r∈L):(bY L r).length+1=L.length:=by
 have:=(E6 nd hr).length_eq
 rw[Sn] at this;exact this.symm
def Qt{L:List Nat}{g:Nat->Nat}(cl:∀k,k<es.length->(fro es k∈L↔tow es k∈L))(v:∀h∈bY L r,g h∈frm es h){h:Nat}(hh:h∈bY L r):tow es (g h)∈L:=by
 obtain⟨m1,m2⟩:=SG.mp (v h hh);exact(cl _ (Sr.mp m1)).mp (by rw[show fro es (g h)=h by simpa using m2];exact(fY.mp hh).1)
def CK{L:List Nat}(nd:L.Nodup){r:Nat}(hr:r∈L)(cl:∀k,k<es.length->(fro es k∈L↔tow es k∈L)){g:Nat->Nat}(v:∀h∈bY L r,g h∈frm es h):TD (prs es ((bY L r).map g) r) r↔Tree (λh=>tow es (g h)) L r:=by
 have lp:(prs es ((bY L r).map g) r).length=L.length:=by
  rw[<- nA nd hr];unfold prs;rw[Sn,Rm,Rm]
 have st:∀h∈L,cX (λh=>tow es (g h)) r h∈L:=λh hh=>by
  unfold cX;by_cases e:h=r
  .rw[if_pos e];exact hr
  .rw[if_neg e];exact Qt cl v (fY.mpr ⟨hh,e⟩)
 have ie:∀h∈L,fE (lk (prs es ((bY L r).map g) r)) L.length h=fE (cX (λh=>tow es (g h)) r) L.length h:=λh hh=>(G5 st (λx hx=>(PK v hx).symm) hh _).symm
 unfold TD Tree;rw[lp];constructor
 .intro t h hh;rw[<- ie h hh];by_cases e:h=r
  .have:=t (r,r) (by unfold prs;exact Ru)
   rw[e];exact this
  .have:=t (h,tow es (g h)) (by rw[Ao v];exact RA _ (RO.mpr ⟨h,fY.mpr ⟨hh,e⟩,rfl⟩))
   exact this
 .intro t q hq;rw[Ao v] at hq;rcases RW.mp hq with rfl|hq
  .rw[ie r hr];exact t r hr
  .obtain⟨h,hh,rfl⟩:=RO.mp hq
   have:=(fY.mp hh).1
   show fE _ _ h=r;rw[ie h this];exact t h this
open Classical in
def KY{L:List Nat}(nd:L.Nodup){r:Nat}(hr:r∈L)(cl:∀k,k<es.length->(fro es k∈L↔tow es k∈L)):ls (pk es (bY L r)) (λq=>if TD (prs es q r) r then pq pc q else 0)=W es pc L r:=by
 have ndo:(bY L r).Nodup:=nd.filter _;unfold pk;rw[GJ _ _ ndo,cS,GW,ZaA];refine CJ ndo λg v=>?_
 rw[UO,GE];by_cases t:Tree (λh=>tow es (g h)) L r
 .rw[if_pos t,if_pos ((CK nd hr cl v).mpr t)]
 .rw[if_neg t,if_neg λz=>t ((CK nd hr cl v).mp z)]
def uZ:∀{hs:List Nat} {acc:List (List Nat)} {q:List Nat},q∈hs.foldl (jy es) acc->∃a∈acc,∃ks:List Nat,q=a++ks/\ks.map (fro es)=hs/\∀k∈ks,k<es.length
 |[],acc,q,h=>⟨q,h,[],(Up q).symm,rfl,λk hk=>by cases hk⟩
 |x :: hs,acc,q,h=>by
  obtain⟨a,ha,ks,e1,e2,e3⟩:=uZ (hs:=hs) (acc:=jy es acc x) h;obtain⟨a0,ha0,hm⟩:=ZaX.mp ha;obtain⟨k,hk,rfl⟩:=RO.mp hm;obtain⟨m1,m2⟩:=SG.mp hk;refine⟨a0,ha0,k :: ks,by rw[e1,Tf];rfl,by rw[Sy,e2,show fro es k=x by simpa using m2],λj hj=>?_⟩;rcases RW.mp hj with rfl|hj
  .exact Sr.mp m1
  .exact e3 j hj
end
abbrev Sml(D M:Nat)(x:Rat):Prop:=∃m:Int,x*((D:Int):Rat)=(m:Rat)/\m.natAbs<=M
def Sml.add(a:Sml D M x)(b:Sml D N y):Sml D (M+N) (x+y):=by
 obtain⟨m,e,l⟩:=a;obtain⟨n,f,k⟩:=b;refine⟨m+n,by rw[Rat.add_mul,e,f,Rat.intCast_add],?_⟩;exact RN (Yn m n) (Nat.add_le_add l k)
def Sml.mul(a:Sml D M x)(b:Sml E N y):Sml (D*E) (M*N) (x*y):=by
 obtain⟨m,e,l⟩:=a;obtain⟨n,f,k⟩:=b;refine⟨m*n,?_,by rw[SL];exact SE l k⟩;rw[VG,<- e,<- f,Th,VG]
 grind
def Sml.up{E N:Nat}(a:Sml D M x)(h:M*E<=N):Sml (D*E) N x:=by
 obtain⟨m,e,l⟩:=a;refine⟨m*(E:Int),by rw[VG,<- e,Th,VG,SV],?_⟩;rw[SL];exact RN (Sv _ l) h
def Sml.zero(D M:Nat):Sml D M 0:=⟨0,by rw[Rat.zero_mul];rfl,SD _⟩
def Sml.one{D M:Nat}(h:D<=M):Sml D M 1:=⟨(D:Int),WJ _,h⟩
def Sml.bits(a:Sml D M x)(d0:0<D):x.num.natAbs<=M/\x.den<=D:=by
 obtain⟨m,e,l⟩:=a
 have dn:((D:Int):Rat)≠0:=by
  intro z
  have:=Y4.mp (show(((D:Int):Int):Rat)=((0:Int):Rat) from z)
  lia
 have ex:x=Sc m (D:Int):=by
  rw[VQ,<- e,Rat.mul_div_cancel dn]
 have L:=Gd.Ba (t:=m) (b:=(D:Int)) (d:=Gd.gd m (D:Int)) (by lia) (.inl ⟨rfl,by lia⟩);have A:=Gd.Bc (t:=m) (b:=(D:Int)) (d:=Gd.gd m (D:Int)) (by lia) (.inl ⟨rfl,by lia⟩);obtain⟨e1,e2⟩:=hX (by lia) L;rw[e1,e2,<- ex] at A;exact⟨RN A.1 l,by have:=A.2;lia⟩
abbrev gc(ts:List Tn)(k:Nat):Rat:=match ts[k]? with
 |some t=>Sc t.q t.d
 |none=>1
abbrev Pd:List Tn->Nat
 |[]=>1
 |t :: ts=>t.d.natAbs*Pd ts
abbrev cy(ts:List Tn):Prop:=∀t∈ts,gL t.q t.d
def jY:∀{ts:List Tn},cy ts->0<Pd ts
 |[],_=>Vk
 |t :: ts,h=>by
  have:=(h t Ru).2.1
  exact Sq (by lia) (jY λx hx=>h x (RA _ hx))
def K1:∀{ts:List Tn},cy ts->Pd ts<=(10 ^ 10) ^ ts.length
 |[],_=>RB _
 |t :: ts,h=>by
  have h1:=(h t Ru).2.1;have h2:=(h t Ru).2.2.2.2;show t.d.natAbs*Pd ts<=(10 ^ 10) ^ (ts.length+1);rw[TU,Tu];exact SE (K1 λx hx=>h x (RA _ hx)) (by lia)
def Hs:∀{ts:List Tn} {t:Tn},t∈ts->t.d.natAbs∣Pd ts
 |x :: ts,t,m=>by
  rcases RW.mp m with rfl|m
  .exact Yo _ _
  .exact ZO (Hs m) (Nat.dvd_mul_left _ _)
def GO(pa:cy ts){k:Nat}(hk:k<ts.length):Sml (Pd ts) (10 ^ 10*Pd ts) (gc ts k):=by
 obtain⟨t,ht⟩:∃t,ts[k]?=some t:=⟨_,Rn hk⟩
 have mt:=Ry ht;obtain⟨q0,d0,_,ql,_⟩:=pa t mt;obtain⟨c,hc⟩:=Hs mt;have e:gc ts k=Sc t.q t.d:=by unfold gc;rw[ht]
 have dn:((t.d:Int):Rat)≠0:=by
  intro z
  have:=Y4.mp (show((t.d:Int):Rat)=((0:Int):Rat) from z)
  lia
 refine⟨t.q*(c:Int),?_,?_⟩
 .have e2:((Pd ts:Nat):Int)=t.d*(c:Int):=by
   rw[hc,Th];congr 1;lia
  rw[e,e2,VQ,VG,VG,<- SV,Z6 dn]
 .rw[SL,hc];have h1:1<=t.d.natAbs:=by lia
  refine SE (by lia) ?_;show c<=t.d.natAbs*c;exact TL _ h1
def Aq{ks:List Nat}{i k:Nat}(e:ks[i]?=some k):pq pc (ks.take (i+1))=pq pc (ks.take i)*pc k:=by
 unfold pq;rw[RP,e,Ug];rfl
def GD{ts:List Tn}(pa:cy ts){ks:List Nat}(hk:∀k∈ks,k<ts.length):∀i,i<=ks.length->Sml (Pd ts ^ i) ((10 ^ 10*Pd ts) ^ i) (pq (gc ts) (ks.take i))
 |0,_=>by
  rw[V8,V8];exact Sml.one (RB _)
 |i+1,h=>by
  obtain⟨k,ek⟩:∃k,ks[i]?=some k:=⟨_,Rn h⟩
  rw[Aq ek,TU,TU];exact(GD pa hk i (by lia)).mul (GO pa (hk k (Ry ek)))
abbrev DD(ts:List Tn):Nat:=Pd ts ^ 7
abbrev MM(ts:List Tn):Nat:=(10 ^ 10*Pd ts) ^ 7
def GG(pa:cy ts){ks:List Nat}(hk:∀k∈ks,k<ts.length)(l7:ks.length<=7):Sml (DD ts) (MM ts) (pq (gc ts) ks):=by
 have h:=GD pa hk ks.length (RB _);rw[SZ] at h
 have:=h.up (E:=Pd ts ^ (7-ks.length)) (N:=MM ts) (by
  unfold MM
  rw[show 7=ks.length+(7-ks.length) by lia,Vj,show ks.length+(7-ks.length)-ks.length=7-ks.length by lia]
  exact Sh _ (Vq (TL _ (by decide)) _))
 rw[<- Vj,show ks.length+(7-ks.length)=7 by lia] at this;exact this
def e_(pa:cy ts)(t8:ts.length<=8)(h:Sml D M x)(d0:0<D)(hD:D<=Pd ts ^ 8)(hM:M<=10000*(10 ^ 10*Pd ts) ^ 8):Bq 3900 x:=by
 obtain⟨h1,h2⟩:=h.bits d0;have pl:Pd ts<=10 ^ 80:=RN (K1 pa) (by rw[<- Zo];exact RJ (by decide) (by lia));have p8:Pd ts ^ 8<=(10 ^ 80) ^ 8:=Vq pl 8;have q8:(10 ^ 10*Pd ts) ^ 8<=(10 ^ 10*10 ^ 80) ^ 8:=Vq (Sh _ pl) 8;have z1:(10 ^ 80) ^ 8<2 ^ 3900:=by decide
 have z2:10000*(10 ^ 10*10 ^ 80) ^ 8<2 ^ 3900:=by decide
 exact⟨RS (RN h1 (RN hM (Sh _ q8))) z2,RS (RN h2 (RN hD p8)) z1⟩
def Ar(pa:cy ts)(t8:ts.length<=8){ks:List Nat}(hk:∀k∈ks,k<ts.length)(l7:ks.length<=7)(i:Nat):Bq 3900 (pq (gc ts) (ks.take i)):=by
 have h:=GG (ks:=ks.take i) pa (λk hk'=>hk k (T0 hk')) (by rw[RT];lia);have p1:=jY pa;refine e_ pa t8 h (To p1) (RJ p1 (by decide)) ?_;unfold MM;exact RN (RJ (Sq (by decide) p1) (by decide)) (TL _ (by decide))
def JJ(pa:cy ts)(t8:ts.length<=8){k:Nat}(hk:k<ts.length):Bq 3900 (gc ts k):=by
 have p1:=jY pa;refine e_ pa t8 (GO pa hk) p1 (XH (by decide) _) ?_;exact RN (XH (by decide) _) (TL _ (by decide))
def MH(pa:cy ts){k:Nat}{t:Tn}(ht:ts[k]?=some t):dI [t.q,t.d]=dQ (gc ts k):=by
 obtain⟨_,d0,g,_,_⟩:=pa t (Ry ht);obtain⟨e1,e2⟩:=hX (t:=t.q) (b:=t.d) (q:=t.q) (d:=t.d) (by lia) ⟨d0,g,rfl⟩;unfold dQ;have e:gc ts k=Sc t.q t.d:=by unfold gc;rw[ht]
 rw[e,<- e1,<- e2]
abbrev zm(K:Fg):Sp:=λvs H Q _=>∃(c b:Addr) (xs:List V) (ts:List Tn) (ks:List Nat),vs=[.ref c,.ref b]/\H c=some (.tup xs)/\RzL K H xs (ts.map dT)/\H b=some (.lst ((ni ks).map V.int))/\(∀k∈ks,k<ts.length)/\cy ts/\ts.length<=8/\ks.length<=7/\∀(v:V) (H':Hp),Same H H'->QV K H' v (pq (gc ts) ks)->Q v H'
abbrev yn(K:Fg)(oq:Addr):TS:=(am (av (tC (.ref oq)) (al 2))
 (am (a9 (cg K (aa 1)) (al 3)
 (av (aw (mB K) [] E0 (ae (aa 2) (ae (ao (aG K) (ao (aG K) (aa 0) (aa 3)) (tC (.int 2))) ai))) (al 2)))
 (aE (aa 2))))
def IJ{K:Fg}(one:∀H:Hp,SqT K H oq [.int 1,.int 1]){vs:List V}{H:Hp}{N:List Str}(hN:N.length=4)(h:zm K vs H Q E):yn K oq (ends Q) (L2.start N vs) H:=by
 obtain⟨c,b,xs,ts,ks,rfl,hc,rx,hb,hk,pa,t8,l7,k⟩:=h;rw[L2.aO hN];walk_at "t";have lx:xs.length=ts.length:=by rw[rx.length,Rm]
 unfold yn;cbv;refine iO (SqL.of hb) ?_;refine bz (xs:=(ni ks).map V.int) (λi σ H2=>∃(v:V) (u3:Option V),σ=[⇑c,⇑b,some v,u3]/\Same H H2/\QV K H2 v (pq (gc ts) (ks.take i))) ⟨.ref oq,none,rfl,Same.refl _,oq,rfl,one H⟩ (by rintro i σ H2 _ ⟨_,_,_,S,_⟩;exact SqL.of (S _ _ hb)) ?_ ?_
 .rintro i x σ H2 hx ⟨v,u3,rfl,S2,qv⟩;obtain⟨m,em,rfl⟩:=qr hx;have lm:=hk m (Ry em);obtain⟨t,ht⟩:∃t,ts[m]?=some t:=⟨_,Rn lm⟩
  obtain⟨z,ez⟩:∃z,xs[m]?=some z:=⟨_,Rn (by lia)⟩
  obtain⟨d,g1,g2⟩:=rx.get ez;rw[Rt,ht] at g1;cases g1;obtain⟨pt_,z1,z2,z3,rfl,hpt,_,_,q3⟩:=oJ (g2.same S2);rw[MH pa ht] at q3;cbv;refine aF (SqT.of (S2 _ _ hc)) (v:=.ref pt_) (aK ez) ?_;cbv;refine aF (SqT.of hpt) (v:=z3) rfl ?_;cbv;refine⟨v,z3,_,_,rfl,qv,QV.of q3,Ar pa t8 hk l7 i,JJ pa t8 lm,λp H3 S3 r3=>?_⟩;cbv;refine⟨_,_,rfl,S2.trans S3,?_⟩;rw[Aq em];exact QV.of r3
 .rintro σ H2 ⟨v,u3,rfl,S2,qv⟩;rw[dH,SZ] at qv;cbv;exact k v H2 S2 qv
def vK{α:Type}{p q:α->Bool}:∀l:List α,(∀x∈l,p x=true->q x=false)->(l.filter p).length+(l.filter q).length=(l.filter λx=>p x || q x).length
 |[],_=>rfl
 |a :: l,h=>by
  have ih:=vK l λx hx=>h x (RA _ hx)
  have ha:=h a Ru;cases e1:p a <;> cases e2:q a
  .rw[Tl (by rw[e1];decide),Tl (by rw[e2];decide),Tl (by rw[e1,e2];decide)];exact ih
  .rw[Tl (by rw[e1];decide),TH e2,TH (by rw[e1,e2];rfl),Sn,Sn];lia
  .rw[TH e1,Tl (by rw[e2];decide),TH (by rw[e1];rfl),Sn,Sn];lia
  .rw[ha e1] at e2;cases e2
abbrev sy(es:List (Nat×Nat)):List Nat->Nat
 |[]=>0
 |h :: hs=>(frm es h).length+sy es hs
def y9(es:List (Nat×Nat)):∀{hs:List Nat},hs.Nodup->sy es hs<=((RQ es.length).filter λk=>hs.contains (fro es k)).length
 |[],_=>SD _
 |h :: hs,nd=>by
  obtain⟨n1,n2⟩:=SJ.mp nd;have ih:=y9 es n2
  have e:=vK (p:=λk=>fro es k == h) (q:=λk=>hs.contains (fro es k)) (RQ es.length) λk _ hk=>by
   have:fro es k=h:=by simpa using hk
   rw[this];simpa using n1
  have e2:(λk=>(fro es k == h) || hs.contains (fro es k))=λk=>(h :: hs).contains (fro es k):=funext λk=>by rw[ZX]
  rw[e2] at e;show(frm es h).length+sy es hs<=_;unfold frm;lia
def Ax{es:List (Nat×Nat)}:∀(hs:List Nat) (acc:List (List Nat)),(hs.foldl (jy es) acc).length<=acc.length*2 ^ sy es hs
 |[],acc=>by show acc.length<=acc.length*2 ^ 0;lia
 |h :: hs,acc=>by
  refine RN (Ax hs (jy es acc h)) ?_
  have l1:(jy es acc h).length=acc.length*(frm es h).length:=by
   unfold jy;rw[List.length_flatMap];clear Ax
   induction acc with
   |nil=>rw[XM,List.sum_nil,VF,XQ]
   |cons a acc ih=>rw[Sy,List.sum_cons,ih,Rm,Sn,Vz,YN]
  rw[l1,show sy es (h :: hs)=(frm es h).length+sy es hs from rfl,Vj,<- SA];exact Sv _ (Sh _ (UC Nat.lt_two_pow_self))
def u_{es:List (Nat×Nat)}(e8:es.length<=8){hs:List Nat}(nd:hs.Nodup)(i:Nat):(pk es (hs.take i)).length<=900:=by
 have h1:=Ax (es:=es) (hs.take i) [[]];have h2:=y9 es (nd.sublist (WP i hs));have h3:=TC (λk=>(hs.take i).contains (fro es k)) (RQ es.length);rw[R5] at h3;have h4:2 ^ sy es (hs.take i)<=2 ^ 8:=RJ (by decide) (by lia);have h5:[([]:List Nat)].length=1:=rfl;unfold pk;rw[h5] at h1;lia
open Classical in
abbrev wq (es:List (Nat×Nat)) (ts:List Tn) (r:Nat) (q:List Nat):Rat:=if TD (prs es q r) r then pq (gc ts) q else 0
def AY{α:Type}{l:List α}{f:α->Rat}{j:Nat}{x:α}(e:l[j]?=some x):ls (l.take (j+1)) f=ls (l.take j) f+f x:=by
 rw[RP,e,A_];show _+(f x+0)=_;rw[ZaA]
def xJ{es:List (Nat×Nat)}{ts:List Tn}{r:Nat}(pa:cy ts):∀{l:List (List Nat)},(∀q∈l,(∀k∈q,k<ts.length)/\q.length<=7)->Sml (DD ts) (l.length*MM ts) (ls l (wq es ts r))
 |[],_=>Sml.zero _ _
 |q :: l,h=>by
  have h1:Sml (DD ts) (MM ts) (wq es ts r q):=by
   unfold wq;split
   .exact GG pa (h q Ru).1 (h q Ru).2
   .exact Sml.zero _ _
  rw[cS,Sn,Vz,YN];exact h1.add (xJ pa λx hx=>h x (RA _ hx))
def HD(pa:cy ts)(t8:ts.length<=8){l:List (List Nat)}(h:∀q∈l,(∀k∈q,k<ts.length)/\q.length<=7)(few:l.length<=900):Bq 3900 (ls l (wq es ts r)):=by
 have p1:=jY pa;refine e_ pa t8 (xJ pa h) (To p1) (RJ p1 (by decide)) ?_;unfold MM;exact SE (by lia) (RJ (Sq (by decide) p1) (by decide))
abbrev sE(K:Fg):Sp:=λvs H Q _=>∃(c p b:Addr) (ys xs:List V) (ts:List Tn) (es:List (Nat×Nat)) (L:List Nat) (r:Nat),vs=[.ref c,.ref p,.ref b,.int (r:Int)]/\H c=some (.tup ys)/\RzL K H ys (ts.map dT)/\H p=some (.lst xs)/\RzL K H xs (es.map dP)/\H b=some (.lst ((ni L).map V.int))/\es.length=ts.length/\ts.length<=8/\cy ts/\L.Nodup/\r∈L/\L.length<=8/\(∀k,k<es.length->(fro es k∈L↔tow es k∈L)) /\
 ∀(v:V) (H':Hp),Same H H'->QV K H' v (W es (gc ts) L r)->Q v H'
nonrec abbrev x9(K:Fg)(nq:Addr):TS:=(am (a9 (cg K (aw (sJ K) [] E0 (ae (aa 1) (ae (ig (cg K (aa 2)) 1 (al 0) (aP (ao GA (aa 0) (aa 4))) (aa 0)) ai)))) (al 5)
 (aS (tB (aw (zg K) [] E0 (ae (aa 1) (ae (aa 5) (ae (aa 3) ai)))))
 (av (aw (sH K) [] E0 (ae (aa 4) (ae (aw (Tr.zm K) [] E0 (ae (aa 0) (ae (aa 5) ai))) ai))) (al 4))
 a7))
 (aE (aa 4)))
abbrev rL(K:Fg)(nq:Addr):TS:=(am (av (tC (.ref nq)) (al 4))
 (x9 K nq))
def Em{K:Fg}(zero:∀H:Hp,SqT K H nq [.int 0,.int 1]){vs:List V}{H:Hp}{N:List Str}(hN:N.length=6)(h:sE K vs H Q E):rL K nq (ends Q) (L2.start N vs) H:=by
 obtain⟨c,p,b,ys,xs,ts,es,L,r,rfl,hc,ry,hp,rx,hb,et,t8,pa,nd,hr,l8,cl,k⟩:=h;rw[L2.aO hN];walk_at "t";have ndo:(bY L r).Nodup:=nd.filter _;have lo:=nA nd hr;unfold rL;cbv;refine⟨b,rfl,⟨_,SqL.of hb⟩,?_⟩;refine xu (xs:=(ni L).map V.int) λD nD=>⟨λj H2=>AccZ K H D H2 ((bY (L.take j) r).map dN),AccZ.start (Same.refl _) nD,λj H2 _ A=>SqL.of (A.same _ _ hb),?_,?_⟩
 .intro j x H2 hx A us hu;obtain⟨u0,rfl⟩:∃u,us=[u]:=UV.mp hu;have lj:=(Rq.mp hx).1;obtain⟨h,eh,rfl⟩:=qr hx
  have er:bY (L.take (j+1)) r=bY (L.take j) r++[h].filter λx=>x != r:=by
   unfold bY;rw[RP,eh,VD];rfl
  have lr:(bY (L.take j) r).length<=8:=RN (TC _ _) (by rw[RT];lia);cbv;refine⟨⟨[↥(h:Int)],rfl,rfl⟩,?_⟩;cbv;refine im (λz=>?_) (λz=>?_)
  .have z':h≠r:=λe=>z (by rw[e])
   cbv;refine a_ lj ?_;refine A.cF (d:=dN h) (.int _) (aq (by rw[Rm];lia)) λH4 A4=>?_
   show AccZ K H D H4 ((bY (L.take (j+1)) r).map dN);rw[er,TH (by simpa using z'),Rx];exact A4
  .have z':h=r:=by lia
   refine iY lj ?_;show AccZ K H D H2 ((bY (L.take (j+1)) r).map dN);rw[er,Tl (by simpa using z')];simpa using A
 intro H2 A;rw[dH,SZ] at A;have hD:H2 D=some (.lst ((ni (bY L r)).map V.int)):=AccZ.ints (by unfold ni;rw[Tv];exact A);have S2:=A.same;cbv;refine⟨p,D,xs,es,bY L r,rfl,S2 _ _ hp,rx.same S2,by lia,hD,by lia,u_ (by lia) ndo,λq H3 A3=>?_⟩;have few:=u_ (es:=es) (by lia) ndo (bY L r).length;rw[SZ] at few;obtain⟨zs,hz,rz⟩:=A3.at_;have lz:zs.length=(pk es (bY L r)).length:=by rw[rz.length,Rm]
 have S3:=S2.trans A3.same
 have pkm:∀q∈pk es (bY L r),q.map (fro es)=bY L r/\∀k∈q,k<es.length:=λq hq=>by
  obtain⟨a,ha,ks,e1,e2,e3⟩:=uZ hq;rw[RL.mp ha,UO] at e1;rw[e1];exact⟨e2,e3⟩
 have pk7:∀q∈pk es (bY L r),(∀k∈q,k<ts.length)/\q.length<=7:=λq hq=>by
  obtain⟨e2,e3⟩:=pkm q hq
  have:=congrArg Ue e2
  rw[Rm] at this;exact⟨λk hk=>by have:=e3 k hk;lia,by lia⟩
 have fin:ls (pk es (bY L r)) (wq es ts r)=W es (gc ts) L r:=KY nd hr cl;rw[<- fin] at k;generalize pk es (bY L r)=P at rz lz few pkm pk7 k;refine iO (SqL.of hz) ?_;refine bz (xs:=zs) (λj σ H4=>∃(v:V) (u5:Option V),σ=[⇑c,⇑p,⇑b,↥(r:Int),some v,u5]/\Same H3 H4/\QV K H4 v (ls (P.take j) (wq es ts r))) ⟨.ref nq,none,rfl,Same.refl _,nq,rfl,zero H3⟩ (by rintro j σ H4 _ ⟨_,_,_,S,_⟩;exact SqL.of (S _ _ hz)) ?_ ?_
 .rintro j x σ H4 hx ⟨v,u5,rfl,S4,qv⟩;have lj:=(Rq.mp hx).1;obtain⟨d,g1,g2⟩:=rz.get hx;rw[Rt] at g1;obtain⟨w,hw,rfl⟩:=RD.mp g1;obtain⟨a,rfl,_,ha⟩:=xq g2;have mw:=Ry hw;obtain⟨m1,m2⟩:=pkm w mw;obtain⟨m3,m4⟩:=pk7 w mw;have S04:=S3.trans S4
  have keys:(prs es w r).map (·.1)=r :: bY L r:=by
   unfold prs;rw[Sy,Tv,<- m1];rfl
  cbv;refine⟨p,a,xs,es,w,r,rfl,S04 _ _ hp,rx.same S04,S4 _ _ ha,by lia,m2,?_,?_,λtd H5 S5=>?_,λtd H5 S5=>?_⟩
  .rw[keys,SJ];exact⟨JK,ndo⟩
  .intro e he;rw[keys]
   have inL:∀h,h∈L->h∈r :: bY L r:=λh hh=>by
    by_cases q:h=r
    .rw[q];exact Ru
    .exact RA _ (fY.mpr ⟨hh,q⟩)
   rcases RW.mp (show e∈(r,r) :: w.map λk=>(fro es k,tow es k) from he) with rfl|he
   .exact Ru
   .obtain⟨k,hk,rfl⟩:=RO.mp he;refine inL _ ((cl k (m2 k hk)).mp ?_)
    have:fro es k∈w.map (fro es):=RO.mpr ⟨k,hk,rfl⟩
    rw[m1] at this;exact(fY.mp this).1
  .cbv;refine⟨c,a,ys,ts,w,rfl,S5 _ _ (S04 _ _ hc),ry.same (S04.trans S5),S5 _ _ (S4 _ _ ha),m3,pa,t8,m4,λv2 H6 S6 qv2=>?_⟩;cbv;have fs:∀q∈P.take j,(∀k∈q,k<ts.length)/\q.length<=7:=λq hq=>pk7 q (T0 hq)
   refine⟨v,v2,_,_,rfl,(qv.same S5).same S6,qv2,HD pa t8 fs (by rw[RT];lia),by have:=Ar pa t8 m3 m4 w.length;rw[SZ] at this;exact this,λp2 H7 S7 r7=>?_⟩;cbv;refine⟨_,_,rfl,S4.trans (S5.trans (S6.trans S7)),?_⟩;rw[AY hw,show wq es ts r w=pq (gc ts) w from if_pos td];exact QV.of r7
  .cbv;refine⟨_,_,rfl,S4.trans S5,?_⟩;rw[AY hw,show wq es ts r w=0 from if_neg td,ZaA];exact qv.same S5
 .rintro σ H4 ⟨v,u5,rfl,S4,qv⟩;rw[lz,SZ] at qv;cbv;exact k v H4 (S3.trans S4) qv
open PySem L2 Fr G1 Sm Vs G2 Rk Sz Sf Rw Ti Lo
def bj{h:Nat}:h∈aN f v↔h<f.length/\Lo.at_ f h=v:=by
 unfold aN;rw[SG,Sr,decide_eq_true_eq]
def cH(f:List Nat)(v:Nat):(aN f v).Nodup:=Xh.filter _
def fV:(aN f v).length<=f.length:=by
 unfold aN;exact RN (TC _ _) (by rw[R5];exact RB _)
def Ob{es:List (Nat×Nat)}{k:Nat}(h:k<es.length):(fro es k,tow es k)∈es:=by
 unfold fro tow;rw[Rr,Rn h];exact Td h
def gq(F:FI n es es f)(ok:OS n es)(v k:Nat)(hk:k<es.length):fro es k∈aN f v↔tow es k∈aN f v:=by
 have m:=Ob hk;have e:=F.one _ m;have o:=ok _ m;have o1:fro es k<n:=o.1;have o2:tow es k<n:=o.2;have e':Lo.at_ f (fro es k)=Lo.at_ f (tow es k):=e;rw[bj,bj,F.len,e'];constructor
 .exact λz=>⟨o2,z.2⟩
 .exact λz=>⟨o1,z.2⟩
def Mp{L:List Nat}(l:List Nat)(nd:l.Nodup)(s:∀x∈l,x∈L):l.length<=L.length:=b9 nd s
abbrev Wt (ts:List Tn) (h:Nat):Rat:=W (aD ts) (gc ts) (aN (bO (a8 ts).length (aD ts)) (Lo.at_ (bO (a8 ts).length (aD ts)) h)) h
abbrev kv(dv:List (Nat×V)):List (ba×V):=dv.map λq=>((.inl (q.1:Int):ba),q.2)
def Bj:∀{dv:List (Nat×V)} {h:Nat},h∉dv.map (·.1)->bE (kv dv) (.inl (h:Int))=none
 |[],h,_=>rfl
 |q :: dv,h,n=>by
  show bE (((.inl (q.1:Int):ba),q.2) :: kv dv) (.inl (h:Int))=_;rw[bi λz=>n (by have:=WE z;rw[Sy,show q.1=h by lia];exact Ru)];exact Bj λm=>n (RA _ m)
def Ng{dv:List (Nat×V)}{h:Nat}(n:h∉dv.map (·.1)):b5 (kv dv) (.inl (h:Int)) v=kv (dv++[(h,v)]):=by
 unfold b5;rw[eY,Bj n];show kv dv++[_]=_;unfold kv;rw[Rx];rfl
def GY:∀{dv:List (Nat×V)} {h:Nat},h∈dv.map (·.1)->∃v,bE (kv dv) (.inl (h:Int))=some v/\(h,v)∈dv
 |[],h,m=>by cases m
 |q :: dv,h,m=>by
  by_cases e:q.1=h
  .refine⟨q.2,?_,by rw[<- e];exact Ru⟩;show bE (((.inl (q.1:Int):ba),q.2) :: kv dv) (.inl (h:Int))=_;rw[bq (by rw[e])]
  .obtain⟨v,h1,h2⟩:=GY (dv:=dv) (h:=h) ((RW.mp m).resolve_left λz=>e z.symm);refine⟨v,?_,RA _ h2⟩;show bE (((.inl (q.1:Int):ba),q.2) :: kv dv) (.inl (h:Int))=_;rw[bi λz=>e (by have:=WE z;lia)];exact h1
def QV.put{K:Fg}{de:List (ba×V)}(h:QV K H v x)(hd:H rd=some (.dK de)):QV K (upd H rd o) v x:=by
 obtain⟨a,e,ha⟩:=h;refine⟨a,e,?_⟩;rcases ha with(ha|⟨u,ha⟩)|ha
 .exact .inl (.inl (by rw[aC λz=>by rw[z,hd] at ha;cases ha];exact ha))
 .exact .inl (.inr ⟨u,by rw[aC λz=>by rw[z,hd] at ha;cases ha];exact ha⟩)
 .exact .inr ha
abbrev Kp(H H':Hp):Prop:=∀c o,H c=some o->(∀de,o≠.dK de)->H' c=some o
def Kp.on(k:Kp H H1)(S:Same H1 H2):Kp H H2:=λc o e n=>S _ _ (k c o e n)
def Kp.put{de:List (ba×V)}(k:Kp H H1)(hd:H1 rd=some (.dK de)):Kp H (upd H1 rd o):=λc o' e n=>by
 have:=k c o' e n
 rw[aC λz=>by rw[z,hd] at this;exact n de (RY this).symm];exact this
def Kp.lst{H H1:Hp}(k:Kp H H1){c:Addr}{xs:List V}(h:H c=some (.lst xs)):H1 c=some (.lst xs):=k _ _ h λ_ z=>by cases z
def Kp.tup{H H1:Hp}(k:Kp H H1){c:Addr}{xs:List V}(h:H c=some (.tup xs)):H1 c=some (.tup xs):=k _ _ h λ_ z=>by cases z
def Kp.rz{K:Fg}(k:Kp H H1)(h:RzL K H xs ds):RzL K H1 xs ds:=h.agr ⟨λ_ _ e=>k.tup e,λ_ _ z=>z.elim⟩
structure DI (K:Fg) (ts:List Tn) (H H3:Hp) (rd:Addr) (ks:List Nat) (H4:Hp):Prop where
 same:Same H H4
 keep:Kp H3 H4
 dict:∃dv:List (Nat×V),H4 rd=some (.dK (kv dv))/\dv.map (·.1)=ks/\∀q∈dv,QV K H4 q.2 (Wt ts q.1)
abbrev sD(K:Fg):Sp:=λvs H Q _=>∃(v:V) (ws:List Str) (ts:List Tn),vs=[v]/\Rz K H v (dV ws ts)/\ts.length<=8/\(a8 ts).length<=8/\cy ts/\∀(p:Addr) (H':Hp) (xs:List V),H p=none->Same H H'->H' p=some (.lst xs)->xs.length=(a8 ts).length->(∀i x,xs[i]?=some x->QV K H' x (Wt ts i))->Q (.ref p) H'
nonrec abbrev x8(K:Fg):TS:=(am (a9 (cg K (aw (uL K) [] E0 (ae (aa 0) ai))) (al 3)
 (a9 (cg K (aa 3)) (al 4)
 (pO (aa 2) (aa 4) (aw (sE K) [] E0 (ae (ao (aG K) (aa 0) (tC (.int 1))) (ae (aa 1) (ae (aa 3) (ae (aa 4) ai))))))))
 (aE (fA (b_ (ae (bU Mg (ae (aa 2) ai)) ai)) (sv (aa 3) (aa 0)))))
abbrev rK(K:Fg):TS:=(am (av (aw (je K) [] E0 (ae (aa 0) ai)) (al 1))
 (am (av Gx (al 2))
 (x8 K)))
def El{K:Fg}:ρ 5 (sD K) (rK K):=by
 fail "R";obtain⟨v,ws,ts,rfl,rv,t8,h8,pa,k⟩:=h;have rv0:=rv;obtain⟨a,v1,v2,rfl,ha,_,r2⟩:=t5 rv;obtain⟨c,ys,rfl,hc,ry⟩:=r2.cr;rw[L2.aO hN];walk_at "t";have ok:=cV ts;have le:(aD ts).length=ts.length:=by unfold aD;rw[Rm]
 have F:=c_ ok;unfold rK;cbv;refine⟨.ref a,ws,ts,rfl,rv0,by lia,λpe H1 A1=>?_⟩;obtain⟨xs,hpe,rx⟩:=A1.at_;have S1:=A1.same;cbv;intro rd nr;have S2:=S1.trans (aj nr (.dK []));have d2:upd H1 rd (.dK []) rd=some (.dK (kv [])):=ag;have hpe2:=aj nr (.dK []) _ _ hpe;have rx2:=rx.same (aj nr (.dK []));have nrH:H rd=none:=S1.free nr;generalize upd H1 rd (.dK [])=H2 at S2 d2 hpe2 rx2 ⊢;cbv;refine⟨.ref a,ws,ts,rfl,rv0.same S2,t8,h8,λlp H3 S3 r3=>?_⟩;obtain⟨lp',zs,elp,_,hl,rz⟩:=Rp.kT r3;cases elp;unfold cY at rz;have lz:zs.length=(gB (bO (a8 ts).length (aD ts))).length:=by rw[rz.length,Rm,Rm]
 have hW:∀h,Wt ts h=W (aD ts) (gc ts) (aN (bO (a8 ts).length (aD ts)) (Lo.at_ (bO (a8 ts).length (aD ts)) h)) h:=λ_=>rfl
 generalize bO (a8 ts).length (aD ts)=f at F rz lz hW;generalize (a8 ts).length=n at F ok h8 k;have fl:=F.len;have hpe3:=S3 _ _ hpe2;have rx3:=rx2.same S3;have hc3:=S3 _ _ (S2 _ _ hc);have ry3:=(ry.same S2).same S3;have ha3:=S3 _ _ (S2 _ _ ha)
 have lo:∀i L,(gB f)[i]?=some L->∃v,((RQ f.length).filter λv=>Lo.at_ f v=v)[i]?=some v/\L=aN f v:=λi L e=>by
  unfold gB at e;rw[Rt] at e;obtain⟨v,h1,h2⟩:=RD.mp e;exact⟨v,h1,h2.symm⟩
 have vnd:((RQ f.length).filter λv=>Lo.at_ f v=v).Nodup:=Xh.filter _;generalize hV:(RQ f.length).filter (λv=>Lo.at_ f v=v)=Vs at lo vnd;have D0:DI K ts H H3 rd [] H3:=⟨S2.trans S3,λ_ _ e _=>e,[],S3 _ _ d2,rfl,λq hq=>by cases hq⟩
 let Dn:Nat->List Nat->Prop:=λi ks=>ks.Nodup/\∀h,h∈ks↔h<n/\∃m,m<i/\Vs[m]?=some (Lo.at_ f h)
 have Dn0:Dn 0 []:=⟨Uu,λh=>⟨(λz=>by cases z),(by rintro ⟨_,m,hm,_⟩;exact absurd hm (T_ _))⟩⟩
 refine iO (SqL.of hl) ?_;refine bz (xs:=zs) (λi σ H4=>∃(u3 u4:Option V) (ks:List Nat),σ=[⇑a,⇑pe,⇑rd,u3,u4]/\DI K ts H H3 rd ks H4/\Dn i ks) ⟨none,none,[],rfl,D0,Dn0⟩ (by rintro i σ H4 _ ⟨_,_,_,_,D,_⟩;exact SqL.of (D.keep.lst hl)) ?_ ?_
 .rintro i x σ H4 hx ⟨u3,u4,ks,rfl,D,dn⟩;have li:=(Rq.mp hx).1;obtain⟨d,g1,g2⟩:=rz.get hx;rw[Rt,Rt] at g1;cases eL:(gB f)[i]? with
  |none=>rw[eL] at g1;cases g1
  |some L =>
   rw[eL] at g1;cases g1;obtain⟨b,rfl,_,hb⟩:=xq g2;obtain⟨w,ew,rfl⟩:=lo i L eL;have hb':H3 b=some (.lst ((ni (aN f w)).map V.int)):=hb;cbv;refine iO (SqL.of (D.keep.lst hb')) ?_;refine bz (xs:=(ni (aN f w)).map V.int) (λj σ H5=>∃(u4:Option V),σ=[⇑a,⇑pe,⇑rd,⇑b,u4]/\DI K ts H H3 rd (ks++(aN f w).take j) H5) ⟨u4,rfl,by simpa using D⟩ (by rintro j σ H5 _ ⟨_,_,D⟩;exact SqL.of (D.keep.lst hb')) ?_ ?_
   .rintro j x σ H5 hx5 ⟨u4,rfl,D5⟩;obtain⟨h,eh,rfl⟩:=qr hx5;have mh:=Ry eh;obtain⟨hn,ah⟩:=bj.mp mh
    have nk:h∉ks++(aN f w).take j:=by
     intro m;rcases RX.mp m with m|m
     .obtain⟨_,t,ht,et⟩:=(dn.2 h).mp m;rw[ah] at et;have l1:=(Rq.mp et)
      have l2:=(Rq.mp ew)
      have:=(V1 (h₀:=l1.1) (h₁:=l2.1) vnd).mp (by rw[l1.2,l2.2])
      lia
     .obtain⟨t,et⟩:=SN m
      have tj:t<j:=by
       have:=(Rq.mp et).1
       rw[RT] at this;lia
      rw[Yp tj] at et;have l1:=(Rq.mp et)
      have l2:=(Rq.mp eh)
      have:=(V1 (h₀:=l1.1) (h₁:=l2.1) (cH f w)).mp (by rw[l1.2,l2.2])
      lia
    cbv;refine aF (SqT.of (D5.keep.tup ha3)) (v:=.ref c) rfl ?_;cbv;refine⟨c,pe,b,ys,xs,ts,aD ts,aN f w,h,rfl,D5.keep.tup hc3,D5.keep.rz ry3,D5.keep.lst hpe3,D5.keep.rz rx3,D5.keep.lst hb',le,t8,pa,cH f w,mh,RN fV (by lia),gq F ok w,λv6 H6 S6 qv=>?_⟩;obtain⟨dv,q1,q2,q3⟩:=D5.dict;have d6:=S6 _ _ q1;have nkd:h∉dv.map (·.1):=by rw[q2];exact nk
    have ldv:dv.length<=100:=by
     have l1:(dv.map (·.1)).length<=(RQ n).length:=by
      refine b9 ?_ λx hx=>?_
      .rw[q2];refine VP.mpr ⟨dn.1,(cH f w).sublist (WP _ _),λx hx y hy e=>?_⟩;subst e;obtain⟨_,t,ht,et⟩:=(dn.2 x).mp hx
       have:=(bj.mp (T0 hy)).2
       rw[this] at et;have l1:=(Rq.mp et)
       have l2:=(Rq.mp ew)
       have:=(V1 (h₀:=l1.1) (h₁:=l2.1) vnd).mp (by rw[l1.2,l2.2])
       lia
      .rw[q2] at hx;rw[Sr];rcases RX.mp hx with hx|hx
       .exact((dn.2 x).mp hx).1
       .have:=(bj.mp (T0 hx)).1
        lia
     rw[Rm,R5] at l1;lia
    cbv;refine⟨rd,_,rfl,(DPut.k d6 (aq (by unfold kv;rw[Rm];lia)):DPut H6 rd (kV (.inl (h:Int))) _ _),?_⟩;refine⟨_,rfl,λe o q=>?_,(D5.keep.on S6).put d6,dv++[(h,v6)],?_,?_,λq hq=>?_⟩
    .rw[aC (au q nrH)];exact S6 _ _ (D5.same e o q)
    .rw[ag,Ng nkd]
    .rw[Rx,q2,RP,eh,Tf];rfl
    .rcases RX.mp hq with hq|hq
     .exact((q3 q hq).same S6).put d6
     .rw[RL.mp hq];refine QV.put ?_ d6;show QV K H6 v6 (Wt ts h);rw[hW h,ah];exact qv
   .rintro σ H5 ⟨u4,rfl,D5⟩;rw[dH,SZ] at D5;cbv;refine⟨_,_,_,rfl,D5,VP.mpr ⟨dn.1,cH f w,λx hx y hy e=>?_⟩,λh=>?_⟩
    .subst e;obtain⟨_,t,ht,et⟩:=(dn.2 x).mp hx;rw[(bj.mp hy).2] at et;have l1:=(Rq.mp et)
     have l2:=(Rq.mp ew)
     have:=(V1 (h₀:=l1.1) (h₁:=l2.1) vnd).mp (by rw[l1.2,l2.2])
     lia
    .rw[RX,dn.2 h,bj,fl];constructor
     .rintro(⟨q1,m,hm,em⟩|⟨q1,q2⟩)
      .exact⟨q1,m,by lia,em⟩
      .exact⟨q1,i,by lia,by rw[q2];exact ew⟩
     .rintro⟨q1,m,hm,em⟩;rcases YX m i with z|z
      .exact .inl ⟨q1,m,z,em⟩
      .rw[show m=i by lia,ew] at em;exact .inr ⟨q1,(RY em).symm⟩
 rintro σ H4 ⟨u3,u4,ks,rfl,D,dn⟩;obtain⟨dv,q1,q2,q3⟩:=D.dict
 have all:∀h,h∈ks↔h<n:=λh=>by
  rw[dn.2 h];refine⟨λz=>z.1,λz=>⟨z,?_⟩⟩
  have m:Lo.at_ f h∈Vs:=by
   rw[<- hV,SG,Sr,decide_eq_true_eq,fl];exact⟨RS (F.le h z) z,F.fix h z⟩
  obtain⟨t,et⟩:=SN m;refine⟨t,?_,et⟩
  have:=(Rq.mp et).1
  rw[lz];unfold gB;rw[Rm,hV];exact this
 have lk2:ks.length=n:=by
  have l1:=b9 (hs:=RQ n) dn.1 λx hx=>Sr.mpr ((all x).mp hx)
  have l2:=b9 (hs:=ks) (Xh (n:=n)) λx hx=>(all x).mpr (Sr.mp hx)
  rw[R5] at l1 l2;lia
 have ldv:(kv dv).length=n:=by
  unfold kv;rw[Rm,<- lk2,<- q2,Rm]
 cbv;refine⟨rd,_,rfl,q1,?_⟩;rw[ldv];refine⟨_,rfl,by lia,by lia,?_⟩;rw[Su];refine dh (n:=n) λE nE=>⟨λj H5=>∃us:List V,H5=upd H4 E (.lst us)/\us.length=j/\∀i x,us[i]?=some x->QV K H4 x (Wt ts i),⟨[],rfl,rfl,λi x e=>by cases e⟩,?_,?_⟩
 .rintro j H5 hj ⟨us,rfl,lu,qs⟩;rw[Vi];have q15:=aj nE (.lst us) _ _ q1;obtain⟨v,e1,e2⟩:=GY (dv:=dv) (h:=j) (by rw[q2];exact(all j).mpr hj);cbv;refine⟨rd,_,rfl,(by have:=(DGet.k q15:DGet _ rd (kV (.inl (j:Int))) _);rw[e1] at this;exact this),?_⟩;refine a_ hj ⟨us,ag,aq (by lia),us++[v],?_,by rw[RF,lu];rfl,λi x e=>?_⟩
  .funext z;unfold upd;by_cases w:z=E
   .rw[if_pos w,if_pos w]
   .rw[if_neg w,if_neg w,if_neg w]
  .rcases YX i us.length with z|z
   .rw[SO z] at e;exact qs i x e
   .have li:=(Rq.mp e).1;rw[RF,TQ] at li;have ei:i=us.length:=by lia
    subst ei;rw[Tj (RB _),Zas] at e;cases e;rw[lu];exact q3 _ e2
 .rintro H5 ⟨us,rfl,lu,qs⟩;exact k E _ us (D.same.free nE) (D.same.trans (aj nE _)) ag lu λi x e=>(qs i x e).same (aj nE _)
abbrev ii(K:Fg):Sp:=λvs H Q _=>∃t b:Int,vs=[.int t,.int b]/\0<b/\t.natAbs<2 ^ 8000/\b.natAbs<2 ^ 8000/\∀(p:Addr) (q d:Int) (H':Hp),Same H H'->Gd.Low t b q d->q.natAbs<=t.natAbs->d.natAbs<=b.natAbs->Rz K H' (.ref p) (dI [q,d])->Q (.ref p) H'
def Bd{K:Fg}{t b:Int}{Q:VK}(t0:0<t)(b0:0<b)(t1:t<=10000000000)(b1:b<=10000000000)(k:∀(p:Addr) (q d:Int) (H':Hp),Same H H'->gL q d->Rz K H' (.ref p) (dI [q,d])->Q (.ref p) H'):ii K [.int t,.int b] H Q E:=by
 have z:(10000000000:Nat)<2 ^ 8000:=R3 (show(10000000000:Nat)<2 ^ 40 by decide) (RJ (by decide) (by decide));refine⟨t,b,rfl,b0,RS (by lia) z,RS (by lia) z,λp q d H' S L m1 m2 r=>k p q d H' S ⟨?_,L.pos,L.low,?_,?_⟩ r⟩
 .have w:=L.worth
  have:=L.pos
  by_cases z:0<q
  .exact z
  .have h1:q*b<=0:=Int.mul_nonpos_of_nonpos_of_nonneg (by lia) (by lia);have h2:0<t*d:=Za9 t0 L.pos;lia
 .lia
 .have:=L.pos
  lia
nonrec abbrev ym(K:Fg):TS:=(aE (aw (ii K) [] E0 (ae (ao aW (tC (.int 1)) (ao aQ (aa 0) (ao EL (tC (.int 10)) (tC (.int 9))))) (ae (ao aW (tC (.int 1)) (ao aQ (ao bV (aa 0) (ao EL (tC (.int 10)) (tC (.int 9)))) (ao EL (tC (.int 10)) (tC (.int 9))))) ai))))
nonrec abbrev yl(K:Fg):TS:=(am (aS (aP (ao gk (aa 1) (tC (.int 1))))
 (aE (aw (ii K) [] E0 (ae (ao aW (tC (.int 1)) (ao aQ (aa 0) (tC (.int 6)))) (ae (ao aW (tC (.int 1)) (ao aQ (ao bV (aa 0) (tC (.int 6))) (tC (.int 5)))) ai))))
 a7)
 (ym K))
abbrev rS(K:Fg):TS:=(am (aS (aP (ao gk (aa 1) (tC (.int 0))))
 (aE (bg (ae (tC (.int 1)) (ae (tC (.int 1)) ai))))
 a7)
 (yl K))
def Et{K:Fg}:ρ 2 (jb K) (rS K):=by
 fail "R";obtain⟨a,b,rfl,k⟩:=h;rw[L2.aO hN];walk_at "t";unfold rS;cbv;refine aX (λz=>?_) (λz=>?_)
 .cbv;refine⟨aM,λp np=>?_⟩;exact k p 1 1 _ (aj np _) ⟨by decide,by decide,Qy,by decide,by decide⟩ (.tup ag (RpL.ints [1,1]))
 cbv;refine aX (λz=>?_) (λz=>?_)
 .cbv;exact Bd (by lia) (by lia) (by lia) (by lia) k
 .cbv;rw[p9];cbv;rw[p9];cbv;rw[p9];cbv;exact Bd (by lia) (by lia) (by lia) (by lia) k
def OB(pa:cy ts)(t8:ts.length<=8)(h8:(a8 ts).length<=8){h:Nat}(hh:h<(a8 ts).length):Sml (DD ts) (900*MM ts) (Wt ts h):=by
 have ok:=cV ts;have F:=c_ ok;have le:(aD ts).length=ts.length:=by unfold aD;rw[Rm]
 unfold Wt;generalize bO (a8 ts).length (aD ts)=f at F;have nd:=cH f (Lo.at_ f h);have hr:h∈aN f (Lo.at_ f h):=bj.mpr ⟨by rw[F.len];exact hh,rfl⟩;have ndo:(bY (aN f (Lo.at_ f h)) h).Nodup:=nd.filter _;have few:=u_ (es:=aD ts) (by lia) ndo (bY (aN f (Lo.at_ f h)) h).length;rw[SZ] at few;have lo:=nA nd hr;have l8:(aN f (Lo.at_ f h)).length<=8:=RN fV (by rw[F.len];exact h8);rw[<- KY nd hr (gq F ok _)]
 have s:=xJ (es:=aD ts) (r:=h) pa (l:=pk (aD ts) (bY (aN f (Lo.at_ f h)) h)) λq hq=>by
  obtain⟨a,ha,ks,e1,e2,e3⟩:=uZ hq;rw[RL.mp ha,UO] at e1
  have:=congrArg Ue e2
  rw[Rm] at this;rw[e1];exact⟨λk hk=>by have:=e3 k hk;lia,by lia⟩
 obtain⟨m,e,l⟩:=s;exact⟨m,e,RN l (Sv _ few)⟩
def L_(h:Rch es a b):∃n,Pn es n a b:=by
 induction h with
 |refl=>exact⟨0,rfl⟩
 |@step x y _ m ih =>
  obtain⟨n,p⟩:=ih;obtain⟨k,hk⟩:=SN m;obtain⟨e1,e2⟩:=BQ hk;have lk:=(Rq.mp hk).1
  have:=Pn.snoc (es:=es) (k:=k) lk (n:=n) (a:=a) (by rw[e1];exact p)
  rw[e2] at this;exact⟨n+1,this⟩
def Cz{es:List (Nat×Nat)}(bk:∀e∈es,Rch es e.2 e.1)(h:Rch (iT es) a b):Rch es a b:=by
 induction h with
 |refl=>exact .refl
 |@step x y _ m ih =>
  refine Rch.trans ih ?_;rcases RX.mp m with m|m
  .exact .step .refl m
  .obtain⟨e,he,z⟩:=RO.mp m;cases z;exact bk e he
def nR{x:Rat}:0<x.num↔0<x:=by
 constructor
 .intro h;have h1:=WZ.mp (Int.le_of_lt h);have h2:x≠0:=λe=>by rw[e] at h;exact absurd h (by decide)
  grind
 .intro h;have h1:=WZ.mpr (XO h)
  have h2:x.num≠0:=λe=>by
   have:=Zbh.mp e
   rw[this] at h;exact absurd h (by decide)
  lia
def MF(pa:cy ts){k:Nat}(hk:k<ts.length):0<gc ts k:=by
 obtain⟨t,ht⟩:∃t,ts[k]?=some t:=⟨_,Rn hk⟩
 obtain⟨q0,d0,g,_,_⟩:=pa t (Ry ht);obtain⟨e1,e2⟩:=hX (t:=t.q) (b:=t.d) (q:=t.q) (d:=t.d) (by lia) ⟨d0,g,rfl⟩;have e:gc ts k=Sc t.q t.d:=by unfold gc;rw[ht]
 rw[e];exact nR.mp (by rw[<- e1];exact q0)
def q_(pa:cy ts)(bk:∀e∈aD ts,Rch (aD ts) e.2 e.1){h:Nat}(hh:h<(a8 ts).length):0<(Wt ts h).num:=by
 have ok:=cV ts;have F:=c_ ok;have le:(aD ts).length=ts.length:=by unfold aD;rw[Rm]
 refine nR.mpr ?_;unfold Wt;generalize bO (a8 ts).length (aD ts)=f at F;have mh:h∈aN f (Lo.at_ f h):=bj.mpr ⟨by rw[F.len];exact hh,rfl⟩;refine QN (cH f _) mh (gq F ok _) Mp (λk hk=>MF pa (by lia)) λx hx=>?_
 obtain⟨x1,x2⟩:=bj.mp hx;rw[F.len] at x1;exact L_ (Cz bk ((F.tied x1 hh).mp x2))
end Tr
namespace Vs
open PySem L2 Fr G1 Sm
open Sz (Oj)
open PySem.W (Dat kqdOk)
abbrev sC(K:Fg)(C:Addr):Sp:=λvs H Q E=>∃(v:V) (n:Int) (ws:List Str) (ts:List Tn),vs=[v,.int n]/\Rz K H v (dV ws ts) /\
 (∀t z,ts[n.toNat]?=some t->0<=n->Rz K H z (dT t)->Q z H)/\(¬ (0<=n/\n<ts.length)->E (.ref C) none H)
nonrec abbrev x6(K:Fg)(E:XK)(x:Ex0.Ad):TS:=(am (aS (Gw (fR (tB (aw d_ [] E0 (ae (aa 1) ai)))) (fR (aP (uD Ph xE (tC (.int 0)) (aa 1) (bU (bZ K) (ae (aa 2) ai))))))
 (uC E x.c5 (tC (.str "a turning's number is from 0 on and below the count of turnings")))
 a7)
 (aE (ao (aG K) (aa 2) (aa 1))))
abbrev rJ(K:Fg)(E:XK)(x:Ex0.Ad):TS:=(am (av (ao (aG K) (aa 0) (tC (.int 1))) (al 2))
 (x6 K E x))
def Ek{K:Fg}{x:Ex0.Ad}{vs:List V}{N:List Str}(hN:N.length=3)(h:sC K x.c5 vs H Q E):rJ K E x (ends Q) (L2.start N vs) H:=by
 obtain⟨v,n,ws,ts,rfl,rv,k1,k2⟩:=h;obtain⟨a,v1,v2,rfl,ha,_,r2⟩:=t5 rv;obtain⟨b,xs,rfl,hb,rx⟩:=r2.cr;have lx:xs.length=ts.length:=by rw[rx.length,Rm]
 rw[L2.aO hN];walk_at "t";unfold rJ;cbv;refine aF (SqT.of ha) (v:=.ref b) rfl ?_;cbv;refine⟨n,rfl,?_⟩;cbv;have bad : ¬ (0<=n/\n<ts.length)->uC E x.c5 (tC (.str "a turning's number is from 0 on and below the count of turnings")) (ends Q) [⇑a,↥n,⇑b] H:=λz=>⟨rfl,k2 z⟩
 refine aX (λn0=>?_) (λn0=>?_)
 .cbv;refine jK (SqT.of hb) ?_;cbv;refine im (λn1=>?_) (λn1=>?_)
  .exact bad λz=>n1 (by rw[lx];exact z.2)
  .have hn:n.toNat<ts.length:=by lia
   have en:n=((n.toNat:Nat):Int):=by lia
   have ht:ts[n.toNat]?=some ts[n.toNat]:=Rn hn;have k3:=λz=>k1 _ z ht n0
   generalize ts[n.toNat]=t at ht k3;obtain⟨u,eu,ru⟩:=rx.get' (i:=n.toNat) (d:=dT t) (by rw[Rt,ht];rfl);cbv;refine aF (SqT.of hb) (v:=u) (by rw[en];exact aK eu) ?_;exact k3 u ru
 .cbv;exact bad λz=>n0 z.1
end Vs
namespace Rd
end Rd
namespace Wq
end Wq
namespace Nv
end Nv
namespace Lk
end Lk
namespace Mb
end Mb
namespace Lc
open PySem L2 Fr G1 Sm Vs G2 Rk Sz Sf Rw Ti Lo
open PySem.W (Dat kqdOk)
abbrev nV(n:Nat)(M:List (List Int)):List Int:=M.map λl=>if (n:Int)∈l then 1 else 0
abbrev sK(K:Fg):Sp:=λvs H Q _=>∃(n:Nat) (u:V) (M:List (List Int)),vs=[.int (n:Int),u]/\Rp K (λ_=>True) H u (dM M)/\M.length<=100/\∀(p:Addr) (H':Hp),AccZ K H p H' ((nV n M).map Ss)->Q (.ref p) H'
abbrev rT(K:Fg):TS:=(aE (fA (cg K (aa 1)) (LG (aP (ao (pR K false) (aa 1) (aa 0))) (tC (.int 1)) (tC (.int 0)))))
def vq{l:List Int}:Ss n∈l.map Ss↔n∈l:=by
 constructor
 .intro h;obtain⟨x,hx,e⟩:=RO.mp h;cases e;exact hx
 .exact λh=>RO.mpr ⟨n,h,rfl⟩
def Eu{K:Fg}:ρ 2 (sK K) (rT K):=by
 fail "R";obtain⟨n,u,M,rfl,ru,hl,k⟩:=h;rw[L2.aO hN];walk_at "t";obtain⟨c,ys,rfl,_,hc,ry⟩:=Rp.kT ru;have ly:ys.length=M.length:=by rw[ry.length,Rm]
 have lm:(nV n M).length=M.length:=by unfold nV;rw[Rm]
 unfold rT;cbv;refine tK (SqL.of hc) ?_;refine cN (xs:=ys) λD nD=>⟨λj H2=>AccZ K H D H2 (((nV n M).take j).map Ss),by simpa using AccZ.start (Same.refl _) nD,λj H2 _ A=>SqL.of (A.same _ _ hc),?_,?_⟩
 .intro j x H2 hx A;have lj:=(Rq.mp hx).1;obtain⟨d,g1,g2⟩:=ry.get hx;rw[Rt] at g1;obtain⟨l,hl2,rfl⟩:=RD.mp g1;have ej:(nV n M)[j]?=some (if (n:Int)∈l then 1 else 0):=by unfold nV;rw[Rt,hl2];rfl
  have r2:=g2.same A.same;cbv;refine Qg (d:=Ss (n:Int)) (ds:=l.map Ss) (.int _) r2.rep (λe he=>by obtain⟨b,_,rfl⟩:=RO.mp he;rfl) rfl (λz=>?_) (λz=>?_)
  .have z':=vq.mp z;cbv;refine a_ lj ?_;refine A.cF (.int 1) (aq (by rw[Rm,RT];lia)) λH5 A5=>?_
   show AccZ K H D H5 (((nV n M).take (j+1)).map Ss);rw[RP,ej,Rx,if_pos z'];exact A5
  .have z' : ¬ (n:Int)∈l:=λy=>z (vq.mpr y)
   cbv;refine a_ lj ?_;refine A.cF (.int 0) (aq (by rw[Rm,RT];lia)) λH5 A5=>?_
   show AccZ K H D H5 (((nV n M).take (j+1)).map Ss);rw[RP,ej,Rx,if_neg z'];exact A5
 .intro H2 A;rw[RG (by lia)] at A;exact k D H2 A
abbrev f9(ts:List Tn):List (List Int):=(RQ (a8 ts).length).map λi=>(a8 ts).getD i []++nV i (cY ts)
abbrev sL(K:Fg):Sp:=λvs H Q _=>∃(v:V) (ws:List Str) (ts:List Tn) (w:Nat),vs=[v]/\Rz K H v (dV ws ts)/\La w ts/\(a8 ts).length<=8/\(cY ts).length<=8/\Wide w (a8 ts)/\Db 2 (a8 ts) /\
 ∀(p:Addr) (H':Hp),Same H H'->Rp K (λa=>H a=none) H' (.ref p) (dM (OY (f9 ts)).makers)->Q (.ref p) H'
def jJ(ts:List Tn):(f9 ts).length=(a8 ts).length:=by unfold f9;rw[Rm,R5]
def Fn{i:Nat}(h:i<(a8 ts).length):(f9 ts)[i]?=some ((a8 ts).getD i []++nV i (cY ts)):=by unfold f9;rw[Rt,SM h];rfl
def kU(hw:Wide w (a8 ts)):Wide (w+(cY ts).length) (f9 ts):=λr hr=>by
 unfold f9 at hr;obtain⟨i,hi,rfl⟩:=RO.mp hr;rw[RF];unfold nV;rw[Rm,Rr,Rn (Sr.mp hi),YG,hw _ (Td _)]
def qE(br:Db 2 (a8 ts)):Db 2 (f9 ts):=λr hr c hc=>by
 unfold f9 at hr;obtain⟨i,hi,rfl⟩:=RO.mp hr;rcases RX.mp hc with y|y
 .rw[Rr,Rn (Sr.mp hi),YG] at y;exact br _ (Td _) c y
 .unfold nV at y;obtain⟨l,_,rfl⟩:=RO.mp y;split <;> decide
nonrec abbrev yw(K:Fg):TS:=(aE (aw (mF K) [] E0 (ae (fH (iP K (ae (aw (gU K) [] E0 (ae (aa 0) ai)) ai)) 2 (cj K 2 (aY (al 0) (aY (al 1) ck))) (ao Ah (bU (eI K) (ae (aa 1) ai)) (aw (sK K) [] E0 (ae (aa 0) (ae (aa 3) ai))))) ai)))
abbrev rV(K:Fg):TS:=(am (av (aw (uL K) [] E0 (ae (aa 0) ai)) (al 1))
 (yw K))
def Ew{K:Fg}:ρ 2 (sL K) (rV K):=by
 fail "R";obtain⟨v,ws,ts,w,rfl,rv,co,h8,l8,hw,br,k⟩:=h;rw[L2.aO hN];walk_at "t";unfold rV;have t8:=co.le;have w5:=co.w5;cbv;refine⟨v,ws,ts,rfl,rv,t8,h8,λp1 H1 S1 r1=>?_⟩;cbv;refine⟨v,ws,ts,rfl,rv.same S1,by lia,λp2 H2 A2=>?_⟩;obtain⟨xs,hp2,rx⟩:=A2.at_;have lx:xs.length=(a8 ts).length:=by rw[rx.length,Rm]
 have r2:Rp K (λ_=>True) H2 (.ref p1) (dM (cY ts)):=(r1.same A2.same).mono λ_ _=>trivial
 have S02:=S1.trans A2.same;cbv;refine⟨p2,_,rfl,SqL.of hp2,?_⟩;refine xt (xs:=xs) λD nD=>⟨λj H3=>Acc K H2 D H3 (((f9 ts).take j).map dL),by simpa using Acc.start nD,λj H3 _ A=>SqL.of (A.same _ _ hp2),?_,?_⟩
 .rintro j x H3 T hx A nT us hu
  obtain⟨u0,u1,rfl⟩:∃u w,us=[u,w]:=ex2 hu
  have lj:=(Rq.mp hx).1;have lj':j<(a8 ts).length:=by lia
  obtain⟨d,g1,g2⟩:=rx.get hx;rw[Rt,Rn lj'] at g1;cases g1;obtain⟨b,rfl,hb⟩:=bM (g2.same A.same);have eB:=Fn lj';rw[Rr,Rn lj',YG] at eB;have lr:(a8 ts)[j].length=w:=hw _ (Td _);generalize (a8 ts)[j]=r at hb eB lr;have S3:=aj nT (.tup [.int (j:Int),.ref b]);have hT:upd H3 T (.tup [.int (j:Int),.ref b]) T=some (.tup [.int (j:Int),.ref b]):=ag;have hb3:=S3 _ _ hb;have A3:=A.on S3;generalize upd H3 T (.tup [.int (j:Int),.ref b])=H4 at S3 hT hb3 A3 ⊢;refine bG (SqT.of hT) rfl ?_;cbv;refine⟨⟨[↥(j:Int),⇑b],rfl,rfl⟩,?_⟩;cbv;refine Bs (SqT.of hb3) λl nl=>?_
  have S5:=aj nl (.lst (r.map V.int));have hl5:upd H4 l (.lst (r.map V.int)) l=some (.lst (r.map V.int)):=ag;generalize upd H4 l (.lst (r.map V.int))=H5 at S5 hl5 ⊢;have S45:=A3.same.trans S5;cbv;refine⟨j,.ref p1,cY ts,rfl,r2.same S45,by lia,λm H6 A6=>?_⟩;have h6:=AccZ.ints A6;cbv;have lk:(nV j (cY ts)).length=(cY ts).length:=by unfold nV;rw[Rm]
  refine⟨l,m,_,_,rfl,rfl,A6.same _ _ hl5,h6,by rw[UY,Rm,Rm];lia,λq nq=>?_⟩;have S7:=aj nq (.lst (r.map V.int++(nV j (cY ts)).map V.int));have hq:upd H6 q (.lst (r.map V.int++(nV j (cY ts)).map V.int)) q=some (.lst ((r++nV j (cY ts)).map V.int)):=by rw[Rx];exact ag
  have S47:=(S5.trans A6.same).trans S7;have nq4:H4 q=none:=(S5.trans A6.same).free nq;generalize upd H6 q (.lst (r.map V.int++(nV j (cY ts)).map V.int))=H7 at S7 hq S47 ⊢;refine a_ lj ?_;refine A3.cF S47 (d:=dL (r++nV j (cY ts))) (xp nq4 hq) (aq (by rw[Rm,RT];lia)) λH8 A8=>?_
  show Acc K H2 D H8 (((f9 ts).take (j+1)).map dL);rw[RP,eB,Rx];exact A8
 .intro H3 A;have lB:=jJ ts;rw[RG (by lia)] at A;cbv;refine⟨D,f9 ts,w+(cY ts).length,2,rfl,Pa A,kU hw,by lia,by lia,qE br,by decide,Op (by lia),λq H4 S4 r4=>?_⟩;have S03:=S02.trans A.same;exact k q H4 (S03.trans S4) (r4.mono λ_ z=>S03.free z)
def BE{hs:List (List Int)}:∀(ts:List Tn) (l:List (List Int)),(∀t∈ts,t.fr∈hs/\t.to∈hs)->(∀x∈l,x∈hs)->∀x∈iQ l ts,x∈hs
 |[],l,_,h,x,hx=>h x hx
 |t :: ts,l,ht,h,x,hx=>by
  have ins:∀(l:List (List Int)) (y:List Int),(∀x∈l,x∈hs)->y∈hs->∀x∈cJ l y,x∈hs:=λl y h hy x hx=>by
   unfold cJ at hx;split at hx
   .exact h x hx
   .rcases RX.mp hx with z|z
    .exact h x z
    .rw[RL.mp z];exact hy
  have t0:=ht t Ru;exact BE ts (cJ (cJ l t.fr) t.to) (λu hu=>ht u (RA _ hu)) (ins _ _ (ins _ _ h t0.1) t0.2) x hx
structure QW (w:Nat) (ts:List Tn):Prop where
 h8:(a8 ts).length<=8
 l8:(cY ts).length<=8
 wide:Wide w (a8 ts)
 bnd:Db 2 (a8 ts)
 to:∀t∈ts,t.to.length=w
def Qv(vo:gK ws ts):QW ws.length ts:=by
 obtain⟨hs,po,h8,tk⟩:=vo.turns;have sub:∀x∈a8 ts,x∈hs:=BE ts [] (λt ht=>⟨(tk.ok t ht).1,(tk.ok t ht).2.1⟩) λx h=>by cases h
 have n8:(a8 ts).length<=8:=RN (b9 (G7 ts) sub) h8;refine⟨n8,?_,λr hr=>(po.2 r (sub r hr)).1,λr hr c hc=>?_,λt ht=>(po.2 _ (tk.ok t ht).2.1).1⟩
 .unfold cY gB;rw[Rm,Rm];refine RN (TC _ _) ?_;rw[R5,(c_ (cV ts)).len];exact n8
 .have:=(po.2 r (sub r hr)).2 c hc
  show c.natAbs<4;lia
end Lc
namespace Wd
open PySem L2 Fr G1 Sm Vs Dn Rk
open PySem.W (Dat kqdOk)
inductive CI where
 |done (c:List Int)
 |noT
 |notN (at_:Nat)
abbrev iC(T:List Tp):List Int->List Int->Nat->CI
 |[],c,_=>.done c
 |n :: r,c,k=>if 0<=n/\n<T.length then (if can (T.getD n.toNat ([],[])) c=true then iC T r (beh (T.getD n.toNat ([],[])) c) (k+1) else .notN k) else .noT
abbrev Nn(n:Nat)(ts:List Tn):Prop:=∀t∈ts,t.fr.length=n/\t.to.length=n
def oC{ts:List Tn}{k:Nat}{t:Tn}(h:ts[k]?=some t):(ts.map pr).getD k ([],[])=pr t:=by
 rw[Rr,Rt,h];rfl
abbrev zv(K:Fg):Sp:=λvs H Q _=>∃(v w:V) (t:Tn) (c:List Int),vs=[v,w]/\Rz K H v (dT t)/\Rz K H w (dI c)/\t.fr.length<=100/\∀H',Same H H'->Q (.bl (can (pr t) c)) H'
abbrev yS(K:Fg):TS:=(aE (bU (Jo K) (ae (fH (tO K .T .T (ae (ao (aG K) (aa 0) (tC (.int 0))) (ae (aa 1) ai))) 2 (cj K 2 (aY (al 0) (aY (al 1) ck))) (ao Ph (aa 0) (aa 1))) ai)))
def Ja{K:Fg}:ρ 2 (zv K) (yS K):=by
 fail "R";obtain⟨v,w,t,c,rfl,rv,rw_,hl,k⟩:=h;obtain⟨a,w1,w2,w3,rfl,ha,q1,q2,_⟩:=oJ rv;obtain⟨b,rfl,hb⟩:=bM rw_;obtain⟨f,rfl,hf⟩:=bM q1;rw[L2.aO hN];walk_at "t";unfold yS;have lz:(TZ t.fr c).length=min t.fr.length c.length:=Zbg;cbv;refine aF (SqT.of ha) (v:=.ref f) rfl ?_;cbv;refine⟨f,b,_,_,rfl,SqT.of hf,SqT.of hb,?_⟩;have ml:min (t.fr.map V.int).length (c.map V.int).length=(TZ t.fr c).length:=by rw[Rm,Rm,lz]
 refine vR (xs:=t.fr.map V.int) (ys:=c.map V.int) λD nD=>⟨λi H2=>AccZ K H D H2 ((((TZ t.fr c).take i).map λz=>decide (z.1<=z.2)).map Dat.bool),by simpa using AccZ.start (Same.refl _) nD,λi H2 _ A=>⟨SqT.of (A.same _ _ hf),SqT.of (A.same _ _ hb)⟩,?_,?_⟩
 .intro i x y H2 T e1 e2 A nT us hu
  obtain⟨u1,u2',rfl⟩:∃u0 u1,us=[u0,u1]:=ex2 hu
  rw[Rt] at e1 e2;obtain⟨m1,f1,rfl⟩:=RD.mp e1;obtain⟨m2,f2,rfl⟩:=RD.mp e2;have ez:(TZ t.fr c)[i]?=some (m1,m2):=by rw[U8];exact⟨f1,f2⟩
  have li:i<(TZ t.fr c).length:=(Rq.mp ez).1;refine bG (SqT.of ag) rfl ?_;cbv;refine⟨⟨[↥m1,↥m2],rfl,rfl⟩,?_⟩;cbv;refine a_ (by rw[ml];exact li) ?_;refine(A.on (aj nT _)).cF (.bl (decide (m1<=m2))) (aq (by rw[Rm,Rm,RT];lia)) λH4 A4=>?_
  show AccZ K H D H4 ((((TZ t.fr c).take (i+1)).map λz=>decide (z.1<=z.2)).map Dat.bool);rw[RP,ez,Rx,Rx];exact A4
 .intro H2 A;rw[ml,RG (RB _)] at A;cbv;refine NS A.bls ?_;have e:((TZ t.fr c).map λz=>decide (z.1<=z.2)).all id=can (pr t) c:=by unfold can;rw[List.all_map];rfl
  rw[e];exact k H2 A.same
abbrev zu(K:Fg):Sp:=λvs H Q _=>∃(v w:V) (t:Tn) (c:List Int),vs=[v,w]/\Rz K H v (dT t)/\Rz K H w (dI c)/\t.fr.length=c.length/\t.to.length=c.length/\c.length<=100/\∀(p:Addr) (H':Hp),Same H H'->Rz K H' (.ref p) (dI (beh (pr t) c))->Q (.ref p) H'
def Os{t:Tn}{c:List Int}{i:Nat}{m1 m2 m3:Int}(f1:t.fr[i]?=some m1)(f2:t.to[i]?=some m2)(f3:c[i]?=some m3):(beh (pr t) c)[i]?=some (m3-m1+m2):=by
 have li:i<c.length:=(Rq.mp f3).1;unfold beh;rw[Rt,SM li];show some (pt c i-pt t.fr i+pt t.to i)=_;unfold pt;rw[Rr,f3,Rr,f1,Rr,f2];rfl
def F_(t:Tp)(c:List Int):(beh t c).length=c.length:=by unfold beh;rw[Rm,R5]
abbrev yP(K:Fg):TS:=(aE (bU (cE K) (ae (fH (FD K (ae (aa 1) (ae (ao (aG K) (aa 0) (tC (.int 0))) (ae (ao (aG K) (aa 0) (tC (.int 1))) ai)))) 3 (cj K 3 (aY (al 0) (aY (al 1) (aY (al 2) ck)))) (ao aW (ao g6 (aa 0) (aa 1)) (aa 2))) ai)))
def IX{K:Fg}:ρ 2 (zu K) (yP K):=by
 fail "R";obtain⟨v,w,t,c,rfl,rv,rw_,l1,l2,hl,k⟩:=h;obtain⟨a,w1,w2,w3,rfl,ha,q1,q2,_⟩:=oJ rv;obtain⟨b,rfl,hb⟩:=bM rw_;obtain⟨f,rfl,hf⟩:=bM q1;obtain⟨g,rfl,hg⟩:=bM q2;rw[L2.aO hN];walk_at "t";unfold yP;have lb:=F_ (pr t) c;cbv;refine GZ ?_;cbv;refine aF (SqT.of ha) (v:=.ref f) rfl ?_;cbv;refine aF (SqT.of ha) (v:=.ref g) rfl ?_;cbv;refine⟨b,f,g,_,_,_,rfl,SqT.of hb,SqT.of hf,SqT.of hg,?_⟩;refine qM (xs:=c.map V.int) (ys:=t.fr.map V.int) (zs:=t.to.map V.int) (m:=c.length) (Rm _) (by rw[Rm];exact l1) (by rw[Rm];exact l2) λD nD=>⟨λi H2=>AccZ K H D H2 (((beh (pr t) c).take i).map Ss),by simpa using AccZ.start (Same.refl _) nD,λi H2 _ A=>⟨SqT.of (A.same _ _ hb),SqT.of (A.same _ _ hf),SqT.of (A.same _ _ hg)⟩,?_,?_⟩
 .intro i x y u H2 T e1 e2 e3 A nT us hu
  obtain⟨u1,u2,u3,rfl⟩:∃u0 u1 u2,us=[u0,u1,u2]:=by
   match us,hu with
   |[u0,u1,u2],_=>exact⟨u0,u1,u2,rfl⟩
  rw[Rt] at e1 e2 e3;obtain⟨m1,f1,rfl⟩:=RD.mp e1;obtain⟨m2,f2,rfl⟩:=RD.mp e2;obtain⟨m3,f3,rfl⟩:=RD.mp e3;have li:i<c.length:=(Rq.mp f1).1;have ec:=Os f2 f3 f1;refine bG (SqT.of ag) rfl ?_;cbv;refine⟨⟨[↥m1,↥m2,↥m3],rfl,rfl⟩,?_⟩;cbv;refine a_ li ?_;refine(A.on (aj nT _)).cF (.int _) (aq (by rw[Rm,RT];lia)) λH4 A4=>?_
  show AccZ K H D H4 (((beh (pr t) c).take (i+1)).map Ss);rw[RP,ec,Rx];exact A4
 .intro H2 A;rw[RG (by lia)] at A;cbv;refine fJ (SqL.of (AccZ.ints A)) λp np=>?_
  exact k p _ (A.same.trans (aj np _)) (.tup ag (RpL.ints _))
abbrev Rh(K:Fg)(H:Hp)(Q:VK)(E:XK)(C5 C7:Addr):CI->Prop
 |.done c=>∀(w:V) (H':Hp),Same H H'->Rz K H' w (dI c)->Q w H'
 |.noT=>∀H',Same H H'->E (.ref C5) none H'
 |.notN k=>∀(dx:Addr) (H':Hp),Same H H'->H' dx=some (.xd [("at",.int (k:Int))])->E (.ref C7) (some dx) H'
abbrev mr (K:Fg) (C5 C7:Addr):Sp:=λvs H Q E=>∃(v u:V) (a:Addr) (ws:List Str) (ts:List Tn) (row cs:List Int),vs=[v,.ref a,u]/\Rz K H v (dV ws ts)/\H a=some (.lst (row.map V.int))/\Rz K H u (dI cs)/\Nn cs.length ts/\cs.length<=100/\row.length<1000/\uj K C7/\oS K C7 "at"/\Rh K H Q E C5 C7 (iC (ts.map pr) row cs 0)
nonrec abbrev wt(K:Fg)(E:XK)(x:Ex0.Ad):TS:=(am (av (aw (sC K x.c5) [] E (ae (aa 0) (ae (aa 5) ai))) (al 6))
 (am (aS (fR (tB (aw (zv K) [] E0 (ae (aa 6) (ae (aa 3) ai)))))
 (mi E x.c7 (sN K x.c7 "at") (aa 4))
 a7)
 (av (aw (zu K) [] E0 (ae (aa 6) (ae (aa 3) ai))) (al 3))))
abbrev lU(K:Fg)(E:XK)(x:Ex0.Ad):TS:=(am (av (bU (cE K) (ae (aa 2) ai)) (al 3))
 (am (a9 (iP K (ae (aa 1) ai)) (cj K 2 (aY (al 4) (aY (al 5) ck)))
 (wt K E x))
 (aE (aa 3))))
def zP{K:Fg}{x:Ex0.Ad}{vs:List V}{N:List Str}(hN:N.length=7)(h:mr K x.c5 x.c7 vs H Q E):lU K E x (ends Q) (L2.start N vs) H:=by
 obtain⟨v,u,a,ws,ts,row,cs,rfl,rv,ha,ru,nn,l100,lr,hS,hF,k⟩:=h;obtain⟨b,rfl,hb⟩:=bM ru;rw[L2.aO hN];walk_at "t";unfold lU;cbv;refine Np (SqT.of hb) ?_;cbv;refine⟨a,_,rfl,SqL.of ha,?_⟩;refine dB (xs:=row.map V.int) (λi σ H2=>∃(c:List Int) (w:V) (u4 u5 u6:Option V),σ=[some v,⇑a,⇑b,some w,u4,u5,u6]/\Same H H2/\Rz K H2 w (dI c)/\c.length=cs.length/\iC (ts.map pr) row cs 0=iC (ts.map pr) (row.drop i) c i) ⟨cs,_,none,none,none,rfl,Same.refl _,ru,rfl,by rw[Zg]⟩ (by rintro i σ H2 _ ⟨_,_,_,_,_,_,S,_⟩;exact SqL.of (S _ _ ha)) ?_ ?_
 .rintro i y σ H2 T e1 ⟨c,w,u4,u5,u6,rfl,S2,rc,lc,ew⟩ nT;rw[Rt] at e1;obtain⟨n,f1,rfl⟩:=RD.mp e1;have li:i<row.length:=(Rq.mp f1).1
  have ed:row.drop i=n :: row.drop (i+1):=by
   rw[U9 li];congr 1;exact RY ((Rn li).symm.trans f1)
  rw[ed] at ew;have S3:=S2.trans (aj nT (.tup [.int (i:Int),.int n]));have rc3:=rc.same (aj nT (.tup [.int (i:Int),.int n]));refine bG (SqT.of ag) rfl ?_;generalize upd H2 T (.tup [.int (i:Int),.int n])=H3 at S3 rc3 ⊢;cbv;refine⟨v,n,ws,ts,rfl,rv.same S3,λt z ht n0 rz=>?_,λbad=>?_⟩
  .have hn:n.toNat<ts.length:=(Rq.mp ht).1;have gd:=oC ht;have hin:0<=n/\n<(ts.map pr).length:=⟨n0,by rw[Rm];lia⟩
   obtain⟨lt1,lt2⟩:=nn t (Ry ht);rw[iC,if_pos hin,gd] at ew;cbv;refine⟨z,w,t,c,rfl,rz,rc3,by lia,λH4 S4=>?_⟩;cbv;cases hc:can (pr t) c with
   |false =>
    rw[hc] at ew;rw[ew,if_neg (by decide)] at k;cbv;exact Fo hS hF rfl (by lia) λdx H' S' hd=>k dx H' (S3.trans (S4.trans S')) hd
   |true =>
    rw[hc,if_pos rfl] at ew;cbv;refine⟨z,w,t,c,rfl,rz.same S4,rc3.same S4,by lia,by lia,by lia,λp H5 S5 rp=>?_⟩;cbv;exact⟨beh (pr t) c,.ref p,_,_,_,rfl,S3.trans (S4.trans S5),rp,by rw[F_];exact lc,ew⟩
  .rw[ew,iC,if_neg (by rw[Rm];exact bad)] at k;exact k H3 S3
 .rintro σ H2 ⟨c,w,u4,u5,u6,rfl,S2,rc,lc,ew⟩;rw[Rm,VC (RB _)] at ew;rw[ew] at k;cbv;exact k w H2 S2 rc
abbrev yx (K:Fg):TS:=(am (bn (y8 K (ae (aa 0) (ae (DV [(tC (.str "the turning at place ")),(Ia (aa 1)),(tC (.str " of the row cannot be made"))] VI) ai))))
 (LP K (aa 0) (aa 1) "at"))
def N1{n:Nat}(h:n<1000):(Bv (n:Int)).length<=11:=PyProof.Rows.toString_length_le (by lia) (by decide) (by lia)
def Nd{n:Nat}(h:n<1000):((n:Int).natAbs).log2<1920:=by
 rw[Se];by_cases z:n=0
 .subst z;decide
 .have:=(Ye z (k:=10)).mpr (by lia)
  lia
def IR{K:Fg}  {vs:List V}    {N:List Str} (hN:N.length=2) (h:sN K C "at" vs H Q E):yx K (ends Q) (L2.start N vs) H:=by
 obtain⟨e,n,rfl,hn,he,hS,hF,k⟩:=h;rw[L2.aO hN];walk_at "t";have hi:=N1 hn;have hs:(1000:Nat)<=sizeLine:=by decide
 unfold yx;cbv;unfold y8;cbv;refine Kf (by decide) ?_;cbv;refine⟨Nd hn,?_⟩
 have l1:(VI++Vg "the turning at place " ++ Bv (n:Int)).length<=100:=by
  rw[ZaB,show(VI++Vg "the turning at place ").length=21 by decide +kernel];lia
 refine Kf (by lia) ?_;cbv;refine Kf (by rw[ZaB,show(Vg " of the row cannot be made").length=26 by decide +kernel];lia) ?_;cbv;refine⟨e,C,none,_,rfl,he,hS,?_⟩;exact⟨_,rfl,_,rfl,e,C,rfl,he,hF,k⟩
end Wd
namespace Tw
end Tw
namespace Tp2
end Tp2
namespace Md
end Md
namespace Tr2
end Tr2
namespace Cm
end Cm
namespace Cg
end Cg
namespace Bg
end Bg
namespace Gu
end Gu
namespace Tg
end Tg
local macro_rules | `(tactic| walk_at "d")=>`(tactic| repeat first|fail "1"|with_reducible first|refine L2.k_fld ?_|refine L2.k_sfld ?_|refine L2.k_mt ?_)
namespace Dk
open PySem L2 Fr G1 Sm Vs
open PySem.W (Dat kqdOk)
open Dn (can beh pr)
end Dk
namespace Dk
open PySem L2 Fr G1 Sm Vs
open PySem.W (Dat kqdOk)
open PySem L2 Fr G1 Sm Vs Dn Rk Wd
end Dk
namespace Dk
open PySem L2 Fr G1 Sm Vs Dn Rk Wd
open PySem.W (Dat kqdOk)
end Dk
namespace Dh
open PySem L2 Fr G1 Sm Vs Dk
open PySem.W (Dat kqdOk)
open Dn (can beh pr)
end Dh
namespace Dh
open PySem L2 Fr G1 Sm Vs Dk
open PySem.W (Dat kqdOk)
open PySem L2 Fr G1 Sm Vs Dk Dn Rk Wd
local macro_rules | `(tactic| walk_at "d")=>`(tactic| repeat first|fail "1"|with_reducible first|refine k_fld ?_|refine k_sfld ?_|refine k_mt ?_|refine k_bIf ?_|refine k_bMethA ?_|refine k_bSeq ?_|refine k_tryB ?_)
end Dh
namespace Pw
abbrev IsP(p:Nat):Prop:=2<=p/\∀d,d∣p->d=1\/d=p
def m_:∀{n:Nat},2<=n->∃p,IsP p/\p∣n:=by
 intro n
 induction n using Vc with
 |_ n ih =>
  intro h;by_cases c:∃d,d∣n/\d≠1/\d≠n
  .obtain⟨d,dv,d1,dn⟩:=c;have dp:0<d:=Nat.pos_of_dvd_of_pos dv (by lia);have dl:=UF (by lia) dv;obtain⟨p,pp,pd⟩:=ih d (by lia) (by lia);exact⟨p,pp,ZO pd dv⟩
  .refine⟨n,⟨h,λd dv=>?_⟩,ZaC n⟩;by_cases d1:d=1
   .exact .inl d1
   .by_cases dn:d=n
    .exact .inr dn
    .exact absurd ⟨d,dv,d1,dn⟩ c
def IsP.dvd_mul{a b:Nat}(hp:IsP p)(h:p∣a*b):p∣a\/p∣b:=by
 rcases hp.2 (So p a) (Xi p a) with g|g
 .exact .inr (W3 g h)
 .exact .inl (g ▸ ZaD p a)
abbrev tk(d n:Nat):Nat×Nat:=if _h:2<=d/\0<n/\d∣n then ((tk d (n / d)).1+1,(tk d (n / d)).2) else (0,n)
termination_by n
decreasing_by all_goals exact Nat.div_lt_self _h.2.1 _h.1
abbrev bC(d n:Nat):Nat:=(tk d n).1
abbrev bX(d n:Nat):Nat:=(tk d n).2
def HI{d n:Nat}(h : ¬ d∣n):tk d n=(0,n):=by
 rw[tk,dif_neg λz=>h z.2.2]
def jH{d n:Nat}(h : ¬ d∣n):bC d n=0:=by unfold bC;rw[HI h]
def xW{d n:Nat}(hd:2<=d)(hn:0<n):tk d (d*n)=(bC d n+1,bX d n):=by
 rw[tk,dif_pos ⟨hd,Sq (by lia) hn,Yo d n⟩,YH n (by lia:0<d)];rfl
def dq{d n:Nat}(hd:2<=d)(hn:0<n):bC d (d*n)=bC d n+1:=by
 show(tk d (d*n)).1=_;rw[xW hd hn]
def gS{d:Nat}(hd:2<=d):∀n,0<n->n=d ^ bC d n*bX d n/\¬ d∣bX d n:=by
 intro n
 induction n using Vc with
 |_ n ih =>
  intro hn;by_cases c:d∣n
  .obtain⟨m,rfl⟩:=c;have hm:0<m:=TJ hn;have lt:m<d*m:=by have:=Sv m hd;lia
   obtain⟨a,b⟩:=ih m lt hm;have e:tk d (d*m)=(bC d m+1,bX d m):=xW hd hm;unfold bC bX;rw[e];refine⟨?_,b⟩;show d*m=d ^ (bC d m+1)*bX d m;rw[TU,Tu (d ^ bC d m) d,SA,<- a]
  .have e:=HI c;unfold bC bX;rw[e];exact⟨by simp,c⟩
def i5(hp:IsP p):∀a b,0<a->0<b->bC p (a*b)=bC p a+bC p b:=by
 intro a
 induction a using Vc with
 |_ a ih =>
  intro b ha hb;by_cases c:p∣a
  .obtain⟨m,rfl⟩:=c;have hm:0<m:=TJ ha;have lt:m<p*m:=by have:=Sv m hp.1;lia
   rw[SA,dq hp.1 (Sq hm hb),ih m lt b hm hb,dq hp.1 hm];lia
  .clear ih;rw[jH c,WM]
   induction b using Vc with
   |_ b ih =>
    by_cases c2:p∣b
    .obtain⟨m,rfl⟩:=c2;have hm:0<m:=TJ hb;have lt:m<p*m:=by have:=Sv m hp.1;lia
     rw[UK,dq hp.1 (Sq ha hm),ih m lt hm,dq hp.1 hm]
    .rw[jH c2,jH λz=>(hp.dvd_mul z).elim c c2]
structure Add (f:Nat->Int):Prop where
 mul:∀a b,0<a->0<b->f (a*b)=f a+f b
def IsP.add(hp:IsP p):Add λn=>(bC p n:Int):=⟨λa b ha hb=>by rw[i5 hp a b ha hb];lia⟩
def Add.one(h:Add f):f 1=0:=by have:=h.mul 1 1 (by decide) (by decide);simp at this;lia
def Add.pow{f:Nat->Int}(h:Add f){a:Nat}(ha:0<a):∀k:Nat,f (a ^ k)=(k:Int)*f a
 |0=>by rw[V8,h.one];simp
 |k+1=>by
  rw[TU,h.mul _ _ (To ha) ha,Add.pow h ha k];show _=((k:Int)+1)*f a;rw[Zl,Ym]
nonrec abbrev Pr:=Nat×Int
abbrev SF(f:Nat->Int):List Pr->Int
 |[]=>0
 |x :: L=>x.2*f x.1+SF f L
def lE(f:Nat->Int):∀A B,SF f (A++B)=SF f A+SF f B
 |[],B=>by simp[SF]
 |x :: A,B=>by show _+SF f (A++B)=_;rw[lE f A B];show _=_+_+_;lia
abbrev ze(x y:Pr):List Pr :=
 [(bX (So x.1 y.1) x.1,x.2),(bX (So x.1 y.1) y.1,y.2),(So x.1 y.1,bC (So x.1 y.1) x.1*x.2+bC (So x.1 y.1) y.1*y.2)]
def fU{d n:Nat}(hd:2<=d)(hn:0<n):0<bX d n:=by
 rcases Z5 (bX d n) with z|z
 .have:=(gS hd n hn).2;rw[z] at this;exact absurd ⟨0,rfl⟩ this
 .exact z
def OF(hf:Add f){x y:Pr}(hx:0<x.1)(hy:0<y.1)(hg:2<=So x.1 y.1):SF f (ze x y)=x.2*f x.1+y.2*f y.1:=by
 have gp:0<So x.1 y.1:=by lia
 have e:∀n,0<n->f n=bC (So x.1 y.1) n*f (So x.1 y.1)+f (bX (So x.1 y.1) n):=λn hn=>by
  have s:=(gS hg n hn).1
  have:=congrArg f s
  rw[hf.mul _ _ (To gp) (fU hg hn),hf.pow gp] at this;exact this
 have e1:=e x.1 hx;have e2:=e y.1 hy;show x.2*f (bX (So x.1 y.1) x.1)+(y.2*f (bX (So x.1 y.1) y.1)+((bC (So x.1 y.1) x.1*x.2+bC (So x.1 y.1) y.1*y.2)*f (So x.1 y.1)+0))=_;rw[e1,e2];generalize f (bX (So x.1 y.1) x.1)=u;generalize f (bX (So x.1 y.1) y.1)=v;generalize f (So x.1 y.1)=w;generalize (bC (So x.1 y.1) x.1:Int)=i;generalize (bC (So x.1 y.1) y.1:Int)=j;rw[Vy,Vy,Zl,ZaE x.2 i w,Ua i x.2 w,ZaE y.2 j w,Ua j y.2 w];lia
def JX{d:Nat}(hd:2<=d):bC d 1=0:=jH λz=>by have:=UF (by decide) z;lia
abbrev Gp(L:List Nat):Prop:=(∀q∈L,2<=q)/\L.Pairwise λa b=>T6 a b
def Oi{p:Nat}(hp:2<=p)(c:T6 q r)(h:p∣q) : ¬ p∣r:=λz=>by
 have:=Nat.dvd_gcd h z
 rw[c] at this
 have:=UF (by decide) this
 lia
def CM{f:Nat->Int}:∀{L:List Pr},(∀x∈L,f x.1=0)->SF f L=0
 |[],_=>rfl
 |x :: L,h=>by show _*_+_=0;rw[h x Ru,CM λy hy=>h y (RA _ hy)];simp
def Oz{L:List Pr}(ha:Gp (L.map (·.1)))(he:∀x∈L,x.2≠0)(hL:L≠[]):∃p,IsP p/\SF (λn=>(bC p n:Int)) L≠0:=by
 cases L with
 |nil=>exact absurd rfl hL
 |cons x L =>
  have h2:2<=x.1:=ha.1 x.1 Ru;obtain⟨p,hp,d⟩:=m_ h2;refine⟨p,hp,?_⟩;have c:=(WC.mp ha.2).1;show x.2*_+SF _ L≠0;rw[CM λy hy=>by show(bC p y.1:Int)=0;rw[jH (Oi hp.1 (c y.1 (TN hy)) d)];rfl,VA];obtain⟨m,e⟩:=d;have hm:0<m:=Ta λz=>by rw[z] at e;simp at e;lia
  show x.2*(bC p x.1:Int)≠0;rw[e,dq hp.1 hm];exact Y3 (he x Ru) (by lia)
def Lm{q:Nat}(hp:IsP p)(hq:0<q)(d:p∣q):0<bC p q:=by
 obtain⟨m,rfl⟩:=d;rw[dq hp.1 (TJ hq)];lia
abbrev vs(f:Nat->Int):List (Nat×Nat)->List Int->Int
 |w :: W,e :: R=>e*(f w.1-f w.2)+vs f W R
 |_,_=>0
abbrev gP:List (Nat×Nat)->List Int->List Pr
 |w :: W,e :: R=>(w.1,e) :: (w.2,-e) :: gP W R
 |_,_=>[]
def re(f:Nat->Int):∀W R,SF f (gP W R)=vs f W R
 |[],_=>rfl
 |_ :: _,[]=>rfl
 |w :: W,e :: R=>by
  show e*f w.1+(-e*f w.2+SF f (gP W R))=e*(f w.1-f w.2)+vs f W R;rw[re f W R,Za8,VW];lia
abbrev One(W:List (Nat×Nat))(R:List Int):Prop:=∀p,IsP p->vs (λn=>(bC p n:Int)) W R=0
def AI{T:List Pr}(ha:Gp (T.map (·.1)))(he:∀x∈T,x.2≠0)(hs:∀f,Add f->SF f T=SF f (gP W R)):One W R↔T=[]:=by
 constructor
 .intro h;by_cases c:T=[]
  .exact c
  .obtain⟨p,hp,z⟩:=Oz ha he c;exact absurd ((hs _ hp.add).trans ((re _ W R).trans (h p hp))) z
 .intro h p hp;rw[<- re,<- hs _ hp.add,h];rfl
abbrev bS:List Nat->Nat
 |[]=>1
 |q :: L=>q*bS L
def dj:∀A B,bS (A++B)=bS A*bS B
 |[],B=>(WK _).symm
 |q :: A,B=>by show q*bS (A++B)=q*bS A*bS B;rw[dj A B,SA]
def g7:∀{L:List Nat},(∀q∈L,0<q)->0<bS L
 |[],_=>by decide
 |q :: L,h=>Sq (h q Ru) (g7 λx hx=>h x (RA _ hx))
def jx:∀{L:List Nat} {i q:Nat},L[i]?=some q->bS L=q*bS (L.eraseIdx i)
 |x :: L,0,q,h=>by cases h;rfl
 |x :: L,i+1,q,h=>by
  show x*bS L=q*(x*bS (L.eraseIdx i));rw[jx (L:=L) (i:=i) (by simpa using h),UK]
def vY(f:Nat->Int):∀{L:List Pr} {i:Nat} {y:Pr},L[i]?=some y->SF f L=y.2*f y.1+SF f (L.eraseIdx i)
 |x :: L,0,y,h=>by cases h;rfl
 |x :: L,i+1,y,h=>by
  show x.2*f x.1+SF f L=y.2*f y.1+(x.2*f x.1+SF f (L.eraseIdx i))
  rw[vY f (L:=L) (i:=i) (by simpa using h)];lia
abbrev gR:List Pr->Nat
 |[]=>0
 |x :: L=>x.2.natAbs*x.1.log2+gR L
def gQ:∀A B,gR (A++B)=gR A+gR B
 |[],B=>(WM _).symm
 |q :: A,B=>by show _+gR (A++B)=_+gR A+gR B;rw[gQ A B,Nat.add_assoc]
def o7:∀{L:List Pr} {i:Nat} {y:Pr},L[i]?=some y->gR L=y.2.natAbs*y.1.log2+gR (L.eraseIdx i)
 |x :: L,0,y,h=>by cases h;rfl
 |x :: L,i+1,y,h=>by
  show _+gR L=_+(x.2.natAbs*x.1.log2+gR (L.eraseIdx i))
  rw[o7 (L:=L) (i:=i) (by simpa using h)];lia
def vx{a b:Nat}(ha:0<a)(hb:0<b):a.log2+b.log2<=(a*b).log2:=by
 rw[Zp (UD (Sq ha hb)),Vj];exact SE (Xj (UD ha)) (Xj (UD hb))
def J9{a b:Nat}(ha:0<a)(h:a<=b):a.log2<=b.log2:=by
 rw[Zp (by lia)];exact RN (Xj (by lia)) h
def Bh{a b:Nat}(ha:0<a)(h:2*a<=b):a.log2+1<=b.log2:=by
 rw[Zp (by lia),TU]
 have:=Xj (n:=a) (by lia)
 lia
def vw{a:Nat}(ha:0<a):∀k:Nat,k*a.log2<=(a ^ k).log2
 |0=>by simp
 |k+1=>by
  have:=vx (To (n:=k) ha) ha
  have:=vw ha k
  rw[TU,Vz];lia
def Bf{d n:Nat}(hd:2<=d)(hn:0<n):bC d n*d.log2+(bX d n).log2<=n.log2:=by
 have:=vx (To (n:=bC d n) (by lia:0<d)) (fU hd hn)
 rw[<- (gS hd n hn).1] at this
 have:=vw (by lia:0<d) (bC d n)
 lia
def HG{x y:Pr}(hx:0<x.1)(hy:0<y.1)(hg:2<=So x.1 y.1):gR (ze x y)<=x.2.natAbs*x.1.log2+y.2.natAbs*y.1.log2:=by
 have a:=Sh x.2.natAbs (Bf hg hx);have b:=Sh y.2.natAbs (Bf hg hy);show x.2.natAbs*(bX (So x.1 y.1) x.1).log2+(y.2.natAbs*(bX (So x.1 y.1) y.1).log2+((bC (So x.1 y.1) x.1*x.2+bC (So x.1 y.1) y.1*y.2).natAbs*(So x.1 y.1).log2+0))<=_;generalize So x.1 y.1=g at *
 have c:(bC g x.1*x.2+bC g y.1*y.2).natAbs<=x.2.natAbs*bC g x.1+y.2.natAbs*bC g y.1:=by
  refine RN (Yn _ _) ?_;rw[SL,SL,Se,Se,Tu,Tu (bC g y.1)];exact RB _
 have c':=Sv g.log2 c;rw[Nat.add_mul,SA,SA] at c';rw[Nat.mul_add] at a b;lia
def Gz{d n:Nat}(hd:2<=d)(hn:0<n):bX d n<=n:=by
 have:=(gS hd n hn).1
 have k:=Sv (bX d n) (To (n:=bC d n) (by lia:0<d));lia
def JW{d n:Nat}(hd:2<=d)(hn:0<n)(h:d∣n):0<bC d n:=by
 obtain⟨m,rfl⟩:=h;rw[dq hd (TJ hn)];lia
def Qw{a b:Nat}(ha:0<a)(hb:0<b)(hg:2<=So a b):2*(bX (So a b) a*(bX (So a b) b*So a b))<=a*b:=by
 have da:=Xi a b;have db:=ZaD a b;generalize So a b=g at *
 have le:∀n,0<n->g∣n->bX g n*g<=n:=λn hn h=>by
  have o:=JW hg hn h;have s:=(gS hg n hn).1;obtain⟨k,e⟩:∃k,bC g n=k+1:=⟨bC g n-1,by lia⟩
  rw[e,TU,SA,Tu g] at s
  have:=Sv (bX g n*g) (To (n:=k) (by lia:0<g))
  lia
 have la:=le a ha da;have lb:=le b hb db;have l2:2*bX g a<=a:=by have:=Sh (bX g a) hg;lia
 calc 2*(bX g a*(bX g b*g))=(2*bX g a)*(bX g b*g):=by rw[SA]
  _<=a*b:=SE l2 lb
def Ca{α β:Type}(f:α->β):∀(L:List α) (i:Nat),(L.map f).eraseIdx i=(L.eraseIdx i).map f
 |[],_=>rfl
 |_ :: _,0=>rfl
 |x :: L,i+1=>congrArg (f x :: ·) (Ca f L i)
structure Ap (P0:List Pr) (B T C:Nat) (told left:List Pr):Prop where
 apt:Gp (told.map (·.1))
 ne:∀x∈told,x.2≠0
 pos:∀x∈left,0<x.1
 bT:∀x∈told,x.1<=B
 bL:∀x∈left,x.1<=B
 sf:∀f,Add f->SF f told+SF f left=SF f P0
 le:gR told+gR left<=T
 few:told.length+left.length+(bS (told.map (·.1))*bS (left.map (·.1))).log2<=C
abbrev mu(told left:List Pr):Nat:=2*(bS (told.map (·.1))*bS (left.map (·.1)))+left.length
def Ap.start{P0:List Pr}{B:Nat}(hp:∀x∈P0,0<x.1/\x.1<=B):Ap P0 B (gR P0) (P0.length+(bS (P0.map (·.1))).log2) [] P0 :=
 ⟨⟨λ_ h=>(by cases h),Zaj⟩,λ_ h=>(by cases h),λx h=>(hp x h).1,λ_ h=>(by cases h),λx h=>(hp x h).2,λf _=>by simp[SF],by simp[gR],by show 0+P0.length+(1*bS (P0.map (·.1))).log2<=_;rw[WK,WM];exact RB _⟩
variable{P0:List Pr}{B T C:Nat}{told left:List Pr}{x y:Pr}
def vX(f:Nat->Int)(x:Pr):SF f [x]=x.2*f x.1:=by simp[SF]
def HH(x:Pr):gR [x]=x.2.natAbs*x.1.log2:=by simp[gR]
def Ap.pp(h:Ap P0 B T C told (left++[x])):0<bS (told.map (·.1))/\0<bS (left.map (·.1))/\0<x.1/\x.1<=B :=
 ⟨g7 λq hq=>by have:=h.apt.1 q hq;lia,g7 λq hq=>by obtain⟨z,hz,rfl⟩:=RO.mp hq;exact h.pos z (Sa _ hz),h.pos x (RU _ Ru),h.bL x (RU _ Ru)⟩
def Ap.drop(h:Ap P0 B T C told (left++[x]))(c : ¬ (1<x.1/\x.2≠0)):Ap P0 B T C told left/\mu told left<mu told (left++[x]):=by
 have ⟨p1,p2,p3,_⟩:=h.pp;refine⟨⟨h.apt,h.ne,λz hz=>h.pos z (Sa _ hz),h.bT,λz hz=>h.bL z (Sa _ hz),λf hf=>?_,?_,?_⟩,?_⟩
 .have e:=h.sf f hf;rw[lE,vX] at e
  have:x.2*f x.1=0:=by
   by_cases z:x.2=0
   .rw[z];simp
   .rw[show x.1=1 by lia,hf.one];simp
  lia
 .have:=h.le
  rw[gQ] at this;lia
 .have f:=h.few;rw[Rx,dj,RF] at f
  have:=J9 (Sq p1 p2) (Sh (bS (told.map (·.1))) (UL (bS (left.map (·.1))) (by show 0<x.1*1;lia:0<bS ([x].map (·.1)))))
  lia
 .unfold mu;rw[Rx,dj,RF];show _<2*(_*(bS (left.map (·.1))*(x.1*1)))+(left.length+1)
  have:=Sh (bS (told.map (·.1))) (UL (bS (left.map (·.1))) (by lia:0<x.1*1))
  lia
def Ap.keep(h:Ap P0 B T C told (left++[x]))(c1:1<x.1)(c2:x.2≠0)(hc:∀z∈told,So z.1 x.1<=1):Ap P0 B T C (told++[x]) left/\mu (told++[x]) left<mu told (left++[x]):=by
 have ⟨p1,p2,p3,p4⟩:=h.pp
 have cop:∀z∈told,T6 z.1 x.1:=λz hz=>by
  have:=hc z hz
  have g:0<So z.1 x.1:=Nat.gcd_pos_of_pos_right _ p3;show So z.1 x.1=1;lia
 refine⟨⟨⟨λq hq=>?_,?_⟩,λz hz=>?_,λz hz=>h.pos z (Sa _ hz),λz hz=>?_,λz hz=>h.bL z (Sa _ hz),λf hf=>?_,?_,?_⟩,?_⟩
 .rw[Rx] at hq;rcases RX.mp hq with k|k
  .exact h.apt.1 q k
  .have:q=x.1:=by simpa using k
   lia
 .rw[Rx,List.pairwise_append];refine⟨h.apt.2,by simp,λa ha b hb=>?_⟩;obtain⟨z,hz,rfl⟩:=RO.mp ha
  have:b=x.1:=by simpa using hb
  rw[this];exact cop z hz
 .rcases RX.mp hz with k|k
  .exact h.ne z k
  .have:z=x:=by simpa using k
   rw[this];exact c2
 .rcases RX.mp hz with k|k
  .exact h.bT z k
  .have:z=x:=by simpa using k
   rw[this];exact p4
 .have e:=h.sf f hf;rw[lE,vX] at e;rw[lE,vX];lia
 .have:=h.le
  rw[gQ] at this;rw[gQ];lia
 .have f:=h.few;rw[Rx,dj,RF] at f;rw[Rx,dj,RF,SA,Tu (bS ([x].map (·.1)))];lia
 .unfold mu;rw[Rx,dj,Rx,dj,RF]
  have:bS (told.map (·.1))*bS ([x].map (·.1))*bS (left.map (·.1))=bS (told.map (·.1))*(bS (left.map (·.1))*bS ([x].map (·.1))):=by
   rw[SA,Tu (bS ([x].map (·.1)))]
  rw[this];show _<_+(left.length+1)
  lia
def Ap.split(h:Ap P0 B T C told (left++[x])){i:Nat}(hi:told[i]?=some y)(hg:1<So y.1 x.1) :
  Ap P0 B T C (told.eraseIdx i) (left++ze x y)/\mu (told.eraseIdx i) (left++ze x y)<mu told (left++[x]):=by
 have ⟨p1,p2,p3,p4⟩:=h.pp;have hy:=Ry hi;have y2:2<=y.1:=h.apt.1 y.1 (TN hy);have yB:=h.bT y hy;rw[Nat.gcd_comm] at hg;have hg2:2<=So x.1 y.1:=hg;have sub:(told.eraseIdx i).Sublist told:=List.eraseIdx_sublist _ _;have gl:So x.1 y.1<=x.1:=UF p3 (Xi _ _)
 have mem:∀z∈ze x y,0<z.1/\z.1<=B:=λz hz=>by
  have r1:=fU hg2 p3;have r2:=fU hg2 (by lia:0<y.1);have r3:=Gz hg2 p3;have r4:=Gz hg2 (by lia:0<y.1);unfold ze at hz;simp only[RW,U0,or_false] at hz;rcases hz with rfl|rfl|rfl
  .exact⟨r1,by show bX _ _<=_;lia⟩
  .exact⟨r2,by show bX _ _<=_;lia⟩
  .exact⟨by show 0<So _ _;lia,by show So _ _<=_;lia⟩
 have hv:2*(bS ((told.eraseIdx i).map (·.1))*bS ((left++ze x y).map (·.1)))<=bS (told.map (·.1))*bS ((left++[x]).map (·.1))/\2<=bS ((told.eraseIdx i).map (·.1))*bS ((left++ze x y).map (·.1)):=by
  have hi':(told.map (·.1))[i]?=some y.1:=by rw[Rt,hi];rfl
  rw[jx hi',<- Ca];generalize hP:bS ((told.map (·.1)).eraseIdx i)=P;have Pp:0<P:=Ta λz=>by rw[jx hi',hP,z] at p1;simp at p1
  rw[Rx,dj,Rx,dj];generalize hL:bS (left.map (·.1))=L at p2;have hf:=Qw p3 (by lia:0<y.1) hg2;show 2*(P*(L*(bX (So x.1 y.1) x.1*(bX (So x.1 y.1) y.1*(So x.1 y.1*1)))))<=y.1*P*(L*(x.1*1))/\2<=P*(L*(bX (So x.1 y.1) x.1*(bX (So x.1 y.1) y.1*(So x.1 y.1*1))));rw[VZ,VZ]
  have S1:2<=bX (So x.1 y.1) x.1*(bX (So x.1 y.1) y.1*So x.1 y.1):=by
   have r1:=fU hg2 p3;have r2:=fU hg2 (by lia:0<y.1)
   calc 2<=1*(1*So x.1 y.1):=by lia
    _<=_:=SE r1 (SE r2 (RB _))
  generalize bX (So x.1 y.1) x.1*(bX (So x.1 y.1) y.1*So x.1 y.1)=S at hf S1
  have q1:y.1*P*(L*x.1)=P*L*(x.1*y.1):=by
   rw[Tu y.1 P,SA,SA,UK y.1 L,Tu y.1]
  rw[q1,<- SA P L S];have q2:=Sh (P*L) hf;have q3:1<=P*L:=Sq Pp p2;have q4:=SE q3 S1;rw[UK] at q2;exact⟨q2,by lia⟩
 refine⟨⟨⟨λq hq=>h.apt.1 q ((sub.map _).subset hq),h.apt.2.sublist (sub.map _)⟩,λz hz=>h.ne z (sub.subset hz),λz hz=>?_,λz hz=>h.bT z (sub.subset hz),λz hz=>?_,λf hf=>?_,?_,?_⟩,?_⟩
 .rcases RX.mp hz with k|k
  .exact h.pos z (Sa _ k)
  .exact(mem z k).1
 .rcases RX.mp hz with k|k
  .exact h.bL z (Sa _ k)
  .exact(mem z k).2
 .have e:=h.sf f hf;rw[lE,vX,vY f hi] at e;rw[lE,OF hf p3 (by lia) hg2];lia
 .have e:=h.le;rw[gQ,HH,o7 hi] at e
  have:=HG p3 (by lia:0<y.1) hg2
  rw[gQ];lia
 .have f:=h.few;have lt:=(Rq.mp hi).1
  have:=Bh (Ta λz=>by rw[z] at hv;lia) hv.1
  rw[RF] at f ⊢;rw[Zn,if_pos lt];show told.length-1+(left.length+3)+_<=C;have f':told.length+(left.length+1)+(bS (told.map (·.1))*bS ((left++[x]).map (·.1))).log2<=C:=f;lia
 .unfold mu;rw[RF,RF];show _+(left.length+3)<_+(left.length+1)
  lia
variable{N0 F Wt:List Nat}{a b:Nat}
end Pw
namespace Tr
def Q_(a b c:Rat):a*(b*c)=b*(a*c):=by rw[<- SV,<- SV,ZaF a b]
end Tr
namespace Ev
open Bo Pw
abbrev vr(f:Nat->Int)(x:Rat):Int:=f x.num.natAbs-f x.den
def kF{x:Rat}(h:0<x):0<x.num.natAbs:=by
 have a:=WZ.mpr (XO h);have b:x.num≠0:=λz=>by rw[Zbh.mp z] at h;exact absurd h Rat.lt_irrefl
 lia
def kJ{f:Nat->Int}(hf:Add f){x y:Rat}(hx:0<x)(hy:0<y):vr f (x*y)=vr f x+vr f y:=by
 have e:(x*y).num*((x.den:Int)*y.den)=x.num*y.num*(x*y).den:=by
  have h:Sc (x*y).num (x*y).den=Sc (x.num*y.num) ((x.den:Int)*y.den):=by
   rw[T7,<- U6,T7,T7]
  have d1:((x*y).den:Int)≠0:=by have:=(x*y).den_nz;lia
  have d2:(x.den:Int)*y.den≠0:=Y3 (by have:=x.den_nz;lia) (by have:=y.den_nz;lia);exact(Ul d1 d2).mp h
 have e2:=congrArg Zbz e;rw[SL,SL,SL,SL,Se,Se,Se] at e2;have e3:=congrArg f e2;have px:=kF hx;have py:=kF hy;have pz:=kF (VY hx hy);have dx:=Ta x.den_nz;have dy:=Ta y.den_nz;have dz:=Ta (x*y).den_nz;rw[hf.mul _ _ pz (Sq dx dy),hf.mul _ _ dx dy,hf.mul _ _ (Sq px py) dz,hf.mul _ _ px py] at e3;unfold vr;lia
def uw{f:Nat->Int}(hf:Add f):vr f 1=0:=by
 have:=kJ hf (x:=1) (y:=1) (by decide) (by decide)
 rw[Uh] at this;lia
end Ev
namespace Dt
end Dt
namespace As
open PySem L2 Fr G1 Sm Vs G2 Ti
open PySem.W (Dat kqdOk)
abbrev Fine(es:List (Nat×Nat))(j:Nat):Prop:=∀x y,es[j]?=some (x,y)->Rch es y x
abbrev mJ(K:Fg):Sp:=λvs H Q _=>∃(v:V) (ws:List Str) (ts:List Tn),vs=[v]/\Rz K H v (dV ws ts)/\ts.length<=100 /\
 (∀i x y,(aD ts)[i]?=some (x,y)->(∀j<i,Fine (aD ts) j)->¬ Rch (aD ts) y x->∀H',Same H H'->Q (.int (i:Int)) H')/\((∀j,Fine (aD ts) j)->∀H',Same H H'->Q .non H')
abbrev ma(K:Fg):TS:=(am (a9 (iP K (ae (aw (je K) [] E0 (ae (aa 0) ai)) ai)) (cj K 2 (aY (al 1) (aY (al 2) ck)))
 (aS (aP (ao mY (aw (zj K) [] E0 (ae (aa 0) (ae (ao (aG K) (aa 2) (tC (.int 1))) (ae (ao (aG K) (aa 2) (tC (.int 0))) ai)))) (tC .non)))
 (aE (aa 1))
 a7))
 (aE (tC .non)))
def Aa{K:Fg}:ρ 3 (mJ K) (ma K):=by
 fail "R";obtain⟨v,ws,ts,rfl,rv,hl,k1,k2⟩:=h;rw[L2.aO hN];walk_at "t";have eo:=cV ts;unfold ma;cbv;refine⟨v,ws,ts,rfl,rv,hl,λpe H1 A1=>?_⟩;obtain⟨xs,hpe,rx⟩:=A1.at_;have S1:=A1.same;have lx:xs.length=(aD ts).length:=by rw[rx.length,Rm]
 cbv;refine⟨pe,xs,rfl,SqL.of hpe,?_⟩;refine dB (xs:=xs) (λi σ H2=>∃u1 u2:Option V,σ=[some v,u1,u2]/\Same H1 H2/\∀j<i,Fine (aD ts) j) ⟨none,none,rfl,Same.refl _,λj hj=>absurd hj (T_ _)⟩ (by rintro i σ H2 _ ⟨_,_,_,S,_⟩;exact SqL.of (S _ _ hpe)) ?_ ?_
 .rintro i z σ H2 T hz ⟨u1,u2,rfl,S2,dn⟩ nT;obtain⟨dd,g1,g2⟩:=rx.get hz;rw[Rt] at g1;obtain⟨e,he,rfl⟩:=RD.mp g1;obtain⟨x,y⟩:=e;have oe:=eo _ (Ry he);have S3:=aj nT (.tup [.int (i:Int),z]);obtain⟨pb,rfl,hpb⟩:=Cj ((g2.same S2).same S3);refine bG (SqT.of ag) rfl ?_;cbv;generalize upd H2 T (.tup [.int (i:Int),.ref pb])=H3 at S3 hpb ⊢;have S13:=S2.trans S3;refine aF (SqT.of hpb) (v:=.int (y:Int)) rfl ?_;cbv;refine aF (SqT.of hpb) (v:=.int (x:Int)) rfl ?_;cbv;refine⟨v,ws,ts,y,x,rfl,(rv.same S1).same S13,hl,oe.2,oe.1,λr p H4 S4=>?_,λnr H4 S4=>?_⟩
  .cbv;refine aX (λz=>nomatch z) (λ_=>?_);cbv;refine⟨_,_,rfl,S13.trans S4,λj hj x' y' ge=>?_⟩;by_cases ji:j<i
   .exact dn j ji x' y' ge
   .have:j=i:=by lia
    rw[this,he] at ge;cases RY ge;exact r
  .cbv;refine aX (λ_=>?_) (λz=>absurd rfl z);cbv;exact k1 i x y he dn nr H4 (S1.trans (S13.trans S4))
 .rintro σ H2 ⟨u1,u2,rfl,S2,dn⟩;cbv;refine k2 (λj=>?_) H2 (S1.trans S2);by_cases jl:j<xs.length
  .exact dn j jl
  .intro x y ge;rw[Sw (by lia)] at ge;cases ge
end As
namespace Pw
open PySem L2 Fr G1 Sm Vs G2 Rk Sz Sf Rw Ti
open PySem.W (Dat kqdOk)
def FN(m d:Nat):(m:Int).fmod (d:Int)=((m % d:Nat):Int):=by
 rw[XX _ (X4 d)];rfl
def FO(m d:Nat):(m:Int).fdiv (d:Int)=((m / d:Nat):Int):=by
 rw[XW _ (X4 d)];rfl
def G_(a b:Nat):Gd.gd (a:Int) (b:Int)=((So a b:Nat):Int):=rfl
def Ls{d m:Nat}(hd:2<=d)(hm:0<m)(h:d∣m):bC d m=bC d (m / d)+1/\bX d m=bX d (m / d)/\0<m / d/\m / d<m:=by
 obtain⟨k,rfl⟩:=h;have hk:0<k:=TJ hm;have e:=xW hd hk;rw[YH k (by lia:0<d)];refine⟨dq hd hk,by show(tk d (d*k)).2=_;rw[e],hk,?_⟩
 have:=Sv k hd
 lia
def Lr{d m:Nat}(h : ¬ d∣m):bC d m=0/\bX d m=m:=⟨jH h,congrArg X7 (HI h)⟩
abbrev DY(K:Fg):Sp:=λvs H Q _=>∃n d:Nat,vs=[.int (n:Int),.int (d:Int)]/\0<n/\2<=d/\d<2 ^ 9000/\∀(p:Addr) (H':Hp),Same H H'->Rz K H' (.ref p) (dI [(bC d n:Int),(bX d n:Int)])->Q (.ref p) H'
abbrev HM(K:Fg):TS:=(am (av (tC (.int 0)) (al 2))
 (am (ic (aP (ao gk (ao Jk (aa 0) (aa 1)) (tC (.int 0))))
 (am (av (ao EO (aa 0) (aa 1)) (al 0))
 (av (ao aW (aa 2) (tC (.int 1))) (al 2))))
 (aE (bg (ae (aa 2) (ae (aa 0) ai))))))
def LW{K:Fg}:ρ 3 (DY K) (HM K):=by
 fail "R";obtain⟨n,d,rfl,n0,d2,dw,k⟩:=h;rw[L2.aO hN];walk_at "t";unfold HM;cbv
 refine iW (λσ H'=>H'=H/\∃m c:Nat,σ=[↥(m:Int),↥(d:Int),↥(c:Int)]/\0<m/\bC d n=c+bC d m/\bX d n=bX d m)
  (λσ _=>match σ with | [↥m,_,_]=>m.toNat|_=>0) ⟨rfl,n,0,rfl,n0,by lia,rfl⟩ ?_ ?_
 .rintro σ H' ⟨rfl,m,c,rfl,m0,e1,e2⟩;cbv;refine fD (by lia) ?_;cbv;rw[FN];refine aX (λz=>?_) (λz=>?_)
  .have dv:d∣m:=Nat.dvd_of_mod_eq_zero (by lia);obtain⟨f1,f2,f3,f4⟩:=Ls d2 m0 dv;cbv;refine fD ⟨by lia,by show d<_;exact dw⟩ ?_;rw[FO];cbv;exact⟨⟨rfl,m / d,c+1,rfl,f3,by lia,by rw[e2,f2]⟩,by show(((m / d:Nat):Int)).toNat<((m:Nat):Int).toNat;lia⟩
  .have dv : ¬ d∣m:=λy=>z (by rw[Nat.mod_eq_zero_of_dvd y];rfl)
   obtain⟨f1,f2⟩:=Lr dv;cbv;refine⟨aM,λp np=>?_⟩
   have:=k p _ (aj np (.tup [.int (c:Int),.int (m:Int)]))
   rw[e1,e2,f1,f2] at this;exact this (.tup ag (RpL.ints [_,_]))
 .rintro σ H' R R' h ⟨w1,e1,w2,e2,i,j,e3,e4,c,sc,kk,ek,q⟩;exact⟨w1,e1,w2,e2,i,j,e3,e4,c,sc,kk,ek,h _ _ q⟩
abbrev jV(x:Pr):Dat:=dI [(x.1:Int),x.2]
abbrev sF(K:Fg):Sp:=λvs H Q _=>∃(u v:V) (x y:Pr),vs=[u,v]/\Rz K H u (jV x)/\Rz K H v (jV y)/\0<x.1/\0<y.1/\2<=So x.1 y.1/\x.1<2 ^ 8000/\y.1<2 ^ 8000/\x.2.natAbs<2 ^ 8000/\y.2.natAbs<2 ^ 8000 /\
 ∀(p:Addr) (H':Hp),AccZ K H p H' ((ze x y).map jV)->Q (.ref p) H'
def GR{d n:Nat}(hd:2<=d)(hn:0<n):bC d n<n:=by
 have e:=(gS hd n hn).1;have r:=fU hd hn;have l:bC d n<d ^ bC d n:=Nat.lt_pow_self (by lia)
 have:=Sh (d ^ bC d n) r
 lia
nonrec abbrev yc(K:Fg):TS:=(aE (bP (ae (bg (ae (ao (aG K) (aa 3) (tC (.int 1))) (ae (ao (aG K) (aa 0) (tC (.int 1))) ai))) (ae (bg (ae (ao (aG K) (aa 4) (tC (.int 1))) (ae (ao (aG K) (aa 1) (tC (.int 1))) ai))) (ae (bg (ae (aa 2) (ae (ao aW (ao eG (ao (aG K) (aa 3) (tC (.int 0))) (ao (aG K) (aa 0) (tC (.int 1)))) (ao eG (ao (aG K) (aa 4) (tC (.int 0))) (ao (aG K) (aa 1) (tC (.int 1))))) ai))) ai)))))
nonrec abbrev ya(K:Fg):TS:=(am (av (aw (Pw.DY K) [] E0 (ae (ao (aG K) (aa 0) (tC (.int 0))) (ae (aa 2) ai))) (al 3))
 (am (av (aw (Pw.DY K) [] E0 (ae (ao (aG K) (aa 1) (tC (.int 0))) (ae (aa 2) ai))) (al 4))
 (yc K)))
abbrev rM(K:Fg):TS:=(am (av (aw pf [] E0 (ae (ao (aG K) (aa 0) (tC (.int 0))) (ae (ao (aG K) (aa 1) (tC (.int 0))) ai))) (al 2))
 (ya K))
def En{K:Fg}:ρ 5 (sF K) (rM K):=by
 fail "R";obtain⟨u,v,x,y,rfl,ru,rv,x0,y0,g2,xb,yb,xe,ye,k⟩:=h;rw[L2.aO hN];walk_at "t";obtain⟨a,rfl,ha⟩:=bM ru;obtain⟨b,rfl,hb⟩:=bM rv;have p8:(2:Nat) ^ 8000<2 ^ 9000:=Tr.pw_lt (by decide);have p2:(2:Nat) ^ 8000<2 ^ 20000:=Tr.pw_lt (by decide);have ox:=GR g2 x0;have oy:=GR g2 y0;have gl:=UF x0 (Xi x.1 y.1);have k':=k;unfold ze at k';generalize hg:So x.1 y.1=g at *;generalize (2:Nat) ^ 8000=P8 at *;unfold rM;cbv;refine aF (SqT.of ha) (v:=.int (x.1:Int)) rfl ?_;cbv;refine aF (SqT.of hb) (v:=.int (y.1:Int)) rfl ?_;cbv;refine⟨_,_,rfl,?_⟩;rw[G_,hg];cbv;refine aF (SqT.of ha) (v:=.int (x.1:Int)) rfl ?_;cbv;refine⟨x.1,g,rfl,x0,g2,by lia,λp1 H1 S1 r1=>?_⟩;cbv;have hb1:=S1 _ _ hb;have ha1:=S1 _ _ ha;refine aF (SqT.of hb1) (v:=.int (y.1:Int)) rfl ?_;cbv;refine⟨y.1,g,rfl,y0,g2,by lia,λp3 H3 S3 r3=>?_⟩;have ha3:=S3 _ _ ha1;have hb3:=S3 _ _ hb1;obtain⟨_,q1,h1⟩:=bM (r1.same S3);cases q1;obtain⟨_,q3,h3⟩:=bM r3;cases q3;cbv;refine aF (SqT.of h1) (v:=.int (bX g x.1:Int)) rfl ?_;cbv;refine aF (SqT.of ha3) (v:=.int x.2) rfl ?_;cbv;refine⟨aM,λq1 n1=>?_⟩;have T1:=aj n1 (.tup [.int (bX g x.1:Int),.int x.2]);have z1:Rz K (upd H3 q1 (.tup [.int (bX g x.1:Int),.int x.2])) (.ref q1) (jV (bX g x.1,x.2)):=.tup ag (RpL.ints [_,_]);generalize upd H3 q1 (.tup [.int (bX g x.1:Int),.int x.2])=H4 at T1 z1 ⊢;cbv;refine aF (SqT.of (T1 _ _ h3)) (v:=.int (bX g y.1:Int)) rfl ?_;cbv;refine aF (SqT.of (T1 _ _ hb3)) (v:=.int y.2) rfl ?_;cbv;refine⟨aM,λq2 n2=>?_⟩;have T2:=aj n2 (.tup [.int (bX g y.1:Int),.int y.2]);have z2:Rz K (upd H4 q2 (.tup [.int (bX g y.1:Int),.int y.2])) (.ref q2) (jV (bX g y.1,y.2)):=.tup ag (RpL.ints [_,_]);generalize upd H4 q2 (.tup [.int (bX g y.1:Int),.int y.2])=H5 at T2 z2 ⊢;have T12:=T1.trans T2;cbv;refine aF (SqT.of (T12 _ _ h1)) (v:=.int (bC g x.1:Int)) rfl ?_;cbv;refine aF (SqT.of (T12 _ _ ha3)) (v:=.int x.2) rfl ?_;cbv;refine fD ⟨by show bC g x.1<_;lia,by lia⟩ ?_;cbv;refine aF (SqT.of (T12 _ _ h3)) (v:=.int (bC g y.1:Int)) rfl ?_;cbv;refine aF (SqT.of (T12 _ _ hb3)) (v:=.int y.2) rfl ?_;cbv;refine fD ⟨by show bC g y.1<_;lia,by lia⟩ ?_;cbv;refine⟨aM,λq3 n3=>?_⟩;have T3:=aj n3 (.tup [.int (g:Int),.int (bC g x.1*x.2+bC g y.1*y.2)]);have z3:Rz K (upd H5 q3 (.tup [.int (g:Int),.int (bC g x.1*x.2+bC g y.1*y.2)])) (.ref q3) (jV (g,bC g x.1*x.2+bC g y.1*y.2)):=.tup ag (RpL.ints [_,_]);generalize upd H5 q3 (.tup [.int (g:Int),.int (bC g x.1*x.2+bC g y.1*y.2)])=H6 at T3 z3 ⊢;cbv;refine⟨fS,λl nl=>?_⟩;have T4:=aj nl (.lst [.ref q1,.ref q2,.ref q3]);have S06:=((S1.trans S3).trans T12).trans T3;exact k' l _ ⟨S06.trans T4,S06.free nl,_,ag,.cons (((z1.same T2).same T3).same T4) (.cons ((z2.same T3).same T4) (.cons (z3.same T4) .nil))⟩
abbrev sI(K:Fg):Sp:=λvs H Q _=>∃(a:Addr) (xs:List V) (L:List Pr) (n:Nat),vs=[.ref a,.int (n:Int)]/\H a=some (.lst xs)/\RzL K H xs (L.map jV) /\
 (∀(i:Nat) (y:Pr) (H':Hp),Same H H'->L[i]?=some y->1<So y.1 n->Q (.int (i:Int)) H')/\∀H',Same H H'->(∀z∈L,So z.1 n<=1)->Q .non H'
abbrev rP(K:Fg):TS:=(am (a9 (iP K (ae (aa 0) ai)) (cj K 2 (aY (al 2) (aY (al 3) ck)))
 (aS (aP (ao EN (aw pf [] E0 (ae (ao (aG K) (aa 3) (tC (.int 0))) (ae (aa 1) ai))) (tC (.int 1))))
 (aE (aa 2))
 a7))
 (aE (tC .non)))
def Er{K:Fg}:ρ 4 (sI K) (rP K):=by
 fail "R";obtain⟨a,xs,L,n,rfl,ha,rx,k1,k2⟩:=h;rw[L2.aO hN];walk_at "t";unfold rP;cbv;refine⟨a,_,rfl,SqL.of ha,?_⟩;refine dB (xs:=xs) (λi σ H2=>∃u1 u2:Option V,σ=[⇑a,↥(n:Int),u1,u2]/\Same H H2/\∀j<i,∀z,L[j]?=some z->So z.1 n<=1) ⟨none,none,rfl,Same.refl _,λj hj=>absurd hj (T_ _)⟩ (by rintro i σ H2 _ ⟨_,_,_,S,_⟩;exact SqL.of (S _ _ ha)) ?_ ?_
 .rintro i z σ H2 T hz ⟨u1,u2,rfl,S,d⟩ nT;obtain⟨dd,g1,g2⟩:=rx.get hz;rw[Rt] at g1;obtain⟨y,hy,rfl⟩:=RD.mp g1;have S1:=aj nT (.tup [.int (i:Int),z]);have S2:=S.trans S1;obtain⟨b,rfl,hb⟩:=bM (g2.same S2);have hT:upd H2 T (.tup [.int (i:Int),.ref b]) T=some (.tup [.int (i:Int),.ref b]):=ag;generalize upd H2 T (.tup [.int (i:Int),.ref b])=H3 at S1 S2 hT hb ⊢;refine bG (SqT.of hT) rfl ?_;cbv;refine aF (SqT.of hb) (v:=.int (y.1:Int)) rfl ?_;cbv;refine⟨_,_,rfl,?_⟩;rw[G_];cbv;refine aX (λc=>?_) (λc=>?_)
  .cbv;exact k1 i y H3 S2 hy (by lia)
  .cbv;refine⟨_,_,rfl,S2,λj hj z hz=>?_⟩;by_cases e:j=i
   .rw[e,hy] at hz;cases hz;lia
   .exact d j (by lia) z hz
 .rintro σ H2 ⟨u1,u2,rfl,S,d⟩;cbv;refine k2 H2 S λz hz=>?_
  obtain⟨j,hj⟩:=SN hz
  have:=(Rq.mp hj).1
  exact d j (by rw[rx.length,Rm];exact this) z hj
def Nx{K:Fg}{ds:List Dat}{d:Dat}{Q:VK}(A:AccZ K H0 l H (ds++[d]))
  (h:∀y H2,Rz K H2 y d->AccZ K H0 l H2 ds->(∀{m:Addr} {es:List Dat},m≠l->AccZ K H0 m H es->AccZ K H0 m H2 es)->Q y H2):Jj (.ref l) [] H Q:=by
 obtain⟨xs,h1,h2⟩:=A.at_
 obtain⟨a,b,rfl,ra,rb⟩:∃a b,xs=a++[b]/\RzL K H a ds/\Rz K H b d:=by
  have ll:=h2.length;rw[RF] at ll;have hne:xs≠[]:=λz=>by rw[z] at ll;simp at ll
  refine⟨xs.dropLast,xs.getLast hne,(XI hne).symm,?_⟩;have e:=(XI hne).symm;rw[e] at h2;generalize xs.dropLast=a at h2;generalize xs.getLast hne=b at h2;clear e ll h1 A h hne
  induction a generalizing ds with
  |nil =>
   cases ds with
   |nil=>cases h2 with|cons r _=>exact⟨.nil,r⟩
   |cons e es=>cases h2 with|cons _ r=>cases es <;> cases r
  |cons x a ih =>
   cases ds with
   |nil=>cases h2 with|cons _ r=>cases a <;> cases r
   |cons e es=>cases h2 with|cons q r=>exact⟨.cons q (ih r).1,(ih r).2⟩
 refine⟨l,a++[b],b,rfl,rfl,h1,by rw[RF];show(a++[b])[a.length+1-1]? = _;simp,?_⟩;rw[List.dropLast_concat];exact h b _ (Rz.upd rb h1) ⟨A.ag,A.new,a,ag,RzL.upd ra h1⟩ λne B=>B.other ne A.new h1
def pP{K:Fg}{H:Hp}:∀{xs:List V} {ds:List Dat} (i:Nat),RzL K H xs ds->RzL K H (xs.eraseIdx i) (ds.eraseIdx i)
 |_,_,_,.nil=>.nil
 |_,_,0,.cons _ r=>r
 |_,_,i+1,.cons q r=>.cons q (pP i r)
def Fp{K:Fg}{d:Dat}{i:Nat}{Q:VK}(A:AccZ K H0 l H ds)(hi:ds[i]?=some d)(n:ds.length<2 ^ 62)
  (h:∀y H2,Rz K H2 y d->AccZ K H0 l H2 (ds.eraseIdx i)->(∀{v:V} {e:Dat},Rz K H v e->Rz K H2 v e)->(∀{m:Addr} {es:List Dat},m≠l->AccZ K H0 m H es->AccZ K H0 m H2 es)->Q y H2):Ae (.ref l) [.int (i:Int)] H Q:=by
 obtain⟨xs,h1,h2⟩:=A.at_;have li:=(Rq.mp hi).1;have lx:=h2.length;obtain⟨y,hy⟩:∃y,xs[i]?=some y:=⟨_,Rn (by lia)⟩
 obtain⟨e,g1,g2⟩:=h2.get hy;rw[hi] at g1;cases g1;refine⟨l,xs,i,i,y,rfl,rfl,h1,by lia,by lia,?_,hy,h y _ (Rz.upd g2 h1) ⟨A.ag,A.new,_,ag,RzL.upd (pP i h2) h1⟩ (λq=>Rz.upd q h1) λne B=>B.other ne A.new h1⟩;unfold seqIndex?;simp;lia
def NI{K:Fg}{Q:VK}(A:AccZ K H0 l H ds)(hb:H b=some (.lst zs))(rz:RzL K H zs es)(n:ds.length+es.length<=sizeLine)
  (h:∀H2,AccZ K H0 l H2 (ds++es)->(∀{m:Addr} {fs:List Dat},m≠l->AccZ K H0 m H fs->AccZ K H0 m H2 fs)->Q .non H2):jv (.ref l) [.ref b] H Q:=by
 obtain⟨xs,h1,h2⟩:=A.at_;exact⟨l,b,xs,zs,rfl,rfl,h1,hb,by rw[h2.length,rz.length];exact n,h _ ⟨A.ag,A.new,_,ag,RzL.upd (h2.append rz) h1⟩ λne B=>B.other ne A.new h1⟩
def De{c:TT}{tb:TS}{D:bH}{H:Hp}(Pv:Nat->St->Hp->Prop)(h0:Pv m σ H)
  (hs:∀m σ H,Pv m σ H->c σ H λb H1=>if b=true then tb {D with nx:=λσ' H'=>∃k,k<m/\Pv k σ' H',ct:=λσ' H'=>∃k,k<m/\Pv k σ' H',bk:=D.nx} σ H1 else D.nx σ H1)
  (mono:∀σ H Q Q',(∀b H1,Q b H1->Q' b H1)->c σ H Q->c σ H Q'):ic c tb D σ H:=by
 refine⟨Pv,⟨m,h0⟩,λn σ H p=>mono σ H _ _ (λb H1 q=>?_) (hs n σ H p)⟩;cases b with
 |true=>exact⟨_,λσ' H' h=>h,q⟩
 |false=>exact q
abbrev mK(K:Fg):Sp:=λvs H Q _=>∃(a:Addr) (xs:List V) (P0:List Pr),vs=[.ref a]/\H a=some (.lst xs)/\RzL K H xs (P0.map jV)/\(∀x∈P0,0<x.1/\x.1<2 ^ 8000)/\gR P0<2 ^ 8000/\P0.length+(bS (P0.map (·.1))).log2<2 ^ 20 /\
 ∀(p:Addr) (H':Hp) (T:List Pr),AccZ K H p H' (T.map jV)->Gp (T.map (·.1))->(∀x∈T,x.2≠0)->(∀f,Add f->SF f T=SF f P0)->T.length<2 ^ 20->Q (.ref p) H'
def rF:∀{L:List Pr} {x:Pr},x∈L->2<=x.1->x.2.natAbs<=gR L
 |y :: L,x,h,h2=>by
  show _<=y.2.natAbs*y.1.log2+gR L;rcases RW.mp h with e|e
  .subst e
   have:1<=x.1.log2:=(Zp (by lia)).mpr (by lia)
   have:=Sh x.2.natAbs this
   lia
  .have:=rF e h2
   lia
nonrec abbrev yV(K:Fg):TS:=(aS (aP (ao mY (aa 4) (tC .non)))
 (bn (dD K "list" aJ (aa 1) (ae (aa 3) ai)))
 (bn (dD K "list" jv (aa 2) (ae (aw (Pw.sF K) [] E0 (ae (aa 3) (ae (dD K "list" Ae (aa 1) (ae (aa 4) ai)) ai))) ai))))
nonrec abbrev yU(K:Fg):TS:=(aS (mn (aP (ao EN (ao (aG K) (aa 3) (tC (.int 0))) (tC (.int 1)))) (aP (ao GA (ao (aG K) (aa 3) (tC (.int 1))) (tC (.int 0)))))
 (am (av (aw (Pw.sI K) [] E0 (ae (aa 1) (ae (ao (aG K) (aa 3) (tC (.int 0))) ai))) (al 4))
 (yV K))
 a7)
abbrev so(K:Fg):TS:=(am (av (bP ai) (al 1))
 (am (av (bU (eI K) (ae (aa 0) ai)) (al 2))
 (am (ic (aP (ao EN (bU (bZ K) (ae (aa 2) ai)) (tC (.int 0))))
 (am (av (Ic K "list" Jj (aa 2)) (al 3))
 (yU K)))
 (aE (aa 1)))))
def EH{K:Fg}:ρ 5 (mK K) (so K):=by
 fail "R";obtain⟨a,xs,P0,rfl,ha,rx,pos,ht,hc,k⟩:=h;rw[L2.aO hN];walk_at "t";obtain⟨B,hB⟩:∃B,B+1=2 ^ 8000:=⟨2 ^ 8000-1,Nat.sub_add_cancel (To (by decide))⟩
 rw[<- hB] at pos ht;have s24:sizeLine=16777216:=by decide
 have lt8:∀{n:Nat},n<=B->n<2 ^ 8000:=λ{n} h=>by rw[<- hB];lia
 unfold so;cbv;refine⟨by show 0<=sizeLine;exact SD _,λl nl=>?_⟩;have A1:AccZ K H l (upd H l (.lst [])) []:=AccZ.start (Same.refl _) nl;have ha1:=aj nl (.lst []) _ _ ha;have rx1:=rx.same (aj nl (.lst []));generalize upd H l (.lst [])=H1 at A1 ha1 rx1 ⊢;cbv;refine oj (SqL.of ha1) λm nm=>?_
 have Sm_:=aj nm (.lst xs);have lm:l≠m:=λz=>by obtain⟨_,h1,_⟩:=A1.at_;rw[z,nm] at h1;cases h1
 have A2:=A1.on Sm_;have A3:AccZ K H m (upd H1 m (.lst xs)) (P0.map jV):=⟨A2.same,A1.same.free nm,xs,ag,rx1.same Sm_⟩
 generalize upd H1 m (.lst xs)=H2 at A2 A3 ⊢;cbv
 refine De (λn σ H'=>∃(told left:List Pr) (u1 u2:Option V),n=mu told left/\σ=[⇑a,⇑l,⇑m,u1,u2]/\AccZ K H l H' (told.map jV)/\AccZ K H m H' (left.map jV)/\Ap P0 B (gR P0) (P0.length+(bS (P0.map (·.1))).log2) told left)
  ⟨[],P0,none,none,rfl,rfl,A2,A3,Ap.start λx hx=>⟨(pos x hx).1,by have:=(pos x hx).2;lia⟩⟩ ?_ ?_
 .rintro _ σ H3 ⟨told,left,u1,u2,rfl,rfl,AT,AL,ap⟩;have few:=ap.few;obtain⟨zs,hz,rz⟩:=AL.at_;have lz:zs.length=left.length:=by rw[rz.length,Rm]
  cbv;refine cw (SqL.of hz) ?_;cbv;rw[lz];refine aX (λc=>?_) (λc=>?_)
  .rcases List.eq_nil_or_concat left with e|⟨L,x,e⟩
   .rw[e] at c;simp at c
   rw[List.concat_eq_append] at e;subst e;rw[Rx] at AL;have lf:told.length+(L.length+1)<2 ^ 20:=by rw[RF] at few;show told.length+(L.length+[x].length)<_;lia
   cbv;refine⟨AL.ty,Nx (ds:=L.map jV) AL λy H4 ry AL4 bY=>?_⟩;have AT4:=bY lm AT;obtain⟨b,rfl,hb⟩:=bM ry;cbv;refine aF (SqT.of hb) (v:=.int (x.1:Int)) rfl ?_;cbv;refine aX (λc1=>?_) (λc1=>?_)
   .cbv;refine aF (SqT.of hb) (v:=.int x.2) rfl ?_;cbv;refine im (λc2=>?_) (λc2=>?_)
    .have x2:1<x.1:=by lia
     obtain⟨ys,hy,rY⟩:=AT4.at_;cbv;refine aF (SqT.of hb) (v:=.int (x.1:Int)) rfl ?_;cbv;refine⟨l,ys,told,x.1,rfl,hy,rY,λi y H5 S5 hi hg=>?_,λH5 S5 no=>?_⟩
     .have AT5:=AT4.on S5;have AL5:=AL4.on S5;have rx5:=ry.same S5;cbv;refine aX (λz=>nomatch z) (λ_=>?_);cbv;refine⟨AL5.ty,?_⟩;cbv;refine⟨AT5.ty,?_⟩;cbv;refine Fp AT5 (d:=jV y) (i:=i) (by rw[Rt,hi];rfl) (by rw[Rm];lia) λy' H6 ry' AT6 rz6 oth6=>?_
      have AL6:=oth6 (λz=>lm z.symm) AL5;have hyT:=Ry hi;have y2:2<=y.1:=ap.apt.1 y.1 (TN hyT);have yB:=ap.bT y hyT;have xB:=ap.bL x (RU _ Ru);have le:=ap.le;have t1:=rF hyT y2;have t2:=rF (L:=L++[x]) (RU _ Ru) (by lia:2<=x.1);have g2:2<=So x.1 y.1:=by rw[Nat.gcd_comm];exact hg
      cbv;refine⟨_,y',x,y,rfl,rz6 rx5,ry',by lia,by lia,g2,lt8 xB,lt8 yB,lt8 (by lia),lt8 (by lia),λp H7 A7=>?_⟩;obtain⟨zs7,h7,r7⟩:=A7.at_;cbv;have s1:=ap.split hi hg;have AL7:=AL6.on A7.same;refine NI AL7 h7 r7 (by rw[Rm,Rm];show L.length+3<=_;lia) λH8 AL8 oth8=>?_
      have AT8:=oth8 lm (AT6.on A7.same);cbv;exact⟨_,s1.2,told.eraseIdx i,L++ze x y,_,_,rfl,rfl,by rw[<- Ca];exact AT8,by rw[Rx];exact AL8,s1.1⟩
     .have AT5:=AT4.on S5;have AL5:=AL4.on S5;cbv;refine aX (λ_=>?_) (λz=>absurd rfl z);cbv;refine⟨AT5.ty,?_⟩;cbv;refine bW AT5 (ry.same S5) (by rw[Rm];lia) λH6 AT6 rz6 _ oth6=>?_
      have AL6:=oth6 (λz=>lm z.symm) AL5;cbv;exact⟨_,(ap.keep x2 c2 no).2,told++[x],L,_,_,rfl,rfl,by rw[Rx];exact AT6,AL6,(ap.keep x2 c2 no).1⟩
    .cbv;have dr:=ap.drop λz=>z.2 c2
     exact⟨_,dr.2,told,L,_,_,rfl,rfl,AT4,AL4,dr.1⟩
   .cbv;have dr:=ap.drop λz=>c1 (by lia)
    exact⟨_,dr.2,told,L,_,_,rfl,rfl,AT4,AL4,dr.1⟩
  .have e:left=[]:=SX (by lia);subst e;cbv;exact k l H3 told AT ap.apt ap.ne (λf hf=>by have:=ap.sf f hf;simpa[SF] using this) (by lia)
 .rintro σ H' R R' h ⟨w1,e1,p,ys,e3,e4,i,j,e5,e6,kk,e7,q⟩;exact⟨w1,e1,p,ys,e3,e4,i,j,e5,e6,kk,e7,h _ _ q⟩
abbrev wl(w:Nat->Rat)(n:Nat):List (Nat×Nat):=(RQ n).map λi=>((w i).num.natAbs,(w i).den)
def xL:∀{A B:List (Nat×Nat)} {R S:List Int},A.length=R.length->gP (A++B) (R++S)=gP A R++gP B S
 |[],_,[],_,_=>rfl
 |_ :: A,B,_ :: R,S,h=>by show _ :: _ :: gP (A++B) (R++S)=_;rw[xL (by simpa using h)];rfl
def rE:∀{A:List (Nat×Nat)} {R:List Int},A.length=R.length->(gP A R).length=2*R.length
 |[],[],_=>rfl
 |_ :: A,_ :: R,h=>by show(gP A R).length+2=2*(R.length+1);rw[rE (by simpa using h)];lia
abbrev DX(K:Fg):Sp:=λvs H Q _=>∃(a b:Addr) (xs:List V) (row:List Int) (w:Nat->Rat),vs=[.ref a,.ref b]/\H a=some (.lst xs)/\H b=some (.lst (row.map V.int))/\xs.length=row.length/\row.length<=100/\(∀i x,xs[i]?=some x->Tr.QV K H x (w i)/\0<(w i).num) /\
 ∀(p:Addr) (H':Hp),AccZ K H p H' ((gP (wl w row.length) row).map jV)->Q (.ref p) H'
nonrec abbrev HK (K:Fg):TS:=(am (bn (dD K "list" aJ (aa 2) (ae (bg (ae (ao (aG K) (aa 3) (tC (.int 0))) (ae (aa 4) ai))) ai)))
 (bn (dD K "list" aJ (aa 2) (ae (bg (ae (ao (aG K) (aa 3) (tC (.int 1))) (ae (HY (rU λi=>.int (-i)) (aa 4)) ai))) ai))))
abbrev HL(K:Fg):TS:=(am (av (bP ai) (al 2))
 (am (a9 (tO K .L .L (ae (aa 0) (ae (aa 1) ai))) (cj K 2 (aY (al 3) (aY (al 4) ck)))
 (HK K))
 (aE (aa 2))))
def LV{K:Fg}:ρ 5 (DX K) (HL K):=by
 fail "R";obtain⟨a,b,xs,row,w,rfl,ha,hb,lx,l1,qx,k⟩:=h;rw[L2.aO hN];walk_at "t";unfold HL;cbv;refine⟨by show 0<=sizeLine;exact SD _,λl nl=>?_⟩;have A1:AccZ K H l (upd H l (.lst [])) []:=AccZ.start (Same.refl _) nl;generalize upd H l (.lst [])=H1 at A1 ⊢;cbv;refine⟨a,b,xs,_,rfl,SqL.of (A1.same _ _ ha),SqL.of (A1.same _ _ hb),?_⟩;refine BW (n:=row.length) lx (by rw[Rm]) (λi σ H2=>∃u1 u2:Option V,σ=[⇑a,⇑b,⇑l,u1,u2]/\AccZ K H l H2 ((gP (wl w i) (row.take i)).map jV)) ⟨none,none,rfl,A1⟩ (λi σ H2 _ ⟨_,_,_,A⟩=>⟨SqL.of (A.same _ _ ha),SqL.of (A.same _ _ hb)⟩) ?_ ?_
 .rintro i x y σ H2 T hx hy ⟨u1,u2,rfl,A2⟩ nT;rw[Rt] at hy;obtain⟨e,he,rfl⟩:=RD.mp hy;have li:=(Rq.mp he).1;obtain⟨q,wp⟩:=qx i x hx;have S3:=aj nT (.tup [x,.int e]);have A3:=A2.on S3;have hT:upd H2 T (.tup [x,.int e]) T=some (.tup [x,.int e]):=ag;generalize upd H2 T (.tup [x,.int e])=H3 at S3 A3 hT ⊢;refine bG (SqT.of hT) rfl ?_;have nn:((w i).num.natAbs:Int)=(w i).num:=by lia
  have lw:(wl w i).length=(row.take i).length:=by unfold wl;rw[Rm,R5,RT];lia
  have ll:=rE lw;rw[RT] at ll
  have em:(gP (wl w (i+1)) (row.take (i+1))).map jV=(gP (wl w i) (row.take i)).map jV++[jV ((w i).num.natAbs,e)]++[jV ((w i).den,-e)]:=by
   rw[RP,he,show wl w (i+1)=wl w i++[((w i).num.natAbs,(w i).den)] by unfold wl;rw[UQ,Rx];rfl,xL lw,Rx,Tf];rfl
  cbv;refine⟨A3.ty,?_⟩;cbv;obtain⟨p,rfl,hp⟩:=q.same A3.same;refine aF hp (v:=.int (w i).num) rfl ?_;cbv;refine⟨aM,λt nt=>?_⟩;have S4:=aj nt (.tup [.int (w i).num,.int e])
  have z4:Rz K (upd H3 t (.tup [.int (w i).num,.int e])) (.ref t) (jV ((w i).num.natAbs,e)):=by
   show Rz K _ _ (dI [((w i).num.natAbs:Int),e]);rw[nn];exact .tup ag (RpL.ints [_,_])
  have A4:=A3.on S4;generalize upd H3 t (.tup [.int (w i).num,.int e])=H4 at S4 z4 A4 ⊢;cbv;refine bW A4 z4 (aq (by rw[Rm,ll];lia)) λH5 A5 _ _ _=>?_
  cbv;refine⟨A5.ty,?_⟩;cbv;obtain⟨p',e',hp'⟩:=(qx i _ hx).1.same A5.same;cases e';refine aF hp' (v:=.int ((w i).den:Int)) rfl ?_;cbv;refine⟨aM,λt' nt'=>?_⟩;have S6:=aj nt' (.tup [.int ((w i).den:Int),.int (-e)]);have z6:Rz K (upd H5 t' (.tup [.int ((w i).den:Int),.int (-e)])) (.ref t') (jV ((w i).den,-e)):=.tup ag (RpL.ints [_,_]);have A6:=A5.on S6;generalize upd H5 t' (.tup [.int ((w i).den:Int),.int (-e)])=H6 at S6 z6 A6 ⊢;cbv;refine bW A6 z6 (aq (by rw[RF,Rm,ll];show _+1<=_;lia)) λH7 A7 _ _ _=>?_
  cbv;exact⟨_,_,rfl,by rw[em];exact A7⟩
 .rintro σ H2 ⟨u1,u2,rfl,A2⟩;cbv;rw[SZ] at A2;exact k l H2 A2
open PySem L2 Fr G1 Sm Vs G2 Rk Sz Sf Rw Ti Lo Lc Tr
def J8{a b:Nat}(ha:0<a)(hb:0<b):(a*b).log2<=a.log2+b.log2+1:=by
 have:a*b<2 ^ (a.log2+b.log2+2):=by
  rw[show a.log2+b.log2+2=(a.log2+1)+(b.log2+1) by lia,Vj];exact Xg ZaY ZaY
 have:=(Ye (UD (Sq ha hb))).mpr this
 lia
def vL{c M:Nat}:∀{L:List Pr},(∀x∈L,0<x.1/\x.1<2 ^ c/\x.2.natAbs<=M)->gR L<=L.length*(M*c)/\0<bS (L.map (·.1))/\(bS (L.map (·.1))).log2<=L.length*(c+1)
 |[],_=>⟨SD _,by decide,by show Nat.log2 1<=0*(c+1);rw[XQ];decide⟩
 |x :: L,h=>by
  obtain⟨a,b,e⟩:=vL (c:=c) (M:=M) (L:=L) λy hy=>h y (RA _ hy)
  obtain⟨x0,xc,xm⟩:=h x Ru;have l:x.1.log2<=c:=UC ((Ye (by lia)).mpr xc);refine⟨?_,Sq x0 b,?_⟩
  .show x.2.natAbs*x.1.log2+gR L<=(L.length+1)*(M*c);rw[Vz]
   have:=SE xm l
   lia
  .show(x.1*bS (L.map (·.1))).log2<=(L.length+1)*(c+1);rw[Vz]
   have:=J8 x0 b
   lia
def xK{P:Nat×Nat->Prop}{M:Nat}{x:Pr}:∀{W:List (Nat×Nat)} {R:List Int},(∀w∈W,P w)->(∀c∈R,c.natAbs<=M)->x∈gP W R->(∃w,P w/\(x.1=w.1\/x.1=w.2))/\x.2.natAbs<=M
 |w :: W,e :: R,hW,hR,h=>by
  rcases RW.mp h with q|q
  .rw[q];exact⟨⟨w,hW w Ru,.inl rfl⟩,hR e Ru⟩
  .rcases RW.mp q with q|q
   .rw[q];exact⟨⟨w,hW w Ru,.inr rfl⟩,by show(-e).natAbs<=M;rw[Int.natAbs_neg];exact hR e Ru⟩
   .exact xK (λy hy=>hW y (RA _ hy)) (λy hy=>hR y (RA _ hy)) q
 |[],_,_,_,h=>by cases h
 |_ :: _,[],_,_,h=>by cases h
structure uk (w:Nat) (ts:List Tn):Prop where
 co:La w ts
 h8:(a8 ts).length<=8
 l8:(cY ts).length<=8
 wide:Wide w (a8 ts)
 bnd:Db 2 (a8 ts)
 nn:∀r∈a8 ts,∀c∈r,0<=c
 pa:cy ts
abbrev wW (ts:List Tn):List (Nat×Nat):=wl (Wt ts) (a8 ts).length
abbrev mks(ts:List Tn):List (List Int):=(OY (f9 ts)).makers
abbrev ur(ts:List Tn):Prop:=∀j,As.Fine (aD ts) j
abbrev uM(K:Fg):Sp:=λvs H Q _=>∃(v:V) (ws:List Str) (ts:List Tn) (w:Nat),vs=[v]/\Rz K H v (dV ws ts)/\uk w ts /\
 (∀(i x y:Nat) (p:Addr) (H':Hp),(aD ts)[i]?=some (x,y)->(∀j<i,As.Fine (aD ts) j)->¬ Rch (aD ts) y x->Same H H'->H p=none->H' p=some (.tup [.bl false,.int (i:Int)])->Q (.ref p) H') /\
 (∀(j:Nat) (m:List Int) (p r:Addr) (H':Hp),ur ts->(mks ts)[j]?=some m->(∀i<j,∀m',(mks ts)[i]?=some m'->One (wW ts) m')->¬ One (wW ts) m->Same H H'->H p=none->H r=none->H' p=some (.tup [.bl false,.ref r])->H' r=some (.lst (m.map V.int))->Q (.ref p) H') /\
 ∀(p f:Addr) (xs:List V) (H':Hp),ur ts->(∀m∈mks ts,One (wW ts) m)->Same H H'->H p=none->H f=none->H' p=some (.tup [.bl true,.ref f])->H' f=some (.lst xs)->xs.length=(a8 ts).length->(∀i x,xs[i]?=some x->QV K H' x (Wt ts i))->Q (.ref p) H'
def KW(pa:cy ts)(t8:ts.length<=8)(h8:(a8 ts).length<=8){h:Nat}(hh:h<(a8 ts).length):Bq 3900 (Wt ts h):=by
 have p1:=jY pa;refine e_ pa t8 (OB pa t8 h8 hh) (To p1) (RJ p1 (by decide)) ?_;unfold MM;exact SE (by lia) (RJ (Sq (by decide) p1) (by decide))
def vn(o:uk w ts){m:List Int}(hm:m∈mks ts):m.length=(a8 ts).length/\(∀q,bA m (f9 ts) q=0)/\∀c∈m,c.natAbs<2 ^ 800:=by
 have hw:=kU o.wide;have hb:=qE o.bnd;have G:=(Mk.M4 hw (by decide) hb (f9 ts).length (RB _)).good m hm;refine⟨G.len.trans (jJ ts),G.nought,λc hc=>R3 (G.bnd c hc) (RJ (by decide) ?_)⟩;have h8:=o.h8;refine RN (show bits 2 _<=bits 2 8 from ?_) (by decide);unfold bits;exact Nat.sub_le_sub_right (Sh _ (RJ (by decide) (RN (YA _ _) (by rw[jJ];exact h8)))) 1
def LS(o:uk w ts)(af:ur ts){m:List Int}(lm:m.length=(a8 ts).length)(bm:∀c∈m,c.natAbs<=2 ^ 800) :
  (∀x∈gP (wW ts) m,0<x.1/\x.1<2 ^ 8000)/\gR (gP (wW ts) m)<2 ^ 8000/\(gP (wW ts) m).length+(bS ((gP (wW ts) m).map (·.1))).log2<2 ^ 20:=by
 have h8:=o.h8;have lw:(wW ts).length=m.length:=by unfold wW wl;rw[Rm,R5,lm]
 have ll:=rE lw
 have all:∀x∈gP (wW ts) m,0<x.1/\x.1<2 ^ 3900/\x.2.natAbs<=2 ^ 800:=λx hx=>by
  obtain⟨⟨u,⟨a,b,c,d⟩,e⟩,f⟩:=xK (P:=λu=>0<u.1/\0<u.2/\u.1<2 ^ 3900/\u.2<2 ^ 3900) (M:=2 ^ 800) (λu hu=>by
   unfold wW wl at hu
   obtain⟨i,hi,rfl⟩:=RO.mp hu
   have li:=Sr.mp hi
   have wb:=KW o.pa o.co.le o.h8 li
   have wp:=q_ o.pa (λe he=>by obtain⟨j,hj⟩:=SN he;exact af j e.1 e.2 hj) li
   exact⟨by show 0<(Wt ts i).num.natAbs;lia,Ta (Wt ts i).den_nz,wb.1,wb.2⟩) bm hx
  rcases e with e|e <;> rw[e]
  .exact⟨a,c,f⟩
  .exact⟨b,d,f⟩
 obtain⟨t1,t2,t3⟩:=vL all;have p1:(2:Nat) ^ 3900<2 ^ 8000:=pw_lt (by decide);have p2:16*(2 ^ 800*3900)<(2:Nat) ^ 8000:=R3 (by decide:16*(2 ^ 800*3900)<2 ^ 820) (RJ (by decide) (by decide));refine⟨λx hx=>⟨(all x hx).1,SY (all x hx).2.1 p1⟩,RS (RN t1 (Sv _ (by lia))) p2,?_⟩
 have:=Sv (3900+1) (by lia:(gP (wW ts) m).length<=16)
 lia
def Q8(o:uk w ts)(af:ur ts){m:List Int}(hm:m∈mks ts) :
  (∀x∈gP (wW ts) m,0<x.1/\x.1<2 ^ 8000)/\gR (gP (wW ts) m)<2 ^ 8000/\(gP (wW ts) m).length+(bS ((gP (wW ts) m).map (·.1))).log2<2 ^ 20:=by
 obtain⟨lm,_,bm⟩:=vn o hm;exact LS o af lm λc hc=>UC (bm c hc)
nonrec abbrev DS(K:Fg):TS:=(am (a9 (cg K (aw (sL K) [] E0 (ae (aa 0) ai))) (al 3)
 (aS (aP (ao EN (bU (bZ K) (ae (aw (Pw.mK K) [] E0 (ae (aw (Pw.DX K) [] E0 (ae (aa 2) (ae (aa 3) ai))) ai)) ai)) (tC (.int 0))))
 (aE (bg (ae (tC (.bl false)) (ae (aa 3) ai))))
 a7))
 (aE (bg (ae (tC (.bl true)) (ae (aa 2) ai)))))
abbrev yL(K:Fg):TS:=(am (av (aw (As.mJ K) [] E0 (ae (aa 0) ai)) (al 1))
 (am (aS (aP (ao Mf (aa 1) (tC .non)))
 (aE (bg (ae (tC (.bl false)) (ae (aa 1) ai))))
 a7)
 (am (av (aw (sD K) [] E0 (ae (aa 0) ai)) (al 2))
 (DS K))))
def IU{K:Fg}:ρ 4 (uM K) (yL K):=by
 fail "R";obtain⟨v,ws,ts,w,rfl,rv,o,k1,k2,k3⟩:=h;rw[L2.aO hN];walk_at "t";have t8:=o.co.le;have h8:=o.h8;unfold yL;cbv;refine⟨v,ws,ts,rfl,rv,by lia,λi x y he fi nr H1 S1=>?_,λaf H1 S1=>?_⟩
 .cbv;refine im (λ_=>?_) (λz=>nomatch z);cbv;refine⟨aM,λp np=>?_⟩;exact k1 i x y p _ he fi nr (S1.trans (aj np _)) (S1.free np) ag
 .have af:ur ts:=af;cbv;refine im (λz=>absurd rfl z) (λ_=>?_);cbv;refine⟨v,ws,ts,rfl,rv.same S1,t8,h8,o.pa,λf H2 xs nf S2 hf lf qf=>?_⟩;have S02:=S1.trans S2;cbv;refine⟨v,ws,ts,w,rfl,rv.same S02,o.co,h8,o.l8,o.wide,o.bnd,λpl H3 S3 r3=>?_⟩;have S03:=S02.trans S3;obtain⟨_,ys,e,_,hpl,ry⟩:=r3.kT;cases e;have ly:ys.length=(mks ts).length:=by rw[ry.length,Rm];rfl
  cbv;refine⟨pl,rfl,⟨ys,SqL.of hpl⟩,?_⟩;refine bz (xs:=ys) (λj σ H4=>∃u:Option V,σ=[some v,some .non,⇑f,u]/\Same H3 H4/\∀i<j,∀m',(mks ts)[i]?=some m'->One (wW ts) m') ⟨none,rfl,Same.refl _,λi hi=>absurd hi (T_ _)⟩ (by rintro i σ H4 _ ⟨_,_,S4,_⟩;exact SqL.of (S4 _ _ hpl)) ?_ ?_
  .rintro j y σ H4 hy ⟨u,rfl,S4,dn⟩;obtain⟨dd,g1,g2⟩:=ry.get hy;rw[Rt] at g1;obtain⟨m,hm,rfl⟩:=RD.mp g1;have hm':(mks ts)[j]?=some m:=hm;have mem:=Ry hm';obtain⟨r,zs,rfl,nr,hr,rz⟩:=g2.kT;rw[RpL.ints_of rz] at hr;obtain⟨lm,_,bm⟩:=vn o mem;obtain⟨a1,a2,a3⟩:=Q8 o af mem;have bk:∀e∈aD ts,Rch (aD ts) e.2 e.1:=λe he=>by obtain⟨j,hj⟩:=SN he;exact af j e.1 e.2 hj
   cbv;refine⟨f,r,xs,m,Wt ts,rfl,S4 _ _ (S3 _ _ hf),S4 _ _ hr,by lia,by lia,λi x hx=>⟨((qf i x hx).same S3).same S4,q_ o.pa bk (by have:=(Rq.mp hx).1;lia)⟩,λq H5 A5=>?_⟩;obtain⟨zs5,h5,r5⟩:=A5.at_;rw[show wl (Wt ts) m.length=wW ts by rw[lm];rfl] at r5;cbv;refine⟨q,zs5,_,rfl,h5,r5,a1,a2,a3,λt H6 T A6 ap ne sf lt=>?_⟩;obtain⟨zs6,h6,r6⟩:=A6.at_;have l6:zs6.length=T.length:=by rw[r6.length,Rm]
   have on:=AI (W:=wW ts) (R:=m) ap ne sf;cbv;refine cw (SqL.of h6) ?_;rw[l6];cbv;have S06:=S03.trans (S4.trans (A5.same.trans A6.same));refine aX (λc=>?_) (λc=>?_)
   .have no : ¬ One (wW ts) m:=λz=>by rw[on.mp z] at c;simp at c
    cbv;refine⟨aM,λp np=>?_⟩;have S7:=aj np (.tup [.bl false,.ref r]);exact k2 j m p r _ af hm' dn no (S06.trans S7) (S06.free np) (S02.free nr) ag (S7 _ _ (A6.same _ _ (A5.same _ _ (S4 _ _ hr))))
   .have ye:One (wW ts) m:=on.mpr (SX (by lia));cbv;refine⟨_,rfl,S4.trans (A5.same.trans A6.same),λi hi m' h'=>?_⟩;by_cases ij:i=j
    .rw[ij,hm'] at h';cases h';exact ye
    .exact dn i (by lia) m' h'
  .rintro σ H4 ⟨u,rfl,S4,dn⟩;cbv;refine⟨aM,λp np=>?_⟩;have S04:=S03.trans S4;have S7:=aj np (.tup [.bl true,.ref f]);refine k3 p f xs _ af (λm hm=>?_) (S04.trans S7) (S04.free np) (S1.free nf) ag (S7 _ _ (S4 _ _ (S3 _ _ hf))) lf λi x hx=>(((qf i x hx).same S3).same S4).same S7
   obtain⟨i,hi⟩:=SN hm
   have:=(Rq.mp hi).1
   exact dn i (by lia) m hi
open Cl Mk
abbrev pr:Nat->(Nat->Rat)->Rat
 |0,_=>1
 |n+1,f=>pr n f*f n
abbrev hv(w:Nat)(u:Nat->Rat)(r:List Int):Rat:=pr w λs=>u s ^ (pt r s).toNat
abbrev OZ(t:Tn):Rat:=Sc t.q t.d
inductive OH (w:Nat) (u:Nat->Rat):List Tn->Prop
 |nil:OH w u []
 |cons (x y:Tn) (ts:List Tn):y.fr=x.to->y.to=x.fr->OZ x*hv w u x.fr=OZ y*hv w u y.fr->OH w u ts->OH w u (ts++[x,y])
abbrev Fq(M:Nat)(x:Rat):Prop:=∃n d:Nat,0<n/\0<d/\x=Sc n d/\n<=M/\d<=M
def Fq.low(h:Fq M x):0<x.num/\x.num.natAbs<=M/\x.den<=M:=by
 obtain⟨n,d,n0,d0,rfl,hn,hd⟩:=h;have dn:(d:Int)≠0:=by lia
 have e:(Sc n d).num*(d:Int)=n*((Sc n d).den:Int):=by
  have:=T7 (Sc (n:Int) (d:Int))
  exact(Ul (by have:=(Sc (n:Int) (d:Int)).den_nz;lia) dn).mp this
 have dp:0<(Sc (n:Int) (d:Int)).den:=Ta (Sc (n:Int) (d:Int)).den_nz;have cp:=(Sc (n:Int) (d:Int)).reduced;generalize hN:(Sc (n:Int) (d:Int)).num=N at *;generalize hD:(Sc (n:Int) (d:Int)).den=D at *
 have N0:0<N:=by
  by_cases z:0<N
  .exact z
  .have:=Int.mul_le_mul_of_nonneg_right (by lia:N<=0) (by lia:(0:Int)<=d)
   have:=Za9 (by lia:(0:Int)<n) (by lia:(0:Int)<D)
   lia
 have e2:N.natAbs*d=n*D:=by
  have:=congrArg Zbz e
  rwa [SL,SL,Se,Se,Se] at this
 have q1:N.natAbs∣n:=T6.dvd_of_dvd_mul_right cp ⟨d,e2.symm⟩;have q2:D∣d:=W3 cp.symm ⟨n,by rw[e2,Tu]⟩;exact⟨N0,RN (UF n0 q1) hn,RN (UF d0 q2) hd⟩
def Fq.mul(h:Fq M x)(k:Fq N y):Fq (M*N) (x*y):=by
 obtain⟨n,d,n0,d0,rfl,hn,hd⟩:=h;obtain⟨a,b,a0,b0,rfl,ha,hb⟩:=k;exact⟨n*a,d*b,Sq n0 a0,Sq d0 b0,by rw[U6,Th,Th],SE hn ha,SE hd hb⟩
def Fq.pow{M:Nat}{x:Rat}(h:Fq M x):∀k,Fq (M ^ k) (x ^ k)
 |0=>⟨1,1,by decide,by decide,by rw[W0];rfl,by simp,by simp⟩
 |k+1=>by rw[V9,TU];exact(Fq.pow h k).mul h
def Fq.up{N:Nat}(h:Fq M x)(l:M<=N):Fq N x:=by
 obtain⟨n,d,n0,d0,e,hn,hd⟩:=h;exact⟨n,d,n0,d0,e,RN hn l,RN hd l⟩
def Fq.bits{c:Nat}(h:Fq M x)(l:M<2 ^ c):Bq c x:=⟨RS h.low.2.1 l,RS h.low.2.2 l⟩
abbrev gh(K:Fg):Sp:=λvs H Q _=>∃(v:V) (c:Addr) (x:Rat) (a b:Nat),vs=[v,.ref c]/\QV K H v x/\SqT K H c [.int (a:Int),.int (b:Int)]/\0<b/\a<=4/\b<=4/\Bq 3900 x/\∀(p:Addr) (H':Hp),Same H H'->Rz K H' (.ref p) (dQ (x*Sc a b))->Q (.ref p) H'
abbrev sQ(K:Fg):Sp:=λvs H Q _=>∃(a:Addr) (ns:List Int) (t:Int),vs=[.ref a,.int t]/\SqL K H a (ns.map V.int)/\0<=t/\∀(p:Addr) (H':Hp) (ws:List Str) (ts:List Tn) (u:Nat->Rat),Same H H'->gK ws ts->OH ws.length u ts->(∀s,0<u s)->Rz K H' (.ref p) (dV ws ts)->Q (.ref p) H'
abbrev dW(x:Nat×Nat):Dat:=dI [(x.1:Int),(x.2:Int)]
abbrev O0(W:List (Nat×Nat)):Prop:=∀x∈W,0<x.1/\0<x.2/\x.1<=4/\x.2<=4
abbrev uO(W:List (Nat×Nat))(s:Nat):Rat:=Sc (W.getD s (1,1)).1 (W.getD s (1,1)).2
abbrev dE(x:List Int×List Int):Dat:=.tuple [dI x.1,dI x.2]
abbrev CA(u:Nat->Rat)(p:Rat)(t g:List Int)(j:Nat):Rat:=p*pr j λs=>u s ^ (pt t s).toNat*(u s)⁻¹ ^ (pt g s).toNat
def xi{W:List (Nat×Nat)}(wo:O0 W)(s:Nat):Fq 4 (uO W s)/\Fq 4 (uO W s)⁻¹/\uO W s*(uO W s)⁻¹=1:=by
 have h:0<(W.getD s (1,1)).1/\0<(W.getD s (1,1)).2/\(W.getD s (1,1)).1<=4/\(W.getD s (1,1)).2<=4:=by
  rw[Rr];cases e:W[s]? with
  |none=>exact⟨by decide,by decide,by decide,by decide⟩
  |some x=>exact wo x (Ry e)
 obtain⟨a,b,c,d⟩:=h;unfold uO;generalize (W.getD s (1,1)).1=m at *;generalize (W.getD s (1,1)).2=n at *;have e:(Sc (m:Int) (n:Int))⁻¹=Sc (n:Int) (m:Int):=ZbA _ _;have F:Fq 4 (Sc (m:Int) (n:Int)):=⟨m,n,a,b,rfl,c,d⟩
 refine⟨F,by rw[e];exact⟨n,m,b,a,rfl,d,c⟩,Z7 _ λz=>?_⟩
 have:=F.low.1
 rw[z] at this;exact absurd this (by decide)
def nh{x y:Rat}(h:x*y=1):∀k:Nat,x ^ k*y ^ k=1
 |0=>by rw[W0,W0,Uh]
 |k+1=>by
  rw[V9,V9,SV,<- SV x,ZaF x (y ^ k),SV (y ^ k),h,Uh,nh h k]
def mW(x:Rat)(a:Nat):∀b:Nat,x ^ (a+b)=x ^ a*x ^ b
 |0=>by rw[Nat.add_zero,W0,Uh]
 |b+1=>by rw[<- Nat.add_assoc,V9,mW x a b,V9,SV]
def QC{x y:Rat}(h:x*y=1)(fx:Fq 4 x)(fy:Fq 4 y){a b:Nat}(ha:a<=3)(hb:b<=3):Fq 64 (x ^ a*y ^ b):=by
 by_cases c:b<=a
 .obtain⟨k,rfl⟩:∃k,a=k+b:=⟨a-b,by lia⟩
  rw[mW,SV,nh h,Uh];exact(fx.pow k).up (RN (RJ (by decide) (by lia:k<=3)) (by decide))
 .obtain⟨k,rfl⟩:∃k,b=a+k:=⟨b-a,by lia⟩
  rw[mW,<- SV,nh h,WJ];exact(fy.pow k).up (RN (RJ (by decide) (by lia:k<=3)) (by decide))
def KN{W:List (Nat×Nat)}(wo:O0 W){P:Rat}(fp:Fq 6 P){t g:List Int}(ht:∀s,(pt t s).toNat<=3)(hg:∀s,(pt g s).toNat<=3):∀j,Fq (6*64 ^ j) (CA (uO W) P t g j)
 |0=>by
  show Fq (6*1) (P*1);rw[Uh];exact fp
 |j+1=>by
  show Fq _ (P*(pr j _*_));rw[<- SV,TU,<- SA];exact(KN wo fp ht hg j).mul (QC (xi wo j).2.2 (xi wo j).1 (xi wo j).2.1 (ht j) (hg j))
def On{W:List (Nat×Nat)}(wo:O0 W)(P:Rat)(t g:List Int):∀w,P*hv w (uO W) t=CA (uO W) P t g w*hv w (uO W) g
 |0=>by show P*1=P*1*1;rw[Uh,Uh]
 |w+1=>by
  have ih:=On wo P t g w;show P*(hv w (uO W) t*uO W w ^ (pt t w).toNat)=P*((pr w λs=>uO W s ^ (pt t s).toNat*(uO W s)⁻¹ ^ (pt g s).toNat)*(uO W w ^ (pt t w).toNat*(uO W w)⁻¹ ^ (pt g w).toNat))*(hv w (uO W) g*uO W w ^ (pt g w).toNat);have e:=nh (xi wo w).2.2 (pt g w).toNat;generalize uO W w ^ (pt t w).toNat=A;generalize uO W w ^ (pt g w).toNat=B at e ⊢;generalize (uO W w)⁻¹ ^ (pt g w).toNat=C at e ⊢;have ih':P*hv w (uO W) t=P*(pr w λs=>uO W s ^ (pt t s).toNat*(uO W s)⁻¹ ^ (pt g s).toNat)*hv w (uO W) g:=ih;generalize (pr w λs=>uO W s ^ (pt t s).toNat*(uO W s)⁻¹ ^ (pt g s).toNat)=R at ih' ⊢;generalize hv w (uO W) t=X at ih' ⊢;generalize hv w (uO W) g=Y at ih' ⊢;rw[<- SV,ih']
  calc P*R*Y*A=P*R*Y*A*(B*C):=by rw[e,Uh]
   _=P*(R*(A*C))*(Y*B):=by
    simp only[SV,ZaF,Q_]
structure RI (w:Nat) (u:Nat->Rat) (hs:List (List Int)) (ts:List Tn) (i:Nat) (R:List Tn):Prop where
 prs:OH w u R
 len:R.length<=6
 nd:(R.map cf).Nodup
 ok:∀t∈R,TurnOk hs t
 rev:∀t∈R,(t.to,t.fr)∈R.map cf
 src:∀t∈R,cf t∈(ts.take i).map cf\/(t.to,t.fr)∈(ts.take i).map cf
 ne:0<i->R≠[]
def RI.start(w:Nat)(u:Nat->Rat)(hs:List (List Int))(ts:List Tn):RI w u hs ts 0 [] :=
 ⟨.nil,by decide,Uu,λ_ h=>(by cases h),λ_ h=>(by cases h),λ_ h=>(by cases h),λh=>absurd h (by decide)⟩
def uB{α:Type}{l:List α}{x:α}(h:x∈l.take i):x∈l.take (i+1):=by rw[RP];exact Sa _ h
def RI.skip(h:RI w u hs ts i R)(n:R≠[]):RI w u hs ts (i+1) R:=by
 refine⟨h.prs,h.len,h.nd,h.ok,h.rev,λt ht=>?_,λ_=>n⟩;rcases h.src t ht with z|z
 .obtain⟨x,hx,e⟩:=RO.mp z;exact .inl (RO.mpr ⟨x,uB hx,e⟩)
 .obtain⟨x,hx,e⟩:=RO.mp z;exact .inr (RO.mpr ⟨x,uB hx,e⟩)
def RI.add(h:RI w u hs ts i R)(ndT:(ts.map cf).Nodup){t:Tn}(ht:ts[i]?=some t)(no:(t.to,t.fr)∉R.map cf)(l5:R.length<5)
  (ex:cf x=(t.fr,t.to)) (ey:cf y=(t.to,t.fr)) (ox:TurnOk hs x) (oy:TurnOk hs y) (b:OZ x*hv w u x.fr=OZ y*hv w u y.fr):RI w u hs ts (i+1) (R++[x,y]):=by
 have x1:x.fr=t.fr:=congrArg YF ex;have x2:x.to=t.to:=congrArg X7 ex;have y1:y.fr=t.to:=congrArg YF ey;have y2:y.to=t.fr:=congrArg X7 ey;have ne:t.fr≠t.to:=by have:=ox.2.2.1;rwa [x1,x2] at this
 have no2:(t.fr,t.to)∉R.map cf:=λz=>by
  obtain⟨r,hr,er⟩:=RO.mp z
  have:=h.rev r hr
  rw[show r.to=t.to from congrArg X7 er,show r.fr=t.fr from congrArg YF er] at this;exact no this
 have me:(t.fr,t.to)∈(ts.take (i+1)).map cf:=by
  rw[RP,ht,Rx];exact RU _ (Ru)
 refine⟨.cons x y R (by rw[y1,x2]) (by rw[y2,x1]) b h.prs,by rw[RF];show R.length+2<=6;lia,?_,λz hz=>?_,λz hz=>?_,λz hz=>?_,λ_ z=>by have:=congrArg Ue z;rw[RF] at this;simp at this⟩
 .rw[Rx,VP];refine⟨h.nd,?_,λp hp q hq e=>?_⟩
  .show[cf x,cf y].Nodup;rw[ex,ey];refine SJ.mpr ⟨λz=>ne (congrArg YF (RL.mp z)),by simp⟩
  .have hq':q∈[cf x,cf y]:=hq;rw[ex,ey] at hq';subst e;rcases RW.mp hq' with z|z
   .rw[z] at hp;exact no2 hp
   .rw[RL.mp z] at hp;exact no hp
 .rcases RX.mp hz with k|k
  .exact h.ok z k
  .rcases RW.mp k with k|k
   .rw[k];exact ox
   .rw[RL.mp k];exact oy
 .rw[Rx];rcases RX.mp hz with k|k
  .exact Sa _ (h.rev z k)
  .refine RU _ ?_;show _∈[cf x,cf y];rw[ex,ey];rcases RW.mp k with k|k
   .rw[k,x1,x2];simp
   .rw[RL.mp k,y1,y2];simp
 .rcases RX.mp hz with k|k
  .rcases (h.skip (λz=>by rw[z] at k;cases k)).src z k with q|q
   .exact .inl q
   .exact .inr q
  .rcases RW.mp k with k|k
   .rw[k,ex];exact .inl me
   .rw[RL.mp k,y1,y2];exact .inr me
nonrec abbrev yK (K:Fg):TS:=(am (bn (dD K "list" aJ (aa 5) (ae (bg (ae (ao aW (tC (.int 1)) (ao aQ (aa 3) (tC (.int 4)))) (ae (ao aW (tC (.int 1)) (ao aQ (ao bV (aa 3) (tC (.int 4))) (tC (.int 3)))) ai))) ai)))
 (av (ao bV (aa 3) (tC (.int 12))) (al 3)))
nonrec abbrev yJ(K:Fg):TS:=(a9 (b_ (ae (ao (aG K) (aa 9) (aa 12)) ai)) (al 6)
 (av (aw (Pw.gh K) [] E0 (ae (aa 11) (ae (bg (ae (ao (aG K) (ao (bI K) (aa 5) (aa 12)) (tC (.int 1))) (ae (ao (aG K) (ao (bI K) (aa 5) (aa 12)) (tC (.int 0))) ai))) ai))) (al 11)))
nonrec abbrev yI(K:Fg):TS:=(am (a9 (b_ (ae (aa 4) ai)) (al 12)
 (am (a9 (b_ (ae (ao (aG K) (aa 8) (aa 12)) ai)) (al 6)
 (av (aw (Pw.gh K) [] E0 (ae (aa 11) (ae (ao (bI K) (aa 5) (aa 12)) ai))) (al 11)))
 (yJ K)))
 (am (bn (dD K "list" aJ (aa 7) (ae (bg (ae (aa 8) (ae (aa 9) (ae (aa 10) ai)))) ai)))
 (bn (dD K "list" aJ (aa 7) (ae (bg (ae (aa 9) (ae (aa 8) (ae (aa 11) ai)))) ai)))))
nonrec abbrev yH(K:Fg):TS:=(am (av (aw (ii K) [] E0 (ae (ao aW (tC (.int 1)) (ao aQ (ao (aG K) (aa 10) (tC (.int 0))) (tC (.int 6)))) (ae (ao aW (tC (.int 1)) (ao aQ (ao (aG K) (aa 10) (tC (.int 1))) (tC (.int 5)))) ai))) (al 10))
 (am (av (aa 10) (al 11))
 (yI K)))
nonrec abbrev yG(K:Fg):TS:=(aS (mn (aP (ao (pR K true) (bg (ae (aa 9) (ae (aa 8) ai))) (fA (cg K (aa 7)) (bg (ae (ao (aG K) (aa 0) (tC (.int 0))) (ae (ao (aG K) (aa 0) (tC (.int 1))) ai)))))) (aP (ao xE (bU (bZ K) (ae (aa 7) ai)) (tC (.int 5)))))
 (yH K)
 a7)
nonrec abbrev yF(K:Fg):TS:=(am (a9 (BA K (ao (aG K) (aa 2) (tC (.int 1)))) (cj K 3 (aY (al 8) (aY (al 9) (aY (al 10) ck))))
 (yG K))
 (aE (bg (ae (ao (aG K) (aa 2) (tC (.int 0))) (ae (bU (cE K) (ae (aa 7) ai)) ai)))))
nonrec abbrev yE(K:Fg):TS:=(am (av (bU (bZ K) (ae (ao (aG K) (aa 2) (tC (.int 0))) ai)) (al 4))
 (am (av (bP ai) (al 5))
 (am (a9 (b_ (ae (aa 4) ai)) (al 6)
 (yK K))
 (am (av (bP ai) (al 7))
 (yF K)))))
abbrev sj(K:Fg):TS:=(am (av (aw (uH K) [] E0 (ae (aa 0) (ae (aa 1) ai))) (al 2))
 (am (av (aw dF [] E0 (ae (aw (cC K) [] E0 (ae (aa 0) (ae (aa 1) ai))) (ae (tC (.int 2)) ai))) (al 3))
 (yE K)))
def EE{K:Fg}:ρ 13 (sQ K) (sj K):=by
 fail "R";obtain⟨a,ns,t,rfl,hS,t0,k⟩:=h;rw[L2.aO hN];walk_at "t";unfold sj;cbv;refine⟨a,ns,t,rfl,hS,t0,λp H1 ws ts S1 vo rv=>?_⟩;obtain⟨hs,po,hs8,tk⟩:=vo.turns;obtain⟨_,v1,v2,e0,hp,r1,r2⟩:=t5 rv;cases e0;obtain⟨c1,ws1,rfl,hc1,rw1⟩:=r1.cr;obtain⟨c2,ts1,rfl,hc2,rt2⟩:=r2.cr;have lw1:ws1.length=ws.length:=by rw[rw1.length,Rm]
 have lt1:ts1.length=ts.length:=by rw[rt2.length,Rm]
 have w1:=vo.w1;have w5:=vo.w5;have t8:=tk.le;cbv;refine⟨a,ns,t,rfl,S1.seq hS,t0,?_⟩;cbv;refine⟨_,2,rfl,by decide,by decide,λc hc=>?_⟩;cbv;refine aF (SqT.of hp) (v:=.ref c1) rfl ?_;cbv;refine jK (SqT.of hc1) ?_;rw[lw1];cbv;refine⟨by show 0<=sizeLine;exact SD _,λl nl=>?_⟩;have A1:AccZ K H1 l (upd H1 l (.lst [])) (([]:List (Nat×Nat)).map dW):=AccZ.start (Same.refl _) nl;generalize upd H1 l (.lst [])=H2 at A1 ⊢;cbv;rw[Su];refine aR (n:=ws.length) (λj σ H3=>∃(c:Int) (u6:Option V) (W:List (Nat×Nat)),σ=[⇑a,↥t,⇑p,↥c,↥(ws.length:Int),⇑l,u6,none,none,none,none,none,none]/\0<=c/\O0 W/\W.length=j/\AccZ K H1 l H3 (W.map dW)) ⟨c,none,[],rfl,hc.1,λ_ h=>(by cases h),rfl,A1⟩ ?_ ?_
 .rintro j σ H3 hj ⟨c,u6,W,rfl,c0,wo,lW,A3⟩;rw[Vi];cbv;refine⟨A3.ty,?_⟩;cbv;refine⟨aM,λq nq=>?_⟩;have S4:=aj nq (.tup [.int (1+c % 4),.int (1+c / 4 % 3)])
  have z4:Rz K (upd H3 q (.tup [.int (1+c % 4),.int (1+c / 4 % 3)])) (.ref q) (dW ((1+c % 4).toNat,(1+c / 4 % 3).toNat)):=by
   show Rz K _ _ (dI [(((1+c % 4).toNat:Nat):Int),(((1+c / 4 % 3).toNat:Nat):Int)]);rw[show(((1+c % 4).toNat:Nat):Int)=1+c % 4 by lia,show(((1+c / 4 % 3).toNat:Nat):Int)=1+c / 4 % 3 by lia];exact .tup ag (RpL.ints [_,_])
  have A4:=A3.on S4;generalize upd H3 q (.tup [.int (1+c % 4),.int (1+c / 4 % 3)])=H4 at S4 z4 A4 ⊢;cbv;refine bW A4 z4 (aq (by rw[Rm];lia)) λH5 A5 _ _ _=>?_
  cbv;refine⟨c / 12,_,W++[((1+c % 4).toNat,(1+c / 4 % 3).toNat)],rfl,by lia,λx hx=>?_,by rw[RF,lW];rfl,by rw[Rx];exact A5⟩;rcases RX.mp hx with h|h
  .exact wo x h
  .rw[RL.mp h];exact⟨by show 0<(1+c % 4).toNat;lia,by show 0<(1+c / 4 % 3).toNat;lia,by show(1+c % 4).toNat<=4;lia,by show(1+c / 4 % 3).toNat<=4;lia⟩
 .rintro σ H3 ⟨c,u6,W,rfl,c0,wo,lW,A3⟩;obtain⟨xw,hl,rW⟩:=A3.at_;have S03:=S1.trans A3.same;cbv;refine⟨by show 0<=sizeLine;exact SD _,λr nr=>?_⟩;have B1:AccZ K H3 r (upd H3 r (.lst [])) (([]:List Tn).map dT):=AccZ.start (Same.refl _) nr;generalize upd H3 r (.lst [])=H4 at B1 ⊢;cbv;refine aF (SqT.of (B1.same _ _ (A3.same _ _ hp))) (v:=.ref c2) rfl ?_;cbv;have hc24:=B1.same _ _ (A3.same _ _ hc2);have up:∀s,0<uO W s:=λs=>nR.mp (xi wo s).1.low.1
  refine⟨c2,rfl,⟨_,SqT.of hc24⟩,?_⟩
  refine BY (xs:=ts1) (λi σ H5=>∃(R:List Tn) (u6 u8 u9 u10 u11 u12:Option V),σ=[⇑a,↥t,⇑p,↥c,↥(ws.length:Int),⇑l,u6,⇑r,u8,u9,u10,u11,u12]/\AccZ K H3 r H5 (R.map dT)/\RI ws.length (uO W) hs ts i R)
   ⟨[],u6,none,none,none,none,none,rfl,B1,RI.start _ _ _ _⟩ (by rintro i σ H5 _ ⟨R,_,_,_,_,_,_,_,B,_⟩;exact SqT.of (B.same _ _ (A3.same _ _ hc2))) ?_ ?_
  .rintro i x σ H5 hx ⟨R,u6,u8,u9,u10,u11,u12,rfl,B5,ri⟩;obtain⟨dd,g1,g2⟩:=rt2.get hx;rw[Rt] at g1;obtain⟨tn,htn,rfl⟩:=RD.mp g1;have otn:=tk.ok tn (Ry htn);have g5:=(g2.same A3.same).same B5.same;obtain⟨q,_,_,_,rfl,hq,q1,q2,q3⟩:=oJ g5;obtain⟨b1,rfl,hb1⟩:=bM q1;obtain⟨b2,rfl,hb2⟩:=bM q2;obtain⟨b3,rfl,hb3⟩:=bM q3;refine bG (SqT.of hq) rfl ?_;cbv;refine⟨aM,λT nT=>?_⟩;have S6:=aj nT (.tup [.ref b2,.ref b1]);have zT:Rz K (upd H5 T (.tup [.ref b2,.ref b1])) (.ref T) (dE (tn.to,tn.fr)):=.tup ag (.cons (q2.same S6) (.cons (q1.same S6) .nil));have B6:=B5.on S6;generalize upd H5 T (.tup [.ref b2,.ref b1])=H6 at S6 zT B6 ⊢;obtain⟨xr,hr,rR⟩:=B6.at_;have lR:xr.length=R.length:=by rw[rR.length,Rm]
   have R6:=ri.len;cbv;refine tK (SqL.of hr) ?_;refine cN (xs:=xr) λD nD=>⟨λj H7=>AccZ K H6 D H7 ((R.take j).map λt=>dE (cf t)),AccZ.start (Same.refl _) nD,λj H7 _ A=>SqL.of (A.same _ _ hr),?_,?_⟩
   .intro j y H7 hy A;have lj:=(Rq.mp hy).1;obtain⟨d2,f1,f2⟩:=(rR.same A.same).get hy;rw[Rt] at f1;obtain⟨t2,ht2,rfl⟩:=RD.mp f1;obtain⟨q',w1',w2',w3',rfl,hq',r1',r2',r3'⟩:=oJ f2;cbv;refine aF (SqT.of hq') (v:=w1') rfl ?_;cbv;refine aF (SqT.of hq') (v:=w2') rfl ?_;cbv;refine⟨aM,λT2 nT2=>?_⟩;have S8:=aj nT2 (.tup [w1',w2']);have z8:Rz K (upd H7 T2 (.tup [w1',w2'])) (.ref T2) (dE (cf t2)):=.tup ag (.cons (r1'.same S8) (.cons (r2'.same S8) .nil));have A8:=A.on S8;generalize upd H7 T2 (.tup [w1',w2'])=H8 at z8 A8 ⊢;refine a_ lj ?_;refine A8.cF z8 (aq (by rw[Rm,RT];lia)) λH9 A9=>?_
    show AccZ K H6 D H9 ((R.take (j+1)).map λt=>dE (cf t));rw[RP,ht2,Rx];exact A9
   intro H7 A7;rw[RG (by lia)] at A7;have S57:=S6.trans A7.same;have B7:=B6.on A7.same
   have okE:∀x,kqdOk 8 (dE x)=true:=λx=>by
    show kqdOk 8 (.tuple [dI x.1,dI x.2])=true;show([dI x.1,dI x.2].all (kqdOk 7))=true;rw[ZbK,ZbK,G1.wR,G1.wR];rfl
   have rT7:=zT.same A7.same;cbv;refine oi rT7.rep A7.rep (λe he=>by obtain⟨b,_,rfl⟩:=RO.mp he;exact okE _) (okE _) (λnm=>?_) (λmm=>?_)
   .cbv;refine cw (SqL.of (A7.same _ _ hr)) ?_;rw[lR];cbv;refine aX (λl5=>?_) (λl5=>?_)
    .have hb37:=S57 _ _ hb3;obtain⟨q0,d0,_,q10,d10⟩:=otn.2.2.2;cbv;refine aF (SqT.of hb37) (v:=.int tn.q) rfl ?_;cbv;refine aF (SqT.of hb37) (v:=.int tn.d) rfl ?_;cbv;refine⟨_,_,rfl,by lia,RS (by lia:(1+tn.q % 6).natAbs<=6) (R3 (by decide:6<2 ^ 3) (RJ (by decide) (by decide))),RS (by lia:(1+tn.d % 5).natAbs<=6) (R3 (by decide:6<2 ^ 3) (RJ (by decide) (by decide))),λpp pq pd H8 S8 L _ _ r8=>?_⟩;obtain⟨e1,e2⟩:=hX (by lia:1+tn.d % 5≠0) L;rw[e1,e2] at r8;have fP:Fq 6 (Sc (1+tn.q % 6) (1+tn.d % 5)):=⟨(1+tn.q % 6).toNat,(1+tn.d % 5).toNat,by lia,by lia,by rw[show(((1+tn.q % 6).toNat:Nat):Int)=1+tn.q % 6 by lia,show(((1+tn.d % 5).toNat:Nat):Int)=1+tn.d % 5 by lia],by lia,by lia⟩
     generalize Sc (1+tn.q % 6) (1+tn.d % 5)=P at r8 fP;have S58:=S57.trans S8;have of:=po.2 _ otn.1;have og:=po.2 _ otn.2.1
     have in3:∀{h:List Int},eR ws.length h->∀s,0<=pt h s/\pt h s<=3:=λ{h} o s=>by
      unfold pt;rw[Rr];cases e:h[s]? with
      |none=>exact⟨by decide,by decide⟩
      |some c=>exact o.2 c (Ry e)
     have b3t:∀s,(pt tn.fr s).toNat<=3:=λs=>by have:=in3 of s;lia
     have b3g:∀s,(pt tn.to s).toNat<=3:=λs=>by have:=in3 og s;lia
     have ix_:∀{h:List Int},eR ws.length h->∀j,j<ws.length->(h.map V.int)[j]?=↥(pt h j):=λ{h} o j hj=>by
      have:=o.1
      unfold pt;rw[Rt,Rn (by lia),Rr,Rn (by lia)];rfl
     have hl8:H8 l=some (.lst xw):=S58 _ _ (B5.same _ _ hl);have rW8:RzL K H8 xw (W.map dW):=((rW.same B5.same).same S58)
     have lxw:xw.length=ws.length:=by rw[rW.length,Rm,lW]
     have wAt:∀j,j<ws.length->∃q,xw[j]?=⇑q/\H8 q=some (.tup [.int ((W.getD j (1,1)).1:Int),.int ((W.getD j (1,1)).2:Int)])/\0<(W.getD j (1,1)).1/\0<(W.getD j (1,1)).2/\(W.getD j (1,1)).1<=4/\(W.getD j (1,1)).2<=4:=λj hj=>by
      obtain⟨y,hy⟩:∃y,xw[j]?=some y:=⟨_,Rn (by lia)⟩
      obtain⟨d,f1,f2⟩:=rW8.get hy;rw[Rt,Rn (by lia)] at f1;cases f1;obtain⟨q,rfl,hq⟩:=bM f2;have e:W.getD j (1,1)=W[j]:=by rw[Rr,Rn (by lia)];rfl
      rw[e];exact⟨q,hy,hq,wo _ (Td _)⟩
     have big:∀j,j<=5->∀k,k<=3->∀k',k'<=3->6*64 ^ j*4 ^ k*4 ^ k'<2 ^ 3900:=λj hj k hk k' hk' =>
      RS (SE (SE (Sh 6 (RJ (by decide) hj)) (RJ (by decide) hk)) (RJ (by decide) hk')) (R3 (by decide:6*64 ^ 5*4 ^ 3*4 ^ 3<2 ^ 60) (RJ (by decide) (by decide)))
     cbv;rw[Su];refine aR (n:=ws.length) (λj σ H9=>∃(v11:V) (u6 u12:Option V),σ=[⇑a,↥t,⇑p,↥c,↥(ws.length:Int),⇑l,u6,⇑r,⇑b1,⇑b2,⇑pp,some v11,u12]/\Same H8 H9/\Rz K H9 v11 (dQ (CA (uO W) P tn.fr tn.to j))) ⟨_,_,_,rfl,Same.refl _,by show Rz K H8 (.ref pp) (dQ (P*1));rw[Uh];exact r8⟩ ?_ ?_
     .rintro j σ H9 hj ⟨v11,u6,u12,rfl,S9,q9⟩;rw[Vi];obtain⟨qw,hxw,hqw,a0,b0,a4,b4⟩:=wAt j hj;have fB:=KN wo fP b3t b3g j;have F4:=xi wo j;cbv;refine aF (SqT.of (S9 _ _ (S58 _ _ hb1))) (v:=.int (pt tn.fr j)) (aK (j:=j) (ix_ of j hj)) ?_;have i1:=in3 of j;have i2:=in3 og j;refine⟨_,rfl,by lia,by lia,?_⟩;refine aR (n:=(pt tn.fr j).toNat) (λk σ H10=>∃(v11:V) (u6:Option V),σ=[⇑a,↥t,⇑p,↥c,↥(ws.length:Int),⇑l,u6,⇑r,⇑b1,⇑b2,⇑pp,some v11,↥(j:Int)]/\Same H8 H10/\Rz K H10 v11 (dQ (CA (uO W) P tn.fr tn.to j*uO W j ^ k))) ⟨v11,u6,rfl,S9,by rw[W0,Uh];exact q9⟩ ?_ ?_
      .rintro k σ H10 hk ⟨v11,u6,rfl,S10,q10⟩;cbv;refine bQ (SqL.of (S10 _ _ hl8)) (v:=.ref qw) (aK (j:=j) hxw) ?_;cbv;refine⟨v11,qw,_,_,_,rfl,QV.of q10,SqT.of (S10 _ _ hqw),b0,a4,b4,((fB.mul (F4.1.pow k)).bits (RS (UL _ (by decide:0<4 ^ 0)) (big j (by lia) k (by lia) 0 (by decide)))),λp' H11 S11 r11=>?_⟩;cbv;refine⟨_,_,rfl,S10.trans S11,?_⟩;rw[V9,<- SV];exact r11
      .rintro σ H10 ⟨v11,u6,rfl,S10,q10⟩;cbv;refine aF (SqT.of (S10 _ _ (S58 _ _ hb2))) (v:=.int (pt tn.to j)) (aK (j:=j) (ix_ og j hj)) ?_;refine⟨_,rfl,by lia,by lia,?_⟩;refine aR (n:=(pt tn.to j).toNat) (λk σ H11=>∃(v11:V) (u6:Option V),σ=[⇑a,↥t,⇑p,↥c,↥(ws.length:Int),⇑l,u6,⇑r,⇑b1,⇑b2,⇑pp,some v11,↥(j:Int)]/\Same H8 H11/\Rz K H11 v11 (dQ (CA (uO W) P tn.fr tn.to j*uO W j ^ (pt tn.fr j).toNat*(uO W j)⁻¹ ^ k))) ⟨v11,u6,rfl,S10,by rw[W0,Uh];exact q10⟩ ?_ ?_
       .rintro k σ H11 hk ⟨v11,u6,rfl,S11,q11⟩;have hl11:=S11 _ _ hl8;have hq11:=S11 _ _ hqw;cbv;refine bQ (SqL.of hl11) (v:=.ref qw) (aK (j:=j) hxw) ?_;cbv;refine aF (SqT.of hq11) (v:=.int ((W.getD j (1,1)).2:Int)) rfl ?_;cbv;refine bQ (SqL.of hl11) (v:=.ref qw) (aK (j:=j) hxw) ?_;cbv;refine aF (SqT.of hq11) (v:=.int ((W.getD j (1,1)).1:Int)) rfl ?_;cbv;refine⟨aM,λT' nT'=>?_⟩;have S12:=aj nT' (.tup [.int ((W.getD j (1,1)).2:Int),.int ((W.getD j (1,1)).1:Int)]);have h12:upd H11 T' (.tup [.int ((W.getD j (1,1)).2:Int),.int ((W.getD j (1,1)).1:Int)]) T'=some (.tup [.int ((W.getD j (1,1)).2:Int),.int ((W.getD j (1,1)).1:Int)]):=ag;generalize upd H11 T' (.tup [.int ((W.getD j (1,1)).2:Int),.int ((W.getD j (1,1)).1:Int)])=H12 at S12 h12 ⊢;cbv;refine⟨v11,T',_,_,_,rfl,QV.of (q11.same S12),SqT.of h12,a0,b4,a4,(((fB.mul (F4.1.pow _)).mul (F4.2.1.pow k)).bits (big j (by lia) _ (b3t j) k (by have:=b3g j;lia))),λp' H13 S13 r13=>?_⟩;cbv;refine⟨_,_,rfl,S11.trans (S12.trans S13),?_⟩;rw[V9,<- SV,show(uO W j)⁻¹=Sc ((W.getD j (1,1)).2:Int) ((W.getD j (1,1)).1:Int) from ZbA _ _] at *;exact r13
       .rintro σ H11 ⟨v11,u6,rfl,S11,q11⟩;refine⟨v11,u6,↥(j:Int),rfl,S11,?_⟩
        have e:CA (uO W) P tn.fr tn.to (j+1)=CA (uO W) P tn.fr tn.to j*uO W j ^ (pt tn.fr j).toNat*(uO W j)⁻¹ ^ (pt tn.to j).toNat:=by
         show P*(pr j _*(_*_))=P*pr j _*_*_;rw[SV,SV]
        rw[e];exact q11
     .rintro σ H9 ⟨v11,u6,u12,rfl,S9,q9⟩;have fB:=(KN wo fP b3t b3g ws.length).up (Sh 6 (RJ (by decide) w5):_<=6*64 ^ 5);have S59:=S58.trans S9;have B9:=(B7.on S8).on S9
      have pOk:∀{x:Rat},Fq (6*64 ^ 5) x->gL x.num (x.den:Int):=λ{x} f=>by
       obtain⟨n0,nl,dl⟩:=f.low;have rl:=Jd x
       have:6*64 ^ 5=6442450944:=by decide
       exact⟨n0,rl.1,rl.2,by lia,by lia⟩
      have fP':=fP.up (by decide:6<=6*64 ^ 5)
      have ri':=ri.add tk.nd htn (x:=⟨tn.fr,tn.to,P.num,(P.den:Int)⟩) (y:=⟨tn.to,tn.fr,(CA (uO W) P tn.fr tn.to ws.length).num,((CA (uO W) P tn.fr tn.to ws.length).den:Int)⟩) (λz=>nm (by obtain⟨x,hx,e⟩:=RO.mp z;exact RO.mpr ⟨x,hx,by rw[e]⟩)) (by lia) rfl rfl ⟨otn.1,otn.2.1,otn.2.2.1,pOk fP'⟩ ⟨otn.2.1,otn.1,λz=>otn.2.2.1 z.symm,pOk fB⟩ (by
       show Sc P.num (P.den:Int)*hv ws.length (uO W) tn.fr=Sc _ _*hv ws.length (uO W) tn.to
       rw[gZ,gZ]
       exact On wo P tn.fr tn.to ws.length)
      cbv;refine⟨B9.ty,?_⟩;cbv;refine⟨fS,λX nX=>?_⟩;have S10:=aj nX (.tup [.ref b1,.ref b2,.ref pp]);have zX:Rz K (upd H9 X (.tup [.ref b1,.ref b2,.ref pp])) (.ref X) (dT ⟨tn.fr,tn.to,P.num,(P.den:Int)⟩):=.tup ag (.cons ((q1.same S59).same S10) (.cons ((q2.same S59).same S10) (.cons ((r8.same S9).same S10) .nil)));have B10:=B9.on S10;have q10:=q9.same S10;generalize upd H9 X (.tup [.ref b1,.ref b2,.ref pp])=H10 at S10 zX B10 q10 ⊢;have S510:=S59.trans S10;cbv;refine bW B10 zX (aq (by rw[Rm];lia)) λH11 B11 rz11 _ _=>?_
      cbv;refine⟨B11.ty,?_⟩;cbv;refine⟨fS,λY nY=>?_⟩;have S12:=aj nY (.tup [.ref b2,.ref b1,v11]);have zY:Rz K (upd H11 Y (.tup [.ref b2,.ref b1,v11])) (.ref Y) (dT ⟨tn.to,tn.fr,(CA (uO W) P tn.fr tn.to ws.length).num,((CA (uO W) P tn.fr tn.to ws.length).den:Int)⟩):=.tup ag (.cons ((rz11 (q2.same S510)).same S12) (.cons ((rz11 (q1.same S510)).same S12) (.cons ((rz11 q10).same S12) .nil)));have B12:=B11.on S12;generalize upd H11 Y (.tup [.ref b2,.ref b1,v11])=H12 at S12 zY B12 ⊢;cbv;refine bW B12 zY (aq (by rw[RF,Rm];show _+1<=_;lia)) λH13 B13 _ _ _=>?_
      cbv;refine⟨R++[_,_],_,_,_,_,_,_,rfl,?_,ri'⟩;rw[Rx];rw[Tf] at B13;exact B13
    .cbv;exact⟨R,_,_,_,_,_,_,rfl,B7,ri.skip λz=>by rw[z] at l5;simp at l5⟩
   .cbv;exact⟨R,_,_,_,_,_,_,rfl,B7,ri.skip λz=>by rw[z] at mm;simp at mm⟩
  .rintro σ H5 ⟨R,u6,u8,u9,u10,u11,u12,rfl,B5,ri⟩;obtain⟨xr,hr,rR⟩:=B5.at_;have S05:=S03.trans B5.same;cbv;refine aF (SqT.of (B5.same _ _ (A3.same _ _ hp))) (v:=.ref c1) rfl ?_;cbv;refine fJ (SqL.of hr) λd nd=>?_
   have S6:=aj nd (.tup xr);have z6:Rz K (upd H5 d (.tup xr)) (.ref d) (.tuple (R.map dT)):=.tup ag (rR.same S6);generalize upd H5 d (.tup xr)=H6 at S6 z6 ⊢;cbv;refine⟨aM,λe ne=>?_⟩;have S7:=aj ne (.tup [.ref c1,.ref d]);have rc1:Rz K H6 (.ref c1) (.tuple (ws.map YS)):=((r1.same A3.same).same B5.same).same S6;have lt0:0<ts1.length:=by rw[lt1];exact Wi.mpr tk.ne
   refine k e _ ws R (uO W) (S05.trans (S6.trans S7)) ⟨vo.words,vo.w1,vo.w5,hs,po,hs8,ri.ne lt0,by have:=ri.len;lia,ri.nd,ri.ok⟩ ri.prs up (.tup ag (.cons (rc1.same S7) (.cons (z6.same S7) .nil)))
end Pw
namespace Gn
open Pw
open Ev (vr kJ uw kF)
def AS:∀{m:Nat} {n:Nat},0<m->0<n->(∀p,IsP p->bC p m=bC p n)->m=n:=by
 intro m
 induction m using Vc with
 |_ m ih =>
  intro n hm hn h;by_cases c:2<=m
  .obtain⟨p,hp,m',rfl⟩:=m_ c;have m0:0<m':=TJ hm
   have pn:p∣n:=by
    refine Wc λz=>?_
    have:=h p hp
    rw[jH z,dq hp.1 m0] at this;lia
   obtain⟨n',rfl⟩:=pn;have n0:0<n':=TJ hn;have lt:m'<p*m':=by have:=Sv m' hp.1;lia
   rw[ih m' lt m0 n0 λq hq=>by
    have:=h q hq
    rw[i5 hq _ _ (by have:=hp.1;lia) m0,i5 hq _ _ (by have:=hp.1;lia) n0] at this
    lia]
  .by_cases d:2<=n
   .obtain⟨p,hp,z⟩:=m_ d
    have:=h p hp
    rw[show m=1 by lia,JX hp.1] at this
    have:=Lm hp hn z
    lia
   .lia
def Ll{f:Nat->Int}(hf:Add f){a b:Nat}(ha:0<a)(hb:0<b):vr f (Sc a b)=f a-f b:=by
 have hx:0<Sc a b:=by
  rw[VQ];exact VY (by exact_mod_cast ha) (WL.mpr (by exact_mod_cast hb))
 have e:(Sc a b).num*(b:Int)=(a:Int)*(Sc a b).den:=by
  have d1:((Sc a b).den:Int)≠0:=by have:=(Sc a b).den_nz;lia
  exact(Ul d1 (by lia)).mp (T7 _)
 have e2:=congrArg Zbz e;rw[SL,SL,Se,Se,Se] at e2;have e3:=congrArg f e2;rw[hf.mul _ _ (kF hx) hb,hf.mul _ _ ha (Ta (Sc a b).den_nz)] at e3;unfold vr;lia
def Mc{x y:Rat}(hx:0<x)(hy:0<y)(h:∀p,IsP p->vr (λn=>(bC p n:Int)) x=vr (λn=>(bC p n:Int)) y):x=y:=by
 have dx:=Ta x.den_nz;have dy:=Ta y.den_nz
 have e:=AS (Sq (kF hx) dy) (Sq (kF hy) dx) λp hp=>by
  have:(bC p x.num.natAbs:Int)-bC p x.den=bC p y.num.natAbs-bC p y.den:=h p hp
  rw[i5 hp _ _ (kF hx) dy,i5 hp _ _ (kF hy) dx];lia
 have nx:=WZ.mpr (XO hx);have ny:=WZ.mpr (XO hy)
 have e2:x.num*(y.den:Int)=y.num*(x.den:Int):=by
  have:=congrArg (λn:Nat=>(n:Int)) e
  simp only[Th] at this;rw[show((x.num.natAbs:Nat):Int)=x.num by lia,show((y.num.natAbs:Nat):Int)=y.num by lia] at this;exact this
 rw[<- T7 x,<- T7 y];exact(Ul (by lia) (by lia)).mpr e2
def Lj{f:Nat->Int}(hf:Add f){x:Rat}(hx:0<x):vr f x⁻¹ = - vr f x:=by
 have:=kJ hf hx (WL.mpr hx)
 rw[Z7 x (λz=>by rw[z] at hx;exact absurd hx Rat.lt_irrefl),uw hf] at this;lia
abbrev pl(g:Nat->Rat):List Nat->Rat
 |[]=>1
 |k :: R=>g k*pl g R
def GI(g:Nat->Rat):∀A B,pl g (A++B)=pl g A*pl g B
 |[],B=>by show pl g B=1*pl g B;rw[WJ]
 |k :: A,B=>by show g k*pl g (A++B)=g k*pl g A*pl g B;rw[GI g A B,SV]
def Av{g:Nat->Rat}:∀{R:List Nat},(∀k∈R,0<g k)->0<pl g R
 |[],_=>by show(0:Rat)<1;decide
 |k :: R,h=>VY (h k Ru) (Av λj hj=>h j (RA _ hj))
abbrev fc:Nat->Nat
 |0=>1
 |n+1=>(n+1)*fc n
def Hd:∀n,0<fc n
 |0=>by decide
 |n+1=>Sq (YT n) (Hd n)
abbrev fl(m:Nat):Nat->Nat
 |0=>1
 |k+1=>fl m k*(m-k)
def KA{m:Nat}:∀{k:Nat},k<=m->fl m k*fc (m-k)=fc m
 |0,_=>by show 1*fc m=fc m;rw[WK]
 |k+1,h=>by
  have e:m-k=(m-(k+1))+1:=by lia
  have i:=KA (m:=m) (k:=k) (by lia);rw[e] at i;show fl m k*(m-k)*_=fc m;rw[<- i,SA,e];rfl
def Hc{m:Nat}:∀{k:Nat},k<=m->0<fl m k
 |0,_=>Vk
 |k+1,h=>Sq (Hc (by lia)) (by lia)
def Kz{m B:Nat}(h:m<=B):∀k,fl m k<=B ^ k
 |0=>RB _
 |k+1=>by show fl m k*(m-k)<=B ^ k*B;exact SE (Kz h k) (by lia)
abbrev dn(m n:Nat):Nat:=fl m (m-n)
def Oe(m n:Nat):0<dn m n:=Hc (ZbB _ _)
def QF(m n:Nat):dn m n*fc n=fc m*dn n m:=by
 unfold dn;by_cases c:n<=m
 .have:=KA (ZbB m n)
  rw[show m-(m-n)=n by lia] at this;rw[this,show n-m=0 by lia];show _=fc m*1;rw[VZ]
 .have:=KA (ZbB n m)
  rw[show n-(n-m)=m by lia] at this;rw[show m-n=0 by lia];show 1*fc n=_;rw[WK,Tu,this]
abbrev dp:List Nat->List Nat->Nat
 |m :: A,n :: B=>dn m n*dp A B
 |_,_=>1
abbrev fp:List Nat->Nat
 |[]=>1
 |m :: A=>fc m*fp A
def Ha:∀A,0<fp A
 |[]=>by decide
 |m :: A=>Sq (Hd m) (Ha A)
def Cb:∀A B,0<dp A B
 |[],_=>Vk
 |_ :: _,[]=>Vk
 |m :: A,n :: B=>Sq (Oe m n) (Cb A B)
def Od:∀{A B:List Nat},A.length=B.length->dp A B*fp B=fp A*dp B A
 |[],[],_=>rfl
 |m :: A,n :: B,h=>by
  show dn m n*dp A B*(fc n*fp B)=fc m*fp A*(dn n m*dp B A);have e:=Od (A:=A) (B:=B) (SK h);have d:=QF m n
  calc dn m n*dp A B*(fc n*fp B)=(dn m n*fc n)*(dp A B*fp B):=by simp only[Tu,UK,SA]
   _=(fc m*dn n m)*(fp A*dp B A):=by rw[d,e]
   _=_:=by simp only[Tu,UK,SA]
abbrev gn(g:Nat->Rat)(R:List Nat)(A B:List Nat):Rat:=pl g R*Sc (fp A) (fp B)
def Qx{g:Nat->Rat}{R:List Nat}{A B:List Nat}{a b:Nat}(h:Sc a b=pl g R)(l:A.length=B.length)(hb:0<b):Sc ((a:Int)*dp A B) ((b:Int)*dp B A)=gn g R A B:=by
 unfold gn;rw[<- U6,h];congr 1;have e:=Od l;refine(Ul (by have:=Cb B A;lia) (by have:=Ha B;lia)).mpr ?_
 have:=congrArg (λn:Nat=>(n:Int)) e
 simpa only[Th] using this
end Gn
namespace Gn
open Pw
open Ev (vr kJ uw kF)
abbrev AA:List Pr->Nat
 |[]=>1
 |x :: T=>x.1 ^ x.2.toNat*AA T
abbrev BB:List Pr->Nat
 |[]=>1
 |x :: T=>x.1 ^ (-x.2).toNat*BB T
def C4:∀S T,AA (S++T)=AA S*AA T
 |[],T=>by show AA T=1*AA T;rw[WK]
 |x :: S,T=>by show _*AA (S++T)=_*AA S*AA T;rw[C4 S T,SA]
def CZ:∀S T,BB (S++T)=BB S*BB T
 |[],T=>by show BB T=1*BB T;rw[WK]
 |x :: S,T=>by show _*BB (S++T)=_*BB S*BB T;rw[CZ S T,SA]
def km:∀{T:List Pr},(∀x∈T,0<x.1)->0<AA T/\0<BB T
 |[],_=>⟨Vk,Vk⟩
 |x :: T,h=>by
  obtain⟨a,b⟩:=km (T:=T) λy hy=>h y (RA _ hy)
  have p:=h x Ru;exact⟨Sq (To p) a,Sq (To p) b⟩
def Le{f:Nat->Int}(hf:Add f):∀{T:List Pr},(∀x∈T,0<x.1)->f (AA T)-f (BB T)=SF f T
 |[],_=>by show f 1-f 1=0;lia
 |x :: T,h=>by
  have h':∀y∈T,0<y.1:=λy hy=>h y (RA _ hy)
  obtain⟨a,b⟩:=km h';have p:=h x Ru;have i:=Le hf h';show f (_*AA T)-f (_*BB T)=x.2*f x.1+SF f T;rw[hf.mul _ _ (To p) a,hf.mul _ _ (To p) b,hf.pow p,hf.pow p]
  have e:((x.2.toNat:Nat):Int)*f x.1-(((-x.2).toNat:Nat):Int)*f x.1=x.2*f x.1:=by
   rw[<- Zq,show((x.2.toNat:Nat):Int)-(((-x.2).toNat:Nat):Int)=x.2 by lia]
  lia
def t7{q:Nat}{g:Pr->Nat}:∀{T:List Pr},(∀x∈T,T6 q x.1)->T6 q (T.foldr (λx a=>x.1 ^ g x*a) 1)
 |[],_=>W7 q
 |x :: T,h=>W8 ((h x Ru).pow_right _) (t7 λy hy=>h y (RA _ hy))
def C3:∀T,AA T=T.foldr (λx a=>x.1 ^ x.2.toNat*a) 1
 |[]=>rfl
 |x :: T=>by show _*AA T=_*_;rw[C3 T]
def CY:∀T,BB T=T.foldr (λx a=>x.1 ^ (-x.2).toNat*a) 1
 |[]=>rfl
 |x :: T=>by show _*BB T=_*_;rw[CY T]
def Hz:∀{T:List Pr},(T.map (·.1)).Pairwise (λa b=>T6 a b)->T6 (AA T) (BB T)
 |[],_=>W7 1
 |x :: T,h=>by
  obtain⟨h1,h2⟩:=WC.mp h;have hx:∀y∈T,T6 x.1 y.1:=λy hy=>h1 _ (TN hy)
  have ca:T6 x.1 (AA T):=by rw[C3];exact t7 hx
  have cb:T6 x.1 (BB T):=by rw[CY];exact t7 hx
  have i:=Hz h2;show T6 (x.1 ^ x.2.toNat*AA T) (x.1 ^ (-x.2).toNat*BB T);refine T6.mul_left (W8 ?_ (cb.pow_left _)) (W8 (ca.symm.pow_right _) i);by_cases c:0<=x.2
  .rw[show(-x.2).toNat=0 by lia,V8];exact W7 _
  .rw[show x.2.toNat=0 by lia,V8];exact Nat.coprime_one_left _
def C0{T:List Pr}(h:∀x∈T,0<x.1)(i:Nat):AA (T.take i)<=AA T/\BB (T.take i)<=BB T:=by
 have e:=W6 i T;have d:=km (T:=T.drop i) λx hx=>h x (VX hx)
 constructor
 .rw[<- congrArg AA e,C4];exact UL _ d.1
 .rw[<- congrArg BB e,CZ];exact UL _ d.2
def QZ{T:List Pr}(h:∀x∈T,0<x.1){i:Nat}{x:Pr}(hx:T[i]?=some x):AA (T.take (i+1))=AA (T.take i)*x.1 ^ x.2.toNat/\BB (T.take (i+1))=BB (T.take i)*x.1 ^ (-x.2).toNat/\x.1 ^ x.2.toNat<=AA T/\x.1 ^ (-x.2).toNat<=BB T:=by
 have e1:AA (T.take (i+1))=AA (T.take i)*x.1 ^ x.2.toNat:=by rw[RP,hx,C4];show _*(_*1)=_;rw[VZ]
 have e2:BB (T.take (i+1))=BB (T.take i)*x.1 ^ (-x.2).toNat:=by rw[RP,hx,CZ];show _*(_*1)=_;rw[VZ]
 have p:=km (T:=T.take i) λy hy=>h y (T0 hy)
 have t:=C0 h (i+1);rw[e1,e2] at t;exact⟨e1,e2,RN (TL _ p.1) t.1,RN (TL _ p.2) t.2⟩
abbrev PP:List (Nat×Nat)->List Int->Nat
 |w :: W,e :: R=>w.1 ^ e.toNat*w.2 ^ (-e).toNat*PP W R
 |_,_=>1
abbrev QQ:List (Nat×Nat)->List Int->Nat
 |w :: W,e :: R=>w.2 ^ e.toNat*w.1 ^ (-e).toNat*QQ W R
 |_,_=>1
abbrev na:List Int->Nat
 |[]=>0
 |e :: R=>e.natAbs+na R
def GH{c a k j:Nat}(h:a<=c)(hk:k<=j)(hc:0<c):a ^ k<=c ^ j:=RN (Vq h k) (RJ hc hk)
def MX{c a b:Nat}(hc:0<c)(a0:0<a)(ac:a<=c)(b0:0<b)(bc:b<=c)(e:Int):0<a ^ e.toNat*b ^ (-e).toNat/\a ^ e.toNat*b ^ (-e).toNat<=c ^ e.natAbs/\∀f:Nat->Int,Pw.Add f->f (a ^ e.toNat*b ^ (-e).toNat)=(e.toNat:Int)*f a+((-e).toNat:Int)*f b:=by
 refine⟨Sq (To a0) (To b0),?_,λf hf=>by rw[hf.mul _ _ (To a0) (To b0),hf.pow a0,hf.pow b0]⟩;rcases Int.le_total 0 e with z|z
 .rw[show(-e).toNat=0 by lia,V8,VZ];exact GH ac (by lia) hc
 .rw[show e.toNat=0 by lia,V8,WK];exact GH bc (by lia) hc
def Ht{c:Nat}(hc:0<c):∀{W:List (Nat×Nat)} {R:List Int},(∀w∈W,(0<w.1/\w.1<=c)/\0<w.2/\w.2<=c) ->
  (0<PP W R/\PP W R<=c ^ na R)/\(0<QQ W R/\QQ W R<=c ^ na R)/\∀f,Pw.Add f->f (PP W R)-f (QQ W R)=vs f W R
 |[],R,_=>by
  have:1<=c ^ na R:=To hc
  exact⟨⟨Vk,this⟩,⟨Vk,this⟩,λf _=>Int.sub_self _⟩
 |_ :: _,[],_=>⟨⟨Vk,RB _⟩,⟨Vk,RB _⟩,λf _=>Int.sub_self _⟩
 |w :: W,e :: R,h=>by
  obtain⟨⟨w1,b1⟩,w2,b2⟩:=h w Ru;obtain⟨⟨p0,p1⟩,⟨q0,q1⟩,pq⟩:=Ht hc (W:=W) (R:=R) λy hy=>h y (RA _ hy)
  obtain⟨x0,x1,x2⟩:=MX hc w1 b1 w2 b2 e;obtain⟨y0,y1,y2⟩:=MX hc w2 b2 w1 b1 e;have ex:c ^ na (e :: R)=c ^ e.natAbs*c ^ na R:=Vj ..;rw[ex];refine⟨⟨Sq x0 p0,SE x1 p1⟩,⟨Sq y0 q0,SE y1 q1⟩,λf hf=>?_⟩;show f (w.1 ^ e.toNat*w.2 ^ (-e).toNat*PP W R)-f (w.2 ^ e.toNat*w.1 ^ (-e).toNat*QQ W R)=e*(f w.1-f w.2)+vs f W R;rw[hf.mul _ _ x0 p0,hf.mul _ _ y0 q0,x2 f hf,y2 f hf,<- pq f hf,Za8];have a1:e*f w.1=(e.toNat:Int)*f w.1-((-e).toNat:Int)*f w.1:=by rw[<- Zq,show((e.toNat:Nat):Int)-(((-e).toNat:Nat):Int)=e by lia]
  have a2:e*f w.2=(e.toNat:Int)*f w.2-((-e).toNat:Int)*f w.2:=by rw[<- Zq,show((e.toNat:Nat):Int)-(((-e).toNat:Nat):Int)=e by lia]
  lia
def QY{c:Nat}(hc:0<c){W:List (Nat×Nat)}(hW:∀w∈W,(0<w.1/\w.1<=c)/\0<w.2/\w.2<=c){T:List Pr}(ap:Gp (T.map (·.1)))(sf:∀f,Pw.Add f->SF f T=SF f (gP W R)) :
  AA T<=c ^ na R/\BB T<=c ^ na R:=by
 obtain⟨⟨p0,p1⟩,⟨q0,q1⟩,pq⟩:=Ht hc (R:=R) hW;have tp:∀x∈T,0<x.1:=λx hx=>by have:=ap.1 _ (TN hx);lia
 obtain⟨a0,b0⟩:=km tp
 have e:AA T*QQ W R=BB T*PP W R:=AS (Sq a0 q0) (Sq b0 p0) λp hp=>by
  have h1:=Le hp.add tp;rw[sf _ hp.add,re,<- pq _ hp.add] at h1;rw[i5 hp _ _ a0 q0,i5 hp _ _ b0 p0];have h1:(bC p (AA T):Int)-bC p (BB T)=bC p (PP W R)-bC p (QQ W R):=h1;lia
 have co:=Hz ap.2;have d1:AA T∣PP W R:=co.dvd_of_dvd_mul_left ⟨_,e.symm⟩;have d2:BB T∣QQ W R:=co.symm.dvd_of_dvd_mul_left ⟨_,e⟩;exact⟨RN (UF p0 d1) p1,RN (UF q0 d2) q1⟩
def xO{f:Nat->Int}:∀{W:List (Nat×Nat)} {o:List Int} {a:Nat} {w:Nat×Nat} {x v:Int},W[a]?=some w->o[a]?=some x->vs f W (o.set a v)=vs f W o+(v-x)*(f w.1-f w.2)
 |[],_,_,_,_,_,h,_=>by simp at h
 |_ :: _,[],_,_,_,_,_,h=>by simp at h
 |u :: W,y :: o,0,w,x,v,h1,h2=>by
  simp at h1 h2;subst h1 h2;show v*_+vs f W o=y*_+vs f W o+(v-y)*_;rw[Zq];lia
 |u :: W,y :: o,a+1,w,x,v,h1,h2=>by
  simp at h1 h2;show y*_+vs f W (o.set a v)=y*_+vs f W o+_;rw[xO h1 h2];lia
def AV:∀{o:List Int} {a:Nat} {x v:Int},o[a]?=some x->(v-x).natAbs<=1->na (o.set a v)<=na o+1
 |[],_,_,_,h,_=>by simp at h
 |y :: o,0,x,v,h,k=>by
  simp at h;subst h;show v.natAbs+na o<=y.natAbs+na o+1;lia
 |y :: o,a+1,x,v,h,k=>by
  simp at h
  have:=AV h k
  show y.natAbs+na (o.set a v)<=y.natAbs+na o+1;lia
abbrev bump(o:List Int)(e:Nat×Nat):List Int:=(o.set e.1 (o.getD e.1 0-1)).set e.2 ((o.set e.1 (o.getD e.1 0-1)).getD e.2 0+1)
abbrev kR(es:List (Nat×Nat))(n:Nat)(R:List Nat):List Int:=R.foldl (λo k=>bump o (es.getD k (0,0))) (Sg n 0)
def vj{R:List Nat}{k:Nat}:kR es n (R++[k])=bump (kR es n R) (es.getD k (0,0)):=by unfold kR;rw[Ug];rfl
def F6:(bump o e).length=o.length:=by unfold bump;rw[Ws,Ws]
def nQ:(kR es n R).length=n:=by
 unfold kR;generalize hq:Sg n (0:Int)=q;have hl:q.length=n:=by rw[<- hq,U5]
 clear hq
 induction R generalizing q with
 |nil=>exact hl
 |cons k R ih=>exact ih _ (F6.trans hl)
def getD_at{o:List Int}{a:Nat}(h:a<o.length):o[a]?=some (o.getD a 0):=by rw[Rr,Rn h];rfl
def F8{W:List (Nat×Nat)}{o:List Int}{e:Nat×Nat}{w u:Nat×Nat}(l:e.1<o.length)(l':e.2<o.length)(hw:W[e.1]?=some w)(hu:W[e.2]?=some u) :
  vs f W (bump o e)=vs f W o+((f u.1-f u.2)-(f w.1-f w.2))/\na (bump o e)<=na o+2:=by
 unfold bump;have g1:=getD_at l;have g2:=getD_at (o:=o.set e.1 (o.getD e.1 0-1)) (a:=e.2) (by rw[Ws];exact l');have a:=xO (f:=f) (v:=o.getD e.1 0-1) hw g1;have b:=xO (f:=f) (v:=(o.set e.1 (o.getD e.1 0-1)).getD e.2 0+1) hu g2;have c:=AV (v:=o.getD e.1 0-1) g1 (by lia);have d:=AV (v:=(o.set e.1 (o.getD e.1 0-1)).getD e.2 0+1) g2 (by lia);refine⟨?_,by lia⟩;rw[b,a,show o.getD e.1 0-1-o.getD e.1 0 = -1 by lia,show(o.set e.1 (o.getD e.1 0-1)).getD e.2 0+1-(o.set e.1 (o.getD e.1 0-1)).getD e.2 0=1 by lia,Ym,VW,Ym];lia
abbrev sW(es:List (Nat×Nat))(W:Nat->Rat)(k:Nat):Rat:=W (Tr.tow es k)*(W (Tr.fro es k))⁻¹
def Lh{n h:Nat}(hh:h<n):(wl W n)[h]?=some ((W h).num.natAbs,(W h).den):=by
 unfold wl;rw[Rt,SM hh];rfl
def pi{α:Type}{P:List α->Prop}(h0:P [])(h1:∀l a,P l->P (l++[a]))(l:List α):P l:=by
 have:∀r:List α,P r.reverse:=λr=>by
  induction r with
  |nil=>exact h0
  |cons a r ih=>rw[Zam];exact h1 _ _ ih
 rw[<- List.reverse_reverse l];exact this _
def AQ{es:List (Nat×Nat)}{n:Nat}{W:Nat->Rat}(ok:∀k,k<es.length->Tr.fro es k<n/\Tr.tow es k<n)(wp:∀h,h<n->0<W h):∀{R:List Nat},(∀k∈R,k<es.length) ->
  (∀f,Pw.Add f->vs f (wl W n) (kR es n R)=vr f (pl (sW es W) R))/\na (kR es n R)<=2*R.length:=by
 intro R
 induction R using pi with
 |h0 =>
  intro _
  have z:∀(m:Nat) (f:Nat->Int) (U:List (Nat×Nat)),vs f U (Sg m 0)=0/\na (Sg m 0)=0:=by
   intro m f
   induction m with
   |zero=>intro U;cases U <;> exact⟨rfl,rfl⟩
   |succ m ih =>
    intro U;cases U with
    |nil=>exact⟨rfl,by show 0+na (Sg m 0)=0;rw[(ih []).2]⟩
    |cons u U=>exact⟨by show 0*_+vs f U (Sg m 0)=0;rw[(ih U).1,WX];rfl,by show 0+na (Sg m 0)=0;rw[(ih []).2]⟩
  exact⟨λf hf=>by show vs f _ (Sg n 0)=vr f 1;rw[(z n f _).1,uw hf],YO (z n (λ_=>0) []).2⟩
 |h1 R k ih =>
  intro h;obtain⟨i1,i2⟩:=ih λj hj=>h j (Sa _ hj)
  have hk:=h k (RU _ (RL.mpr rfl));obtain⟨l1,l2⟩:=ok k hk;have b:=λf=>F8 (f:=f) (W:=wl W n) (o:=kR es n R) (e:=es.getD k (0,0)) (by rw[nQ];exact l1) (by rw[nQ];exact l2) (Lh l1) (Lh l2)
  rw[vj];refine⟨λf hf=>?_,by rw[RF,TQ];have:=(b λ_=>0).2;lia⟩
  have gp:∀j∈R,0<sW es W j:=λj hj=>by
   obtain⟨a,c⟩:=ok j (h j (Sa _ hj));exact VY (wp _ c) (WL.mpr (wp _ a))
  rw[(b f).1,i1 f hf,GI];have kp:0<sW es W k:=VY (wp _ l2) (WL.mpr (wp _ l1));show _=vr f (pl (sW es W) R*(sW es W k*1));rw[Uh,kJ hf (Av gp) kp];show _=_+vr f (W (Tr.tow es k)*(W (Tr.fro es k))⁻¹);rw[kJ hf (wp _ l2) (WL.mpr (wp _ l1)),Lj hf (wp _ l1)];show _+(vr f (W (Tr.tow es k))-vr f (W (Tr.fro es k)))=_;lia
def QX{es:List (Nat×Nat)}{n:Nat}{W:Nat->Rat}(ok:∀k,k<es.length->Tr.fro es k<n/\Tr.tow es k<n)(wp:∀h,h<n->0<W h){R:List Nat}(hR:∀k∈R,k<es.length){T:List Pr}(ap:Gp (T.map (·.1)))
  (sf:∀f,Pw.Add f->SF f T=SF f (gP (wl W n) (kR es n R))):Sc (AA T) (BB T)=pl (sW es W) R:=by
 have tp:∀x∈T,0<x.1:=λx hx=>by have:=ap.1 _ (TN hx);lia
 obtain⟨a0,b0⟩:=km tp
 have gp:∀j∈R,0<sW es W j:=λj hj=>by
  obtain⟨a,c⟩:=ok j (hR j hj);exact VY (wp _ c) (WL.mpr (wp _ a))
 refine Mc ?_ (Av gp) λp hp=>?_
 .rw[VQ];exact VY (by exact_mod_cast a0) (WL.mpr (by exact_mod_cast b0))
 .rw[Ll hp.add a0 b0,Le hp.add tp,sf _ hp.add,re,(AQ ok wp hR).1 _ hp.add]
end Gn
namespace Gn
open PySem L2 Fr G1 Sm Vs G2 Rk Sz Sf Rw Ti Lo Lc Tr Pw
open PySem.W (Dat kqdOk)
def Na{n m:Nat}(h:n<=2 ^ m)(k:m<20000):n<2 ^ 20000:=RS h (T8 (by decide) k)
def BV{m:Nat}:∀{k:Nat},m<k->fl m k=0
 |k+1,h=>by
  show fl m k*(m-k)=0;by_cases c:m<k
  .rw[BV c,XQ]
  .rw[show m-k=0 by lia,Nat.mul_zero]
abbrev mH:Sp:=λvs H Q _=>∃(x b:Nat) (k:Int),vs=[.int (x:Int),.int k]/\-(2 ^ 62)<=k/\k<2 ^ 62/\x<2 ^ b/\b<1000/\b*k.toNat<19000/\Q (.int (fl x k.toNat:Int)) H
abbrev si(K:Fg):TS:=(am (av (tC (.int 1)) (al 2))
 (am (a9 (b_ (ae (aa 1) ai)) (al 3)
 (av (ao eG (aa 2) (ao g6 (aa 0) (aa 3))) (al 2)))
 (aE (aa 2))))
def ED{K:Fg}:ρ 4 mH (si K):=by
 fail "R";obtain⟨x,b,k,rfl,k1,k2,xb,b1,bk,q⟩:=h;rw[L2.aO hN];walk_at "t";unfold si;cbv;refine aR (λi σ H2=>∃u3:Option V,σ=[↥(x:Int),↥k,↥(fl x i:Int),u3]/\H2=H) ⟨none,rfl,rfl⟩ ?_ ?_
 .rintro i σ H2 hi ⟨u3,rfl,rfl⟩;have p1:fl x i<=2 ^ (b*i):=by rw[Zo];exact Kz (UC xb) i
  have p2:b*i<=b*k.toNat:=Sh b (by lia)
  have b2:((x:Int)-(0+(i:Int))).natAbs<2 ^ 20000:=by
   have x1:x<2 ^ 1000:=R3 xb (RJ (by decide) (by lia));have x2:(2:Nat) ^ 62<2 ^ 1000:=T8 (by decide) (by decide);refine Na (m:=1000) ?_ (by decide);generalize (2:Nat) ^ 1000=M at x1 x2;lia
  cbv;refine fD ⟨Na (n:=((fl x i:Nat):Int).natAbs) (m:=b*i) (by rw[Se];exact p1) (by lia),b2⟩ ?_;cbv;refine⟨some (.int (0+(i:Int))),?_,rfl⟩
  rw[show(fl x i:Int)*((x:Int)-(0+(i:Int)))=(fl x (i+1):Int) by
   show _=((fl x i*(x-i):Nat):Int)
   by_cases c:i<=x
   .rw[Th,show((x-i:Nat):Int)=(x:Int)-(0+(i:Int)) by lia]
   .rw[BV (by lia),XQ];exact WX _]
  rfl
 .rintro σ H2 ⟨u3,rfl,rfl⟩;cbv;exact q
abbrev uI:Sp:=λvs H Q _=>∃(x:Nat) (k:Int),vs=[.int (x:Int),.int k]/\0<x/\-(2 ^ 62)<=k/\k<2 ^ 62/\x<2 ^ 20000/\x ^ k.toNat<2 ^ 20000/\Q (.int ((x ^ k.toNat:Nat):Int)) H
abbrev yh(K:Fg):TS:=(am (av (tC (.int 1)) (al 2))
 (am (a9 (b_ (ae (aa 1) ai)) (al 3)
 (av (ao eG (aa 2) (aa 0)) (al 2)))
 (aE (aa 2))))
def IH{K:Fg}:ρ 4 uI (yh K):=by
 fail "R";obtain⟨x,k,rfl,x0,k1,k2,xb,pb,q⟩:=h;rw[L2.aO hN];walk_at "t";unfold yh;cbv;refine aR (λi σ H2=>∃u3:Option V,σ=[↥(x:Int),↥k,some (.int ((x ^ i:Nat):Int)),u3]/\H2=H) ⟨none,rfl,rfl⟩ ?_ ?_
 .rintro i σ H2 hi ⟨u3,rfl,rfl⟩;cbv;refine fD ⟨by rw[Se];exact RS (RJ x0 (UC hi)) pb,by rw[Se];exact xb⟩ ?_;cbv;exact⟨some (.int (0+(i:Int))),by rw[<- Th,<- TU];rfl,rfl⟩
 .rintro σ H2 ⟨u3,rfl,rfl⟩;cbv;exact q
abbrev zq(K:Fg):Sp:=λvs H Q _=>∃(a:Addr) (xs:List V) (P0:List Pr),vs=[.ref a]/\H a=some (.lst xs)/\RzL K H xs (P0.map jV)/\(∀x∈P0,0<x.1/\x.1<2 ^ 8000)/\gR P0<2 ^ 8000/\P0.length+(bS (P0.map (·.1))).log2<2 ^ 20 /\
 (∀T:List Pr,Gp (T.map (·.1))->(∀f,Pw.Add f->SF f T=SF f P0)->AA T<2 ^ 15000/\BB T<2 ^ 15000) /\
 ∀(p:Addr) (H':Hp) (T:List Pr),Same H H'->Gp (T.map (·.1))->(∀f,Pw.Add f->SF f T=SF f P0)->Rz K H' (.ref p) (dI [(AA T:Int),(BB T:Int)])->Q (.ref p) H'
nonrec abbrev DJ(K:Fg):TS:=(am (a9 (cg K (aw (Pw.mK K) [] E0 (ae (aa 0) ai))) (cj K 2 (aY (al 3) (aY (al 4) ck)))
 (am (av (ao eG (aa 1) (aw Gn.uI [] E0 (ae (aa 3) (ae (aa 4) ai)))) (al 1))
 (av (ao eG (aa 2) (aw Gn.uI [] E0 (ae (aa 3) (ae (HY (rU λi=>.int (-i)) (aa 4)) ai)))) (al 2))))
 (aE (bg (ae (aa 1) (ae (aa 2) ai)))))
abbrev yo(K:Fg):TS:=(am (av (tC (.int 1)) (al 1))
 (am (av (tC (.int 1)) (al 2))
 (DJ K)))
def IK{K:Fg}:ρ 5 (zq K) (yo K):=by
 fail "R";obtain⟨a,xs,P0,rfl,ha,rx,pos,ht,hc,bd,k⟩:=h;rw[L2.aO hN];walk_at "t";unfold yo;cbv;refine⟨a,xs,P0,rfl,ha,rx,pos,ht,hc,λp H1 T A1 ap ne sf lt=>?_⟩;obtain⟨b1,b2⟩:=bd T ap sf;obtain⟨ys,hp,ry⟩:=A1.at_;have S1:=A1.same;have tp:∀x∈T,2<=x.1:=λx hx=>ap.1 _ (TN hx)
 have tp0:∀x∈T,0<x.1:=λx hx=>by have:=tp x hx;lia
 have p15:(2:Nat) ^ 15000<2 ^ 20000:=T8 (by decide) (by decide);have ly:ys.length=T.length:=by rw[ry.length,Rm]
 cbv;refine⟨p,rfl,⟨ys,SqL.of hp⟩,?_⟩;refine bz (xs:=ys) (λi σ H2=>∃u3 u4:Option V,σ=[⇑a,some (.int (AA (T.take i):Int)),some (.int (BB (T.take i):Int)),u3,u4]/\Same H1 H2) ⟨none,none,rfl,Same.refl _⟩ (by rintro i σ H2 _ ⟨_,_,_,S2⟩;exact SqL.of (S2 _ _ hp)) ?_ ?_
 .rintro i y σ H2 hy ⟨u3,u4,rfl,S2⟩;obtain⟨dd,g1,g2⟩:=ry.get hy;rw[Rt] at g1;obtain⟨x,hx,rfl⟩:=RD.mp g1;obtain⟨c,rfl,hcc⟩:=bM (g2.same S2);obtain⟨e1,e2,m1,m2⟩:=QZ tp0 hx;obtain⟨t1,t2⟩:=C0 tp0 i;have x2:=tp x (Ry hx)
  have ex:∀{j n:Nat},x.1 ^ j<=n->n<2 ^ 15000->j<15000:=λ{j n} h1 h2=>by
   have:2 ^ j<2 ^ 15000:=RS (RN (Vq x2 j) h1) h2
   exact(Nat.pow_lt_pow_iff_right (by decide)).mp this
  have j1:=ex m1 b1;have j2:=ex m2 b2
  have xb:x.1<2 ^ 20000:=by
   have ne0:=ne x (Ry hx);refine SY ?_ p15;by_cases c:0<x.2
   .exact RS (RN (XH (by lia) _) m1) b1
   .exact RS (RN (XH (by lia) _) m2) b2
  generalize (2:Nat) ^ 15000=P15 at b1 b2 p15;have hcc:H2 c=some (.tup [.int (x.1:Int),.int x.2]):=hcc;refine bG (SqT.of hcc) rfl ?_;cbv;refine⟨x.1,x.2,rfl,by lia,by lia,by lia,xb,SY (RS m1 b1) p15,?_⟩;refine fD ⟨by rw[Se];exact SY (RS t1 b1) p15,by rw[Se];exact SY (RS m1 b1) p15⟩ ?_;cbv;refine⟨x.1,-x.2,rfl,by lia,by lia,by lia,xb,SY (RS m2 b2) p15,?_⟩;refine fD ⟨by rw[Se];exact SY (RS t2 b2) p15,by rw[Se];exact SY (RS m2 b2) p15⟩ ?_;cbv;rw[<- Th,<- Th,<- e1,<- e2];exact⟨_,_,rfl,S2⟩
 .rintro σ H2 ⟨u3,u4,rfl,S2⟩;rw[ly,RG (RB _)];cbv;refine⟨aM,λq nq=>?_⟩;exact k q _ T (S1.trans (S2.trans (aj nq _))) ap sf (.tup ag (RpL.ints [_,_]))
open PySem L2 Fr G1 Sm Vs G2 Rk Sz Sf Rw Ti Lo Lc Tr Pw Dn Wd
abbrev Gr(T:List Tp):List Nat->List Int->List Int
 |[],c=>c
 |k :: R,c=>Gr T R (beh (T.getD k ([],[])) c)
abbrev Ge(T:List Tp):List Nat->List Int->Prop
 |[],_=>True
 |k :: R,c=>k<T.length/\can (T.getD k ([],[])) c=true/\Ge T R (beh (T.getD k ([],[])) c)
def xM{T:List Tp}:∀{A B:List Nat} {c:List Int},Gr T (A++B) c=Gr T B (Gr T A c)
 |[],_,_=>rfl
 |k :: A,B,c=>xM (A:=A)
def CH{T:List Tp}:∀{A B:List Nat} {c:List Int},Ge T (A++B) c↔Ge T A c/\Ge T B (Gr T A c)
 |[],_,_=>⟨λh=>⟨trivial,h⟩,λh=>h.2⟩
 |k :: A,B,c=>by
  show _/\_/\Ge T (A++B) _↔(_/\_/\_)/\Ge T B (Gr T A _);rw[CH (A:=A)];exact⟨(by rintro ⟨a,b,c,d⟩;exact ⟨⟨a,b,c⟩,d⟩),(by rintro ⟨⟨a,b,c⟩,d⟩;exact ⟨a,b,c,d⟩)⟩
def Hr{T:List Tp}:∀{R:List Nat} {c:List Int},Ge T R c->∀k∈R,k<T.length
 |k :: R,c,h,j,hj=>by
  rcases RW.mp hj with e|e
  .rw[e];exact h.1
  .exact Hr h.2.2 j e
abbrev Ih(K:Fg):Sp:=λvs H Q _=>∃(v:V) (a:Addr) (ws:List Str) (ts:List Tn) (R:List Nat),vs=[v,.ref a,.int ((a8 ts).length:Int)]/\Rz K H v (dV ws ts)/\ts.length<=100/\(a8 ts).length<=100/\H a=some (.lst ((ni R).map V.int))/\(∀k∈R,k<ts.length) /\
 ∀(p:Addr) (H':Hp),Same H H'->H p=none->H' p=some (.lst ((kR (aD ts) (a8 ts).length R).map V.int))->Q (.ref p) H'
nonrec abbrev HS(K:Fg):TS:=(am (av (ao (aG K) (ao (bI K) (aa 3) (aa 5)) (tC (.int 1))) (al 7))
 (am (av (ao g6 (ao (bI K) (aa 4) (aa 6)) (tC (.int 1))) (FK (aa 4) (aa 6) Jg))
 (av (ao aW (ao (bI K) (aa 4) (aa 7)) (tC (.int 1))) (FK (aa 4) (aa 7) Jg))))
abbrev HU(K:Fg):TS:=(am (av (aw (je K) [] E0 (ae (aa 0) ai)) (al 3))
 (am (av (ao Ji (bP (ae (tC (.int 0)) ai)) (aa 2)) (al 4))
 (am (a9 (cg K (aa 1)) (al 5)
 (am (av (ao (aG K) (ao (bI K) (aa 3) (aa 5)) (tC (.int 0))) (al 6))
 (HS K)))
 (aE (aa 4)))))
def L5{K:Fg}:ρ 8 (Ih K) (HU K):=by
 fail "R";obtain⟨v,a,ws,ts,R,rfl,rv,t8,h8,ha,hR,k⟩:=h;rw[L2.aO hN];walk_at "t";unfold HU;generalize hn:(a8 ts).length=n at *;cbv;refine⟨v,ws,ts,rfl,rv,t8,λe H1 A1=>?_⟩;obtain⟨ys,he,ry⟩:=A1.at_;cbv;refine⟨gX,λl0 n0=>?_⟩;have S2:=A1.same.trans (aj n0 (.lst [.int 0]));have T2:=aj n0 (.lst [.int 0]);have h0:upd H1 l0 (.lst [.int 0]) l0=some (.lst [.int 0]):=ag;generalize upd H1 l0 (.lst [.int 0])=H2 at S2 T2 h0 ⊢;cbv;refine Br.P2 h0 (by lia) λl nl=>?_
 have nl0:H l=none:=S2.free nl;have nl1:H1 l=none:=T2.free nl;have S3:=S2.trans (aj nl (.lst (Sg n (.int 0))));have T3:=T2.trans (aj nl (.lst (Sg n (.int 0))));have hl:upd H2 l (.lst (Sg n (.int 0))) l=some (.lst (Sg n (.int 0))):=ag;rw[show Sg n (V.int 0)=(kR (aD ts) n []).map V.int by unfold kR;exact(List.map_replicate ..).symm] at hl S3 T3 ⊢;generalize upd H2 l (.lst ((kR (aD ts) n []).map V.int))=H3 at S3 T3 hl ⊢;cbv;refine⟨a,rfl,⟨_,SqL.of (S3 _ _ ha)⟩,?_⟩;refine bz (xs:=(ni R).map V.int) (λi σ H4=>∃u5 u6 u7:Option V,σ=[some v,⇑a,↥(n:Int),⇑e,⇑l,u5,u6,u7]/\Same H H4/\Same H1 H4/\H4 l=some (.lst ((kR (aD ts) n (R.take i)).map V.int))) ⟨none,none,none,rfl,S3,T3,hl⟩ (by rintro i σ H4 _ ⟨_,_,_,_,S4,_⟩;exact SqL.of (S4 _ _ ha)) ?_ ?_
 .rintro i y σ H4 e1 ⟨u5,u6,u7,rfl,S4,T4,h4⟩;unfold ni at e1;rw[Rt,Rt] at e1;obtain⟨n',f0,rfl⟩:=RD.mp e1;obtain⟨m,f1,rfl⟩:=RD.mp f0;have hm:=hR m (Ry f1);have le:(aD ts).length=ts.length:=by unfold aD;rw[Rm]
  have hx:(aD ts)[m]?=some ((aD ts).getD m (0,0)):=by rw[Rr,Rn (by lia)];rfl
  have ok:=cV ts _ (Ry hx);rw[hn] at ok;have et:R.take (i+1)=R.take i++[m]:=by rw[RP,f1];rfl
  obtain⟨u,eu,ru⟩:=ry.get' (i:=m) (d:=dP ((aD ts).getD m (0,0))) (by rw[Rt,hx];rfl);generalize hq:(aD ts).getD m (0,0)=q at hx ok eu ru;obtain⟨c,rfl,hc⟩:=bM (ru.same T4);have hc:H4 c=some (.tup [.int (q.1:Int),.int (q.2:Int)]):=hc;have ol:∀R,(kR (aD ts) n R).length=n:=λR=>nQ
  cbv;refine bQ (SqL.of (T4 _ _ he)) (v:=.ref c) (aK eu) ?_;refine aF (SqT.of hc) (v:=.int (q.1:Int)) rfl ?_;cbv;refine bQ (SqL.of (T4 _ _ he)) (v:=.ref c) (aK eu) ?_;refine aF (SqT.of hc) (v:=.int (q.2:Int)) rfl ?_;cbv;generalize hO:kR (aD ts) n (R.take i)=o at h4;have lo:o.length=n:=by rw[<- hO];exact ol _
  refine bQ (SqL.of h4) (v:=.int (o.getD q.1 0)) (aK (by rw[Rt,getD_at (by lia)];rfl)) ?_;cbv;refine G3 (w4 (i:=4) rfl (w4 (i:=6) rfl ?_));have st:∀{o:List Int} {j:Nat} {x:Int},j<o.length->Fw ((o.map V.int).length) (j:Int)=some j/\(o.map V.int).set j (.int x)=(o.set j x).map V.int:=λ{o j x} hj=>⟨by unfold Fw;rw[if_pos (by lia),if_pos (by rw[Rm];lia)];simp,by rw[List.map_set]⟩
  refine⟨l,_,_,q.1,rfl,rfl,h4,(st (x:=0) (by lia)).1,?_⟩;rw[(st (by lia)).2];have h5:upd H4 l (.lst ((o.set q.1 (o.getD q.1 0-1)).map V.int)) l=some (.lst ((o.set q.1 (o.getD q.1 0-1)).map V.int)):=ag;have up:∀{H0 H5:Hp} {ob:HO},Same H0 H5->H0 l=none->Same H0 (upd H5 l ob):=λ{H0 H5 ob} s n x o e=>by rw[aC (au e n)];exact s x o e
  have S5:=up (ob:=.lst ((o.set q.1 (o.getD q.1 0-1)).map V.int)) S4 nl0;have T5:=up (ob:=.lst ((o.set q.1 (o.getD q.1 0-1)).map V.int)) T4 nl1;generalize upd H4 l (.lst ((o.set q.1 (o.getD q.1 0-1)).map V.int))=H5 at h5 S5 T5 ⊢;have l1:(o.set q.1 (o.getD q.1 0-1)).length=n:=by rw[Ws];exact lo
  generalize hO1:o.set q.1 (o.getD q.1 0-1)=o1 at h5 l1;cbv;refine bQ (SqL.of h5) (v:=.int (o1.getD q.2 0)) (aK (by rw[Rt,getD_at (by lia)];rfl)) ?_;cbv;refine G3 (w4 (i:=4) rfl (w4 (i:=7) rfl ?_));refine⟨l,_,_,q.2,rfl,rfl,h5,(st (x:=0) (by lia)).1,?_⟩;rw[(st (by lia)).2];cbv;refine⟨_,_,_,rfl,up S5 nl0,up T5 nl1,?_⟩;rw[et,vj,hO,hq];unfold bump;rw[hO1];exact ag
 .rintro σ H4 ⟨u5,u6,u7,rfl,S4,T4,h4⟩;rw[show((ni R).map V.int).length=R.length by unfold ni;rw[Rm,Rm],RG (RB _)] at h4;cbv;exact k l H4 S4 nl0 h4
abbrev mG(K:Fg):Sp:=λvs H Q _=>∃t b:Int,vs=[.int t,.int b]/\b≠0/\t.natAbs<2 ^ 13500/\b.natAbs<2 ^ 13500/\∀(p:Addr) (H':Hp),Same H H'->Rz K H' (.ref p) (dQ (Sc t b))->Q (.ref p) H'
def N9{K:Fg}{vs:List V}(h:gW K vs H Q E):mG K vs H Q E:=by
 obtain⟨t,b,e,b0,ht,hb,k⟩:=h;have p:=@pw_lt 8000 13500 (by decide);exact⟨t,b,e,b0,SY ht p,SY hb p,k⟩
nonrec abbrev yD(K:Fg):TS:=(am (av (aw pf [] E0 (ae (aa 0) (ae (aa 1) ai))) (al 2))
 (am (aS (aP (ao xE (aa 1) (tC (.int 0))))
 (av (HY (rU λi=>.int (-i)) (aa 2)) (al 2))
 a7)
 (aE (bg (ae (ao wK (aa 0) (aa 2)) (ae (ao wK (aa 1) (aa 2)) ai))))))
abbrev r_(K:Fg):TS:=(am (aS (Gw (fR (tB (aw d_ [] E0 (ae (aa 0) ai)))) (fR (tB (aw d_ [] E0 (ae (aa 1) ai)))))
 o8
 a7)
 (am (aS (aP (ao gk (aa 1) (tC (.int 0))))
 o8
 a7)
 (yD K)))
def EB{K:Fg}:ρ 3 (mG K) (r_ K):=by
 fail "R";obtain⟨t,b,rfl,b0,ht,hb,k⟩:=h;rw[L2.aO hN];walk_at "t";unfold r_;have gp:=Gd.vH (a:=t) b0
 have fin:∀d:Int,(d=Gd.gd t b/\0<b\/d = - Gd.gd t b/\b<0)->aE (bg (ae (ao wK (aa 0) (aa 2)) (ae (ao wK (aa 1) (aa 2)) ai))) (ends Q) [↥t,↥b,↥d] H:=by
  intro d hd;obtain⟨e1,e2⟩:=hX b0 (Gd.Ba b0 hd);have dn:d≠0:=by clear ht hb;rcases hd with⟨z,_⟩|⟨z,_⟩ <;> lia
  cbv;refine⟨_,_,rfl,rfl,⟨dn,ht⟩,?_⟩;cbv;refine⟨_,_,rfl,rfl,⟨dn,hb⟩,?_⟩;cbv;refine⟨aM,λp np=>?_⟩;show Q (.ref p) (upd H p (.tup [.int (t.fdiv d),.int (b.fdiv d)]));rw[e1,e2];exact k p _ (aj np _) (.tup ag (RpL.ints [_,_]))
 clear ht hb;cbv;refine⟨t,rfl,?_⟩;cbv;refine⟨b,rfl,?_⟩;cbv;refine aX (λz=>absurd z b0) (λ_=>?_);cbv;refine⟨t,b,rfl,?_⟩;cbv;refine aX (λc=>?_) (λc=>?_)
 .obtain h2:=fin _ (.inr ⟨rfl,c⟩);refine NQ ?_;fail "1";refine w4 (i:=2) rfl ?_;refine Nw ?_;refine Bt ?_;exact h2
 .exact fin _ (.inl ⟨rfl,by lia⟩)
def GU:∀{o:List Int} {c:Int},c∈o->c.natAbs<=na o
 |e :: o,c,h=>by
  show _<=e.natAbs+na o;rcases RW.mp h with z|z
  .rw[z];lia
  .have:=GU z;lia
def oH:∀{A B:List Nat} {m n:Nat},A.length=B.length->dp (A++[m]) (B++[n])=dp A B*dn m n
 |[],[],m,n,_=>by show dn m n*1=1*dn m n;lia
 |a :: A,b :: B,m,n,h=>by
  show dn a b*dp (A++[m]) (B++[n])=dn a b*dp A B*dn m n;rw[oH (SK h),SA]
def Of{m n b e:Nat}(h:m<2 ^ b)(k:m-n<=e):dn m n<=2 ^ (b*e):=by
 unfold dn;refine RN (Kz (UC h) _) ?_;rw[<- Zo];exact RJ (by decide) (Sh b k)
structure Nr (b e:Nat) (cs ds:List Nat):Prop where
 len:cs.length=ds.length
 five:cs.length<=5
 bits:b<1000
 few:e<=1000
 lo:∀c∈cs,c<2 ^ b
 hi:∀c∈ds,c<2 ^ b
 near:∀(i:Nat) c d,cs[i]?=some c->ds[i]?=some d->c-d<=e/\d-c<=e
def Nr.symm(h:Nr b e cs ds):Nr b e ds cs:=⟨h.len.symm,by rw[<- h.len];exact h.five,h.bits,h.few,h.hi,h.lo,λi c d h1 h2=>(h.near i d c h2 h1).symm⟩
def Nr.dp{b e:Nat}{cs ds:List Nat}(h:Nr b e cs ds):∀i,i<=cs.length->dp (cs.take i) (ds.take i)<=2 ^ (i*(b*e))
 |0,_=>by show 1<=_;exact To (by decide)
 |i+1,hi=>by
  have e1:cs[i]?=some cs[i]:=Rn hi;have l2:i<ds.length:=by rw[<- h.len];exact hi
  have e2:ds[i]?=some ds[i]:=Rn l2;rw[RP,RP,e1,e2];show Gn.dp (cs.take i++[cs[i]]) (ds.take i++[ds[i]])<=_;rw[oH (by rw[RT,RT,h.len]),Vz,Vj];exact SE (h.dp i (by lia)) (Of (h.lo _ (Td hi)) (h.near i _ _ e1 e2).1)
abbrev Wb(ts:List Tn):Prop:=∀h,h<(a8 ts).length->(Wt ts h).num.natAbs<=2 ^ 512/\(Wt ts h).den<=2 ^ 512
abbrev spGb(K:Fg):Sp:=λvs H Q _=>∃(v u1 u2:V) (f a:Addr) (ws:List Str) (ts:List Tn) (w:Nat) (xs:List V) (R cs ds:List Nat) (b e:Nat),vs=[v,.ref f,.ref a,u1,u2]/\Rz K H v (dV ws ts)/\uk w ts/\ur ts/\Wb ts/\H f=some (.lst xs)/\xs.length=(a8 ts).length/\(∀i x,xs[i]?=some x->QV K H x (Wt ts i))/\H a=some (.lst ((ni R).map V.int))/\(∀k∈R,k<ts.length) /\
 Rz K H u1 (dI (ni cs))/\Rz K H u2 (dI (ni ds))/\Nr b e cs ds/\1024*R.length+5*(b*e)<=13000/\∀(p:Addr) (H':Hp),Same H H'->Rz K H' (.ref p) (dQ (gn (sW (aD ts) (Wt ts)) R cs ds))->Q (.ref p) H'
nonrec abbrev LB(K:Fg):TS:=(am (av (ao eG (aa 6) (aw Gn.mH [] E0 (ae (aa 8) (ae (ao g6 (aa 8) (aa 9)) ai)))) (al 6))
 (av (ao eG (aa 7) (aw Gn.mH [] E0 (ae (aa 9) (ae (ao g6 (aa 9) (aa 8)) ai)))) (al 7)))
nonrec abbrev LA(K:Fg):TS:=(am (av (ao (aG K) (aa 5) (tC (.int 1))) (al 7))
 (am (a9 (tO K .T .T (ae (aa 3) (ae (aa 4) ai))) (cj K 2 (aY (al 8) (aY (al 9) ck)))
 (LB K))
 (aE (aw (Gn.mG K) [] E0 (ae (aa 6) (ae (aa 7) ai))))))
abbrev t_gb(K:Fg):TS:=(am (av (aw (Gn.zq K) [] E0 (ae (aw (Pw.DX K) [] E0 (ae (aa 1) (ae (aw (Gn.Ih K) [] E0 (ae (aa 0) (ae (aa 2) (ae (bU (bZ K) (ae (aa 1) ai)) ai)))) ai))) ai)) (al 5))
 (am (av (ao (aG K) (aa 5) (tC (.int 0))) (al 6))
 (LA K)))
def Pc{K:Fg}:ρ 10 (spGb K) (t_gb K):=by
 fail "R";obtain⟨v,u1,u2,f,a,ws,ts,w,xs,R,cs,ds,b,e,rfl,rv,o,af,wb,hf,lf,qf,ha,hR,r1,r2,nr,bd,k⟩:=h;obtain⟨a1,rfl,h1⟩:=bM r1;obtain⟨a2,rfl,h2⟩:=bM r2;rw[L2.aO hN];walk_at "t";have t8:=o.co.le;have h8:=o.h8;have bk:∀e∈aD ts,Rch (aD ts) e.2 e.1:=λe he=>by obtain⟨j,hj⟩:=SN he;exact af j e.1 e.2 hj
 have le:(aD ts).length=ts.length:=by unfold aD;rw[Rm]
 have Wp:∀k,k<(a8 ts).length->0<Wt ts k:=λk hk=>nR.mp (q_ o.pa bk hk)
 have ok:∀k,k<(aD ts).length->fro (aD ts) k<(a8 ts).length/\tow (aD ts) k<(a8 ts).length:=λk hk=>cV ts _ (Ob hk)
 have hR':∀k∈R,k<(aD ts).length:=λk hk=>by have:=hR k hk;lia
 obtain⟨_,nb⟩:=AQ ok Wp hR';unfold t_gb;cbv;refine cw (SqL.of hf) ?_;rw[lf];cbv;refine⟨v,a,ws,ts,R,rfl,rv,by lia,by lia,ha,hR,λq H1 S1 nq hq=>?_⟩;have ol:(kR (aD ts) (a8 ts).length R).length=(a8 ts).length:=nQ;cbv;refine⟨f,q,xs,_,Wt ts,rfl,S1 _ _ hf,hq,by lia,by lia,λi x hx=>⟨(qf i x hx).same S1,q_ o.pa bk (by have:=(Rq.mp hx).1;lia)⟩,λq2 H2 A2=>?_⟩;obtain⟨zs,hz,rz⟩:=A2.at_;rw[ol] at rz;have on:∀c∈kR (aD ts) (a8 ts).length R,c.natAbs<=2 ^ 800:=λc hc=>RN (by have:=GU hc;lia:c.natAbs<=2 ^ 40) (RJ (by decide) (by decide))
 obtain⟨c1,c2,c3⟩:=LS o af ol on
 have ab:∀T:List Pr,Gp (T.map (·.1))->(∀f,Pw.Add f->SF f T=SF f (gP (wW ts) (kR (aD ts) (a8 ts).length R)))->AA T<=2 ^ (1024*R.length)/\BB T<=2 ^ (1024*R.length):=λT ap sf=>by
  obtain⟨g1,g2⟩:=QY (c:=2 ^ 512) (To (by decide)) (W:=wW ts) (λu hu=>by
   unfold wW wl at hu
   obtain⟨i,hi,rfl⟩:=RO.mp hu
   have li:=Sr.mp hi
   obtain⟨b1,b2⟩:=wb i li
   have wp:=q_ o.pa bk li
   exact⟨⟨by show 0<(Wt ts i).num.natAbs;lia,b1⟩,Ta (Wt ts i).den_nz,b2⟩) ap sf
  have m:(2 ^ 512) ^ na (kR (aD ts) (a8 ts).length R)<=2 ^ (1024*R.length):=by
   rw[<- Zo];exact RJ (by decide) (by lia)
  exact⟨RN g1 m,RN g2 m⟩
 have S2:=S1.trans A2.same;cbv;refine⟨q2,zs,_,rfl,hz,rz,c1,c2,c3,λT ap sf=>?_,λp H3 T S3 ap sf rp=>?_⟩
 .have:=ab T ap sf
  have p:=T8 (a:=2) (by decide) (by lia:1024*R.length<15000);exact⟨RS this.1 p,RS this.2 p⟩
 have S3':=S2.trans S3;obtain⟨aA,aB⟩:=ab T ap sf;have pl_:=QX ok Wp hR' ap sf;have tp:∀x∈T,0<x.1:=λx hx=>by have:=ap.1 _ (TN hx);lia
 obtain⟨A0,B0⟩:=km tp;generalize AA T=A at aA rp pl_ A0;generalize BB T=B at aB rp pl_ B0;clear ab c1 c2 c3 on;obtain⟨pp,e0,hp⟩:=bM rp;cases e0;have hp:H3 p=some (.tup [.int (A:Int),.int (B:Int)]):=hp;cbv;refine aF (SqT.of hp) (v:=.int (A:Int)) rfl ?_;cbv;refine aF (SqT.of hp) (v:=.int (B:Int)) rfl ?_;cbv;have l1:((ni cs).map V.int).length=cs.length:=by unfold ni;rw[Rm,Rm]
 have l2:((ni ds).map V.int).length=cs.length:=by unfold ni;rw[Rm,Rm,nr.len]
 refine⟨a1,a2,_,_,rfl,SqT.of (S3' _ _ h1),SqT.of (S3' _ _ h2),?_⟩;have five:=nr.five
 have big:∀i,i<=cs.length->1024*R.length+i*(b*e)<=13000:=λi hi=>by
  have:=Sv (b*e) (by lia:i<=5)
  lia
 have tb:∀{x y:Nat} (i:Nat),i<=cs.length->x<=2 ^ (1024*R.length)->y<=2 ^ (i*(b*e))->x*y<2 ^ 13500:=λ{x y} i hi hx hy=>by
  refine RS (SE hx hy) ?_;rw[<- Vj];exact T8 (by decide) (by have:=big i hi;lia)
 have p135:(2:Nat) ^ 13500<2 ^ 20000:=T8 (by decide) (by decide);refine BW (n:=cs.length) l1 l2 (λi σ H4=>∃u8 u9:Option V,σ=[some v,⇑f,⇑a,⇑a1,⇑a2,⇑p,some (.int ((A*Gn.dp (cs.take i) (ds.take i):Nat):Int)),some (.int ((B*Gn.dp (ds.take i) (cs.take i):Nat):Int)),u8,u9]/\Same H H4) ⟨none,none,by show _=[_,_,_,_,_,_,some (V.int ((A*1:Nat):Int)),some (V.int ((B*1:Nat):Int)),_,_];rw[VZ,VZ];rfl,S3'⟩ (by rintro i σ H4 _ ⟨_,_,_,S4⟩;exact ⟨SqT.of (S4 _ _ h1),SqT.of (S4 _ _ h2)⟩) ?_ ?_
 .rintro i x y σ H4 T hx hy ⟨u8,u9,rfl,S4⟩ nT;unfold ni at hx hy;rw[Rt,Rt] at hx hy;obtain⟨_,f0,rfl⟩:=RD.mp hx;obtain⟨c,f1,rfl⟩:=RD.mp f0;obtain⟨_,f2,rfl⟩:=RD.mp hy;obtain⟨d,f3,rfl⟩:=RD.mp f2;obtain⟨n1,n2⟩:=nr.near i c d f1 f3;have li:i<cs.length:=(Rq.mp f1).1;have c1:=nr.lo c (Ry f1);have d1:=nr.hi d (Ry f3);have bits:=nr.bits;have m1:=Sh b n1;have m2:=Sh b n2;have g:=big 1 (by lia);have et:cs.take (i+1)=cs.take i++[c]:=by rw[RP,f1];rfl
  have ed:ds.take (i+1)=ds.take i++[d]:=by rw[RP,f3];rfl
  have ll:(cs.take i).length=(ds.take i).length:=by rw[RT,RT,nr.len]
  have b1:=tb i (by lia) aA (nr.dp i (by lia));have b2:=tb i (by lia) aB (nr.symm.dp i (by rw[<- nr.len];lia));have sm:∀{x y:Nat},x<2 ^ b->x-y<=e->(Gn.dn x y)<2 ^ 20000:=λ{x y} hx hy=>RS (Of hx hy) (T8 (by decide) (by lia))
  have s1:=sm c1 n1;have s2:=sm d1 n2;have few:=nr.few;have S5:=S4.trans (aj nT (.tup [.int (c:Int),.int (d:Int)]));refine bG (SqT.of ag) rfl ?_;generalize upd H4 T (.tup [.int (c:Int),.int (d:Int)])=H5 at S5 ⊢;cbv;refine⟨c,b,(c:Int)-d,rfl,by clear b1 b2 s1 s2;lia,by clear b1 b2 s1 s2;lia,c1,bits,?_,?_⟩
  .rw[show((c:Int)-d).toNat=c-d by lia];lia
  rw[show((c:Int)-d).toNat=c-d by lia];refine fD ⟨by rw[Se];exact SY b1 p135,by rw[Se];exact s1⟩ ?_;cbv;refine⟨d,b,(d:Int)-c,rfl,by clear b1 b2 s1 s2;lia,by clear b1 b2 s1 s2;lia,d1,bits,?_,?_⟩
  .rw[show((d:Int)-c).toNat=d-c by lia];lia
  rw[show((d:Int)-c).toNat=d-c by lia];refine fD ⟨by rw[Se];exact SY b2 p135,by rw[Se];exact s2⟩ ?_;cbv;rw[et,ed,oH ll,oH ll.symm,<- Th,<- Th,SA,SA];exact⟨_,_,rfl,S5⟩
 .rintro σ H4 ⟨u8,u9,rfl,S4⟩;rw[RG (RB _),RG (by rw[nr.len];exact RB _)];have d1:=nr.dp cs.length (RB _);have d2:=nr.symm.dp cs.length (by rw[<- nr.len];exact RB _);rw[RG (RB _),RG (by rw[nr.len];exact RB _)] at d1;rw[RG (by rw[nr.len];exact RB _),RG (RB _)] at d2;cbv;refine⟨_,_,rfl,by have:=Sq B0 (Cb ds cs);lia,by rw[Se];exact tb _ (RB _) aA d1,by rw[Se];exact tb _ (RB _) aB d2,λp H5 S5 r=>?_⟩;rw[Th,Th,Qx pl_ nr.len B0] at r;exact k p H5 (S4.trans S5) r
open PySem L2 Fr G1 Sm Vs G2 Rk Sz Sf Rw Ti Lo Lc Tr
abbrev gp(g:Nat->Nat):List Nat->Nat
 |[]=>1
 |k :: r=>g k*gp g r
abbrev gr(g:Nat->Nat):Nat->Nat
 |0=>1
 |n+1=>gr g n*g n
def vF{g:Nat->Nat}{n:Nat}:∀{ks:List Nat},n∈ks->gp g ks=g n*gp g (ks.erase n)
 |k :: r,h=>by
  by_cases c:k=n
  .subst c;rw[List.erase_cons_head];rfl
  .rw[List.erase_cons_tail (by simpa using c)]
   have:n∈r:=by rcases RW.mp h with e|e;exact absurd e.symm c;exact e
   show g k*gp g r=g n*(g k*_);rw[vF this,UK]
def BJ{g:Nat->Nat}:∀{n:Nat} {ks:List Nat},ks.Nodup->(∀k∈ks,k<n)->gp g ks∣gr g n
 |0,[],_,_=>ZaC _
 |0,k :: _,_,h=>absurd (h k Ru) (T_ _)
 |n+1,ks,nd,h=>by
  show _∣gr g n*g n;by_cases c:n∈ks
  .rw[vF c,Tu];refine Nat.mul_dvd_mul (BJ (nd.erase n) λk hk=>?_) (ZaC _);have h1:=h k (List.mem_of_mem_erase hk);have h2:k≠n:=(nd.mem_erase_iff.mp hk).1;lia
  .exact ZO (BJ nd λk hk=>by have h1:=h k hk;have:k≠n:=λz=>c (z ▸ hk);lia) (Yo _ _)
abbrev dk(ts:List Tn)(k:Nat):Nat:=match ts[k]? with
 |some t=>t.d.natAbs
 |none=>1
def vE{g:Nat->Nat}:∀{n:Nat},gr g (n+1)=g 0*gr (λk=>g (k+1)) n
 |0=>by show 1*g 0=g 0*1;lia
 |n+1=>by show gr g (n+1)*g (n+1)=g 0*(_*g (n+1));rw[vE,SA]
def N7:∀ts:List Tn,gr (dk ts) ts.length=Pd ts
 |[]=>rfl
 |t :: ts=>by
  show gr (dk (t :: ts)) (ts.length+1)=t.d.natAbs*Pd ts;rw[vE,<- N7 ts];rfl
def MG(pa:cy ts){k:Nat}(hk:k<ts.length):Tr.Sml (dk ts k) (10 ^ 10) (gc ts k)/\0<dk ts k:=by
 obtain⟨t,ht⟩:∃t,ts[k]?=some t:=⟨_,Rn hk⟩
 obtain⟨q0,d0,_,ql,_⟩:=pa t (Ry ht);have e:gc ts k=Sc t.q t.d:=by unfold gc;rw[ht]
 have e':dk ts k=t.d.natAbs:=by unfold dk;rw[ht]
 have dn:((t.d:Int):Rat)≠0:=by
  intro z
  have:=Y4.mp (show((t.d:Int):Rat)=((0:Int):Rat) from z)
  lia
 rw[e,e'];refine⟨⟨t.q,?_,by lia⟩,by lia⟩;rw[show((t.d.natAbs:Nat):Int)=t.d by lia,VQ,Z6 dn]
def Mo{pc:Nat->Rat}:∀{ks:List Nat} {x:Rat},ks.foldl (λx k=>x*pc k) x=x*pq pc ks:=by
 intro ks;unfold pq
 induction ks with
 |nil=>intro x;show x=x*1;rw[Uh]
 |cons k r ih =>
  intro x;show r.foldl _ (x*pc k)=x*r.foldl _ (1*pc k);rw[ih (x:=x*pc k),ih (x:=1*pc k),WJ,SV]
def GF{ts:List Tn}(pa:cy ts):∀{ks:List Nat},(∀k∈ks,k<ts.length)->Tr.Sml (gp (dk ts) ks) ((10 ^ 10) ^ ks.length) (pq (gc ts) ks)
 |[],_=>Tr.Sml.one (RB _)
 |k :: r,h=>by
  have i:=GF pa (ks:=r) λj hj=>h j (RA _ hj)
  have e:pq (gc ts) (k :: r)=gc ts k*pq (gc ts) r:=by
   show r.foldl _ (1*gc ts k)=_;rw[Mo,WJ]
  rw[e,Sn,TU,Tu ((10 ^ 10) ^ r.length)];exact(MG pa (h k Ru)).1.mul i
abbrev ME(ts:List Tn):Nat:=(10 ^ 10) ^ 7*Pd ts
def EV(pa:cy ts){ks:List Nat}(hk:∀k∈ks,k<ts.length)(nd:ks.Nodup)(l7:ks.length<=7):Tr.Sml (Pd ts) (ME ts) (pq (gc ts) ks):=by
 obtain⟨c,hc⟩:=BJ (g:=dk ts) nd hk;rw[N7] at hc;have p:=jY pa;rw[hc] at p;have c0:0<gp (dk ts) ks:=Ta λz=>by rw[z,XQ] at p;lia
 have:=(GF pa hk).up (E:=c) (N:=ME ts) (by
  unfold ME
  rw[hc]
  exact SE (RJ (by decide) l7) (TL _ c0))
 rw[hc];exact this
def uv{es:List (Nat×Nat)}{ts:List Tn}{r:Nat}(pa:cy ts):∀{l:List (List Nat)},(∀q∈l,(∀k∈q,k<ts.length)/\q.Nodup/\q.length<=7)->Tr.Sml (Pd ts) (l.length*ME ts) (ls l (wq es ts r))
 |[],_=>Tr.Sml.zero _ _
 |q :: l,h=>by
  obtain⟨a,b,c⟩:=h q Ru
  have h1:Tr.Sml (Pd ts) (ME ts) (wq es ts r q):=by
   unfold wq;split
   .exact EV pa a b c
   .exact Tr.Sml.zero _ _
  rw[cS,Sn,Vz,YN];exact h1.add (uv pa λx hx=>h x (RA _ hx))
def GT{f:Nat->Nat}:∀{l:List Nat},(l.map f).Nodup->l.Nodup
 |[],_=>Uu
 |a :: l,h=>by
  obtain⟨h1,h2⟩:=SJ.mp h;exact SJ.mpr ⟨λz=>h1 (TN z),GT h2⟩
def Gc(pa:cy ts)(t8:ts.length<=8)(h8:(a8 ts).length<=8){h:Nat}(hh:h<(a8 ts).length):(Wt ts h).num.natAbs<=2 ^ 512/\(Wt ts h).den<=2 ^ 512:=by
 have ok:=cV ts;have F:=c_ ok;have le:(aD ts).length=ts.length:=by unfold aD;rw[Rm]
 have s:Tr.Sml (Pd ts) (900*ME ts) (Wt ts h):=by
  unfold Wt;generalize bO (a8 ts).length (aD ts)=f at F;have nd:=cH f (Lo.at_ f h);have hr:h∈aN f (Lo.at_ f h):=bj.mpr ⟨by rw[F.len];exact hh,rfl⟩;have ndo:(bY (aN f (Lo.at_ f h)) h).Nodup:=nd.filter _;have few:=u_ (es:=aD ts) (by lia) ndo (bY (aN f (Lo.at_ f h)) h).length;rw[SZ] at few;have lo:=nA nd hr;have l8:(aN f (Lo.at_ f h)).length<=8:=RN fV (by rw[F.len];exact h8);rw[<- KY nd hr (gq F ok _)]
  have s:=uv (es:=aD ts) (r:=h) pa (l:=pk (aD ts) (bY (aN f (Lo.at_ f h)) h)) λq hq=>by
   obtain⟨a,ha,ks,e1,e2,e3⟩:=uZ hq;rw[RL.mp ha,UO] at e1
   have:=congrArg Ue e2
   rw[Rm] at this;rw[e1];exact⟨λk hk=>by have:=e3 k hk;lia,GT (f:=fro (aD ts)) (by rw[e2];exact ndo),by lia⟩
  obtain⟨m,e,l⟩:=s;exact⟨m,e,RN l (Sv _ few)⟩
 have p1:=jY pa;have pl:=RN (K1 pa) (RJ (by decide) t8);obtain⟨b1,b2⟩:=s.bits p1;have z1:(10 ^ 10) ^ 8<=2 ^ 512:=by decide
 have z2:900*((10 ^ 10) ^ 7*(10 ^ 10) ^ 8)<=2 ^ 512:=by decide
 exact⟨RN b1 (RN (Sh _ (Sh _ pl)) z2),RN b2 (RN pl z1)⟩
abbrev fW(w:Nat)(c:Int)(k:Nat):List Int:=(RQ w).map λj=>if j+1=k then c else 0
abbrev hls(w:Nat)(c:Int)(n:Nat):List (List Int):=(RQ n).map (fW w c)
abbrev rng(n:Nat)(x:Bool):List (Nat×Nat):=(RQ n).map (λk=>(k,(k+1) % n))++if x then [(1,0)] else []
structure ZL (w:Nat) (c:Int) (n:Nat) (x:Bool) (ts:List Tn):Prop where
 c1:1<=c
 c3:c<=3
 n2:2<=n
 nw:n<=w+1
 w5:w<=5
 xn:x=true->2<n
 eq:ts.map cf=(rng n x).map (rA (hls w c n))
 pc:∀t∈ts,gL t.q t.d
def GL{w:Nat}{s:Nat}(hs:s<w):pt (fW w c k) s=if s+1=k then c else 0:=by
 unfold pt fW;rw[Rr,Rt,SM hs];rfl
def vC{n k:Nat}(h:k<n):(hls w c n).getD k []=fW w c k:=by
 unfold hls;rw[Rr,Rt,SM h];rfl
def tP:(hls w c n).length=n:=by unfold hls;rw[Rm,R5]
def Jz{w:Nat}{c:Int}(c1:1<=c){j k:Nat}(hj:j<=w)(hk:k<=w)(e:fW w c j=fW w c k):j=k:=by
 rcases Zax j k with l|l|l
 .have:=congrArg (λr=>pt r (k-1)) e
  simp only[GL (show k-1<w by lia)] at this;rw[if_neg (by lia),if_pos (by lia)] at this;lia
 .exact l
 .have:=congrArg (λr=>pt r (j-1)) e
  simp only[GL (show j-1<w by lia)] at this;rw[if_pos (by lia),if_neg (by lia)] at this;lia
def N5{w:Nat}{c:Int}(c1:1<=c){n:Nat}(nw:n<=w+1):(hls w c n).Nodup :=
 nodup_map_on Xh λa ha b hb e=>Jz c1 (by have:=Sr.mp ha;lia) (by have:=Sr.mp hb;lia) e
def LR{n:Nat}{x:Bool}(n2:2<=n)(n6:n<=6)(xn:x=true->2<n):(rng n x).Nodup/\(rng n x).length<=8/\rng n x≠[]/\∀p∈rng n x,lF n p:=by
 have h:n=2\/n=3\/n=4\/n=5\/n=6:=by lia
 unfold lF;cases x with
 |false=>rcases h with rfl|rfl|rfl|rfl|rfl <;> decide
 |true =>
  have:=xn rfl
  rcases h with rfl|rfl|rfl|rfl|rfl
  .lia
  all_goals decide
def ZL.turns(h:ZL w c n x ts):vZ w (hls w c n)/\(hls w c n).length<=8/\uf (hls w c n) ts:=by
 have nw:=h.nw;have w5:=h.w5;obtain⟨a,b,d,e⟩:=LR h.n2 (by lia) h.xn;have nd:=N5 h.c1 nw;refine⟨⟨nd,λr hr=>?_⟩,by rw[tP];lia,Good.turns ⟨a,b,h.eq,by rw[tP];exact e,h.pc⟩ nd d⟩;unfold hls at hr;obtain⟨k,_,rfl⟩:=RO.mp hr;refine⟨by unfold fW;rw[Rm,R5],λy hy=>?_⟩;unfold fW at hy;obtain⟨j,_,rfl⟩:=RO.mp hy
 have:=h.c1
 have:=h.c3
 split <;> lia
abbrev zf(K:Fg):Sp:=λvs H Q _=>∃(a:Addr) (ns:List Int) (t:Int),vs=[.ref a,.int t]/\SqL K H a (ns.map V.int)/\0<=t/\∀(p:Addr) (H':Hp) (ws:List Str) (ts:List Tn) (c:Int) (n:Nat) (x:Bool),Same H H'->gK ws ts->ZL ws.length c n x ts->Rz K H' (.ref p) (dV ws ts)->Q (.ref p) H'
def KD(vo:gK ws ts):uk ws.length ts/\0<(a8 ts).length:=by
 have ho:=Qv vo;obtain⟨hs,po,h8,tk⟩:=vo.turns;have sub:∀x∈a8 ts,x∈hs:=BE ts [] (λt ht=>⟨(tk.ok t ht).1,(tk.ok t ht).2.1⟩) λx h=>by cases h
 refine⟨⟨QH vo,ho.h8,ho.l8,ho.wide,ho.bnd,λr hr c hc=>((po.2 r (sub r hr)).2 c hc).1,λt ht=>(tk.ok t ht).2.2.2⟩,?_⟩;cases ts with
 |nil=>exact absurd rfl tk.ne
 |cons t ts=>exact YV (gE (hs:=[]) (Ru (a:=t) (l:=ts))).1
nonrec abbrev Dr(K:Fg):TS:=(am (av (bU (cE K) (ae (fA (b_ (ae (aa 3) ai)) (ao (rI CMul λi j=>.int (i*j)) (bU Jn (ae (ao gk (aa 0) (ao g6 (aa 7) (tC (.int 1)))) ai)) (ao aW (tC (.int 1)) (ao aQ (ao bV (aa 3) (tC (.int 25))) (tC (.int 3)))))) ai)) (al 7))
 (bn (dD K "list" aJ (aa 5) (ae (aa 7) ai))))
nonrec abbrev Dq (K:Fg):TS:=(bn (dD K "list" aJ (aa 8) (ae (bg (ae (ao (bI K) (aa 5) (aa 6)) (ae (ao (bI K) (aa 5) (ao aQ (ao aW (aa 6) (tC (.int 1))) (aa 4))) (ae (aw (jb K) [] E0 (ae (ao bV (aa 9) (tC (.int 7))) (ae (ao aW (tC (.int 1)) (ao aQ (aa 9) (tC (.int 2)))) ai))) ai)))) ai)))
nonrec abbrev Dp (K:Fg):TS:=(bn (dD K "list" aJ (aa 8) (ae (bg (ae (ao (bI K) (aa 5) (tC (.int 1))) (ae (ao (bI K) (aa 5) (tC (.int 0))) (ae (aw (jb K) [] E0 (ae (aw (cC K) [] E0 (ae (aa 0) (ae (ao aW (aa 1) (tC (.int 7))) ai))) (ae (tC (.int 1)) ai))) ai)))) ai)))
nonrec abbrev Do(K:Fg):TS:=(am (aS (mn (aP (ao EN (aa 4) (tC (.int 2)))) (aP (ao gk (ao aQ (ao bV (aa 2) (tC (.int 75))) (tC (.int 2))) (tC (.int 1)))))
 (Dp K)
 a7)
 (aE (bg (ae (aw (gg K) [] E0 (ae (ao bV (aa 2) (tC (.int 150))) (ae (aa 3) ai))) (ae (bU (cE K) (ae (aa 8) ai)) ai)))))
nonrec abbrev Dm(K:Fg):TS:=(am (av (bP ai) (al 8))
 (am (a9 (b_ (ae (aa 4) ai)) (al 6)
 (am (av (aw (cC K) [] E0 (ae (aa 0) (ae (ao aW (ao aW (aa 1) (tC (.int 1))) (aa 6)) ai))) (al 9))
 (Dq K)))
 (Do K)))
nonrec abbrev Dj(K:Fg):TS:=(am (av (ao aW (tC (.int 1)) (ao aQ (aa 2) (tC (.int 5)))) (al 3))
 (am (av (ao aW (tC (.int 2)) (ao aQ (ao bV (aa 2) (tC (.int 5))) (aa 3))) (al 4))
 (am (av (bP ai) (al 5))
 (am (a9 (b_ (ae (aa 4) ai)) (al 6)
 (Dr K))
 (Dm K)))))
abbrev xY(K:Fg):TS:=(am (av (aw dF [] E0 (ae (aw (cC K) [] E0 (ae (aa 0) (ae (aa 1) ai))) (ae (tC (.int 3)) ai))) (al 2))
 (Dj K))
def Jy:(fW w c k).length=w:=by unfold fW;rw[Rm,R5]
def IB{K:Fg}:ρ 10 (zf K) (xY K):=by
 fail "R";obtain⟨a,ns,t,rfl,hS,t0,k⟩:=h;rw[L2.aO hN];walk_at "t";unfold xY;cbv;refine⟨a,ns,t,rfl,hS,t0,?_⟩;cbv;refine⟨_,_,rfl,by decide,by decide,λm mx=>?_⟩;have m0:0<=m:=mx.1;cbv;refine⟨by decide,λD nD=>?_⟩;have A1:AccZ K H D (upd H D (.lst [])) []:=AccZ.start (Same.refl _) nD;generalize upd H D (.lst [])=H1 at A1 ⊢;obtain⟨w,hw⟩:∃w:Nat,1+m % 5=(w:Int):=⟨(1+m % 5).toNat,by lia⟩
 obtain⟨n,hn⟩:∃n:Nat,2+m / 5 % (1+m % 5)=(n:Int):=⟨(2+m / 5 % (1+m % 5)).toNat,by have:=Tt (m / 5) (by lia:1+m % 5≠0);lia⟩
 have w1:1<=w:=by lia
 have w5:w<=5:=by lia
 have n2:2<=n:=by have:=Tt (m / 5) (by lia:1+m % 5≠0);lia
 have nw:n<=w+1:=by have:=S_ (m / 5) (by lia:0<1+m % 5);lia
 obtain⟨c,hc⟩:∃c:Int,1+m / 25 % 3=c:=⟨_,rfl⟩
 have c1:1<=c:=by lia
 have c3:c<=3:=by lia
 rw[hn,hw];cbv;rw[Su];refine aR (λi σ H2=>∃u6 u7:Option V,σ=[⇑a,↥t,↥m,↥(w:Int),↥(n:Int),⇑D,u6,u7,none,none]/\AccZ K H D H2 ((hls w c i).map dI)) ⟨none,none,rfl,A1⟩ ?_ ?_
 .rintro i σ H2 hi ⟨u6,u7,rfl,A2⟩;cbv;rw[Su];refine dh λDl nD=>⟨λj H4=>AccZ K H2 Dl H4 ((fW j c i).map Ss),AccZ.start (Same.refl _) nD,?_,?_⟩
  .intro j H4 hj B
   have put:∀x:Int,x=(if j+1=i then c else 0)->oU Dl w j (λj H4=>AccZ K H2 Dl H4 ((fW j c i).map Ss)) (.int x) H4:=by
    intro x ex;refine a_ hj (B.cF (.int x) (aq ?_) λH5 B5=>?_)
    .rw[Rm,Jy];lia
    .show AccZ K H2 Dl H5 ((fW (j+1) c i).map Ss);unfold fW;rw[UQ,Rx,Rx,WD,WD,<- ex];exact B5
   cbv;refine put _ ?_;by_cases z:j+1=i
   .rw[if_pos (by rw[decide_eq_true (by lia)]),if_pos z,Ym,hc]
   .rw[if_neg (by rw[decide_eq_false (by lia)];decide),if_neg z,WX]
  .intro H4 B;have eB:=AccZ.ints B;have hl:(hls w c (i+1)).map dI=(hls w c i).map dI++[dI (fW w c i)]:=by unfold hls;rw[UQ,Rx,Rx];rfl
   cbv;refine fJ (SqL.of eB) λq nq=>?_
   have S5:=B.same.trans (aj nq (.tup ((fW w c i).map V.int)));have r5:Rz K (upd H4 q (.tup ((fW w c i).map V.int))) (.ref q) (dI (fW w c i)):=.tup ag (RpL.ints _);generalize upd H4 q (.tup ((fW w c i).map V.int))=H5 at S5 r5 ⊢;have A5:=A2.on S5;cbv;refine⟨A5.ty,?_⟩;cbv;refine bW A5 r5 (aq (by rw[Rm,tP];lia)) λH6 A6 _ _ _=>?_
   cbv;exact⟨_,_,rfl,by rw[hl];exact A6⟩
 .rintro σ H2 ⟨u6,u7,rfl,A2⟩;obtain⟨zs,hz,rz⟩:=A2.at_;have S2:=A2.same;cbv;refine⟨by decide,λl nl=>?_⟩;have A3:AccZ K H2 l (upd H2 l (.lst [])) []:=AccZ.start (Same.refl _) nl;generalize upd H2 l (.lst [])=H3 at A3 ⊢
  have at_:∀{H5:Hp} {j:Nat},Same H2 H5->j<n->∃y,zs[j]?=some y/\Rz K H5 y (dI (fW w c j)):=λ{H5 j} S hj=>by
   obtain⟨y,e,r⟩:=rz.get' (i:=j) (d:=dI (fW w c j)) (by unfold hls;rw[Rt,Rt,SM hj];rfl);exact⟨y,e,r.same S⟩
  cbv;rw[Su];refine aR (λi σ H4=>∃(ts:List Tn) (u6 u9:Option V),σ=[⇑a,↥t,↥m,↥(w:Int),↥(n:Int),⇑D,u6,u7,⇑l,u9]/\AccZ K H2 l H4 (ts.map dT)/\ts.map cf=((RQ i).map λk=>(k,(k+1) % n)).map (rA (hls w c n))/\∀t∈ts,gL t.q t.d) ⟨[],_,none,rfl,A3,rfl,λt h=>by cases h⟩ ?_ ?_
  .rintro i σ H4 hi ⟨ts,u6,u9,rfl,A4,em,pc⟩;have lt:ts.length=i:=by have:=congrArg Ue em;rw[Rm,Rm,Rm,R5] at this;exact this
   have S4:=A4.same;obtain⟨y1,e1,_⟩:=at_ S4 hi;have lm:(i+1) % n<n:=Nat.mod_lt _ (by lia);obtain⟨y2,e2,_⟩:=at_ S4 lm;have em2:(0+(i:Int)+1) % (n:Int)=(((i+1) % n:Nat):Int):=by rw[Int.natCast_emod];congr 1;lia
   cbv;refine⟨a,ns,_,rfl,(S2.trans S4).seq hS,by lia,?_⟩;generalize cellOf ns (t+1+(0+(i:Int)))=c2;cbv;refine⟨A4.ty,?_⟩;cbv;refine bQ (SqL.of (S4 _ _ hz)) (v:=y1) (by rw[Vi];exact aK e1) ?_;cbv;rw[em2];refine bQ (SqL.of (S4 _ _ hz)) (v:=y2) (aK e2) ?_;cbv;refine⟨_,_,rfl,λpa pq pd H5 S5 ok5 r5=>?_⟩;cbv;refine⟨fS,λz nz=>?_⟩;have S6:=aj nz (.tup [y1,y2,.ref pa]);have S26:=S4.trans (S5.trans S6);obtain⟨_,e1',g1⟩:=at_ S26 hi;obtain⟨_,e2',g2⟩:=at_ S26 lm;cases e1.symm.trans e1';cases e2.symm.trans e2';have r6:Rz K (upd H5 z (.tup [y1,y2,.ref pa])) (.ref z) (dT ⟨fW w c i,fW w c ((i+1) % n),pq,pd⟩):=.tup ag (.cons g1 (.cons g2 (.cons (r5.same S6) .nil)));cbv;refine bW (A4.on (S5.trans S6)) r6 (aq (by rw[Rm];lia)) λH7 A7 _ _ _=>?_
   cbv;refine⟨ts++[_],_,_,rfl,by rw[Rx];exact A7,?_,b7 pc ok5⟩;rw[Rx,em,UQ,Rx,Rx];show _++[(fW w c i,fW w c ((i+1) % n))]=_++[rA (hls w c n) (i,(i+1) % n)]
   unfold rA;rw[vC hi,vC lm]
  .rintro σ H4 ⟨ts,u6,u9,rfl,A4,em,pc⟩;have lt:ts.length=n:=by have:=congrArg Ue em;rw[Rm,Rm,Rm,R5] at this;exact this
   have S4:=A4.same
   have fin:∀{u6 u9:Option V} {H5:Hp} {ts:List Tn} {x:Bool},ZL w c n x ts->AccZ K H2 l H5 (ts.map dT)->aE (bg (ae (aw (gg K) [] E0 (ae (ao bV (aa 2) (tC (.int 150))) (ae (aa 3) ai))) (ae (bU (cE K) (ae (aa 8) ai)) ai))) (ends Q) [⇑a,↥t,↥m,↥(w:Int),↥(n:Int),⇑D,u6,u7,⇑l,u9] H5:=by
    intro u6 u9 H5 ts x Z A5;obtain⟨ys,hl,ry⟩:=A5.at_;have S5:=A5.same;cbv;refine⟨_,_,rfl,by lia,by lia,by lia,λpw H6 ws S6 ow lw r6=>?_⟩;cbv;refine fJ (SqL.of (S6 _ _ hl)) λp np=>?_
    have S7:=aj np (.tup ys);cbv;refine⟨aM,λr nr=>?_⟩;have S8:=aj nr (.tup [.ref pw,.ref p]);have r7:Rz K (upd H6 p (.tup ys)) (.ref p) (.tuple (ts.map dT)):=.tup ag ((ry.same S6).same S7);have lw':ws.length=w:=by lia
    obtain⟨t1,t2,t3⟩:=Z.turns;have vo:gK ws ts:=⟨ow,by lia,by lia,_,by rw[lw'];exact t1,t2,t3⟩
    exact k r _ ws ts c n x (S2.trans (S5.trans (S6.trans (S7.trans S8)))) vo (by rw[lw'];exact Z) (.tup ag (.cons ((r6.same S7).same S8) (.cons (r7.same S8) .nil)))
   have Z0:ZL w c n false ts:=⟨c1,c3,n2,nw,w5,(λz=>by cases z),(by rw[em];unfold rng;rw[if_neg (by decide),Up]),pc⟩
   cbv;refine aX (λc2=>?_) (λc2=>?_)
   .cbv;refine aX (λc4=>?_) (λc4=>?_)
    .have n3:2<n:=by lia
     obtain⟨y1,e1,_⟩:=at_ S4 (show 1<n by lia);obtain⟨y2,e2,_⟩:=at_ S4 (show 0<n by lia);cbv;refine⟨A4.ty,?_⟩;cbv;refine bQ (SqL.of (S4 _ _ hz)) (v:=y1) (aK (j:=1) e1) ?_;cbv;refine bQ (SqL.of (S4 _ _ hz)) (v:=y2) (aK (j:=0) e2) ?_;cbv;refine⟨a,ns,_,rfl,(S2.trans S4).seq hS,by lia,?_⟩;cbv;refine⟨_,_,rfl,λpa pq pd H5 S5 ok5 r5=>?_⟩;cbv;refine⟨fS,λz nz=>?_⟩;have S6:=aj nz (.tup [y1,y2,.ref pa]);have S26:=S4.trans (S5.trans S6);obtain⟨_,e1',g1⟩:=at_ S26 (show 1<n by lia);obtain⟨_,e2',g2⟩:=at_ S26 (show 0<n by lia);cases e1.symm.trans e1';cases e2.symm.trans e2';have r6:Rz K (upd H5 z (.tup [y1,y2,.ref pa])) (.ref z) (dT ⟨fW w c 1,fW w c 0,pq,pd⟩):=.tup ag (.cons g1 (.cons g2 (.cons (r5.same S6) .nil)));cbv;refine bW (A4.on (S5.trans S6)) r6 (aq (by rw[Rm];lia)) λH7 A7 _ _ _=>?_
     refine fin (ts:=ts++[⟨fW w c 1,fW w c 0,pq,pd⟩]) (x:=true) ⟨c1,c3,n2,nw,w5,λ_=>n3,?_,b7 pc ok5⟩ (by rw[Rx];exact A7);rw[Rx,em];unfold rng;rw[if_pos rfl,Rx (f:=rA (hls w c n))];show _++[(fW w c 1,fW w c 0)]=_++[rA (hls w c n) (1,0)]
     unfold rA;rw[vC (by lia),vC (by lia)]
    .exact fin Z0 A4
   .exact fin Z0 A4
abbrev HX(K:Fg):TS:=(am (aS (aP (ao gk (ao aQ (aw (cC K) [] E0 (ae (aa 0) (ae (aa 1) ai))) (tC (.int 2))) (tC (.int 1))))
 (aE (aw (Pw.sQ K) [] E0 (ae (aa 0) (ae (aa 1) ai))))
 a7)
 (aE (aw (Gn.zf K) [] E0 (ae (aa 0) (ae (aa 1) ai)))))
abbrev zw(K:Fg):Sp:=λvs H Q _=>∃(a:Addr) (ns:List Int) (t:Int),vs=[.ref a,.int t]/\SqL K H a (ns.map V.int)/\0<=t/\∀(p:Addr) (H':Hp) (ws:List Str) (ts:List Tn),Same H H'->gK ws ts->Rz K H' (.ref p) (dV ws ts)->Q (.ref p) H'
def Jb{K:Fg}:ρ 2 (zw K) (HX K):=by
 fail "R";obtain⟨a,ns,t,rfl,hS,t0,k⟩:=h;rw[L2.aO hN];walk_at "t";unfold HX;cbv;refine⟨a,ns,t,rfl,hS,t0,?_⟩;cbv;refine aX (λ_=>?_) (λ_=>?_)
 .cbv;exact⟨a,ns,t,rfl,hS,t0,λp H' ws ts u S vo _ _ r=>k p H' ws ts S vo r⟩
 .cbv;exact⟨a,ns,t,rfl,hS,t0,λp H' ws ts c n x S vo _ r=>k p H' ws ts S vo r⟩
abbrev uJ(K:Fg):Sp:=λvs H Q _=>∃t b:Int,vs=[.int t,.int b]/\0<b/\t.natAbs<2 ^ 13500/\b.natAbs<2 ^ 13500/\∀(p:Addr) (q d:Int) (H':Hp),Same H H'->Gd.Low t b q d->q.natAbs<=t.natAbs->d.natAbs<=b.natAbs->Rz K H' (.ref p) (dI [q,d])->Q (.ref p) H'
def PF{K:Fg}{vs:List V}(h:ii K vs H Q E):uJ K vs H Q E:=by
 obtain⟨t,b,e,b0,ht,hb,k⟩:=h;have p:=@pw_lt 8000 13500 (by decide);exact⟨t,b,e,b0,SY ht p,SY hb p,k⟩
abbrev yq(K:Fg):TS:=(am (av (aw pf [] E0 (ae (aa 0) (ae (aa 1) ai))) (al 2))
 (aE (bg (ae (ao wK (aa 0) (aa 2)) (ae (ao wK (aa 1) (aa 2)) ai)))))
def IM{K:Fg}:ρ 3 (uJ K) (yq K):=by
 fail "R";obtain⟨t,b,rfl,b0,ht,hb,k⟩:=h;rw[L2.aO hN];walk_at "t";unfold yq;have nb:b≠0:=by clear ht hb;lia
 have gp:=Gd.vH (a:=t) nb;have gn:Gd.gd t b≠0:=by clear ht hb;lia
 have L:=Gd.Ba (t:=t) (b:=b) (d:=Gd.gd t b) nb (.inl ⟨rfl,b0⟩);have M:=Gd.Bc (t:=t) (b:=b) (d:=Gd.gd t b) nb (.inl ⟨rfl,b0⟩);cbv;refine⟨t,b,rfl,?_⟩;cbv;refine fD ⟨gn,ht⟩ ?_;cbv;refine fD ⟨gn,hb⟩ ?_;clear ht hb;cbv;refine⟨aM,λp np=>?_⟩;exact k p _ _ _ (aj np _) L M.1 M.2 (.tup ag (RpL.ints [_,_]))
abbrev mz(K:Fg):Sp:=λvs H Q _=>∃(a1 a2:Addr) (a b c d:Int),vs=[.ref a1,.ref a2]/\SqT K H a1 [.int a,.int b]/\SqT K H a2 [.int c,.int d]/\0<b*d/\uq a c/\uq b d/\(a*c).natAbs<2 ^ 13500/\(b*d).natAbs<2 ^ 13500/\∀(p:Addr) (H':Hp),Same H H'->Rz K H' (.ref p) (dQ (Sc (a*c) (b*d)))->Q (.ref p) H'
abbrev lV(K:Fg):TS:=(aE (aw (Gn.uJ K) [] E0 (ae (ao eG (ao (aG K) (aa 0) (tC (.int 0))) (ao (aG K) (aa 1) (tC (.int 0)))) (ae (ao eG (ao (aG K) (aa 0) (tC (.int 1))) (ao (aG K) (aa 1) (tC (.int 1)))) ai))))
def zQ{K:Fg}:ρ 2 (mz K) (lV K):=by
 fail "R";obtain⟨a1,a2,a,b,c,d,rfl,h1,h2,bd,m1,m2,n1,n2,k⟩:=h;rw[L2.aO hN];walk_at "t";unfold lV;cbv;refine aF h1 (v:=.int a) rfl ?_;cbv;refine aF h2 (v:=.int c) rfl ?_;refine fD m1 ?_;cbv;refine aF h1 (v:=.int b) rfl ?_;cbv;refine aF h2 (v:=.int d) rfl ?_;refine fD m2 ?_;clear m1 m2;cbv;refine⟨_,_,rfl,bd,n1,n2,λp q d H' S L _ _ r=>?_⟩;obtain⟨e1,e2⟩:=hX (by clear n1 n2;lia) L;rw[e1,e2] at r;exact k p H' S r
def HJ{K:Fg}{vs:List V}(h:gh K vs H Q E):mz K vs H Q E:=by
 obtain⟨v,c,x,a,b,rfl,rv,hc,b0,a4,b4,bx,k⟩:=h;obtain⟨d,rfl,hd⟩:=rv;have sm4:∀n:Nat,n<=4->((n:Int)).natAbs<2 ^ 3900:=λn h=>RS (by lia:((n:Int)).natAbs<=4) (R3 (by decide:4<2 ^ 3) (RJ (by decide) (by decide)))
 have p:=@pw_lt 7800 13500 (by decide);refine⟨d,c,_,_,_,_,rfl,hd,hc,Za9 (by have:=x.den_nz;lia) (by lia),⟨Bq.w bx.1,Bq.w (sm4 a a4)⟩,⟨Bq.w bx.d,Bq.w (sm4 b b4)⟩,SY (Bq.mul bx.1 (sm4 a a4)) p,SY (Bq.mul bx.d (sm4 b b4)) p,λq H' S r=>k q H' S ?_⟩
 rwa [<- U6,T7] at r
def dH:(ni l).length=l.length:=by unfold ni;rw[Rm]
def JZ:∀{cs:List Int},(∀c∈cs,0<=c)->∃ns:List Nat,ni ns=cs
 |[],_=>⟨[],rfl⟩
 |c :: cs,h=>by
  obtain⟨ns,e⟩:=JZ (cs:=cs) λx hx=>h x (RA _ hx)
  have:=h c Ru
  refine⟨c.toNat :: ns,?_⟩;show((c.toNat:Nat):Int) :: ni ns=_;rw[e,show((c.toNat:Nat):Int)=c by lia]
abbrev QR(w:Nat)(ts:List Tn):Prop:=∀t∈ts,(t.fr.length=w/\t.to.length=w)/\∀j,(0<=pt t.fr j/\pt t.fr j<=3)/\0<=pt t.to j/\pt t.to j<=3
def M0{cs:List Nat}{j:Nat}(h:j<cs.length):pt (ni cs) j=(cs[j]:Int):=by
 unfold pt ni;rw[Rr,Rt,Rn h];rfl
def Om(h:Dn.can t c=true){j:Nat}(l1:j<t.1.length)(l2:j<c.length):pt t.1 j<=pt c j:=by
 unfold Dn.can at h
 have:=Xf.mp h (t.1[j],c[j]) (List.mem_iff_getElem?.mpr ⟨j,by rw[U8];exact⟨Rn l1,Rn l2⟩⟩)
 unfold pt;rw[Rr,Rn l1,Rr,Rn l2];simpa using this
def E_(s3:QR w ts){k:Nat}{t:Tn}(ht:ts[k]?=some t){cs:List Nat}(lc:cs.length=w)(hc:Dn.can (Dn.pr t) (ni cs)=true) :
  ∃ds:List Nat,Dn.beh (Dn.pr t) (ni cs)=ni ds/\ds.length=w/\∀(j c d:Nat),cs[j]?=some c->ds[j]?=some d->c-d<=3/\d-c<=3:=by
 obtain⟨⟨l1,l2⟩,b⟩:=s3 t (Ry ht);have ln:(ni cs).length=w:=by rw[dH];exact lc
 have nn:∀x∈Dn.beh (Dn.pr t) (ni cs),0<=x:=λx hx=>by
  unfold Dn.beh at hx;obtain⟨j,hj,rfl⟩:=RO.mp hx;have hj:=Sr.mp hj
  have:=Om hc (j:=j) (by show j<t.fr.length;lia) hj
  have b0:=(b j).2.1;show 0<=pt (ni cs) j-pt t.fr j+pt t.to j
  have:pt t.fr j<=pt (ni cs) j:=this
  lia
 obtain⟨ds,e⟩:=JZ nn;have ld:ds.length=w:=by have:=congrArg Ue e;rw[dH,F_,ln] at this;exact this
 refine⟨ds,e.symm,ld,λj c d h1 h2=>?_⟩;obtain⟨g1,g2⟩:=Rq.mp h1;obtain⟨g3,g4⟩:=Rq.mp h2;have p1:=M0 g1;have p2:=M0 g3;rw[g2] at p1;rw[g4] at p2
 have q:pt (ni ds) j=pt (ni cs) j-pt t.fr j+pt t.to j:=by
  rw[e];unfold Dn.beh;show pt ((RQ (ni cs).length).map _) j=_
  conv=>lhs;unfold pt
  rw[Rr,Rt,SM (by lia)];rfl
 have:=b j
 lia
def Gb(s3:QR w ts){cs:List Nat}(lc:cs.length=w):∀{R:List Nat},Ge (ts.map Dn.pr) R (ni cs) ->
  ∃ds:List Nat,Gr (ts.map Dn.pr) R (ni cs)=ni ds/\ds.length=w/\∀(j c d:Nat),cs[j]?=some c->ds[j]?=some d->c-d<=3*R.length/\d-c<=3*R.length:=by
 intro R
 induction R using pi with
 |h0=>exact λ_=>⟨cs,rfl,lc,λj c d h1 h2=>by cases h1.symm.trans h2;lia⟩
 |h1 R k ih =>
  intro h;obtain⟨a,b1,b2,_⟩:=CH.mp h;obtain⟨ds,e,ld,n⟩:=ih a;rw[Rm] at b1;obtain⟨t,ht⟩:∃t,ts[k]?=some t:=⟨_,Rn b1⟩
  rw[oC ht,e] at b2;obtain⟨es,e2,le,m⟩:=E_ s3 ht ld b2;refine⟨es,?_,le,λj c d h1 h2=>?_⟩
  .rw[xM,e];show Dn.beh ((ts.map Dn.pr).getD k ([],[])) _=_;rw[oC ht,e2]
  .obtain⟨y,hy⟩:∃y,ds[j]?=some y:=⟨_,Rn (by have:=(Rq.mp h1).1;lia)⟩
   have:=n j c y h1 hy
   have:=m j y d hy h2
   rw[RF,TQ];lia
abbrev CP(ts:List Tn):Prop:=ur ts/\∀m∈mks ts,One (wW ts) m
abbrev uN(K:Fg)(x:Ex0.Ad):Sp:=λvs H Q E=>∃(v:V) (ws:List Str) (ts:List Tn) (w:Nat),vs=[v]/\Rz K H v (dV ws ts)/\uk w ts/\(¬ CP ts->∀H',Same H H'->E (.ref x.c10) none H') /\
 ∀(f:Addr) (xs:List V) (H':Hp),CP ts->Same H H'->H f=none->H' f=some (.lst xs)->xs.length=(a8 ts).length->(∀i x,xs[i]?=some x->QV K H' x (Wt ts i))->Q (.ref f) H'
abbrev yM(K:Fg)(E:XK)(x:Ex0.Ad):TS:=(am (av (aw (Pw.uM K) [] E0 (ae (aa 0) ai)) (al 1))
 (am (aS (fR (tB (ao (aG K) (aa 1) (tC (.int 0)))))
 (uC E x.c10 (tC (.str "the vessel is not even-handed")))
 a7)
 (aE (ao (aG K) (aa 1) (tC (.int 1))))))
def IV{K:Fg}{vs:List V}{N:List Str}(hN:N.length=2)(h:uN K x vs H Q E):yM K E x (ends Q) (L2.start N vs) H:=by
 obtain⟨v,ws,ts,w,rfl,rv,o,ke,k⟩:=h;rw[L2.aO hN];walk_at "t";unfold yM;cbv;refine⟨v,ws,ts,w,rfl,rv,o,λi a b p H' he _ nr S _ hp=>?_,λj m p r H' _ hm _ nO S _ _ hp _=>?_,λp f xs H' af on S np nf hp hf lf qf=>?_⟩
 .cbv;refine aF (SqT.of hp) (v:=.bl false) rfl ?_;cbv;exact⟨rfl,ke (λz=>nr (z.1 i a b he)) H' S⟩
 .cbv;refine aF (SqT.of hp) (v:=.bl false) rfl ?_;cbv;exact⟨rfl,ke (λz=>nO (z.2 m (Ry hm))) H' S⟩
 cbv;refine aF (SqT.of hp) (v:=.bl true) rfl ?_;cbv;refine aF (SqT.of hp) (v:=.ref f) rfl ?_;exact k f xs H' ⟨af,on⟩ S nf hf lf qf
def LM(vo:gK ws ts):QR ws.length ts:=by
 obtain⟨hs,po,_,tk⟩:=vo.turns;intro t ht;obtain⟨a,b⟩:=po.2 _ (tk.ok t ht).1;obtain⟨c,d⟩:=po.2 _ (tk.ok t ht).2.1
 have g:∀{r:List Int},(∀x∈r,0<=x/\x<=3)->∀j,0<=pt r j/\pt r j<=3:=λ{r} h j=>by
  unfold pt;rw[Rr];cases e:r[j]? with
  |none=>exact⟨Int.le_refl 0,by decide⟩
  |some x=>exact h x (Ry e)
 exact⟨⟨a,c⟩,λj=>⟨g b j,g d j⟩⟩
def xN{T:List Tp}:∀{row c d:List Int} {k:Nat},iC T row c k=.done d->∃R:List Nat,row=ni R/\Ge T R c/\Gr T R c=d
 |[],c,d,k,h=>by cases h;exact⟨[],rfl,trivial,rfl⟩
 |n :: r,c,d,k,h=>by
  rw[iC] at h;split at h
  .rename_i hn;split at h
   .rename_i hc;obtain⟨R,e1,e2,e3⟩:=xN h;refine⟨n.toNat :: R,?_,⟨by lia,hc,e2⟩,e3⟩;rw[e1];show _=((n.toNat:Nat):Int) :: ni R;rw[show((n.toNat:Nat):Int)=n by lia]
   .cases h
  .cases h
abbrev Rj(H:Hp)(Q:VK)(E:XK)(C5 C7:Addr):CI->Prop
 |.done _=>∀(w:V) (H':Hp),Same H H'->Q w H'
 |.noT=>∀H',Same H H'->E (.ref C5) none H'
 |.notN k=>∀(dx:Addr) (H':Hp),Same H H'->H' dx=some (.xd [("at",.int (k:Int))])->E (.ref C7) (some dx) H'
abbrev sP(K:Fg)(x:Ex0.Ad):Sp:=λvs H Q E=>∃(v u:V) (a:Addr) (ws:List Str) (ts:List Tn) (row:List Int) (cs:List Nat),vs=[v,.ref a,u]/\Rz K H v (dV ws ts)/\gK ws ts/\H a=some (.lst (row.map V.int))/\Rz K H u (dI (ni cs))/\cs.length=ws.length/\(∀c∈cs,c<4) /\
 (row.length<=11\/∃n∈row,¬ (0<=n/\n<ts.length))/\row.length<100/\uj K x.c7/\oS K x.c7 "at"/\(¬ CP ts->∀H',Same H H'->E (.ref x.c10) none H')/\(CP ts->Rj H Q E x.c5 x.c7 (iC (ts.map pr) row (ni cs) 0))
abbrev r9(K:Fg)(E:XK)(x:Ex0.Ad):TS:=(am (av (aw (Gn.uN K x) [] E (ae (aa 0) ai)) (al 3))
 (aE (aw (Gn.spGb K) [] E0 (ae (aa 0) (ae (aa 3) (ae (aa 1) (ae (aa 2) (ae (aw (Wd.mr K x.c5 x.c7) [] E (ae (aa 0) (ae (aa 1) (ae (aa 2) ai)))) ai))))))))
def EA{K:Fg}{vs:List V}{N:List Str}(hN:N.length=4)(h:sP K x vs H Q E):r9 K E x (ends Q) (L2.start N vs) H:=by
 obtain⟨v,u,a,ws,ts,row,cs,rfl,rv,vo,ha,ru,lc,c4,lr,l1,eS,eF,ku,k⟩:=h;rw[L2.aO hN];walk_at "t";obtain⟨o,_⟩:=KD vo;have s3:=LM vo;have w5:=vo.w5;have nc:(ni cs).length=cs.length:=dH;unfold r9;cbv;refine⟨v,ws,ts,ws.length,rfl,rv,o,ku,λf xs H1 ev S1 nf hf lf qf=>?_⟩;have kk:=k ev;cbv;refine⟨v,u,a,ws,ts,row,ni cs,rfl,rv.same S1,S1 _ _ ha,ru.same S1,by rw[nc,lc];exact λt ht=>(s3 t ht).1,by lia,by lia,eS,eF,?_⟩;cases hw:iC (ts.map pr) row (ni cs) 0 with
 |noT=>rw[hw] at kk;exact λH2 S2=>kk H2 (S1.trans S2)
 |notN n=>rw[hw] at kk;exact λdx H2 S2 hd=>kk dx H2 (S1.trans S2) hd
 |done d =>
  rw[hw] at kk;intro y H2 S2 ry;obtain⟨R,rfl,wk,ed⟩:=xN hw;have hR:∀j∈R,j<ts.length:=λj hj=>by have:=Hr wk j hj;rwa [Rm] at this
  have lR:R.length<=11:=by
   rcases lr with z|⟨n,hn,z⟩
   .rwa [dH] at z
   .unfold ni at hn;obtain⟨j,hj,rfl⟩:=RO.mp hn;exact absurd ⟨by lia,by have:=hR j hj;lia⟩ z
  obtain⟨ds,e1,ld,near⟩:=Gb s3 lc wk;rw[<- ed,e1] at ry;have S12:=S1.trans S2;have lo:∀c∈cs,c<2 ^ 6:=λc hc=>by have:=c4 c hc;lia
  have nr:Nr 6 33 cs ds:=⟨by lia,by lia,by decide,by decide,lo,λd hd=>by
   obtain⟨j,hj⟩:=SN hd
   have lj:=(Rq.mp hj).1
   have hc:cs[j]?=some cs[j]:=Rn (by lia)
   have:=near j _ d hc hj
   have:=c4 cs[j] (Td _)
   lia,λj c d h1 h2=>by have:=near j c d h1 h2;lia⟩
  cbv;refine⟨v,u,y,f,a,ws,ts,ws.length,xs,R,cs,ds,6,33,rfl,rv.same S12,o,ev.1,λh hh=>Gc o.pa o.co.le o.h8 hh,S2 _ _ hf,lf,λi x hx=>(qf i x hx).same S2,S12 _ _ ha,hR,ru.same S12,ry,nr,by lia,λp H3 S3 r=>?_⟩;exact kk (.ref p) H3 (S12.trans S3)
abbrev zi(K:Fg)(x:Ex0.Ad):Sp:=λvs H _ E=>∃(v u:V) (ws:List Str) (ts:List Tn),vs=[v,u]/\Rz K H v (dV ws ts)/\gK ws ts/\¬ CP ts/\∀H',Same H H'->E (.ref x.c10) none H'
abbrev yf(K:Fg)(E:XK)(x:Ex0.Ad):TS:=(am (av (aw (Gn.uN K x) [] E (ae (aa 0) ai)) (al 2))
 o8)
def IF{K:Fg}{vs:List V}{N:List Str}(hN:N.length=9)(h:zi K x vs H Q E):yf K E x (ends Q) (L2.start N vs) H:=by
 obtain⟨v,u,ws,ts,rfl,rv,vo,ne,k⟩:=h;rw[L2.aO hN];walk_at "t";unfold yf;cbv;exact⟨v,ws,ts,ws.length,rfl,rv,(KD vo).1,λ_=>k,λ_ _ _ ev=>absurd ev ne⟩
open Tr Ti Vs G1
end Gn
namespace K91
open PySem L2 Fr G1 Sm Vs G2 Rk Sz Sf Rw Ti Lo Lc Tr Pw Dn Wd Gn
open PySem.W (Dat kqdOk)
open K91H
open Ex0 Kd in
structure ui (K:Fg) (mg:Str->Option Rs) (x:Ad):Prop where
 v:Gj K mg "VesselError" x.V
 vb:OR K mg "VesselError" x.V
 mv:mg "ValueError"=none
 m0:mg "NoFraction"=some (.ref x.c0)
 m1:mg "NoStuffs"=some (.ref x.c1)
 m2:mg "NoHeap"=some (.ref x.c2)
 m3:mg "NoPace"=some (.ref x.c3)
 m4:mg "NoTurnings"=some (.ref x.c4)
 m5:mg "NoTurning"=some (.ref x.c5)
 m6:mg "NoText"=some (.ref x.c6)
 m7:mg "NotNow"=some (.ref x.c7)
 m8:mg "TooMany"=some (.ref x.c8)
 m9:mg "NoDrain"=some (.ref x.c9)
 m10:mg "NotEven"=some (.ref x.c10)
 m11:mg "NoStuff"=some (.ref x.c11)
 m12:mg "NoPieces"=some (.ref x.c12)
 m13:mg "NoDeed"=some (.ref x.c13)
 n5:K8 K mg "NoTurning" x.c5 BX "ValueError.__new__"
 s5:CL K x.c5 x.V
 k5:xA K x x.c5 5
 i7:∃f,ExcI K mg "NotNow" x.c7 f
 h7:uj K x.c7
 f7:oS K x.c7 "at"
 s7:CL K x.c7 x.V
 k7:xA K x x.c7 7
 n10:K8 K mg "NotEven" x.c10 BX "ValueError.__new__"
 s10:CL K x.c10 x.V
 k10:xA K x x.c10 10
abbrev RK (x:Ex0.Ad) (C:Addr) (nm:Str):Prop:=(C=x.c5/\nm = "NoTurning")\/(C=x.c7/\nm = "NotNow")\/(C=x.c10/\nm = "NotEven")
abbrev sM(x:Ex0.Ad):Sp:=λvs H Q _=>∃(e C:Addr) (nm:Str),vs=[.ref e]/\ExH H e C/\RK x C nm/\∀(p:Addr) (H':Hp),Same H H'->H' p=some (.lst [.str nm])->Q (.ref p) H'
def Ex{K:Fg}(T:ui K mg x){vs:List V}{N:List Str}(hN:N.length=2)(h:sM x vs H Q E):Ex0.yX K x (G1.ends Q) (L2.start N vs) H:=by
 obtain⟨e,C,nm,rfl,he,rk,k⟩:=h;rw[L2.aO hN];walk_at "t";rcases rk with⟨rfl,rfl⟩|⟨rfl,rfl⟩|⟨rfl,rfl⟩
 .exact Ex0.mX T.k5 (by decide) he k
 .exact Ex0.mX T.k7 (by decide) he k
 .exact Ex0.mX T.k10 (by decide) he k
structure Cn (K:Fg) (mg:Str->Option Rs) (nq oq:Addr):Prop where
 NOUGHT:mg "NOUGHT"=⇑nq
 ONE:mg "ONE"=⇑oq
 zero:∀H:Hp,SqT K H nq [.int 0,.int 1]
 one:∀H:Hp,SqT K H oq [.int 1,.int 1]
def Pu:(10:Int) ^ (30:Int).toNat=1000000000000000000000000000000:=by decide +kernel
abbrev tU:CI->V×V
 |.done _=>(.non,.non)
 |.noT=>(.str "NoTurning",.non)
 |.notN k=>(.str "NotNow",.int (k:Int))
abbrev zr(K:Fg):Sp:=λvs H Q _=>∃(v u:V) (a:Addr) (ws:List Str) (ts:List Tn) (row cs:List Int),vs=[v,.ref a,u]/\Rz K H v (dV ws ts)/\H a=some (.lst (row.map V.int))/\Rz K H u (dI cs)/\Nn cs.length ts/\cs.length<=100/\row.length<1000/\∀(p:Addr) (H':Hp),Same H H'->H' p=some (.tup [(tU (iC (ts.map pr) row cs 0)).1,(tU (iC (ts.map pr) row cs 0)).2])->Q (.ref p) H'
nonrec abbrev DP(K:Fg):TS:=(am (aS (fR (tB (aw (Ik K) [] E0 (ae (ao (aG K) (ao (aG K) (aa 0) (tC (.int 1))) (ao (bI K) (aa 1) (aa 3))) (ae (aa 2) ai)))))
 (aE (bg (ae (tC (.str "NotNow")) (ae (aa 3) ai))))
 a7)
 (av (aw (mI K) [] E0 (ae (ao (aG K) (ao (aG K) (aa 0) (tC (.int 1))) (ao (bI K) (aa 1) (aa 3))) (ae (aa 2) ai))) (al 2)))
nonrec abbrev DO(K:Fg):TS:=(am (aS (Gw (aP (ao xE (ao (bI K) (aa 1) (aa 3)) (tC (.int 0)))) (aP (ao Q9 (ao (bI K) (aa 1) (aa 3)) (bU (bZ K) (ae (ao (aG K) (aa 0) (tC (.int 1))) ai)))))
 (aE (bg (ae (tC (.str "NoTurning")) (ae (tC .non) ai))))
 a7)
 (DP K))
abbrev yu(K:Fg):TS:=(am (a9 (b_ (ae (bU (bZ K) (ae (aa 1) ai)) ai)) (al 3)
 (DO K))
 (aE (bg (ae (tC .non) (ae (tC .non) ai)))))
def IQ{K:Fg}:ρ 4 (zr K) (yu K):=by
 fail "R";obtain⟨v,u,a,ws,ts,row,cs,rfl,rv,ha,ru,nn,l100,lr,k⟩:=h;obtain⟨p,v1,v2,rfl,hp,r1,r2⟩:=t5 rv;obtain⟨b,xs,rfl,hb,rx⟩:=r2.cr;have lx:xs.length=ts.length:=by rw[rx.length,Rm]
 rw[L2.aO hN];walk_at "t";unfold yu;cbv;refine cw (SqL.of ha) ?_;rw[Rm];cbv;refine aR (n:=row.length) (λi σ H2=>∃(c:List Int) (w:V) (u4:Option V),σ=[⇑p,⇑a,some w,u4]/\Same H H2/\Rz K H2 w (dI c)/\c.length=cs.length/\iC (ts.map pr) row cs 0=iC (ts.map pr) (row.drop i) c i) ⟨cs,u,none,rfl,Same.refl _,ru,rfl,by rw[Zg]⟩ ?_ ?_
 .rintro i σ H2 li ⟨c,w,u4,rfl,S2,rc,lc,ew⟩;have f1:row[i]?=some row[i]:=Rn li;have ed:row.drop i=row[i] :: row.drop (i+1):=U9 li;generalize row[i]=n at f1 ed
  have an:rC (row.map V.int) (0+(i:Int))=↥n:=by
   rw[Vi];exact aK (by rw[Rt,f1];rfl)
  rw[ed] at ew;cbv;refine bQ (SqL.of (S2 _ _ ha)) an ?_
  have bad : ¬ (0<=n/\n<ts.length)->∀D:bH,D.rt=Q->aE (bg (ae (tC (.str "NoTurning")) (ae (tC .non) ai))) D [⇑p,⇑a,some w,some (.int (0+(i:Int)))] H2:=λz D e=>by
   refine⟨aM,λq nq=>?_⟩;rw[ew,iC,if_neg (by rw[Rm];exact z)] at k;rw[e];exact k _ _ (S2.trans (aj nq _)) ag
  cbv;refine aX (λn0=>bad (by lia) _ rfl) (λn0=>?_);cbv;refine bQ (SqL.of (S2 _ _ ha)) an ?_;cbv;refine aF (SqT.of (S2 _ _ hp)) (v:=.ref b) rfl ?_;cbv;refine jK (SqT.of (S2 _ _ hb)) ?_;rw[lx];cbv;refine aX (λn1=>bad (by lia) _ rfl) (λn1=>?_);have hn:n.toNat<ts.length:=by lia
  have en:n=((n.toNat:Nat):Int):=by lia
  have ht:ts[n.toNat]?=some ts[n.toNat]:=Rn hn;generalize ts[n.toNat]=t at ht;obtain⟨z,ez,rz⟩:=rx.get' (i:=n.toNat) (d:=dT t) (by rw[Rt,ht];rfl);have az:rC xs n=some z:=by rw[en];exact aK ez
  obtain⟨lt1,lt2⟩:=nn t (Ry ht);rw[iC,if_pos ⟨by lia,by rw[Rm];lia⟩,oC ht] at ew;cbv;refine aF (SqT.of (S2 _ _ hp)) (v:=.ref b) rfl ?_;cbv;refine bQ (SqL.of (S2 _ _ ha)) an ?_;refine aF (SqT.of (S2 _ _ hb)) az ?_;cbv;refine⟨z,w,t,c,rfl,rz.same S2,rc,by lia,λH4 S4=>?_⟩;have S24:=S2.trans S4;cbv;cases hc:can (pr t) c with
  |false =>
   rw[hc,if_neg (by decide)] at ew;rw[ew] at k;cbv;refine⟨aM,λq nq=>?_⟩;have e0:(0+(i:Int))=(i:Int):=Vi _;exact k _ _ (S24.trans (aj nq _)) (by rw[e0];exact ag)
  |true =>
   rw[hc,if_pos rfl] at ew;cbv;refine aF (SqT.of (S24 _ _ hp)) (v:=.ref b) rfl ?_;cbv;refine bQ (SqL.of (S24 _ _ ha)) an ?_;refine aF (SqT.of (S24 _ _ hb)) az ?_;cbv;refine⟨z,w,t,c,rfl,rz.same S24,rc.same S4,by lia,by lia,by lia,λp5 H5 S5 rp=>?_⟩;cbv;exact⟨beh (pr t) c,.ref p5,_,rfl,S24.trans S5,rp,by rw[F_];exact lc,ew⟩
 .rintro σ H2 ⟨c,w,u4,rfl,S2,rc,lc,ew⟩;rw[VC (RB _)] at ew;rw[ew] at k;cbv;refine⟨aM,λq nq=>?_⟩;exact k _ _ (S2.trans (aj nq _)) ag
abbrev Gi(x:Ex0.Ad)(H:Hp)(v:V):Option CI->Prop
 |none=>∃e,v=.ref e/\H e=some (tS e x.c10)
 |some (.done _)=>v=.non
 |some .noT=>∃e,v=.ref e/\H e=some (tS e x.c5)
 |some (.notN k)=>∃e dx,v=.ref e/\H e=some (xj e x.c7 dx)/\H dx=some (.xd [("at",.int (k:Int))])
abbrev Comes(ts:List Tn)(row:List Int)(cs:List Nat)(o:Option CI):Prop:=(CP ts/\o=some (iC (ts.map pr) row (ni cs) 0))\/(¬ CP ts/\o=none)
abbrev e9(K:Fg)(x:Ex0.Ad):Sp:=λvs H Q _=>∃(v r u:V) (ws:List Str) (ts:List Tn) (cs:List Nat) (o:Option CI),vs=[v,r,u]/\Rz K H v (dV ws ts)/\gK ws ts/\Rz K H u (dI (ni cs))/\cs.length=ws.length/\(∀c∈cs,c<4) /\
 ((r=.non/\¬ CP ts/\o=none)\/∃(a:Addr) (row:List Int),r=.ref a/\H a=some (.lst (row.map V.int))/\(row.length<=11\/∃n∈row,¬ (0<=n/\n<ts.length))/\row.length<100/\Comes ts row cs o)/\∀(w:V) (H':Hp),Same H H'->Gi x H' w o->Q w H'
abbrev l9(K:Fg)(x:Ex0.Ad):TS:=(am (av (tC .non) (al 3))
 (am (HZ K (aP (ao mY (aa 1) (tC .non))) (Gn.zi K x) (Gn.sP K x) x.V 4 3 (ae (aa 0) (ae (aa 2) ai)) (ae (aa 0) (ae (aa 1) (ae (aa 2) ai))))
 (aE (aa 3))))
def zZ{K:Fg}(T:ui K mg x){vs:List V}{N:List Str}(hN:N.length=5)(h:e9 K x vs H Q E):l9 K x (ends Q) (L2.start N vs) H:=by
 obtain⟨v,r,u,ws,ts,cs,o,rfl,rv,vo,ru,lc,c4,hr,k⟩:=h;rw[L2.aO hN];walk_at "t"
 have plain:∀{C:Addr} {H1:Hp} {o':Option CI},o=o'->CL K C x.V->Same H H1->(∀{H2:Hp} {e:Addr},H2 e=some (tS e C)->Gi x H2 (.ref e) o')->qQ K x.V 4 3 {nx:=λσ H=>aE (aa 3) (ends Q) σ H,rt:=Q} [some v,some r,some u,some .non,none] (.ref C) none H1:=λ{C H1 o'} eo sc S1 f=>by
  refine⟨C,rfl,sc,λex nx=>?_⟩;have Sx:=aj nx (tS ex C);cbv;exact k _ _ (S1.trans Sx) (by rw[eo];exact f ag)
 unfold l9;cbv;unfold HZ;cbv;rcases hr with⟨rfl,ne,eo⟩|⟨a,row,rfl,ha,lr,l1,hc⟩
 .rw[decide_eq_true (rfl:V.non=V.non)];refine⟨_,rfl,_,rfl,v,u,ws,ts,rfl,rv,vo,ne,λH1 S1=>plain eo T.s10 S1 λh=>⟨_,rfl,h⟩⟩
 .rw[decide_eq_false (λz:V.ref a=V.non=>by cases z)];refine⟨_,rfl,_,rfl,_,rfl,v,u,a,ws,ts,row,cs,rfl,rv,vo,ha,ru,lc,c4,lr,l1,T.h7,T.f7,λne H1 S1=>?_,λev=>?_⟩
  .rcases hc with z|z
   .exact absurd z.1 ne
   .exact plain z.2 T.s10 S1 λh=>⟨_,rfl,h⟩
  .have eo:o=some (iC (ts.map pr) row (ni cs) 0):=by
    rcases hc with z|z
    .exact z.2
    .exact absurd ev z.1
   cases hw:iC (ts.map pr) row (ni cs) 0 with
   |done c =>
    rw[hw] at eo;intro w H1 S1;cbv;exact k _ _ S1 (by rw[eo];rfl)
   |noT =>
    rw[hw] at eo;exact λH1 S1=>plain eo T.s5 S1 λh=>⟨_,rfl,h⟩
   |notN n =>
    rw[hw] at eo;intro dx H1 S1 hd;refine⟨x.c7,rfl,T.s7,λex nx=>?_⟩;have Sx:=aj nx (xj ex x.c7 dx);cbv;exact k _ _ (S1.trans Sx) (by rw[eo];exact⟨ex,dx,rfl,ag,Sx _ _ hd⟩)
abbrev Li:Option CI->V×V
 |none=>(.str "NotEven",.non)
 |some o=>tU o
abbrev jf(K:Fg)(x:Ex0.Ad):Sp:=λvs H Q _=>∃(v:V) (o:Option CI),vs=[v,(Li o).1,(Li o).2]/\Gi x H v o/\∀H',Same H H'->Q (.bl true) H'
nonrec abbrev yT(K:Fg)(x:Ex0.Ad):TS:=(am (aS (Gw (aP (ao mY (aa 0) (tC .non))) (aP (ao (EM K) (aw (sM x) [] E0 (ae (aa 0) ai)) (bP (ae (aa 1) ai)))))
 (aE (tC (.bl false)))
 a7)
 (aE (H_ (ao mY (aa 2) (tC .non)) (wB (aw d_ [] E0 (ae (yY K (aa 0) "at") ai)) (ao gk (yY K (aa 0) "at") (aa 2))))))
abbrev i9(K:Fg)(x:Ex0.Ad):TS:=(am (aS (aP (ao mY (aa 1) (tC .non)))
 (aE (ao mY (aa 0) (tC .non)))
 a7)
 (yT K x))
def EG{K:Fg}(T:ui K mg x){vs:List V}{N:List Str}(hN:N.length=3)(h:jf K x vs H Q E):i9 K x (ends Q) (L2.start N vs) H:=by
 obtain⟨v,o,rfl,rs,k⟩:=h;rw[L2.aO hN];walk_at "t";unfold i9
 have word:∀{e C:Addr} {nm:Str} {pl:V},ExH H e C->RK x C nm->kqdOk 8 (.list [.str nm])=true->(∀H',Same H H'->if decide (pl=V.non)=true then Q (.bl true) H' else wB (aw d_ [] E0 (ae (yY K (aa 0) "at") ai)) (ao gk (yY K (aa 0) "at") (aa 2)) [⇑e,some (.str nm),some pl] H' Q)->i9 K x (ends Q) [⇑e,some (.str nm),some pl] H:=λ{e C nm pl} he rk ok f=>by
  unfold i9;cbv;rw[decide_eq_false (λz:V.str nm=V.non=>by cases z)];cbv;rw[decide_eq_false (λz:V.ref e=V.non=>by cases z)];cbv;refine⟨e,C,nm,rfl,he,rk,λpk H6 S6 hk=>?_⟩;cbv;refine⟨gX,λq2 nq2=>?_⟩;have S7:=aj nq2 (.lst [.str nm]);refine ND (d:=.list [.str nm]) (e:=.list [.str nm]) (.lst (SqL.of (S7 _ _ hk)) (.cons (.str _) .nil)) (.lst (SqL.of ag) (.cons (.str _) .nil)) ok ok (λz=>absurd rfl z) (λ_=>?_);cbv;exact f _ (S6.trans S7)
 cases o with
 |none =>
  obtain⟨e,rfl,he⟩:=rs;refine word (.of he) (.inr (.inr ⟨rfl,rfl⟩)) (by decide +kernel) λH' S=>aX (λ_=>k _ S) λz=>absurd rfl z
 |some o =>
  cases o with
  |done c =>
   have rs:v=.non:=rs;subst rs;cbv;refine aX (λ_=>?_) λz=>absurd rfl z
   cbv;rw[decide_eq_true rfl];exact k _ (Same.refl _)
  |noT =>
   obtain⟨e,rfl,he⟩:=rs;refine word (.of he) (.inl ⟨rfl,rfl⟩) (by decide +kernel) λH' S=>aX (λ_=>k _ S) λz=>absurd rfl z
  |notN n =>
   obtain⟨e,dx,rfl,he,hd⟩:=rs;refine word (.ofD he) (.inr (.inl ⟨rfl,rfl⟩)) (by decide +kernel) λH' S=>?_
   refine aX (λz=>by cases z) λ_=>?_
   cbv;refine⟨_,rfl,e,x.c7,dx,_,_,rfl,S _ _ he,S _ _ hd,T.k7.1,T.f7,rfl,?_⟩;refine⟨(n:Int),rfl,?_⟩;cbv;refine⟨_,rfl,e,x.c7,dx,_,_,rfl,S _ _ he,S _ _ hd,T.k7.1,T.f7,rfl,?_⟩;cbv;show gk (V.int (n:Int)) (V.int (n:Int)) H' Q;cbv;rw[decide_eq_true rfl];exact k _ S
nonrec abbrev Lw (K:Fg) (x:Ex0.Ad):TS:=(am (aS (fR (tB (aw (jf K x) [] E0 (ae (aw (e9 K x) [] E0 (ae (aa 1) (ae (tC .non) (ae (aa 2) ai)))) (ae (tC (.str "NotEven")) (ae (tC .non) ai))))))
 (aE (tC (.bl false)))
 a7)
 (aS (fR (tB (aw (jf K x) [] E0 (ae (aw (e9 K x) [] E0 (ae (aa 1) (ae (aa 8) (ae (aa 2) ai)))) (ae (tC (.str "NotEven")) (ae (tC .non) ai))))))
 (aE (tC (.bl false)))
 a7))
nonrec abbrev Lu(K:Fg)(x:Ex0.Ad):TS:=(am (aS (aP (ao (EM K) (aa 8) (aa 3)))
 (aE (tC (.bl false)))
 a7)
 (aS (tB (aa 7))
 (Lw K x)
 (aS (fR (tB (aw (jf K x) [] E0 (ae (aw (e9 K x) [] E0 (ae (aa 1) (ae (aa 8) (ae (aa 2) ai)))) (ae (aa 5) (ae (aa 6) ai))))))
 (aE (tC (.bl false)))
 a7)))
abbrev HN(K:Fg)(x:Ex0.Ad):TS:=(am (av (bU (eI K) (ae (aa 3) ai)) (al 8))
 (am (a9 (b_ (ae (tC (.int 2)) ai)) (al 9)
 (Lu K x))
 (aE (tC (.bl true)))))
abbrev HP(K:Fg)(x:Ex0.Ad):TS:=(am (av (aw (zr K) [] E0 (ae (aa 1) (ae (aa 3) (ae (aa 2) ai)))) (cj K 2 (aY (al 5) (aY (al 6) ck))))
 (am (av (DU (ao (aG K) (aw (Pw.uM K) [] E0 (ae (aa 1) ai)) (tC (.int 0)))) (al 7))
 (HN K x)))
nonrec abbrev Lz (K:Fg) (x:Ex0.Ad):TS:=(bn (dD K "list" Ag (aa 3) (ae (ao aQ (aa 4) (ao aW (bU (bZ K) (ae (aa 3) ai)) (tC (.int 1)))) (ae (ao (bI K) (bP (ae (ao g6 (HY (rU λi=>.int (-i)) (tC (.int 1))) (aa 4)) (ae (ao aW (bU (bZ K) (ae (ao (aG K) (aa 1) (tC (.int 1))) ai)) (aa 4)) ai))) (ao aQ (aa 4) (tC (.int 2)))) ai))))
nonrec abbrev Ly(K:Fg)(x:Ex0.Ad):TS:=(am (aS (aP (ao gk (ao aQ (ao bV (aw (cC K) [] E0 (ae (aa 0) (ae (tC (.int 17)) ai))) (tC (.int 12))) (tC (.int 3))) (tC (.int 1))))
 (am (av (ao aQ (aw (cC K) [] E0 (ae (aa 0) (ae (tC (.int 18)) ai))) (ao EL (tC (.int 10)) (tC (.int 30)))) (al 4))
 (Lz K x))
 a7)
 (HP K x))
nonrec abbrev Lx(K:Fg)(x:Ex0.Ad):TS:=(am (av (fA (cg K (LC (Jf K) (aa 0) (wA (tC (.int 19))) (wA (ao aW (tC (.int 19)) (ao aQ (aw (cC K) [] E0 (ae (aa 0) (ae (tC (.int 17)) ai))) (tC (.int 12))))))) (ao aQ (aa 0) (bU (bZ K) (ae (ao (aG K) (aa 2) (tC (.int 1))) ai)))) (al 3))
 (Ly K x))
abbrev HQ(K:Fg)(x:Ex0.Ad):TS:=(am (av (aw (sR K) [] E0 (ae (aw (cC K) [] E0 (ae (aa 0) (ae (tC (.int 16)) ai))) (ae (bU (bZ K) (ae (ao (aG K) (aa 1) (tC (.int 0))) ai)) (ae (tC (.int 4)) ai)))) (al 2))
 (Lx K x))
nonrec abbrev HR(K:Fg)(x:Ex0.Ad):TS:=(am (aS (aP (ao EN (ao aQ (aw (cC K) [] E0 (ae (aa 0) (ae (tC (.int 15)) ai))) (tC (.int 3))) (tC (.int 0))))
 (av (aw (Gn.zw K) [] E0 (ae (aa 0) (ae (tC (.int 0)) ai))) (al 1))
 a7)
 (HQ K x))
abbrev DQ(K:Fg)(x:Ex0.Ad):TS:=(am (av (aw (uH K) [] E0 (ae (aa 0) (ae (tC (.int 0)) ai))) (al 1))
 (HR K x))
def vi(ns:List Int):kqdOk 8 (.list (ns.map Ss))=true:=by
 show((ns.map Ss).all (kqdOk 7))=true
 exact Xf.mpr λd hd=>by
  obtain⟨i,_,rfl⟩:=RO.mp hd;rfl
structure Rw_ (K:Fg) (H:Hp) (p pc pr_:Addr) (ws:List Str) (ts:List Tn) (cs:List Nat) (row:List Int):Prop where
 vo:gK ws ts
 rv:Rz K H (.ref p) (dV ws ts)
 rc:Rz K H (.ref pc) (dI (ni cs))
 lc:cs.length=ws.length
 c4:∀c∈cs,c<4
 hr:H pr_=some (.lst (row.map V.int))
 lr:row.length<=11\/∃n∈row,¬ (0<=n/\n<ts.length)
 l1:row.length<100
def II{K:Fg}{Q:VK}{u0 u4:Option V}{d:Bool}(R:Rw_ K H p pc pr_ ws ts cs row)(hd:d=true↔¬ CP ts)(k:∀H',Q (.bl true) H') :
  HN K x (ends Q) [u0,⇑p,⇑pc,⇑pr_,u4,some (tU (iC (ts.map pr) row (ni cs) 0)).1,some (tU (iC (ts.map pr) row (ni cs) 0)).2,some (.bl d),none,none] H:=by
 unfold HN;cbv;refine oj (SqL.of R.hr) λlh nlh=>?_
 have S0:=aj nlh (.lst (row.map V.int));have hh:upd H lh (.lst (row.map V.int)) lh=some (.lst (row.map V.int)):=ag;generalize upd H lh (.lst (row.map V.int))=H0 at S0 hh ⊢;cbv;refine aR (n:=2) (λi σ H2=>∃u9:Option V,σ=[u0,⇑p,⇑pc,⇑pr_,u4,some (tU (iC (ts.map pr) row (ni cs) 0)).1,some (tU (iC (ts.map pr) row (ni cs) 0)).2,some (.bl d),⇑lh,u9]/\Same H0 H2) ⟨none,rfl,Same.refl _⟩ ?_ ?_
 .rintro i σ H2 hi ⟨u9,rfl,S2⟩;have S02:=S0.trans S2
  have cau:∀{r:V} {H3:Hp} {o:Option CI} {Q':VK},Same H0 H3->((r=.non/\¬ CP ts/\o=none)\/(r=.ref lh/\Comes ts row cs o))->(∀(w:V) (H':Hp),Same H3 H'->Gi x H' w o->Q' w H')->e9 K x [.ref p,r,.ref pc] H3 Q' E0:=λ{r H3 o Q'} S3 h f=>by
   have S:=S0.trans S3;refine⟨.ref p,r,.ref pc,ws,ts,cs,o,rfl,R.rv.same S,R.vo,R.rc.same S,R.lc,R.c4,?_,f⟩;rcases h with h|⟨rfl,h⟩
   .exact .inl h
   .exact .inr ⟨lh,row,rfl,S3 _ _ hh,R.lr,R.l1,h⟩
  cbv;refine ND (d:=.list (row.map Ss)) (e:=.list (row.map Ss)) (.lst (SqL.of (S2 _ _ hh)) (RepL.ints _)) (.lst (SqL.of (S02 _ _ R.hr)) (RepL.ints _)) (vi _) (vi _) (λz=>absurd rfl z) (λ_=>?_);cbv;cases d with
  |true =>
   have ne:=hd.mp rfl;cbv;refine cau (o:=none) S2 (.inl ⟨rfl,ne,rfl⟩) λw1 H3 S3 r3=>?_
   cbv;refine⟨w1,none,rfl,r3,λH4 S4=>?_⟩;cbv;refine cau (o:=none) (S2.trans (S3.trans S4)) (.inr ⟨rfl,.inr ⟨ne,rfl⟩⟩) λw2 H5 S5 r5=>?_
   cbv;refine⟨w2,none,rfl,r5,λH6 S6=>?_⟩;cbv;exact⟨_,rfl,S2.trans (S3.trans (S4.trans (S5.trans S6)))⟩
  |false =>
   have ev:CP ts:=Wc λz=>by cases hd.mpr z
   cbv;refine cau (o:=some (iC (ts.map pr) row (ni cs) 0)) S2 (.inr ⟨rfl,.inl ⟨ev,rfl⟩⟩) λw1 H3 S3 r3=>?_
   cbv;refine⟨w1,some (iC (ts.map pr) row (ni cs) 0),rfl,r3,λH4 S4=>?_⟩;cbv;exact⟨_,rfl,S2.trans (S3.trans S4)⟩
 .rintro σ H2 ⟨u9,rfl,S2⟩;cbv;exact k H2
def Rw_.same{K:Fg}(R:Rw_ K H p pc pr_ ws ts cs row)(S:Same H H'):Rw_ K H' p pc pr_ ws ts cs row:=⟨R.vo,R.rv.same S,R.rc.same S,R.lc,R.c4,S _ _ R.hr,R.lr,R.l1⟩
def LX{K:Fg}{Q:VK}{u0 u4:Option V}(R:Rw_ K H p pc pr_ ws ts cs row)(k:∀H',Q (.bl true) H') :
  HP K x (ends Q) [u0,⇑p,⇑pc,⇑pr_,u4,none,none,none,none,none] H:=by
 have nc:(ni cs).length=cs.length:=Gn.dH;have lc:=R.lc;have w5:=R.vo.w5;unfold HP;cbv;refine⟨.ref p,.ref pc,pr_,ws,ts,row,ni cs,rfl,R.rv,R.hr,R.rc,by rw[nc,lc];exact λt ht=>(LM R.vo t ht).1,by lia,by have:=R.l1;lia,λq H1 S1 hq=>?_⟩;cbv;refine bG (SqT.of hq) rfl ?_;cbv;refine⟨.ref p,ws,ts,ws.length,rfl,R.rv.same S1,(KD R.vo).1,λi a b p2 H2 he _ nr S2 _ hp=>?_,λj m p2 r H2 _ hm _ nO S2 _ _ hp _=>?_,λp2 f xs H2 af on S2 _ _ hp _ _ _=>?_⟩
 .cbv;refine aF (SqT.of hp) (v:=.bl false) rfl ?_;cbv;exact II (d:=!false) (R.same (S1.trans S2)) ⟨λ_ z=>nr (z.1 i a b he),λ_=>rfl⟩ k
 .cbv;refine aF (SqT.of hp) (v:=.bl false) rfl ?_;cbv;exact II (d:=!false) (R.same (S1.trans S2)) ⟨λ_ z=>nO (z.2 m (Ry hm)),λ_=>rfl⟩ k
 .cbv;refine aF (SqT.of hp) (v:=.bl true) rfl ?_;cbv;exact II (d:=!true) (R.same (S1.trans S2)) ⟨λz=>(by cases z),λz=>absurd ⟨af,on⟩ z⟩ k
def KL(ns:List Int){lo hi:Nat}:∃cells:List Int,oK (ns.map V.int) (some (lo:Int)) (some (hi:Int))=cells.map V.int/\cells.length<=hi-lo:=by
 refine⟨(ns.drop (HT.sIx (ns.map V.int).length 0 (some (lo:Int)))).take (HT.sIx (ns.map V.int).length (ns.map V.int).length (some (hi:Int))-HT.sIx (ns.map V.int).length 0 (some (lo:Int))),?_,?_⟩
 .unfold oK;rw[ZbL,ZN]
 .rw[RT,Ts,Rm];rw[HT.zK,HT.zK];lia
def LY{K:Fg}{Q:VK}{ns:List Int}(hS:SqL K H a (ns.map V.int))(vo:gK ws ts)(rv:Rz K H (.ref p) (dV ws ts))(k:∀H',Q (.bl true) H') :
  HQ K x (ends Q) [⇑a,⇑p,none,none,none,none,none,none,none,none] H:=by
 obtain⟨p',v1,v2,e0,hp,r1,r2⟩:=t5 rv;cases e0;obtain⟨b,xs,rfl,hb,rx⟩:=r2.cr;obtain⟨a1,ys,rfl,ha1,ry⟩:=r1.cr;have ly:ys.length=ws.length:=by rw[ry.length,Rm]
 have lx:xs.length=ts.length:=by rw[rx.length,Rm]
 obtain⟨hs,po,h8,tk⟩:=vo.turns;have t0:0<ts.length:=Wi.mpr tk.ne;have w5:=vo.w5;unfold HQ;cbv;refine⟨a,ns,16,rfl,hS,by decide,?_⟩;generalize cellOf ns 16=c16;cbv;refine aF (SqT.of hp) (v:=.ref a1) rfl ?_;cbv;refine jK (SqT.of ha1) ?_;rw[ly];cbv;refine⟨c16,4,ws.length,rfl,w5,by decide,by decide,λpc H1 cs S1 lc bc rc=>?_⟩;obtain⟨cn,rfl⟩:=JZ λx hx=>(bc x hx).1
 rw[Gn.dH] at lc;have c4:∀c∈cn,c<4:=λc hc=>by have:=bc (c:Int) (by unfold ni;exact RO.mpr ⟨c,hc,rfl⟩);lia
 cbv;refine⟨a,ns,17,rfl,S1.seq hS,by decide,?_⟩;generalize cellOf ns 17=c17;cbv;obtain⟨L,hL,l11⟩:∃L:Nat,c17 % 12=(L:Int)/\L<=11:=⟨(c17 % 12).toNat,by lia,by lia⟩
 rw[hL,show(19:Int)+(L:Int)=((19+L:Nat):Int) by lia];obtain⟨cells,ec,lcl⟩:=KL ns (lo:=19) (hi:=19+L);refine⟨a,_,rfl,S1.seq hS,λt nt=>?_⟩;have ec:oK (ns.map V.int) (some 19) (some ((19+L:Nat):Int))=cells.map V.int:=ec;rw[ec];have S2:=S1.trans (aj nt (.lst (cells.map V.int)));have T2:=aj nt (.lst (cells.map V.int));have ht:upd H1 t (.lst (cells.map V.int)) t=some (.lst (cells.map V.int)):=ag;generalize upd H1 t (.lst (cells.map V.int))=H2 at S2 T2 ht ⊢;refine⟨t,rfl,⟨_,SqL.of ht⟩,?_⟩;refine cN (xs:=cells.map V.int) λD nD=>⟨λi H3=>∃row:List Int,AccZ K H2 D H3 (row.map Ss)/\row.length=i/\∀n∈row,0<=n/\n<ts.length,⟨[],AccZ.start (Same.refl _) nD,rfl,λn h=>by cases h⟩,(by rintro i H3 _ ⟨_,A,_⟩;exact SqL.of (A.same _ _ ht)),?_,?_⟩
 .rintro i y H3 hy ⟨row,A,lr,hr⟩;rw[Rt] at hy;obtain⟨c,f1,rfl⟩:=RD.mp hy;have li:=(Rq.mp f1).1;have S3:=S2.trans A.same;cbv;refine aF (SqT.of (S3 _ _ hp)) (v:=.ref b) rfl ?_;cbv;refine jK (SqT.of (S3 _ _ hb)) ?_;rw[lx];refine fD (show 0<(ts.length:Int) by lia) ?_;refine a_ (by rw[Rm];exact li) (A.cF (.int _) (aq (by rw[Rm];lia)) λH4 A4=>⟨row++[c % (ts.length:Int)],by rw[Rx];exact A4,by rw[RF,lr];rfl,λn hn=>?_⟩);rcases RX.mp hn with z|z
  .exact hr n z
  .rw[RL.mp z];exact⟨Tt _ (by lia),S_ _ (by lia)⟩
 .rintro H3 ⟨row,A,lr,hr⟩;rw[Rm] at lr;have hrow:=AccZ.ints A;have S3:=S2.trans A.same;have T3:=T2.trans A.same;cbv;refine⟨a,ns,17,rfl,S3.seq hS,by decide,?_⟩;generalize cellOf ns 17=c17b;cbv;have R:Rw_ K H3 p pc D ws ts cn row:=⟨vo,rv.same S3,rc.same T3,lc,c4,hrow,.inl (by lia),by lia⟩
  refine aX (λ_=>?_) (λ_=>?_)
  .cbv;refine⟨a,ns,18,rfl,S3.seq hS,by decide,?_⟩;generalize cellOf ns 18=c18;cbv;rw[Pu];cbv;have f0:0<=c18 % 1000000000000000000000000000000:=by lia
   generalize c18 % 1000000000000000000000000000000=far at f0 ⊢;refine⟨.inl ⟨rfl,_,SqL.of hrow⟩,?_⟩;cbv;refine cw (SqL.of hrow) ?_;rw[Rm];cbv;have lp:(0:Int)<(row.length:Int)+1:=by lia
   have i0:=Tt far (show(row.length:Int)+1≠0 by lia);have i1:=S_ far lp;generalize far % ((row.length:Int)+1)=ix at i0 i1 ⊢;refine aF (SqT.of (S3 _ _ hp)) (v:=.ref b) rfl ?_;cbv;refine jK (SqT.of (S3 _ _ hb)) ?_;rw[lx];cbv;refine⟨aM,λp1 np1=>?_⟩;have S7:=aj np1 (.lst [.int (-1-far),.int ((ts.length:Int)+far)]);have hp1:upd H3 p1 (.lst [.int (-1-far),.int ((ts.length:Int)+far)]) p1=some (.lst [.int (-1-far),.int ((ts.length:Int)+far)]):=ag;have R7:=R.same S7;generalize upd H3 p1 (.lst [.int (-1-far),.int ((ts.length:Int)+far)])=H7 at S7 hp1 R7 ⊢;cbv
   obtain⟨y,ay,by_⟩:∃y:Int,rC [V.int (-1-far),V.int ((ts.length:Int)+far)] (far % 2)=some (V.int y)/\¬ (0<=y/\y<ts.length):=by
    rcases (by lia:far % 2=0\/far % 2=1) with z|z <;> rw[z]
    .exact⟨_,rfl,by lia⟩
    .exact⟨_,rfl,by lia⟩
   refine bQ (SqL.of hp1) ay ?_;cbv;refine⟨D,_,_,ix,rfl,rfl,R7.hr,i0,by rw[Rm];lia,by rw[Rm];lia,?_⟩;rw[show Kt (row.map V.int) ix.toNat (.int y)=(row.take ix.toNat++y :: row.drop ix.toNat).map V.int by unfold Kt;rw[Rx,ZbL,Sy,ZN]];exact LX ⟨vo,Rz.upd R7.rv R7.hr,Rz.upd R7.rc R7.hr,lc,c4,ag,.inr ⟨y,RU _ Ru,by_⟩,by rw[RF,Sn,RT,Ts];lia⟩ k
  .cbv;exact LX R k
def L4{K:Fg}   (T:ui K mg x) {vs:List V}    (h:spLaw K vs H Q E):DQ K x (ends Q) (L2.start ["_law_script","_law_vessel_here","_law_count_here","_law_row","_law_far","_law_kind","_law_place","_law_uneven","_law_handed","_law_k"] vs) H:=by
 obtain⟨a,ns,rfl,hS,hl,k⟩:=h;show DQ K x (ends Q) [⇑a,none,none,none,none,none,none,none,none,none] H;unfold DQ;cbv;refine⟨a,ns,0,rfl,hS,by decide,λp H1 ws ts S1 vo rv=>?_⟩;cbv;refine⟨a,ns,15,rfl,S1.seq hS,by decide,?_⟩;generalize cellOf ns 15=c15;cbv;refine aX (λ_=>?_) (λ_=>?_)
 .cbv;refine⟨a,ns,0,rfl,S1.seq hS,by decide,λp2 H2 ws2 ts2 S2 vo2 rv2=>?_⟩;cbv;exact LY ((S1.trans S2).seq hS) vo2 rv2 k
 .exact LY (S1.seq hS) vo rv k
def D_:ar ["value"] ["value"] (ak (top 17)):=by walk_at "s"
def fT:ar ["one","two","rest"] ["one","two"] (ak (top 18)):=by walk_at "s"
def sZ:ar ["top","bottom","divisor"] ["top","bottom"] (ak (top 20)):=by walk_at "s"
def Iv:ar ["one","two"] ["one","two"] (ak (top 21)):=by walk_at "s"
def Ea:ar ["one","two"] ["one","two"] (ak (top 22)):=by walk_at "s"
def ky:ar ["row","place","number"] ["row"] (ak (top 24)):=by walk_at "s"
def sT:ar ["size","own"] ["size","own"] (ak (top 25)):=by walk_at "s"
def pC:ar ["size"] ["size"] (ak (top 26)):=by walk_at "s"
def gY:ar ["row","divisor","number"] ["row"] (ak (top 27)):=by walk_at "s"
def zI:ar ["row","place","divisor"] ["row"] (ak (top 28)):=by walk_at "s"
def wI:ar ["row","stairs","stair","place"] ["row","stairs"] (ak (top 29)):=by walk_at "s"
def zF:ar ["rows","stairs","free","makers","units","place","row","rest"] ["rows"] (ak (top 30)):=by walk_at "s"
def iG:ar ["rows"] ["rows"] (ak (top 31)):=by walk_at "s"
def sY:ar ["turnings","found","turning"] ["turnings"] (ak (top 34)):=by walk_at "s"
def Ed:ar ["vessel"] ["vessel"] (ak (top 35)):=by walk_at "s"
def mM:ar ["vessel","number","turnings"] ["vessel","number"] (ak (top 36)):=by walk_at "s"
def jm:ar ["vessel","numbers","number","heap"] ["vessel"] (ak (top 38)):=by walk_at "s"
def pE:ar ["things","thing"] ["things","thing"] (ak (top 39)):=by walk_at "s"
def Iw:ar ["vessel","firsts","one","two","lesser","greater"] ["vessel"] (ak (top 40)):=by walk_at "s"
def mU:ar ["vessel","number"] ["vessel","number"] (ak (top 41)):=by walk_at "s"
def Iu:ar ["vessel","one","two","ends","roads","come_to","place","here","number","end"] ["vessel","one","two"] (ak (top 42)):=by walk_at "s"
def jo:ar ["vessel","number","end"] ["vessel"] (ak (top 43)):=by walk_at "s"
def pF:ar ["number","told_lots"] ["number","told_lots"] (ak (top 45)):=by walk_at "s"
def pN:ar ["vessel","told_lots"] ["vessel"] (ak (top 46)):=by walk_at "s"
def pD:ar ["number","divisor","often"] ["number","divisor"] (ak (top 48)):=by walk_at "s"
def Eb:ar ["one","two","divisor","first","second"] ["one","two"] (ak (top 49)):=by walk_at "s"
def eE:ar ["powers","number","place","power"] ["powers","number"] (ak (top 50)):=by walk_at "s"
def Ee:ar ["powers","told","left","power","place"] ["powers"] (ak (top 51)):=by walk_at "s"
def zH:ar ["number","often","product","again"] ["number","often"] (ak (top 52)):=by walk_at "s"
def mO:ar ["powers","top","bottom","number","often"] ["powers"] (ak (top 53)):=by walk_at "s"
def iF:ar ["ends","heap"] ["ends","heap"] (ak (top 56)):=by walk_at "s"
def Ec:ar ["ends","some","told","heap","longer","pick"] ["ends","some"] (ak (top 57)):=by walk_at "s"
def wG:ar ["ends","pick","heap","steps","number","start","here","step"] ["ends","pick","heap"] (ak (top 58)):=by walk_at "s"
def jj:ar ["turnings","pick","product","number"] ["turnings","pick"] (ak (top 59)):=by walk_at "s"
def kq:ar ["turnings","ends","lot","heap","weight","pick"] ["turnings","ends","lot","heap"] (ak (top 60)):=by walk_at "s"
def jh:ar ["vessel","ends","weights","lot","heap"] ["vessel"] (ak (top 61)):=by walk_at "s"
def wH:ar ["pieces","taken","product","less"] ["pieces","taken"] (ak (top 64)):=by walk_at "s"
def kz:ar ["turning","count"] ["turning","count"] (ak (top 65)):=by walk_at "s"
def jr:ar ["turning","count"] ["turning","count"] (ak (top 66)):=by walk_at "s"
def zE:ar ["vessel","row","count","here","at","number","turning"] ["vessel","row","count"] (ak (top 67)):=by walk_at "s"
def iE:ar ["weights","row","powers","weight","often"] ["weights","row"] (ak (top 71)):=by walk_at "s"
def Iy:ar ["vessel","astray","weights","row"] ["vessel"] (ak (top 72)):=by walk_at "s"
def jq:ar ["vessel","told"] ["vessel"] (ak (top 73)):=by walk_at "s"
def iI:ar ["vessel","row","size","ends","often","number","one","two"] ["vessel","row","size"] (ak (top 74)):=by walk_at "s"
def jn:ar ["vessel","weights","row","ahead","behind","product","top","bottom","one","two"] ["vessel","weights","row","ahead","behind"] (ak (top 75)):=by walk_at "s"
def Ix:ar ["vessel","row","count","weights"] ["vessel","row","count"] (ak (top 76)):=by walk_at "s"
def zG:ar ["vessel","count","weights","told","gains","bottom","one","parts","total"] ["vessel","count"] (ak (top 77)):=by walk_at "s"
def kx:ar ["_law_script","_law_k"] ["_law_script","_law_k"] (ak (top 79)):=by walk_at "s"
def pK:ar ["_law_cell","_law_place","_law_number"] ["_law_cell","_law_place"] (ak (top 80)):=by walk_at "s"
def kr:ar ["_law_one","_law_two"] ["_law_one","_law_two"] (ak (top 81)):=by walk_at "s"
def mQ:ar ["_law_top","_law_bottom","_law_by"] ["_law_top","_law_bottom"] (ak (top 82)):=by walk_at "s"
def pG:ar ["_law_number","_law_many","_law_letters","_law_found","_law_k","_law_first"] ["_law_number","_law_many"] (ak (top 83)):=by walk_at "s"
def sX:ar ["_law_cell","_law_k","_law_many","_law_top","_law_plain","_law_number","_law_found","_law_j"] ["_law_cell","_law_k","_law_many","_law_top","_law_plain"] (ak (top 84)):=by walk_at "s"
def sU:ar ["_law_script","_law_at","_law_many","_law_size","_law_top","_law_plain","_law_found","_law_k","_law_heap_here"] ["_law_script","_law_at","_law_many","_law_size","_law_top","_law_plain"] (ak (top 85)):=by walk_at "s"
def pJ:ar ["_law_script","_law_at","_law_size","_law_kind","_law_plain","_law_found","_law_k","_law_after","_law_cell","_law_one","_law_step","_law_chosen","_law_two"] ["_law_script","_law_at","_law_size","_law_kind","_law_plain"] (ak (top 86)):=by walk_at "s"
def sV:ar ["_law_cell","_law_kind"] ["_law_cell","_law_kind"] (ak (top 87)):=by walk_at "s"
def mP:ar ["_law_script","_law_at","_law_number","_law_many","_law_top","_law_plain","_law_pool_here","_law_pairs_here","_law_rows","_law_k","_law_cell","_law_one","_law_two"] ["_law_script","_law_at"] (ak (top 88)):=by walk_at "s"
def pI:ar ["_law_one","_law_two"] ["_law_one","_law_two"] (ak (top 92)):=by walk_at "s"
def gi:ar ["_law_script","_law_at","_law_vessel_here","_law_number","_law_many","_law_weights","_law_k","_law_rows","_law_take","_law_give","_law_pace_here","_law_back","_law_stuff"] ["_law_script","_law_at"] (ak (top 93)):=by walk_at "s"
def iH:ar ["_law_script","_law_at","_law_number","_law_many","_law_size","_law_piles","_law_k","_law_heap_here","_law_rows","_law_cell"] ["_law_script","_law_at"] (ak (top 94)):=by walk_at "s"
def jk:ar ["_law_script","_law_at"] ["_law_script","_law_at"] (ak (top 95)):=by walk_at "s"
def pM:ar ["_law_cell","_law_many","_law_size","_law_found","_law_number","_law_k"] ["_law_cell","_law_many","_law_size"] (ak (top 96)):=by walk_at "s"
def wF:ar ["_law_turning","_law_count_here"] ["_law_turning","_law_count_here"] (ak (top 97)):=by walk_at "s"
def mS:ar ["_law_turning","_law_count_here"] ["_law_turning","_law_count_here"] (ak (top 98)):=by walk_at "s"
def pH:ar ["_law_found"] ["_law_found"] (ak (top 99)):=by walk_at "s"
def pL:ar ["_law_e","_law_found"] ["_law_e"] (ak (top 100)):=by walk_at "s"
def mR:ar ["_law_vessel_here","_law_row","_law_count_here","_law_caught_here","_law_e"] ["_law_vessel_here","_law_row","_law_count_here"] (ak (top 101)):=by walk_at "s"
def wE:ar ["_law_vessel_here","_law_row","_law_count_here","_law_place"] ["_law_vessel_here","_law_row","_law_count_here"] (ak (top 102)):=by walk_at "s"
def mT:ar ["_law_caught_here","_law_kind","_law_place"] ["_law_caught_here","_law_kind","_law_place"] (ak (top 103)):=by walk_at "s"
def Gy:ar ["_law_script","_law_vessel_here","_law_count_here","_law_row","_law_far","_law_kind","_law_place","_law_uneven","_law_handed","_law_k"] ["_law_script"] (ak (top 104)):=by walk_at "s"
section
variable{P:RM}{w:R4}{K:Fg}{mg:Str->Option Rs}{base:Heap}
seal PE PS PSs PA PT
local macro_rules | `(tactic| walk_at "l")=>`(tactic| (intro h;repeat (first|(obtain⟨e,_⟩:=h;cases e;exact rfl)|obtain⟨_,h⟩:=h)))
nonrec abbrev oW (P:RM) (w:R4) (K:Fg) (mg:Str->Option Rs) (base:Heap) (k:Nat):=FnC P w K mg base bh k "whole" ["value"] d_
nonrec abbrev bf (P:RM) (w:R4) (K:Fg) (mg:Str->Option Rs) (base:Heap) (k:Nat):=FnC P w K mg base bh k "greatest_divisor" ["one","two"] pf
nonrec abbrev lN (P:RM) (w:R4) (K:Fg) (mg:Str->Option Rs) (base:Heap) (k:Nat):=FnC P w K mg base bh k "fraction" ["top","bottom"] (Gn.mG K)
nonrec abbrev Hw (P:RM) (w:R4) (K:Fg) (mg:Str->Option Rs) (base:Heap) (k:Nat):=FnC P w K mg base bh k "plus" ["one","two"] (sH K)
nonrec abbrev CS (P:RM) (w:R4) (K:Fg) (mg:Str->Option Rs) (base:Heap) (k:Nat):=FnC P w K mg base bh k "times" ["one","two"] (mB K)
nonrec abbrev cz (P:RM) (w:R4) (K:Fg) (mg:Str->Option Rs) (base:Heap) (k:Nat):=FnC P w K mg base bh k "first_place" ["row"] (jd K)
nonrec abbrev lG (P:RM) (w:R4) (K:Fg) (mg:Str->Option Rs) (base:Heap) (k:Nat):=FnC P w K mg base bh k "unit_row" ["size","own"] (sB K)
nonrec abbrev j6 (P:RM) (w:R4) (K:Fg) (mg:Str->Option Rs) (base:Heap) (k:Nat):=FnC P w K mg base bh k "unit_rows" ["size"] (sA K)
nonrec abbrev dO (P:RM) (w:R4) (K:Fg) (mg:Str->Option Rs) (base:Heap) (k:Nat):=FnC P w K mg base bh k "common_divisor" ["row"] (Ii K)
nonrec abbrev oX (P:RM) (w:R4) (K:Fg) (mg:Str->Option Rs) (base:Heap) (k:Nat):=FnC P w K mg base bh k "lowest" ["row"] (uK K)
nonrec abbrev rq (P:RM) (w:R4) (K:Fg) (mg:Str->Option Rs) (base:Heap) (k:Nat):=FnC P w K mg base bh k "cleared" ["row","stairs"] (Ij K)
nonrec abbrev wa (P:RM) (w:R4) (K:Fg) (mg:Str->Option Rs) (base:Heap) (k:Nat):=FnC P w K mg base bh k "sifted" ["rows"] (zh K)
nonrec abbrev eU (P:RM) (w:R4) (K:Fg) (mg:Str->Option Rs) (base:Heap) (k:Nat):=FnC P w K mg base bh k "nought_makers" ["rows"] (mF K)
nonrec abbrev lM (P:RM) (w:R4) (K:Fg) (mg:Str->Option Rs) (base:Heap) (k:Nat):=FnC P w K mg base bh k "heaps_of" ["turnings"] (jc K)
nonrec abbrev kj (P:RM) (w:R4) (K:Fg) (mg:Str->Option Rs) (base:Heap) (k:Nat):=FnC P w K mg base bh k "heaps" ["vessel"] (gU K)
nonrec abbrev ir (P:RM) (w:R4) (K:Fg) (mg:Str->Option Rs) (base:Heap) (x:Ex0.Ad) (k:Nat):=FnC P w K mg base (iV P w) k "turning_at" ["vessel","number"] (Vs.sC K x.c5)
nonrec abbrev bD (P:RM) (w:R4) (K:Fg) (mg:Str->Option Rs) (base:Heap) (k:Nat):=FnC P w K mg base bh k "heap_numbers" ["vessel"] (je K)
nonrec abbrev j9 (P:RM) (w:R4) (K:Fg) (mg:Str->Option Rs) (base:Heap) (k:Nat):=FnC P w K mg base bh k "places_of" ["things","thing"] (mD K)
nonrec abbrev CV (P:RM) (w:R4) (K:Fg) (mg:Str->Option Rs) (base:Heap) (k:Nat):=FnC P w K mg base bh k "lots" ["vessel"] (uL K)
nonrec abbrev iB (P:RM) (w:R4) (K:Fg) (mg:Str->Option Rs) (base:Heap) (k:Nat):=FnC P w K mg base bh k "check_heap" ["vessel","number"] (uP K)
nonrec abbrev Hv (P:RM) (w:R4) (K:Fg) (mg:Str->Option Rs) (base:Heap) (k:Nat):=FnC P w K mg base bh k "road" ["vessel","one","two"] (zj K)
nonrec abbrev fO (P:RM) (w:R4) (K:Fg) (mg:Str->Option Rs) (base:Heap) (k:Nat):=FnC P w K mg base bh k "first_astray" ["vessel"] (As.mJ K)
nonrec abbrev j_ (P:RM) (w:R4) (K:Fg) (mg:Str->Option Rs) (base:Heap) (k:Nat):=FnC P w K mg base bh k "lot_marks" ["number","told_lots"] (sK K)
nonrec abbrev kh (P:RM) (w:R4) (K:Fg) (mg:Str->Option Rs) (base:Heap) (k:Nat):=FnC P w K mg base bh k "lack_rows" ["vessel"] (sL K)
nonrec abbrev j7 (P:RM) (w:R4) (K:Fg) (mg:Str->Option Rs) (base:Heap) (k:Nat):=FnC P w K mg base bh k "taken_out" ["number","divisor"] (Pw.DY K)
nonrec abbrev CT (P:RM) (w:R4) (K:Fg) (mg:Str->Option Rs) (base:Heap) (k:Nat):=FnC P w K mg base bh k "split" ["one","two"] (Pw.sF K)
nonrec abbrev cx (P:RM) (w:R4) (K:Fg) (mg:Str->Option Rs) (base:Heap) (k:Nat):=FnC P w K mg base bh k "place_with_divisor" ["powers","number"] (Pw.sI K)
nonrec abbrev uo (P:RM) (w:R4) (K:Fg) (mg:Str->Option Rs) (base:Heap) (k:Nat):=FnC P w K mg base bh k "apart" ["powers"] (Pw.mK K)
nonrec abbrev we (P:RM) (w:R4) (K:Fg) (mg:Str->Option Rs) (base:Heap) (k:Nat):=FnC P w K mg base bh k "raised" ["number","often"] Gn.uI
nonrec abbrev iu (P:RM) (w:R4) (K:Fg) (mg:Str->Option Rs) (base:Heap) (k:Nat):=FnC P w K mg base bh k "multiplied" ["powers"] (Gn.zq K)
nonrec abbrev eT (P:RM) (w:R4) (K:Fg) (mg:Str->Option Rs) (base:Heap) (k:Nat):=FnC P w K mg base bh k "turnings_from" ["ends","heap"] (zt K)
nonrec abbrev CU (P:RM) (w:R4) (K:Fg) (mg:Str->Option Rs) (base:Heap) (k:Nat):=FnC P w K mg base bh k "picks" ["ends","some"] (sJ K)
nonrec abbrev rm (P:RM) (w:R4) (K:Fg) (mg:Str->Option Rs) (base:Heap) (k:Nat):=FnC P w K mg base bh k "is_tree" ["ends","pick","heap"] (zg K)
nonrec abbrev fL (P:RM) (w:R4) (K:Fg) (mg:Str->Option Rs) (base:Heap) (k:Nat):=FnC P w K mg base bh k "pace_product" ["turnings","pick"] (Tr.zm K)
nonrec abbrev gM (P:RM) (w:R4) (K:Fg) (mg:Str->Option Rs) (base:Heap) (k:Nat):=FnC P w K mg base bh k "tree_weight" ["turnings","ends","lot","heap"] (sE K)
nonrec abbrev fK (P:RM) (w:R4) (K:Fg) (mg:Str->Option Rs) (base:Heap) (k:Nat):=FnC P w K mg base bh k "tree_weights" ["vessel"] (sD K)
nonrec abbrev rn (P:RM) (w:R4) (K:Fg) (mg:Str->Option Rs) (base:Heap) (k:Nat):=FnC P w K mg base bh k "falling" ["pieces","taken"] Gn.mH
nonrec abbrev gO (P:RM) (w:R4) (K:Fg) (mg:Str->Option Rs) (base:Heap) (k:Nat):=FnC P w K mg base bh k "can_be_made" ["turning","count"] (Wd.zv K)
nonrec abbrev fQ (P:RM) (w:R4) (K:Fg) (mg:Str->Option Rs) (base:Heap) (k:Nat):=FnC P w K mg base bh k "count_behind" ["turning","count"] (Wd.zu K)
nonrec abbrev v_ (P:RM) (w:R4) (K:Fg) (mg:Str->Option Rs) (base:Heap) (x:Ex0.Ad) (k:Nat):=FnC P w K mg base (iV P w) k "walked" ["vessel","row","count"] (Wd.mr K x.c5 x.c7)
nonrec abbrev cO (P:RM) (w:R4) (K:Fg) (mg:Str->Option Rs) (base:Heap) (k:Nat):=FnC P w K mg base bh k "weight_powers" ["weights","row"] (Pw.DX K)
nonrec abbrev CW (P:RM) (w:R4) (K:Fg) (mg:Str->Option Rs) (base:Heap) (k:Nat):=FnC P w K mg base bh k "even" ["vessel"] (Pw.uM K)
nonrec abbrev cW (P:RM) (w:R4) (K:Fg) (mg:Str->Option Rs) (base:Heap) (x:Ex0.Ad) (k:Nat):=FnC P w K mg base (iV P w) k "even_weights" ["vessel"] (Gn.uN K x)
nonrec abbrev eX (P:RM) (w:R4) (K:Fg) (mg:Str->Option Rs) (base:Heap) (k:Nat):=FnC P w K mg base bh k "heaps_come_to" ["vessel","row","size"] (Gn.Ih K)
nonrec abbrev fN (P:RM) (w:R4) (K:Fg) (mg:Str->Option Rs) (base:Heap) (k:Nat):=FnC P w K mg base bh k "gain_between" ["vessel","weights","row","ahead","behind"] (Gn.spGb K)
nonrec abbrev Hx (P:RM) (w:R4) (K:Fg) (mg:Str->Option Rs) (base:Heap) (x:Ex0.Ad) (k:Nat):=FnC P w K mg base (iV P w) k "gain" ["vessel","row","count"] (Gn.sP K x)
nonrec abbrev wc (P:RM) (w:R4) (K:Fg) (mg:Str->Option Rs) (base:Heap) (x:Ex0.Ad) (k:Nat):=FnC P w K mg base (iV P w) k "shares" ["vessel","count"] (Gn.zi K x)
nonrec abbrev bb (P:RM) (w:R4) (K:Fg) (mg:Str->Option Rs) (base:Heap) (k:Nat):=FnC P w K mg base bh k "_law_cell_at" ["_law_script","_law_k"] (cC K)
nonrec abbrev bR (P:RM) (w:R4) (K:Fg) (mg:Str->Option Rs) (base:Heap) (k:Nat):=FnC P w K mg base bh k "_law_mixed" ["_law_cell","_law_place"] dF
nonrec abbrev gN (P:RM) (w:R4) (K:Fg) (mg:Str->Option Rs) (base:Heap) (k:Nat):=FnC P w K mg base bh k "_law_divisor" ["_law_one","_law_two"] pf
nonrec abbrev iw (P:RM) (w:R4) (K:Fg) (mg:Str->Option Rs) (base:Heap) (k:Nat):=FnC P w K mg base bh k "_law_lowest" ["_law_top","_law_bottom"] (Gn.uJ K)
nonrec abbrev gb (P:RM) (w:R4) (K:Fg) (mg:Str->Option Rs) (base:Heap) (k:Nat):=FnC P w K mg base bh k "_law_words" ["_law_number","_law_many"] (gg K)
nonrec abbrev lK (P:RM) (w:R4) (K:Fg) (mg:Str->Option Rs) (base:Heap) (k:Nat):=FnC P w K mg base bh k "_law_heap" ["_law_cell","_law_k","_law_many","_law_top","_law_plain"] (sO K)
nonrec abbrev lH (P:RM) (w:R4) (K:Fg) (mg:Str->Option Rs) (base:Heap) (k:Nat):=FnC P w K mg base bh k "_law_pool" ["_law_script","_law_at","_law_many","_law_size","_law_top","_law_plain"] (sG K)
nonrec abbrev kc (P:RM) (w:R4) (K:Fg) (mg:Str->Option Rs) (base:Heap) (k:Nat):=FnC P w K mg base bh k "_law_pairs" ["_law_script","_law_at","_law_size","_law_kind","_law_plain"] (mE K)
nonrec abbrev ib (P:RM) (w:R4) (K:Fg) (mg:Str->Option Rs) (base:Heap) (k:Nat):=FnC P w K mg base bh k "_law_pace" ["_law_cell","_law_kind"] (jb K)
nonrec abbrev eW (P:RM) (w:R4) (K:Fg) (mg:Str->Option Rs) (base:Heap) (k:Nat):=FnC P w K mg base bh k "_law_vessel" ["_law_script","_law_at"] (uH K)
nonrec abbrev um (P:RM) (w:R4) (K:Fg) (mg:Str->Option Rs) (base:Heap) (k:Nat):=FnC P w K mg base bh k "_law_times" ["_law_one","_law_two"] (Gn.mz K)
nonrec abbrev di (P:RM) (w:R4) (K:Fg) (mg:Str->Option Rs) (base:Heap) (k:Nat):=FnC P w K mg base bh k "_law_even_vessel" ["_law_script","_law_at"] (Pw.sQ K)
nonrec abbrev eV (P:RM) (w:R4) (K:Fg) (mg:Str->Option Rs) (base:Heap) (k:Nat):=FnC P w K mg base bh k "_law_zero_lack" ["_law_script","_law_at"] (Gn.zf K)
nonrec abbrev fM (P:RM) (w:R4) (K:Fg) (mg:Str->Option Rs) (base:Heap) (k:Nat):=FnC P w K mg base bh k "_law_balanced" ["_law_script","_law_at"] (Gn.zw K)
nonrec abbrev kg (P:RM) (w:R4) (K:Fg) (mg:Str->Option Rs) (base:Heap) (k:Nat):=FnC P w K mg base bh k "_law_count" ["_law_cell","_law_many","_law_size"] (Dn.sR K)
nonrec abbrev rj (P:RM) (w:R4) (K:Fg) (mg:Str->Option Rs) (base:Heap) (k:Nat):=FnC P w K mg base bh k "_law_can" ["_law_turning","_law_count_here"] (Dn.Ik K)
nonrec abbrev iz (P:RM) (w:R4) (K:Fg) (mg:Str->Option Rs) (base:Heap) (k:Nat):=FnC P w K mg base bh k "_law_behind" ["_law_turning","_law_count_here"] (Dn.mI K)
nonrec abbrev kb (P:RM) (w:R4) (K:Fg) (mg:Str->Option Rs) (base:Heap) (k:Nat):=FnC P w K mg base bh k "_law_whole" ["_law_found"] d_
nonrec abbrev kf (P:RM) (w:R4) (K:Fg) (mg:Str->Option Rs) (base:Heap) (x:Ex0.Ad) (k:Nat):=FnC P w K mg base bh k "_law_kinds" ["_law_e"] (sM x)
nonrec abbrev iy (P:RM) (w:R4) (K:Fg) (mg:Str->Option Rs) (base:Heap) (x:Ex0.Ad) (k:Nat):=FnC P w K mg base bh k "_law_caught" ["_law_vessel_here","_law_row","_law_count_here"] (e9 K x)
nonrec abbrev rg (P:RM) (w:R4) (K:Fg) (mg:Str->Option Rs) (base:Heap) (k:Nat):=FnC P w K mg base bh k "_law_due" ["_law_vessel_here","_law_row","_law_count_here"] (zr K)
nonrec abbrev iA (P:RM) (w:R4) (K:Fg) (mg:Str->Option Rs) (base:Heap) (x:Ex0.Ad) (k:Nat):=FnC P w K mg base bh k "_law_as_due" ["_law_caught_here","_law_kind","_law_place"] (jf K x)
def zJ:ar ["self","at"] ["self","at"] (ak (ini 9)):=by walk_at "s"
def JT(T:ui K mg x)  (G:Cn K mg nq oq)   (F:Fun K "__init__" "NotNow.__init__" (ini 9) f fd) (B:bF mg):FnOk P w K mg base bh 1 f fd ["self","at"] (sN K x.c7 "at"):=by
 refine F.ok zJ (λvs H Q E h=>J_ h) (λcdv A outer s H vs Q E hr h=>?_);have nd:=zJ.nd;have hpo:=λ{M A env}=>@Y0 M A env
 have hu:=hr.units;have hu1:=RS (We (by decide:1<=64) _) hu;exact⟨yx K,(bN (An (E4 rfl T.vb (aU (pv 0) (aU (Pq (PJ.cons pX (PJ.cons (JD (pv 1)) (PJ.cons pX PJ.nil)))) cu))))
 (cG (Js (pv 0) (pv 1) rfl))),(IR rfl h)⟩
seal fu fF OO O2 O3 PI PG Lf PW PO PC binaryOp compareOp unaryOp
set_option hygiene false in
local macro_rules | `(tactic| fail "t")=>`(tactic| first|((with_reducible show PE _ _ _);fail "e")|((with_reducible show PA _ _ _);fail "a")|((with_reducible show PS _ _ _);fail "s")|((with_reducible show PSs _ _ _);fail "S")|((with_reducible show PT _ _ _);fail "b")|((with_reducible show PW _ _ _);fail "w")|((with_reducible show PG _ _ _);fail "g")|((with_reducible show Lf _ _ _);fail "G")|((with_reducible show PI _ _ _ _);fail "i")|((with_reducible show PO _ _ _);fail "o")|((with_reducible show PC _ _ _ _ _);fail "C")|((with_reducible show OK _ _ _ _ _);fail "P")|skip)
set_option hygiene false in
local macro_rules | `(tactic| fail "e")=>`(tactic| first|exact pv _|exact pZ|exact tf rfl B.int Hq rfl|exact tf rfl B.bool KP rfl|exact Mw|exact EZ|exact Ps|exact bJ rfl G.ONE rfl|exact bJ rfl G.NOUGHT rfl|exact E1|exact pX|exact bJ rfl T.m0 rfl|exact bJ rfl T.m1 rfl|exact bJ rfl T.m2 rfl|exact bJ rfl T.m3 rfl|exact bJ rfl T.m4 rfl|exact bJ rfl T.m5 rfl|exact bJ rfl T.m6 rfl|exact bJ rfl T.m7 rfl|exact bJ rfl T.m8 rfl|exact bJ rfl T.m9 rfl|exact bJ rfl T.m10 rfl|exact bJ rfl T.m11 rfl|exact bJ rfl T.m12 rfl|exact bJ rfl T.m13 rfl|exact tf rfl T.mv oR rfl|((first|refine Po (by fail "p") ?_ ?_|refine AE (by fail "x") ?_ ?_ (λ_ _=>rfl)|refine JH (by fail "q") ?_ ?_ (GS _)|((with_reducible show PE _ _ (aw _ _ _ _));refine fe (by assumption) hr rfl ?_)|refine Mt ?_|refine MD ?_ ?_|refine dm (by fail "c") rfl B.isinstance oQ ?_|refine Mv ?_|refine dm (by fail "c") rfl B.abs Ox ?_|refine Pl (by fail "r") ?_|refine EY ?_ ?_ ?_|refine Rc (.of (by kernel_rfl!)) (of_decide_eq_true (by kernel_rfl!)) rfl ?_ (λ_ _ _ _ _=>?_)|refine gy (by fail "y") rfl B.list CC ?_|refine Ra (.of (by kernel_rfl!)) rfl ?_ (λ_ _ _ _ _=>?_) (λ_ _ _ _ _=>?_)|refine Mx ?_|refine dm (by fail "c") rfl B.len Ho ?_|refine E3 UM PySem.F.slot_list_append PySem.F.type_list_append qu ?_ ?_|refine EX (by fail "r") ?_ ?_ ?_|refine JG hu1 ?_ ?_ (λ_ _=>rfl)|refine Rb (.of (by kernel_rfl!)) rfl ?_ (λ_ _ _ _ _=>?_) (λ_ _ _ _ _=>?_) (λ_ _ _ _ _=>?_)|refine pY rfl rfl B.list rfl B.range ?_|refine dm (by fail "c") rfl B.min Ou ?_|refine dm (by fail "c") rfl B.max Ov ?_|refine wL rfl rfl B.sorted rfl B.set ?_|refine JF ?_ rfl rfl (by simp) (by decide)|refine E2 hu1 ?_ ?_ ⟨rfl,rfl,rfl,rfl⟩|refine MC UM Y_ Za M3 ?_|refine E3 UM PySem.F.slot_list_extend PySem.F.type_list_extend AX ?_ ?_|refine E3 UM Y_ Za Fh ?_ ?_|refine dm (by fail "c") rfl B.all Ow ?_|refine gy (by fail "y") rfl B.tuple vU ?_|refine gy (by fail "y") rfl B.int Hq ?_|refine Pm ?_ ?_|refine JE ?_ rfl|refine E3 UM PySem.F.slot_list_insert PySem.F.type_list_insert AW ?_ ?_|refine Mu ?_)<;>fail "t"))
set_option hygiene false in
local macro_rules | `(tactic| fail "a")=>`(tactic| first|exact cu|((first|refine aU ?_ ?_)<;>fail "t"))
set_option hygiene false in
local macro_rules | `(tactic| fail "s")=>`(tactic| first|((first|refine gm nd rfl (by walk_at "o") ?_|refine pW ?_|refine EU ?_ ?_ ?_|refine GC hpo rfl ?_ ?_ ?_|refine Mm rfl nd rfl rfl (by decide) rfl rfl ?_ rfl|refine EQ hpo ?_ ?_|refine An ?_|refine Jt hu1 ?_ ?_ ?_ rfl|refine Jr (n:=4) (y:=3) ?_ (by assumption) (by assumption) hr own rfl rfl ?_ ?_ rfl T.v nd rfl rfl rfl rfl|refine Q7 nd rfl rfl (.of (by kernel_rfl!)) rfl ?_ (λ_ _ _ _ _=>?_)|((with_reducible first|show PS _ (.Assign [.Tuple _ _ _] _ _) _|show PS _ (.Assign [.Subscript _ _ _] _ _) _);refine Mn ?_ ?_))<;>fail "t"))
set_option hygiene false in
local macro_rules | `(tactic| fail "S")=>`(tactic| first|exact mZ|exact pV|((first|refine cG ?_|refine bN ?_ ?_)<;>fail "t"))
set_option hygiene false in
local macro_rules | `(tactic| fail "b")=>`(tactic| first|((first|refine Aj (by fail "q") ?_ ?_ (GS _)|refine Aj (by fail "q") ?_ ?_ (by with_unfolding_all rfl)|((with_reducible show PT _ (.BoolOp _ _ _) _);refine PW.pt ?_)|refine pT ?_|refine uX (by fail "q") (by fail "q") ?_ ?_ ?_|refine Ml ?_ (by with_unfolding_all rfl)|refine uW ?_)<;>fail "t"))
set_option hygiene false in
local macro_rules | `(tactic| fail "w")=>`(tactic| first|((first|refine pw_or ?_ ?_|refine pw_or1 ?_|refine pw_and ?_ ?_|refine pw_and1 ?_)<;>fail "t"))
set_option hygiene false in
local macro_rules | `(tactic| fail "g")=>`(tactic| first|exact nu (by first|exact nd|exact of_decide_eq_true (by kernel_rfl!)) rfl (by walk_at "o")|((first|refine GM rfl ?_|refine Ms ?_ ?_ zA)<;>fail "t"))
set_option hygiene false in
local macro_rules | `(tactic| fail "G")=>`(tactic| first|exact AD|((first|refine nj ?_ ?_)<;>fail "t"))
set_option hygiene false in
local macro_rules | `(tactic| fail "i")=>`(tactic| first|((first|refine AC rfl B.enumerate ?_|refine AB rfl B.range ?_|refine Mq rfl B.zip ?_|refine JB rfl B.zip ?_|refine JC ?_|refine Mr ?_)<;>fail "t"))
set_option hygiene false in
local macro_rules | `(tactic| fail "o")=>`(tactic| first|exact Jx|((first|refine Jw ?_)<;>fail "t"))
set_option hygiene false in
local macro_rules | `(tactic| fail "C")=>`(tactic| first|((first|refine AF hu1 ?_ ?_)<;>fail "t"))
set_option hygiene false in
local macro_rules | `(tactic| fail "P")=>`(tactic| first|exact Jv|((first|refine EW ?_ ?_ ?_)<;>fail "t"))
set_option hygiene false in
local macro_rules | `(tactic| fail "c")=>`(tactic| first|exact FZ|exact F5|exact io|exact(Ct rfl)|exact(Cu rfl)|exact Cv|exact(F3 rfl)|exact Cw)
set_option hygiene false in
local macro_rules | `(tactic| fail "p")=>`(tactic| first|exact JO|exact E7|exact MV|exact JN|exact E8|exact MJ|exact MU|exact MK|exact MP|exact MO|exact wM|exact JP|exact JL|exact ML)
set_option hygiene false in
local macro_rules | `(tactic| fail "q")=>`(tactic| first|exact Px|exact PB|exact MQ|exact MS|exact MR|exact(MT hu)|exact Py|exact JM|exact(AH hu)|exact Pz|exact(MN hu))
set_option hygiene false in
local macro_rules | `(tactic| fail "r")=>`(tactic| first|exact Ln|exact Io|exact LN)
set_option hygiene false in
local macro_rules | `(tactic| fail "x")=>`(tactic| first|exact qH|exact Kr|exact NT)
set_option hygiene false in
local macro_rules | `(tactic| fail "y")=>`(tactic| first|exact qR|exact(xx rfl)|exact(t9 rfl)|exact gI|exact Cy)
set_option hygiene false in
local macro_rules | `(tactic| exists $s:term,$t:term,$r:term)=>`(tactic| (refine F.okN $s (λ_ _ _ _=>by walk_at "l") λf cdv A outer s H vs Q E nd hr hu hu1 hpo own h=>⟨$t,?_,$r⟩;fail "t"))
def Fa(F:aI K mg "whole" (top 17) ["value"]) (B:bF mg)  : oW P w K mg base 1:=by
 exists D_,yW K,(by obtain⟨i,rfl,k⟩:=h;exact uT k)
def fX(F:aI K mg "greatest_divisor" (top 18) ["one","two"]) (B:bF mg)  : bf P w K mg base 1:=by
 exists fT,LH,(by obtain⟨a,b,rfl,k⟩:=h;exact L6 a b H _ k)
def tD(F:aI K mg "fraction" (top 20) ["top","bottom"]) (B:bF mg) (xv:bf P w K mg base 1) (c_whole:oW P w K mg base 1):lN P w K mg base 2:=by
 exists sZ,Gn.r_ K,(Gn.EB rfl h)
def JR(F:aI K mg "plus" (top 21) ["one","two"]) (B:bF mg) (c_fraction:FnC P w K mg base bh 2 "fraction" ["top","bottom"] (gW K)):Hw P w K mg base 3:=by
 exists Iv,rO K,(Ep rfl h)
def Fb(F:aI K mg "times" (top 22) ["one","two"]) (B:bF mg) (c_fraction:FnC P w K mg base bh 2 "fraction" ["top","bottom"] (gW K)):CS P w K mg base 3:=by
 exists Ea,lX K,(zR rfl h)
def kD(F:aI K mg "first_place" (top 24) ["row"]) (B:bF mg)  : cz P w K mg base 1:=by
 exists ky,sd K,(EC rfl h)
def tm(F:aI K mg "unit_row" (top 25) ["size","own"]) (B:bF mg)  : lG P w K mg base 1:=by
 exists sT,rH K,(Ej rfl h)
def qa(F:aI K mg "unit_rows" (top 26) ["size"]) (B:bF mg) (c_unit_row:lG P w K mg base 1):j6 P w K mg base 2:=by
 exists pC,rG K,(Ei rfl h)
def hJ(F:aI K mg "common_divisor" (top 27) ["row"]) (B:bF mg) (xv:bf P w K mg base 1):dO P w K mg base 2:=by
 exists gY,HV K,(L8 rfl h)
def AO(F:aI K mg "lowest" (top 28) ["row"]) (B:bF mg) (c_first_place:cz P w K mg base 2) (c_common_divisor:dO P w K mg base 2):oX P w K mg base 3:=by
 exists zI,yr K,(IN rfl h)
def wS(F:aI K mg "cleared" (top 29) ["row","stairs"]) (B:bF mg) (c_first_place:cz P w K mg base 3) (c_lowest:oX P w K mg base 3):rq P w K mg base 4:=by
 exists wI,yQ K,(IY rfl h)
def AK(F:aI K mg "sifted" (top 30) ["rows"]) (B:bF mg) (c_unit_rows:j6 P w K mg base 4) (c_cleared:rq P w K mg base 4) (c_first_place:cz P w K mg base 4) (c_lowest:oX P w K mg base 4):wa P w K mg base 5:=by
 exists zF,yd K,(IE rfl h)
def iL(F:aI K mg "nought_makers" (top 31) ["rows"]) (B:bF mg) (c_sifted:wa P w K mg base 5):eU P w K mg base 6:=by
 exists iG,l4 K,(zW rfl h)
def tw(F:aI K mg "heaps_of" (top 34) ["turnings"]) (B:bF mg)  : lM P w K mg base 1:=by
 exists sY,i6 K,(wJ rfl h)
def Fe(F:aI K mg "heaps" (top 35) ["vessel"]) (B:bF mg) (c_heaps_of:lM P w K mg base 1):kj P w K mg base 2:=by
 exists Ed,rX K,(Ey rfl h)
def nG(T:ui K mg x) (F:aI K mg "turning_at" (top 36) ["vessel","number"]) (B:bF mg) (c_whole:oW P w K mg base 1):ir P w K mg base x 2 :=
 F.okM mM (λ_ _ _ _=>by walk_at "l") λf cdv A outer s H vs Q E nd hr hu hu1 hpo hlv h=>⟨Vs.rJ K E x,(bN (gm (i:=2) nd rfl (by walk_at "o") (AE qH (pv 0) pZ (λ_ _=>rfl)))
 (bN (EU (PW.pt (pw_or (pT (uW (fe c_whole hr rfl (aU (pv 1) cu)))) (pw_or1 (pT (uX MR MQ pZ (pv 1) (dm io rfl B.len Ho (aU (pv 2) cu)))))))
 (cG (uY hlv rfl rfl T.n5 X_ pX))
 mZ)
 (cG (pW (AE qH (pv 2) (pv 1) (λ_ _=>rfl)))))),(Vs.Ek rfl h)⟩
def jC(F:aI K mg "heap_numbers" (top 38) ["vessel"]) (B:bF mg) (c_heaps:kj P w K mg base 2):bD P w K mg base 3:=by
 exists jm,yy K,(IS rfl h)
def qc(F:aI K mg "places_of" (top 39) ["things","thing"]) (B:bF mg)  : j9 P w K mg base 1:=by
 exists pE,lY K,(zS rfl h)
def JS(F:aI K mg "lots" (top 40) ["vessel"]) (B:bF mg) (zo:bD P w K mg base 3) (c_places_of:j9 P w K mg base 3) (c_heaps:kj P w K mg base 3):CV P w K mg base 4:=by
 exists Iw,yt K,(IP rfl h)
def nP(F:aI K mg "check_heap" (top 41) ["vessel","number"]) (B:bF mg) (c_whole:oW P w K mg base 2) (c_heaps:kj P w K mg base 2):iB P w K mg base 3:=by
 exists mU,yR K,(IZ rfl h)
def JQ(F:aI K mg "road" (top 42) ["vessel","one","two"]) (B:bF mg) (c_check_heap:iB P w K mg base 3) (zo:bD P w K mg base 3):Hv P w K mg base 4:=by
 exists Iu,yg K,(IG rfl h)
def jE(F:aI K mg "first_astray" (top 43) ["vessel"]) (B:bF mg) (zo:bD P w K mg base 4) (c_road:Hv P w K mg base 4):fO P w K mg base 5:=by
 exists jo,As.ma K,(As.Aa rfl h)
def qd(F:aI K mg "lot_marks" (top 45) ["number","told_lots"]) (B:bF mg)  : j_ P w K mg base 1:=by
 exists pF,rT K,(Eu rfl h)
def qo(F:aI K mg "lack_rows" (top 46) ["vessel"]) (B:bF mg) (c_lots:CV P w K mg base 6) (c_nought_makers:eU P w K mg base 6) (c_lot_marks:j_ P w K mg base 6) (c_heaps:kj P w K mg base 6):kh P w K mg base 7:=by
 exists pN,rV K,(Ew rfl h)
def qb(F:aI K mg "taken_out" (top 48) ["number","divisor"]) (B:bF mg)  : j7 P w K mg base 1:=by
 exists pD,Pw.HM K,(Pw.LW rfl h)
def Fc(F:aI K mg "split" (top 49) ["one","two"]) (B:bF mg) (xv:bf P w K mg base 1) (c_taken_out:j7 P w K mg base 1):CT P w K mg base 2:=by
 exists Eb,Pw.rM K,(Pw.En rfl h)
def eM(F:aI K mg "place_with_divisor" (top 50) ["powers","number"]) (B:bF mg) (xv:bf P w K mg base 1):cx P w K mg base 2:=by
 exists eE,Pw.rP K,(Pw.Er rfl h)
def Ff(F:aI K mg "apart" (top 51) ["powers"]) (B:bF mg) (c_place_with_divisor:cx P w K mg base 2) (c_split:CT P w K mg base 2):uo P w K mg base 3:=by
 exists Ee,Pw.so K,(Pw.EH rfl h)
def AN(F:aI K mg "raised" (top 52) ["number","often"]) (B:bF mg)  : we P w K mg base 1:=by
 exists zH,Gn.yh K,(Gn.IH rfl h)
def nH(F:aI K mg "multiplied" (top 53) ["powers"]) (B:bF mg) (c_apart:uo P w K mg base 3) (c_raised:we P w K mg base 3):iu P w K mg base 4:=by
 exists mO,Gn.yo K,(Gn.IK rfl h)
def iK(F:aI K mg "turnings_from" (top 56) ["ends","heap"]) (B:bF mg)  : eT P w K mg base 1:=by
 exists iF,yC K,(IT rfl h)
def Fd(F:aI K mg "picks" (top 57) ["ends","some"]) (B:bF mg) (c_turnings_from:eT P w K mg base 1):CU P w K mg base 2:=by
 exists Ec,rQ K,(Es rfl h)
def wP(F:aI K mg "is_tree" (top 58) ["ends","pick","heap"]) (B:bF mg)  : rm P w K mg base 1:=by
 exists wG,x_ K,(ID rfl h)
def jA(G:Cn K mg nq oq) (F:aI K mg "pace_product" (top 59) ["turnings","pick"]) (B:bF mg) (c_times:CS P w K mg base 3):fL P w K mg base 4:=by
 exists jj,yn K oq,(IJ G.one rfl h)
def kA(G:Cn K mg nq oq) (F:aI K mg "tree_weight" (top 60) ["turnings","ends","lot","heap"]) (B:bF mg) (c_picks:CU P w K mg base 4) (c_is_tree:rm P w K mg base 4) (c_plus:Hw P w K mg base 4) (c_pace_product:fL P w K mg base 4):gM P w K mg base 5:=by
 exists kq,rL K nq,(Em G.zero rfl h)
def jz(F:aI K mg "tree_weights" (top 61) ["vessel"]) (B:bF mg) (zo:bD P w K mg base 5) (c_lots:CV P w K mg base 5) (c_tree_weight:gM P w K mg base 5):fK P w K mg base 6:=by
 exists jh,rK K,(El rfl h)
 refine MB (M:=["vessel","ends","weights","lot","#heap"]) (.of (by kernel_rfl!)) nd rfl ?_ (λ_ _ _ _ _=>?_) <;> fail "t"
def wQ(F:aI K mg "falling" (top 64) ["pieces","taken"]) (B:bF mg)  : rn P w K mg base 1:=by
 exists wH,Gn.si K,(Gn.ED rfl h)
def kE(F:aI K mg "can_be_made" (top 65) ["turning","count"]) (B:bF mg)  : gO P w K mg base 1:=by
 exists kz,Wd.yS K,(Wd.Ja rfl h)
def jG(F:aI K mg "count_behind" (top 66) ["turning","count"]) (B:bF mg)  : fQ P w K mg base 1:=by
 exists jr,Wd.yP K,(Wd.IX rfl h)
def AJ(T:ui K mg x) (F:aI K mg "walked" (top 67) ["vessel","row","count"]) (B:bF mg) (c_turning_at:ir P w K mg base x 2) (c_count_behind:fQ P w K mg base 2) (c_can_be_made:gO P w K mg base 2) (i_NotNow:K5 P w K mg base 1 "NotNow" x.c7 (sN K x.c7 "at")):v_ P w K mg base x 3 :=
 F.okM zE (λ_ _ _ _=>by walk_at "l") λf cdv A outer s H vs Q E nd hr hu hu1 hpo hlv h=>⟨Wd.lU K E x,(bN (gm (i:=3) nd rfl (by walk_at "o") (gy gI rfl B.tuple vU (aU (pv 2) cu)))
 (bN (GC hpo rfl (AC rfl B.enumerate (aU (pv 1) cu)) (GM rfl (nj (nu (i:=4) nd rfl (by walk_at "o")) (nj (nu (i:=5) nd rfl (by walk_at "o")) AD)))
 (bN (gm (i:=6) nd rfl (by walk_at "o") (gu c_turning_at hr rfl hlv.pass (aU (pv 0) (aU (pv 5) cu))))
 (bN (EU (pT (uW (fe c_can_be_made hr rfl (aU (pv 6) (aU (pv 3) cu)))))
 (cG (Am hlv rfl rfl i_NotNow (hr.mono (by decide)) (pv 4)))
 mZ)
 (cG (gm (i:=3) nd rfl (by walk_at "o") (fe c_count_behind hr rfl (aU (pv 6) (aU (pv 3) cu))))))))
 (cG (pW (pv 3))))),(Wd.zP rfl h)⟩
def iJ(F:aI K mg "weight_powers" (top 71) ["weights","row"]) (B:bF mg)  : cO P w K mg base 1:=by
 exists iE,Pw.HL K,(Pw.LV rfl h)
def JV(F:aI K mg "even" (top 72) ["vessel"]) (B:bF mg) (c_first_astray:fO P w K mg base 7) (c_tree_weights:fK P w K mg base 7) (c_lack_rows:kh P w K mg base 7) (c_apart:uo P w K mg base 7) (c_weight_powers:cO P w K mg base 7):CW P w K mg base 8:=by
 exists Iy,Pw.yL K,(Pw.IU rfl h)
def jF(T:ui K mg x) (F:aI K mg "even_weights" (top 73) ["vessel"]) (B:bF mg) (c_even:CW P w K mg base 8):cW P w K mg base x 9 :=
 F.okM jq (λ_ _ _ _=>by walk_at "l") λf cdv A outer s H vs Q E nd hr hu hu1 hpo hlv h=>⟨Gn.yM K E x,(bN (gm (i:=1) nd rfl (by walk_at "o") (fe c_even hr rfl (aU (pv 0) cu)))
 (bN (EU (pT (uW (AE qH (pv 1) pZ (λ_ _=>rfl))))
 (cG (uY hlv rfl rfl T.n10 X_ pX))
 mZ)
 (cG (pW (AE qH (pv 1) pZ (λ_ _=>rfl)))))),(Gn.IV rfl h)⟩
def iN(F:aI K mg "heaps_come_to" (top 74) ["vessel","row","size"]) (B:bF mg) (zo:bD P w K mg base 3):eX P w K mg base 4:=by
 exists iI,Gn.HU K,(Gn.L5 rfl h)
def jD(F:aI K mg "gain_between" (top 75) ["vessel","weights","row","ahead","behind"]) (B:bF mg) (c_multiplied:iu P w K mg base 4) (c_fraction:lN P w K mg base 4) (c_weight_powers:cO P w K mg base 4) (c_heaps_come_to:eX P w K mg base 4) (c_falling:rn P w K mg base 4):fN P w K mg base 5:=by
 exists jn,Gn.t_gb K,(Gn.Pc rfl h)
def JU(T:ui K mg x) (F:aI K mg "gain" (top 76) ["vessel","row","count"]) (B:bF mg) (Fx:cW P w K mg base x 9) (c_gain_between:fN P w K mg base 9) (c_walked:v_ P w K mg base x 9):Hx P w K mg base x 10 :=
 F.okM Ix (λ_ _ _ _=>by walk_at "l") λf cdv A outer s H vs Q E nd hr hu hu1 hpo hlv h=>⟨Gn.r9 K E x,(bN (gm (i:=3) nd rfl (by walk_at "o") (gu Fx hr rfl hlv.pass (aU (pv 0) cu)))
 (cG (pW (fe c_gain_between hr rfl (aU (pv 0) (aU (pv 3) (aU (pv 1) (aU (pv 2) (aU (gu c_walked hr rfl hlv.pass (aU (pv 0) (aU (pv 1) (aU (pv 2) cu)))) cu))))))))),(Gn.EA rfl h)⟩
def AM(T:ui K mg x) (F:aI K mg "shares" (top 77) ["vessel","count"]) (B:bF mg) (Fx:cW P w K mg base x 9):wc P w K mg base x 10 :=
 F.okM zG (λ_ _ _ _=>by walk_at "l") λf cdv A outer s H vs Q E nd hr hu hu1 hpo hlv h=>⟨Gn.yf K E x,(bN (gm (i:=2) nd rfl (by walk_at "o") (gu Fx hr rfl hlv.pass (aU (pv 0) cu)))
 pV),(Gn.IF rfl h)⟩
def kC(F:aI K mg "_law_cell_at" (top 79) ["_law_script","_law_k"]) (B:bF mg)  : bb P w K mg base 1:=by
 exists kx,LJ K,(by obtain⟨a,ns,k,rfl,hS,h0,q⟩:=h;exact I_ hS h0 q)
def qj(F:aI K mg "_law_mixed" (top 80) ["_law_cell","_law_place"]) (B:bF mg)  : bR P w K mg base 1:=by
 exists pK,yp K,(IL rfl h)
def kB(F:aI K mg "_law_divisor" (top 81) ["_law_one","_law_two"]) (B:bF mg)  : gN P w K mg base 1:=by
 exists kr,yN K,(IW rfl h)
def nK(F:aI K mg "_law_lowest" (top 82) ["_law_top","_law_bottom"]) (B:bF mg) (c_law_divisor:gN P w K mg base 1):iw P w K mg base 2:=by
 exists mQ,Gn.yq K,(Gn.IM rfl h)
def qe(F:aI K mg "_law_words" (top 83) ["_law_number","_law_many"]) (B:bF mg)  : gb P w K mg base 1:=by
 exists pG,lT K,(zO rfl h)
def tu(F:aI K mg "_law_heap" (top 84) ["_law_cell","_law_k","_law_many","_law_top","_law_plain"]) (B:bF mg) (Ds:bR P w K mg base 1):lK P w K mg base 2:=by
 exists sX,rZ K,(Ez rfl h)
def tq(F:aI K mg "_law_pool" (top 85) ["_law_script","_law_at","_law_many","_law_size","_law_top","_law_plain"]) (B:bF mg) (c_law_heap:lK P w K mg base 2) (vt:bb P w K mg base 2):lH P w K mg base 3:=by
 exists sU,rN K,(Eo rfl h)
def qi(F:aI K mg "_law_pairs" (top 86) ["_law_script","_law_at","_law_size","_law_kind","_law_plain"]) (B:bF mg) (vt:bb P w K mg base 1) (Ds:bR P w K mg base 1):kc P w K mg base 2:=by
 exists pJ,lZ K,(zU rfl h)
def tt(F:aI K mg "_law_pace" (top 87) ["_law_cell","_law_kind"]) (B:bF mg) (c_law_lowest:FnC P w K mg base bh 2 "_law_lowest" ["_law_top","_law_bottom"] (ii K)):ib P w K mg base 3:=by
 exists sV,rS K,(Et rfl h)
def nJ(F:aI K mg "_law_vessel" (top 88) ["_law_script","_law_at"]) (B:bF mg) (Ds:bR P w K mg base 3) (c_law_pool:lH P w K mg base 3) (c_law_pairs:kc P w K mg base 3) (vt:bb P w K mg base 3) (c_law_words:gb P w K mg base 3) (c_law_pace:ib P w K mg base 3):eW P w K mg base 4:=by
 exists mP,xZ K,(IC rfl h)
def qh(F:aI K mg "_law_times" (top 92) ["_law_one","_law_two"]) (B:bF mg) (c_law_lowest:iw P w K mg base 2):um P w K mg base 3:=by
 exists pI,Gn.lV K,(Gn.zQ rfl h)
def gz(F:aI K mg "_law_even_vessel" (top 93) ["_law_script","_law_at"]) (B:bF mg) (c_law_vessel:eW P w K mg base 4) (Ds:bR P w K mg base 4) (vt:bb P w K mg base 4) (c_law_lowest:FnC P w K mg base bh 4 "_law_lowest" ["_law_top","_law_bottom"] (ii K)) (c_law_times:FnC P w K mg base bh 4 "_law_times" ["_law_one","_law_two"] (Pw.gh K)):di P w K mg base 5:=by
 exists gi,Pw.sj K,(Pw.EE rfl h)
def iM(F:aI K mg "_law_zero_lack" (top 94) ["_law_script","_law_at"]) (B:bF mg) (Ds:bR P w K mg base 3) (vt:bb P w K mg base 3) (c_law_words:gb P w K mg base 3) (c_law_pace:ib P w K mg base 3):eV P w K mg base 4:=by
 exists iH,Gn.xY K,(Gn.IB rfl h)
def jB(F:aI K mg "_law_balanced" (top 95) ["_law_script","_law_at"]) (B:bF mg) (c_law_zero_lack:eV P w K mg base 5) (c_law_even_vessel:di P w K mg base 5) (vt:bb P w K mg base 5):fM P w K mg base 6:=by
 exists jk,Gn.HX K,(Gn.Jb rfl h)
def qm(F:aI K mg "_law_count" (top 96) ["_law_cell","_law_many","_law_size"]) (B:bF mg) (Ds:bR P w K mg base 1):kg P w K mg base 2:=by
 exists pM,Dn.sk K,(Dn.EF rfl h)
def wO(F:aI K mg "_law_can" (top 97) ["_law_turning","_law_count_here"]) (B:bF mg)  : rj P w K mg base 1:=by
 exists wF,Dn.HW K,(Dn.L9 rfl h)
def nM(F:aI K mg "_law_behind" (top 98) ["_law_turning","_law_count_here"]) (B:bF mg)  : iz P w K mg base 1:=by
 exists mS,Dn.l_ K,(Dn.z_ rfl h)
def qg(F:aI K mg "_law_whole" (top 99) ["_law_found"]) (B:bF mg)  : kb P w K mg base 1:=by
 exists pH,yW K,(by obtain⟨i,rfl,k⟩:=h;exact uT k)
def qk(T:ui K mg x) (F:aI K mg "_law_kinds" (top 100) ["_law_e"]) (B:bF mg)  : kf P w K mg base x 1:=by
 exists pL,Ex0.yX K x,(Ex T rfl h)
def nL(T:ui K mg x) (F:aI K mg "_law_caught" (top 101) ["_law_vessel_here","_law_row","_law_count_here"]) (B:bF mg) (c_shares:wc P w K mg base x 10) (c_gain:Hx P w K mg base x 10):iy P w K mg base x 11:=by
 exists mR,l9 K x,(zZ T rfl h)
def wN(F:aI K mg "_law_due" (top 102) ["_law_vessel_here","_law_row","_law_count_here"]) (B:bF mg) (c_law_behind:iz P w K mg base 1) (c_law_can:rj P w K mg base 1):rg P w K mg base 2:=by
 exists wE,yu K,(IQ rfl h)
def nN(T:ui K mg x) (F:aI K mg "_law_as_due" (top 103) ["_law_caught_here","_law_kind","_law_place"]) (B:bF mg) (c_law_kinds:kf P w K mg base x 1) (c_law_whole:kb P w K mg base 1):iA P w K mg base x 2:=by
 exists mT,i9 K x,(EG T rfl h)
def MY(T:ui K mg x)   (F:Fun K "law" "law" (top 104) f fd) (B:bF mg) (c_law_vessel:eW P w K mg base 11) (c_law_count:kg P w K mg base 11) (c_law_due:rg P w K mg base 11) (c_law_balanced:fM P w K mg base 11) (vt:bb P w K mg base 11) (c_even:CW P w K mg base 11) (c_law_as_due:iA P w K mg base x 11) (c_law_caught:iy P w K mg base x 11):FnOk P w K mg base bh 12 f fd ["_law_script"] (spLaw K):=by
 refine F.ok Gy (λvs H Q E h=>?_) (λcdv A outer s H vs Q E hr h=>?_)
 .obtain⟨a,ns,rfl,_⟩:=h;rfl
 have nd:=Gy.nd;have hu:=hr.units;have hu1:=Qu hr;have hpo:=λ{M A env}=>@Y0 M A env
 refine⟨DQ K x,?_,(L4 T h)⟩;fail "t"
end
def lA{G:Rs->Rs->Rs->Option Addr->Rs->Rs->UR}{ps:List Str}(e:ps.length=1)(h:∀(a b c:Rs) (d:Option Addr) (x y u0:Rs),bindArgs (G a b c d x y) ⟨[u0],[]⟩=pure (ps.zip [u0]))(a b c:Rs)(d:Option Addr)(x y:Rs)(us:List Rs)(hl:us.length=ps.length):bindArgs (G a b c d x y) ⟨us,[]⟩=pure (ps.zip us):=by
 have e0:us.length=1:=hl.trans e;obtain⟨u0,us,rfl⟩:=RH e0;cases SX (SK e0);exact h a b c d x y u0
def dX{G:Rs->Rs->Rs->Option Addr->Rs->Rs->UR}{ps:List Str}(e:ps.length=2)(h:∀(a b c:Rs) (d:Option Addr) (x y u0 u1:Rs),bindArgs (G a b c d x y) ⟨[u0,u1],[]⟩=pure (ps.zip [u0,u1]))(a b c:Rs)(d:Option Addr)(x y:Rs)(us:List Rs)(hl:us.length=ps.length):bindArgs (G a b c d x y) ⟨us,[]⟩=pure (ps.zip us):=by
 have e0:us.length=2:=hl.trans e;obtain⟨u0,us,rfl⟩:=RH e0;have e1:us.length=1:=SK e0;obtain⟨u1,us,rfl⟩:=RH e1;cases SX (SK e1);exact h a b c d x y u0 u1
def Ga{G:Rs->Rs->Rs->Option Addr->Rs->Rs->UR}{ps:List Str}(e:ps.length=3)(h:∀(a b c:Rs) (d:Option Addr) (x y u0 u1 u2:Rs),bindArgs (G a b c d x y) ⟨[u0,u1,u2],[]⟩=pure (ps.zip [u0,u1,u2]))(a b c:Rs)(d:Option Addr)(x y:Rs)(us:List Rs)(hl:us.length=ps.length):bindArgs (G a b c d x y) ⟨us,[]⟩=pure (ps.zip us):=by
 have e0:us.length=3:=hl.trans e;obtain⟨u0,us,rfl⟩:=RH e0;have e1:us.length=2:=SK e0;obtain⟨u1,us,rfl⟩:=RH e1;have e2:us.length=1:=SK e1;obtain⟨u2,us,rfl⟩:=RH e2;cases SX (SK e2);exact h a b c d x y u0 u1 u2
def Rg{G:Rs->Rs->Rs->Option Addr->Rs->Rs->UR}{ps:List Str}(e:ps.length=4)(h:∀(a b c:Rs) (d:Option Addr) (x y u0 u1 u2 u3:Rs),bindArgs (G a b c d x y) ⟨[u0,u1,u2,u3],[]⟩=pure (ps.zip [u0,u1,u2,u3]))(a b c:Rs)(d:Option Addr)(x y:Rs)(us:List Rs)(hl:us.length=ps.length):bindArgs (G a b c d x y) ⟨us,[]⟩=pure (ps.zip us):=by
 have e0:us.length=4:=hl.trans e;obtain⟨u0,us,rfl⟩:=RH e0;have e1:us.length=3:=SK e0;obtain⟨u1,us,rfl⟩:=RH e1;have e2:us.length=2:=SK e1;obtain⟨u2,us,rfl⟩:=RH e2;have e3:us.length=1:=SK e2;obtain⟨u3,us,rfl⟩:=RH e3;cases SX (SK e3);exact h a b c d x y u0 u1 u2 u3
def QI{G:Rs->Rs->Rs->Option Addr->Rs->Rs->UR}{ps:List Str}(e:ps.length=5)(h:∀(a b c:Rs) (d:Option Addr) (x y u0 u1 u2 u3 u4:Rs),bindArgs (G a b c d x y) ⟨[u0,u1,u2,u3,u4],[]⟩=pure (ps.zip [u0,u1,u2,u3,u4]))(a b c:Rs)(d:Option Addr)(x y:Rs)(us:List Rs)(hl:us.length=ps.length):bindArgs (G a b c d x y) ⟨us,[]⟩=pure (ps.zip us):=by
 have e0:us.length=5:=hl.trans e;obtain⟨u0,us,rfl⟩:=RH e0;have e1:us.length=4:=SK e0;obtain⟨u1,us,rfl⟩:=RH e1;have e2:us.length=3:=SK e1;obtain⟨u2,us,rfl⟩:=RH e2;have e3:us.length=2:=SK e2;obtain⟨u3,us,rfl⟩:=RH e3;have e4:us.length=1:=SK e3;obtain⟨u4,us,rfl⟩:=RH e4;cases SX (SK e4);exact h a b c d x y u0 u1 u2 u3 u4
def Rf{G:Rs->Rs->Rs->Option Addr->Rs->Rs->UR}{ps:List Str}(e:ps.length=6)(h:∀(a b c:Rs) (d:Option Addr) (x y u0 u1 u2 u3 u4 u5:Rs),bindArgs (G a b c d x y) ⟨[u0,u1,u2,u3,u4,u5],[]⟩=pure (ps.zip [u0,u1,u2,u3,u4,u5]))(a b c:Rs)(d:Option Addr)(x y:Rs)(us:List Rs)(hl:us.length=ps.length):bindArgs (G a b c d x y) ⟨us,[]⟩=pure (ps.zip us):=by
 have e0:us.length=6:=hl.trans e;obtain⟨u0,us,rfl⟩:=RH e0;have e1:us.length=5:=SK e0;obtain⟨u1,us,rfl⟩:=RH e1;have e2:us.length=4:=SK e1;obtain⟨u2,us,rfl⟩:=RH e2;have e3:us.length=3:=SK e2;obtain⟨u3,us,rfl⟩:=RH e3;have e4:us.length=2:=SK e3;obtain⟨u4,us,rfl⟩:=RH e4;have e5:us.length=1:=SK e4;obtain⟨u5,us,rfl⟩:=RH e5;cases SX (SK e5);exact h a b c d x y u0 u1 u2 u3 u4 u5
def FnAt{K:Fg}{st:Stmt}{ps:List Str}(X:K.In h)(G:h.Ns mainGlobals mg)(p:K7 K n st)(hb:∀(kV doc pm:Rs) (an:Option Addr) (cdv ct:Rs) (us:List Rs),us.length=ps.length->bindArgs (Uq n n (cM st) (bK st) (ak st) .none kV doc pm an cdv ct) ⟨us,[]⟩=pure (ps.zip us)):aI K mg n st ps:=by
 obtain⟨_,_,_,_,_,_,_,_,_,_,a,l,c,k⟩:=p;exact FL X G a l c k hb
nonrec abbrev Pg:=PySem.Challenge.rw_vesselhall_k91_not_even_not_now.prog
def fin:PySem.Challenge.rw_vesselhall_k91_not_even_not_now.Holds:=by
 refine K91H.headed ?_;intro w K h mg fa X G hfa P0 P20 P40 P60 Z V q0 q1 q2 q3 q4 q5 q6 q7 q8 q9 q10 q11 q12 q13 qd0 qd1 qd2 qd3 qd4 qd5 qd6 qd7 qd8 qd9 qd10 qd11 qd12 qd13 qdV fi7 Ni7 nmi7 qni7 bsi7 tli7 sui7 hdi7 abi7 sni7 coi7 ddi7 odi7 ani7 kai7 kbi7 kci7 kdi7 kei7 oci7 kVi7 dci7 pmi7 cdi7 cti7 sli7 tn0 tn1 to0 to1 nq oq nqd oqd nqn oqn nqs oqs aV xV zVE gt tk sgV rdV fcV dV mV cs nd rs L7 ni7 fn7 kq7 lf7 cf7 kf7 sa7 nf7 hd7 mr7 fd7 hcnN hcnL hcnO hcnM;obtain⟨p0,p1,p2,p3,p4,p5,p6,p7,p8,p9,p10,p11,p12,p13,p14,p15,p16,p17,p18,p19,_⟩:=P0;obtain⟨p20,p21,p22,p23,p24,p25,p26,p27,p28,p29,Pu,p31,p32,p33,p34,p35,p36,p37,p38,p39,_⟩:=P20;obtain⟨p40,p41,p42,p43,p44,p45,p46,p47,p48,p49,p50,p51,p52,p53,p54,p55,p56,p57,p58,p59,_⟩:=P40;obtain⟨p60,p61,p62,p63,p64,p65,p66,p67,p68,p69,_⟩:=P60;obtain⟨z0,z1,z2,z3,z4,z5,z6,z7,z8,z9,z10,z11,z12,z13,z14,z15,z16,z17,z18,z19,z20,z21,_⟩:=Z;obtain⟨_,_,an,_,_,kV,dc,pm,cd,ct,aL,lL,cL,kL⟩:=p69;cases hfa.symm.trans (SB X G aL);have zn:=λ{n:Str}=>Z8 (n:=n) X G
 have B:bF mg:=⟨zn z0,zn z1,zn z2,zn z3,zn z4,zn z5,zn z6,zn z7,zn z8,zn z9,zn z10,zn z11,zn z12,zn z13,zn z14,zn z15,zn z16,zn z17,zn z18,zn z19,zn z20,zn z21⟩
 refine⟨Uq "law" "law" (cM (top 104)) (bK (top 104)) (ak (top 104)) .none kV dc pm an cd ct,λs v=>.of_eq rfl,λbase _ _=>?_⟩;have tc:=Ex0.O8 (x:=⟨V,q0,q1,q2,q3,q4,q5,q6,q7,q8,q9,q10,q11,q12,q13⟩) cs;obtain⟨c0,c1,c2,c3,c4,c5,c6,c7,c8,c9,c10,c11,c12,c13,_⟩:=cs;obtain⟨r5,r10,_⟩:=rs;have be7:=Ex0.qy (t:=.type "BaseException") c7.2.2 mr7 (by decide +kernel);have iC7:ExcI K mg "NotNow" q7 fi7:=⟨SB X G c7.1,⟨_,_,_,_,_,_,_,_,_,_,_,_,_,_,_,_,L7,λh X=>Di xV dV mV L7 c7.2.2 mr7 h X⟩,ni7,fn7,kq7⟩
 have T:ui K mg ⟨V,q0,q1,q2,q3,q4,q5,q6,q7,q8,q9,q10,q11,q12,q13⟩:={
   v:=⟨SB X G aV,_,_,xV,by decide⟩
   vb:=⟨SB X G aV,sgV,rdV,fcV⟩
   mv:=Z8 X G zVE
   m0:=SB X G c0.1
   m1:=SB X G c1.1
   m2:=SB X G c2.1
   m3:=SB X G c3.1
   m4:=SB X G c4.1
   m5:=SB X G c5.1
   m6:=SB X G c6.1
   m7:=SB X G c7.1
   m8:=SB X G c8.1
   m9:=SB X G c9.1
   m10:=SB X G c10.1
   m11:=SB X G c11.1
   m12:=SB X G c12.1
   m13:=SB X G c13.1
   n5:=⟨SB X G c5.1,r5.1⟩
   s5:=⟨vM r5.1,Ex0.J2 c5.2.2 r5.2.1⟩
   k5:=Ex0.tJ (r:=5) tc nd (by decide) c5.2.2 r5.2.1 r5.2.2 gt tk
   i7:=⟨_,iC7⟩
   h7:=iC7.shape
   f7:=⟨sa7,nf7,hd7,⟨_,[_,_],c7.2.2,mr7,rfl⟩,Ex0.qy c7.2.2 mr7 (by decide +kernel)⟩
   s7:=⟨iC7.ob,Ex0.J2 c7.2.2 mr7⟩
   k7:=Ex0.tJ (r:=7) tc nd (by decide) c7.2.2 mr7 fd7 gt tk
   n10:=⟨SB X G c10.1,r10.1⟩
   s10:=⟨vM r10.1,Ex0.J2 c10.2.2 r10.2.1⟩
   k10:=Ex0.tJ (r:=10) tc nd (by decide) c10.2.2 r10.2.1 r10.2.2 gt tk}
 have gG:=G;have G:Cn K mg nq oq:=⟨SB X G hcnN,SB X G hcnO,λH=>.inr ⟨_,_,_,hcnL,rfl,rfl,aM,.cons ⟨_,rfl⟩ (.cons ⟨_,rfl⟩ .nil)⟩,λH=>.inr ⟨_,_,_,hcnM,rfl,rfl,aM,.cons ⟨_,rfl⟩ (.cons ⟨_,rfl⟩ .nil)⟩⟩
 have i_NotNow:=Fun.iniC (P:=Pg) (w:=w) (base:=base) (k:=1) (sp:=sN K q7 "at") iC7 be7 (JT (P:=Pg) (w:=w) (base:=base) T G (vI (st:=ini 9) lf7 cf7 kf7) B) ((vI (st:=ini 9) lf7 cf7 kf7).binds (dX rfl λ_ _ _ _ _ _ _ _=>rfl)) rfl;have c_whole:=Fa (P:=Pg) (w:=w) (base:=base) (FnAt X gG p0 (lA rfl λ_ _ _ _ _ _ _=>rfl)) B;have xv:=fX (P:=Pg) (w:=w) (base:=base) (FnAt X gG p1 (dX rfl λ_ _ _ _ _ _ _ _=>rfl)) B;have c_first_place:=kD (P:=Pg) (w:=w) (base:=base) (FnAt X gG p5 (lA rfl λ_ _ _ _ _ _ _=>rfl)) B;have c_unit_row:=tm (P:=Pg) (w:=w) (base:=base) (FnAt X gG p6 (dX rfl λ_ _ _ _ _ _ _ _=>rfl)) B;have c_heaps_of:=tw (P:=Pg) (w:=w) (base:=base) (FnAt X gG p13 (lA rfl λ_ _ _ _ _ _ _=>rfl)) B;have c_places_of:=qc (P:=Pg) (w:=w) (base:=base) (FnAt X gG p17 (dX rfl λ_ _ _ _ _ _ _ _=>rfl)) B;have c_lot_marks:=qd (P:=Pg) (w:=w) (base:=base) (FnAt X gG p22 (dX rfl λ_ _ _ _ _ _ _ _=>rfl)) B;have c_taken_out:=qb (P:=Pg) (w:=w) (base:=base) (FnAt X gG p24 (dX rfl λ_ _ _ _ _ _ _ _=>rfl)) B;have c_raised:=AN (P:=Pg) (w:=w) (base:=base) (FnAt X gG p28 (dX rfl λ_ _ _ _ _ _ _ _=>rfl)) B;have c_turnings_from:=iK (P:=Pg) (w:=w) (base:=base) (FnAt X gG Pu (dX rfl λ_ _ _ _ _ _ _ _=>rfl)) B;have c_is_tree:=wP (P:=Pg) (w:=w) (base:=base) (FnAt X gG p32 (Ga rfl λ_ _ _ _ _ _ _ _ _=>rfl)) B;have c_falling:=wQ (P:=Pg) (w:=w) (base:=base) (FnAt X gG p36 (dX rfl λ_ _ _ _ _ _ _ _=>rfl)) B;have c_can_be_made:=kE (P:=Pg) (w:=w) (base:=base) (FnAt X gG p37 (dX rfl λ_ _ _ _ _ _ _ _=>rfl)) B;have c_count_behind:=jG (P:=Pg) (w:=w) (base:=base) (FnAt X gG p38 (dX rfl λ_ _ _ _ _ _ _ _=>rfl)) B;have c_weight_powers:=iJ (P:=Pg) (w:=w) (base:=base) (FnAt X gG p40 (dX rfl λ_ _ _ _ _ _ _ _=>rfl)) B;have vt:=kC (P:=Pg) (w:=w) (base:=base) (FnAt X gG p47 (dX rfl λ_ _ _ _ _ _ _ _=>rfl)) B;have Ds:=qj (P:=Pg) (w:=w) (base:=base) (FnAt X gG p48 (dX rfl λ_ _ _ _ _ _ _ _=>rfl)) B;have c_law_divisor:=kB (P:=Pg) (w:=w) (base:=base) (FnAt X gG p49 (dX rfl λ_ _ _ _ _ _ _ _=>rfl)) B;have c_law_words:=qe (P:=Pg) (w:=w) (base:=base) (FnAt X gG p51 (dX rfl λ_ _ _ _ _ _ _ _=>rfl)) B;have c_law_can:=wO (P:=Pg) (w:=w) (base:=base) (FnAt X gG p62 (dX rfl λ_ _ _ _ _ _ _ _=>rfl)) B;have c_law_behind:=nM (P:=Pg) (w:=w) (base:=base) (FnAt X gG p63 (dX rfl λ_ _ _ _ _ _ _ _=>rfl)) B;have c_law_whole:=qg (P:=Pg) (w:=w) (base:=base) (FnAt X gG p64 (lA rfl λ_ _ _ _ _ _ _=>rfl)) B;have c_law_kinds:=qk (P:=Pg) (w:=w) (base:=base) T (FnAt X gG p65 (lA rfl λ_ _ _ _ _ _ _=>rfl)) B;have c_fraction:=tD (FnAt X gG p2 (dX rfl λ_ _ _ _ _ _ _ _=>rfl)) B xv c_whole;have c_fractionQ:=c_fraction.imp (sp':=gW K) λ_ _ _ _ z=>Gn.N9 z
 have c_unit_rows:=qa (FnAt X gG p7 (lA rfl λ_ _ _ _ _ _ _=>rfl)) B c_unit_row;have c_common_divisor:=hJ (FnAt X gG p8 (lA rfl λ_ _ _ _ _ _ _=>rfl)) B xv;have c_heaps:=Fe (FnAt X gG p14 (lA rfl λ_ _ _ _ _ _ _=>rfl)) B c_heaps_of;have c_turning_at:=nG T (FnAt X gG p15 (dX rfl λ_ _ _ _ _ _ _ _=>rfl)) B c_whole;have c_split:=Fc (FnAt X gG p25 (dX rfl λ_ _ _ _ _ _ _ _=>rfl)) B xv c_taken_out;have c_place_with_divisor:=eM (FnAt X gG p26 (dX rfl λ_ _ _ _ _ _ _ _=>rfl)) B xv;have c_picks:=Fd (FnAt X gG p31 (dX rfl λ_ _ _ _ _ _ _ _=>rfl)) B c_turnings_from;have c_law_lowest:=nK (FnAt X gG p50 (dX rfl λ_ _ _ _ _ _ _ _=>rfl)) B c_law_divisor;have c_law_lowestQ:=c_law_lowest.imp (sp':=ii K) λ_ _ _ _ z=>Gn.PF z
 have c_law_heap:=tu (FnAt X gG p52 (QI rfl λ_ _ _ _ _ _ _ _ _ _ _=>rfl)) B Ds;have c_law_pairs:=qi (FnAt X gG p54 (QI rfl λ_ _ _ _ _ _ _ _ _ _ _=>rfl)) B vt Ds;have c_law_count:=qm (FnAt X gG p61 (Ga rfl λ_ _ _ _ _ _ _ _ _=>rfl)) B Ds;have c_law_due:=wN (FnAt X gG p67 (Ga rfl λ_ _ _ _ _ _ _ _ _=>rfl)) B c_law_behind c_law_can;have c_law_as_due:=nN T (FnAt X gG p68 (Ga rfl λ_ _ _ _ _ _ _ _ _=>rfl)) B c_law_kinds c_law_whole;have c_plus:=JR (FnAt X gG p3 (dX rfl λ_ _ _ _ _ _ _ _=>rfl)) B c_fractionQ;have c_times:=Fb (FnAt X gG p4 (dX rfl λ_ _ _ _ _ _ _ _=>rfl)) B c_fractionQ;have c_lowest:=AO (FnAt X gG p9 (lA rfl λ_ _ _ _ _ _ _=>rfl)) B (c_first_place.mono (by decide:1<=2)) c_common_divisor;have zo:=jC (FnAt X gG p16 (lA rfl λ_ _ _ _ _ _ _=>rfl)) B c_heaps;have c_check_heap:=nP (FnAt X gG p19 (dX rfl λ_ _ _ _ _ _ _ _=>rfl)) B (c_whole.mono (by decide:1<=2)) c_heaps;have c_apart:=Ff (FnAt X gG p27 (lA rfl λ_ _ _ _ _ _ _=>rfl)) B c_place_with_divisor c_split;have c_walked:=AJ T (FnAt X gG p39 (Ga rfl λ_ _ _ _ _ _ _ _ _=>rfl)) B c_turning_at (c_count_behind.mono (by decide:1<=2)) (c_can_be_made.mono (by decide:1<=2)) i_NotNow;have c_law_pool:=tq (FnAt X gG p53 (Rf rfl λ_ _ _ _ _ _ _ _ _ _ _ _=>rfl)) B c_law_heap (vt.mono (by decide:1<=2));have c_law_pace:=tt (FnAt X gG p55 (dX rfl λ_ _ _ _ _ _ _ _=>rfl)) B c_law_lowestQ;have c_law_times:=qh (FnAt X gG p57 (dX rfl λ_ _ _ _ _ _ _ _=>rfl)) B c_law_lowest;have c_law_timesG:=c_law_times.imp (sp':=Pw.gh K) λ_ _ _ _ z=>Gn.HJ z
 have c_cleared:=wS (FnAt X gG p10 (dX rfl λ_ _ _ _ _ _ _ _=>rfl)) B (c_first_place.mono (by decide:1<=3)) c_lowest;have c_lots:=JS (FnAt X gG p18 (lA rfl λ_ _ _ _ _ _ _=>rfl)) B zo (c_places_of.mono (by decide:1<=3)) (c_heaps.mono (by decide:2<=3));have c_road:=JQ (FnAt X gG p20 (Ga rfl λ_ _ _ _ _ _ _ _ _=>rfl)) B c_check_heap zo;have c_multiplied:=nH (FnAt X gG p29 (lA rfl λ_ _ _ _ _ _ _=>rfl)) B c_apart (c_raised.mono (by decide:1<=3));have c_pace_product:=jA G (FnAt X gG p33 (dX rfl λ_ _ _ _ _ _ _ _=>rfl)) B c_times;have c_heaps_come_to:=iN (FnAt X gG p43 (Ga rfl λ_ _ _ _ _ _ _ _ _=>rfl)) B zo;have c_law_vessel:=nJ (FnAt X gG p56 (dX rfl λ_ _ _ _ _ _ _ _=>rfl)) B (Ds.mono (by decide:1<=3)) c_law_pool (c_law_pairs.mono (by decide:2<=3)) (vt.mono (by decide:1<=3)) (c_law_words.mono (by decide:1<=3)) c_law_pace;have c_law_zero_lack:=iM (FnAt X gG p59 (dX rfl λ_ _ _ _ _ _ _ _=>rfl)) B (Ds.mono (by decide:1<=3)) (vt.mono (by decide:1<=3)) (c_law_words.mono (by decide:1<=3)) c_law_pace;have c_sifted:=AK (FnAt X gG p11 (lA rfl λ_ _ _ _ _ _ _=>rfl)) B (c_unit_rows.mono (by decide:2<=4)) c_cleared (c_first_place.mono (by decide:1<=4)) (c_lowest.mono (by decide:3<=4));have c_first_astray:=jE (FnAt X gG p21 (lA rfl λ_ _ _ _ _ _ _=>rfl)) B (zo.mono (by decide:3<=4)) c_road;have c_tree_weight:=kA G (FnAt X gG p34 (Rg rfl λ_ _ _ _ _ _ _ _ _ _=>rfl)) B (c_picks.mono (by decide:2<=4)) (c_is_tree.mono (by decide:1<=4)) (c_plus.mono (by decide:3<=4)) c_pace_product;have c_gain_between:=jD (FnAt X gG p44 (QI rfl λ_ _ _ _ _ _ _ _ _ _ _=>rfl)) B c_multiplied (c_fraction.mono (by decide:2<=4)) (c_weight_powers.mono (by decide:1<=4)) c_heaps_come_to (c_falling.mono (by decide:1<=4));have c_law_even_vessel:=gz (FnAt X gG p58 (dX rfl λ_ _ _ _ _ _ _ _=>rfl)) B c_law_vessel (Ds.mono (by decide:1<=4)) (vt.mono (by decide:1<=4)) (c_law_lowestQ.mono (by decide:2<=4)) (c_law_timesG.mono (by decide:3<=4));have c_nought_makers:=iL (FnAt X gG p12 (lA rfl λ_ _ _ _ _ _ _=>rfl)) B c_sifted;have c_tree_weights:=jz (FnAt X gG p35 (lA rfl λ_ _ _ _ _ _ _=>rfl)) B (zo.mono (by decide:3<=5)) (c_lots.mono (by decide:4<=5)) c_tree_weight;have c_law_balanced:=jB (FnAt X gG p60 (dX rfl λ_ _ _ _ _ _ _ _=>rfl)) B (c_law_zero_lack.mono (by decide:4<=5)) c_law_even_vessel (vt.mono (by decide:1<=5));have c_lack_rows:=qo (FnAt X gG p23 (lA rfl λ_ _ _ _ _ _ _=>rfl)) B (c_lots.mono (by decide:4<=6)) c_nought_makers (c_lot_marks.mono (by decide:1<=6)) (c_heaps.mono (by decide:2<=6));have c_even:=JV (FnAt X gG p41 (lA rfl λ_ _ _ _ _ _ _=>rfl)) B (c_first_astray.mono (by decide:5<=7)) (c_tree_weights.mono (by decide:6<=7)) c_lack_rows (c_apart.mono (by decide:3<=7)) (c_weight_powers.mono (by decide:1<=7));have Fx:=jF T (FnAt X gG p42 (lA rfl λ_ _ _ _ _ _ _=>rfl)) B c_even;have c_gain:=JU T (FnAt X gG p45 (Ga rfl λ_ _ _ _ _ _ _ _ _=>rfl)) B Fx (c_gain_between.mono (by decide:5<=9)) (c_walked.mono (by decide:3<=9));have c_shares:=AM T (FnAt X gG p46 (dX rfl λ_ _ _ _ _ _ _ _=>rfl)) B Fx;have c_law_caught:=nL T (FnAt X gG p66 (Ga rfl λ_ _ _ _ _ _ _ _ _=>rfl)) B c_shares c_gain;exact MY (P:=Pg) (w:=w) (base:=base) T (vI (st:=top 104) lL cL kL) B (c_law_vessel.mono (by decide:4<=11)) (c_law_count.mono (by decide:2<=11)) (c_law_due.mono (by decide:2<=11)) (c_law_balanced.mono (by decide:6<=11)) (vt.mono (by decide:1<=11)) (c_even.mono (by decide:8<=11)) (c_law_as_due.mono (by decide:2<=11)) c_law_caught
end K91
theorem PySem.Challenge.cw_vesselhall_k91_not_even_not_now_holds : PySem.Challenge.rw_vesselhall_k91_not_even_not_now.Holds := by
 exact K91.fin
#print axioms PySem.Challenge.cw_vesselhall_k91_not_even_not_now_holds

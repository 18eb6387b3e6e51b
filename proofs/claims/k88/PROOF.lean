import PyProof.Rows.All
import Wide.All
import Wide.FinOn
import Lean
import KE.KDictList
import KE.KEqDat
import KE.KIntText
import KE.KIsAll
import KE.KRevSl
import KE.KSortAsk
import KE.KDictSum
import PySem.Challenge.RW_vesselhall_k88_gains_hang_on_the_ends_al
set_option compiler.extract_closed false
set_option genSizeOf false
set_option Elab.async false
set_option linter.all false
set_option maxRecDepth 100000
set_option maxHeartbeats 0
local macro_rules | `(abbrev $i $s:optDeclSig $v:declVal)=>`(noncomputable def $i $s $v:declVal)
local macro_rules | `(nonrec abbrev $i $s:optDeclSig $v:declVal)=>`(noncomputable abbrev $i $s $v:declVal)
local macro_rules | `(def $i $b*:$t $v:declVal)=>`(theorem $i $b*:$t $v:declVal)
local macro_rules | `(⇑$x)=>`(some (.ref $x))
local macro_rules | `(↥$x)=>`(some (.int $x))
local macro_rules | `(tactic| get_elem_tactic_extensible)=>`(tactic| omega)
local macro_rules | `(tactic| walk_at "o") => `(tactic| first|exact Or.inl rfl|exact Or.inr rfl)
local macro_rules | `(tactic| walk_at "s") => `(tactic| exact ⟨rfl,rfl,rfl,by decide +kernel,rfl,by decide +kernel,by decide +kernel⟩)
open PySem.Challenge renaming pw_vesselhall_k88_gains_hang_on_the_ends_al->PW88
open List renaming length_map->Qx,getElem?_eq_getElem->Qy,getD_eq_getElem?_getD->Qz,getElem?_eq_some_iff->QC,getElem?_map->QD,mem_of_getElem?->QI,map_append->QJ,mem_cons_self->QK,mem_cons_of_mem->QL,take_of_length_le->QM,range->QR,length_append->QT,mem_map->QU,take_add_one->QX,mem_singleton->QY,exists_cons_of_length_eq_add_one->QZ,length_take->Q3,mem_cons->Q5,mem_append_right->Q6,mem_append->Q8,length_range->Ra,mem_range->Rb,mem_append_left->Rc,size_toArray->Rf,mem_filter->Ri,replicate->Rm,length_cons->Ru,getElem_mem->Ry,getElem?_of_mem->RA,getElem?_eq_none->RD,getElem?_range->RG,nodup_cons->RH,map_cons->RP,eq_nil_of_length_eq_zero->RS,filter_cons_of_neg->RU,getElem?_append_left->RV,length_singleton->RY,getElem?_append_right->R4,append_assoc->R_,take_length->Sa,filter_cons_of_pos->Sb,length_filter_le->Sc,map_map->Sg,mem_iff_getElem->Sh,mem_map_of_mem->So,length->Sr,map_congr_left->Su,length_drop->Sw,length_eq_zero_iff->SK,zip->SM,mem_of_mem_take->SN,length_eq_one_iff->SV,foldl_append->SY,range_succ->Tc,getElem?_cons_succ->Th,nodup_nil->To,drop_of_length_le->Ts,append_nil->Tx,find?_cons->Tz,filter_append->TH,lookup_cons->Ua,not_mem_nil->Ub,length_replicate->Uh,take_append_drop->Ui,findIdx?_eq_some_iff_getElem->Uj,getElem?_zip_eq_some->Uk,findIdx?_eq_none_iff->Ul,nil_append->Um,replicate_succ->UJ,getElem_inj->UL,exists_cons_of_length_pos->UQ,getElem?_toArray->U2,getElem?_zipWith->U3,nodup_append->U5,mem_of_mem_drop->U_,zipWith->Ve,filterMap_cons->Vl,length_pos_iff->Vn,length_set->Vv,length_nil->Vw,pairwise_cons->VB,map_inj_right->VC,map_singleton->VD,take->VF,take_sublist->VI,flatten_cons->VL,ext_getElem?->VO,eraseIdxIfInBounds_toArray->VU,singleton_append->VY,contains_iff_mem->VZ,all_eq_true->V_,nodup_range->Wc,range'->Wn,forall_mem_cons->Wo,take_append_of_le_length->Wv,foldl_cons->Wx,dropLast_concat_getLast->WI,map_nil->WL,find?_eq_none->W9,drop_eq_getElem_cons->Xb,getElem?_take_of_lt->Xs,any_cons->Xu,cons_append->XD,filter_cons->XN,getElem?_set_self->XX,length_pos_of_mem->X8,drop_eq_nil_of_le->X9,filter_eq_nil_iff->X_,of_mem_zip->Yd,getElem?_set_ne->Yo,length_eraseIdx->YB,drop->YI,length_zipWith->YM,flatMap_append->YQ,mem_filterMap->Y7,getElem?_take->Zb,getElem?_drop->Zc,reverse_cons->Zs,mem_range'_1->Zt,filter_congr->ZB,mem_flatMap->ZZ,length_zip->Zad,foldl->Zan,map_drop->Zaz,all_cons->ZaB,map->ZaD
open PySem renaming wpAny_bind->QE,Value->QF,Shared->QP,wpAny_pure->Q1,Program->Rx,World->RQ,Around->RT,importedModules->Sk,wpAny_newObj_type->SG,wpAny_mono->SL,wpAny_call_entry->SW,wpAny_truthy_bool->SX,SetTable->S_,wpAny_callSpecial?_slot->Tf,Builtin->TC,wpAny_Call_Name_kw->TF,wpAny_typeNameOfWhole_keyiter->TQ,wpAny_holding->T8,FuncData->Ud,treeTable->Uo,wpAny_passesOwn->Up,World->Ur,sizeLine_eq->Us,mem_of_lookup->UI,wpAny_getItem_str_slice->UO,wpAny_setField->UP,codeAny_builtin->UY,wpAny_askSetting->Vf,OsState->Vp,call_meets->Vx,tupleKind_room_in1->Vy,wpAny_setField_rec->VA,isSubtype_type->VP,wpAny_setState_of->VQ,wpAny_isInstance->V8,wpAny_attempt->Wh,wpAny_field->Wm,wpAny_execs_nil->Ww,wpAny_setEntries_of->WJ,codeAny_mono->WK,DictEntry->WS,wpAny_pyIter_tuple->WV,wpAny_fieldsOf->WY,wpAny_seqItems->W0,wpAny_pyIter_list->Xg,wpAny_pyIter_slot->Xh,wpAny_dictEntries->Xi,wpAny_of_eq->Xj,wpAny_standAt->Xr,wpAny_comprehension_free->Xw,plainId_quiet->XA,NameKind->XI,wpAny_rule->XY,wpAny_dictEpoch->Ye,wpAny_isTrue_Compare1->Yh,wpAny_isOneOf_keyiter->Yk,builtinLookup_eq_fast->Yl,isSubtype_stop->Yv,wpAny_newTuple->Yw,OsState->YG,Walks->YU,wpAny_handled->YV,strLen_append->YY,call->Y4,wpAny_pyIter_range->Y6,Shared->Zi,BindsTo->Zn,seqIndex_neg->Zo,Result->ZQ,putSet_of->ZX,IsRangeIter->Z2,seqIndex_of->Z4,wpAny_throw->Z6,Keyword->Zag,GenState->Zaj
open Option renaming map_eq_some_iff->QG,isSome_iff_exists->Vr,map_some->Wy,toList_some->W8,getD_some->XT,isSome_map->Zq,getD_none->ZR
open Nat renaming le_refl->QH,pow_le_pow_right->QW,le_trans->Q0,lt_of_le_of_lt->Q4,lt_of_lt_of_le->Re,mul_le_mul_left->Rh,mul_le_mul->Rt,gcd->Rv,mul_pos->RB,mul_le_mul_right->RC,ne_of_lt->RE,mul_assoc->RF,zero_le->RL,pos_of_ne_zero->RN,lt_trans->RW,pow_lt_pow_right->R5,pow_pos->Sd,mul_comm->Se,pos_of_mul_pos_left->Sx,le_mul_of_pos_left->SB,pow_succ->SJ,pow_add->SO,Coprime->SQ,not_lt_zero->SU,mul_left_comm->Tu,le_of_lt->TJ,le_of_dvd->TM,le_mul_of_pos_right->TU,lt_irrefl->T7,mul_one->T_,strongRecOn->Uq,succ_mul->Uu,one_pos->UC,pow_le_pow_left->UK,zero_add->UR,ne_of_gt->UT,one_mul->Vb,min_le_right->Vd,pow_zero->Vg,zero_mul->VT,coprime_one_right->V0,succ_le_succ->V4,min_eq_right->V6,lt_succ_self->V9,mul_lt_mul''->Wa,gcd_dvd_left->We,log2_self_le->Wf,min_eq_left->WC,le_self_pow->WH,succ_pos->WN,lt_or_ge->WQ,le_succ_of_le->Xm,lt_succ_of_lt->Xn,dvd_mul_right->Xp,lt_succ_iff_lt_or_eq->Xy,mul_div_cancel_left->XU,add_comm->X2,le_of_eq->X3,sub_self->X7,le_succ->Yt,log2_lt->Yu,pow_mul->YD,le_log2->YE,add_le_add_left->YK,dvd_trans->YZ,lt_of_le_of_ne->Y9,eq_zero_or_pos->Ze,lt_trichotomy->ZC,dvd_refl->ZF,gcd_dvd_right->ZG,mul_succ->ZI,lt_log2_self->Z1,two_pow_pos->Zac,mod_lt->Zas,sub_le->Zau
open PySem.Heap renaming get?_push_of_some->QN,lt_size->Q_,get?_push_size->Rg,get?_update_self->SE,size_push->TN,SameBut->TX,get?_update_other->X1,get?_push_cases->Yx,get?_update_ne->YN,ExtBut->Z5
open Int renaming natAbs_natCast->Q2,natCast_mul->Rs,toNat_natCast->RJ,natAbs_mul->RM,emod_lt_of_pos->Sj,mul_eq_zero->Sq,emod_nonneg->Sv,toNat->Sy,mul_assoc->SA,mul_comm->TK,zero_mul->TL,mul_zero->TZ,zero_add->T0,mul_add->Ux,add_zero->Uy,neg_mul->U9,one_mul->Va,eq_of_mul_eq_mul_left->Vk,mul_fdiv_cancel_left->Vt,add_mul->Wr,mul_fdiv_cancel'->Wu,gcd_eq_natAbs_gcd_natAbs->WF,mul_ne_zero->WG,fdiv_eq_ediv_of_nonneg->WW,fmod_eq_emod_of_nonneg->WX,natCast_nonneg->W5,gcd_dvd_right->Xk,neg_dvd->Xl,natAbs_add_le->Xo,mul_pos->Xq,pos_of_mul_pos_right->Xz,gcd_dvd_left->XO,gcd_mul_left->XQ,fmod_nonneg_of_pos->X6,natAbs->Yb,fdiv->Yy,mul_sub->Yz,sub_mul->YF,toNat_of_nonneg->YO,fmod_lt_of_pos->Za,gcd->Zu,fmod->Zv,fmod_def->Zw,emod_eq_of_lt->ZD,mul_left_comm->ZH,mul_one->Z3,mul_neg->Z7,le_refl->Z8,mul_nonneg->Zat
open Option.some renaming inj->Q7
open Rat renaming divInt->Q9,mul_assoc->Rr,num_divInt_den->RO,divInt_eq_divInt_iff->Si,divInt_mul_divInt->Ss,mul_one->SR,one_mul->Tj,mul_pos->TB,le_of_lt->T6,num_nonneg->Ug,add_zero->UA,divInt_eq_div->UB,inv_pos->UD,pow_succ->UX,intCast_mul->UZ,mul_comm->Vh,pow_zero->Vi,zero_add->WP,zero_mul->WR,div_mul_cancel->W_,inv_divInt->Xa,lt_irrefl->XB,intCast_inj->Yg,le_refl->YC,sub_eq_add_neg->Zf,mul_inv_cancel->Zg,mul_zero->ZE,num_eq_zero->Zae
open Bool renaming false_ne_true->Rj,eq_iff_iff->TV,false_eq_true->UV,and_eq_true_iff->U7,and_eq_true->XS,eq_false_iff->Zr,false_and->Zak,or_false->Zaw,false_or->Zax
open PySem.W.Dat renaming int->Rn,str->X5,bool->ZV
open Array renaming length_toList->Ro,getElem?_toList->Rq,getElem?_eq_none->TY,toArray_toList->Wl,getElem?_eq_some_iff->W3,append_empty->Y0,ext_getElem?->Y_,getElem_mem->Zy,mk->Zah
open PySem.Value renaming ref->RK,none->Td,isInt->Tv,int->U0,type->V2,bool->XW,str->YH,isStrOf->YT,scannable->Zab
open Nat.succ renaming inj->RX
open PyProof.Rows renaming callWith_type1->RZ,IntsAre->U4,callWith_builtin1->V3,assignInOrder_cons->WU,AllBare->Xe,intBits_le->XM,subscriptTail_builtinR->X0,floordiv_int->Zk
open PySem.Builtin.Str renaming strSliceIndices->R3
open PySem.Heap.SameBut renaming update->Sn
open PySem.W renaming kitOne->SC,kia_one->SD,boot_heap->SZ,view->Ta,fnOf->Tl,kitCls->Tq,kqd_lay->TW,keepIn->UM,codeIn->U8,recOk->Vo,xlAt->VH,kqd_layL->V5,kHook->Wg,nsIn->WM,methodObj->Xd,mg_of->Xv,openSeen->XE,cellsFrom_some->XZ,instObj->Yc,lookIn->Yr,recFacts_of->YJ,LeftO->YR,WalkO->YS,boot_drawn->Y1,holds_open->Y2,kitx_tuple->Y8,Frag->Zh,kitx_list->Zl,kitx_dict->Zm,boot_toks->ZJ,openGood->ZK,plainGet->ZP,kdl_call->ZU,OpenLaw->Z_,kqd_any->Zaa,SharedT->Zaf,XL->Zai,findIn->Zal,KdlSrc->Zao,xl_of->Zav
open PySem.F renaming slot_dict_keyiterator_next->Tb,plainAttrs_list->Tk,called_set->UW,slot_dict_get->VX,args_dict_keyiterator_next_1->V7,entry_dict_keyiterator_next->Wk,slot_tuple_iterator_next->WZ,args_dict_get_2->XJ,entry_dict_get->X4,slot_list_pop->Ym,type_list_pop->Yn,entry_list_pop->ZS,slot_dict_iter->ZT
open PySem.Obj renaming data_mapFields->Te,mapFields->T9,mapSeq->UU,isFreed_of_fields->U1,cls_mapFields->VN,putSet->W7
open PySem.SetTable renaming grown->Tt,below->Uf,insertAt->Uz,fill->Wi,turns->YA,bits->YW,fits->YX,layClean->Zz,tooFull->ZY,probe->Zap
open PySem.Calls renaming spliced_cons->Uc,spliced_nil->Ut,callWith_builtin->VJ,Name_function_global->WT,evalArgs_plain->Ys
open PySem.MeetsSeq renaming plain_remove_loop->Ue,entry_remove_loop->W6
open PySem.Around renaming under_plainId->Uv
open PySem.SeqAt renaming readOf->Uw,EqAt->Y5,readsAll_map->Zd,items_eqAt->ZW
open True renaming intro->UE
open PySem.Builtin.List renaming listTooLong->UF,listLengthHint->WO
open List.cons renaming inj->UG
open PySem.AutoSeq1 renaming wpAny_loadPart'->UH
open False renaming elim->US
open Prod.mk renaming inj->U6,injEq->ZaA
open Sum renaming inl->Vc,inr->XV
open PySem.Builtin.SmallTypes renaming nextOf->Vj,ownedTupleHandOut->Vm,iterAll->W4
open PySem.Paired renaming length->Vq
open Int.ofNat renaming inj->Vu
open PySem.PyData renaming eqv->Vz,depthAll->WA,canLayAll0->Zx
open Sum.inl renaming inj->VE
open PyProof.Rows.F renaming plain_set_update_loop->VG,entry_set_update_loop->XR
open PySem.Str renaming ofString->VM,empty->XH,length->Zam
open List.Perm renaming refl->VR,swap->Zar
open Prod renaming snd->VS,ext->Wj,fst->Ws
open Nat.Coprime renaming dvd_of_dvd_mul_left->VW,mul_right->V1
open PySem.PassesOwn renaming never->Wz
open ForInStep renaming yield->WB
open PySem.Builtin.Frozenset renaming updateFrom->WD
open PySem.Builtin renaming divisionGoesByPylong->WE
open Classical renaming byContradiction->Xc
open Ne renaming symm->Xf
open PySem.NameKind renaming cell->Xx,free->Zay
open List.Nodup renaming idxOf_getElem->XC
open PySem.Data renaming cell->XF,fields->Yp,seq->ZaE
open PySem.Builtin.Range renaming rangeSize->XG
open PySem.Builtin.Int renaming intTooBig->Yi,intBits->YL
open PySem.Builtin.Dict renaming showsAll->Yj
open PySem.IsRange renaming new->Yq
open PySem.W.Hook renaming keeps->Y3,says->Zj,obs->ZM,val->ZN,of->Z9
open List.Pairwise renaming nil->Zp
open String renaming splitOnAux->ZA,splitOn->Zaq
open PySem.W.XL renaming keeps->ZO
open PySem.Txt renaming slice->ZaC
nonrec abbrev Fg := Zh
local macro_rules | `(tactic| walk_at "t")=>`(tactic| simp only[ZaD,Sr,Rm,XD,Um,UR,Nat.reduceAdd,Nat.reduceSub])
def ex2{α:Type}{us:List α}(h:us.length=2):∃a b,us=[a,b]:=by
 match us,h with
 |[a,b],_=>exact⟨a,b,rfl⟩
namespace HdT
open PySem PySem.W
abbrev E3:BT->Nat->List Obj->BT
 |T,_,[]=>T
 |T,n,o :: os=>E3 (T.ins n o) (n+1) os
abbrev kY:BT->Nat->List Obj->Bool
 |_,_,[]=>true
 |T,n,o :: os=>match ((T.ins n o).get n).isSome with
  |true=>kY (T.ins n o) (n+1) os
  |false=>false
def uU:∀(os:List Obj) (T:BT) (n:Nat) (life:Life),kY T n os=true->absHeap (E3 T n os) (n+os.length) life=⟨(absHeap T n life).objs++os.toArray,life⟩
 |[],T,n,life,_=>by
  show absHeap T n life=_;rw[show([]:List Obj).toArray = #[] from rfl,Y0];rfl
 |o :: os,T,n,life,h=>by
  unfold kY at h;split at h
  .rename_i e;have ih:=uU os (T.ins n o) (n+1) life h;rw[absHeap_ins e] at ih;show absHeap (E3 (T.ins n o) (n+1) os) (n+(os.length+1)) life=_;rw[show n+(os.length+1)=n+1+os.length by lia,ih];show Heap.mk ((absHeap T n life).objs.push o++os.toArray) life=Heap.mk ((absHeap T n life).objs++(o :: os).toArray) life;congr 1;simp
  .cases h
abbrev Dz(tb:String->Option TC)(p:Rx)(w:RQ)(n₀:Nat)(ann:Option QF):Nat->Zaf->Thread->Option Zaf
 |0,_,_=>none
 |n+1,s,t=>match through t with
  |true=>some s
  |false=>match PySem.W.Fast.tw6613529449190102663 n₀ ann t with
   |false=>none
   |true=>match PySem.W.Fast.tw10156331382660048174 (PySem.W.Fast.tw11892475500146522536 tb) p w s t with
    |some (s',t')=>Dz tb p w n₀ ann n s' t'
    |none=>none
def y8{tb:String->Option TC}{p:Rx}{w:RQ}{n₀:Nat}{ann:Option QF}:∀{n:Nat} {s r:Zaf} {t:Thread},Dz tb p w n₀ ann n s t=some r->topRun tb p w n₀ ann n s.abs t=some r.abs
 |0,_,_,_,h=>by cases h
 |n+1,s,r,t,h=>by
  unfold Dz at h;rw [← PySem.W.Fast.te6613529449190102663,← PySem.W.Fast.te10156331382660048174,← PySem.W.Fast.te11892475500146522536] at h;unfold topRun;cases he:through t with
  |true=>rw[he] at h;cases h;rfl
  |false =>
   rw[he] at h;cases hk:stepOk n₀ ann t with
   |false=>rw[hk] at h;cases h
   |true =>
    rw[hk] at h;cases hs:stepT (denote tb) p w s t with
    |none=>rw[hs] at h;cases h
    |some x=>obtain⟨s₂,t₂⟩:=x;rw[hs] at h;rw[stepT_spec hs];exact y8 h
abbrev yu (P:Params) (os:YG):Zaf:=⟨E3 .nil 0 (SZ P).objs.toList,(SZ P).objs.toList.length,(SZ P).life,Zah [],Y1,ZJ,os⟩
def vR{os:YG}(h:kY .nil 0 (SZ P).objs.toList=true):(yu P os).abs=⟨SZ P,Zah [],Y1,ZJ,os⟩:=by
 have e:=uU (SZ P).objs.toList .nil 0 (SZ P).life h;rw[UR] at e;unfold Zaf.abs yu;simp only;rw[e];congr 1
abbrev ends (tb:String->Option TC) (mods:List Str) (p:Rx) (w:RQ) (N:Nat) (os:YG):Option QP :=
 match (SZ w.params).isNs mainGlobals with
 |true=>(Dz tb p w (SZ w.params).objs.size ((SZ w.params).nsMap mainGlobals "__annotations__") N (yu w.params os) (topStub p)).bind λr =>
   match staticsOk mods (SZ w.params) r.abs.heap && namesBound p r.abs.heap && gensDone r.abs && laidKept (SZ w.params) r.abs.heap with
   |true=>some r.abs
   |false=>none
 |false=>none
def JY{p:Rx}{w:RQ}{os:YG}{r:QP}(g:kY .nil 0 (SZ w.params).objs.toList=true)(h:ends treeTable (importedModules p.main.body) p w N os=some r):topFrom treeTable p w N ⟨SZ w.params,Zah [],Y1,ZJ,os⟩=some r:=by
 unfold ends at h;unfold topFrom;cases hi:(SZ w.params).isNs mainGlobals with
 |false=>rw[hi] at h;cases h
 |true =>
  rw[hi] at h;simp only at h ⊢;obtain⟨x,hx,hr⟩:=Option.bind_eq_some_iff.mp h
  have:=y8 hx
  rw[vR g] at this;show(topRun treeTable p w (SZ w.params).objs.size ((SZ w.params).nsMap mainGlobals "__annotations__") N ⟨SZ w.params,Zah [],Y1,ZJ,os⟩ (topStub p)).bind _=_;rw[this];exact hr
def left{α:Type}{Yf:QP->α}{Ya:RQ->α}
  (e:opening p=plainProg p.main.scope.names) (hN:Nat.ble 600 N=true) (f:∀s,fenceModules? p s=some s) (g:∀w:RQ,kY .nil 0 (SZ w.params).objs.toList=true)
  (h:∀w os,(ends treeTable (importedModules p.main.body) p w N os).map (λs=>(openSeen q loose (importedModules p.main.body) Xt true s,Yf s))=some (openGood q loose,Ya w)):LeftO p q loose Xt Yf Ya N:=λw=>by
 obtain⟨s,hs,hv⟩:=QG.mp (boot_open e hN f w);unfold openEnds;rw[hs];obtain⟨heap,gens,drawn,toks,os⟩:=s;obtain⟨h1,h2⟩:=U6 hv;obtain⟨h2,h3⟩:=U6 h2;obtain⟨h3,h4⟩:=U6 h3;subst h1 h2 h3 h4;obtain⟨r,hr,hv⟩:=QG.mp (h w os);show(topFrom treeTable p w N _).map _=_;rw[JY (g w) hr];exact congrArg some hv
def cut4{α β γ δ ε ζ η θ ι:Type}{o:Option QP}{F:QP->α×β×γ×δ×ε×ζ×η×θ×ι}{a:α}{b:β}{c:γ}{d:δ}{e:ε}{f:ζ}{g:η}{h:θ}{i:ι}(h1:o.map (λs=>((F s).1,(F s).2.1))=some (a,b))(h2:o.map (λs=>(F s).2.2.1)=some c)(h3:o.map (λs=>((F s).2.2.2.1,(F s).2.2.2.2.1))=some (d,e))
  (h4:o.map (λs=>((F s).2.2.2.2.2.1,(F s).2.2.2.2.2.2.1,(F s).2.2.2.2.2.2.2.1,(F s).2.2.2.2.2.2.2.2))=some (f,g,h,i)):o.map F=some (a,b,c,d,e,f,g,h,i):=by
 cases o with
 |none=>cases h1
 |some s =>
  have k1:=U6 (Q7 h1);have k3:=U6 (Q7 h3);have k4:=U6 (Q7 h4);have k5:=U6 k4.2;have k6:=U6 k5.2;exact congrArg some (Wj k1.1 (Wj k1.2 (Wj (Q7 h2) (Wj k3.1 (Wj k3.2 (Wj k4.1 (Wj k5.1 (Wj k6.1 k6.2))))))))
end HdT
namespace K88H
open PySem
nonrec abbrev ν:List Nat:=[1,2,3,4,5,6,8,9,10,11,12,14,15,16,17,18,19,20,21,23,24,25,26,28,29,30,31,32,33,35,36,38,39,40,41,42,43,45,46,47,48,49,50,51,53,54,55,56,58,59,60,61,62,63,65,66,67,68,69,70,71,72,73,74,75,76,77,78,79,80,81,82,83,84,85,86,87,88,89,90,91]
abbrev qv:PySem.Program:=Ta PW88 ν
abbrev _root_.PySem.W.Fast.tw1590688646128263617:PySem.Program:=PW88
def _root_.PySem.W.Fast.te1590688646128263617:PW88=PySem.W.Fast.tw1590688646128263617:=rfl
def said(h:PySem.Challenge.rw_vesselhall_k88_gains_hang_on_the_ends_al.row.Holds):PySem.Challenge.rw_vesselhall_k88_gains_hang_on_the_ends_al.Holds:=by
 w_on;o_law;exact h
def booted{α:Type}{Yf:Zi->α}{Ya:Ur->α}(h:∀w os,(HdT.ends Uo (Sk PW88.main.body) PW88 w 7390 os).map (λs=>(XE q loose (Sk PW88.main.body) Xt true s,Yf s))=some (ZK q loose,Ya w)):YR PW88 q loose Xt Yf Ya 7390 :=
 HdT.left (by kernel_rfl) (by decide) (λs=>by kernel_rfl) (λw=>by kernel_rfl) h
local macro_rules | `(tactic| o_head $H)=>`(tactic| refine Y2 (q:=K88H.qv) (loose:=[]) (Xt:=λs=>VH K88H.qv [] s && Vo [] s) (XP:=Zai K88H.qv []) (Yf:=ZM $H) (Ya:=ZN $H) (YP:=Zj $H) (N:=7390) ?_ (Z9 $H) (Y3 $H) (λs e=>Zav s (U7.mp e).1) ZO (by rfl) (by rfl) (by rfl) (λs e=>YJ (U7.mp e).2) (by rfl) (by first|assumption|decide +kernel) (by decide +kernel) ⟨rfl,rfl,rfl,rfl,rfl,by decide +kernel⟩ ?_ ?_)
open PySem.W PyProof.Rows in
def pre(hL:∀(α:Type) (Yf:Zi->α) (Ya:Ur->α),YR PW88 qv [] (λs=>VH qv [] s && Vo [] s) Yf Ya 7390)(hP:PySem.Challenge.rw_vesselhall_k88_gains_hang_on_the_ends_al.row.toRowW.promised)(hC:∀(YP:Ur->PySem.Heap->Prop) (d:DefRec),YS qv [] (Zai qv []) YP PySem.Challenge.rw_vesselhall_k88_gains_hang_on_the_ends_al.row.toRowW d [] (λf vs=>Y4 f vs)):PySem.Challenge.rw_vesselhall_k88_gains_hang_on_the_ends_al.row.Holds:=by
 w_on;k_head
 .exact hL _ _ _
 .exact hP
 .exact hC _ _
abbrev asl:List Nat:=[2,3,15,22,23,24,25,28,35,36,37,40,47,48,49,52,59,60,61,64,71,73,74,76,77,78,79,80,83,90,91,92,95,97,98,100,101,102,104,105,107,108,109,111,112,114,115,116,118,119,121,122,123,125,126,128,129,130,132,133,135,136,137,140,141,142,145,146,147,149,150,152,153,154,157,158,159,162,163,164,166,167,169,170,171,173,174,176,177,178,179,181,182,184,185,186,188,189,191,192,193,195,196,198,199,200,203,204,205,208,209,210,213,214,215,217,218,220,221,222,224,225,227,228,229,231,232,234,235,236,239,240,241,244,245,246,248,249,251,252,253,255,256,258,259,260,262,263,265,266,267,269,270,272,273,274,276,277,279,280,281,283,284,286,287,288,289,292,293,294,297,298,299,301,302,304,305,306,308,309,311,312,313,316,317,318,321,322,323,325,326,328,329,330,333,334,335,338,339,340,342,343,345,346,347,349,350,352,353,354,356,357,359,360,361,363,364,366,367,368,370,371,373,374,375,377,378,380,381,382,384,385,387,388,389,391,392,394,395,396,398,399,401,402,403,405,406,408,409,410,412,413,415,416,417,419,420,422,423,424,426,427,429,430,431,434,435,436,438,439,441,442,443,445,446,448,449,450,452,453,455,456,457,459,460,462,463,464,467,468,476,478,479,481,482,483,486,487,488,491,492,493,495,496,498,499,500,502,503,505,506,507,510,511,512,515,516,517,519,520,522,523,524,526,527,529,530,531,534,535,536,538,539,541,542,543,546,547,548,551,552,553,555,556,558,559]
def asl_ok(P:PySem.Params):asl=(pre.heap_1 P).map (·.1):=by kernel_rfl
nonrec abbrev uq(w:Ur)(s:Zi):=XE (Ta PW88 ν) [] (Sk PW88.main.body) (λs=>VH (Ta PW88 ν) [] s && Vo [] s) true s
open PySem.W PyProof.Rows in
def see1(w:Ur)(os:Vp):(HdT.ends Uo (Sk PW88.main.body) PW88 w 7390 os).map (λs=>((uq w s).1,(uq w s).2.1))=some (expectedOf (Ta PW88 ν),bltViewBooted):=by
 unfold uq;rw[PySem.W.Fast.te4187177175401517315,PySem.W.Fast.te5923862056798008813,PySem.W.Fast.te14364793385576792824,PySem.W.Fast.te1590688646128263617];kernel_rfl
open PySem.W PyProof.Rows in
def see2(w:Ur)(os:Vp):(HdT.ends Uo (Sk PW88.main.body) PW88 w 7390 os).map (λs=>(uq w s).2.2.1)=some true:=by
 unfold uq;rw[PySem.W.Fast.te4187177175401517315,PySem.W.Fast.te5923862056798008813,PySem.W.Fast.te14364793385576792824,PySem.W.Fast.te1590688646128263617];kernel_rfl
open PySem.W PyProof.Rows in
def see3(w:Ur)(os:Vp):(HdT.ends Uo (Sk PW88.main.body) PW88 w 7390 os).map (λs=>((uq w s).2.2.2.1,(uq w s).2.2.2.2.1))=some (true,pinGoodD (drecsOf (Ta PW88 ν))):=by
 unfold uq;rw[PySem.W.Fast.te4187177175401517315,PySem.W.Fast.te5923862056798008813,PySem.W.Fast.te14364793385576792824,PySem.W.Fast.te1590688646128263617];kernel_rfl
open PySem.W PyProof.Rows in
def see4(w:Ur)(os:Vp):(HdT.ends Uo (Sk PW88.main.body) PW88 w 7390 os).map (λs=>((uq w s).2.2.2.2.2.1,(uq w s).2.2.2.2.2.2.1,(uq w s).2.2.2.2.2.2.2.1,(uq w s).2.2.2.2.2.2.2.2))=some (plainGoodE (Ta PW88 ν) (looseW (Ta PW88 ν) []),plainGoodD (Ta PW88 ν) [],wideGood (Ta PW88 ν),clsGoodW (Ta PW88 ν) []):=by
 unfold uq;rw[PySem.W.Fast.te4187177175401517315,PySem.W.Fast.te5923862056798008813,PySem.W.Fast.te14364793385576792824,PySem.W.Fast.te1590688646128263617];kernel_rfl
def seen(w:Ur)(os:Vp):(HdT.ends Uo (Sk PW88.main.body) PW88 w 7390 os).map (λs=>XE (Ta PW88 ν) [] (Sk PW88.main.body) (λs=>VH (Ta PW88 ν) [] s && Vo [] s) true s)=some (ZK (Ta PW88 ν) []):=HdT.cut4 (F:=λs=>uq w s) (see1 w os) (see2 w os) (see3 w os) (see4 w os)
def hook(w:Ur)(os:Vp):(HdT.ends Uo (Sk PW88.main.body) PW88 w 7390 os).map (λs=>asl.map s.heap.get?)=some ((pre.heap_1 w.params).map λp=>some p.2):=by
 unfold asl;rw[PySem.W.Fast.te5923862056798008813,PySem.W.Fast.te14364793385576792824,PySem.W.Fast.te1590688646128263617];kernel_rfl
def hooks:YR PW88 qv [] (λs=>VH qv [] s && Vo [] s) (λs=>asl.map s.heap.get?) (λw=>(pre.heap_1 w.params).map λp=>some p.2) 7390 :=
 booted (λw=>λos=>by
  obtain⟨s,e,a⟩:=QG.mp (seen w os)
  have b:=hook w os
  rw[e] at b ⊢
  exact congrArg some (Wj a (Q7 b)))
end K88H
namespace L2
open PySem PySem.Spec PyProof.Rows
nonrec abbrev bf:=Sum Int Str
abbrev nJ:bf->QF->Bool
 |.inl k,v=>Tv k v
 |.inr x,v=>YT x v
abbrev OT(w:RQ):bf->Int
 |.inl k=>hashInt k
 |.inr x=>hashStr w x
def bI:∀{k:bf} {v:QF},nJ k v=true->(∃i t,k=Vc i/\v=U0 i t)\/(∃x t,k=XV x/\v=YH x t)
 |.inl i,v,h=>by
  obtain⟨t,e⟩:=QF.isInt_shape (k:=i) (v:=v) h;exact .inl ⟨i,t,rfl,e⟩
 |.inr x,v,h=>by
  obtain⟨t,e⟩:=QF.isStrOf_shape (x:=x) (v:=v) h;exact .inr ⟨x,t,rfl,e⟩
def AG(i:Int)(t:Tok):nJ (.inl i) (.int i t)=true:=by simp[nJ,Tv]
def AF(x:Str)(t:Tok):nJ (.inr x) (.str x t)=true:=by simp[nJ,YT]
def My(a b:Int):decide ((Vc a:bf)=Vc b)=(a == b):=by
 by_cases e:a=b
 .subst e;simp
 .have h : ¬ (Vc a:bf)=Vc b:=λq=>e (VE q)
  rw[decide_eq_false h];exact(beq_eq_false_iff_ne.mpr e).symm
def Mv(a b:Str):decide ((XV a:bf)=XV b)=decide (a=b):=by
 by_cases e:a=b
 .subst e;simp
 .have h : ¬ (XV a:bf)=XV b:=λq=>e (XV.inj q)
  rw[decide_eq_false h,decide_eq_false e]
def Mx(a:Int)(b:Str):decide ((Vc a:bf)=XV b)=false:=decide_eq_false (λq=>nomatch q)
def Mw(a:Str)(b:Int):decide ((XV a:bf)=Vc b)=false:=decide_eq_false (λq=>nomatch q)
abbrev bH(prog:Rx)(w:RQ):PySem.KeyKind prog w bf where
 is:=nJ
 hash:=OT w
 inj:=λv a b ha hb=>by
  rcases bI ha with⟨i,t,rfl,rfl⟩|⟨x,t,rfl,rfl⟩
  .rcases bI hb with⟨j,u,rfl,e⟩|⟨y,u,rfl,e⟩
   .injection e with e1 _;rw[e1]
   .exact nomatch e
  .rcases bI hb with⟨j,u,rfl,e⟩|⟨y,u,rfl,e⟩
   .exact nomatch e
   .injection e with e1 _;rw[e1]
 byValue:=λk v h=>by
  rcases bI h with⟨i,t,rfl,rfl⟩|⟨x,t,rfl,rfl⟩ <;> rfl
 pyHash:=λhv h=>by
  rcases bI hv with⟨i,t,rfl,rfl⟩|⟨x,t,rfl,rfl⟩
  .exact wpAny_pyHash_int h
  .exact wpAny_pyHash_str h
 eqBool:=λhu hv h=>by
  rcases bI hu with⟨i,t,rfl,rfl⟩|⟨x,t,rfl,rfl⟩
  .rcases bI hv with⟨j,u,rfl,rfl⟩|⟨y,u,rfl,rfl⟩
   .rw[My] at h;exact wpAny_eqBool_int h
   .rw[Mx] at h;exact Y5.int_str i t y u _ _ _ _ h
  .rcases bI hv with⟨j,u,rfl,rfl⟩|⟨y,u,rfl,rfl⟩
   .rw[Mw] at h;exact Y5.str_int x t j u _ _ _ _ h
   .rw[Mv] at h;exact wpAny_eqBool_str h
 «strs»:=λk x t v h=>by
  rcases bI h with⟨i,u,rfl,e⟩|⟨y,u,rfl,e⟩
  .exact nomatch e
  .injection e with e1 _
   subst e1;cases v <;> rfl
def sP(prog:Rx)(w:RQ)(i:Int)(t:Tok):(bH prog w).is (.inl i) (.int i t)=true:=AG i t
def sO(prog:Rx)(w:RQ)(x:Str)(t:Tok):(bH prog w).is (.inr x) (.str x t)=true:=AF x t
inductive V where
 |non|bl (b:Bool)|int (i:Int)|str (x:Str)|byt (b:Array UInt8)|flt (b:UInt64)|ref (a:Addr)|ty (n:String)
 deriving DecidableEq
abbrev RelV:V->QF->Prop
 |.non,u=>u=Td
 |.bl b,u=>u=XW b
 |.int i,u=>∃t,u=U0 i t
 |.str x,u=>∃t,u=YH x t
 |.byt b,u=>∃t,u=QF.bytes b t
 |.flt b,u=>∃t,u=QF.float b t
 |.ref a,u=>u=RK a
 |.ty n,u=>u=V2 n
nonrec abbrev Vals:List V->List QF->Prop:=Paired RelV
def Vals.length(r:Vals xs us):xs.length=us.length:=Vq r
def Vals.get:∀{xs:List V} {us:List QF} {i:Nat} {x:V},Vals xs us->xs[i]?=some x->∃u,us[i]?=some u/\RelV x u
 |_,_,_,_,.nil,e=>by simp at e
 |_,_,0,_,.cons r _,e=>by simp at e;subst e;exact⟨_,rfl,r⟩
 |_,_,i+1,x,.cons _ t,e=>by
  obtain⟨u,h1,h2⟩:=Vals.get (i:=i) (x:=x) t (by simpa using e);exact⟨u,by simpa using h1,h2⟩
def Vals.set{x:V}{u:QF}(r:RelV x u):∀{xs:List V} {us:List QF} (i:Nat),Vals xs us->Vals (xs.set i x) (us.set i u)
 |_,_,_,.nil=>.nil
 |_,_,0,.cons _ t=>.cons r t
 |_,_,i+1,.cons q t=>.cons q (Vals.set r i t)
def Vals.append:∀{xs ys:List V} {us ws:List QF},Vals xs us->Vals ys ws->Vals (xs++ys) (us++ws)
 |_,_,_,_,.nil,s=>s
 |_,_,_,_,.cons r t,s=>.cons r (Vals.append t s)
def Vals.take:∀{xs:List V} {us:List QF} (n:Nat),Vals xs us->Vals (xs.take n) (us.take n)
 |_,_,0,_=>.nil
 |_,_,_+1,.nil=>.nil
 |_,_,n+1,.cons r t=>.cons r (Vals.take n t)
def Vals.drop:∀{xs:List V} {us:List QF} (n:Nat),Vals xs us->Vals (xs.drop n) (us.drop n)
 |_,_,0,r=>r
 |_,_,_+1,.nil=>.nil
 |_,_,n+1,.cons _ t=>Vals.drop n t
abbrev RelO:Option V->Option QF->Prop
 |some v,some u=>RelV v u
 |none,none=>True
 |_,_=>False
abbrev KV{κ:Type}:List (κ×V)->List (κ×QF)->Prop:=Paired λ(p:κ×V) (q:κ×QF)=>p.1=q.1/\RelV p.2 q.2
abbrev kV:bf->V
 |.inl i=>.int i
 |.inr x=>.str x
inductive HO where
 |lst (xs:List V)
 |tup (xs:List V)
 |dK (de:List (bf×V))|dT (de:List (List bf×V))
 |set (S:Int->Bool) (n:Nat)
 |ins (C dx:Addr) (fs:List (Str×V))
 |own (x:Addr)
 |xd (fs:List (Str×V))
 |met (f x:Addr)
 |rng (lo hi:Int)
 |frz (o:Obj) (u:HO)
 |tbl (ps:Array QF)
 |ext (φ:Heap->Prop)
nonrec abbrev Hp:=Addr->Option HO
abbrev upd(H:Hp)(a:Addr)(o:HO):Hp:=λb=>if b=a then some o else H b
def aj:upd H a o a=some o:=by unfold upd;rw[if_pos rfl]
def aJ{a b:Addr}(h:b≠a):upd H a o b=H b:=by unfold upd;rw[if_neg h]
def GW:upd (upd H a o) a u=upd H a u:=by
 funext b;unfold upd;split <;> rfl
def kE{H:Hp}{o u:HO}(h:H a=some o)(h':H b=some u)(d:o≠u):a≠b:=by
 intro e;subst e;rw[h] at h';exact d (Q7 h')
def ay{H:Hp}{o:HO}(h:H a=some o)(h':H b=none):a≠b:=by
 intro e;subst e;rw[h] at h';cases h'
abbrev TupD (h:Heap) (a:Addr) (items:Array QF):Prop:=∃o,h.get? a=some o/\(o.cls=.type "tuple"/\∃n,o.data=.seq items n)/\o.dict=none
def TupD.tup{h:Heap}{a:Addr}{items:Array QF}(t:TupD h a items):IsTup h a items:=let ⟨o,e,c,_⟩:=t;⟨o,e,c⟩
def TupD.lt(t:TupD h a items):a<h.objs.size:=t.tup.lt
def TupD.new(h:Heap) (items:Array QF):TupD (h.push {cls:=.type "tuple",data:=.seq items}) h.objs.size items:=⟨_,Rg _ rfl,⟨rfl,_,rfl⟩,rfl⟩
section
variable(P:Rx)(w:RQ)
abbrev cc(H:Hp)(h:Heap)(a:Addr):HO->Prop
 |.lst xs=>xs.length<=sizeLine/\∃(gV:List QF) (n:Nat),Vals xs gV/\h.get? a=some {cls:=.type "list",data:=.seq gV.toArray n}
 |.tup xs=>xs.length<=sizeLine/\∃gV:List QF,Vals xs gV/\TupD h a gV.toArray
 |.dK de=>de.length<=sizeLine/\(a == sysModules)=false/\∃vs,KV de vs/\h.DictOf (bH P w) a vs
 |.dT de=>de.length<=sizeLine/\(a == sysModules)=false/\∃xs:List (List bf×Addr×QF),
   Paired (λ(p:List bf×V) (q:List bf×Addr×QF)=>p.1=q.1/\H q.2.1=some (.tup (p.1.map kV))/\RelV p.2 q.2.2) de xs /\
   ∃o es ep,h.get? a=some o/\o.ExactDict/\o.data=.dict es ep/\es.toList=xs.map (entryOfKey (tupleKind (bH P w)))/\(xs.map (·.1)).Nodup
 |.set S n=>h.SetOf (intKind P w) a S n
 |.ins C dx fs=>H dx=some (.own a)/\fs.length<=1000/\dx≠a/\h.get? a=some (Yc C dx) /\
   ∃mA,h.Ns1 dx mA/\(∀f,RelO (fs.lookup f) (mA f))/\PySem.Within mA (fs.map (·.1))
 |.own _=>∃o,h.get? a=some o
 |.xd fs=>∃mA,h.Ns1 a mA/\∀f,RelO (fs.lookup f) (mA f)
 |.rng lo hi=>∃t u v,h.get? a=some {cls:=.type "range",data:=.fields #[.int lo t,.int hi u,.int 1 v]}
 |.frz o u=>h.get? a=some o/\cc H h a u
 |.tbl ps=>h.get? a=some {cls:=.none,data:=.fields ps}
 |.met f x=>h.get? a=some (Xd (.ref f) (.ref x))
 |.ext φ=>φ h/\(∃o,h.get? a=some o)/\∀h1 h2:Heap,φ h1->(∀o,h1.get? a=some o->h2.get? a=some o)->φ h2
abbrev HOk(H:Hp)(h:Heap):Prop:=∀a o,H a=some o->cc P w H h a o
end
section
variable{P:Rx}{w:RQ}{H H':Hp}{h h':Heap}{a:Addr}{o:HO}
def cc.lt(x:cc P w H h a o):a<h.objs.size:=by
 cases o with
 |lst xs=>obtain⟨_,_,_,_,e⟩:=x;exact Q_ e
 |tup xs=>obtain⟨_,_,_,p⟩:=x;exact p.lt
 |dK de=>obtain⟨_,_,_,_,o,_,_,e,_⟩:=x;exact Q_ e
 |dT de=>obtain⟨_,_,_,_,o,_,_,e,_⟩:=x;exact Q_ e
 |set S n=>obtain⟨o,_,_,_,e,_⟩:=x;exact Q_ e
 |ins C dx fs=>obtain⟨_,_,_,e,_⟩:=x;exact Q_ e
 |own y=>obtain⟨_,e⟩:=x;exact Q_ e
 |xd fs=>obtain⟨_,⟨_,_,_,e,_⟩,_⟩:=x;exact Q_ e
 |rng lo hi=>obtain⟨_,_,_,e⟩:=x;exact Q_ e
 |frz ob u=>obtain⟨e,_⟩:=x;exact Q_ e
 |tbl ps=>exact Q_ (show h.get? a=some _ from x)
 |met f y=>exact Q_ (show h.get? a=some _ from x)
 |ext φ=>obtain⟨_,⟨_,e⟩,_⟩:=x;exact Q_ e
def Paired.mapP{α β:Type}{F G:α->β->Prop}:∀{l₁:List α} {l₂:List β},Paired F l₁ l₂->(∀a b,F a b->G a b)->Paired G l₁ l₂
 |_,_,.nil,_=>.nil
 |_,_,.cons r t,f=>.cons (f _ _ r) (Paired.mapP t f)
def cc.stay(x:cc P w H h a o)(k:∀b u,(b=a\/H b=some (.own a))->h.get? b=some u->h'.get? b=some u)
  (ho:∀b,H b=some (.own a)->H' b=some (.own a)) (ht:∀b xs,H b=some (.tup xs)->H' b=some (.tup xs)):cc P w H' h' a o:=by
 induction o with
 |lst xs=>obtain⟨z,gV,n,r,e⟩:=x;exact⟨z,gV,n,r,k _ _ (.inl rfl) e⟩
 |tup xs=>obtain⟨z,gV,r,ob,e,c⟩:=x;exact⟨z,gV,r,ob,k _ _ (.inl rfl) e,c⟩
 |dK de=>obtain⟨z,y,vs,r,ob,es,ep,e,c⟩:=x;exact⟨z,y,vs,r,ob,es,ep,k _ _ (.inl rfl) e,c⟩
 |dT de =>
  obtain⟨z,y,xs,r,ob,es,ep,e,c⟩:=x;exact⟨z,y,xs,Paired.mapP r λp q z=>⟨z.1,ht _ _ z.2.1,z.2.2⟩,ob,es,ep,k _ _ (.inl rfl) e,c⟩
 |set S n=>obtain⟨ob,es,ep,t,e,c⟩:=x;exact⟨ob,es,ep,t,k _ _ (.inl rfl) e,c⟩
 |ins C dx fs =>
  obtain⟨d,z,ne,e,mA,⟨od,es,ep,e2,c⟩,r⟩:=x;exact⟨ho _ d,z,ne,k _ _ (.inl rfl) e,mA,⟨od,es,ep,k _ _ (.inr d) e2,c⟩,r⟩
 |own y=>obtain⟨ob,e⟩:=x;exact⟨ob,k _ _ (.inl rfl) e⟩
 |xd fs=>obtain⟨mA,⟨od,es,ep,e,c⟩,r⟩:=x;exact⟨mA,⟨od,es,ep,k _ _ (.inl rfl) e,c⟩,r⟩
 |rng lo hi=>obtain⟨t,u,v,e⟩:=x;exact⟨t,u,v,k _ _ (.inl rfl) e⟩
 |frz ob u ih=>obtain⟨e,q⟩:=x;exact⟨k _ _ (.inl rfl) e,ih q⟩
 |tbl ps =>
  have e:h.get? a=some {cls:=.none,data:=.fields ps}:=x;show h'.get? a=some {cls:=.none,data:=.fields ps};exact k a _ (.inl rfl) e
 |met f y =>
  have e:h.get? a=some (Xd (.ref f) (.ref y)):=x;show h'.get? a=some (Xd (.ref f) (.ref y));exact k a _ (.inl rfl) e
 |ext φ=>obtain⟨p,⟨o,e⟩,st⟩:=x;exact⟨st _ _ p λo q=>k _ _ (.inl rfl) q,⟨o,k _ _ (.inl rfl) e⟩,st⟩
def HOk.lt(x:HOk P w H h)(e:H a=some o):a<h.objs.size:=(x a o e).lt
def HOk.fresh(x:HOk P w H h)(e:h.objs.size<=a):H a=none:=by
 cases q:H a with
 |none=>rfl
 |some u=>exact absurd (Re (x.lt q) e) (T7 _)
def HOk.kept(x:HOk P w H h)(k:∀b u,h.get? b=some u->h'.get? b=some u):HOk P w H h':=λa o e =>
 (x a o e).stay (λb u _ q=>k b u q) (λ_ q=>q) λ_ _ q=>q
def HOk.laid(x:HOk P w H h)(k:∀b u,h.get? b=some u->h'.get? b=some u)(hp:h.objs.size<=a)(new:cc P w (upd H a o) h' a o):HOk P w (upd H a o) h':=λb u e=>by
 have hn:=x.fresh hp;by_cases hb:b=a
 .subst hb;rw[aj] at e;cases e;exact new
 .rw[aJ hb] at e;exact(x b u e).stay (λc v _ q=>k c v q) (λc q=>by rw[aJ (ay q hn)];exact q) λc xs q=>by rw[aJ (ay q hn)];exact q
end
abbrev Rd(H:Hp)(a:Addr)(u:HO):Prop:=H a=some u\/∃o,H a=some (.frz o u)
def Rd.ok(r:Rd H a u)(x:HOk P w H h):cc P w H h a u:=by
 rcases r with r|⟨o,r⟩
 .exact x a u r
 .obtain⟨_,q⟩:=x a _ r;exact q
abbrev N4:Option HO->Prop
 |some (.lst _)=>True
 |some (.dK _)=>True
 |some (.dT _)=>True
 |some (.set _ _)=>True
 |some (.ins _ _ _)=>True
 |some (.ext _)=>True
 |_=>False
section
variable{P:Rx}{w:RQ}{H:Hp}{h h':Heap}{x e:Addr}{o':HO}
def HOk.write(ok:HOk P w H h)(mu:N4 (H x))(he:e=x\/H e=some (.own x))(k:∀b u,b≠e->h.get? b=some u->h'.get? b=some u)(heo:∃u,h'.get? e=some u)
  (new:cc P w (upd H x o') h' x o'):HOk P w (upd H x o') h':=λb u q=>by
 have nown:∀c y,H c=some (.own y)->c≠x:=λc y r z=>by subst z;rw[r] at mu;exact mu
 have ntup:∀c xs,H c=some (.tup xs)->c≠x:=λc xs r z=>by subst z;rw[r] at mu;exact mu
 by_cases hb:b=x
 .subst hb;rw[aj] at q;cases q;exact new
 .rw[aJ hb] at q;by_cases hbe:b=e
  .have q':H b=some (.own x):=by
    rcases he with z|z
    .exact absurd (hbe.trans z) hb
    .rw[hbe];exact z
   rw[q] at q';cases q';obtain⟨v,hv⟩:=heo;exact⟨v,by rw[hbe];exact hv⟩
  .refine(ok b u q).stay (λc v hc r=>k c v ?_ r) (λc r=>by rw[aJ (nown c b r)];exact r) λc xs r=>by rw[aJ (ntup c xs r)];exact r
   rcases hc with rfl|hc
   .exact hbe
   .rintro rfl;rcases he with z|z
    .exact nown c b hc z
    .rw[hc] at z;cases z;exact hb rfl
end
structure Un (fs ex:List Addr) (H H':Hp) (h h':Heap):Prop where
 keep:∀b o,h.get? b=some o->H b=none->b∉fs->b∉ex->h'.get? b=some o
 slot:∀b o,h.get? b=some o->H b=none->b∈fs->b∉ex->∃sl,h'.get? b=some {o with slots:=sl}
 free:∀b o,h.get? b=some o->H b=none->b∉ex->H' b=none
 there:∀b o,h.get? b=some o->b∉ex->∃o',h'.get? b=some o'
 tups:∀b xs,H b=some (.tup xs)->H' b=some (.tup xs)
 frzs:∀b o u,H b=some (.frz o u)->H' b=some (.frz o u)
 tbls:∀b ps,H b=some (.tbl ps)->∃more,H' b=some (.tbl (ps++more))
section
variable{fs fs' ex ex':List Addr}{H H1 H2:Hp}{h h1 h2 h':Heap}{a x e:Addr}{o:HO}
def Un.any(u:Un fs ex H H1 h h1){b:Addr}{ob:Obj}(q:h.get? b=some ob)(n:H b=none)(hx:b∉ex):∃sl,h1.get? b=some {ob with slots:=sl}:=by
 by_cases hb:b∈fs
 .exact u.slot b ob q n hb hx
 .exact⟨ob.slots,u.keep b ob q n hb hx⟩
def Un.kept(k:∀b u,h.get? b=some u->h'.get? b=some u):Un fs ex H H h h' :=
 ⟨λb ob q _ _ _=>k b ob q,λb ob q _ _ _=>⟨ob.slots,k b ob q⟩,λ_ _ _ n _=>n,λb ob q _=>⟨ob,k b ob q⟩,λ_ _ q=>q,λ_ _ _ q=>q,λ_ ps q=>⟨#[],by rw[q];simp⟩⟩
def Un.refl:Un fs ex H H h h:=Un.kept λ_ _ q=>q
def Un.laid(k:∀b u,h.get? b=some u->h'.get? b=some u)(hp:h.objs.size<=a)(hn:H a=none):Un fs ex H (upd H a o) h h' where
 keep:=λb u q _ _ _=>k b u q
 slot:=λb u q _ _ _=>⟨u.slots,k b u q⟩
 free:=λb u q n _=>by rw[aJ (RE (Re (Q_ q) hp))];exact n
 there:=λb u q _=>⟨u,k b u q⟩
 tups:=λb xs q=>by rw[aJ (ay q hn)];exact q
 frzs:=λb u xs q=>by rw[aJ (ay q hn)];exact q
 tbls:=λb ps q=>⟨#[],by rw[aJ (ay q hn),q];simp⟩
def Un.write(mu:N4 (H x))(he:e=x\/H e=some (.own x))(k:∀b u,b≠e->h.get? b=some u->h'.get? b=some u)(heo:∃u,h'.get? e=some u):Un fs ex H (upd H x o) h h':=by
 have hx:∀b,H b=none->b≠x:=λb n z=>by subst z;rw[n] at mu;exact mu
 have hb:∀b,H b=none->b≠e:=λb n z=>by
  subst z;rcases he with r|r
  .exact hx b n r
  .rw[n] at r;cases r
 have hm:∀b u,H b=some u->¬ N4 (some u)->b≠x:=λb u q nm z=>by subst z;rw[q] at mu;exact nm mu
 refine⟨λb u q n _ _=>k b u (hb b n) q,λb u q n _ _=>⟨u.slots,k b u (hb b n) q⟩,λb u q n _=>by rw[aJ (hx b n)];exact n,λb u q _=>?_,
  λb xs q=>by rw[aJ (hm b _ q λz=>z)];exact q,λb u xs q=>by rw[aJ (hm b _ q λz=>z)];exact q,λb ps q=>⟨#[],by rw[aJ (hm b _ q λz=>z),q];simp⟩⟩
 by_cases hbe:b=e
 .subst hbe;exact heo
 .exact⟨u,k b u hbe q⟩
end
abbrev Oa(h:Heap)(H:Hp):List Addr:=(QR h.objs.size).filter λa=>(H a).isSome
abbrev nN(h:Heap)(H:Hp):Heap:=PySem.W.hideAll h (Oa h H)
def AX(h:Heap)(H:Hp):(nN h H).objs.size=h.objs.size:=PySem.W.hideAll_size _ _
def E1{h:Heap}{H:Hp}{b:Addr}{o:Obj}(e:h.get? b=some o)(n:H b=none):(nN h H).get? b=some o :=
 PySem.W.hideAll_get _ e λhm=>by
  have q:(H b).isSome=true:=(Ri.mp hm).2;rw[n] at q;simp at q
def Jr{b:Addr}{o:Obj}(e:(nN h H).get? b=some o):h.get? b=some o/\H b=none:=by
 have e':h.get? b=some o:=PySem.W.of_hideAll (Oa h H) e;refine⟨e',?_⟩;cases q:H b with
 |none=>rfl
 |some x =>
  have hm:b∈Oa h H:=Ri.mpr ⟨Rb.mpr (Q_ e'),by simp[q]⟩;have z:(nN h H).get? b=none:=PySem.W.hideAll_none (Oa h H) hm;rw[z] at e;cases e
structure Mod (K:Fg) (mg:Str->Option QF) (base:Heap):Prop where
 kin:K.In base
 glob:base.Ns mainGlobals mg
 blt:∃mb,base.Ns builtinsNs mb/\∀x:Str,x≠"__name__"->mb x=bootBuiltins x
 nolimit:base.NoLimit
structure Cx where
 prog:Rx
 w:RQ
 K:Fg
 mg:Str->Option QF
 base:Heap
 A:RT
 N:List Str
 s₀:QP
 H₀:Hp
 env:Env
 outer:List Env
 stack:List Env
 ex:List Addr
 fn:Str->Bool
 calm:Bool
 pn:List (Addr×Obj)
 xe:QF->QP->Prop
abbrev wO(l:List Env):List Addr:=l.filterMap (·.frame)
nonrec abbrev Cx.fs(X:Cx):List Addr:=wO X.outer
abbrev Oe(sc:Scope)(x:Str):Prop:=sc.names.lookup x=some .local\/sc.names.lookup x=some .cell\/sc.names.lookup x=some .free
abbrev Loc(sc:Scope)(x:Str):Prop:=sc.names.lookup x=some .local\/sc.names.lookup x=some .cell
abbrev Look(env:Env)(h:Heap)(m:Str->Option QF)(x:Str)(u:QF):Prop :=
 (env.kindOf x=some .local/\m x=some u)\/((env.kindOf x=some .cell\/env.kindOf x=some .free)/\∃c,env.cells.lookup x=some c/\h.IsCell c (some u))
structure Cx.Ok (X:Cx):Prop where
 mod:Mod X.K X.mg X.base
 kind:X.env.scope.kind=.function
 glob:X.env.globals=mainGlobals
 blt:X.env.builtins=builtinsNs
 above:X.s₀.heap.objs.size<=X.env.locals
 inj:∀x y c,X.env.cells.lookup x=some c->X.env.cells.lookup y=some c->x=y
 has:∀x,(X.env.kindOf x=some .cell\/X.env.kindOf x=some .free)->∃c,X.env.cells.lookup x=some c
 cab:∀x c,X.fn x=true->X.env.cells.lookup x=some c->X.s₀.heap.objs.size<=c
 hd:X.calm=true->X.A.handled=none
 frames:X.A.frames=some X.stack
 stk:X.stack=X.outer\/(X.stack=X.env :: X.outer/\X.env.frame=some X.env.locals)
 exf:∀b∈X.ex,b≠X.env.locals/\∀x c,X.env.cells.lookup x=some c->c≠b
 bs:∀b o,X.base.get? b=some o->X.s₀.heap.get? b=some o/\X.H₀ b=none
 bsz:X.base.objs.size<=X.s₀.heap.objs.size
 noex:∀b o,X.base.get? b=some o->b∉X.ex
 exfs:∀b∈X.ex,b∉X.fs
 funs:X.s₀.heap.FunFrames X.base X.outer
 frf:∀b∈X.fs,X.H₀ b=none
structure Inv (X:Cx) (ξ:List (Addr×Obj)) (σ:List (Option V)) (H:Hp) (s:QP):Prop where
 ok:X.Ok
 os:s.os=X.s₀.os
 bare:Xe s.gens
 base:Un X.fs X.ex X.H₀ H X.s₀.heap s.heap
 loc:∃m,s.heap.Ns X.env.locals m/\∀(i:Nat) (x:Str) (v:V),X.N[i]?=some x->σ[i]?=some (some v)->Oe X.env.scope x->∃u,RelV v u/\Look X.env s.heap m x u
 cell:∀x c,X.env.cells.lookup x=some c->∃v,s.heap.IsCell c v
 free:H X.env.locals=none
 freeC:∀x c,X.env.cells.lookup x=some c->H c=none
 pin:∀p∈X.pn++ξ,s.heap.get? p.1=some p.2/\H p.1=none/\p.1≠X.env.locals/\p.1∉X.fs/\∀v,p.2.data≠.cell v
 hok:HOk X.prog X.w H s.heap
 len:σ.length=X.N.length
section
variable{X:Cx}{ξ:List (Addr×Obj)}{σ:List (Option V)}{H H':Hp}{s:QP}{h':Heap}
def Cx.Ok.nofr(ok:X.Ok){b:Addr}{o:Obj}(e:X.base.get? b=some o):b∉X.fs:=λhb=>by
 have:=(ok.funs.mem hb).1
 rw[e] at this;cases this
def Inv.bs(I:Inv X ξ σ H s):∀b o,X.base.get? b=some o->s.heap.get? b=some o/\H b=none:=λb o e =>
 ⟨I.base.keep b o (I.ok.bs b o e).1 (I.ok.bs b o e).2 (I.ok.nofr e) (I.ok.noex b o e),I.base.free b o (I.ok.bs b o e).1 (I.ok.bs b o e).2 (I.ok.noex b o e)⟩
def Inv.bk(I:Inv X ξ σ H s):∀b o,X.base.get? b=some o->s.heap.get? b=some o:=λb o e=>(I.bs b o e).1
def Inv.mod(I:Inv X ξ σ H s):Mod X.K X.mg X.base:=I.ok.mod
def Inv.kIn(I:Inv X ξ σ H s):X.K.In s.heap:=I.ok.mod.kin.keeps I.bk
def Inv.lt(I:Inv X ξ σ H s):X.env.locals<s.heap.objs.size:=let ⟨_,hn,_⟩:=I.loc;hn.lt
def Inv.sz(I:Inv X ξ σ H s):X.s₀.heap.objs.size<=s.heap.objs.size:=Q0 I.ok.above (TJ I.lt)
def Inv.nofs(I:Inv X ξ σ H s){a:Addr}(h:s.heap.objs.size<=a):a∉X.fs:=λhb=>by
 obtain⟨_,o,ho,_⟩:=I.ok.funs.mem hb;exact absurd (Re (Q_ ho) (Q0 I.sz h)) (T7 _)
def Inv.cne(I:Inv X ξ σ H s):∀x c,X.env.cells.lookup x=some c->c≠X.env.locals:=λx c e z=>by
 obtain⟨v,o,ho,hd⟩:=I.cell x c e;obtain⟨m,⟨o',es,ep,ho',hd',_⟩,_⟩:=I.loc;rw[z,ho'] at ho;cases ho;rw[hd'] at hd;cases hd
def Inv.funs(I:Inv X ξ σ H s):s.heap.FunFrames X.base X.outer:=by
 have all:∀(l:List Env),(∀b∈wO l,b∈X.fs)->X.s₀.heap.FunFrames X.base l->s.heap.FunFrames X.base l:=by
  intro l
  induction l with
  |nil=>intro _ _;trivial
  |cons env r ih =>
   intro hs hl;obtain⟨hk,⟨L,o,hf,hn,ho,hd⟩,hr⟩:=hl;have hL:L∈X.fs:=hs L (by unfold wO;rw[Vl,hf];exact QK);obtain⟨sl,e⟩:=I.base.slot L o ho (I.ok.frf L hL) hL λz=>I.ok.exfs L z hL
   exact⟨hk,⟨L,_,hf,hn,e,hd⟩,ih (λb hb=>hs b (by unfold wO;rw[Vl,hf];exact QL _ hb)) hr⟩
 exact all X.outer (λ_ hb=>hb) I.ok.funs
def Inv.stack(I:Inv X ξ σ H s):s.heap.FunFrames X.base X.stack:=by
 rcases I.ok.stk with e|⟨e,hf⟩
 .rw[e];exact I.funs
 .rw[e];obtain⟨m,hn,_⟩:=I.loc;refine .cons (by rw[I.ok.kind];decide) hf hn ?_ I.funs;exact Heap.get?_none_of_le (Q0 I.ok.bsz I.ok.above)
def Inv.yq(I:Inv X ξ σ H s):∀b∈wO X.stack,b∈X.env.locals :: X.fs:=λb hb=>by
 rcases I.ok.stk with e|⟨e,hf⟩
 .rw[e] at hb;exact QL _ hb
 .rw[e] at hb;unfold wO at hb;rw[Vl,hf] at hb;exact hb
def Inv.yr(I:Inv X ξ σ H s):∀b∈wO X.stack,H b=none:=λb hb=>by
 rcases Q5.mp (I.yq b hb) with e|hb
 .rw[e];exact I.free
 .obtain⟨_,o,ho,_⟩:=I.ok.funs.mem hb;exact I.base.free b o ho (I.ok.frf b hb) λz=>I.ok.exfs b z hb
def Inv.step{g':Array Zaj}{t':Nat}{d':Drawn}{ch:List Addr}(I:Inv X ξ σ H s)
  (hch:∀b∈ch,(b∈X.ex\/X.s₀.heap.objs.size<=b)/\b≠X.env.locals/\(∀x c,X.env.cells.lookup x=some c->c≠b)/\∀p∈X.pn++ξ,p.1≠b)
  (keep:∀b o,b≠X.env.locals->b∉X.fs->b∉ch->s.heap.get? b=some o->H b=none->h'.get? b=some o)
  (slot:∀b o,b≠X.env.locals->b∈X.fs->b∉ch->s.heap.get? b=some o->H b=none->∃sl,h'.get? b=some {o with slots:=sl}) (free:∀b o,b∉ch->s.heap.get? b=some o->H b=none->H' b=none)
  (there:∀b o,b∉ch->s.heap.get? b=some o->∃o',h'.get? b=some o')
  (tups:∀b xs,H b=some (.tup xs)->H' b=some (.tup xs)) (frzs:∀b o u,H b=some (.frz o u)->H' b=some (.frz o u)) (tbls:∀b ps,H b=some (.tbl ps)->∃more,H' b=some (.tbl (ps++more)))
  (ns:∀m,s.heap.Ns X.env.locals m->h'.Ns X.env.locals m) (hok:HOk X.prog X.w H' h') (hg:Xe g') :
  Inv X ξ σ H' {s with heap:=h',gens:=g',drawn:=d',toks:=t'}:=by
 have neL:∀b o,X.s₀.heap.get? b=some o->b≠X.env.locals:=λb o e=>RE (Re (Q_ e) I.ok.above)
 have neC:∀b o,X.s₀.heap.get? b=some o->b∉X.ex->b∉ch:=λb o e hx hb=>by
  rcases (hch b hb).1 with z|z
  .exact hx z
  .exact absurd (Re (Q_ e) z) (T7 _)
 have cellK:∀x c,X.env.cells.lookup x=some c->∀v,s.heap.IsCell c v->h'.IsCell c v:=λx c e v ⟨o,ho,hd⟩=>by
  have nch:c∉ch:=λz=>(hch c z).2.2.1 x c e rfl
  by_cases hc:c∈X.fs
  .obtain⟨sl,q⟩:=slot c o (I.cne x c e) hc nch ho (I.freeC x c e);exact⟨_,q,hd⟩
  .exact⟨o,keep c o (I.cne x c e) hc nch ho (I.freeC x c e),hd⟩
 refine⟨I.ok,I.os,hg,⟨λb o e n hb hx=>?_,λb o e n hb hx=>?_,λb o e n hx=>?_,λb o e hx=>?_,λb xs e=>tups b xs (I.base.tups b xs e),λb o xs e=>frzs b o xs (I.base.frzs b o xs e),λb ps e=>?_⟩,?_,λx c e=>?_,?_,λx c e=>?_,λp hp=>?_,hok,I.len⟩
 .exact keep b o (neL b o e) hb (neC b o e hx) (I.base.keep b o e n hb hx) (I.base.free b o e n hx)
 .obtain⟨sl,e1⟩:=I.base.slot b o e n hb hx;obtain⟨sl',e2⟩:=slot b _ (neL b o e) hb (neC b o e hx) e1 (I.base.free b o e n hx);exact⟨sl',e2⟩
 .obtain⟨o',e1⟩:=I.base.there b o e hx;exact free b o' (neC b o e hx) e1 (I.base.free b o e n hx)
 .obtain⟨o',e1⟩:=I.base.there b o e hx;exact there b o' (neC b o e hx) e1
 .obtain⟨m1,e1⟩:=I.base.tbls b ps e;obtain⟨m2,e2⟩:=tbls b _ e1;exact⟨m1++m2,by rw[e2,Array.append_assoc]⟩
 .obtain⟨m,hn,hl⟩:=I.loc;refine⟨m,ns m hn,λi x v e1 e2 e3=>?_⟩;obtain⟨u,r,l⟩:=hl i x v e1 e2 e3;refine⟨u,r,?_⟩;rcases l with l|⟨k,c,e,z⟩
  .exact .inl l
  .exact .inr ⟨k,c,e,cellK x c e _ z⟩
 .obtain⟨v,z⟩:=I.cell x c e;exact⟨v,cellK x c e v z⟩
 .obtain⟨m,⟨o,_,_,ho,_⟩,_⟩:=I.loc;exact free _ o (λz=>(hch _ z).2.1 rfl) ho I.free
 .obtain⟨v,o,ho,hd⟩:=I.cell x c e;exact free c o (λz=>(hch c z).2.2.1 x c e rfl) ho (I.freeC x c e)
 .obtain⟨e,n,ne,nf,d⟩:=I.pin p hp;have nch:p.1∉ch:=λz=>(hch p.1 z).2.2.2 p hp rfl
  exact⟨keep p.1 p.2 ne nf nch e n,free p.1 p.2 nch e n,ne,nf,d⟩
def Inv.un{t':Nat}(I:Inv X ξ σ H s)(u:Un X.fs [] H H' s.heap h')(hok:HOk X.prog X.w H' h'):Inv X ξ σ H' {s with heap:=h',toks:=t'}:=by
 obtain⟨m,⟨o,es,ep,ho,r⟩,_⟩:=id I.loc;obtain⟨sl,hL⟩:=u.any ho I.free (by simp)
 exact I.step (g':=s.gens) (d':=s.drawn) (ch:=[]) (λ_ z=>nomatch z) (λb o _ hb _ e n=>u.keep b o e n hb (by simp)) (λb o _ hb _ e n=>u.slot b o e n hb (by simp)) (λb o _ e n=>u.free b o e n (by simp)) (λb o _ e=>u.there b o e (by simp)) u.tups u.frzs u.tbls (λm' hm=>by
  obtain⟨o',es',ep',ho',r'⟩:=hm
  rw[ho] at ho';cases ho'
  exact⟨_,es',ep',hL,r'⟩) hok I.bare
def Inv.call{t':Nat}{d':Drawn}(I:Inv X ξ σ H s)(u:Un (wO X.stack) ch H H' s.heap h')(hok:HOk X.prog X.w H' h')(hg:Xe g')
  (hch:∀b∈ch,(b∈X.ex\/X.s₀.heap.objs.size<=b)/\b≠X.env.locals/\(∀x c,X.env.cells.lookup x=some c->c≠b)/\∀p∈X.pn++ξ,p.1≠b) :
  Inv X ξ σ H' {s with heap:=h',gens:=g',drawn:=d',toks:=t'}:=by
 obtain⟨m,⟨o,es,ep,ho,r⟩,_⟩:=id I.loc;obtain⟨sl,hL⟩:=u.any ho I.free λz=>(hch _ z).2.1 rfl
 exact I.step (ch:=ch) hch (λb o hL hb hc e n=>u.keep b o e n (λz=>(Q5.mp (I.yq b z)).elim hL hb) hc) (λb o _ _ hc e n=>u.any e n hc) (λb o hc e n=>u.free b o e n hc) (λb o hc e=>u.there b o e hc) u.tups u.frzs u.tbls (λm' hm=>by
  obtain⟨o',es',ep',ho',r'⟩:=hm
  rw[ho] at ho';cases ho'
  exact⟨_,es',ep',hL,r'⟩) hok hg
def Inv.turned{t':Nat}{it:Addr}(I:Inv X ξ σ H s)(k:∀b o,b≠it->s.heap.get? b=some o->h'.get? b=some o)(hn:H it=none)(hL:it≠X.env.locals)
  (h1:it∈X.ex\/X.s₀.heap.objs.size<=it) (h2:∀x c,X.env.cells.lookup x=some c->c≠it) (h3:∀p∈X.pn++ξ,p.1≠it):Inv X ξ σ H {s with heap:=h',toks:=t'}:=by
 have nit:∀b u,H b=some u->b≠it:=λb u e z=>by rw[z,hn] at e;cases e
 refine I.step (g':=s.gens) (d':=s.drawn) (ch:=[it]) (λb hb=>?_) (λb o _ _ hc e _=>k b o (λz=>hc (by simp[z])) e) (λb o _ _ hc e _=>⟨o.slots,k b o (λz=>hc (by simp[z])) e⟩) (λ_ _ _ _ n=>n)
  (λb o hc e=>⟨o,k b o (λz=>hc (by simp[z])) e⟩) (λ_ _ e=>e) (λ_ _ _ e=>e) (λb ps e=>⟨#[],by rw[e];simp⟩) (λm hm=>?_) (λb u e=>?_) I.bare
 .have e:b=it:=by simpa using hb
  subst e;exact⟨h1,hL,h2,h3⟩
 .obtain⟨o,es,ep,ho,r⟩:=hm;exact⟨o,es,ep,k _ o (Xf hL) ho,r⟩
 .refine(I.hok b u e).stay (λc v hc q=>k c v ?_ q) (λ_ q=>q) λ_ _ q=>q
  rcases hc with z|z
  .rw[z];exact nit b u e
  .exact nit c _ z
def Inv.tok(I:Inv X ξ σ H s)(t:Nat):Inv X ξ σ H {s with toks:=t}:=I.un (h':=s.heap) (t':=t) Un.refl I.hok
def Inv.kept{t':Nat}(I:Inv X ξ σ H s)(k:∀b u,s.heap.get? b=some u->h'.get? b=some u):Inv X ξ σ H {s with heap:=h',toks:=t'}:=I.un (Un.kept k) (I.hok.kept k)
def Inv.laid{a:Addr}{t':Nat}(I:Inv X ξ σ H s)(k:∀b u,s.heap.get? b=some u->h'.get? b=some u)(hp:s.heap.objs.size<=a)(new:cc X.prog X.w (upd H a o) h' a o) :
  Inv X ξ σ (upd H a o) {s with heap:=h',toks:=t'}:=I.un (Un.laid k hp (I.hok.fresh hp)) (I.hok.laid k hp new)
def Inv.write{e:Addr}{t':Nat}(I:Inv X ξ σ H s)(mu:N4 (H x))(he:e=x\/H e=some (.own x))(k:∀b u,b≠e->s.heap.get? b=some u->h'.get? b=some u)(heo:∃u,h'.get? e=some u)
  (new:cc X.prog X.w (upd H x o) h' x o):Inv X ξ σ (upd H x o) {s with heap:=h',toks:=t'}:=I.un (Un.write mu he k heo) (I.hok.write mu he k heo new)
def Inv.zJ{pins':List (Addr×Obj)}(I:Inv X ξ σ H s)(h:∀p∈pins',s.heap.get? p.1=some p.2/\H p.1=none/\p.1≠X.env.locals/\p.1∉X.fs/\∀v,p.2.data≠.cell v):Inv X pins' σ H s :=
 ⟨I.ok,I.os,I.bare,I.base,I.loc,I.cell,I.free,I.freeC,λp hp=>(Q8.mp hp).elim (λz=>I.pin p (Rc _ z)) (h p),I.hok,I.len⟩
def uH{N:List Str}(hN:N.Nodup){i j:Nat}{x:Str}(a:N[i]?=some x)(b:N[j]?=some x):i=j:=by
 obtain⟨h1,e1⟩:=QC.mp a;obtain⟨h2,e2⟩:=QC.mp b;exact(UL hN).mp (e1.trans e2.symm)
def oP{i:Nat}{x:Str}{Q:Unit->QP->Prop}(I:Inv X ξ σ H s)(hN:X.N.Nodup)(hi:X.N[i]?=some x)(hx:Loc X.env.scope x)(r:RelV v u)
  (h:∀s',Inv X ξ (σ.set i (some v)) H s'->(∃a,TX a s.heap s'.heap/\(a=X.env.locals\/X.env.cells.lookup x=some a))->Q () s') (hf:X.fn x=true\/X.env.scope.names.lookup x=some .local:=by first|exact .inl rfl|exact .inr rfl|assumption):wpAny M A (storeName X.env x u) Q E s:=by
 obtain⟨m,hn,hl⟩:=id I.loc;have hcls:(X.env.scope.kind == .class || (X.env.scope.kind == .module && X.env.locals != X.env.globals))=false:=by rw[I.ok.kind];rfl
 have hiσ:i<σ.length:=by rw[I.len];exact(QC.mp hi).1
 have cne:=I.cne
 have tracked:∀{a:Addr} {h':Heap},(∃o,s.heap.get? a=some o/\H a=none)->TX a s.heap h'->HOk X.prog X.w H h':=λ{a h'} ha hs b ob e=>by
  obtain⟨_,_,hfree⟩:=ha;refine(I.hok b ob e).stay (λc w' hc q=>(hs.2 c ?_).trans q) (λ_ q=>q) λ_ _ q=>q
  rintro rfl;rcases hc with rfl|hc
  .rw[hfree] at e;cases e
  .rw[hfree] at hc;cases hc
 rcases hx with hk|hk
 .refine wpAny_storeName_local hk hn (λh' hn' hs=>?_) hcls;obtain⟨oL,_,_,hoL,_⟩:=id hn;refine h _ ⟨I.ok,I.os,I.bare,⟨λb o e n hb hx=>?_,λb o e n hb hx=>?_,I.base.free,λb o e hx=>?_,I.base.tups,I.base.frzs,I.base.tbls⟩,⟨_,hn',λj y v' e1 e2 e3=>?_⟩,λy c e=>?_,I.free,I.freeC,λp hp=>?_,tracked ⟨oL,hoL,I.free⟩ hs,by simpa using I.len⟩ ⟨_,hs,.inl rfl⟩
  .exact(hs.2 b (RE (Re (Q_ e) I.ok.above))).trans (I.base.keep b o e n hb hx)
  .obtain⟨sl,e1⟩:=I.base.slot b o e n hb hx;exact⟨sl,(hs.2 b (RE (Re (Q_ e) I.ok.above))).trans e1⟩
  .obtain⟨o',e1⟩:=I.base.there b o e hx;exact⟨o',(hs.2 b (RE (Re (Q_ e) I.ok.above))).trans e1⟩
  .by_cases hj:j=i
   .subst hj;rw[hi] at e1;cases e1;rw[XX hiσ] at e2;cases e2;exact⟨u,r,.inl ⟨hk,by simp⟩⟩
   .rw[Yo (Xf hj)] at e2;obtain⟨u',r',q⟩:=hl j y v' e1 e2 e3;refine⟨u',r',?_⟩;rcases q with⟨k,e⟩|⟨k,c,e,z⟩
    .refine .inl ⟨k,?_⟩
     have:y≠x:=λe=>hj (uH hN e1 (e ▸ hi))
     simp[this,e]
    .exact .inr ⟨k,c,e,z.sameBut hs (cne y c e)⟩
  .obtain⟨w',z⟩:=I.cell y c e;exact⟨w',z.sameBut hs (cne y c e)⟩
  .obtain⟨e,n,ne,nf,d⟩:=I.pin p hp;exact⟨(hs.2 p.1 ne).trans e,n,ne,nf,d⟩
 .have hfn:X.fn x=true:=by
   rcases hf with z|z
   .exact z
   .rw[z] at hk;cases hk
  obtain⟨c,hc⟩:=I.ok.has x (.inl hk);obtain⟨w',z⟩:=I.cell x c hc;refine wpAny_storeName_cell I.ok.kind hk hc z (λh' hc' hs=>?_);obtain⟨oc,hoc,hocd⟩:=id z;refine h {s with heap:=h'} ⟨I.ok,I.os,I.bare,⟨λb o e n hb hx=>?_,λb o e n hb hx=>?_,I.base.free,λb o e hx=>?_,I.base.tups,I.base.frzs,I.base.tbls⟩,⟨m,hn.sameBut hs (Xf (cne x c hc)),λj y v' e1 e2 e3=>?_⟩,λy c' e=>?_,I.free,I.freeC,λp hp=>?_,tracked ⟨oc,hoc,I.freeC x c hc⟩ hs,by simpa using I.len⟩ ⟨c,hs,.inr hc⟩
  .exact(hs.2 b (RE (Re (Q_ e) (I.ok.cab x c hfn hc)))).trans (I.base.keep b o e n hb hx)
  .obtain⟨sl,e1⟩:=I.base.slot b o e n hb hx;exact⟨sl,(hs.2 b (RE (Re (Q_ e) (I.ok.cab x c hfn hc)))).trans e1⟩
  .obtain⟨o',e1⟩:=I.base.there b o e hx;exact⟨o',(hs.2 b (RE (Re (Q_ e) (I.ok.cab x c hfn hc)))).trans e1⟩
  .by_cases hj:j=i
   .subst hj;rw[hi] at e1;cases e1;rw[XX hiσ] at e2;cases e2;exact⟨u,r,.inr ⟨.inl hk,c,hc,hc'⟩⟩
   .rw[Yo (Xf hj)] at e2;obtain⟨u',r',q⟩:=hl j y v' e1 e2 e3;refine⟨u',r',?_⟩;rcases q with q|⟨k,c',e,z'⟩
    .exact .inl q
    .refine .inr ⟨k,c',e,z'.sameBut hs ?_⟩;rintro rfl;exact hj (uH hN e1 (I.ok.inj _ _ _ e hc ▸ hi))
  .by_cases hcc:c'=c
   .subst hcc;exact⟨_,hc'⟩
   .obtain⟨w2,z2⟩:=I.cell y c' e;exact⟨w2,z2.sameBut hs hcc⟩
  .obtain⟨e,n,ne,nf,d⟩:=I.pin p hp;refine⟨(hs.2 p.1 ?_).trans e,n,ne,nf,d⟩;intro q;rw[q,hoc] at e;have q':oc=p.2:=Q7 e;exact d w' (by rw[<- q'];exact hocd)
def iW{i:Nat}{x:Str}{Q:Unit->QP->Prop}(I:Inv X ξ σ H s)(hN:X.N.Nodup)(hi:X.N[i]?=some x)(hx:Loc X.env.scope x)(r:RelV v u)
  (h:∀s',Inv X ξ (σ.set i (some v)) H s'->Q () s') (hf:X.fn x=true\/X.env.scope.names.lookup x=some .local:=by first|exact .inl rfl|exact .inr rfl|assumption):wpAny M A (storeName X.env x u) Q E s :=
 oP I hN hi hx r (λs' I' _=>h s' I') hf
def Inv.call'{s':QP}(I:Inv X ξ σ H s)(ho:s'.os=s.os)(u:Un (wO X.stack) ch H H' s.heap s'.heap)(hok:HOk X.prog X.w H' s'.heap)(hg:Xe s'.gens)
  (hch:∀b∈ch,(b∈X.ex\/X.s₀.heap.objs.size<=b)/\b≠X.env.locals/\(∀x c,X.env.cells.lookup x=some c->c≠b)/\∀p∈X.pn++ξ,p.1≠b):Inv X ξ σ H' s':=by
 obtain⟨h',g',d',t',o'⟩:=s';have e:o'=s.os:=ho;subst e;exact I.call (g':=g') (t':=t') (d':=d') u hok hg hch
end
nonrec abbrev XK:=QF->Option Addr->Hp->Prop
nonrec abbrev St:=List (Option V)
nonrec abbrev VK:=V->Hp->Prop
nonrec abbrev TE:=St->Hp->VK->Prop
nonrec abbrev TT:=St->Hp->(Bool->Hp->Prop)->Prop
nonrec abbrev TA:=St->Hp->(List V->Hp->Prop)->Prop
structure cq where
 nx:St->Hp->Prop
 rt:VK
 bk:St->Hp->Prop:=λ_ _=>False
 ct:St->Hp->Prop:=λ_ _=>False
nonrec abbrev TS:=cq->St->Hp->Prop
abbrev EP(X:Cx)(ξ:List (Addr×Obj))(σ:St)(Q:VK)(u:QF)(s':QP):Prop:=∃v H',Inv X ξ σ H' s'/\RelV v u/\Q v H'
abbrev TP(X:Cx)(ξ:List (Addr×Obj))(σ:St)(Q:Bool->Hp->Prop)(b:Bool)(s':QP):Prop:=∃H',Inv X ξ σ H' s'/\Q b H'
abbrev AP(X:Cx)(ξ:List (Addr×Obj))(σ:St)(Q:List V->Hp->Prop)(us:List QF)(s':QP):Prop:=∃vs H',Inv X ξ σ H' s'/\Vals vs us/\Q vs H'
abbrev SP(X:Cx)(ξ:List (Addr×Obj))(D:cq)(f:Flow)(s':QP):Prop :=
 match f with
 |.next=>∃σ' H',Inv X ξ σ' H' s'/\D.nx σ' H'
 |.brk=>∃σ' H',Inv X ξ σ' H' s'/\D.bk σ' H'
 |.cont=>∃σ' H',Inv X ξ σ' H' s'/\D.ct σ' H'
 |.ret u=>∃v σ' H',Inv X ξ σ' H' s'/\RelV v u/\D.rt v H'
abbrev PE(X:Cx)(e:Expr)(t:TE):Prop :=
 ∀(ξ:List (Addr×Obj)) (s:QP) (σ:St) (H:Hp) (Q:VK),Inv X ξ σ H s->t σ H Q->wpAny (model X.prog X.w) X.A (eval e X.env) (EP X ξ σ Q) X.xe s
abbrev PT(X:Cx)(e:Expr)(t:TT):Prop :=
 ∀(ξ:List (Addr×Obj)) (s:QP) (σ:St) (H:Hp) (Q:Bool->Hp->Prop),Inv X ξ σ H s->t σ H Q->wpAny (model X.prog X.w) X.A (isTrue e X.env (eval e X.env)) (TP X ξ σ Q) X.xe s
abbrev PW(X:Cx)(e:Expr)(t:TT):Prop :=
 ∀(whole:Sem QF) (ξ:List (Addr×Obj)) (s:QP) (σ:St) (H:Hp) (Q:Bool->Hp->Prop),Inv X ξ σ H s->t σ H Q->wpAny (model X.prog X.w) X.A (isTrue e X.env whole) (TP X ξ σ Q) X.xe s
def PW.pt(h:PW X e t):PT X e t:=h _
abbrev PA(X:Cx)(es:List Expr)(t:TA):Prop :=
 ∀(pos:Pos) (ξ:List (Addr×Obj)) (s:QP) (σ:St) (H:Hp) (Q:List V->Hp->Prop),Inv X ξ σ H s->t σ H Q->wpAny (model X.prog X.w) X.A (spliced (backTo pos (starEach es X.env))) (AP X ξ σ Q) X.xe s
abbrev PS(X:Cx)(st:Stmt)(t:TS):Prop :=
 ∀(ξ:List (Addr×Obj)) (s:QP) (σ:St) (H:Hp) (D:cq),Inv X ξ σ H s->t D σ H->wpAny (model X.prog X.w) X.A (exec st X.env) (SP X ξ D) X.xe s
abbrev PSs(X:Cx)(st:List Stmt)(t:TS):Prop :=
 ∀(ξ:List (Addr×Obj)) (s:QP) (σ:St) (H:Hp) (D:cq),Inv X ξ σ H s->t D σ H->wpAny (model X.prog X.w) X.A (execs st X.env) (SP X ξ D) X.xe s
def bh{α:Type}{t:Sem α}{Q Q':α->QP->Prop}(h:wpAny M A t Q E s)(hQ:∀a s,Q a s->Q' a s):wpAny M A t Q' E s:=SL h hQ λ_ _ x=>x
section
variable{X:Cx}
abbrev aa(i:Nat):TE:=λσ H Q=>∃v,σ[i]?=some (some v)/\Q v H
abbrev tC(v:V):TE:=λ_ H Q=>Q v H
def LF{i:Nat} {x:Str}  (hN:X.N[i]?=some x) (hv:Oe X.env.scope x) (hd:(x == ("__debug__":Str))=false:=by decide) (hcd:(x == ("__classdict__":Str))=false:=by decide):PE X (.Name x pos) (aa i):=by
 intro ξ s σ H Q I h;obtain⟨v,e,h⟩:=h;obtain⟨m,hn,hl⟩:=I.loc;obtain⟨u,r,l⟩:=hl i x v hN e hv;have fin:EP X ξ σ Q u s:=⟨v,H,I,r,h⟩
 rcases l with⟨hk,hm⟩|⟨hk,c,hc,hcell⟩
 .exact wpAny_Name (wpAny_loadName_local I.ok.kind hk hn hm fin) hd
 .rcases hk with hk|hk
  .exact wpAny_Name (wpAny_loadName_cell I.ok.kind hk hc hcell fin) hd
  .exact wpAny_Name (wpAny_loadName_free I.ok.kind hk hc hcell fin hcd) hd
def LQ{i j pos}:PE X (.Constant (.int i) j pos) (tC (.int i)):=λ_ _ _ H _ I h=>wpAny_Constant_int ⟨.int i,H,I.tok _,⟨_,rfl⟩,h⟩
def OI{b j pos}:PE X (.Constant (.bool b) j pos) (tC (.bl b)):=λ_ _ _ H _ I h=>Constant_bool ⟨.bl b,H,I,rfl,h⟩
def LK{j pos}:PE X (.Constant .none j pos) (tC .non):=λ_ _ _ H _ I h=>Constant_none ⟨.non,H,I,rfl,h⟩
def LH{x j pos}:PE X (.Constant (.str x) j pos) (tC (.str x)):=λ_ _ _ H _ I h=>Calls.Constant_str ⟨.str x,H,I.tok _,⟨_,rfl⟩,h⟩
abbrev Gl(X:Cx)(x:Str):Prop:=X.env.kindOf x=some .globalImplicit
def AB{H:Hp}{u:QF}{Q:QF->QP->Prop}(I:Inv X ξ σ H s)(hg:Gl X x)(hm:X.mg x=some u)(h:Q u s)
  (hd:(x == ("__debug__":Str))=false:=by decide):wpAny (model X.prog X.w) X.A (eval (.Name x pos) X.env) Q E s :=
 WT I.ok.kind hg (Calls.loadGlobal_global (by rw[I.ok.glob];exact I.mod.glob.keeps I.bk) hm h) hd
def dR{H:Hp}{u:QF}{Q:QF->QP->Prop}(I:Inv X ξ σ H s)(hg:Gl X x)(hm:X.mg x=none)(hv:bootBuiltins x=some u)(h:Q u s)
  (hn:x≠"__name__":=by decide) (hd:(x == ("__debug__":Str))=false:=by decide):wpAny (model X.prog X.w) X.A (eval (.Name x pos) X.env) Q E s:=by
 obtain⟨mb,h1,h2⟩:=I.mod.blt;exact WT I.ok.kind hg (Calls.loadGlobal_builtin (by rw[I.ok.glob];exact I.mod.glob.keeps I.bk) hm (by rw[I.ok.blt];exact h1.keeps I.bk) ((h2 x hn).trans hv) h) hd
def zQ{u:QF}  (hg:Gl X x) (hm:X.mg x=some u) (r:RelV v u) (hd:(x == ("__debug__":Str))=false:=by decide):PE X (.Name x pos) (tC v) :=
 λ_ _ _ H _ I h=>AB I hg hm ⟨v,H,I,r,h⟩ hd
def jw{u:QF}  (hg:Gl X x) (hm:X.mg x=none) (hv:bootBuiltins x=some u) (r:RelV v u) (hn:x≠"__name__":=by decide) (hd:(x == ("__debug__":Str))=false:=by decide):PE X (.Name x pos) (tC v) :=
 λ_ _ _ H _ I h=>dR I hg hm hv ⟨v,H,I,r,h⟩ hn hd
variable{a b:Expr}{ta tb:TE}{pos:Pos}
abbrev PC(X:Cx)(op:CmpOp)(a b:Expr)(t:TE):Prop :=
 ∀(ξ:List (Addr×Obj)) (s:QP) (σ:St) (H:Hp) (Q:VK),Inv X ξ σ H s->t σ H Q ->
  wpAny (model X.prog X.w) X.A (eval a X.env) (λv s₁=>wpAny (model X.prog X.w) X.A (eval b X.env) (λu s₂=>wpAny (model X.prog X.w) X.A (compareOp op v u) (EP X ξ σ Q) X.xe s₂) X.xe s₁) X.xe s
abbrev tB(t:TE):TT:=λσ H Q=>t σ H λx H1=>∃c,x=.bl c/\Q c H1
def Lq(h:PC X op a b t)(h1:behindInMarks op b=false:=by first|exact nobehind _ (by decide) (by decide)|rfl):PT X (.Compare a [op] [b] pos) (tB t):=by
 intro ξ s σ H Q I hw;refine Yh (bh (h ξ s σ H _ I hw) λv s1 h1=>bh h1 λu s2 h2=>bh h2 λc s3 ω=>?_) h1;obtain⟨x,H1,I1,r1,q1⟩:=ω;obtain⟨d,rfl,q⟩:=q1;cases r1;exact SX ⟨H1,I1,q⟩
def Lm(h:PE X e t)(he:∀whole,isTrue e X.env whole=(do let v <- whole;standAt e.pos;holding [v] (truthy v)):=by intro _;rfl):PT X e (tB t):=by
 intro ξ s σ H Q I hw;refine isTrue_plain (bh (h ξ s σ H _ I hw) λv s1 ω=>?_) (he _);obtain⟨x,H1,I1,r1,q1⟩:=ω;obtain⟨d,rfl,q⟩:=q1;cases r1;exact SX ⟨H1,I1,q⟩
variable{tA tB':TT}{rest:List Expr}
abbrev mB(t u:TT):TT:=λσ H Q=>t σ H λc H1=>if c=true then u σ H1 Q else Q false H1
abbrev Cj(t u:TT):TT:=λσ H Q=>t σ H λc H1=>if c=true then Q true H1 else u σ H1 Q
abbrev gb(t:TT):TT:=λσ H Q=>t σ H λc H1=>Q (!c) H1
def pw_and1(ha:PT X a tA):PW X (.BoolOp .And [a] pos) tA:=by
 intro wh ξ s σ H Q I h;refine isTrue_and (bh (ha ξ s σ H Q I h) λc s1 e=>?_);cases c with
 |true=>exact isTrue_and_nil e
 |false=>exact e
def pw_or1(ha:PT X a tA):PW X (.BoolOp .Or [a] pos) tA:=by
 intro wh ξ s σ H Q I h;refine isTrue_or (bh (ha ξ s σ H Q I h) λc s1 e=>?_);cases c with
 |false=>exact isTrue_or_nil e
 |true=>exact e
def pw_and(ha:PT X a tA)(hb:PW X (.BoolOp .And (b :: rest) pos) tB'):PW X (.BoolOp .And (a :: b :: rest) pos) (mB tA tB'):=by
 intro wh ξ s σ H Q I h;refine isTrue_and (bh (ha ξ s σ H _ I h) λc s1 ω=>?_);obtain⟨H1,I1,q1⟩:=ω;cases c with
 |true=>exact hb wh ξ s1 σ H1 Q I1 q1
 |false=>exact⟨H1,I1,q1⟩
def pw_or(ha:PT X a tA)(hb:PW X (.BoolOp .Or (b :: rest) pos) tB'):PW X (.BoolOp .Or (a :: b :: rest) pos) (Cj tA tB'):=by
 intro wh ξ s σ H Q I h;refine isTrue_or (bh (ha ξ s σ H _ I h) λc s1 ω=>?_);obtain⟨H1,I1,q1⟩:=ω;cases c with
 |true=>exact⟨H1,I1,q1⟩
 |false=>exact hb wh ξ s1 σ H1 Q I1 q1
def Lp(ha:PT X a tA):PT X (.UnaryOp .Not a pos) (gb tA):=by
 intro ξ s σ H Q I h;exact isTrue_not (ha ξ s σ H (λc H1=>Q (!c) H1) I h)
abbrev gf(ta tb:TE):TE:=λσ H Q=>ta σ H λx H1=>∃c,x=.bl c/\if c=true then tb σ H1 Q else Q (.bl false) H1
abbrev Ht(ta tb:TE):TE:=λσ H Q=>ta σ H λx H1=>∃c,x=.bl c/\if c=true then Q (.bl true) H1 else tb σ H1 Q
abbrev yl(ta:TE):TE:=λσ H Q=>ta σ H λx H1=>∃c,x=.bl c/\Q (.bl (!c)) H1
def LI{op}(h:PE X a t):PE X (.BoolOp op [a] pos) t:=λξ s σ H Q I hw=>BoolOp_one (h ξ s σ H Q I hw)
def LS(ha:PE X a ta)(hb:PE X (.BoolOp .And (b :: rest) pos) tb):PE X (.BoolOp .And (a :: b :: rest) pos) (gf ta tb):=by
 intro ξ s σ H Q I h;refine BoolOp_and (bh (ha ξ s σ H _ I h) λv s1 ω=>?_);obtain⟨x,H1,I1,r1,q1⟩:=ω;obtain⟨c,rfl,q1⟩:=q1;cases r1;refine SX ?_;cases c with
 |true=>exact hb ξ s1 σ H1 Q I1 q1
 |false=>exact⟨.bl false,H1,I1,rfl,q1⟩
def OF(ha:PE X a ta)(hb:PE X (.BoolOp .Or (b :: rest) pos) tb):PE X (.BoolOp .Or (a :: b :: rest) pos) (Ht ta tb):=by
 intro ξ s σ H Q I h;refine BoolOp_or (bh (ha ξ s σ H _ I h) λv s1 ω=>?_);obtain⟨x,H1,I1,r1,q1⟩:=ω;obtain⟨c,rfl,q1⟩:=q1;cases r1;refine SX ?_;cases c with
 |false=>exact hb ξ s1 σ H1 Q I1 q1
 |true=>exact⟨.bl true,H1,I1,rfl,q1⟩
def LJ(ha:PE X a ta):PE X (.UnaryOp .Not a pos) (yl ta):=by
 intro ξ s σ H Q I h;refine UnaryOp_ (bh (ha ξ s σ H _ I h) λv s1 ω=>?_);obtain⟨x,H1,I1,r1,q1⟩:=ω;obtain⟨c,rfl,q1⟩:=q1;cases r1;exact not_of (SX ⟨.bl (!c),H1,I1,rfl,q1⟩)
abbrev KH(t:TT)(ta tb:TE):TE:=λσ H Q=>t σ H λc H1=>if c=true then ta σ H1 Q else tb σ H1 Q
def Ek(hc:PT X c tA)(ha:PE X a ta)(hb:PE X b tb):PE X (.IfExp c a b pos) (KH tA ta tb):=by
 intro ξ s σ H Q I h;refine wpAny_IfExp (bh (hc ξ s σ H _ I h) λd s1 ω=>?_);obtain⟨H1,I1,q1⟩:=ω;cases d with
 |true=>exact ha ξ s1 σ H1 Q I1 q1
 |false=>exact hb ξ s1 σ H1 Q I1 q1
end
abbrev SqL(K:Fg)(H:Hp)(a:Addr)(xs:List V):Prop :=
 Rd H a (.lst xs) \/
  ∃(o:Obj) (gV:Array QF) (n:Nat),K.lookup a=some o/\o.cls=.type "list"/\o.dict=none/\o.data=.seq gV n/\gV.size<=sizeLine/\Vals xs gV.toList
abbrev SqT(K:Fg)(H:Hp)(a:Addr)(xs:List V):Prop :=
 Rd H a (.tup xs) \/
  ∃(o:Obj) (gV:Array QF) (n:Nat),K.lookup a=some o/\o.cls=.type "tuple"/\o.data=.seq gV n/\gV.size<=sizeLine/\Vals xs gV.toList
abbrev P5:QF->Option V
 |.none=>some .non
 |.bool b=>some (.bl b)
 |.int i _=>↥i
 |.str x _=>some (.str x)
 |.bytes b _=>some (.byt b)
 |.float b _=>some (.flt b)
 |.ref a=>⇑a
 |.type n=>some (.ty n)
 |_=>none
def RelV.abs(r:RelV x u):P5 u=some x:=by
 cases x with
 |non=>cases r;rfl
 |bl _=>cases r;rfl
 |int _=>obtain⟨t,rfl⟩:=r;rfl
 |str _=>obtain⟨t,rfl⟩:=r;rfl
 |byt _=>obtain⟨t,rfl⟩:=r;rfl
 |flt _=>obtain⟨t,rfl⟩:=r;rfl
 |ref _=>cases r;rfl
 |ty _=>cases r;rfl
def RelV.inj(r:RelV x u)(q:RelV y u):x=y:=Q7 (r.abs.symm.trans q.abs)
def Vals.inj:∀{xs ys:List V} {us:List QF},Vals xs us->Vals ys us->xs=ys
 |_,_,_,.nil,.nil=>rfl
 |_,_,_,.cons r t,.cons r' t'=>by rw[r.inj r',Vals.inj t t']
section
variable{X:Cx}{ξ:List (Addr×Obj)}{σ:St}{H:Hp}{s:QP}{a:Addr}{xs ys:List V}
def SqL.of{K:Fg}(h:H a=some (.lst xs)):SqL K H a xs:=.inl (.inl h)
def SqT.of{K:Fg}(h:H a=some (.tup xs)):SqT K H a xs:=.inl (.inl h)
def Inv.list(I:Inv X ξ σ H s)(h:SqL X.K H a xs):∃gV:List QF,Vals xs gV/\PlainL s.heap a gV.toArray/\xs.length<=sizeLine:=by
 rcases h with h|⟨o,gV,n,hk,hc,hd,hs,hz,r⟩
 .obtain⟨z,gV,n,r,e⟩:=h.ok I.hok;exact⟨gV,r,⟨_,n,e,rfl,rfl,rfl⟩,z⟩
 .refine⟨gV.toList,r,⟨o,n,I.kIn a o hk,hc,hd,by simpa using hs⟩,?_⟩;have e:=r.length;simp only[Ro] at e;lia
def Inv.tuple(I:Inv X ξ σ H s)(h:SqT X.K H a xs):∃gV:List QF,Vals xs gV/\IsTup s.heap a gV.toArray/\xs.length<=sizeLine:=by
 rcases h with h|⟨o,gV,n,hk,hc,hs,hz,r⟩
 .obtain⟨z,gV,r,p⟩:=h.ok I.hok;exact⟨gV,r,p.tup,z⟩
 .refine⟨gV.toList,r,⟨o,I.kIn a o hk,hc,n,by simpa using hs⟩,?_⟩;have e:=r.length;simp only[Ro] at e;lia
def Inv.nG(I:Inv X ξ σ H s)(h:SqL X.K H a xs)(h':SqL X.K H a ys):xs=ys:=by
 obtain⟨gV,r,⟨o,n,e,_,_,d⟩,_⟩:=I.list h;obtain⟨its',r',⟨o',n',e',_,_,d'⟩,_⟩:=I.list h';rw[e] at e';cases e';rw[d] at d';injection d' with d1 _
 have:gV=its':=by simpa using congrArg Array.toList d1
 subst this;exact r.inj r'
def Inv.oM(I:Inv X ξ σ H s)(h:SqT X.K H a xs)(h':SqT X.K H a ys):xs=ys:=by
 obtain⟨gV,r,⟨o,e,_,n,d⟩,_⟩:=I.tuple h;obtain⟨its',r',⟨o',e',_,n',d'⟩,_⟩:=I.tuple h';rw[e] at e';cases e';rw[d] at d';injection d' with d1 _
 have:gV=its':=by simpa using congrArg Array.toList d1
 subst this;exact r.inj r'
end
nonrec abbrev Cx.wish(X:Cx)(E:QF->QP->Prop):Cx:={X with xe:=E}
nonrec abbrev Cx.nox(X:Cx):Cx:=X.wish λ_ _=>False
def Cx.Ok.wish{X:Cx}(ok:X.Ok)(E:QF->QP->Prop):(X.wish E).Ok :=
 ⟨ok.mod,ok.kind,ok.glob,ok.blt,ok.above,ok.inj,ok.has,ok.cab,ok.hd,ok.frames,ok.stk,ok.exf,ok.bs,ok.bsz,ok.noex,ok.exfs,ok.funs,ok.frf⟩
def Cx.Ok.hZ{X:Cx}(ok:(X.wish E).Ok):X.Ok :=
 ⟨ok.mod,ok.kind,ok.glob,ok.blt,ok.above,ok.inj,ok.has,ok.cab,ok.hd,ok.frames,ok.stk,ok.exf,ok.bs,ok.bsz,ok.noex,ok.exfs,ok.funs,ok.frf⟩
section
variable{X:Cx}{ξ:List (Addr×Obj)}{σ:St}{H:Hp}{s:QP}{E:QF->QP->Prop}
def Inv.wish(I:Inv X ξ σ H s)(E:QF->QP->Prop):Inv (X.wish E) ξ σ H s:=⟨I.ok.wish E,I.os,I.bare,I.base,I.loc,I.cell,I.free,I.freeC,I.pin,I.hok,I.len⟩
def Inv.hZ(I:Inv (X.wish E) ξ σ H s):Inv X ξ σ H s:=⟨I.ok.hZ,I.os,I.bare,I.base,I.loc,I.cell,I.free,I.freeC,I.pin,I.hok,I.len⟩
def SP.hZ{D:cq}(h:SP (X.wish E) ξ D f s'):SP X ξ D f s':=by
 cases f with
 |next=>obtain⟨σ',H',I,q⟩:=h;exact⟨σ',H',I.hZ,q⟩
 |brk=>obtain⟨σ',H',I,q⟩:=h;exact⟨σ',H',I.hZ,q⟩
 |cont=>obtain⟨σ',H',I,q⟩:=h;exact⟨σ',H',I.hZ,q⟩
 |ret u=>obtain⟨v,σ',H',I,r,q⟩:=h;exact⟨v,σ',H',I.hZ,r,q⟩
def PSs.nox{st:List Stmt}(h:PSs X.nox st t):PSs X st t:=λξ s σ H D I hw =>
 SL (h ξ s σ H D (I.wish _) hw) (λ_ _ q=>q.hZ) λ_ _ z=>US z
end
section
variable{X:Cx}{st:Stmt}{rest:List Stmt}{t u:TS}{e:Expr}{te:TE}{pos:Pos}
abbrev aV:TS:=λD σ H=>D.nx σ H
abbrev am(t u:TS):TS:=λD σ H=>t {D with nx:=u D} σ H
def IJ:PSs X [] aV:=λ_ _ σ H _ I h=>Ww ⟨σ,H,I,h⟩
def Eb(h1:PS X st t)(h2:PSs X rest u):PSs X (st :: rest) (am t u):=by
 intro ξ s σ H D I h;refine wpAny_execs_cons (bh (h1 ξ s σ H {D with nx:=u D} I h) λf s1 q=>?_);cases f with
 |next =>
  obtain⟨σ',H',I',q⟩:=q;exact h2 ξ s1 σ' H' D I' q
 |ret v=>exact q
 |brk=>exact q
 |cont=>exact q
def II(h1:PS X st t):PSs X [st] t:=by
 intro ξ s σ H D I h;refine wpAny_execs_cons (bh (h1 ξ s σ H D I h) λf s1 q=>?_);cases f with
 |next=>exact Ww q
 |ret v=>exact q
 |brk=>exact q
 |cont=>exact q
def Inv.quiet{H:Hp}(I:Inv X ξ σ H s):interactive X.env=false:=by simp[interactive,I.ok.kind]
abbrev bz(te:TE):TS:=λD σ H=>te σ H λ_ H1=>D.nx σ H1
def IK(he:PE X e te)(hs:swapsWith e none pos.line X.env=pure false:=by rfl):PS X (.Expr e pos) (bz te):=by
 intro ξ s σ H D I h;exact wpAny_Expr_any (bh (he ξ s σ H _ I h) (by rintro v s1 ⟨x,H1,I1,r1,q1⟩;exact ⟨σ,H1,I1,q1⟩)) I.quiet hs
abbrev aG(te:TE):TS:=λD σ H=>te σ H D.rt
def Lu(he:PE X e te):PS X (.Return (some e) pos) (aG te):=by
 intro ξ s σ H D I h;exact wpAny_Return_some (bh (he ξ s σ H _ I h) (by rintro v s1 ⟨x,H1,I1,r1,q1⟩;exact ⟨x,σ,H1,I1,r1,q1⟩))
abbrev aS(c:TT)(t u:TS):TS:=λD σ H=>c σ H λb H1=>if b=true then t D σ H1 else u D σ H1
def OD(hc:PT X c tc)(ha:PSs X a t)(hb:PSs X b u):PS X (.If c a b pos) (aS tc t u):=by
 intro ξ s σ H D I h;refine wpAny_If (bh (hc ξ s σ H _ I h) λd s1 ω=>?_);obtain⟨H1,I1,q1⟩:=ω;cases d with
 |true=>exact ha ξ s1 σ H1 D I1 q1
 |false=>exact hb ξ s1 σ H1 D I1 q1
abbrev ia:TS:=λ_ _ _=>False
def zA:PSs X sts ia:=λ_ _ _ _ _ _ h=>h.elim
end
nonrec abbrev TG:=V->St->Hp->(St->Hp->Prop)->Prop
nonrec abbrev Fu:=List V->St->Hp->(St->Hp->Prop)->Prop
abbrev PG(X:Cx)(target:Expr)(t:TG):Prop :=
 ∀(ξ:List (Addr×Obj)) (s:QP) (σ:St) (H:Hp) (v:V) (u:QF) (Q:St->Hp->Prop),Inv X ξ σ H s->RelV v u->t v σ H Q ->
  wpAny (model X.prog X.w) X.A (assign target X.env u) (λ_ s'=>∃σ' H',Inv X ξ σ' H' s'/\Q σ' H') X.xe s
abbrev Km(X:Cx)(ts:List Expr)(t:Fu):Prop :=
 ∀(ξ:List (Addr×Obj)) (s:QP) (σ:St) (H:Hp) (vs:List V) (us:List QF) (Q:St->Hp->Prop),Inv X ξ σ H s->Vals vs us->t vs σ H Q ->
  wpAny (model X.prog X.w) X.A (assignInOrder ((assignEach ts X.env).map (·.2)) us) (λ_ s'=>∃σ' H',Inv X ξ σ' H' s'/\Q σ' H') X.xe s
nonrec abbrev Ft:=V->V->V->Hp->(Hp->Prop)->Prop
abbrev N1(X:Cx)(t:Ft):Prop :=
 ∀(ξ:List (Addr×Obj)) (s:QP) (σ:St) (H:Hp) (o i v:V) (ov iv u:QF) (Q:Hp->Prop),Inv X ξ σ H s->RelV o ov->RelV i iv->RelV v u->t o i v H Q ->
  wpAny (model X.prog X.w) X.A (setItem ov iv u) (λ_ s'=>∃H',Inv X ξ σ H' s'/\Q H') X.xe s
section
variable{X:Cx}{pos:Pos}
abbrev al(i:Nat):TG:=λv σ H Q=>Q (σ.set i (some v)) H
def zP{i:Nat}{x:Str}(hN:X.N.Nodup)(hi:X.N[i]?=some x)(hx:Loc X.env.scope x)(hf:X.fn x=true\/X.env.scope.names.lookup x=some .local:=by first|exact .inl rfl|exact .inr rfl|assumption):PG X (.Name x pos) (al i):=by
 intro ξ s σ H v u Q I r h;exact wpAny_assign_Name (iW I hN hi hx r (λs' I'=>⟨_,H,I',h⟩) hf)
abbrev cy:Fu:=λvs σ H Q=>vs=[]/\Q σ H
abbrev aX(t:TG)(u:Fu):Fu:=λvs σ H Q=>∃v r,vs=v :: r/\t v σ H λσ' H'=>u r σ' H' Q
def IZ:Km X [] cy:=by
 intro ξ s σ H vs us Q I r h;obtain⟨e,h⟩:=h;subst e;cases r;exact assignInOrder_nil ⟨σ,H,I,h⟩
def Ei(h1:PG X e t)(h2:Km X es u)
  (hs:(assignEach (e :: es) X.env).map (·.2)=assign e X.env :: (assignEach es X.env).map (·.2):=by rfl):Km X (e :: es) (aX t u):=by
 intro ξ s σ H vs us Q I r h;obtain⟨v,vr,e1,h⟩:=h;subst e1;cases r with
 |cons r rr =>
  rw[hs];refine WU (bh (h1 ξ s σ H _ _ _ I r h) λ_ s1 ω=>?_);obtain⟨σ1,H1,I1,q1⟩:=ω;exact h2 ξ s1 σ1 H1 _ _ Q I1 rr q1
abbrev cx(K:Fg)(n:Nat)(t:Fu):TG:=λv σ H Q=>∃a xs,v=.ref a/\SqT K H a xs/\xs.length=n/\t xs σ H Q
def LC{n:Nat}(hc:X.calm=true)(h:Km X es t)
  (hn:(assignEach es X.env).length=n:=by rfl) (hst:(assignEach es X.env).findIdx? (·.1)=none:=by rfl):PG X (.Tuple es k pos) (cx X.K n t):=by
 intro ξ s σ H v u Q I r hw;obtain⟨a,xs,e1,hq,hl,hw⟩:=hw;subst e1;cases r;obtain⟨gV,rv,ht,hz⟩:=I.tuple hq;refine assign_Tuple_tuple (I.ok.hd hc) ht (by simp[hn,<- hl,rv.length]) hst λh' hx=>?_
 have I1:Inv X ξ σ H {s with heap:=h'}:=I.kept (t':=s.toks) λb o e=>hx b o (RE (Q_ e)) e
 exact h ξ _ σ H xs _ Q I1 (by simpa using rv) hw
abbrev E5(to ti:TE)(t:Ft):TG:=λv σ H Q=>to σ H λo H1=>ti σ H1 λi H2=>t o i v H2 λH3=>Q σ H3
def LD(ho:PE X o to)(hi:PE X i ti)(hs:N1 X t)
  (ha:∀v,assign (.Subscript o i pos) X.env v=(do
   let ov <- holding [v] (eval o X.env)
   let iv <- holding [v,ov] (eval i X.env)
   standAt pos
   holding [v,ov,iv] (setItem ov iv v)
   release [v,ov,iv] []):=by intro _;rfl):PG X (.Subscript o i pos) (E5 to ti t):=by
 intro ξ s σ H v u Q I r h;rw[ha];refine QE (T8 (bh (ho ξ s σ H _ I h) λov s1 ω=>?_));obtain⟨x,H1,I1,r1,q1⟩:=ω;refine QE (T8 (bh (hi ξ s1 σ H1 _ I1 q1) λiv s2 ω=>?_));obtain⟨y,H2,I2,r2,q2⟩:=ω;refine QE (Xr (QE (T8 (bh (hs ξ s2 σ H2 x y v ov iv u _ I2 r1 r2 r q2) λ_ s3 ω=>?_))));obtain⟨H3,I3,q3⟩:=ω;exact wpAny_release ⟨σ,H3,I3,q3⟩
abbrev aw(te:TE)(g:TG):TS:=λD σ H=>te σ H λx H1=>g x σ H1 D.nx
def Lx(he:PE X e te)(hg:PG X tg g)(hs:swapsWithSole [tg] e pos.line X.env=pure false:=by rfl)(hw:swappedStores [tg] e X.env=pure none:=by rfl)
  (h1:(assignEach [tg] X.env).map (·.2)=[assign tg X.env]:=by rfl):PS X (.Assign [tg] e pos) (aw te g):=by
 intro ξ s σ H D I h;refine wpAny_Assign_stores (bh (he ξ s σ H _ I h) λv s1 ω=>?_) hs hw;obtain⟨x,H1,I1,r1,q1⟩:=ω;rw[h1];exact bh (hg ξ s1 σ H1 x v _ I1 r1 q1) λ_ s2 q=>q
def Ls{i:Nat}{x:Str}(hN:X.N.Nodup)(hi:X.N[i]?=some x)(hx:Loc X.env.scope x)(he:PE X e te)(hs:swapsWith e (some (.Name x pos')) pos.line X.env=pure false:=by rfl)(hf:X.fn x=true\/X.env.scope.names.lookup x=some .local:=by first|exact .inl rfl|exact .inr rfl|assumption) :
  PS X (.Assign [.Name x pos'] e pos) (aw te (al i)):=by
 intro ξ s σ H D I h;refine wpAny_Assign_Name (bh (he ξ s σ H _ I h) λv s1 ω=>?_) hs;obtain⟨y,H1,I1,r1,q1⟩:=ω;exact iW I1 hN hi hx r1 (λs2 I2=>⟨_,H1,I2,q1⟩) hf
abbrev C4(i j:Nat)(ta:TA):TS:=λD σ H=>ta σ H λvs H1=>∃v w,vs=[v,w]/\D.nx ((σ.set i (some v)).set j (some w)) H1
def Lv{i j:Nat}{x y:Str}{a b:Expr}{ta:TA}{pt:Pos}{kt k2 pt2}(hc:X.calm=true)(hN:X.N.Nodup)(hi:X.N[i]?=some x)(hj:X.N[j]?=some y)(hij:i≠j)
  (hx:X.env.scope.names.lookup x=some .local) (hy:X.env.scope.names.lookup y=some .local) (ha:PA X [a,b] ta)
  (hw:swappedStores [.Tuple [.Name x px,.Name y py] kt pt] (.Tuple [a,b] k2 pt2) X.env=pure (some [x,y]))
  (hs:swapsWithSole [.Tuple [.Name x px,.Name y py] kt pt] (.Tuple [a,b] k2 pt2) pos.line X.env=pure false:=by rfl) :
  PS X (.Assign [.Tuple [.Name x px,.Name y py] kt pt] (.Tuple [a,b] k2 pt2) pos) (C4 i j ta):=by
 intro ξ s σ H D I h;rw[exec_Assign_arm];refine QE (Xr ?_);rw[hs];refine QE (Q1 ?_);rw[if_neg (by decide)];refine QE (Tuple_ (bh (ha _ ξ s σ H _ I h) λus s1 ω=>?_));obtain⟨vs,H1,I1,r1,q1⟩:=ω;obtain⟨v,w,e1,q1⟩:=q1;subst e1
 obtain⟨u1,u2,rfl,rv,rw'⟩:∃u1 u2,us=[u1,u2]/\RelV v u1/\RelV w u2:=by
  cases r1 with
  |cons p q =>
   cases q with
   |cons p' q' =>
    cases q';exact⟨_,_,rfl,p,p'⟩
 refine SG ?_ (by show 2<=sizeLine;decide);have I2:Inv X ξ σ H1 {s1 with heap:=s1.heap.push {cls:=.type "tuple",data:=.seq [u1,u2].toArray}}:=I1.kept (t':=s1.toks) λb o e=>QN _ e
 rw[hw];refine QE (Q1 ?_);show wpAny (model X.prog X.w) X.A (do rule "assign.swapped-stores";let items <- unpackItems (.ref s1.heap.objs.size) 2 none;assignInOrder [λv=>bindName X.env y v,λv=>bindName X.env x v] items.reverse;pure Flow.next) _ _ _;refine QE (XY (QE (unpackItems_tuple (items:=#[u1,u2]) (I.ok.hd hc) (IsTup.new s1.heap _) λh' hx'=>?_)));have I3:=I2.kept (h':=h') (t':=s1.toks) λb o e=>hx' b o (RE (Q_ e)) e
 show wpAny _ _ (assignInOrder [λv=>bindName X.env y v,λv=>bindName X.env x v] [u2,u1] >>= λ_=>pure Flow.next) _ _ _;refine QE (WU (wpAny_bindName (iW I3 hN hj (.inl hy) rw' (λs2 I4=>?_) (.inr hy))));refine WU (wpAny_bindName (iW I4 hN hi (.inl hx) rv (λs3 I5=>assignInOrder_nil (Q1 ?_)) (.inr hx)));rw[List.set_comm _ _ (Xf hij)] at I5;exact⟨_,H1,I5,q1⟩
end
section
variable{X:Cx}{pos:Pos}
abbrev h_(c:TT)(tb:TS):TS:=λD σ H=>∃W:Nat->St->Hp->Prop,(∃m,W m σ H)/\∀m σ H,W m σ H ->
 c σ H λb H1=>if b=true then ∃N:St->Hp->Prop,(∀σ' H',N σ' H'->∃m',m'<m/\W m' σ' H')/\tb {D with nx:=N,ct:=N,bk:=D.nx} σ H1 else D.nx σ H1
def Ec(hp:PassesOwn (model X.prog X.w) X.A X.env X.xe)(hc:PT X c tc)(hb:PSs X body tb):PS X (.While c body [] pos) (h_ tc tb):=by
 intro ξ s σ H D I h;obtain⟨W,⟨m0,w0⟩,turn⟩:=h;refine wpAny_While (codeAny_whileLoop (λn s'=>∃σ' H',Inv X ξ σ' H' s'/\W n σ' H') ?_ m0 ⟨σ,H,I,w0⟩);rintro n s1 ⟨σ1,H1,I1,w1⟩;refine Up hp (bh (hc ξ s1 σ1 H1 _ I1 (turn n σ1 H1 w1)) λb s2 ω=>?_);obtain⟨H2,I2,q2⟩:=ω;cases b with
 |true =>
  obtain⟨N,hN,q2⟩:=q2;rw[if_pos rfl];refine Up hp (bh (hb ξ s2 σ1 H2 _ I2 q2) λf s3 q3=>?_);cases f with
  |next =>
   obtain⟨σ3,H3,I3,n3⟩:=q3;obtain⟨m',hm,w3⟩:=hN σ3 H3 n3;exact⟨m',hm,σ3,H3,I3,w3⟩
  |cont =>
   obtain⟨σ3,H3,I3,n3⟩:=q3;obtain⟨m',hm,w3⟩:=hN σ3 H3 n3;exact⟨m',hm,σ3,H3,I3,w3⟩
  |brk=>exact q3
  |ret v=>exact q3
 |false =>
  rw[if_neg Rj];exact Ww ⟨σ1,H2,I2,q2⟩
end
structure It where
 go:Nat->Hp->Prop
 yld:Nat->Hp->V->Hp->Prop
 stop:Nat->Hp->Prop
abbrev iR(X:Cx)(ξ:List (Addr×Obj))(H:Hp)(b:Addr):Prop :=
 H b=none/\b≠X.env.locals/\b∉X.fs/\(b∈X.ex\/X.s₀.heap.objs.size<=b)/\(∀x c,X.env.cells.lookup x=some c->c≠b)/\∀p∈X.pn++ξ,p.1≠b
def Inv.fpOk{H H':Hp}{b:Addr}(I:Inv X ξ σ H s)(hb:s.heap.objs.size<=b)(hn:H' b=none):iR X ξ H' b:=by
 refine⟨hn,UT (Re I.lt hb),I.nofs hb,.inr (Q0 I.sz hb),λx c e z=>?_,λp hp z=>?_⟩
 .obtain⟨v,q⟩:=I.cell x c e;exact absurd (Re q.lt (by rw[z];exact hb)) (T7 _)
 .exact absurd (Re (Q_ (I.pin p hp).1) (by rw[z];exact hb)) (T7 _)
structure qL (P:Rx) (w:RQ) (K:Fg) (tg:Expr) (J:It) (fp:List Addr) (it:Addr) (tn:Nat->Heap->Prop):Prop where
 mem:it∈fp
 obj:∀i h,tn i h->∀b∈fp,∃o,h.get? b=some o/\∀v,o.data≠.cell v
 keep:∀i h h',tn i h->(∀b∈fp,∀o,h.get? b=some o->h'.get? b=some o)->tn i h'
 item:∀(X:Cx),X.prog=P->X.w=w->X.K=K->X.calm=true->∀(i:Nat) (ξ:List (Addr×Obj)) (s:QP) (σ:St) (H:Hp) (E:QF->QP->Prop),Inv X ξ σ H s->(∀b∈fp,iR X ξ H b)->tn i s.heap->J.go i H ->
  wpAny (model P w) X.A (pyNext (.ref it)) (λr s1=>∃u,r=some u /\
   wpAny (model P w) X.A (letOwnedTupleGo tg (.ref it) u) (λ_ s2=>∃x H',Inv X ξ σ H' s2/\RelV x u/\J.yld i H x H'/\tn (i+1) s2.heap/\∀b∈fp,H' b=none) E s1) E s
 done:∀(X:Cx),X.prog=P->X.w=w->X.K=K->X.calm=true->∀(i:Nat) (ξ:List (Addr×Obj)) (s:QP) (σ:St) (H:Hp) (E:QF->QP->Prop),Inv X ξ σ H s->(∀b∈fp,iR X ξ H b)->tn i s.heap->J.stop i H ->
  wpAny (model P w) X.A (pyNext (.ref it)) (λr s1=>r=none/\Inv X ξ σ H s1) E s
 self:∀(A:RT) (i:Nat) (s:QP) (Q:QF->QP->Prop) (E:QF->QP->Prop),tn i s.heap->Q (.ref it) s->wpAny (model P w) A (pyIter (.ref it)) Q E s
nonrec abbrev TI:=St->Hp->(It->Hp->Prop)->Prop
abbrev Oi(X:Cx)(ξ:List (Addr×Obj))(σ:St)(tg:Expr)(R:It->Hp->Prop)(itv:QF)(s2:QP):Prop :=
 ∃(it:Addr) (fp:List Addr) (tn:Nat->Heap->Prop) (J:It) (H':Hp),itv=.ref it/\Inv X ξ σ H' s2/\qL X.prog X.w X.K tg J fp it tn/\tn 0 s2.heap/\(∀b∈fp,iR X ξ H' b)/\R J H'
abbrev PI(X:Cx)(tg iter:Expr)(wi:TI):Prop :=
 ∀(ξ:List (Addr×Obj)) (s:QP) (σ:St) (H:Hp) (R:It->Hp->Prop),Inv X ξ σ H s->wi σ H R ->
  wpAny (model X.prog X.w) X.A (eval iter X.env) (λv s1=>wpAny (model X.prog X.w) X.A (pyIter v) (Oi X ξ σ tg R) X.xe s1) X.xe s
def E4{E:QF->QP->Prop} {s:QP}  {it:Addr}  {o:Obj}  {vs:Array QF} {Q:Unit->QP->Prop} (ho:s.heap.get? it=some o) (hc:o.cls=.type n) (hd:o.data=.fields vs)
    (hn:["enumerate", "zip", "dict_itemiterator", "dict_reverseitemiterator", "odict_iterator", "itertools.zip_longest", "itertools.pairwise"].contains n=false) (hQ:Q () s):wpAny M A (letOwnedTupleGo tg (.ref it) u) Q E s := by
  unfold letOwnedTupleGo
  cases tg <;> first
    |exact Q1 hQ
    | (cases u <;> first
        |exact Q1 hQ
        | (refine QE (wpAny_load ho ?_)
           rw[hc, hd]
           show wpAny M A (if (["enumerate", "zip", "dict_itemiterator", "dict_reverseitemiterator", "odict_iterator", "itertools.zip_longest", "itertools.pairwise"].contains n && vs[0]? == some (rawInt _))=true then _ else _) Q E s
           rw[if_neg (by intro h; rw[hn, Zak] at h; cases h)]
           exact Q1 hQ))
abbrev vC(K:Fg)(a:Addr):It :=
 ⟨λi H=>∃xs x,SqL K H a xs/\xs[i]?=some x,λi H x H'=>H'=H/\∀xs,SqL K H a xs->xs[i]?=some x,λi H=>∃xs,SqL K H a xs/\xs.length<=i⟩
abbrev wJ(K:Fg)(a:Addr):It :=
 ⟨λi H=>∃xs x,SqT K H a xs/\xs[i]?=some x,λi H x H'=>H'=H/\∀xs,SqT K H a xs->xs[i]?=some x,λi H=>∃xs,SqT K H a xs/\xs.length<=i⟩
abbrev oG(lo:Int)(n:Nat):It:=⟨λi _=>i<n,λi H x H'=>H'=H/\x=.int (lo+i),λi _=>n<=i⟩
def w4{K:Fg}(a it:Addr):qL P w K tg (vC K a) [it] it (λi h=>h.IsListIter it a i) where
 mem:=by simp
 obj:=λi h st b hb=>by
  have e:b=it:=by simpa using hb
  subst e;obtain⟨o,e,c,d⟩:=st;exact⟨o,e,λv z=>by rw[d] at z;cases z⟩
 keep:=λi h h' st k=>st.at λo e=>k it (by simp) o e
 item:=by
  intro X hP hw hK hc i ξ s σ H E I hf st hg;subst hP hw hK;obtain⟨xs,x,hq,hx⟩:=hg;obtain⟨gV,rv,p,hz⟩:=I.list hq;obtain⟨u,hu,ru⟩:=rv.get hx;obtain⟨f0,f1,f2,f3,f4,f5⟩:=hf it (by simp);refine wpAny_pyNext_list_item st p.isList (x:=u) (by simpa using hu) λh' st' sb=>?_
  have I1:Inv X ξ σ H {s with heap:=h'}:=I.turned (t':=s.toks) (λb o hb e=>(sb.2 b hb).trans e) f0 f1 f3 f4 f5;obtain⟨o,e,c,d⟩:=id st';exact⟨u,rfl,E4 (s:={s with heap:=h'}) e c d (by decide) ⟨x,H,I1,ru,⟨rfl,λys hy=>by rw[I.nG hy hq];exact hx⟩,st',λb hb=>(hf b hb).1⟩⟩
 done:=by
  intro X hP hw hK hc i ξ s σ H E I hf st hg;subst hP hw hK;obtain⟨xs,hq,hx⟩:=hg;obtain⟨gV,rv,p,hz⟩:=I.list hq;obtain⟨f0,f1,f2,f3,f4,f5⟩:=hf it (by simp);have hl:=rv.length;exact wpAny_pyNext_list_end (I.ok.hd hc) st p.isList (by simp;lia) λh' eb=>⟨rfl,I.turned (t':=s.toks) (λb o hb e=>eb b o hb e) f0 f1 f3 f4 f5⟩
 self:=λ_ _ _ _ _ st h=>wpAny_pyIter_listiter st h
def vH{K:Fg}(a it:Addr):qL P w K tg (wJ K a) [it] it (λi h=>h.IsTupleIter it a i) where
 mem:=by simp
 obj:=λi h st b hb=>by
  have e:b=it:=by simpa using hb
  subst e;obtain⟨o,e,c,d⟩:=st;exact⟨o,e,λv z=>by rw[d] at z;cases z⟩
 keep:=λi h h' st k=>st.at λo e=>k it (by simp) o e
 item:=by
  intro X hP hw hK hc i ξ s σ H E I hf st hg;subst hP hw hK;obtain⟨xs,x,hq,hx⟩:=hg;obtain⟨gV,rv,p,hz⟩:=I.tuple hq;obtain⟨u,hu,ru⟩:=rv.get hx;obtain⟨f0,f1,f2,f3,f4,f5⟩:=hf it (by simp);refine wpAny_pyNext_tuple_item st (show s.heap.IsTuple a gV.toArray from p) (x:=u) (by simpa using hu) λh' st' sb=>?_
  have I1:Inv X ξ σ H {s with heap:=h'}:=I.turned (t':=s.toks) (λb o hb e=>(sb.2 b hb).trans e) f0 f1 f3 f4 f5;obtain⟨o,e,c,d⟩:=id st';exact⟨u,rfl,E4 (s:={s with heap:=h'}) e c d (by decide) ⟨x,H,I1,ru,⟨rfl,λys hy=>by rw[I.oM hy hq];exact hx⟩,st',λb hb=>(hf b hb).1⟩⟩
 done:=by
  intro X hP hw hK hc i ξ s σ H E I hf st hg;subst hP hw hK;obtain⟨xs,hq,hx⟩:=hg;obtain⟨gV,rv,p,hz⟩:=I.tuple hq;obtain⟨f0,f1,f2,f3,f4,f5⟩:=hf it (by simp);have hl:=rv.length;exact wpAny_pyNext_tuple_end (I.ok.hd hc) st (show s.heap.IsTuple a gV.toArray from p) (by simp;lia) λh' eb=>⟨rfl,I.turned (t':=s.toks) (λb o hb e=>eb b o hb e) f0 f1 f3 f4 f5⟩
 self:=λ_ _ _ _ _ st h=>wpAny_pyIter_tupleiter st h
def kK{K:Fg}(it:Addr)(lo:Int)(n:Nat):qL P w K tg (oG lo n) [it] it (λi h=>Z2 h it (lo+(i:Nat)*1) ((n:Int)-(i:Nat)) 1) where
 mem:=by simp
 obj:=λi h st b hb=>by
  have e:b=it:=by simpa using hb
  subst e
  exact⟨_,st,λv z=>by
   have z':Yp _=XF v:=z
   cases z'⟩
 keep:=λi h h' st k=>k it (by simp) _ st
 item:=by
  intro X hP hw hK hc i ξ s σ H E I hf st hg;subst hP hw hK;obtain⟨f0,f1,f2,f3,f4,f5⟩:=hf it (by simp);have W:=YU.range (prog:=X.prog) (w:=X.w) (I.ok.hd hc) it lo 1 n;refine W.item i s _ _ hg st λv h' tk hv st' kk=>?_
  obtain⟨t,rfl⟩:=hv;have I1:Inv X ξ σ H {s with heap:=h',toks:=tk}:=I.turned (λb o hb e=>kk b o (by simpa using hb) e) f0 f1 f3 f4 f5;refine⟨_,rfl,E4 (s:={s with heap:=h',toks:=tk}) (n:="range_iterator") st' rfl rfl (by decide) ⟨.int (lo+i),H,I1,⟨t,?_⟩,⟨rfl,rfl⟩,st',λb hb=>(hf b hb).1⟩⟩;rw[Z3]
 done:=by
  intro X hP hw hK hc i ξ s σ H E I hf st hg;subst hP hw hK;obtain⟨f0,f1,f2,f3,f4,f5⟩:=hf it (by simp);exact wpAny_pyNext_range_end (I.ok.hd hc) st (by have:n<=i:=hg;lia) λh' eb=>⟨rfl,I.turned (t':=s.toks) (λb o hb e=>eb b o hb e) f0 f1 f3 f4 f5⟩
 self:=λ_ _ _ _ _ st h=>wpAny_pyIter_rangeiter st h
section
variable{X:Cx}{tg:Expr}
abbrev ce(K:Fg)(tl:TE):TI:=λσ H R=>tl σ H λx H1=>∃a,x=.ref a/\(∃xs,SqL K H1 a xs)/\R (vC K a) H1
abbrev qk(K:Fg)(tl:TE):TI:=λσ H R=>tl σ H λx H1=>∃a,x=.ref a/\(∃xs,SqT K H1 a xs)/\R (wJ K a) H1
def IX(hl:PE X l tl):PI X tg l (ce X.K tl):=by
 intro ξ s σ H R I h;refine bh (hl ξ s σ H _ I h) λv s1 ω=>?_;obtain⟨x,H1,I1,r1,q1⟩:=ω
 obtain⟨a,e,⟨xs,hq⟩,q⟩:=q1;subst e;cases r1;obtain⟨gV,rv,p,hz⟩:=I1.list hq;refine Xg p.isList ?_;refine⟨s1.heap.objs.size,[s1.heap.objs.size],_,_,H1,rfl,I1.kept (t':=s1.toks) λb o e=>QN _ e,w4 a _,⟨_,Rg _ rfl,rfl,rfl⟩,λb hb=>?_,q⟩;have e:b=s1.heap.objs.size:=by simpa using hb
 subst e;exact I1.fpOk (QH _) (I1.hok.fresh (QH _))
def LB(hl:PE X l tl):PI X tg l (qk X.K tl):=by
 intro ξ s σ H R I h;refine bh (hl ξ s σ H _ I h) λv s1 ω=>?_;obtain⟨x,H1,I1,r1,q1⟩:=ω
 obtain⟨a,e,⟨xs,hq⟩,q⟩:=q1;subst e;cases r1;obtain⟨gV,rv,p,hz⟩:=I1.tuple hq;refine WV (show s1.heap.IsTuple a gV.toArray from p) ?_;refine⟨s1.heap.objs.size,[s1.heap.objs.size],_,_,H1,rfl,I1.kept (t':=s1.toks) λb o e=>QN _ e,vH a _,⟨_,Rg _ rfl,rfl,rfl⟩,λb hb=>?_,q⟩;have e:b=s1.heap.objs.size:=by simpa using hb
 subst e;exact I1.fpOk (QH _) (I1.hok.fresh (QH _))
def D7{H:Hp}{R:It->Hp->Prop}{lo hi:Int}{t u v:Tok}{tk:Nat}(I:Inv X ξ σ H s)(h1 : -(2 ^ 62)<=lo)(h2:lo<2 ^ 62)(h3 : -(2 ^ 62)<=hi)(h4:hi<2 ^ 62)
  (q:R (oG lo (hi-lo).toNat) H):wpAny (model X.prog X.w) X.A (pyIter (.ref s.heap.objs.size)) (Oi X ξ σ tg R) E {s with heap:=s.heap.push {cls:=.type "range",data:=.fields #[.int lo t,.int hi u,.int 1 v]},toks:=tk}:=by
 refine Y6 (Yq ..) (small_one h1 h2 h3 h4) ?_;have I1:Inv X ξ σ H {s with heap:=s.heap.push {cls:=.type "range",data:=.fields #[.int lo t,.int hi u,.int 1 v]},toks:=tk}:=I.kept λb o e=>QN _ e
 refine⟨(s.heap.push {cls:=.type "range",data:=.fields #[.int lo t,.int hi u,.int 1 v]}).objs.size,[(s.heap.push {cls:=.type "range",data:=.fields #[.int lo t,.int hi u,.int 1 v]}).objs.size],_,_,H,rfl,
  I1.kept (t':=tk) λb o e=>QN _ e,kK _ lo (hi-lo).toNat,?_,λb hb=>?_,q⟩
 .have e1:lo+((0:Nat):Int)*1=lo:=by simp
  have e2:(((hi-lo).toNat:Nat):Int)-((0:Nat):Int)=XG lo hi 1:=by rw[rangeSize_one];split <;> lia
  show Z2 _ _ (lo+((0:Nat):Int)*1) ((((hi-lo).toNat:Nat):Int)-((0:Nat):Int)) 1;rw[e1,e2];exact Rg _ rfl
 .have e:b=(s.heap.push {cls:=.type "range",data:=.fields #[.int lo t,.int hi u,.int 1 v]}).objs.size:=by simpa using hb
  subst e;exact I1.fpOk (QH _) (I1.hok.fresh (QH _))
abbrev ck(ta:TA):TI:=λσ H R=>ta σ H λvs H1=>∃j:Int,vs=[.int j]/\-(2 ^ 62)<=j/\j<2 ^ 62/\R (oG 0 j.toNat) H1
def zO{a:Expr} {ta:TA} {p pos:Pos} (hg:Gl X "range") (hm:X.mg "range"=none) (ha:PA X [a] ta) (hs:starEach [a] X.env=[(false,eval a X.env)]:=by rfl):PI X tg (.Call (.Name "range" p) [a] [] pos) (ck ta):=by
 intro ξ s σ H R I h;refine Call_ (dR I hg hm boot_range (RZ (bh (ha pos ξ s σ H _ I h) λus s1 ω=>?_) hs rfl));obtain⟨vs,H1,I1,r1,q1⟩:=ω;obtain⟨j,e,q1,q2,q⟩:=q1;subst e;cases r1 with
 |cons r rr =>
  cases rr;obtain⟨t,rfl⟩:=r;exact call_range_1 (D7 I1 (by lia) (by lia) q1 q2 (by simpa using q))
abbrev aW(wi:TI)(g:TG)(tb:TS):TS:=λD σ H=>wi σ H λJ H1=>∃W:Nat->Nat->St->Hp->Prop,(∃m,W 0 m σ H1)/\∀i m σ H,W i m σ H ->
 (J.stop i H/\D.nx σ H)\/(J.go i H/\∃N:St->Hp->Prop,(∀σ' H',N σ' H'->∃m',m'<m/\W (i+1) m' σ' H')/\∀x H',J.yld i H x H'->g x σ H' λσ2 H2=>tb {D with nx:=N,ct:=N,bk:=D.nx} σ2 H2)
abbrev ux(fp:List Addr)(h:Heap):List (Addr×Obj):=fp.filterMap λb=>(h.get? b).map λo=>(b,o)
def cH{fp:List Addr}{h:Heap}{b:Addr}{o:Obj}(hb:b∈fp)(e:h.get? b=some o):(b,o)∈ux fp h:=Y7.mpr ⟨b,hb,by rw[e];rfl⟩
def Ah{fp:List Addr}{p:Addr×Obj}(hp:p∈ux fp h):p.1∈fp/\h.get? p.1=some p.2:=by
 obtain⟨b,hb,e⟩:=Y7.mp hp;cases q:h.get? b with
 |none=>rw[q] at e;cases e
 |some o =>
  rw[q] at e;have e':(b,o)=p:=Q7 e;subst e';exact⟨hb,q⟩
def Inv.pinned{H:Hp}{fp:List Addr}(I:Inv X ξ σ H s)(hf:∀b∈fp,iR X ξ H b)(ho:∀b∈fp,∃o,s.heap.get? b=some o/\∀v,o.data≠.cell v):Inv X (ξ++ux fp s.heap) σ H s :=
 I.zJ λp hp=>(Q8.mp hp).elim (λz=>I.pin p (Q6 _ z)) λz=>by
  obtain⟨hb,e⟩:=Ah z;obtain⟨f0,f1,f2,_⟩:=hf p.1 hb;obtain⟨o,e',d⟩:=ho p.1 hb;rw[e] at e';cases e';exact⟨e,f0,f1,f2,d⟩
def Inv.ga{ξ pl:List (Addr×Obj)}{H:Hp}(I:Inv X (ξ++pl) σ H s):Inv X ξ σ H s:=I.zJ λp hp=>I.pin p (Q6 _ (Rc _ hp))
def Lw{iter:Expr}{pos:Pos}(hp:PassesOwn (model X.prog X.w) X.A X.env X.xe)(hc:X.calm=true)(hi:PI X tg iter wi)(hg:PG X tg g)(hb:PSs X body tb)
  (hs:∀x,foldedSetIterable iter X.env x=pure x:=by intro _;rfl):PS X (.For tg iter body [] pos) (aW wi g tb):=by
 intro ξ s σ H D I h;refine wpAny_For (bh (hi ξ s σ H _ I h) λv s1 h1=>bh h1 λitv s2 h2=>?_) hs;obtain⟨it,fp,tn,J,H2,e,I2,T,st2,f2,W,⟨m0,w0⟩,turn⟩:=h2;subst e;have stat:∀{H':Hp},(∀b∈fp,H' b=none)->∀b∈fp,iR X ξ H' b:=λhn b hb=>⟨hn b hb,(f2 b hb).2⟩
 refine codeAny_forLoop_any (λn s'=>∃i σ' H',Inv X ξ σ' H' s'/\tn i s'.heap/\(∀b∈fp,H' b=none)/\W i n σ' H') ?_ m0 ⟨0,σ,H2,I2,st2,λb hb=>(f2 b hb).1,w0⟩;rintro n s3 ⟨i,σ3,H3,I3,st3,fr3,w3⟩;rcases turn i n σ3 H3 w3 with⟨stop,qn⟩|⟨go,N,hN,step⟩
 .refine Up hp (bh (T.done X rfl rfl rfl hc i ξ s3 σ3 H3 X.xe I3 (stat fr3) st3 stop) λr s4 ω=>?_);obtain⟨hr,I4⟩:=ω;subst hr;exact Ww ⟨σ3,H3,I4,qn⟩
 .refine Up hp (bh (T.item X rfl rfl rfl hc i ξ s3 σ3 H3 X.xe I3 (stat fr3) st3 go) λr s4 ω=>?_);obtain⟨u,hr,h4⟩:=ω;subst hr;refine Up hp (bh h4 λ_ s5 ω=>?_);obtain⟨x,H5,I5,r5,y5,st5,fr5⟩:=ω;have I5':=I5.pinned (stat fr5) (T.obj _ _ st5);refine Up hp (bh (hg _ s5 σ3 H5 x u _ I5' r5 (step x H5 y5)) λ_ s6 ω=>?_);obtain⟨σ6,H6,I6,q6⟩:=ω;refine Up hp (bh (hb _ s6 σ6 H6 _ I6 q6) λf s7 q7=>?_)
  have again:∀{σ7:St} {H7:Hp},Inv X (ξ++ux fp s5.heap) σ7 H7 s7->N σ7 H7->∃m,m<n/\∃i σ' H',Inv X ξ σ' H' s7/\tn i s7.heap/\(∀b∈fp,H' b=none)/\W i m σ' H':=λ{σ7 H7} I7 n7=>by
   obtain⟨m',hm,w7⟩:=hN σ7 H7 n7;refine⟨m',hm,i+1,σ7,H7,I7.ga,T.keep _ _ _ st5 λb hb o e=>(I7.pin (b,o) (Q6 _ (Q6 _ (cH hb e)))).1,λb hb=>?_,w7⟩;obtain⟨o,e,d⟩:=T.obj _ _ st5 b hb;exact(I7.pin (b,o) (Q6 _ (Q6 _ (cH hb e)))).2.1
  cases f with
  |next=>obtain⟨σ7,H7,I7,n7⟩:=q7;exact again I7 n7
  |cont=>obtain⟨σ7,H7,I7,n7⟩:=q7;exact again I7 n7
  |brk=>obtain⟨σ7,H7,I7,q7⟩:=q7;exact⟨σ7,H7,I7.ga,q7⟩
  |ret v=>obtain⟨x7,σ7,H7,I7,r7,q7⟩:=q7;exact⟨x7,σ7,H7,I7.ga,r7,q7⟩
end
def E7{K:Fg}{xs:List V}{g:TG}{tb:TS}{D:cq}{H:Hp}(Pv:Nat->St->Hp->Prop)(h0:Pv 0 σ H)(hl:∀i σ H,i<=xs.length->Pv i σ H->SqL K H a xs)
  (hs:∀i x σ H,xs[i]?=some x->Pv i σ H->g x σ H λσ2 H2=>tb {D with nx:=Pv (i+1),ct:=Pv (i+1),bk:=D.nx} σ2 H2) (hd:∀σ H,Pv xs.length σ H->D.nx σ H) :
  ∃W:Nat->Nat->St->Hp->Prop,(∃m,W 0 m σ H)/\∀i m σ H,W i m σ H ->
   ((vC K a).stop i H/\D.nx σ H)\/((vC K a).go i H/\∃N:St->Hp->Prop,(∀σ' H',N σ' H'->∃m',m'<m/\W (i+1) m' σ' H')/\∀x H',(vC K a).yld i H x H'->g x σ H' λσ2 H2=>tb {D with nx:=N,ct:=N,bk:=D.nx} σ2 H2):=by
 refine⟨λi m σ H=>m=xs.length-i/\i<=xs.length/\Pv i σ H,⟨xs.length,by simp,RL _,h0⟩,?_⟩;rintro i m σ H ⟨rfl,hi,p⟩;have q:=hl i σ H hi p;by_cases Ad:i<xs.length
 .refine .inr ⟨⟨xs,xs[i],q,by simp[Ad]⟩,Pv (i+1),λσ' H' p'=>⟨xs.length-(i+1),by lia,rfl,Ad,p'⟩,λx H' y=>?_⟩;obtain⟨e,y⟩:=y;subst e;exact hs i x σ _ (y xs q) p
 .have e:i=xs.length:=by lia
  subst e;exact .inl ⟨⟨xs,q,QH _⟩,hd σ H p⟩
def JT{K:Fg}{xs:List V}{g:TG}{tb:TS}{D:cq}{H:Hp}(Pv:Nat->St->Hp->Prop)(h0:Pv 0 σ H)(hl:∀i σ H,i<=xs.length->Pv i σ H->SqT K H a xs)
  (hs:∀i x σ H,xs[i]?=some x->Pv i σ H->g x σ H λσ2 H2=>tb {D with nx:=Pv (i+1),ct:=Pv (i+1),bk:=D.nx} σ2 H2) (hd:∀σ H,Pv xs.length σ H->D.nx σ H) :
  ∃W:Nat->Nat->St->Hp->Prop,(∃m,W 0 m σ H)/\∀i m σ H,W i m σ H ->
   ((wJ K a).stop i H/\D.nx σ H)\/((wJ K a).go i H/\∃N:St->Hp->Prop,(∀σ' H',N σ' H'->∃m',m'<m/\W (i+1) m' σ' H')/\∀x H',(wJ K a).yld i H x H'->g x σ H' λσ2 H2=>tb {D with nx:=N,ct:=N,bk:=D.nx} σ2 H2):=by
 refine⟨λi m σ H=>m=xs.length-i/\i<=xs.length/\Pv i σ H,⟨xs.length,by simp,RL _,h0⟩,?_⟩;rintro i m σ H ⟨rfl,hi,p⟩;have q:=hl i σ H hi p;by_cases Ad:i<xs.length
 .refine .inr ⟨⟨xs,xs[i],q,by simp[Ad]⟩,Pv (i+1),λσ' H' p'=>⟨xs.length-(i+1),by lia,rfl,Ad,p'⟩,λx H' y=>?_⟩;obtain⟨e,y⟩:=y;subst e;exact hs i x σ _ (y xs q) p
 .have e:i=xs.length:=by lia
  subst e;exact .inl ⟨⟨xs,q,QH _⟩,hd σ H p⟩
def Bm{lo:Int}{n:Nat}{g:TG}{tb:TS}{D:cq}{H:Hp}(Pv:Nat->St->Hp->Prop)(h0:Pv 0 σ H)
  (hs:∀i σ H,i<n->Pv i σ H->g (.int (lo+i)) σ H λσ2 H2=>tb {D with nx:=Pv (i+1),ct:=Pv (i+1),bk:=D.nx} σ2 H2) (hd:∀σ H,Pv n σ H->D.nx σ H) :
  ∃W:Nat->Nat->St->Hp->Prop,(∃m,W 0 m σ H)/\∀i m σ H,W i m σ H ->
   ((oG lo n).stop i H/\D.nx σ H)\/((oG lo n).go i H/\∃N:St->Hp->Prop,(∀σ' H',N σ' H'->∃m',m'<m/\W (i+1) m' σ' H')/\∀x H',(oG lo n).yld i H x H'->g x σ H' λσ2 H2=>tb {D with nx:=N,ct:=N,bk:=D.nx} σ2 H2):=by
 refine⟨λi m σ H=>m=n-i/\i<=n/\Pv i σ H,⟨n,by simp,RL _,h0⟩,?_⟩;rintro i m σ H ⟨rfl,hi,p⟩;by_cases Ad:i<n
 .refine .inr ⟨Ad,Pv (i+1),λσ' H' p'=>⟨n-(i+1),by lia,rfl,Ad,p'⟩,λx H' y=>?_⟩;obtain⟨e,y⟩:=y;subst e y;exact hs i σ _ Ad p
 .have e:i=n:=by lia
  subst e;exact .inl ⟨QH _,hd σ H p⟩
def iT{c:TT}{tb:TS}{D:cq}{H:Hp}(Pv:St->Hp->Prop)(μ:St->Hp->Nat)(h0:Pv σ H)
  (hs:∀σ H,Pv σ H->c σ H λb H1=>if b=true then tb {D with nx:=λσ' H'=>Pv σ' H'/\μ σ' H'<μ σ H,ct:=λσ' H'=>Pv σ' H'/\μ σ' H'<μ σ H,bk:=D.nx} σ H1 else D.nx σ H1)
  (mono:∀σ H Q Q',(∀b H1,Q b H1->Q' b H1)->c σ H Q->c σ H Q'):h_ c tb D σ H:=by
 refine⟨λm σ H=>m=μ σ H/\Pv σ H,⟨_,rfl,h0⟩,?_⟩;rintro m σ H ⟨rfl,p⟩;refine mono σ H _ _ (λb H1 q=>?_) (hs σ H p);cases b with
 |true=>exact⟨_,(by rintro σ' H' ⟨p',l⟩;exact ⟨_,l,rfl,p'⟩),q⟩
 |false=>exact q
nonrec abbrev R2:=V->V->Hp->VK->Prop
abbrev fD(X:Cx)(f:QF->QF->Sem QF)(r:R2):Prop :=
 ∀(ξ:List (Addr×Obj)) (s:QP) (σ:St) (H:Hp) (x y:V) (v u:QF) (Q:VK),Inv X ξ σ H s->RelV x v->RelV y u->r x y H Q ->
  wpAny (model X.prog X.w) X.A (f v u) (EP X ξ σ Q) X.xe s
abbrev Of(X:Cx)(f:QF->Sem QF)(r:V->Hp->VK->Prop):Prop :=
 ∀(ξ:List (Addr×Obj)) (s:QP) (σ:St) (H:Hp) (x:V) (v:QF) (Q:VK),Inv X ξ σ H s->RelV x v->r x H Q ->
  wpAny (model X.prog X.w) X.A (f v) (EP X ξ σ Q) X.xe s
abbrev eR(X:Cx)(f:QF)(r:List V->Hp->VK->Prop):Prop :=
 ∀(ξ:List (Addr×Obj)) (s:QP) (σ:St) (H:Hp) (xs:List V) (us:List QF) (Q:VK),Inv X ξ σ H s->Vals xs us->r xs H Q ->
  wpAny (model X.prog X.w) X.A (call f us) (EP X ξ σ Q) X.xe s
abbrev ar(r:R2)(ta tb:TE):TE:=λσ H Q=>ta σ H λx H1=>tb σ H1 λy H2=>r x y H2 Q
abbrev Hs(r:V->Hp->VK->Prop)(ta:TE):TE:=λσ H Q=>ta σ H λx H1=>r x H1 Q
abbrev rI(C:Int->Int->Prop)(g:Int->Int->V):R2:=λx y H Q=>∃i j,x=.int i/\y=.int j/\C i j/\Q (g i j) H
abbrev v_(g:Int->Int->V):R2:=λx y H Q=>∃i j,x=.int i/\y=.int j/\Q (g i j) H
abbrev rU(g:Int->V):V->Hp->VK->Prop:=λx H Q=>∃i,x=.int i/\Q (g i) H
section
variable{X:Cx}{a b c:Expr}{ta tb tc:TE}{pos:Pos}
def J4(ha:PE X a ta)(hb:PE X b tb){H:Hp}{R:V->V->Hp->Prop}(I:Inv X ξ σ H s)
  (h:ta σ H λx H1=>tb σ H1 λy H2=>R x y H2)  {f:QF->QF->Sem QF}
  (hf:∀v u s2 x y H2,Inv X ξ σ H2 s2->RelV x v->RelV y u->R x y H2->wpAny (model X.prog X.w) X.A (f v u) Q X.xe s2) :
  wpAny (model X.prog X.w) X.A (eval a X.env) (λv s₁=>wpAny (model X.prog X.w) X.A (eval b X.env) (λu s₂=>wpAny (model X.prog X.w) X.A (f v u) Q X.xe s₂) X.xe s₁) X.xe s:=by
 refine bh (ha ξ s σ H _ I h) λv s1 ω=>?_;obtain⟨x,H1,I1,r1,q1⟩:=ω
 refine bh (hb ξ s1 σ H1 _ I1 q1) λu s2 ω=>?_;obtain⟨y,H2,I2,r2,q2⟩:=ω
 exact hf v u s2 x y H2 I2 r1 r2 q2
def OG(ho:fD X (binaryOp op) r)(ha:PE X a ta)(hb:PE X b tb):PE X (.BinOp a op b pos) (ar r ta tb):=by
 intro ξ s σ H Q I h;exact wpAny_BinOp (J4 ha hb I h λv u s2 x y H2 I2 rx ry q=>ho ξ s2 σ H2 x y v u Q I2 rx ry q)
def OE(ho:Of X (unaryOp op) r)(ha:PE X a ta):PE X (.UnaryOp op a pos) (Hs r ta):=by
 intro ξ s σ H Q I h;exact UnaryOp_ (bh (ha ξ s σ H _ I h) (by rintro v s1 ⟨x,H1,I1,r1,q1⟩;exact ho ξ s1 σ H1 x v Q I1 r1 q1))
def F1{f:QF->QF->Sem QF}{C:Int->Int->Prop}{g:Int->Int->Int}
  (rule:∀(i j:Int) (t u:Tok) (s:QP) (Q:QF->QP->Prop) (E:QF->QP->Prop),C i j->Q (.int (g i j) s.toks) {s with toks:=s.toks+1}->wpAny (model X.prog X.w) X.A (f (.int i t) (.int j u)) Q E s) :
  fD X f (rI C λi j=>.int (g i j)):=by
 intro ξ s σ H x y v u Q I rx ry h;obtain⟨i,j,rfl,rfl,hc,q⟩:=h;obtain⟨t,rfl⟩:=rx;obtain⟨t',rfl⟩:=ry;exact rule i j t t' s _ _ hc ⟨.int (g i j),H,I.tok _,⟨_,rfl⟩,q⟩
def L9{f:QF->QF->Sem QF}{g:Int->Int->Int}
  (rule:∀(i j:Int) (t u:Tok) (s:QP) (Q:QF->QP->Prop) (E:QF->QP->Prop),Q (.int (g i j) s.toks) {s with toks:=s.toks+1}->wpAny (model X.prog X.w) X.A (f (.int i t) (.int j u)) Q E s) :
  fD X f (v_ λi j=>.int (g i j)):=by
 intro ξ s σ H x y v u Q I rx ry h;obtain⟨i,j,rfl,rfl,q⟩:=h;obtain⟨t,rfl⟩:=rx;obtain⟨t',rfl⟩:=ry;exact rule i j t t' s _ _ ⟨.int (g i j),H,I.tok _,⟨_,rfl⟩,q⟩
def Jj{f:QF->QF->Sem QF}{g:Int->Int->Bool}
  (rule:∀(i j:Int) (t u:Tok) (s:QP) (Q:QF->QP->Prop) (E:QF->QP->Prop),Q (.bool (g i j)) s->wpAny (model X.prog X.w) X.A (f (.int i t) (.int j u)) Q E s) :
  fD X f (v_ λi j=>.bl (g i j)):=by
 intro ξ s σ H x y v u Q I rx ry h;obtain⟨i,j,rfl,rfl,q⟩:=h;obtain⟨t,rfl⟩:=rx;obtain⟨t',rfl⟩:=ry;exact rule i j t t' s _ _ ⟨.bl (g i j),H,I,rfl,q⟩
abbrev Ki(i j:Int):Prop:=0<j/\j<1073741824
abbrev N8(i j:Int):Prop:=0<=j/\j<=1000000/\i.natAbs<2 ^ 64
abbrev CMul(i j:Int):Prop:=(-(2 ^ 64)<i/\i<2 ^ 64)\/(-(2 ^ 64)<j/\j<2 ^ 64)
def CMul.ok(h:CMul i j):IntMulOk i j:=by
 rcases h with⟨h1,h2⟩|⟨h1,h2⟩
 .exact .of_left (intBits_le_64 h1 h2)
 .exact .of_right (intBits_le_64 h1 h2)
def L8:fD X (binaryOp .Add) (v_ λi j=>.int (i+j)):=L9 λ_ _ _ _ _ _ _ q=>add_int q
def LY:fD X (binaryOp .Sub) (v_ λi j=>.int (i-j)):=L9 λ_ _ _ _ _ _ _ q=>sub_int q
def L3:fD X (binaryOp .Mult) (rI CMul λi j=>.int (i*j)):=F1 λ_ _ _ _ _ _ _ hc q=>mul_int q hc.ok
def Ji:fD X (binaryOp .FloorDiv) (rI Ki λi j=>.int (i / j)):=F1 λi j _ _ _ _ _ hc q=>by
 have h1:(0:Int)<j:=hc.1;have h2:j<1073741824:=hc.2;exact Zk (by lia) (by rw[WW i (by lia)];exact q) (.inl (PyProof.noPylong_small (by lia)))
def L4:fD X (binaryOp .Mod) (rI (λ_ j=>0<j) λi j=>.int (i % j)):=F1 λi j _ _ _ _ _ hc q=>by
 have h1:(0:Int)<j:=hc;exact mod_int' (by lia) (by rw[WX i (by lia)];exact q)
def Jh:fD X (binaryOp .Mod) (rI (λ_ j=>j≠0) λi j=>.int (i.fmod j)):=F1 λ_ _ _ _ _ _ _ hc q=>mod_int' hc q
def L0:fD X (binaryOp .Pow) (rI N8 λi j=>.int (i ^ j.toNat)):=F1 λ_ _ _ _ _ _ _ hc q=>pow_int_small hc.1 hc.2.1 hc.2.2 q
def Qo{f:QF->Sem QF}{g:Int->Int}
  (rule:∀(i:Int) (t:Tok) (s:QP) (Q:QF->QP->Prop) (E:QF->QP->Prop),Q (.int (g i) s.toks) {s with toks:=s.toks+1}->wpAny (model X.prog X.w) X.A (f (.int i t)) Q E s) :
  Of X f (rU λi=>.int (g i)):=by
 intro ξ s σ H x v Q I rx h;obtain⟨i,rfl,q⟩:=h;obtain⟨t,rfl⟩:=rx;exact rule i t s _ _ ⟨.int (g i),H,I.tok _,⟨_,rfl⟩,q⟩
def Kv:Of X (unaryOp .USub) (rU λi=>.int (-i)):=Qo λ_ _ _ _ _ q=>neg_int q
end
abbrev KQ:V->V->Bool
 |.non,.non=>true|.non,.int _=>true|.int _,.non=>true|.non,.bl _=>true|.bl _,.non=>true|.non,.str _=>true|.str _,.non=>true
 |.int _,.int _=>true|.bl _,.bl _=>true|.str _,.str _=>true|.byt _,.byt _=>true
 |.int _,.str _=>true|.str _,.int _=>true|.bl _,.str _=>true|.str _,.bl _=>true
 |_,_=>false
abbrev fV:R2:=λx y H Q=>KQ x y=true/\Q (.bl (decide (x=y))) H
abbrev wL:R2:=λx y H Q=>KQ x y=true/\Q (.bl (!decide (x=y))) H
def Bx:decide (V.int i=V.int j)=(i == j):=by
 rw[TV];simp
def GB:decide (V.bl i=V.bl j)=(i == j):=by
 rw[TV];simp
def Bw:decide (V.str i=V.str j)=(i == j):=by
 rw[TV];simp
def By:decide (V.byt i=V.byt j)=(i.toList == j.toList):=by
 rw[TV];cases i;cases j;simp
section
variable{X:Cx}{a b c:Expr}{ta tb tc:TE}{pos:Pos}
def ba{H:Hp}{Q:VK}{k':Bool}(I:Inv X ξ σ H s)(q:Q (.bl k) H)(e:k=k'):EP X ξ σ Q (.bool k') s:=by
 subst e;exact⟨.bl k,H,I,rfl,q⟩
def OO:fD X (compareOp .Eq) fV:=by
 intro ξ s σ H x y v u Q I rx ry h;obtain⟨hs,q⟩:=h;cases x with
 |non =>
  cases rx;cases y with
  |non=>cases ry;exact PySem.EqNone.eq_none_none (ba I q (by simp))
  |bl j=>cases ry;exact PySem.EqNone.eq_none_bool (ba I q (by simp))
  |int j=>obtain⟨t',rfl⟩:=ry;exact PySem.EqNone.eq_none_int (ba I q (by simp))
  |str j=>obtain⟨t',rfl⟩:=ry;exact PySem.EqNone.eq_none_str (ba I q (by simp))
  |_=>exact absurd (show false=true from hs) Rj
 |bl i =>
  cases rx;cases y with
  |non=>cases ry;exact PySem.EqNone.eq_bool_none (ba I q (by simp))
  |bl j=>cases ry;exact eq_bool (ba I q GB)
  |str j=>obtain⟨t',rfl⟩:=ry;exact PySem.EqMixed.eq_bool_str (ba I q (by simp))
  |_=>exact absurd (show false=true from hs) Rj
 |int i =>
  obtain⟨t,rfl⟩:=rx;cases y with
  |non=>cases ry;exact PySem.EqNone.eq_int_none (ba I q (by simp))
  |int j=>obtain⟨t',rfl⟩:=ry;exact eq_int (ba I q Bx)
  |str j=>obtain⟨t',rfl⟩:=ry;exact PySem.EqMixed.eq_int_str (ba I q (by simp))
  |_=>exact absurd (show false=true from hs) Rj
 |str i =>
  obtain⟨t,rfl⟩:=rx;cases y with
  |non=>cases ry;exact PySem.EqNone.eq_str_none (ba I q (by simp))
  |bl j=>cases ry;exact PySem.EqMixed.eq_str_bool (ba I q (by simp))
  |int j=>obtain⟨t',rfl⟩:=ry;exact PySem.EqMixed.eq_str_int (ba I q (by simp))
  |str j=>obtain⟨t',rfl⟩:=ry;exact eq_str (ba I q Bw)
  |_=>exact absurd (show false=true from hs) Rj
 |byt i =>
  obtain⟨t,rfl⟩:=rx;cases y with
  |byt j=>obtain⟨t',rfl⟩:=ry;exact PySem.W.eq_bytes (ba I q By)
  |_=>exact absurd (show false=true from hs) Rj
 |_=>cases y <;> exact absurd (show false=true from hs) Rj
def OK:fD X (compareOp .NotEq) wL:=by
 intro ξ s σ H x y v u Q I rx ry h;obtain⟨hs,q⟩:=h;cases x with
 |non =>
  cases rx;cases y with
  |non=>cases ry;exact PySem.EqNone.ne_none_none (ba I q (by simp))
  |bl j=>cases ry;exact PySem.EqNone.ne_none_bool (ba I q (by simp))
  |int j=>obtain⟨t',rfl⟩:=ry;exact PySem.EqNone.ne_none_int (ba I q (by simp))
  |str j=>obtain⟨t',rfl⟩:=ry;exact PySem.EqNone.ne_none_str (ba I q (by simp))
  |_=>exact absurd (show false=true from hs) Rj
 |bl i =>
  cases rx;cases y with
  |non=>cases ry;exact PySem.EqNone.ne_bool_none (ba I q (by simp))
  |bl j=>cases ry;exact ne_bool (ba I q (congrArg not GB))
  |str j=>obtain⟨t',rfl⟩:=ry;exact PySem.EqMixed.ne_bool_str (ba I q (by simp))
  |_=>exact absurd (show false=true from hs) Rj
 |int i =>
  obtain⟨t,rfl⟩:=rx;cases y with
  |non=>cases ry;exact PySem.EqNone.ne_int_none (ba I q (by simp))
  |int j=>obtain⟨t',rfl⟩:=ry;exact ne_int (ba I q (congrArg not Bx))
  |str j=>obtain⟨t',rfl⟩:=ry;exact PySem.EqMixed.ne_int_str (ba I q (by simp))
  |_=>exact absurd (show false=true from hs) Rj
 |str i =>
  obtain⟨t,rfl⟩:=rx;cases y with
  |non=>cases ry;exact PySem.EqNone.ne_str_none (ba I q (by simp))
  |bl j=>cases ry;exact PySem.EqMixed.ne_str_bool (ba I q (by simp))
  |int j=>obtain⟨t',rfl⟩:=ry;exact PySem.EqMixed.ne_str_int (ba I q (by simp))
  |str j=>obtain⟨t',rfl⟩:=ry;exact ne_str (ba I q (congrArg not Bw))
  |_=>exact absurd (show false=true from hs) Rj
 |byt i =>
  obtain⟨t,rfl⟩:=rx;cases y with
  |byt j=>obtain⟨t',rfl⟩:=ry;exact PySem.W.ne_bytes (ba I q (congrArg not By))
  |_=>exact absurd (show false=true from hs) Rj
 |_=>cases y <;> exact absurd (show false=true from hs) Rj
def OL:fD X (compareOp .Lt) (v_ λi j=>.bl (decide (i<j))):=Jj λ_ _ _ _ _ _ _ q=>lt_int q
def OM:fD X (compareOp .LtE) (v_ λi j=>.bl (decide (i<=j))):=Jj λ_ _ _ _ _ _ _ q=>le_int q
def ON:fD X (compareOp .Gt) (v_ λi j=>.bl (decide (j<i))):=Jj λ_ _ _ _ _ _ _ q=>gt_int q
def L5:fD X (compareOp .Is) (λx y H Q=>y=.non/\Q (.bl (decide (x=.non))) H):=by
 intro ξ s σ H x y v u Q I rx ry h;obtain⟨rfl,q⟩:=h;cases ry;refine is_none_gen (ba I q ?_)
 cases x <;> first
  |(cases rx;rfl)
  |(obtain⟨t,rfl⟩:=rx;rfl)
def Jf:fD X (compareOp .IsNot) (λx y H Q=>y=.non/\Q (.bl (!decide (x=.non))) H):=by
 intro ξ s σ H x y v u Q I rx ry h;obtain⟨rfl,q⟩:=h;cases ry;refine isnot_none_gen (ba I q ?_)
 cases x <;> first
  |(cases rx;rfl)
  |(obtain⟨t,rfl⟩:=rx;rfl)
def F5(b:Expr){op:CmpOp}(h:op≠.In:=by decide)(h2:op≠.NotIn:=by decide):behindInMarks op b=false:=by
 have e1:(op == CmpOp.In)=false:=by cases op <;> first|rfl|exact absurd rfl h
 have e2:(op == CmpOp.NotIn)=false:=by cases op <;> first|rfl|exact absurd rfl h2
 cases b <;> simp[behindInMarks,e1,e2]
def Ja(ho:fD X (compareOp op) r)(ha:PE X a ta)(hb:PE X b tb)(hm:behindInMarks op b=false):PE X (.Compare a [op] [b] pos) (ar r ta tb):=by
 intro ξ s σ H Q I h;exact wpAny_Compare1 (J4 ha hb I h λv u s2 x y H2 I2 rx ry q=>ho ξ s2 σ H2 x y v u Q I2 rx ry q) hm
abbrev aR(t:TE):TT:=λσ H Q=>t σ H λx H'=>∃k,x=.bl k/\Q k H'
def zy(ho:fD X (compareOp op) r)(ha:PE X a ta)(hb:PE X b tb)(hm:behindInMarks op b=false):PT X (.Compare a [op] [b] pos) (aR (ar r ta tb)):=by
 intro ξ s σ H Q I h
 refine Yh (bh (ha ξ s σ H _ I h) λv s1 ⟨x,H1,I1,r1,q1⟩=>bh (hb ξ s1 σ H1 _ I1 q1) λu s2 ⟨y,H2,I2,r2,q2⟩ =>
  bh (ho ξ s2 σ H2 x y v u _ I2 r1 r2 q2) λc s3 ⟨z,H3,I3,r3,k,e,q3⟩=>?_) hm
 subst e;cases r3;exact SX ⟨H3,I3,q3⟩
abbrev ua(r r':R2)(ta tb tc:TE):TE:=λσ H Q=>ta σ H λx H1=>tb σ H1 λy H2=>r x y H2 λz H3=>∃k,z=.bl k /\
 (if k=true then tc σ H3 λw' H4=>r' y w' H4 Q else Q (.bl false) H3)
def Ea(ho:fD X (compareOp op) r)(ho':fD X (compareOp op') r')(ha:PE X a ta)(hb:PE X b tb)(hc:PE X c tc)
  (hm:lastMarks [op,op'] [b,c]=false:=by with_unfolding_all rfl):PT X (.Compare a [op,op'] [b,c] pos) (aR (ua r r' ta tb tc)):=by
 intro ξ s σ H Q I h
 refine isTrue_chain (bh (ha ξ s σ H _ I h) λv s1 ⟨x,H1,I1,r1,q1⟩=>test_link (bh (hb ξ s1 σ H1 _ I1 q1) λu s2 ⟨y,H2,I2,r2,q2⟩ =>
  bh (ho ξ s2 σ H2 x y v u _ I2 r1 r2 q2) λd s3 ⟨z,H3,I3,r3,k,e,q3⟩=>?_)) hm
 subst e;cases r3;refine SX ?_;cases k with
 |false =>
  obtain⟨k',e',q'⟩:=q3;cases e';exact ite_ff ⟨H3,I3,q'⟩
 |true =>
  refine ite_tt (test_last (bh (hc ξ s3 σ H3 _ I3 q3) λw' s4 ⟨z',H4,I4,r4,q4⟩=>bh (ho' ξ s4 σ H4 y z' u w' _ I4 r2 r4 q4) λd' s5 ω=>?_));obtain⟨z2,H5,I5,r5,k2,e2,q5⟩:=ω;subst e2;cases r5;exact SX ⟨H5,I5,q5⟩
def qa:(sizeLine:Nat)<2 ^ 63:=by rw[Us];decide
def we:fD X (binaryOp .Add) (λx y H Q=>∃i j,x=.str i/\y=.str j/\i.length+j.length<=sizeLine/\Q (.str (i++j)) H):=by
 intro ξ s σ H x y v u Q I rx ry h;obtain⟨i,j,rfl,rfl,hz,q⟩:=h;obtain⟨t,rfl⟩:=rx;obtain⟨t',rfl⟩:=ry;exact add_str (λt' tk=>⟨.str (i++j),H,I.tok _,⟨_,rfl⟩,q⟩) hz
def vals1{x:V}{us:List QF}(r:Vals [x] us):∃u,us=[u]/\RelV x u:=by
 cases r with
 |cons r1 r2=>cases r2;exact⟨_,rfl,r1⟩
def vals2{x y:V}{us:List QF}(r:Vals [x,y] us):∃u w',us=[u,w']/\RelV x u/\RelV y w':=by
 cases r with
 |cons r1 r2 =>
  cases r2 with
  |cons r3 r4=>cases r4;exact⟨_,_,rfl,r1,r3⟩
def Fi:eR X (.builtin "abs") (λxs H Q=>∃i,xs=[.int i]/\Q (.int (if i<0 then -i else i)) H):=by
 intro ξ s σ H xs us Q I r h;obtain⟨i,rfl,q⟩:=h;obtain⟨u,rfl,t,rfl⟩:=vals1 r;exact call_abs_int λu tk=>⟨.int (if i<0 then -i else i),H,I.tok _,⟨_,rfl⟩,q⟩
def BN(hc:X.calm=true):eR X (.builtin "max") (λxs H Q=>∃i j,xs=[.int i,.int j]/\Q (.int (if j > i then j else i)) H):=by
 intro ξ s σ H xs us Q I r h;obtain⟨i,j,rfl,q⟩:=h;obtain⟨u,w',rfl,⟨t,rfl⟩,⟨t',rfl⟩⟩:=vals2 r;refine max_two_ints (I.ok.hd hc) λh' tk k=>⟨_,H,I.kept k,?_,q⟩
 by_cases hj:j > i
 .rw[if_pos hj,if_pos hj];exact⟨_,rfl⟩
 .rw[if_neg hj,if_neg hj];exact⟨_,rfl⟩
def BL(hc:X.calm=true):eR X (.builtin "min") (λxs H Q=>∃i j,xs=[.int i,.int j]/\Q (.int (if j<i then j else i)) H):=by
 intro ξ s σ H xs us Q I r h;obtain⟨i,j,rfl,q⟩:=h;obtain⟨u,w',rfl,⟨t,rfl⟩,⟨t',rfl⟩⟩:=vals2 r;refine min_two_ints (I.ok.hd hc) λh' tk k=>⟨_,H,I.kept k,?_,q⟩
 by_cases hj:j<i
 .rw[if_pos hj,if_pos hj];exact⟨_,rfl⟩
 .rw[if_neg hj,if_neg hj];exact⟨_,rfl⟩
def BQ:eR X (.type "int") (λxs H Q=>(∃i,xs=[.int i]/\Q (.int i) H)\/∃k,xs=[.bl k]/\Q (.int (if k then 1 else 0)) H):=by
 intro ξ s σ H xs us Q I r h;rcases h with⟨i,rfl,q⟩|⟨k,rfl,q⟩
 .obtain⟨u,rfl,t,rfl⟩:=vals1 r;exact call_int_int ⟨.int i,H,I,⟨_,rfl⟩,q⟩
 .obtain⟨u,rfl,r1⟩:=vals1 r;cases r1;exact call_int_bool ⟨.int (if k then 1 else 0),H,I.tok _,⟨_,rfl⟩,q⟩
end
structure ObjM (h:Heap) (x dx C:Addr) (mA:Str->Option QF):Prop where
 obj:h.get? x=some (Yc C dx)
 ns:h.Ns1 dx mA
 ne:dx≠x
def Ax{h:Heap}(n:h.Ns1 dx mA):∃od,h.get? dx=some od/\∀name,Yr name od=some (mA name):=by
 obtain⟨o,es,ep,ho,hd,hk,_,hm⟩:=n;refine⟨o,ho,λname=>?_⟩;have e:=hm name;unfold nsFind findBy at e;rw[<- Array.find?_toList] at e;unfold Yr;rw[hd];dsimp only;split
 .rename_i y q;rw[q] at e;exact congrArg some e
 .rename_i q;rw[q] at e
  have a:es.toList.any (·.refKey)=false:=by
   rw[List.any_eq_false];intro y hy;obtain⟨z,t,hkey⟩:=hk y (Array.mem_toList_iff.mp hy);simp[WS.refKey,hkey]
  have a' : ¬ es.toList.any (·.refKey)=true:=by rw[a];exact Rj
  rw[if_neg a'];exact congrArg some e
def ObjM.look(I:ObjM h x dx C mA):∃od,PySem.W.InstAt h x (Yc C dx) C (some od)/\∀name,Yr name od=some (mA name) :=
 let ⟨od,ho,hl⟩:=Ax I.ns
 ⟨od,⟨I.obj,rfl,rfl,ho⟩,hl⟩
def RelO.some_of{v:V}(r:RelO (some v) o):∃u,o=some u/\RelV v u:=by
 cases o with
 |none=>exact(show False from r).elim
 |some u=>exact⟨u,rfl,r⟩
section
variable{P:Rx}{w:RQ}{H H':Hp}{h h':Heap}{a C dx:Addr}{fs fs':List (Str×V)}
def JN(hok:HOk P w H h)(e:H a=some (.ins C dx fs)):∃mA,ObjM h a dx C mA/\(∀f,RelO (fs.lookup f) (mA f))/\PySem.Within mA (fs.map (·.1))/\fs.length<=1000/\H dx=some (.own a):=by
 obtain⟨d,z,ne,ob,mA,n,r,q⟩:=(show cc P w H h a (.ins C dx fs) from hok a _ e)
 exact⟨mA,⟨ob,n,ne⟩,r,q,z,d⟩
end
structure Cls (K:Fg) (C:Addr):Prop where
 pg:ZP K C XH=true
 hd:PySem.W.hasDictIn K C=true
 po:PySem.W.plainOver K C=true
 sa:Zal K (.ref C) "__setattr__"=some (some (.builtin "object.__setattr__"))
def Cls.get{K:Fg}(c:Cls K C)(f:Str):ZP K C f=true:=c.pg
section
variable{X:Cx}{ξ:List (Addr×Obj)}{σ:St}{H:Hp}{s:QP}{A:RT}{E:QF->QP->Prop}{Q:QF->QP->Prop}{c:QF}{b:Bool}
inductive TyOf (K:Fg) (H:Hp):V->QF->Prop where
 |non:TyOf K H .non (.type "NoneType")
 |bl (x:Bool):TyOf K H (.bl x) (.type "bool")
 |int (i:Int):TyOf K H (.int i) (.type "int")
 |str (x:Str):TyOf K H (.str x) (.type "str")
 |flt (x:UInt64):TyOf K H (.flt x) (.type "float")
 |lst {a:Addr} {xs:List V} (e:H a=some (.lst xs)):TyOf K H (.ref a) (.type "list")
 |frz {a:Addr} {o:Obj} {xs:List V} (e:H a=some (.frz o (.lst xs))):TyOf K H (.ref a) (.type "list")
 |tup {a:Addr} {xs:List V} (e:H a=some (.tup xs)):TyOf K H (.ref a) (.type "tuple")
 |dK {a:Addr} {de:List (bf×V)} (e:H a=some (.dK de)):TyOf K H (.ref a) (.type "dict")
 |dT {a:Addr} {de:List (List bf×V)} (e:H a=some (.dT de)):TyOf K H (.ref a) (.type "dict")
 |ins {a C dx:Addr} {fs:List (Str×V)} (e:H a=some (.ins C dx fs)) (cl:Cls K C) (ha:Zal K (.ref C) "__class__"=some (some (.builtin "object.__class__")))
   (hn:PySem.W.specialIn K (.builtin "object.__class__") "__get__"=some (some (.builtin "getset_descriptor.__get__"))) (htk:PySem.W.takesIn K (.builtin "object.__class__")=some true)
   (hm:PySem.W.mroIn K C (.type "object")=some true):TyOf K H (.ref a) (.ref C)
def AR(I:Inv X ξ σ H s)(rx:RelV x u)(ty:TyOf X.K H x t)(e:SC X.K t c=some b)(h:∀tk,Q (.bool b) {s with toks:=tk}) :
  wpAny (model X.prog X.w) A (call (.builtin "isinstance") [u,c]) Q E s:=by
 cases ty with
 |non=>cases (show u=Td from rx);exact SD PySem.W.kitx_none I.kIn UE e (λz=>nomatch z) h
 |bl y=>cases (show u=XW y from rx);exact SD PySem.W.kitx_bool I.kIn UE e (λz=>nomatch z) h
 |int i=>obtain⟨t,q⟩:=(show ∃t,u=U0 i t from rx);cases q;exact SD PySem.W.kitx_int I.kIn UE e (λz=>nomatch z) h
 |str y=>obtain⟨t,q⟩:=(show ∃t,u=YH y t from rx);cases q;exact SD PySem.W.kitx_str I.kIn UE e (λz=>nomatch z) h
 |flt y=>obtain⟨t,q⟩:=(show ∃t,u=QF.float y t from rx);cases q;exact SD PySem.W.kitx_float I.kIn UE e (λz=>nomatch z) h
 |@lst a xs ea =>
  cases (show u=RK a from rx);obtain⟨_,_,n,_,h1⟩:=(show cc X.prog X.w H s.heap a (.lst xs) from I.hok a _ ea)
  exact SD Zl I.kIn ⟨_,h1,rfl⟩ e (λz=>nomatch z) h
 |@frz a ob xs ea =>
  cases (show u=RK a from rx);obtain⟨_,_,_,n,_,h1⟩:=(show cc X.prog X.w H s.heap a (.frz ob (.lst xs)) from I.hok a _ ea)
  exact SD Zl I.kIn ⟨_,h1,rfl⟩ e (λz=>nomatch z) h
 |@tup a xs ea =>
  cases (show u=RK a from rx);obtain⟨_,_,_,p⟩:=(show cc X.prog X.w H s.heap a (.tup xs) from I.hok a _ ea)
  obtain⟨o,h1,⟨h2,_⟩,_⟩:=p;exact SD Y8 I.kIn ⟨o,h1,h2⟩ e (λz=>nomatch z) h
 |@dK a de ea =>
  cases (show u=RK a from rx);obtain⟨_,_,vs,_,p⟩:=(show cc X.prog X.w H s.heap a (.dK de) from I.hok a _ ea)
  obtain⟨o,es,ep,h1,h2,_⟩:=p;exact SD Zm I.kIn ⟨o,h1,h2.1⟩ e (λz=>nomatch z) h
 |@dT a de ea =>
  cases (show u=RK a from rx);obtain⟨_,_,xs,_,o,es,ep,h1,h2,_⟩:=(show cc X.prog X.w H s.heap a (.dT de) from I.hok a _ ea)
  exact SD Zm I.kIn ⟨o,h1,h2.1⟩ e (λz=>nomatch z) h
 |@ins a C dx fs ea cl ha hn htk hm =>
  cases (show u=RK a from rx);obtain⟨mA,O,_⟩:=JN I.hok ea;obtain⟨od,J,_⟩:=O.look;exact SD (PySem.W.kitx_own (cl.get _) cl.hd ha hn htk hm) I.kIn J e (λz=>nomatch z) h
end
structure Room (k:Nat) (A:RT):Prop where
 hd:A.handled=none
 dp:A.depth+3*k+5<recursionLimit
 un:A.units+16*k+200<cLine
def Room.mono{j:Nat}(r:Room k A)(h:j<=k):Room j A:=⟨r.hd,by have:=r.dp;lia,by have:=r.un;lia⟩
def Room.deeper{k:Nat}(r:Room (k+1) A)(env:Env):Room k (A.deeper env) :=
 ⟨r.hd,by have:=r.dp;show A.depth+1+3*k+5<_;lia,by have:=r.un;show A.units+3+16*k+200<_;lia⟩
def Room.depth(r:Room k A):A.depth<recursionLimit:=by have:=r.dp;lia
def Room.units(r:Room k A):A.units+64<cLine:=by have:=r.un;lia
abbrev ag:TA:=λ_ H Q=>Q [] H
abbrev ae(ta:TE)(tr:TA):TA:=λσ H Q=>ta σ H λx H1=>tr σ H1 λxs H2=>Q (x :: xs) H2
section
variable{X:Cx}{e:Expr}{es:List Expr}{te:TE}{t:TA}{pos:Pos}
def LW:PA X [] ag:=λ_ _ _ _ H Q I h=>Ut ⟨[],H,I,.nil,h⟩
def Jd(ha:PE X e te)(hr:PA X es t)(hs:starEach (e :: es) X.env=(false,eval e X.env) :: starEach es X.env:=by rfl):PA X (e :: es) (ae te t):=by
 intro pos ξ s σ H Q I h;rw[hs];show wpAny _ _ (spliced ((false,eval e X.env) :: backTo pos (starEach es X.env))) _ _ s;refine Uc (bh (ha ξ s σ H _ I h) λu s1 ω=>?_);obtain⟨x,H1,I1,r1,q1⟩:=ω;exact bh (hr pos ξ s1 σ H1 _ I1 q1) (by rintro us s2 ⟨xs,H2,I2,r2,q2⟩;exact ⟨x :: xs,H2,I2,.cons r1 r2,q2⟩)
abbrev bq(t:TA):TE:=λσ H Q=>t σ H λxs H1=>xs.length<=sizeLine/\∀p,H1 p=none->Q (.ref p) (upd H1 p (.tup xs))
abbrev bR(t:TA):TE:=λσ H Q=>t σ H λxs H1=>xs.length<=sizeLine/\∀p,H1 p=none->Q (.ref p) (upd H1 p (.lst xs))
def LG{x1}(h:PA X es t):PE X (.Tuple es x1 pos) (bq t):=by
 intro ξ s σ H Q I hq;refine wpAny_Tuple_spliced (bh (h pos ξ s σ H _ I hq) λus s1 ⟨xs,H1,I1,r,z,q⟩=>⟨by rw[<- r.length];exact z,?_⟩);have hf:H1 s1.heap.objs.size=none:=I1.hok.fresh (QH _);refine⟨.ref s1.heap.objs.size,upd H1 s1.heap.objs.size (.tup xs),I1.laid (t':=s1.toks) (λb u e=>QN _ e) (QH _) ?_,rfl,q _ hf⟩;exact⟨z,us,r,TupD.new _ _⟩
def LL(h:PA X es t):PE X (.List es pos) (bR t):=by
 intro ξ s σ H Q I hq;refine wpAny_List_spliced (bh (h pos ξ s σ H _ I hq) λus s1 ⟨xs,H1,I1,r,z,q⟩=>⟨by rw[<- r.length];exact z,?_⟩);have hf:H1 s1.heap.objs.size=none:=I1.hok.fresh (QH _);refine⟨.ref s1.heap.objs.size,upd H1 s1.heap.objs.size (.lst xs),I1.laid (t':=s1.toks) (λb u e=>QN _ e) (QH _) ?_,rfl,q _ hf⟩;exact⟨z,us,0,r,Rg _ rfl⟩
end
nonrec abbrev Sp:=List V->Hp->VK->XK->Prop
nonrec abbrev oH:=List Env->Hp->QP->XK->QF->QP->Prop
structure Fw (P:Rx) (w:RQ) (K:Fg) (mg:Str->Option QF) (base:Heap) (A:RT) (outer:List Env) (s:QP) (H:Hp):Prop where
 frames:A.frames=some outer
 mod:Mod K mg base
 bs:∀b o,base.get? b=some o->s.heap.get? b=some o/\H b=none
 bsz:base.objs.size<=s.heap.objs.size
 funs:s.heap.FunFrames base outer
 frf:∀b∈wO outer,H b=none
 hok:HOk P w H s.heap
 bare:Xe s.gens
abbrev CE(outer:List Env)(P:Rx)(w:RQ)(H:Hp)(s:QP)(Q:VK)(u:QF)(s':QP):Prop :=
 ∃v H',s'.os=s.os/\Xe s'.gens/\Un (wO outer) [] H H' s.heap s'.heap/\HOk P w H' s'.heap/\RelV v u/\Q v H'
abbrev CR(CX:oH)(outer:List Env)(P:Rx)(w:RQ)(H:Hp)(s:QP)(Q:VK)(E:XK)(r:ZQ)(s':QP):Prop :=
 match r with
 |.ok (.ret u)=>CE outer P w H s Q u s'
 |.ok _=>False
 |.error e=>CX outer H s E e s'
structure FnOk (P:Rx) (w:RQ) (K:Fg) (mg:Str->Option QF) (base:Heap) (CX:oH) (k:Nat) (f:Addr) (fd:Ud) (ps:List Str) (sp:Sp):Prop where
 len:∀vs H Q E,sp vs H Q E->vs.length=ps.length
 run:∀(A:RT) (outer:List Env) (s:QP) (H:Hp) (args:Args) (us:List QF) (vs:List V) (Q:VK) (E:XK),Room k A->Fw P w K mg base A outer s H->Zn s fd args (ps.zip us)->Vals vs us->sp vs H Q E ->
  codeAny (model P w) A (.call (.ref f) args) (CR CX outer P w H s Q E) s
def FnOk.mono{K:Fg}{CX:oH}{k:Nat}(F:FnOk P w K mg base CX j f fd ps sp)(h:j<=k) :
  FnOk P w K mg base CX k f fd ps sp:=⟨F.len,λA outer s H args us vs Q E hr=>F.run A outer s H args us vs Q E (hr.mono h)⟩
def FnOk.imp{K:Fg}{CX:oH}{sp':Sp}(F:FnOk P w K mg base CX k f fd ps sp)
  (h:∀vs H Q E,sp' vs H Q E->sp vs H Q E):FnOk P w K mg base CX k f fd ps sp' :=
 ⟨λvs H Q E q=>F.len vs H Q E (h _ _ _ _ q),λA outer s H args us vs Q E hr he hb hv hs=>F.run A outer s H args us vs Q E hr he hb hv (h _ _ _ _ hs)⟩
section
variable{X:Cx}{ξ:List (Addr×Obj)}{σ:St}{H:Hp}{s s':QP}
def Inv.env0(I:Inv X ξ σ H s):Fw X.prog X.w X.K X.mg X.base X.A X.stack s H :=
 ⟨I.ok.frames,I.ok.mod,I.bs,Q0 I.ok.bsz I.sz,I.stack,I.yr,I.hok,I.bare⟩
def Inv.after(I:Inv X ξ σ H s)(h:CE X.stack X.prog X.w H s Q u s'):EP X ξ σ Q u s':=by
 obtain⟨v,H',os,bare,un,hok,r,q⟩:=h;obtain⟨hh,g,d,t,os'⟩:=s';obtain rfl:os'=s.os:=os;exact⟨v,H',I.call (h':=hh) (g':=g) (d':=d) (t':=t) (ch:=[]) un hok bare (λb z=>absurd z (by simp)),r,q⟩
end
abbrev aD(sp:Sp)(dY:List V)(E:XK)(t:TA):TE:=λσ H Q=>t σ H λvs H1=>sp (vs++dY) H1 Q E
abbrev Binds(K:Fg)(fd:Ud)(ps:List Str)(ds:List QF):Prop :=
 ∀(s:QP) (us:List QF),K.In s.heap->(us++ds).length=ps.length->Zn s fd ⟨us,[]⟩ (ps.zip (us++ds))
def Binds.all{K:Fg}{ps:List Str}(h:∀us:List QF,us.length=ps.length->bindArgs fd ⟨us,[]⟩=pure (ps.zip us)):Binds K fd ps []:=λs us _ hl=>by
 rw[Tx] at hl ⊢;exact .of_eq (h us hl)
abbrev oA(CX:oH)(X:Cx)(E:XK):Prop:=∀(ξ:List (Addr×Obj)) (σ:St) (H:Hp) (s:QP) (e:QF) (s':QP),Inv X ξ σ H s->CX X.stack H s E e s'->X.xe e s'
section
variable{X:Cx}{CX:oH}{k:Nat}{f C:Addr}{fd:Ud}{ps:List Str}{sp:Sp}{dY:List V}{ds:List QF}{E:XK}{x m:Str}{p pos apos:Pos}{e o:Expr}{es:List Expr}{ta:TE}{t:TA}
def KR{H:Hp}{vs:List V}(F:FnOk X.prog X.w X.K X.mg X.base CX k f fd ps sp)(hr:Room k X.A)(hb:Binds X.K fd ps ds)(hd:Vals dY ds)(hx:oA CX X E)
  (I:Inv X ξ σ H s) (r:Vals vs us) (h:sp (vs++dY) H Q E):wpAny (model X.prog X.w) X.A (call (.ref f) us) (EP X ξ σ Q) X.xe s:=by
 have r2:Vals (vs++dY) (us++ds):=r.append hd;have hl:(us++ds).length=ps.length:=by rw[<- r2.length];exact F.len _ _ _ _ h
 refine wpAny_call (WK (F.run X.A X.stack s H ⟨us,[]⟩ (us++ds) (vs++dY) Q E hr I.env0 (hb s us I.kIn hl) r2 h) λr s' hq=>?_);cases r with
 |error e=>exact hx ξ σ H s e s' I hq
 |ok fl =>
  cases fl with
  |ret u=>exact I.after hq
  |next=>exact US hq
  |brk=>exact US hq
  |cont=>exact US hq
def Jb(F:FnOk X.prog X.w X.K X.mg X.base CX k f fd ps sp)(hr:Room k X.A)(hg:Gl X x)(hm:X.mg x=⇑f)(hk:UM X.K (.ref f)=true)(hb:Binds X.K fd ps ds)(hd:Vals dY ds)(hx:oA CX X E)
  (ha:PA X (e :: es) t) (hdb:(x == ("__debug__":Str))=false:=by decide) (he:starEach (e :: es) X.env=(false,eval e X.env) :: starEach es X.env:=by rfl) (hpl:(backTo pos (starEach es X.env)).any (·.1)=false:=by rfl) :
  PE X (.Call (.Name x p) (e :: es) [] pos) (aD sp dY E t):=by
 intro ξ s σ H Q I h;refine TF (AB I hg hm ?_ hdb);refine PySem.W.callWith_K (h₀:=X.base) I.ok.mod.kin hk (bh (ha pos ξ s σ H _ I h) λus s1 ⟨vs,H1,I1,r,q⟩=>⟨I1.kIn,?_⟩) he hpl;exact KR F hr hb hd hx I1 r q
end
structure aC (N P:List Str) (sc:Scope):Prop where
 kind:sc.kind=.function
 co:sc.isCoroutine=false
 gen:sc.isGenerator=false
 nd:N.Nodup
 pre:N.take P.length=P
 par:∀x∈P,sc.names.lookup x=some .local\/sc.names.lookup x=some .cell
 nofree:∀y∈sc.names,y.2≠.free
def qG{kindOf:Str->Option XI}{x:Str}:∀{binds:List (Str×QF)} {m:Str->Option QF},(∀v,(x,v)∉binds)->bindL kindOf binds m x=m x
 |[],_,_=>rfl
 |(n,v) :: r,m,h=>by
  unfold bindL;rw[qG λw hw=>h w (QL _ hw)];split
  .have:x≠n:=by rintro rfl;exact h v QK
   simp[this]
  .rfl
def qI{kindOf:Str->Option XI}{x:Str}:∀{binds:List (Str×QF)} {m:Str->Option QF},(∀v,(x,v)∉binds)->bindC kindOf binds m x=m x
 |[],_,_=>rfl
 |(n,v) :: r,m,h=>by
  unfold bindC;rw[qI λw hw=>h w (QL _ hw)];split
  .rfl
  .have:x≠n:=by rintro rfl;exact h v QK
   simp[this]
def qH{kindOf:Str->Option XI}{x:Str}{v:QF}:∀{P:List Str} {vs:List QF} {i:Nat} {m:Str->Option QF},P.Nodup->P[i]?=some x->vs[i]?=some v->kindOf x=some .local ->
  bindL kindOf (P.zip vs) m x=some v
 |[],_,_,_,_,h,_,_=>by simp at h
 |_ :: _,[],_,_,_,_,h,_=>by simp at h
 |p :: P,w :: vs,0,m,nd,h1,h2,hk=>by
  simp at h1 h2;subst h1;subst h2;show bindL kindOf ((p,w) :: P.zip vs) m p=_;unfold bindL;rw[qG λv hv=>(RH.mp nd).1 (Yd hv).1,if_pos hk];simp
 |p :: P,w :: vs,i+1,m,nd,h1,h2,hk=>by
  show bindL kindOf ((p,w) :: P.zip vs) m x=_;unfold bindL;exact qH (i:=i) (RH.mp nd).2 (by simpa using h1) (by simpa using h2) hk
def qJ{kindOf:Str->Option XI}{x:Str}{v:QF}:∀{P:List Str} {vs:List QF} {i:Nat} {m:Str->Option QF},P.Nodup->P[i]?=some x->vs[i]?=some v->kindOf x≠some .local ->
  bindC kindOf (P.zip vs) m x=some v
 |[],_,_,_,_,h,_,_=>by simp at h
 |_ :: _,[],_,_,_,_,h,_=>by simp at h
 |p :: P,w :: vs,0,m,nd,h1,h2,hk=>by
  simp at h1 h2;subst h1;subst h2;show bindC kindOf ((p,w) :: P.zip vs) m p=_;unfold bindC;rw[qI λv hv=>(RH.mp nd).1 (Yd hv).1,if_neg hk];simp
 |p :: P,w :: vs,i+1,m,nd,h1,h2,hk=>by
  show bindC kindOf ((p,w) :: P.zip vs) m x=_;unfold bindC;exact qJ (i:=i) (RH.mp nd).2 (by simpa using h1) (by simpa using h2) hk
abbrev start(N:List Str)(vs:List V):St:=vs.map some++Rm (N.length-vs.length) none
abbrev nW(CX:oH)(P:Rx)(w:RQ)(K:Fg)(mg:Str->Option QF)(base:Heap)(N:List Str)(qual:Str)(scope:Scope)(f:Addr)(cd:QF)(A:RT)(outer:List Env)(s:QP)(H:Hp)(E:XK):Cx where
 prog:=P
 w:=w
 K:=K
 mg:=mg
 base:=base
 A:=A.deeper (envOfC qual scope s.heap.objs.size f cd)
 N:=N
 s₀:=s
 H₀:=H
 env:=envOfC qual scope s.heap.objs.size f cd
 outer:=outer
 stack:=envOfC qual scope s.heap.objs.size f cd :: outer
 ex:=[]
 calm:=true
 fn:=λ_=>true
 pn:=[]
 xe:=λe s'=>wpAny (model P w) (A.deeper (envOfC qual scope s.heap.objs.size f cd)) (leaving (envOfC qual scope s.heap.objs.size f cd) e) (λ_ s''=>CX outer H s E e s'') (λe' s''=>CX outer H s E e' s'') s'
def vn{sc:Scope}(h:sc.names.lookup x=some .cell):∃c,(cellsFrom n sc.names []).lookup x=some c:=by
 have q:=XZ sc.names n [] (.inl h);exact Vr.mp q
def AS{CX:oH}{K:Fg}{A:RT}{vs:List V}
  (S:aC N ps scope) (hd:A.handled=none) (e0:Fw P w K mg base A outer s H) (hl:vs.length=ps.length) (r:Vals vs us)
  (x:InCallC s s.heap.objs.size (bindL (envOfC qual scope s.heap.objs.size f cd).kindOf (ps.zip us) λ_=>none) (cellsFrom (s.heap.objs.size+1) scope.names []) (bindC (envOfC qual scope s.heap.objs.size f cd).kindOf (ps.zip us) λ_=>none) s1) :
  Inv (nW CX P w K mg base N qual scope f cd A outer s H E) [] (start N vs) H s1:=by
 have hpl:ps.length<=N.length:=by have:=congrArg Sr S.pre;rw[Q3] at this;lia
 obtain⟨h1,tk,rfl,hk⟩:=x.done;have noA:∀b:Addr,b∉(nW CX P w K mg base N qual scope f cd A outer s H E).ex:=λb z=>absurd (show b∈([]:List Addr) from z) (by simp)
 refine⟨⟨e0.mod,S.kind,rfl,rfl,QH _,λy z c h1 h2=>?_,λy hy=>?_,λy c _ h=>?_,λ_=>hd,RT.frames_deeper e0.frames,.inr ⟨rfl,rfl⟩,λb z=>absurd z (noA b),e0.bs,e0.bsz,λb _ _=>noA b,λb z=>absurd z (noA b),e0.funs,e0.frf⟩,
  rfl,e0.bare,Un.kept hk,⟨_,x.toInCall.ns,λi y v h1 h2 h3=>?_⟩,λy c h=>⟨_,x.cell y c h⟩,e0.hok.fresh (QH _),λy c h=>?_,λp hp=>absurd (show p∈([]:List (Addr×Obj)) from hp) (by simp),e0.hok.kept hk,?_⟩
 .exact name_of_addr x.apart (UI h1) (UI h2)
 .have hy:scope.names.lookup y=some .cell\/scope.names.lookup y=some .free:=hy;rcases hy with hy|hy
  .exact vn hy
  .exact absurd rfl (S.nofree _ (UI hy))
 .exact TJ (x.above y c (UI h))
 .have hi:i<vs.length:=by
   unfold start at h2;by_cases hi:i<vs.length
   .exact hi
   .rw[R4 (by simpa using hi)] at h2;rw[List.getElem?_replicate] at h2;split at h2 <;> cases h2
  have ha:vs[i]?=some v:=by
   unfold start at h2;rw[RV (by simpa using hi),QD] at h2;cases e:vs[i]? with
   |none=>rw[e] at h2;cases h2
   |some a=>rw[e] at h2;cases h2;rfl
  obtain⟨u,hu,rv⟩:=r.get ha
  have hp:ps[i]?=some y:=by
   rw[<- S.pre,Xs (by lia)];exact h1
  have ndP:ps.Nodup:=by rw[<- S.pre];exact S.nd.sublist (VI _ _)
  refine⟨u,rv,?_⟩;rcases S.par y (QI hp) with k|k
  .exact .inl ⟨k,qH ndP hp hu k⟩
  .obtain⟨c,e⟩:=vn (n:=s.heap.objs.size+1) k;refine .inr ⟨.inl k,c,e,?_⟩;have q:=x.cell y c e;rw[qJ ndP hp hu (by show scope.names.lookup y≠_;rw[k];decide)] at q;exact q
 .exact e0.hok.fresh (TJ (x.above y c (UI h)))
 .unfold start;show _=N.length;rw[QT,Qx,Uh];lia
def PQ{CX:oH}{K:Fg}{dV kV oc:QF}{od:Option Addr}
  {osl:Array (Option QF)}  {sp:Sp} (lk:K.lookup f=some ⟨oc,od,.func (Tl name qual params body scope dV kV doc pm an cdv ct),osl⟩) (hcd:U8 K cdv qual=true) (S:aC N ps scope)
  (len:∀vs H Q E,sp vs H Q E->vs.length=ps.length)
  (hbody:∀(A:RT) (outer:List Env) (s:QP) (H:Hp) (vs:List V) (Q:VK) (E:XK),Room k (A.deeper (envOfC qual scope s.heap.objs.size f cdv))->sp vs H Q E ->
   ∃t,PSs (nW CX P w K mg base N qual scope f cdv A outer s H E) body t/\t {nx:=λ_ H'=>Q .non H',rt:=Q} (start N vs) H) :
  FnOk P w K mg base CX (k+1) f (Tl name qual params body scope dV kV doc pm an cdv ct) ps sp:=by
 refine⟨len,λA outer s H args us vs Q E hr e0 hb r hsp=>?_⟩;have hl:=len _ _ _ _ hsp;have KX:K.In s.heap:=e0.mod.kin.keeps λb o e=>(e0.bs b o e).1
 have lim:s.heap.NoLimit:=e0.mod.nolimit.keeps λb o e=>(e0.bs b o e).1
 have hkind:∀y∈ps.zip us,scope.names.lookup y.1=some .local\/(scope.names.lookup y.1=some .cell/\((cellsFrom (s.heap.objs.size+1) scope.names []).lookup y.1).isSome=true):=λ⟨n,v⟩ hy=>by
  rcases S.par n (Yd hy).1 with q|q
  .exact .inl q
  .exact .inr ⟨q,XZ _ _ _ (.inl q)⟩
 refine codeAny_call_function hr.depth (KX _ _ lk) rfl S.co S.gen rfl (PySem.W.codeRec_of KX hcd) (hb _ _ _ _ ?_);refine wpAny_newFunctionEnv_cells S.kind hkind λenv he s1 x=>?_
 subst he;refine⟨lim.keeps x.toInCall.keep,codeAny_func ?_⟩;obtain⟨t,ht,hq⟩:=hbody A outer s H vs Q E (hr.deeper _) hsp;have I:Inv (nW CX P w K mg base N qual scope f cdv A outer s H E) [] (start N vs) H s1:=AS S hr.hd e0 hl r x;refine SL (ht [] s1 (start N vs) H _ I hq) (λfl s' hs=>?_) λe s' hs=>hs
 have fin:∀{σ':St} {H':Hp} {v:V} {u:QF},Inv (nW CX P w K mg base N qual scope f cdv A outer s H E) [] σ' H' s'->RelV v u->Q v H'->CE outer P w H s Q u s' :=
  λ{σ' H' v u} J rv q=>⟨v,H',J.os,J.bare,J.base,J.hok,rv,q⟩
 cases fl with
 |ret u =>
  obtain⟨v,σ',H',J,rv,q⟩:=hs;exact fin J rv q
 |next =>
  obtain⟨σ',H',J,q⟩:=hs;exact fin (v:=V.non) (u:=Td) J rfl q
 |brk =>
  obtain⟨_,_,_,q⟩:=hs;exact US q
 |cont =>
  obtain⟨_,_,_,q⟩:=hs;exact US q
section
variable{X:Cx}{x:Str}{p pos:Pos}{e:Expr}{es:List Expr}{t:TA}{id T:String}{r:List V->Hp->VK->Prop}
abbrev bo(r:List V->Hp->VK->Prop)(t:TA):TE:=λσ H Q=>t σ H λvs H1=>r vs H1 Q
def ff(hc:eR X (.builtin id) r) (hg:Gl X x) (hm:X.mg x=none) (hv:bootBuiltins x=some (.builtin id)) (ha:PA X (e :: es) t) (hn:x≠"__name__":=by decide) (hdb:(x == ("__debug__":Str))=false:=by decide)
  (he:starEach (e :: es) X.env=(false,eval e X.env) :: starEach es X.env:=by rfl) (hpl:(backTo pos (starEach es X.env)).any (·.1)=false:=by rfl):PE X (.Call (.Name x p) (e :: es) [] pos) (bo r t):=by
 intro ξ s σ H Q I h;refine TF (dR I hg hm hv ?_ hn hdb);exact V3 (bh (ha pos ξ s σ H _ I h) (by rintro us s1 ⟨vs,H1,I1,r1,q1⟩;exact hc ξ s1 σ H1 vs us Q I1 r1 q1)) he hpl
def jv(hc:eR X (.type T) r) (hg:Gl X x) (hm:X.mg x=none) (hv:bootBuiltins x=some (.type T)) (ha:PA X (e :: es) t) (hn:x≠"__name__":=by decide) (hdb:(x == ("__debug__":Str))=false:=by decide)
  (he:starEach (e :: es) X.env=(false,eval e X.env) :: starEach es X.env:=by rfl) (hpl:(backTo pos (starEach es X.env)).any (·.1)=false:=by rfl):PE X (.Call (.Name x p) (e :: es) [] pos) (bo r t):=by
 intro ξ s σ H Q I h;refine TF (dR I hg hm hv ?_ hn hdb);exact RZ (bh (ha pos ξ s σ H _ I h) (by rintro us s1 ⟨vs,H1,I1,r1,q1⟩;exact hc ξ s1 σ H1 vs us Q I1 r1 q1)) he hpl
end
end L2
namespace HT
open PySem PyProof.Rows
section
variable{prog:Rx}{w:RQ}{A:RT}{E:QF->QP->Prop}{s:QP}
abbrev sIx(n d:Nat):Option Int->Nat
 |none=>d
 |some v=>if v<0 then (v+(n:Int)).toNat else min v.toNat n
def yZ(n d k:Nat):sIx n d (some (k:Int))=min k n:=by
 show(if (k:Int)<0 then ((k:Int)+(n:Int)).toNat else min (k:Int).toNat n)=min k n;rw[if_neg (by lia),RJ]
end
end HT
namespace L2
open PySem PySem.Spec PyProof.Rows
nonrec abbrev TO:=St->Hp->(Option Int->Hp->Prop)->Prop
abbrev PO(X:Cx)(e:Option Expr)(t:TO):Prop :=
 ∀(ξ:List (Addr×Obj)) (s:QP) (σ:St) (H:Hp) (Q:Option Int->Hp->Prop),Inv X ξ σ H s->t σ H Q ->
  wpAny (model X.prog X.w) X.A (evalPart e X.env) (λu s'=>∃o H',Inv X ξ σ H' s'/\IsPart u o/\Q o H') X.xe s
abbrev mz:TO:=λ_ H Q=>Q none H
abbrev oO(t:TE):TO:=λσ H Q=>t σ H λx H1=>∃i,x=.int i/\Q (some i) H1
def intsAre_of{ns:List Int}:∀{us:List QF},Vals (ns.map V.int) us->U4 us ns:=by
 induction ns with
 |nil=>intro us r;rw[WL] at r;cases r;exact .nil
 |cons n ns ih =>
  intro us r;rw[RP] at r;cases r with
  |cons r1 r2 =>
   obtain⟨t,e⟩:=r1;subst e;exact .cons n t (ih r2)
section
variable{X:Cx}{e:Expr}{te:TE}{lo hi:Option Expr}{tl th:TO}{pos p2:Pos}
def IR:PO X none mz:=by
 intro ξ s σ H Q I h;rw[evalPart_none];exact Q1 ⟨none,H,I,.none,h⟩
def IQ(h:PE X e te):PO X (some e) (oO te):=by
 intro ξ s σ H Q I hw;rw[evalPart_some];refine bh (h ξ s σ H _ I hw) λu s1 ω=>?_;obtain⟨x,H1,I1,r1,q1⟩:=ω
 obtain⟨i,rfl,q⟩:=q1;obtain⟨t,rfl⟩:=r1;exact⟨some i,H1,I1,.int i t,q⟩
abbrev Og(X:Cx)(r:V->Option Int->Option Int->Hp->VK->Prop):Prop :=
 ∀(ξ:List (Addr×Obj)) (s:QP) (σ:St) (H:Hp) (x:V) (v vl vu:QF) (lo hi:Option Int) (sl:Addr) (Q:VK),Inv X ξ σ H s->RelV x v->s.heap.IsSliceOf sl vl vu .none->IsPart vl lo->IsPart vu hi->r x lo hi H Q ->
  ∃T id,typeLookup (.type T) "__getitem__"=pure (some (.builtin id))/\s.TypeIs v T/\wpAny (model X.prog X.w) X.A (getItem v (.ref sl)) (EP X ξ σ Q) X.xe s
abbrev Kl(r:V->Option Int->Option Int->Hp->VK->Prop)(te:TE)(tl th:TO):TE:=λσ H Q=>te σ H λx H1=>tl σ H1 λl H2=>th σ H2 λu H3=>r x l u H3 Q
def Ej(hr:Og X r)(he:PE X e te)(hl:PO X lo tl)(hu:PO X hi th):PE X (.Subscript e (.Slice lo hi none p2) pos) (Kl r te tl th):=by
 intro ξ s σ H Q I h;refine Subscript_ (bh (he ξ s σ H _ I h) λv s1 ω=>?_);obtain⟨x,H1,I1,r1,q1⟩:=ω;refine wpAny_Slice (bh (hl ξ s1 σ H1 _ I1 q1) λvl s2 ⟨l,H2,I2,pl,q2⟩=>bh (hu ξ s2 σ H2 _ I2 q2) λvu s3 ω=>?_);obtain⟨u,H3,I3,pu,q3⟩:=ω;rw[evalPart_none];refine Q1 ?_;have I4:Inv X ξ σ H3 {s3 with heap:=s3.heap.push {cls:=.type "slice",data:=.fields #[vl,vu,.none]}}:=I3.kept (t':=s3.toks) λb ob q=>QN _ q
 obtain⟨T,id,hT,ht,hg⟩:=hr ξ {s3 with heap:=s3.heap.push {cls:=.type "slice",data:=.fields #[vl,vu,.none]}} σ H3 x v vl vu l u s3.heap.objs.size Q I4 r1 (Heap.IsSliceOf.new ..) pl pu q3;show wpAny (model X.prog X.w) X.A (subscriptTail e (.Slice lo hi none p2) v (.ref s3.heap.objs.size)) (EP X ξ σ Q) X.xe {s3 with heap:=s3.heap.push {cls:=.type "slice",data:=.fields #[vl,vu,.none]}};exact tail_any (ops:=[.ref s3.heap.objs.size,v]) ht hT hg (by with_unfolding_all rfl)
abbrev kH(xs:List V)(lo hi:Option Int):List V:=(xs.drop (HT.sIx xs.length 0 lo)).take (HT.sIx xs.length xs.length hi-HT.sIx xs.length 0 lo)
def tF(xs:List V)(lo hi:Option Int):(kH xs lo hi).length<=xs.length:=by
 unfold kH;rw[Q3,Sw];lia
end
abbrev Ck(n:Nat)(i:Int):Option Nat:=if 0<=i then (if i<n then some i.toNat else none) else if -(n:Int)<=i then some (i+n).toNat else none
abbrev om{α:Type}(xs:List α)(i:Int):Option α:=(Ck xs.length i).bind λj=>xs[j]?
def AO{j:Nat}(h:Ck n i=some j):seqIndex? i n=some j/\j<n/\-(n:Int)<=i/\i<n:=by
 unfold Ck at h;by_cases h0:0<=i
 .rw[if_pos h0] at h;by_cases h1:i<n
  .rw[if_pos h1] at h;have e:i.toNat=j:=Q7 h;exact⟨by rw[Z4 h0 h1,e],by lia,by lia,h1⟩
  .rw[if_neg h1] at h;cases h
 .rw[if_neg h0] at h;by_cases h1 : -(n:Int)<=i
  .rw[if_pos h1] at h;have e:(i+n).toNat=j:=Q7 h;exact⟨by rw[Zo (by lia) h1,e],by lia,h1,by lia⟩
  .rw[if_neg h1] at h;cases h
def tM{α:Type}{xs:List α}{v:α}(h:om xs i=some v):∃j,seqIndex? i xs.length=some j/\xs[j]?=some v/\j<xs.length/\-(xs.length:Int)<=i/\i<xs.length:=by
 unfold om at h;cases e:Ck xs.length i with
 |none=>rw[e] at h;cases h
 |some j =>
  rw[e] at h;obtain⟨h1,h2,h3,h4⟩:=AO e;exact⟨j,h1,h,h2,h3,h4⟩
def aI{α:Type}{xs:List α}{j:Nat}{v:α}(h:xs[j]?=some v):om xs (j:Int)=some v:=by
 have hj:j<xs.length:=(QC.mp h).1
 have e:Ck xs.length (j:Int)=some j:=by
  unfold Ck;rw[if_pos (by lia),if_pos (by lia)];simp
 unfold om;rw[e];exact h
abbrev Kb(b:Expr):Prop:=∀o i,subscripted b false o i=operate [o,i] (getItem o i)
abbrev IxR(X:Cx)(r:R2):Prop :=
 ∀(value slice:Expr) (ξ:List (Addr×Obj)) (s:QP) (σ:St) (H:Hp) (x y:V) (v u:QF) (Q:VK),Inv X ξ σ H s->RelV x v->RelV y u->r x y H Q ->
  subscripted slice false v u=operate [v,u] (getItem v u)->wpAny (model X.prog X.w) X.A (subscriptTail value slice v u) (EP X ξ σ Q) X.xe s
abbrev Oj(X:Cx)(id:String)(r:V->List V->Hp->VK->Prop):Prop :=
 ∀(ξ:List (Addr×Obj)) (s:QP) (σ:St) (H:Hp) (x:V) (xs:List V) (v:QF) (us:List QF) (Q:VK),Inv X ξ σ H s->RelV x v->Vals xs us->r x xs H Q ->
  wpAny (model X.prog X.w) X.A (call (.builtin id) (v :: us)) (EP X ξ σ Q) X.xe s
section
variable{X:Cx}{a b:Expr}{ta tb:TE}{pos:Pos}
def IxR.or(h:IxR X r)(h':IxR X r'):IxR X (λx y H Q=>r x y H Q\/r' x y H Q):=by
 intro value slice ξ s σ H x y v u Q I rx ry q hs;rcases q with q|q
 .exact h value slice ξ s σ H x y v u Q I rx ry q hs
 .exact h' value slice ξ s σ H x y v u Q I rx ry q hs
def OH(hr:IxR X r)(ha:PE X a ta)(hb:PE X b tb)(hs:Kb b):PE X (.Subscript a b pos) (ar r ta tb):=by
 intro ξ s σ H Q I h;exact Subscript_ (J4 ha hb I h λv u s2 x y H2 I2 rx ry q=>hr a b ξ s2 σ H2 x y v u Q I2 rx ry q (hs _ _))
abbrev bJ(K:Fg):R2:=λx y H Q=>∃p xs i v,x=.ref p/\y=.int i/\SqL K H p xs/\om xs i=some v/\Q v H
abbrev aE(K:Fg):R2:=λx y H Q=>∃p xs i v,x=.ref p/\y=.int i/\SqT K H p xs/\om xs i=some v/\Q v H
abbrev D9:R2:=λx y H Q=>∃z i c,x=.str z/\y=.int i/\z.length<=sizeLine/\om z.cps.toList i=some c/\Q (.str ⟨#[c]⟩) H
def AM:IxR X (bJ X.K):=by
 intro value slice ξ s σ H x y v u Q I rx ry h hs;obtain⟨p,xs,i,z,rfl,rfl,hq,he,q⟩:=h;cases rx;obtain⟨t,rfl⟩:=ry;obtain⟨gV,r,pl,hz⟩:=I.list hq;obtain⟨j,h1,h2,h3,h4,h5⟩:=tM he;obtain⟨w,ew,rw'⟩:=r.get h2;have hl:=r.length;have hn:=qa;have fin:EP X ξ σ Q w s:=⟨z,H,I,rw',q⟩
 by_cases h0:0<=i
 .have hj:i.toNat=j:=by
   rw[Z4 h0 h5] at h1;exact Q7 h1
  exact item_listR pl.isList h0 (by lia) (by rw[hj];simpa using ew) fin hs
 .have hj:(i+(gV.toArray.size:Int)).toNat=j:=by
   rw[Zo (by lia) h4] at h1;rw[Rf,<- hl];exact Q7 h1
  exact X0 (x:=w) pl.isList.typeIs slot_list_getitem.lookup
   (wpAny_getItem_list_neg (Q:=λr s'=>r=w/\EP X ξ σ Q r s') pl.isList (by lia) (by rw[Rf] <;> lia) (by lia) (by rw[hj];simpa using ew) ⟨rfl,fin⟩) hs
def Gk:IxR X (aE X.K):=by
 intro value slice ξ s σ H x y v u Q I rx ry h hs;obtain⟨p,xs,i,z,rfl,rfl,hq,he,q⟩:=h;cases rx;obtain⟨t,rfl⟩:=ry;obtain⟨gV,r,pl,hz⟩:=I.tuple hq;obtain⟨j,h1,h2,h3,h4,h5⟩:=tM he;obtain⟨w,ew,rw'⟩:=r.get h2;have hl:=r.length;have hn:=qa;have fin:EP X ξ σ Q w s:=⟨z,H,I,rw',q⟩
 exact X0 (x:=w) pl.typeIs slot_tuple_getitem.lookup
  (getItem_tuple (j:=j) (Q:=λr s'=>r=w/\EP X ξ σ Q r s') pl (by lia) (by lia) (by rw[Rf,<- hl];exact h1) (by simpa using ew) ⟨rfl,fin⟩) hs
def Gm:IxR X D9:=by
 intro value slice ξ s σ H x y v u Q I rx ry h hs;obtain⟨z,i,c,rfl,rfl,hz,he,q⟩:=h;obtain⟨t,rfl⟩:=rx;obtain⟨t',rfl⟩:=ry;obtain⟨j,h1,h2,h3,h4,h5⟩:=tM he;have hl:z.cps.toList.length=z.length:=by simp[Zam]
 rw[hl] at h1 h4 h5;have hn:=qa
 exact tail_any (typeIs_str s z t) slot_str_getitem.lookup (getItem_str (c:=c) (by
  have e1:decide (i < -(2 ^ 63:Int))=false:=decide_eq_false (by lia)
  have e2:decide (i≥2 ^ 63)=false:=decide_eq_false (by lia)
  rw[e1,e2,Zaw]) (by rw[h1];simpa using h2) ⟨.str ⟨#[c]⟩,H,I.tok _,⟨_,rfl⟩,q⟩) hs
abbrev Oc(K:Fg):R2:=λx y H Q=>bJ K x y H Q\/aE K x y H Q\/D9 x y H Q
def M4:IxR X (Oc X.K):=AM.or (Gk.or Gm)
def wt(gV:List QF) (n j:Nat) (u:QF):UU (·.setIfInBounds j u) {cls:=.type "list",data:=.seq gV.toArray n} = {cls:=.type "list",data:=.seq (gV.set j u).toArray n}:=by
 simp[UU]
def Inv.lst{ξ:List (Addr×Obj)}{σ:St}{H:Hp}{s:QP}{p:Addr}{xs:List V}(I:Inv X ξ σ H s)(h:H p=some (.lst xs)) :
  ∃(gV:List QF) (n:Nat),Vals xs gV/\s.heap.get? p=some {cls:=.type "list",data:=.seq gV.toArray n}/\xs.length<=sizeLine:=by
 obtain⟨z,gV,n,r,e⟩:=I.hok p _ h;exact⟨gV,n,r,e,z⟩
def Inv.Mp{H:Hp}{gV its':List QF}{f:Obj->Obj}(I:Inv X ξ σ H s)(h:H p=some (.lst xs))
  (ho:s.heap.get? p=some {cls:=.type "list",data:=.seq gV.toArray n}) (hf:f {cls:=.type "list",data:=.seq gV.toArray n} = {cls:=.type "list",data:=.seq its'.toArray n'}) (r:Vals ys its') (hz:ys.length<=sizeLine) (t:Nat) :
  Inv X ξ σ (upd H p (.lst ys)) {s with heap:=s.heap.update p f,toks:=t}:=by
 have e:(s.heap.update p f).get? p=some {cls:=.type "list",data:=.seq its'.toArray n'}:=by
  rw[SE f ho (by rw[hf] <;> rfl),hf]
 refine I.write (x:=p) (e:=p) (by rw[h];trivial) (.inl rfl) (λb u hb q=>(X1 _ _ (Xf hb)).trans q) ⟨_,e⟩ ?_;exact⟨hz,its',n',r,e⟩
abbrev Iy:V->V->V->Hp->(Hp->Prop)->Prop:=λo i v H Q=>∃p xs k j,o=.ref p/\i=.int k/\H p=some (.lst xs)/\Ck xs.length k=some j/\Q (upd H p (.lst (xs.set j v)))
def yR:N1 X Iy:=by
 intro ξ s σ H o i v ov iv u Q I ro ri rv h;obtain⟨p,xs,k,j,rfl,rfl,hp,hj,q⟩:=h;cases ro;obtain⟨t,rfl⟩:=ri;obtain⟨gV,n,r,ho,hz⟩:=I.lst hp;obtain⟨h1,h2,h3,h4⟩:=AO hj;have hl:=r.length;have hn:=qa
 have I':Inv X ξ σ (upd H p (.lst (xs.set j v))) {s with heap:=s.heap.update p (UU (·.setIfInBounds j u))} :=
  I.Mp hp ho (wt gV n j u) (r.set rv j) (by rw[Vv];exact hz) s.toks
 by_cases h0:0<=k
 .have hk:k.toNat=j:=by
   rw[Z4 h0 h4] at h1;exact Q7 h1
  exact PySem.W.ki_setAt ho h0 (by lia) (by rw[Rf,<- hl];exact h4) (by rw[hk];exact⟨_,I',q⟩)
 .have hk:(k+(gV.toArray.size:Int)).toNat=j:=by
   rw[Zo (by lia) h3] at h1;rw[Rf,<- hl];exact Q7 h1
  exact PySem.W.ki_setBack ho (by lia) (by rw[Rf,<- hl];exact h3) (by lia) (by rw[hk];exact⟨_,I',q⟩)
def oW(lo hi:Option Int)(n:Nat):(sliceBounds lo hi none n).1=((HT.sIx n 0 lo:Nat):Int)/\(sliceBounds lo hi none n).2.1=((HT.sIx n n hi:Nat):Int)/\(sliceBounds lo hi none n).2.2=1:=by
 refine⟨?_,?_,rfl⟩
 .cases lo with
  |none=>simp[sliceBounds,HT.sIx]
  |some i =>
   simp only[sliceBounds,HT.sIx,ZR,show(1:Int) > 0 by decide,if_true];by_cases h:i<0
   .simp only[h,if_true] <;> lia
   .simp only[h,if_false] <;> lia
 .cases hi with
  |none=>simp[sliceBounds,HT.sIx]
  |some i =>
   simp only[sliceBounds,HT.sIx,ZR,show(1:Int) > 0 by decide,if_true];by_cases h:i<0
   .simp only[h,if_true] <;> lia
   .simp only[h,if_false] <;> lia
def mN(gV:List QF)(lo hi:Option Int):slicePick gV.toArray lo hi none=((gV.drop (HT.sIx gV.length 0 lo)).take (HT.sIx gV.length gV.length hi-HT.sIx gV.length 0 lo)).toArray:=by
 obtain⟨h1,h2,h3⟩:=oW lo hi gV.toArray.size;unfold slicePick;rw[h1,h2,h3];simp only[sliceRange_one,pick_run,Rf] <;> rfl
abbrev D8(K:Fg):V->Option Int->Option Int->Hp->VK->Prop:=λx lo hi H Q=>∃a xs,x=.ref a/\SqL K H a xs/\∀p,H p=none->Q (.ref p) (upd H p (.lst (kH xs lo hi)))
def HF:Og X (D8 X.K):=by
 intro ξ s σ H x v vl vu lo hi sl Q I rx hs pl pu h;obtain⟨a,xs,rfl,hx,q⟩:=h;cases rx;obtain⟨gV,r,ht,hz⟩:=I.list hx;have hlen:=r.length;refine⟨"list",_,slot_list_getitem.lookup,ht.isList.typeIs,?_⟩;refine wpAny_getItem_list_slice ht.isList hs pl pu .none (by simp) ?_ (by rw[Rf] <;> lia);rw[mN,<- hlen];refine⟨.ref s.heap.objs.size,_,I.laid (t':=s.toks) (o:=.lst (kH xs lo hi)) (λb ob q=>QN _ q) (QH _) ?_,rfl,q _ (I.hok.fresh (QH _))⟩;exact⟨Q0 (tF xs lo hi) hz,_,0,(r.drop (HT.sIx xs.length 0 lo)).take (HT.sIx xs.length xs.length hi-HT.sIx xs.length 0 lo),Rg _ rfl⟩
def qC:eR X (.builtin "len") (λxs H Q=>∃p ys,xs=[.ref p]/\(SqL X.K H p ys\/SqT X.K H p ys)/\Q (.int ys.length) H):=by
 intro ξ s σ H xs us Q I r h;obtain⟨p,ys,rfl,hq,q⟩:=h;obtain⟨u,rfl,rx⟩:=vals1 r;cases rx;have hn:=qa;rcases hq with hq|hq
 .obtain⟨gV,r',pl,hz⟩:=I.list hq;have hlen:=r'.length;exact Calls.call_len_list pl.isList (by simp only[Rf] <;> lia) ⟨.int ys.length,H,I.tok _,⟨s.toks+1,by rw[Rf,hlen]⟩,q⟩
 .obtain⟨gV,r',pl,hz⟩:=I.tuple hq;have hlen:=r'.length;exact len_tuple pl (by simp only[Rf] <;> lia) ⟨.int ys.length,H,I.tok _,⟨s.toks+1,by rw[Rf,hlen]⟩,q⟩
def qB:eR X (.type "list") (λxs H Q=>∃p ys,xs=[.ref p]/\(SqL X.K H p ys\/SqT X.K H p ys)/\∀l,H l=none->Q (.ref l) (upd H l (.lst ys))):=by
 intro ξ s σ H xs us Q I r h;obtain⟨p,ys,rfl,hq,q⟩:=h;obtain⟨u,rfl,rx⟩:=vals1 r;cases rx
 have fin:∀(gV:List QF),Vals ys gV->ys.length<=sizeLine->∀(h':Heap) (c':Nat),(∀b o',s.heap.get? b=some o'->h'.get? b=some o') ->
   h'.get? s.heap.objs.size=some {cls:=.type "list",dict:=none,data:=.seq gV.toArray c',slots:=#[]}->EP X ξ σ Q (.ref s.heap.objs.size) {s with heap:=h'}:=λgV r' hz h' c' kp e =>
  ⟨.ref s.heap.objs.size,_,I.laid (t':=s.toks) kp (QH _) (show cc X.prog X.w _ h' _ (.lst ys) from⟨hz,gV,c',r',e⟩),rfl,q _ (I.hok.fresh (QH _))⟩
 rcases hq with hq|hq
 .obtain⟨gV,r',pl,hz⟩:=I.list hq;have hlen:=r'.length;obtain⟨o,ho,hc,n,hd⟩:=pl.isList;exact call_list_seq p (.inl rfl) ho hc hd (λh' c' kp e=>fin gV r' hz h' c' kp e) (by simp only[Rf] <;> lia)
 .obtain⟨gV,r',pl,hz⟩:=I.tuple hq;have hlen:=r'.length;obtain⟨o,ho,hc,n,hd⟩:=pl;exact call_list_seq p (.inr rfl) ho hc hd (λh' c' kp e=>fin gV r' hz h' c' kp e) (by simp only[Rf] <;> lia)
def n_:eR X (.type "tuple") (λxs H Q=>∃p ys,xs=[.ref p]/\((SqL X.K H p ys/\∀l,H l=none->Q (.ref l) (upd H l (.tup ys)))\/(SqT X.K H p ys/\Q (.ref p) H))):=by
 intro ξ s σ H xs us Q I r h;obtain⟨p,ys,rfl,h⟩:=h;obtain⟨u,rfl,rx⟩:=vals1 r;cases rx;rcases h with⟨hq,q⟩|⟨hq,q⟩
 .obtain⟨gV,r',pl,hz⟩:=I.list hq;have hlen:=r'.length;refine call_tuple_list pl.isList (λh' kp=>?_) (by simp only[Rf] <;> lia);have I1:Inv X ξ σ H {s with heap:=h'}:=I.kept (t':=s.toks) kp
  have I2:Inv X ξ σ (upd H h'.objs.size (.tup ys)) {s with heap:=h'.push {cls:=.type "tuple",data:=.seq gV.toArray}} :=
   I1.laid (t':=s.toks) (λb o e=>QN _ e) (QH _) (show cc X.prog X.w _ _ _ (.tup ys) from⟨hz,gV,r',TupD.new _ _⟩)
  exact⟨.ref h'.objs.size,_,I2,rfl,q _ (I1.hok.fresh (QH _))⟩
 .obtain⟨gV,r',pl,hz⟩:=I.tuple hq;exact call_tuple_same pl ⟨.ref p,H,I,rfl,q⟩
abbrev FE(K:Fg)(T:String)(x:V)(H:Hp):Prop:=match x with
 |.str _=>T = "str"
 |.int _=>T = "int"
 |.ref p=>(T = "list"/\∃xs,SqL K H p xs)\/(T = "tuple"/\∃o,K.lookup p=some o/\o.cls=.type "tuple"/\o.dict=none) \/
   (T = "dict"/\((∃de,H p=some (.dK de))\/∃de,H p=some (.dT de)))\/(T = "set"/\∃S n,H p=some (.set S n))
 |_=>False
def FD{H:Hp}{T:String}(I:Inv X ξ σ H s)(r:RelV x v)(ty:FE X.K T x H) :
  s.TypeIs v T/\∀a,v=.ref a->∃ob,s.heap.get? a=some ob/\ob.dict=none:=by
 cases x with
 |str z =>
  obtain⟨t,rfl⟩:=r;cases (show T = "str" from ty);exact⟨typeIs_str s z t,λ_ e=>nomatch e⟩
 |int i =>
  obtain⟨t,rfl⟩:=r;cases (show T = "int" from ty);exact⟨typeIs_int s i t,λ_ e=>nomatch e⟩
 |ref p =>
  cases r;rcases ty with⟨rfl,xs,hq⟩|⟨rfl,o,hk,hc,hd⟩|⟨rfl,hk⟩|⟨rfl,S,n,hk⟩
  .obtain⟨gV,_,pl,_⟩:=I.list hq;refine⟨pl.isList.typeIs,λa e=>?_⟩;cases e;obtain⟨o,n,e,c,hd,_⟩:=pl;exact⟨o,e,hd⟩
  .refine⟨⟨o,I.kIn p o hk,hc⟩,λa e=>?_⟩;cases e;exact⟨o,I.kIn _ o hk,hd⟩
  .have z:∃o,s.heap.get? p=some o/\o.ExactDict:=by
    rcases hk with⟨de,hk⟩|⟨de,hk⟩
    .obtain⟨_,_,_,_,o,_,_,e,ex,_⟩:=I.hok p _ hk;exact⟨o,e,ex⟩
    .obtain⟨_,_,_,_,o,_,_,e,ex,_⟩:=I.hok p _ hk;exact⟨o,e,ex⟩
   obtain⟨o,e,ex⟩:=z;refine⟨⟨o,e,ex.1⟩,λa e2=>?_⟩;cases e2;exact⟨o,e,ex.2.1⟩
  .obtain⟨o,_,_,_,e,ex,_⟩:=I.hok p _ hk;refine⟨⟨o,e,ex.1⟩,λa e2=>?_⟩;cases e2;exact⟨o,e,ex.2.1⟩
 |_=>exact US ty
abbrev Hv(K:Fg)(T:String)(r:V->List V->Hp->VK->Prop)(to:TE):TE:=λσ H Q=>to σ H λx H1=>FE K T x H1/\r x [] H1 Q
abbrev cZ(K:Fg)(T:String)(r:V->List V->Hp->VK->Prop)(to:TE)(t:TA):TE:=λσ H Q=>to σ H λx H1=>FE K T x H1/\t σ H1 λxs H2=>r x xs H2 Q
variable{o e:Expr}{es:List Expr}{to:TE}{t:TA}{name:Str}{apos cpos:Pos}{T id:String}{r:V->List V->Hp->VK->Prop}
def LR(pa:PlainAttrs T) (slot:Slot T name id) (hty:typeOf (.builtin id)=pure (.type "method_descriptor")) (hm:Oj X id r) (ho:PE X o to)
  (hbase:attributeBase o name X.env (eval o X.env)=eval o X.env:=by rfl) (hline:(apos.endLine == cpos.line)=true:=by rfl):PE X (.Call (.Attribute o name apos) [] [] cpos) (Hv X.K T r to):=by
 intro ξ s σ H Q I h;refine wpAny_Call_method0_late hbase hline (bh (ho ξ s σ H _ I h) λv s1 ω=>?_);obtain⟨x,H1,I1,r1,ty,q1⟩:=ω;obtain⟨h1,h2⟩:=FD I1 r1 ty;exact⟨T,id,pa,slot,hty,h1,h2,VJ rfl (PySem.evalArgs_none (hm ξ s1 σ H1 x [] v [] Q I1 r1 .nil q1))⟩
def zR(pa:PlainAttrs T) (slot:Slot T name id) (hty:typeOf (.builtin id)=pure (.type "method_descriptor")) (hm:Oj X id r) (ho:PE X o to) (ha:PA X (e :: es) t)
  (hbase:attributeBase o name X.env (eval o X.env)=eval o X.env:=by rfl)
  (hfew:((backTo cpos (starEach (e :: es) X.env)).all (λx=>!x.1) && (backToKw cpos (keywordEach [] X.env)).all (λx=>x.1.isSome)
   && decide ((e :: es).length+([]:List Zag).length+(if ([]:List Zag).isEmpty then 0 else 1)<30))=true:=by rfl)
  (hline:(apos.endLine == cpos.line)=true:=by rfl) (hs:starEach (e :: es) X.env=(false,eval e X.env) :: starEach es X.env:=by rfl) (hplain:(backTo cpos (starEach es X.env)).any (·.1)=false:=by rfl) :
  PE X (.Call (.Attribute o name apos) (e :: es) [] cpos) (cZ X.K T r to t):=by
 intro ξ s σ H Q I h;refine wpAny_Call_method_late hbase hfew hline rfl (bh (ho ξ s σ H _ I h) λv s1 ω=>?_);obtain⟨x,H1,I1,r1,ty,q1⟩:=ω;obtain⟨h1,h2⟩:=FD I1 r1 ty;refine⟨T,id,pa,slot,hty,h1,h2,?_⟩;have hA:=ha cpos ξ s1 σ H1 _ I1 q1;rw[hs] at hA ⊢;refine VJ (by show(false || (backTo cpos (starEach es X.env)).any (·.1))=false;rw[hplain] <;> rfl) (Ys ?_);exact bh hA (by rintro us s2 ⟨vs,H2,I2,r2,q2⟩;exact hm ξ s2 σ H2 x vs v us Q I2 r1 r2 q2)
end
abbrev Ol(X:Cx)(id:String)(r:V->List V->Hp->VK->Prop):Prop :=
 ∀(ξ:List (Addr×Obj)) (s:QP) (σ:St) (H:Hp) (x:V) (xs:List V) (v:QF) (us:List QF) (Q:VK),Inv X ξ σ H s->RelV x v->Vals xs us->r x xs H Q ->
  wpAny (model X.prog X.w) X.A (call (.builtin id) (v :: us)) (EP X ξ σ Q) X.xe s
def Vals.one:∀{x:V} {us:List QF},Vals [x] us->∃u,us=[u]/\RelV x u
 |_,_,.cons r .nil=>⟨_,rfl,r⟩
def Vals.zero:∀{us:List QF},Vals [] us->us=[]
 |_,.nil=>rfl
def Vals.dropLast(h:Vals xs us):Vals xs.dropLast us.dropLast:=by
 induction h with
 |nil=>exact .nil
 |cons r t ih =>
  cases t with
  |nil=>exact .nil
  |cons q t'=>exact .cons r ih
def Vals.eraseIdx:∀{xs:List V} {us:List QF} (i:Nat),Vals xs us->Vals (xs.eraseIdx i) (us.eraseIdx i)
 |_,_,_,.nil=>.nil
 |_,_,0,.cons _ t=>t
 |_,_,i+1,.cons r t=>.cons r (Vals.eraseIdx i t)
def Vals.rep{xs:List V}{us:List QF}(h:Vals xs us):∀k:Nat,Vals (Rm k xs).flatten (Rm k us).flatten
 |0=>.nil
 |k+1=>by
  rw[UJ,UJ,VL,VL];exact Vals.append h (Vals.rep h k)
def wB{α:Type}(l:List α):l.eraseIdx (l.length-1)=l.dropLast:=by
 induction l with
 |nil=>rfl
 |cons a r ih =>
  cases r with
  |nil=>rfl
  |cons b r =>
   have e:(a :: b :: r).length-1=((b :: r).length-1)+1:=by
    have h1:(a :: b :: r).length=r.length+2:=rfl;have h2:(b :: r).length=r.length+1:=rfl;lia
   rw[e,List.eraseIdx_cons_succ,ih]
   all_goals rfl
def qb{α:Type}:∀(l:List α) (i:Nat),(l.eraseIdx i).length<=l.length
 |[],_=>QH _
 |_ :: _,0=>Yt _
 |_ :: r,i+1=>V4 (qb r i)
def foldl_rep(gV:List QF):∀(k:Nat) (acc:List QF),
  Zan (λx1 x2=>x1++x2) acc.toArray (Rm k gV.toArray)=(acc++(Rm k gV).flatten).toArray
 |0,acc=>by simp
 |k+1,acc=>by
  have e:acc.toArray++gV.toArray=(acc++gV).toArray:=by simp
  have e2:(acc++gV)++(Rm k gV).flatten=acc++(Rm (k+1) gV).flatten:=by
   rw[UJ,VL,R_]
  rw[<- e2,<- foldl_rep gV k (acc++gV),<- e,UJ,Wx]
section
variable{X:Cx}{ξ:List (Addr×Obj)}{σ:St}{H:Hp}{s:QP}{l b:Addr}{xs ys zs:List V}
def Inv.lset{gV its':List QF}{f:Array QF->Array QF}{t':Nat}(I:Inv X ξ σ H s)(hH:H l=some (.lst xs))
  (e:s.heap.get? l=some {cls:=.type "list",data:=.seq gV.toArray n}) (hf:f gV.toArray=its'.toArray) (hv:Vals ys its') (hz:ys.length<=sizeLine) :
  Inv X ξ σ (upd H l (.lst ys)) {s with heap:=s.heap.update l (UU f),toks:=t'}:=by
 have q:=PySem.IsL.update e f;rw[hf] at q;refine I.write (x:=l) (e:=l) (by rw[hH];exact trivial) (.inl rfl) (λb' u hb hu=>(X1 s.heap (UU f) (Xf hb)).trans hu) ⟨_,q⟩ ?_;exact⟨hz,its',_,hv,q⟩
def Inv.lnew{t':Nat}(I:Inv X ξ σ H s)(hv:Vals ys gV)(hz:ys.length<=sizeLine) :
  Inv X ξ σ (upd H s.heap.objs.size (.lst ys)) {s with heap:=s.heap.push {cls:=.type "list",data:=.seq gV.toArray},toks:=t'} :=
 I.laid (λ_ _ q=>QN _ q) (QH _) ⟨hz,gV,0,hv,Rg _ rfl⟩
def Inv.fresh(I:Inv X ξ σ H s):H s.heap.objs.size=none:=I.hok.fresh (QH _)
def Inv.lstM(I:Inv X ξ σ H s) (hH:H l=some (.lst xs)):xs.length<=sizeLine/\∃(gV:List QF) (n:Nat),Vals xs gV/\xs.length=gV.length/\s.heap.get? l=some {cls:=.type "list",data:=.seq gV.toArray n}:=by
 obtain⟨z,gV,n,r,e⟩:=I.hok l _ hH;exact⟨z,gV,n,r,r.length,e⟩
def uG{n:Nat}(h:n<=sizeLine):UF n=false:=by
 unfold UF;exact decide_eq_false (by lia)
end
section
variable{X:Cx}
abbrev aO:V->List V->Hp->VK->Prop:=λx vs H Q=>∃l xs y,x=.ref l/\vs=[y]/\H l=some (.lst xs)/\xs.length<sizeLine/\Q .non (upd H l (.lst (xs++[y])))
def pZ:Ol X "list.append" aO:=by
 intro ξ s σ H x vs v us Q I rx rv h;obtain⟨l,xs,y,rfl,rfl,hH,hz,q⟩:=h;cases rx;obtain⟨u,rfl,ru⟩:=rv.one;obtain⟨z,gV,n,r,hl,e⟩:=I.lstM hH;refine Vx F.slot_list_append ⟨_,e,rfl⟩ F.entry_list_append (F.args_list_append_2 _ _) (PySem.list_append l gV.toArray n u (by rw[Rf];lia)) ⟨e,?_⟩;refine⟨.non,_,I.lset (its':=gV++[u]) hH e (by simp) (r.append (.cons ru .nil)) ?_,rfl,q⟩;rw[QT,RY];lia
abbrev js:V->List V->Hp->VK->Prop:=λx vs H Q=>∃l b xs zs,x=.ref l/\vs=[.ref b]/\H l=some (.lst xs)/\H b=some (.lst zs)/\xs.length+zs.length<=sizeLine/\Q .non (upd H l (.lst (xs++zs)))
def Am:Ol X "list.extend" js:=by
 intro ξ s σ H x vs v us Q I rx rv h;obtain⟨l,b,xs,zs,rfl,rfl,hH,hB,hz,q⟩:=h;cases rx;obtain⟨u,rfl,ru⟩:=rv.one;cases ru;obtain⟨z,gV,n,r,hl,e⟩:=I.lstM hH;obtain⟨z2,its2,n2,r2,hl2,e2⟩:=I.lstM hB;have hsz:gV.toArray.size+its2.toArray.size<=sizeLine:=by rw[Rf,Rf];lia
 have hlong : ¬ (!gV.toArray.isEmpty && UF (gV.toArray.size+its2.toArray.size))=true:=by
  rw[uG hsz,Bool.and_false];exact Rj
 refine Vx F.slot_list_extend ⟨_,e,rfl⟩ F.entry_list_extend (F.args_list_extend_2 _ _)
  (AutoSeq1.list_extend_list_list_0 l gV.toArray n b its2.toArray n2 hlong (by rw[Rf];lia) (by lia)) ⟨e,e2,?_⟩
 refine⟨.non,_,I.lset (its':=gV++its2) hH e (by simp) (r.append r2) ?_,rfl,q⟩;rw[QT];lia
abbrev IB:V->List V->Hp->VK->Prop:=λx vs H Q=>∃l xs y,x=.ref l/\vs=[]/\H l=some (.lst xs)/\xs[xs.length-1]?=some y/\Q y (upd H l (.lst xs.dropLast))
def Mh:Ol X "list.pop" IB:=by
 intro ξ s σ H x vs v us Q I rx rv h;obtain⟨l,xs,y,rfl,rfl,hH,hy,q⟩:=h;cases rx;have hus:=rv.zero;subst hus;obtain⟨z,gV,n,r,hl,e⟩:=I.lstM hH;obtain⟨u,hu,ru⟩:=r.get hy
 have hy':gV.toArray[gV.toArray.size-1]?=some u:=by
  show gV.toArray[gV.length-1]?=some u;rw[<- Rq,<- hl];exact hu
 refine Vx F.slot_list_pop ⟨_,e,rfl⟩ ZS (F.args_list_pop_1 _) (MeetsSeq.list_pop_last l gV.toArray n u hy' (by rw[Rf];lia)) ⟨e,?_⟩;refine⟨y,_,I.lset (its':=gV.dropLast) hH e ?_ r.dropLast ?_,ru,q⟩
 .show gV.toArray.eraseIdxIfInBounds (gV.toArray.size-1)=gV.dropLast.toArray;rw[Rf,VU,wB]
 .rw[List.length_dropLast];lia
abbrev zu:V->List V->Hp->VK->Prop:=λx vs H Q=>∃l xs i k y,x=.ref l/\vs=[.int i]/\H l=some (.lst xs)/\-(2 ^ 63)<=i/\i<2 ^ 63/\seqIndex? i xs.length=some k/\xs[k]?=some y/\Q y (upd H l (.lst (xs.eraseIdx k)))
def ED:Ol X "list.pop" zu:=by
 intro ξ s σ H x vs v us Q I rx rv h;obtain⟨l,xs,i,k,y,rfl,rfl,hH,h1,h2,hk,hy,q⟩:=h;cases rx;obtain⟨u,rfl,ru⟩:=rv.one;obtain⟨t,rfl⟩:=ru;obtain⟨z,gV,n,r,hl,e⟩:=I.lstM hH;obtain⟨w,hw,rw'⟩:=r.get hy
 refine Vx F.slot_list_pop ⟨_,e,rfl⟩ ZS (F.args_list_pop_2 _ _)
  (MeetsSeq.list_pop_at l gV.toArray n i t k w (fitsIndex_both h1 h2) (by rw[Rf,<- hl];exact hk) (by rw[<- Rq];exact hw) (by rw[Rf];lia)) ⟨e,?_⟩
 refine⟨y,_,I.lset (its':=gV.eraseIdx k) hH e ?_ (r.eraseIdx k) ?_,rw',q⟩
 .show gV.toArray.eraseIdxIfInBounds k=(gV.eraseIdx k).toArray;rw[VU]
 .have:=qb xs k
  lia
abbrev zw:R2:=λx y H Q=>∃l b xs zs,x=.ref l/\y=.ref b/\H l=some (.lst xs)/\H b=some (.lst zs)/\xs.length+zs.length<=sizeLine/\∀p,H p=none->Q (.ref p) (upd H p (.lst (xs++zs)))
def L7:fD X (binaryOp .Add) zw:=by
 intro ξ s σ H x y v u Q I rx ry h;obtain⟨l,b,xs,zs,rfl,rfl,hH,hB,hz,q⟩:=h;cases rx;cases ry;obtain⟨z,gV,n,r,hl,e⟩:=I.lstM hH;obtain⟨z2,its2,n2,r2,hl2,e2⟩:=I.lstM hB;refine PySem.P.add_list e e2 ?_ (by rw[Rf,Rf];lia);have ea:gV.toArray++its2.toArray=(gV++its2).toArray:=by simp
 rw[ea];exact⟨.ref _,_,I.lnew (t':=s.toks) (r.append r2) (by rw[QT];lia),rfl,q _ I.fresh⟩
abbrev IA:R2:=λx y H Q=>∃l k xs,x=.ref l/\y=.int k/\H l=some (.lst xs)/\-(2 ^ 63)<=k/\k<2 ^ 63/\xs.length*k.toNat<=sizeLine /\
 ∀p,H p=none->Q (.ref p) (upd H p (.lst (Rm k.toNat xs).flatten))
def EI{α:Type}(xs:List α)(k:Nat):(Rm k xs).flatten.length=k*xs.length:=by
 induction k with
 |zero=>simp
 |succ k ih=>rw[UJ,VL,QT,ih,Uu,X2]
def LZ:fD X (binaryOp .Mult) IA:=by
 intro ξ s σ H x y v u Q I rx ry h;obtain⟨l,k,xs,rfl,rfl,hH,h1,h2,hz,q⟩:=h;cases rx;obtain⟨t,rfl⟩:=ry;obtain⟨z,gV,n,r,hl,e⟩:=I.lstM hH;have hlen:gV.toArray.size*k.toNat<=sizeLine:=by rw[Rf,<- hl];exact hz
 have hcap : ¬ gV.toArray.size*k.toNat > (2 ^ 63-1) / 8:=by
  have:(sizeLine:Nat)<=(2 ^ 63-1) / 8:=by decide
  lia
 have hfit : ¬ (!Builtin.List.listFitsIndex k)=true:=by
  rw[fitsIndex_both h1 h2];exact Rj
 have hlong : ¬ UF (gV.toArray.size*k.toNat)=true:=by
  rw[uG hlen];exact Rj
 have hnew:Zan (λx1 x2=>x1++x2) #[] (Rm (if gV.toArray.isEmpty=true then 0 else k.toNat) gV.toArray)=(Rm k.toNat gV).flatten.toArray:=by
  have f0:∀m:Nat,Zan (λx1 x2=>x1++x2) #[] (Rm m gV.toArray)=(Rm m gV).flatten.toArray:=λm=>by
   have:=foldl_rep gV m []
   rw[Um] at this;exact this
  rw[f0];cases gV with
  |nil=>simp
  |cons a r'=>rw[if_neg (by simp)]
 refine wpAny_binaryOp_repeat_ref (T:="list") (U:="int") (by decide) ⟨_,e,rfl⟩ (λs'=>typeIs_int s' k t) noFill_list_mul F.fills_int_mul F.slot_int_rmul repeat_list F.slot_int_index.lookup
  (Vx F.slot_int_rmul (typeIs_int s k t) F.entry_int_rmul (F.args_int_rmul_2 _ _) (int___rmul___int_list k t l gV.toArray n)
   ⟨e,rfl,⟨_,e,rfl⟩,Vx F.slot_list_mul ⟨_,e,rfl⟩ F.entry_list_mul (F.args_list_mul_2 _ _) (AutoListH.list___mul___list_int_3 l gV.toArray n k t hfit hcap hlong) ⟨e,?_⟩⟩)
 rw[hnew];exact⟨.ref _,_,I.lnew (t':=s.toks) (r.rep k.toNat) (by rw[EI,Se];exact hz),rfl,q _ I.fresh⟩
end
end L2
namespace Att
open PySem PySem.W PySem.Calls PyProof.Rows
def jO:∀(ns:List Int) (vs:List QF),WellAll P h vs (ns.map WData.int)->U4 vs ns:=by
 intro ns
 induction ns with
 |nil =>
  intro vs w;rw[WL] at w;cases w;exact .nil
 |cons n ns ih =>
  intro vs w;rw[RP] at w;cases w with
  |cons a b =>
   cases a;exact .cons _ _ (ih _ b)
def yU{l:OpenLaw}{n:Nat}(hn:l.most=some n)
  (hpre:l.row.toRowW.claim.pre args=true) (hwl:WellAll P h vals args) :
  ∃a vs ns,vals=[RK a]/\args=[WData.list (ns.map WData.int)]/\h.get? a=some {cls:=.type "list",data:=.seq vs.toArray}/\U4 vs ns/\ns.length<=n:=by
 have hsh:WShape.hasAll [] args [.list .int]=true:=(pre_splitW hpre).1;have hc:l.pre.holds [] {args:=args}=true:=(pre_splitW hpre).2;obtain⟨d,r,rfl,h1,h2⟩:=hasAllW_cons hsh;obtain rfl:=hasAllW_nil h2;obtain⟨xs,rfl,h3⟩:=hasW_list h1;obtain⟨ns,rfl⟩:=items_int h3
 have hlen:ns.length<=n:=by
  unfold OpenLaw.pre at hc
  have h4:(WTm.not (.lt (.lit (.int (n:Int))) (.len (.arg 0)))).holds [] {args:=[.list (ns.map .int)]}=true:=by
   have h4:=(holds_andW hc).1;rw[hn] at h4;exact h4
  have h5:=condW_of h4 (w_not (w_lt w_lit (w_len_list (w_arg rfl))));rw[Qx] at h5;refine Nat.le_of_not_lt λq=>?_
  have q':(n:Int)<((ns.length:Nat):Int):=by lia
  first
   |(rw[decide_eq_true q'] at h5;exact absurd h5 (by decide))
   |(simp at h5;omega)
 cases hwl with
 |cons w1 w2 =>
  cases w2;cases w1 with
  |list ho hall=>exact⟨_,_,ns,rfl,rfl,ho,jO ns _ hall,hlen⟩
def zF(l:OpenLaw)(args:List WData):l.row.toRowW.claim.post args (.bool true) args=true :=
 postW_of (r:=l.row.toRowW) (X:=(true == true))
  (show WShape.has [] (.bool true) .bool=true by first|rfl|decide|simp[WShape.has,WShape.arms,WShape.armsAll])
  (show(WTm.eq .res (.lit (.bool true))).value [] {args:=args,res:=some (.bool true),after:=args}=some (.bool (true == true)) from w_eq_bool (w_res rfl) w_lit) rfl
def tK{l:OpenLaw}{n:Nat}{XP:(Str->Option QF)->Heap->Prop}{YP:RQ->Heap->Prop}{d:DefRec}
  (hn:l.most=some n) (hdf:d.params.defaults=[])
  (call:∀(w:RQ) (s₀ s₁:QP) (mg mb:Str->Option QF) (fa:Addr) (o:Obj) (pm cd doc:QF) (a:Addr) (vs:List QF) (ns:List Int),
   Ground q loose [] XP w s₀ mg mb s₁.heap->YP w s₁.heap ->
   s₁.heap.get? fa=some o->o.data=.func (docDef d.name d.params d.body d.scope pm cd doc)->s₁.heap.CodeRec cd d.name->mg d.name=⇑fa ->
   s₁.heap.get? a=some {cls:=.type "list",data:=.seq vs.toArray}->U4 vs ns->ns.length<=n->s₁.gens = #[] ->
   codeAny (model l.prog w) callerA (.call (.ref fa) ⟨[.ref a],[]⟩) (λr s'=>r=.ok (.ret (.bool true))/\OldK s₁.heap s'.heap/\s'.os=s₁.os/\Xe s'.gens) s₁) :
  WalkO q loose XP YP l.row.toRowW d [] (λf vs=>Y4 f vs):=by
 intro w s₀ s₁ mg mb G Y fa o pm cd doc dV kV ho hd hcd hD hmg hg args vals as hpre hlay hrd hwl hlo;obtain rfl:dV=.none:=Dflts.none hD hdf;obtain rfl:kV=.none:=Dflts.noKw hD;obtain⟨a,vs,ns,rfl,rfl,hobj,hints,hlen⟩:=yU hn hpre hwl;refine enter_call (WK (call w s₀ s₁ mg mb fa o pm cd doc a vs ns G Y ho (fd_plain hd) hcd hmg hobj hints hlen hg) λr s' hq=>?_);obtain⟨rfl,h2,h3,h4⟩:=hq;exact⟨.inl ⟨.bool true,.bool true,[],rfl,λ_=>rfl,.bool true,zF l _,λ_=>⟨Zp,λ_ hm=>(nomatch hm)⟩⟩,h2,h3,h4⟩
end Att
namespace L2
open PySem PySem.Spec PyProof.Rows
def oJ:∀{vs:List QF} {ns:List Int},U4 vs ns->Vals (ns.map V.int) vs
 |_,_,.nil=>.nil
 |_,_,.cons n t h=>.cons ⟨t,rfl⟩ (oJ h)
abbrev Ke(H:Hp):Prop:=∀b,H b=none\/∃o xs,H b=some (.frz o (.lst xs))
def EJ{K:Fg}{CX:oH}{a:Addr}{x:Str}{sp:Sp}{s₁:QP}{vs:List QF}
  (KX:K.In s₁.heap) (hns:s₁.heap.Ns mainGlobals mg) (hb:s₁.heap.Ns builtinsNs mb) (hbb:∀x:Str,x≠"__name__"->mb x=bootBuiltins x) (hlim:s₁.heap.NoLimit) (hg:s₁.gens = #[])
  (ha:s₁.heap.get? a=some {cls:=.type "list",data:=.seq vs.toArray}) (hi:U4 vs ns) (hl:ns.length<=sizeLine) (hr:Room k callerA)
  (F:∀base:Heap,K.In base->base.Ns mainGlobals mg->FnOk P w K mg base CX k fa fd [x] sp) (hbind:∀(s:QP) (u:QF),Zn s fd ⟨[u],[]⟩ [(x,u)])
  (hsp:∀H:Hp,Ke H->SqL K H a (ns.map V.int)->sp [.ref a] H (λv _=>v=.bl true) λ_ _ _=>False)
  (hCX:∀H e s',CX [] H s₁ (λ_ _ _=>False) e s'->False) :
  codeAny (model P w) callerA (.call (.ref fa) ⟨[.ref a],[]⟩) (λr s'=>r=.ok (.ret (.bool true))/\OldK s₁.heap s'.heap/\s'.os=s₁.os/\Xe s'.gens) s₁:=by
 have rv:=oJ hi;have lenV:=hi.length
 have core:∀H:Hp,Ke H->SqL K H a (ns.map V.int)->HOk P w H s₁.heap->(∀b,H b≠none->b=a)->(H a≠none->K.lookup a=none) ->
   codeAny (model P w) callerA (.call (.ref fa) ⟨[.ref a],[]⟩) (λr s'=>r=.ok (.ret (.bool true))/\OldK s₁.heap s'.heap/\s'.os=s₁.os/\Xe s'.gens) s₁:=by
  intro H hO hS hok hA hK;have base_of:∀{b:Addr} {o:Obj},s₁.heap.get? b=some o->H b=none->(nN s₁.heap H).get? b=some o:=λe n=>E1 e n
  have noA:∀{b:Addr} {o:Obj} {es:Array WS} {ep:Nat},s₁.heap.get? b=some o->o.data=.dict es ep->H b=none:=λ{b o es ep} e d=>by
   cases q:H b with
   |none=>rfl
   |some u =>
    have e':b=a:=hA b (by rw[q];simp);subst e';rw[ha] at e;cases e;have d':ZaE vs.toArray _=Data.dict es ep:=d;cases d'
  have nsK:∀{b:Addr} {m:Str->Option QF},s₁.heap.Ns b m->(nN s₁.heap H).Ns b m:=λ{b m} ⟨o,es,ep,e,d,r⟩=>⟨o,es,ep,base_of e (noA e d),d,r⟩
  have hKb:K.In (nN s₁.heap H):=λb o e=>base_of (KX b o e) (by
   cases q:H b with
   |none=>rfl
   |some u =>
    have e':b=a:=hA b (by rw[q];simp)
    subst e'
    rw[hK (by rw[q];simp)] at e;cases e)
  have hM:Mod K mg (nN s₁.heap H):=⟨hKb,nsK hns,⟨mb,nsK hb,hbb⟩,let ⟨mc,h1,h2⟩:=hlim;⟨mc,nsK h1,h2⟩⟩
  have e0:Fw P w K mg (nN s₁.heap H) callerA [] s₁ H:=⟨rfl,hM,λb o e=>Jr e,X3 (AX _ _),trivial,λb hb=>absurd (show b∈([]:List Addr) from hb) (by simp),hok,.of_eq hg⟩
  refine WK ((F _ hKb (nsK hns)).run callerA [] s₁ H ⟨[.ref a],[]⟩ [.ref a] [.ref a] _ _ hr e0 (hbind s₁ (.ref a)) (.cons rfl .nil) (hsp H hO hS)) λr s' h=>?_
  cases r with
  |error e=>exact(hCX H e s' h).elim
  |ok fl =>
   cases fl with
   |next=>exact US h
   |brk=>exact US h
   |cont=>exact US h
   |ret u =>
    obtain⟨v,H',os,bare,un,hok',r',q⟩:=h;have q':v=.bl true:=q;subst q';obtain rfl:u=XW true:=r';refine⟨rfl,OldK.of_keep λb o e=>?_,os,bare⟩;cases q:H b with
    |none=>exact un.keep b o e q (by intro z;exact absurd (show b∈([]:List Addr) from z) (by simp)) (by simp)
    |some u =>
     rcases hO b with z|⟨ob,xs,z⟩
     .rw[q] at z;cases z
     .have z2:=un.frzs b ob _ z;obtain⟨e1,_⟩:=hok b _ z;obtain⟨e2,_⟩:=hok' b _ z2;rw[e] at e1;cases e1;exact e2
 cases hk:K.lookup a with
 |some o =>
  have e:=KX a o hk;rw[ha] at e;cases e;refine core (λ_=>none) (λ_=>.inl rfl) (.inr ⟨_,vs.toArray,_,hk,rfl,rfl,rfl,by rw[Rf,lenV];exact hl,by simpa using rv⟩) (λb u z=>by have z':(none:Option HO)=some u:=z;cases z') (λb z=>absurd rfl z) λz=>absurd rfl z
 |none =>
  refine core (λb=>if b=a then some (.frz {cls:=.type "list",data:=.seq vs.toArray} (.lst (ns.map V.int))) else none) (λb=>?_) (.inl (.inr ⟨{cls:=.type "list",data:=.seq vs.toArray},if_pos rfl⟩)) (λb u z=>?_) (λb z=>?_) λ_=>hk
  .by_cases hb:b=a
   .exact .inr ⟨_,_,if_pos hb⟩
   .exact .inl (if_neg hb)
  .by_cases hb:b=a
   .have z':=(if_pos hb).symm.trans z;cases z';subst hb;exact⟨ha,by rw[Qx];exact hl,vs,_,rv,ha⟩
   .have z':=(if_neg hb).symm.trans z;cases z'
  .by_cases hb:b=a
   .exact hb
   .exact absurd (if_neg hb) z
def GU{l:Z_}{n:Nat}{XP:(Str->Option QF)->Heap->Prop}{YP:RQ->Heap->Prop}{d:DefRec}{K:Params->Zh}{CX:RQ->oH}{sp:RQ->Sp}{x:Str}
  (hn:l.most=some n) (hn2:n<=sizeLine) (hdf:d.params.defaults=[]) (hr:Room k callerA)
  (hY:∀(w:RQ) (h:Heap),YP w h->(K w.params).In h)
  (F:∀(w:RQ) (mg:Str->Option QF) (fa:Addr) (h:Heap),(K w.params).In h->h.Ns mainGlobals mg->mg d.name=⇑fa ->
   ∃fd:Ud,(∀(s:QP) (u:QF),Zn s fd ⟨[u],[]⟩ [(x,u)]) /\
    ∀base:Heap,(K w.params).In base->base.Ns mainGlobals mg->FnOk l.prog w (K w.params) mg base (CX w) k fa fd [x] (sp w))
  (hsp:∀(w:RQ) (H:Hp) (a:Addr) (ns:List Int),ns.length<=n->Ke H->SqL (K w.params) H a (ns.map V.int)->sp w [.ref a] H (λv _=>v=.bl true) λ_ _ _=>False)
  (hCX:∀(w:RQ) (H:Hp) (s:QP) (e:QF) (s':QP),CX w [] H s (λ_ _ _=>False) e s'->False) :
  YS q loose XP YP l.row.toRowW d [] (λf vs=>Y4 f vs):=by
 refine Att.tK hn hdf λw s₀ s₁ mg mb fa o pm cd doc a vs ns G Y ho hd hcd hmg hobj hints hlen hg=>?_
 have KX:=hY w _ Y;obtain⟨fd,hb,hF⟩:=F w mg fa _ KX G.T.g hmg;exact EJ KX G.T.g G.T.b G.T.builtins G.T.nolimit hg hobj hints (Q0 hlen hn2) hr hF hb (λH hO hS=>hsp w H a ns hlen hO hS) λH e s'=>hCX w H s₁ e s'
abbrev cX(s:Stmt):Arguments:=match s with
 |.FunctionDef _ a _ _ _ _ _ _ _ _=>a
 |_=>{posonlyargs:=[],args:=[],vararg:=none,kwonlyargs:=[],kw_defaults:=[],kwarg:=none,defaults:=[]}
abbrev cm(s:Stmt):List Stmt:=match s with
 |.FunctionDef _ _ b _ _ _ _ _ _ _=>b
 |_=>[]
abbrev ao(s:Stmt):Scope:=match s with
 |.FunctionDef _ _ _ _ _ _ sc _ _ _=>sc
 |_=>{kind:=.function,names:=[],isGenerator:=false,isCoroutine:=false}
nonrec abbrev bg:oH:=λ_ _ _ _ _ _=>False
nonrec abbrev E0:XK:=λ_ _ _=>False
def OJ:oA bg X E0:=λ_ _ _ _ _ _ _ h=>h.elim
structure Fun (K:Fg) (x qual:Str) (st:Stmt) (f:Addr) (fd:Ud):Prop where
 ex:∃(oc:QF) (od:Option Addr) (kV doc pm:QF) (an:Option Addr) (cdv ct:QF) (osl:Array (Option QF)),
  fd=Tl x qual (cX st) (cm st) (ao st) .none kV doc pm an cdv ct/\K.lookup f=some ⟨oc,od,.func fd,osl⟩/\U8 K cdv qual=true
 kp:UM K (.ref f)=true
section
variable{P:Rx}{w:RQ}{K:Fg}{mg:Str->Option QF}{base:Heap}
def Fun.ok{st:Stmt}{sp:Sp}(F:Fun K x qual st f fd)(S:aC N ps (ao st))(len:∀vs H Q E,sp vs H Q E->vs.length=ps.length)
  (hbody:∀(cdv:QF) (A:RT) (outer:List Env) (s:QP) (H:Hp) (vs:List V) (Q:VK) (E:XK),Room k (A.deeper (envOfC qual (ao st) s.heap.objs.size f cdv))->sp vs H Q E ->
   ∃t,PSs (nW bg P w K mg base N qual (ao st) f cdv A outer s H E).nox (cm st) t/\t {nx:=λ_ H'=>Q .non H',rt:=Q} (start N vs) H):FnOk P w K mg base bg (k+1) f fd ps sp:=by
 obtain⟨oc,od,kV,doc,pm,an,cdv,ct,osl,rfl,lk,hcd⟩:=F.ex;refine PQ lk hcd S len λA outer s H vs Q E hr hsp=>?_
 obtain⟨t,h,q⟩:=hbody cdv A outer s H vs Q E hr hsp;exact⟨t,h.nox,q⟩
def Fun.binds{st:Stmt}{ps:List Str}(F:Fun K x qual st f fd)
  (h:∀(kV doc pm:QF) (an:Option Addr) (cdv ct:QF) (us:List QF),us.length=ps.length->bindArgs (Tl x qual (cX st) (cm st) (ao st) .none kV doc pm an cdv ct) ⟨us,[]⟩=pure (ps.zip us)):Binds K fd ps []:=by
 obtain⟨oc,od,kV,doc,pm,an,cdv,ct,osl,rfl,lk,hcd⟩:=F.ex;exact .all (h kV doc pm an cdv ct)
def Gw{st:Stmt}{oc:QF}{od:Option Addr}{osl:Array (Option QF)}{kV:QF}(l:K.lookup f=some ⟨oc,od,.func (Tl x qual (cX st) (cm st) (ao st) .none kV doc pm an cdv ct),osl⟩)
  (c:U8 K cdv qual=true) (k:UM K (.ref f)=true):Fun K x qual st f (Tl x qual (cX st) (cm st) (ao st) .none kV doc pm an cdv ct):=⟨⟨oc,od,kV,doc,pm,an,cdv,ct,osl,rfl,l,c⟩,k⟩
end
def PD(hr:Room k A):A.units+1<cLine:=Q4 (YK (by decide:1<=64) _) hr.units
def av{n:Nat}(h:n<=1000):n<sizeLine:=Q4 h (by decide)
section
variable{X:Cx}
def pv(i:Nat) {x:Str}  (hN:X.N[i]?=some x:=by rfl) (hv:Oe X.env.scope x:=by first|exact Or.inl rfl|exact Or.inr (Or.inl rfl)|exact Or.inr (Or.inr rfl)) (hd:(x == ("__debug__":Str))=false:=by decide)
  (hcd:(x == ("__classdict__":Str))=false:=by decide):PE X (.Name x pos) (aa i):=LF hN hv hd hcd
end
def AQ{A B:Prop}(h:B):if false=true then A else B:=by
 rw[if_neg Rj];exact h
def wy{A B:Prop}(h:A):if true=true then A else B:=by
 rw[if_pos rfl];exact h
abbrev Same(H H':Hp):Prop:=∀b o,H b=some o->H' b=some o
def Same.refl(H:Hp):Same H H:=λ_ _ h=>h
def Same.trans(a:Same H H1)(b:Same H1 H2):Same H H2:=λc o h=>b c o (a c o h)
def Same.free(e:Same H H')(h:H' l=Option.none):H l=Option.none:=by
 cases q:H l with
 |none=>rfl
 |some o =>
  rw[e l o q] at h;cases h
def Same.seq{K:Fg}(e:Same H H')(h:SqL K H a xs):SqL K H' a xs:=by
 rcases h with(h|⟨o,h⟩)|h
 .exact .inl (.inl (e _ _ h))
 .exact .inl (.inr ⟨o,e _ _ h⟩)
 .exact .inr h
section
variable{κ:Type}[DecidableEq κ]
abbrev bO(de:List (κ×V))(k:κ):Option V:=(de.find? λkv=>decide (kv.1=k)).map (·.2)
abbrev ci(de:List (κ×V))(k:κ)(v:V):List (κ×V) :=
 if (de.any λkv=>decide (kv.1=k))=true then de.map (λkv=>if kv.1=k then (kv.1,v) else kv) else de++[(k,v)]
def t6{k:κ}:bO ([]:List (κ×V)) k=none:=rfl
def bF{p:κ×V}{r:List (κ×V)}{k:κ}(e:p.1=k):bO (p :: r) k=some p.2:=by simp[bO,Tz,e]
def bw{p:κ×V}{r:List (κ×V)}{k:κ}(e : ¬ p.1=k):bO (p :: r) k=bO r k:=by simp[bO,Tz,e]
def eZ(k:κ):∀de:List (κ×V),(de.any λkv=>decide (kv.1=k))=(bO de k).isSome
 |[]=>rfl
 |p :: r=>by
  rw[Xu];by_cases e:p.1=k
  .simp only[bF e,decide_eq_true e,Bool.true_or,Option.isSome_some]
  .rw[bw e,decide_eq_false e,Zax];exact eZ k r
def t7(k j:κ)(y:V):∀de:List (κ×V),bO (de.map λkv=>if kv.1=k then (kv.1,y) else kv) j=(bO de j).map λx=>if j=k then y else x
 |[]=>rfl
 |p :: r=>by
  have ih:=t7 k j y r;rw[RP];by_cases h:p.1=k
  .rw[if_pos h];by_cases e:p.1=j
   .rw[bF (p:=(p.1,y)) e,bF e,Wy,if_pos (e.symm.trans h)]
   .rw[bw (p:=(p.1,y)) e,bw e,ih]
  .rw[if_neg h];by_cases e:p.1=j
   .rw[bF (p:=p) e,bF e,Wy,if_neg (λz=>h (e.trans z))]
   .rw[bw (p:=p) e,bw e,ih]
def oK(k j:κ)(y:V):∀de:List (κ×V),bO de k=none->bO (de++[(k,y)]) j=if j=k then some y else bO de j
 |[],_=>by
  by_cases e:k=j
  .rw[if_pos e.symm];exact bF (p:=(k,y)) e
  .rw[if_neg (λz=>e z.symm)];exact bw (p:=(k,y)) e
 |p :: r,hn=>by
  rw[XD];have hk : ¬ p.1=k:=λz=>by rw[bF z] at hn;cases hn
  rw[bw hk] at hn;have ih:=oK k j y r hn;by_cases e:p.1=j
  .rw[bF e,bF e,if_neg (λz=>hk (e.trans z))]
  .rw[bw e,bw e,ih]
def lT(de:List (κ×V))(k j:κ)(y:V):bO (ci de k y) j=if j=k then some y else bO de j:=by
 unfold ci;by_cases a:(de.any λkv=>decide (kv.1=k))=true
 .rw[if_pos a,t7];rw[eZ] at a;by_cases e:j=k
  .obtain⟨x,hx⟩:=Vr.mp a;rw[if_pos e,e,hx,Wy,if_pos rfl]
  .rw[if_neg e];cases bO de j with
   |none=>rfl
   |some x=>rw[Wy,if_neg e]
 .rw[if_neg a];refine oK k j y de ?_;rw[eZ] at a;cases q:bO de k with
  |none=>rfl
  |some x=>rw[q] at a;exact(a rfl).elim
def cj(de:List (κ×V))(k:κ)(v:V):(ci de k v).length<=de.length+1:=by
 unfold ci;split
 .rw[Qx];lia
 .rw[QT,Ru,Vw];lia
def RelO.jN(r:RelO o u):o.isSome=u.isSome:=by
 cases o with
 |none=>cases u with
  |none=>rfl
  |some _=>exact(show False from r).elim
 |some _=>cases u with
  |none=>exact(show False from r).elim
  |some _=>rfl
def RelO.getD(r:RelO o u)(rd:RelV d d'):RelV (o.getD d) (u.getD d'):=by
 cases o with
 |none=>cases u with
  |none=>exact rd
  |some _=>exact(show False from r).elim
 |some _=>cases u with
  |none=>exact(show False from r).elim
  |some _=>exact r
def KV.val{de:List (κ×V)}{vs:List (κ×QF)}(r:KV de vs)(k:κ):RelO (bO de k) (valueAt vs k):=by
 unfold KV at r
 induction r with
 |nil=>exact UE
 |@cons p q ps qs h t ih =>
  obtain⟨h1,h2⟩:=h;by_cases e:p.1=k
  .have e':q.1=k:=h1.symm.trans e;have b:valueAt (q :: qs) k=some q.2:=by simp[valueAt,Tz,e']
   rw[bF e,b];exact h2
  .have e' : ¬ q.1=k:=λz=>e (h1.trans z)
   have b:valueAt (q :: qs) k=valueAt qs k:=by simp[valueAt,Tz,e']
   rw[bw e,b];exact ih
def KV.any{de:List (κ×V)}{vs:List (κ×QF)}(r:KV de vs)(k:κ):(de.any λkv=>decide (kv.1=k))=vs.any λkv=>decide (kv.1=k):=by
 unfold KV at r
 induction r with
 |nil=>rfl
 |cons h t ih=>rw[Xu,Xu,ih,h.1]
def KV.repl{de:List (κ×V)}{vs:List (κ×QF)}(r:KV de vs)(k:κ)(ry:RelV y u) :
  KV (de.map λkv=>if kv.1=k then (kv.1,y) else kv) (vs.map λkv=>if kv.1=k then (kv.1,u) else kv):=by
 unfold KV at r ⊢
 induction r with
 |nil=>exact .nil
 |@cons p q ps qs h t ih =>
  rw[RP,RP];refine .cons ?_ ih;obtain⟨h1,h2⟩:=h;by_cases e:p.1=k
  .rw[if_pos e,if_pos (h1.symm.trans e)];exact⟨h1,ry⟩
  .rw[if_neg e,if_neg (λz=>e (h1.trans z))];exact⟨h1,h2⟩
def KV.put{de:List (κ×V)}{vs:List (κ×QF)}(r:KV de vs)(k:κ)(ry:RelV y u):KV (ci de k y) (stored vs k u):=by
 unfold ci stored;rw[r.any k];by_cases e:(vs.any λkv=>decide (kv.1=k))=true
 .rw[if_pos e,if_pos e];exact r.repl k ry
 .rw[if_neg e,if_neg e];exact Paired.snoc r ⟨rfl,ry⟩
def KV.keys{de:List (κ×V)}{vs:List (κ×QF)}(r:KV de vs):de.map (·.1)=vs.map (·.1):=by
 unfold KV at r
 induction r with
 |nil=>rfl
 |cons h t ih=>rw[RP,RP,ih,h.1]
def KV.length{de:List (κ×V)}{vs:List (κ×QF)}(r:KV de vs):de.length=vs.length:=Vq r
end
def wx{k:bf}(r:RelV (kV k) u):(bH P w).is k u=true:=by
 cases k with
 |inl i=>obtain⟨t,e⟩:=(show ∃t,u=U0 i t from r);subst e;exact sP P w i t
 |inr x=>obtain⟨t,e⟩:=(show ∃t,u=YH x t from r);subst e;exact sO P w x t
def qi{P:Rx}{w:RQ}:∀{ks:List bf} {us:List QF},Vals (ks.map kV) us->ItemsAre (bH P w) ks us
 |[],_,r=>by rw[WL] at r;cases r;exact .nil
 |k :: ks,_,r=>by
  rw[RP] at r;cases r with
  |cons h t=>exact .cons (wx h) (qi t)
nonrec abbrev KT(H:Hp):List (List bf×V)->List (List bf×Addr×QF)->Prop:=Paired λp q=>p.1=q.1/\H q.2.1=some (.tup (p.1.map kV))/\RelV p.2 q.2.2
def KT.val{de:List (List bf×V)}{xs:List (List bf×Addr×QF)}(r:KT H de xs)(k:List bf):RelO (bO de k) ((atKey xs k).map (·.2)):=by
 induction r with
 |nil=>exact UE
 |@cons p q ps qs h t ih =>
  obtain⟨h1,_,h2⟩:=h;by_cases e:p.1=k
  .have e':q.1=k:=h1.symm.trans e;have b:atKey (q :: qs) k=some q.2:=by simp[atKey,Tz,e']
   rw[bF e,b];exact h2
  .have e' : ¬ q.1=k:=λz=>e (h1.trans z)
   have b:atKey (q :: qs) k=atKey qs k:=by simp[atKey,Tz,e']
   rw[bw e,b];exact ih
def KT.repl{de:List (List bf×V)}{xs:List (List bf×Addr×QF)}(r:KT H de xs)(k:List bf)(ry:RelV y u) :
  KT H (de.map λkv=>if kv.1=k then (kv.1,y) else kv) (xs.map (putAt k u)):=by
 induction r with
 |nil=>exact .nil
 |@cons p q ps qs h t ih =>
  rw[RP,RP];refine .cons ?_ ih;obtain⟨h1,h2,h3⟩:=h;unfold putAt;by_cases e:p.1=k
  .rw[if_pos e,if_pos (h1.symm.trans e)];exact⟨h1,h2,ry⟩
  .rw[if_neg e,if_neg (λz=>e (h1.trans z))];exact⟨h1,h2,h3⟩
def KT.put{de:List (List bf×V)}{xs:List (List bf×Addr×QF)}(r:KT H de xs)(k:List bf)(hb:H b=some (.tup (k.map kV)))(ry:RelV y u) :
  KT H (ci de k y) (storedH xs k b u):=by
 have e:(de.any λkv=>decide (kv.1=k))=(atKey xs k).isSome:=by
  rw[eZ,(r.val k).jN,Zq]
 unfold ci storedH;rw[e];by_cases q:(atKey xs k).isSome=true
 .rw[if_pos q,if_pos q];exact r.repl k ry
 .rw[if_neg q,if_neg q];exact Paired.snoc r ⟨rfl,hb,ry⟩
def KT.keeps{H':Hp}{de:List (List bf×V)}{xs:List (List bf×Addr×QF)}(r:KT H de xs)(ht:∀b ys,H b=some (.tup ys)->H' b=some (.tup ys)):KT H' de xs :=
 Paired.mapP r λ_ _ z=>⟨z.1,ht _ _ z.2.1,z.2.2⟩
section
variable{P:Rx}{w:RQ}{H:Hp}{h:Heap}{a:Addr}
def K4(ok:HOk P w H h)(e:Rd H a u):cc P w H h a u:=e.ok ok
def tw{de:List (bf×V)}(ok:HOk P w H h)(e:Rd H a (.dK de)):de.length<=sizeLine/\(a == sysModules)=false/\∃vs,KV de vs/\h.DictOf (bH P w) a vs :=
 show cc P w H h a (.dK de) from K4 ok e
def J1{de:List (bf×V)}(ok:HOk P w H h)(e:H a=some (.dK de)):de.length<=sizeLine/\(a == sysModules)=false/\∃vs,KV de vs/\h.DictOf (bH P w) a vs:=tw ok (.inl e)
def qg{ks:List bf}(ok:HOk P w H h)(e:H a=some (.tup (ks.map kV))):(tupleKind (bH P w)).is h ks a:=by
 obtain⟨_,gV,r,o,h1,⟨h2,n,h3⟩,_⟩:=(show cc P w H h a (.tup (ks.map kV)) from ok a _ e)
 exact⟨o,gV.toArray,n,h1,h2,h3,by simpa using qi r⟩
def wD{de:List (List bf×V)}(ok:HOk P w H h)(e:Rd H a (.dT de)):de.length<=sizeLine/\(a == sysModules)=false /\
  ∃xs,KT H de xs/\h.DictOfH (tupleKind (bH P w)) a xs:=by
 obtain⟨z,y,xs,r,o,es,ep,h1,h2,h3,h4,h5⟩:=(show cc P w H h a (.dT de) from K4 ok e)
 refine⟨z,y,xs,r,o,es,ep,h1,h2,h3,h4,λx hx=>?_,h5⟩
 have all:∀{l:List (List bf×V)} {m:List (List bf×Addr×QF)},KT H l m->∀x∈m,(tupleKind (bH P w)).is h x.1 x.2.1:=by
  intro l m q
  induction q with
  |nil=>intro x hx;exact nomatch hx
  |@cons p q ps qs hq t ih =>
   intro x hx;rcases Q5.mp hx with e|hx
   .subst e;exact qg ok (by rw[<- hq.1];exact hq.2.1)
   .exact ih x hx
 exact all r x hx
def Nl{de:List (List bf×V)}(ok:HOk P w H h)(e:H a=some (.dT de)):de.length<=sizeLine/\(a == sysModules)=false /\
  ∃xs,KT H de xs/\h.DictOfH (tupleKind (bH P w)) a xs:=wD ok (.inl e)
end
abbrev DGet(H:Hp)(a:Addr)(y:V)(r:Option V):Prop :=
 (∃de k,Rd H a (.dK de)/\y=kV k/\r=bO de k)\/∃de k b,Rd H a (.dT de)/\y=.ref b/\H b=some (.tup (k.map kV))/\r=bO de k
abbrev DPut(H:Hp)(a:Addr)(y v:V)(H':Hp):Prop :=
 (∃de k,H a=some (.dK de)/\y=kV k/\de.length<sizeLine/\H'=upd H a (.dK (ci de k v))) \/
 ∃de k b,H a=some (.dT de)/\y=.ref b/\H b=some (.tup (k.map kV))/\de.length<sizeLine/\H'=upd H a (.dT (ci de k v))
def DGet.k{H:Hp}{de:List (bf×V)}{k:bf}(e:H a=some (.dK de)):DGet H a (kV k) (bO de k):=.inl ⟨de,k,.inl e,rfl,rfl⟩
def DGet.t{H:Hp}{de:List (List bf×V)}{k:List bf}(e:H a=some (.dT de))(eb:H b=some (.tup (k.map kV))):DGet H a (.ref b) (bO de k):=.inr ⟨de,k,b,.inl e,rfl,eb,rfl⟩
def DPut.k{H:Hp}{de:List (bf×V)}{k:bf}(e:H a=some (.dK de))(hl:de.length<sizeLine):DPut H a (kV k) v (upd H a (.dK (ci de k v))):=.inl ⟨de,k,e,rfl,hl,rfl⟩
def DPut.t{H:Hp}{de:List (List bf×V)}{k:List bf}(e:H a=some (.dT de))(eb:H b=some (.tup (k.map kV)))(hl:de.length<sizeLine) :
  DPut H a (.ref b) v (upd H a (.dT (ci de k v))):=.inr ⟨de,k,b,e,rfl,eb,hl,rfl⟩
section
variable{X:Cx}{ξ:List (Addr×Obj)}{σ:St}{H:Hp}{s:QP}{a:Addr}{y v:V}{u r:QF}{o:Option V}{A:RT}{E:QF->QP->Prop}
def Inv.big(I:Inv X ξ σ H s):sysModules<s.heap.objs.size:=by
 have h:mainGlobals<s.heap.objs.size:=(I.mod.glob.keeps I.bk).lt;exact RW (by decide) h
def BA{Q:QF->QP->Prop}(hu:A.units+1<cLine)(I:Inv X ξ σ H s)(g:DGet H a y (some v))(ry:RelV y u)(h:∀w' s',Inv X ξ σ H s'->RelV v w'->Q w' s') :
  wpAny (model X.prog X.w) A (getItem (.ref a) u) Q E s:=by
 rcases g with⟨de,k,e,ey,l⟩|⟨de,k,b,e,ey,eb,l⟩
 .subst ey;obtain⟨z,hd,vs,rel,dd⟩:=tw I.hok e;obtain⟨w',hw,rw'⟩:=RelO.some_of (v:=v) (o:=valueAt vs k) (by rw[l];exact rel.val k);exact wpAny_getItem_of (wx ry) dd.mapOf hw (h w' _ (I.tok _) rw')
 .subst ey;cases (show u=RK b from ry);obtain⟨z,hd,xs,rel,dd⟩:=wD I.hok e;obtain⟨w',hw,rw'⟩:=RelO.some_of (v:=v) (o:=(atKey xs k).map (·.2)) (by rw[l];exact rel.val k);obtain⟨p,hp,hp2⟩:=QG.mp hw;refine wpAny_getItem_heap (Vy hu) (qg I.hok eb) dd hp ?_;rw[hp2];exact h w' _ (I.tok _) rw'
def J2{Q:QF->QP->Prop}(hu:A.units+1<cLine)(I:Inv X ξ σ H s)(g:DGet H a y o)(ry:RelV y u)(h:∀s',Inv X ξ σ H s'->Q (.bool (!o.isSome)) s') :
  wpAny (model X.prog X.w) A (compareOp .NotIn u (.ref a)) Q E s:=by
 rcases g with⟨de,k,e,ey,l⟩|⟨de,k,b,e,ey,eb,l⟩
 .subst ey;obtain⟨z,hd,vs,rel,dd⟩:=tw I.hok e;refine wpAny_notIn_of (wx ry) hd dd.mapOf ?_;rw[<- (rel.val k).jN,<- l];exact h _ (I.tok _)
 .subst ey;cases (show u=RK b from ry);obtain⟨z,hd,xs,rel,dd⟩:=wD I.hok e;refine wpAny_notIn_heap (Vy hu) (qg I.hok eb) hd dd ?_;have q:=(rel.val k).jN;rw[Zq] at q;rw[<- q,<- l];exact h _ (I.tok _)
def tE{t':Nat}(I:Inv X ξ σ H s)(mu:N4 (H a))(hs:TX a s.heap h')(he:∃q,h'.get? a=some q)(new:cc X.prog X.w (upd H a ob) h' a ob) :
  Inv X ξ σ (upd H a ob) {s with heap:=h',toks:=t'} :=
 I.write (x:=a) (e:=a) mu (.inl rfl) (λb q hb z=>(hs.2 b hb).trans z) he new
def Gz{h':Heap}{de:List (bf×V)}{vs:List (bf×QF)}(z:de.length<=sizeLine)(hd:(a == sysModules)=false)(rel:KV de vs)(dd:h'.DictOf (bH P w) a vs) :
  cc P w H' h' a (.dK de):=⟨z,hd,vs,rel,dd⟩
def Bz{Q:Unit->QP->Prop}(hu:A.units+1<cLine)(I:Inv X ξ σ H s)(g:DPut H a y v H')(ry:RelV y u)(rv:RelV v r)(h:∀s',Inv X ξ σ H' s'->Q () s') :
  wpAny (model X.prog X.w) A (setItem (.ref a) u r) Q E s:=by
 rcases g with⟨de,k,e,ey,l,eH⟩|⟨de,k,b,e,ey,eb,l,eH⟩
 .subst ey eH;obtain⟨z,hd,vs,rel,dd⟩:=J1 I.hok e;have hz:vs.length<=sizeLine:=by rw[<- rel.length];exact z
  have hl:(ci de k v).length<=sizeLine:=by have:=cj de k v;lia
  refine wpAny_setItem_pairs (hsz:=hz) (wx ry) dd λh' dd' hs=>h _ ?_
  have he:∃q,h'.get? a=some q:=let ⟨q,_,_,hq,_⟩:=dd';⟨q,hq⟩
  exact tE I (by rw[e];exact UE) hs he (Gz hl hd (rel.put k rv) dd')
 .subst ey eH;cases (show u=RK b from ry);obtain⟨z,hd,xs,rel,dd⟩:=Nl I.hok e;have hz:xs.length<=sizeLine:=by rw[<- Vq rel];exact z
  have hl:(ci de k v).length<=sizeLine:=by have:=cj de k v;lia
  refine wpAny_setItem_heap (hsz:=hz) (Vy hu) (qg I.hok eb) dd λh' dd' hs=>h _ ?_
  obtain⟨q,es,ep,hq,h2,h3,h4,_,h5⟩:=dd';refine tE I (by rw[e];exact UE) hs ⟨q,hq⟩ ⟨hl,hd,_,(rel.put k eb rv).keeps λc ys ec=>?_,q,es,ep,hq,h2,h3,h4,h5⟩;rw[aJ (kE ec e (λz=>nomatch z))];exact ec
end
section
variable{X:Cx}{ξ:List (Addr×Obj)}{σ:St}{H:Hp}{s:QP}{a:Addr}{de:List (bf×V)}{k:bf}{u:QF}{A:RT}{E:QF->QP->Prop}
def PU{Q:QF->QP->Prop} (I:Inv X ξ σ H s) (e:Rd H a (.dK de)) (h:∀t s',Inv X ξ σ H s'->Q (.int de.length t) s'):wpAny (model X.prog X.w) A (call (.builtin "len") [.ref a]) Q E s:=by
 obtain⟨z,hd,vs,rel,dd⟩:=tw I.hok e;refine call_len_dict hd dd (by rw[<- rel.length];rw[Us] at z;lia) ?_;rw[<- rel.length];exact h _ _ (I.tok _)
end
abbrev N3(i:Expr):Prop:=∀ov iv,subscripted i false ov iv=operate [ov,iv] (getItem ov iv)
def Hw{T id:String}
  (hl:typeLookup (.type T) "__getitem__"=pure (some (.builtin id))) (hs:N3 slice)
  (h:wpAny (model prog w) A (eval value env) (λo s₁=>wpAny (model prog w) A (eval slice env) (λi s₂=>s₂.TypeIs o T/\wpAny (model prog w) A (getItem o i) Q E s₂) E s₁) E s) :
  wpAny (model prog w) A (eval (.Subscript value slice pos) env) Q E s:=by
 refine Subscript_ (SL h (λo s₁ h₁=>SL h₁ (λi s₂ h₂=>?_) λ_ _ x=>x) λ_ _ x=>x);obtain⟨hT,h₂⟩:=h₂;unfold subscriptTail;refine QE ?_;rw[getitemInPython_of_ne hT.not_modules];refine QE (wpAny_specialOf hT hl ?_)
 have fin:wpAny (model prog w) A (subscripted slice false o i) (λr s₃=>wpAny (model prog w) A (letTemporaryGo value o r >>= λ_=>pure r) Q E s₃) E s₂:=by
  rw[hs o i];exact wpAny_operating (SL h₂ (λr s₃ h₃=>QE (wpAny_letTemporaryGo (Q1 h₃))) λ_ _ x=>x)
 first
  |exact Q1 (QE fin)
  |exact QE (Q1 (QE fin))
  |exact QE fin
def tD{H:Hp}     (I:Inv X ξ σ H s) (g:DGet H a y o):s.TypeIs (.ref a) "dict":=by
 rcases g with⟨de,k,e,_,_⟩|⟨de,k,b,e,_,_,_⟩
 .obtain⟨_,_,vs,_,dd⟩:=tw I.hok e;exact dd.typeIs
 .obtain⟨_,_,xs,_,dd⟩:=wD I.hok e;exact dd.typeIs
abbrev rN(td ty:TE):TE:=λσ H Q=>td σ H λx H1=>ty σ H1 λy H2=>∃a v,x=.ref a/\DGet H2 a y (some v)/\Q v H2
abbrev rM(ty td:TE):TE:=λσ H Q=>ty σ H λy H1=>td σ H1 λx H2=>∃a o,x=.ref a/\DGet H2 a y o/\Q (.bl (!o.isSome)) H2
abbrev pB(td ty tv:TE):TS:=λD σ H=>tv σ H λv H1=>td σ H1 λx H2=>ty σ H2 λy H3=>∃a H4,x=.ref a/\DPut H3 a y v H4/\D.nx σ H4
section
variable{X:Cx}{o i e value:Expr}{pos pos' tpos:Pos}{td ty tv:TE}
def I_(hu:X.A.units+1<cLine)(ho:PE X o td)(hi:PE X i ty)(hs:N3 i):PE X (.Subscript o i pos) (rN td ty):=by
 intro ξ s σ H Q I h;refine Hw PySem.F.slot_dict_getitem.lookup hs (bh (ho ξ s σ H _ I h) λu s1 ⟨x,H1,I1,rx,q1⟩=>bh (hi ξ s1 σ H1 _ I1 q1) λiv s2 ω=>?_);obtain⟨y,H2,I2,ry,a,v,ex,g,q2⟩:=ω;subst ex;obtain rfl:u=RK a:=rx;exact⟨tD I2 g,BA hu I2 g ry λw' s3 I3 rw'=>⟨v,H2,I3,rw',q2⟩⟩
def zS(hu:X.A.units+1<cLine)(hi:PE X i ty)(ho:PE X o td):PC X .NotIn i o (rM ty td):=by
 intro ξ s σ H Q I h;refine bh (hi ξ s σ H _ I h) λiv s1 ⟨y,H1,I1,ry,q1⟩=>bh (ho ξ s1 σ H1 _ I1 q1) λu s2 ω=>?_;obtain⟨x,H2,I2,rx,a,ov,ex,g,q2⟩:=ω
 subst ex;obtain rfl:u=RK a:=rx;exact J2 hu I2 g ry λs3 I3=>⟨.bl (!ov.isSome),H2,I3,rfl,q2⟩
def IL(hu:X.A.units+1<cLine)(ho:PE X o td)(hi:PE X i ty)(hv:PE X value tv)(hs:swapsWith value (some (.Subscript o i pos')) pos.line X.env=pure false) :
  PS X (.Assign [.Subscript o i pos'] value pos) (pB td ty tv):=by
 intro ξ s σ H D I h;refine wpAny_Assign_Subscript (bh (hv ξ s σ H _ I h) λr s1 ⟨v,H1,I1,rv,q1⟩=>bh (ho ξ s1 σ H1 _ I1 q1) λu s2 ⟨x,H2,I2,rx,q2⟩=>bh (hi ξ s2 σ H2 _ I2 q2) λiv s3 ω=>?_) hs;obtain⟨y,H3,I3,ry,a,H4,ex,g,q3⟩:=ω;subst ex;obtain rfl:u=RK a:=rx;exact Bz hu I3 g ry rv λs4 I4=>⟨σ,H4,I4,q3⟩
end
def vj(h:Heap) (hb:sysModules<h.objs.size):cc P w H (h.push {cls:=.type "dict",data:=.dict #[]}) h.objs.size (.dK []) :=
 ⟨RL _,beq_eq_false_iff_ne.mpr (Xf (RE hb)),[],.nil,Heap.DictOf.new h⟩
def Fb(h:Heap) (hb:sysModules<h.objs.size):cc P w H (h.push {cls:=.type "dict",data:=.dict #[]}) h.objs.size (.dT []) :=
 ⟨RL _,beq_eq_false_iff_ne.mpr (Xf (RE hb)),[],.nil,_,#[],0,Rg _ rfl,⟨rfl,rfl,rfl⟩,rfl,rfl,To⟩
abbrev FG:TE:=λ_ H Q=>∀p,H p=none->Q (.ref p) (upd H p (.dK []))
abbrev ym:TE:=λ_ H Q=>∀p,H p=none->Q (.ref p) (upd H p (.dT []))
section
variable{X:Cx}{pos:Pos}
def Em:PE X (.Dict [] [] pos) FG:=λξ s σ H Q I h =>
 wpAny_Dict_empty ⟨.ref s.heap.objs.size,_,I.laid (a:=s.heap.objs.size) (o:=.dK []) (t':=s.toks) (λ_ _ q=>QN _ q) (QH _) (vj s.heap I.big),rfl,h _ (I.hok.fresh (QH _))⟩
def El:PE X (.Dict [] [] pos) ym:=λξ s σ H Q I h =>
 wpAny_Dict_empty ⟨.ref s.heap.objs.size,_,I.laid (a:=s.heap.objs.size) (o:=.dT []) (t':=s.toks) (λ_ _ q=>QN _ q) (QH _) (Fb s.heap I.big),rfl,h _ (I.hok.fresh (QH _))⟩
end
abbrev i6:List (TE×TE)->St->Hp->(List (V×V)->Hp->Prop)->Prop
 |[],_,H,Q=>Q [] H
 |(tk,tv) :: r,σ,H,Q=>tk σ H λx H1=>tv σ H1 λy H2=>i6 r σ H2 λps H3=>Q ((x,y) :: ps) H3
nonrec abbrev VV:List (V×V)->List (QF×QF)->Prop:=Paired λp q=>RelV p.1 q.1/\RelV p.2 q.2
abbrev N2(X:Cx)(pos:Pos)(keys:List (Option Expr))(values:List Expr)(trs:List (TE×TE)):Prop :=
 ∀(ξ:List (Addr×Obj)) (s:QP) (σ:St) (H:Hp) (Q:List (V×V)->Hp->Prop),Inv X ξ σ H s->i6 trs σ H Q ->
  wpAny (model X.prog X.w) X.A (evalPairs (pairTrees keys values X.env pos)) (λvs s'=>∃ps H',Inv X ξ σ H' s'/\VV ps vs/\Q ps H') X.xe s
def IP:N2 X pos [] [] []:=λξ s σ H Q I h=>pairTrees_nil_walk ⟨[],H,I,.nil,h⟩
def Eh{vs:List Expr}{tk:TE}(hk:PE X k tk)(hv:PE X v tv)(hr:N2 X pos ks vs trs) :
  N2 X pos (some k :: ks) (v :: vs) ((tk,tv) :: trs):=λξ s σ H Q I h =>
 pairTrees_cons_walk (bh (hk ξ s σ H _ I h) λu s1 ⟨x,H1,I1,rx,q1⟩=>bh (hv ξ s1 σ H1 _ I1 q1) λw2 s2 ⟨y,H2,I2,ry,q2⟩ =>
  bh (hr ξ s2 σ H2 _ I2 q2) (by rintro ws s3 ⟨ps,H3,I3,rel,q3⟩;exact ⟨(x,y) :: ps,H3,I3,.cons ⟨rx,ry⟩ rel,q3⟩))
abbrev dO(de more:List (bf×V)):List (bf×V):=more.foldl (λacc kv=>ci acc kv.1 kv.2) de
def KV.merge:∀{more:List (bf×V)} {rs:List (bf×QF)} {de:List (bf×V)} {vs:List (bf×QF)},KV more rs->KV de vs->KV (dO de more) (merged vs rs):=by
 intro more rs de vs r;unfold KV at r
 induction r generalizing de vs with
 |nil=>intro q;exact q
 |@cons p q ps qs h t ih =>
  intro r0
  have e:KV (ci de p.1 p.2) (stored vs q.1 q.2):=by
   have:=r0.put p.1 h.2
   rw[<- h.1];exact this
  exact ih e
def gt:∀(more de:List (bf×V)),(dO de more).length<=de.length+more.length
 |[],de=>by show de.length<=de.length+0;lia
 |p :: r,de=>by
  have h1:=gt r (ci de p.1 p.2);have h2:=cj de p.1 p.2;show(dO (ci de p.1 p.2) r).length<=_;rw[Ru];lia
def lA{P:Rx}{w:RQ}:∀{de:List (bf×V)} {ws:List (QF×QF)},VV (de.map λkv=>(kV kv.1,kv.2)) ws->∃rs,Carries (bH P w) ws rs/\KV de rs
 |[],_,r=>by rw[WL] at r;cases r;exact⟨[],UE,.nil⟩
 |p :: de,_,r=>by
  rw[RP] at r;cases r with
  |@cons a b as bs h t =>
   obtain⟨rs,c,q⟩:=lA (P:=P) (w:=w) t;obtain⟨b1,b2⟩:=b;exact⟨(p.1,b2) :: rs,⟨wx h.1,rfl,c⟩,.cons ⟨rfl,h.2⟩ q⟩
abbrev Hu(trs:List (TE×TE)):TE:=λσ H Q=>∀p,H p=none->i6 trs σ (upd H p (.dK [])) λps H2=>H2 p=some (.dK [])/\∃de:List (bf×V),ps=de.map (λkv=>(kV kv.1,kv.2))/\de.length<=15/\Q (.ref p) (upd H2 p (.dK (dO [] de)))
def I0(h:N2 X pos keys values trs)(hall:keys.all (·.isSome)=true)(hl:keys.length=values.length)(h0:keys≠[])
  (h15:keys.length<=15):PE X (.Dict keys values pos) (Hu trs):=by
 intro ξ s σ H Q I q;have hn:=I.hok.fresh (QH s.heap.objs.size);have I1:=I.laid (a:=s.heap.objs.size) (o:=.dK []) (h':=s.heap.push {cls:=.type "dict",data:=.dict #[]}) (t':=s.toks) (λ_ _ q=>QN _ q) (QH _) (vj s.heap I.big);refine wpAny_Dict_walk (knd:=bH X.prog X.w) hall hl h0 h15 (bh (h ξ _ σ _ _ I1 (q _ hn)) λws s2 ω=>?_);obtain⟨ps,H2,I2,rel,e,de,ep,lk,q2⟩:=ω;subst ep;obtain⟨rs,c,rk⟩:=lA (P:=X.prog) (w:=X.w) rel;obtain⟨z,hd,vs0,r0,dd⟩:=J1 I2.hok e;cases r0;refine⟨rs,c,dd,λh' dd' hs=>⟨.ref s.heap.objs.size,_,?_,rfl,q2⟩⟩
 have hz:(dO [] de).length<=sizeLine:=by
  have h1:=gt de [];rw[Vw] at h1;rw[Us];lia
 have he:∃q,h'.get? s.heap.objs.size=some q:=let ⟨q,_,_,hq,_⟩:=dd';⟨q,hq⟩
 exact tE I2 (by rw[e];exact UE) hs he (Gz hz hd (rk.merge .nil) dd')
structure M1 (X:Cx) (o:Expr) (m:Str) (apos:Pos) (e:Expr) (cpos:Pos):Prop where
 base:attributeBase o m X.env (eval o X.env)=eval o X.env
 few:((backTo cpos (starEach [e] X.env)).all (λx=>!x.1) && (backToKw cpos (keywordEach [] X.env)).all (λx=>x.1.isSome)
  && decide (([e]:List Expr).length+([]:List Zag).length+(if ([]:List Zag).isEmpty then 0 else 1)<30))=true
 line:(apos.endLine == cpos.line)=true
 trees:backTo cpos (starEach [e] X.env)=[(false,eval e X.env)]
abbrev Qa(H:Hp)(a:Addr):Prop:=(∃de,Rd H a (.dK de))\/∃de,Rd H a (.dT de)
def M9{H:Hp}(I:Inv X ξ σ H s)(d:Qa H a) :
  s.TypeIs (.ref a) "dict"/\(∀b,RK a=.ref b->∃ob,s.heap.get? b=some ob/\ob.dict=none)/\(a == sysModules)=false:=by
 rcases d with⟨de,e⟩|⟨de,e⟩
 .obtain⟨_,hd,vs,_,dd⟩:=tw I.hok e;refine⟨dd.typeIs,λb q=>?_,hd⟩;cases q;obtain⟨ob,_,_,h1,h2,_⟩:=dd;exact⟨ob,h1,h2.2.1⟩
 .obtain⟨_,hd,xs,_,dd⟩:=wD I.hok e;refine⟨dd.typeIs,λb q=>?_,hd⟩;cases q;obtain⟨ob,_,_,h1,h2,_⟩:=dd;exact⟨ob,h1,h2.2.1⟩
section
variable{X:Cx}{ξ:List (Addr×Obj)}{σ:St}{H:Hp}{s:QP}{a:Addr}{y d:V}{u r:QF}{o:Option V}{A:RT}{E:QF->QP->Prop}
def Np{Q:QF->QP->Prop}(hu:A.units+1<cLine)(I:Inv X ξ σ H s)(g:DGet H a y o)(ry:RelV y u)(h:∀w' s',Inv X ξ σ H s'->RelV (o.getD .non) w'->Q w' s') :
  wpAny (model X.prog X.w) A (call (.builtin "dict.get") [.ref a,u]) Q E s:=by
 rcases g with⟨de,k,e,ey,l⟩|⟨de,k,b,e,ey,eb,l⟩
 .subst ey;obtain⟨z,hd,vs,rel,dd⟩:=tw I.hok e;refine call_meetsIn VX dd.typeIs X4 (XJ _ _) (meets_dict_get (bH X.prog X.w) a (wx ry) hd) ⟨_,dd.mapOf,h _ _ (I.tok _) ?_⟩;rw[l];exact(rel.val k).getD rfl
 .subst ey;cases (show u=RK b from ry);obtain⟨z,hd,xs,rel,dd⟩:=wD I.hok e;refine call_meetsIn VX dd.typeIs X4 (XJ _ _) (meetsH_dict_get (tupleKind (bH X.prog X.w)) a b hd) ⟨Vy hu,k,xs,qg I.hok eb,dd,h _ _ (I.tok _) ?_⟩;rw[l];exact(rel.val k).getD rfl
end
abbrev yn(td ty:TE):TE:=λσ H Q=>td σ H λx H1=>∃a,x=.ref a/\Qa H1 a/\ty σ H1 λy H2=>∃o,DGet H2 a y o/\Q (o.getD .non) H2
section
variable{X:Cx}{o e f:Expr}{apos cpos:Pos}{td ty tx:TE}
def En(hu:X.A.units+1<cLine) (ho:PE X o td) (he:PE X e ty) (m:M1 X o "get" apos e cpos):PE X (.Call (.Attribute o "get" apos) [e] [] cpos) (yn td ty):=by
 intro ξ s σ H Q I h;refine wpAny_Call_method m.base m.few m.line PySem.F.plainAttrs_dict VX PySem.F.type_dict_get (bh (ho ξ s σ H _ I h) λu s1 ω=>?_);obtain⟨x,H1,I1,rx,a,ex,d,q1⟩:=ω;subst ex;obtain rfl:u=RK a:=rx;obtain⟨t1,t2,_⟩:=M9 I1 d;refine⟨t1,t2,?_⟩;rw[m.trees];refine VJ rfl (Ys (Uc (bh (he ξ s1 σ H1 _ I1 q1) λiv s2 ⟨y,H2,I2,ry,ov,g,q2⟩=>Ut ?_)));exact Np hu I2 g ry λw' s3 I3 rw'=>⟨_,H2,I3,rw',q2⟩
end
section
variable{X:Cx}
def BO:eR X (.builtin "len") (λxs H Q=>∃a de,xs=[V.ref a]/\H a=some (.dK de)/\Q (.int de.length) H):=by
 intro ξ s σ H xs us Q I r h;obtain⟨a,de,rfl,ha,q⟩:=h;obtain⟨u,rfl,ru⟩:=vals1 r;cases ru;exact PU I (.inl ha) λt s' I'=>⟨.int de.length,H,I',⟨t,rfl⟩,q⟩
end
open PySem PySem.W
abbrev Qk(K:Frag):List Str->Prop
 |[]=>True
 |n :: r=>nsIn K mainGlobals n=some none/\Qk K r
end L2
namespace K88H
open PySem PySem.Spec PyProof.Rows L2
abbrev top(i:Nat):Stmt:=PW88.main.body.getD i (.Pass ⟨0,0,0,0⟩)
abbrev spLaw(K:Fg):Sp:=λvs H Q _=>∃(a:Addr) (ns:List Int),vs=[.ref a]/\SqL K H a (ns.map V.int)/\ns.length<=63/\∀H',Q (.bl true) H'
abbrev Kg(K:Fg)(n:Str)(st:Stmt):Prop:=∃(f:Addr) (od an:Option Addr) (sl:Array (Option QF)) (oc kV dc pm cd ct:QF),WM K mainGlobals n=some (⇑f)/\K.lookup f=some ⟨oc,od,.func (Tl n n (cX st) (cm st) (ao st) .none kV dc pm an cd ct),sl⟩/\U8 K cd n=true/\UM K (.ref f)=true
def fnIn{K:Fg}{st:Stmt}{od:Option Addr}{sl:Array (Option QF)}{oc kV:QF}(a:WM K mainGlobals n=some (⇑f))(l:K.lookup f=some ⟨oc,od,.func (Tl n n (cX st) (cm st) (ao st) .none kV dc pm an cd ct),sl⟩)(c:U8 K cd n=true)(k:UM K (.ref f)=true):Kg K n st:=⟨f,od,an,sl,oc,kV,dc,pm,cd,ct,a,l,c,k⟩
local macro_rules | `(tactic| fail "f")=>`(tactic| (refine' fnIn ?a ?l ?c ?k;(case a=>k_is);(case l=>k_is);(case c=>k_is);(case k=>k_is)))
abbrev B3(K:Fg):List (Str×Nat)->Prop
 |[]=>True
 |(n,i) :: r=>Kg K n (top i)/\B3 K r
local macro_rules | `(tactic| walk_at "all")=>`(tactic| repeat' first|exact trivial|(refine And.intro ?_ ?_)|k_is|k_exc|fail "f"|exact rfl|decide)
def walk{l:Z_}{XP:(Str->Option QF)->Heap->Prop}{YP:RQ->Heap->Prop}{d:DefRec}{K:Params->Zh}(hn:l.most=some 63)(hdf:d.params.defaults=[])
  (hY:∀(w:RQ) (h:Heap),YP w h->(K w.params).In h)
  (F:∀(w:RQ) (mg:Str->Option QF) (fa:Addr) (h:Heap),(K w.params).In h->h.Ns mainGlobals mg->mg d.name=⇑fa ->
   ∃fd:Ud,(∀(s:QP) (u:QF),Zn s fd ⟨[u],[]⟩ [("_law_script",u)])/\∀base:Heap,(K w.params).In base->base.Ns mainGlobals mg->FnOk l.prog w (K w.params) mg base bg 11 fa fd ["_law_script"] (spLaw (K w.params))) :
  YS q loose XP YP l.row.toRowW d [] (λf vs=>Y4 f vs) :=
 L2.GU (n:=63) (k:=11) (x:="_law_script") (CX:=λ_=>bg) (sp:=λw=>spLaw (K w.params)) hn (by decide) hdf ⟨rfl,by decide,by decide⟩ hY F (λ_ _ a ns hl _ hS=>⟨a,ns,rfl,hS,hl,λ_=>rfl⟩) λ_ _ _ _ _ z=>z
open PySem.W in
def headed(hW:∀{w:RQ} {K:Fg} {h:Heap} {mg:Str->Option QF} {fa:Addr} (X:K.In h) (G:h.Ns mainGlobals mg) (hfa:mg "law"=⇑fa)
  (P0:B3 K [("whole",8),("greatest_divisor",9),("fraction",10),("plus",11),("times",12),("first_place",14),("unit_row",15),("unit_rows",16),("common_divisor",17),("lowest",18),("cleared",19),("sifted",20),("nought_makers",21),("heaps_of",24),("heaps",25),("turning_at",26),("heap_numbers",28),("places_of",29),("lots",30),("check_heap",31)]) (P20:B3 K [("road",32),("first_astray",33),("lot_marks",35),("lack_rows",36),("taken_out",38),("split",39),("place_with_divisor",40),("apart",41),("raised",42),("multiplied",43),("turnings_from",46),("picks",47),("is_tree",48),("pace_product",49),("tree_weight",50),("tree_weights",51),("falling",53),("can_be_made",54),("count_behind",55),("walked",56)]) (P40:B3 K [("weight_powers",58),("even",59),("even_weights",60),("heaps_come_to",61),("gain_between",62),("gain",63),("_law_cell_at",65),("_law_mixed",66),("_law_divisor",67),("_law_lowest",68),("_law_words",69),("_law_heap",70),("_law_pool",71),("_law_pairs",72),("_law_pace",73),("_law_vessel",74),("_law_heaps",75),("_law_ends",76),("_law_times",78),("_law_even_vessel",79)]) (P60:B3 K [("_law_zero_lack",80),("_law_balanced",81),("_law_count",82),("_law_can",83),("_law_behind",84),("_law_between",85),("_law_gain",86),("_law_some_count",87),("_law_same",88),("_law_row",89),("_law_other_row",90),("law",91)]) (Z:Qk K ["len","abs","range","isinstance","int","bool","tuple","list","str","zip","set","all","any","min","max","sum","sorted","enumerate","reversed","dict","ord","divmod"])
  {tn0 tn1 to0 to1:Tok} {nq oq:Addr} {nqd oqd:Option Addr} {nqn oqn:Nat} {nqs oqs:Array (Option QF)}
  (hcnN:WM K mainGlobals "NOUGHT"=some (⇑nq))
  (hcnL:K.lookup nq=some ⟨.type "tuple",nqd,.seq #[.int 0 tn0,.int 1 tn1] nqn,nqs⟩)
  (hcnO:WM K mainGlobals "ONE"=some (⇑oq))
  (hcnM:K.lookup oq=some ⟨.type "tuple",oqd,.seq #[.int 1 to0,.int 1 to1] oqn,oqs⟩)
  ,∃fd:Ud,(∀(s:QP) (v:QF),Zn s fd ⟨[v],[]⟩ [("_law_script",v)])/\∀base:Heap,K.In base->base.Ns mainGlobals mg->FnOk PySem.Challenge.rw_vesselhall_k88_gains_hang_on_the_ends_al.prog w K mg base bg 11 fa fd ["_law_script"] (spLaw K)):PySem.Challenge.rw_vesselhall_k88_gains_hang_on_the_ends_al.Holds:=by
 refine said ?_
 w_on
 refine Y2 (q:=qv) (loose:=[]) (Xt:=λs=>VH qv [] s && Vo [] s) (XP:=Zai qv []) (Yf:=ZM (Wg pre.heap_1 asl asl_ok)) (Ya:=ZN (Wg pre.heap_1 asl asl_ok)) (YP:=Zj (Wg pre.heap_1 asl asl_ok)) (N:=7390) hooks (Z9 (Wg pre.heap_1 asl asl_ok)) (Y3 (Wg pre.heap_1 asl asl_ok)) (λs e=>Zav s (U7.mp e).1) ZO (by rfl) (by rfl) (by rfl) (λs e=>YJ (U7.mp e).2) (by rfl) (by first|assumption|decide +kernel) (by decide +kernel) ⟨rfl,rfl,rfl,rfl,rfl,by decide +kernel⟩ ?_ ?_
 .clear hW;w_witness2
 k_fill
 refine walk (l:=PySem.Challenge.rw_vesselhall_k88_gains_hang_on_the_ends_al) rfl rfl (λw h Y=>PySem.W.kIn_of Y) ?F
 case F =>
  intro w mg fa h KX G hmg;refine' hW KX G hmg ?_ ?_ ?_ ?_ ?_ ?_ ?_ ?_ ?_
  all_goals try walk_at "all"
end K88H
namespace L2
open PySem PySem.Spec PyProof.Rows
section
variable{X:Cx}{a b c:Expr}{ta tb tc:TE}{pos:Pos}
abbrev N_(_ j:Int):Prop:=j≠0/\j.natAbs<2 ^ 9000
def Et:fD X (binaryOp .FloorDiv) (rI N_ λi j=>.int (i.fdiv j)):=F1 λi j _ _ _ _ _ hc q=>by
 have h0:j.natAbs≠0:=by have:=hc.1;lia
 exact Zk hc.1 q (.inl (PyProof.noPylong_of_log2 ((Yu h0).mpr hc.2)))
abbrev oF(i j:Int):Prop:=i.natAbs<2 ^ 20000/\j.natAbs<2 ^ 20000
def oF.ok(h:oF i j):IntMulOk i j:=by
 have h1:=XM h.1;have h2:=XM h.2;unfold IntMulOk
 have e:Yi ((YL i:Int)+(YL j:Int))=false:=by
  unfold Yi;refine decide_eq_false ?_
  have:(40000:Int)<=bitsLine:=by decide
  lia
 intro q;rw[e] at q;simp at q
def Jg:fD X (binaryOp .Mult) (rI oF λi j=>.int (i*j)):=F1 λ_ _ _ _ _ _ _ hc q=>mul_int q hc.ok
def Ff:eR X (.builtin "isinstance") (λxs H Q=>∃x n t b,xs=[x,.ty n]/\TyOf X.K H x t/\SC X.K t (.type n)=some b/\Q (.bl b) H):=by
 intro ξ s σ H xs us Q I r h;obtain⟨x,n,t,b,rfl,ty,e,q⟩:=h;obtain⟨u,u',rfl,rx,ry⟩:=vals2 r;obtain rfl:u'=V2 n:=ry;exact AR I rx ty e λtk=>⟨.bl b,H,I.tok tk,rfl,q⟩
end
structure FnC (P:Rx) (w:RQ) (K:Fg) (mg:Str->Option QF) (base:Heap) (CX:oH) (k:Nat) (x:Str) (ps:List Str) (sp:Sp):Prop where
 ex:∃(f:Addr) (fd:Ud),FnOk P w K mg base CX k f fd ps sp/\mg x=⇑f/\UM K (.ref f)=true/\Binds K fd ps []
structure aN (K:Fg) (mg:Str->Option QF) (x:Str) (st:Stmt) (ps:List Str):Prop where
 ex:∃(f:Addr) (fd:Ud),Fun K x x st f fd/\mg x=⇑f/\Binds K fd ps []
section
variable{P:Rx}{w:RQ}{K:Fg}{mg:Str->Option QF}{base:Heap}{CX:oH}
def E6{st:Stmt}{ps:List Str}{oc:QF}{od:Option Addr}{osl:Array (Option QF)}{kV:QF}(X:K.In h)(G:h.Ns mainGlobals mg)
  (a:WM K mainGlobals x=some (⇑f)) (l:K.lookup f=some ⟨oc,od,.func (Tl x x (cX st) (cm st) (ao st) .none kV doc pm an cdv ct),osl⟩)
  (c:U8 K cdv x=true) (k:UM K (.ref f)=true)
  (hb:∀(kV doc pm:QF) (an:Option Addr) (cdv ct:QF) (us:List QF),us.length=ps.length->bindArgs (Tl x x (cX st) (cm st) (ao st) .none kV doc pm an cdv ct) ⟨us,[]⟩=pure (ps.zip us)) :
  aN K mg x st ps:=by
 have F:=Gw (K:=K) (x:=x) (qual:=x) (st:=st) l c k;exact⟨f,_,F,Xv X G a,F.binds hb⟩
def FnC.mono{k:Nat}(F:FnC P w K mg base CX j x ps sp)(h:j<=k):FnC P w K mg base CX k x ps sp :=
 let ⟨f,fd,G,r⟩:=F.ex
 ⟨f,fd,G.mono h,r⟩
def FnC.imp{sp':Sp}(F:FnC P w K mg base CX k x ps sp)(h:∀vs H Q E,sp' vs H Q E->sp vs H Q E):FnC P w K mg base CX k x ps sp' :=
 let ⟨f,fd,G,r⟩:=F.ex
 ⟨f,fd,G.imp h,r⟩
def aN.ok{st:Stmt}{sp:Sp}(F:aN K mg x st ps)(S:aC N ps (ao st))(len:∀vs H Q E,sp vs H Q E->vs.length=ps.length)
  (hbody:∀(f:Addr) (cdv:QF) (A:RT) (outer:List Env) (s:QP) (H:Hp) (vs:List V) (Q:VK) (E:XK),Room k (A.deeper (envOfC x (ao st) s.heap.objs.size f cdv))->sp vs H Q E ->
   ∃t,PSs (nW bg P w K mg base N x (ao st) f cdv A outer s H E).nox (cm st) t/\t {nx:=λ_ H'=>Q .non H',rt:=Q} (start N vs) H):FnC P w K mg base bg (k+1) x ps sp:=by
 obtain⟨f,fd,G,hm,hb⟩:=F.ex;exact⟨f,fd,G.ok S len (hbody f),hm,G.kp,hb⟩
end
section
variable{X:Cx}{CX:oH}{k:Nat}{ps:List Str}{sp:Sp}{E:XK}{x:Str}{p pos:Pos}{e:Expr}{es:List Expr}{t:TA}
def Eo(F:FnC X.prog X.w X.K X.mg X.base CX k x ps sp)(hr:Room k X.A)(hg:Gl X x)(hx:oA CX X E)(ha:PA X (e :: es) t)
  (hdb:(x == ("__debug__":Str))=false:=by decide) (he:starEach (e :: es) X.env=(false,eval e X.env) :: starEach es X.env:=by rfl) (hpl:(backTo pos (starEach es X.env)).any (·.1)=false:=by rfl) :
  PE X (.Call (.Name x p) (e :: es) [] pos) (aD sp [] E t):=by
 obtain⟨f,fd,G,hm,kp,hb⟩:=F.ex;exact Jb G hr hg hm kp hb .nil hx ha hdb he hpl
def Ep(F:FnC X.prog X.w X.K X.mg X.base bg k x ps sp)(hr:Room k X.A)(hg:Gl X x)(ha:PA X (e :: es) t)
  (hdb:(x == ("__debug__":Str))=false:=by decide) (he:starEach (e :: es) X.env=(false,eval e X.env) :: starEach es X.env:=by rfl) (hpl:(backTo pos (starEach es X.env)).any (·.1)=false:=by rfl) :
  PE X (.Call (.Name x p) (e :: es) [] pos) (aD sp [] E0 t):=Eo F hr hg OJ ha hdb he hpl
end
def ak{H:Hp}(h:H p=none)(o:HO):Same H (upd H p o):=λb u q=>by rw[aJ (ay q h)];exact q
def Same.seqT{K:Fg}(e:Same H H')(h:SqT K H a xs):SqT K H' a xs:=by
 rcases h with(h|⟨o,h⟩)|h
 .exact .inl (.inl (e _ _ h))
 .exact .inl (.inr ⟨o,e _ _ h⟩)
 .exact .inr h
structure bQ (mg:Str->Option QF):Prop where
 len:mg "len"=none
 abs:mg "abs"=none
 range:mg "range"=none
 isinstance:mg "isinstance"=none
 int:mg "int"=none
 bool:mg "bool"=none
 tuple:mg "tuple"=none
 list:mg "list"=none
 str:mg "str"=none
 zip:mg "zip"=none
 set:mg "set"=none
 all:mg "all"=none
 any:mg "any"=none
 min:mg "min"=none
 max:mg "max"=none
 sum:mg "sum"=none
 sorted:mg "sorted"=none
 enumerate:mg "enumerate"=none
 reversed:mg "reversed"=none
 dict:mg "dict"=none
 ord:mg "ord"=none
 divmod:mg "divmod"=none
def NI:bootBuiltins "len"=some (.builtin "len"):=by decide +kernel
def NK:bootBuiltins "abs"=some (.builtin "abs"):=by decide +kernel
def oj:bootBuiltins "isinstance"=some (.builtin "isinstance"):=by decide +kernel
def GH:bootBuiltins "int"=some (.type "int"):=by decide +kernel
def J5:bootBuiltins "bool"=some (.type "bool"):=by decide +kernel
def vq:bootBuiltins "tuple"=some (.type "tuple"):=by decide +kernel
def tJ:bootBuiltins "list"=some (.type "list"):=by decide +kernel
def NE:bootBuiltins "str"=some (.type "str"):=by decide +kernel
def M7{y z:Int}{A B:Prop}(h1:y≠z->A)(h2:y=z->B):if (!decide (V.int y=V.int z))=true then A else B:=by
 by_cases h:y=z
 .subst h;rw[decide_eq_true rfl];exact AQ (h2 rfl)
 .rw[decide_eq_false (λq=>h (V.int.inj q))];exact wy (h1 h)
def M8[Decidable c]{A B:Prop}(h1:c->A)(h2 : ¬ c->B):if decide c=true then A else B:=by
 by_cases h:c
 .rw[decide_eq_true h];exact wy (h1 h)
 .rw[decide_eq_false h];exact AQ (h2 h)
nonrec abbrev aZ:R2:=v_ λi j=>.int (i+j)
nonrec abbrev iF:R2:=v_ λi j=>.int (i-j)
nonrec abbrev cO:R2:=rI oF λi j=>.int (i*j)
nonrec abbrev cg:R2:=rI Ki λi j=>.int (i / j)
nonrec abbrev D_:R2:=rI N_ λi j=>.int (i.fdiv j)
nonrec abbrev aU:R2:=rI (λ_ j=>0<j) λi j=>.int (i % j)
nonrec abbrev ID:R2:=rI (λ_ j=>j≠0) λi j=>.int (i.fmod j)
nonrec abbrev sE:R2:=rI N8 λi j=>.int (i ^ j.toNat)
nonrec abbrev wM:R2:=v_ λi j=>.bl (decide (i<j))
nonrec abbrev OA:R2:=v_ λi j=>.bl (decide (i<=j))
nonrec abbrev wN:R2:=v_ λi j=>.bl (decide (j<i))
nonrec abbrev pE:R2:=λx y H Q=>y=.non/\Q (.bl (decide (x=.non))) H
nonrec abbrev Lg:R2:=λx y H Q=>y=.non/\Q (.bl (!decide (x=.non))) H
nonrec abbrev IG:R2:=λx y H Q=>∃i j,x=.str i/\y=.str j/\i.length+j.length<=sizeLine/\Q (.str (i++j)) H
nonrec abbrev Lj:List V->Hp->VK->Prop:=λxs H Q=>∃i,xs=[.int i]/\Q (.int (if i<0 then -i else i)) H
nonrec abbrev bW(K:Fg):List V->Hp->VK->Prop:=λxs H Q=>∃p ys,xs=[.ref p]/\(SqL K H p ys\/SqT K H p ys)/\Q (.int ys.length) H
nonrec abbrev dq(K:Fg):List V->Hp->VK->Prop:=λxs H Q=>∃x n t b,xs=[x,.ty n]/\TyOf K H x t/\SC K t (.type n)=some b/\Q (.bl b) H
nonrec abbrev IE:List V->Hp->VK->Prop:=λxs H Q=>(∃i,xs=[.int i]/\Q (.int i) H)\/∃k,xs=[.bl k]/\Q (.int (if k then 1 else 0)) H
nonrec abbrev cC(K:Fg):List V->Hp->VK->Prop:=λxs H Q=>∃p ys,xs=[.ref p]/\((SqL K H p ys/\∀l,H l=none->Q (.ref l) (upd H l (.tup ys)))\/(SqT K H p ys/\Q (.ref p) H))
nonrec abbrev dm(K:Fg):List V->Hp->VK->Prop:=λxs H Q=>∃p ys,xs=[.ref p]/\(SqL K H p ys\/SqT K H p ys)/\∀l,H l=none->Q (.ref l) (upd H l (.lst ys))
def Mt{K:Fg}:SC K (.type "int") (.type "int")=some true:=by rfl
def Mu{K:Fg}:SC K (.type "int") (.type "bool")=some false:=by
 show Tq K (.type "int") (.type "bool")=some false;unfold Tq
 kernel_rfl
structure P_ (X:Cx):Prop where
 stk:X.stack=X.env :: X.outer
 d7:X.env.frame=some X.env.locals
 exs:X.ex=[]
section
variable{P:Rx}{w:RQ}{K:Fg}{mg:Str->Option QF}{base:Heap}{x:Str}{st:Stmt}{N ps:List Str}{k:Nat}{sp:Sp}
def gQ:1<=sizeLine:=by decide
def aQ:2<=sizeLine:=by decide
def fS:3<=sizeLine:=by decide
def HG:4<=sizeLine:=by decide
def aP{N:List Str}{n:Nat}(hN:N.length=n)(vs:List V):L2.start N vs=vs.map some++Rm (n-vs.length) none:=by
 subst hN;rfl
def aN.okN(F:aN K mg x st ps)(S:aC N ps (ao st))(len:∀vs H Q E,sp vs H Q E->vs.length=ps.length)
  (hbody:∀(f:Addr) (cdv:QF) (A:RT) (outer:List Env) (s:QP) (H:Hp) (vs:List V) (Q:VK) (E:XK),N.Nodup->Room k (A.deeper (envOfC x (ao st) s.heap.objs.size f cdv))->(A.deeper (envOfC x (ao st) s.heap.objs.size f cdv)).units+64<cLine->(A.deeper (envOfC x (ao st) s.heap.objs.size f cdv)).units+1<cLine->(∀{M:Model} {A:RT} {env:Env},PassesOwn M A env λ_ _=>False)->P_ (nW bg P w K mg base N x (ao st) f cdv A outer s H E).nox->sp vs H Q E ->
   ∃t,PSs (nW bg P w K mg base N x (ao st) f cdv A outer s H E).nox (cm st) t/\t {nx:=λ_ H'=>Q .non H',rt:=Q} (start N vs) H):FnC P w K mg base bg (k+1) x ps sp :=
 F.ok S len λf cdv A outer s H vs Q E hr h=>hbody f cdv A outer s H vs Q E S.nd hr hr.units (Q4 (YK (by decide:1<=64) _) hr.units) Wz ⟨rfl,rfl,rfl⟩ h
end
open PySem PySem.Spec PyProof.Rows PySem.W Builtin Builtin.ObjectAttr Builtin.Getset_descriptor
open PySem PySem.Spec PyProof.Rows PySem.W
open PySem.W (Dat kqdP kqdPs kqdOk)
mutual
inductive Rep (K:Fg) (H:Hp):V->Dat->Prop
 |non:Rep K H .non .none
 |bl (b:Bool):Rep K H (.bl b) (.bool b)
 |int (i:Int):Rep K H (.int i) (.int i)
 |str (x:Str):Rep K H (.str x) (.str x)
 |tup {a:Addr} {xs:List V} {ds:List Dat}:SqT K H a xs->RepL K H xs ds->Rep K H (.ref a) (.tuple ds)
 |lst {a:Addr} {xs:List V} {ds:List Dat}:SqL K H a xs->RepL K H xs ds->Rep K H (.ref a) (.list ds)
inductive RepL (K:Fg) (H:Hp):List V->List Dat->Prop
 |nil:RepL K H [] []
 |cons {v:V} {d:Dat} {vs:List V} {ds:List Dat}:Rep K H v d->RepL K H vs ds->RepL K H (v :: vs) (d :: ds)
end
section
variable{K:Fg}{H H':Hp}
def RepL.ints:∀ns:List Int,RepL K H (ns.map V.int) (ns.map Rn)
 |[]=>.nil
 |n :: ns=>.cons (.int n) (RepL.ints ns)
end
section
variable{X:Cx}{ξ:List (Addr×Obj)}{σ:St}{H:Hp}{s:QP}
mutual
def Rep.reads(I:Inv X ξ σ H s):∀{v:V} {d:Dat} {u:QF},Rep X.K H v d->RelV v u->∃as,Reads s.heap u (kqdP d) as
 |_,_,u,.non,r=>by
  cases (show u=Td from r);exact⟨_,Reads.none⟩
 |_,_,u,.bl b,r=>by
  cases (show u=XW b from r);exact⟨_,Reads.bool b⟩
 |_,_,u,.int i,r=>by
  obtain⟨t,e⟩:=(show ∃t,u=U0 i t from r)
  cases e;exact⟨_,Reads.int i t⟩
 |_,_,u,.str x,r=>by
  obtain⟨t,e⟩:=(show ∃t,u=YH x t from r)
  cases e;exact⟨_,Reads.str x t⟩
 |_,_,u,@Rep.tup _ _ a xs ds h q,r=>by
  cases (show u=RK a from r);obtain⟨gV,rv,⟨o,e,c,n,dd⟩,_⟩:=I.tuple h;obtain⟨as,p⟩:=RepL.reads I q rv;rw[kqdP];exact⟨_,Reads.tuple e c dd (by simpa using p)⟩
 |_,_,u,@Rep.lst _ _ a xs ds h q,r=>by
  cases (show u=RK a from r);obtain⟨gV,rv,⟨o,n,e,c,_,dd⟩,_⟩:=I.list h;obtain⟨as,p⟩:=RepL.reads I q rv;rw[kqdP];exact⟨_,Reads.list e c dd (by simpa using p)⟩
def RepL.reads(I:Inv X ξ σ H s):∀{vs:List V} {ds:List Dat} {us:List QF},RepL X.K H vs ds->Vals vs us->∃as,ReadsAll s.heap us (kqdPs ds) as
 |_,_,_,.nil,.nil=>by
  rw[kqdPs];exact⟨_,ReadsAll.nil⟩
 |_,_,_,.cons h q,.cons r rr=>by
  obtain⟨as,p⟩:=Rep.reads I h r;obtain⟨bs,p'⟩:=RepL.reads I q rr;rw[kqdPs];exact⟨_,ReadsAll.cons p p'⟩
end
open Classical in
def JX(hd:kqdOk 8 d=true)(he:kqdOk 8 e=true):Vz (kqdP d) (kqdP e)=decide (d=e):=by
 have q:=PySem.W.kqd_eqv 8 d e 8 hd he;by_cases z:d=e
 .rw[decide_eq_true z];exact q.mpr z
 .rw[decide_eq_false z];exact Zr.mpr λy=>z (q.mp y)
def oX(h:kqdOk 8 d=true):SeqAt.shaped (kqdP d)=true:=by
 have l:=TW 8 d h;unfold SeqAt.shaped;rw[l.1,Bool.true_and];exact decide_eq_true (Q0 l.2 (by decide))
open Classical in
abbrev IC(K:Fg):R2:=λx y H Q=>∃d e,Rep K H x d/\Rep K H y e/\kqdOk 8 d=true/\kqdOk 8 e=true/\Q (.bl (!decide (d=e))) H
def L1(hu:X.A.units+64<cLine):fD X (compareOp .NotEq) (IC X.K):=by
 intro ξ s σ H x y v u Q I rx ry h;obtain⟨d,e,hd,he,kd,ke,q⟩:=h;obtain⟨as,ra⟩:=Rep.reads I hd rx;obtain⟨bs,rb⟩:=Rep.reads I he ry;exact ne_dataH ra rb (oX kd) (oX ke) hu ⟨_,H,I,(by rw[JX kd ke];rfl),q⟩
open Classical in
def tO{ds:List Dat}(ha:∀e∈ds,kqdOk 8 e=true)(hd:kqdOk 8 d=true):((kqdPs ds).any λy=>Vz y (kqdP d))=decide (d∈ds):=by
 by_cases z:d∈ds
 .rw[decide_eq_true z];exact(Zaa ds d ha hd).mpr z
 .rw[decide_eq_false z];exact Zr.mpr λy=>z ((Zaa ds d ha hd).mp y)
open Classical in
abbrev kx(K:Fg)(neg:Bool):R2:=λx y H Q=>∃d ds,Rep K H x d/\Rep K H y (.list ds)/\(∀e∈ds,kqdOk 8 e=true)/\kqdOk 8 d=true/\Q (.bl (if neg then !decide (d∈ds) else decide (d∈ds))) H
def AW{A:RT}(hd:kqdOk 8 d=true)(hu:A.units+64<cLine):A.units+1+min (WA (kqdPs ds)) (kqdP d).depth<cLine:=by
 have l:=(TW 8 d hd).2
 have:=Vd (WA (kqdPs ds)) (kqdP d).depth
 lia
def L6(hu:X.A.units+64<cLine):fD X (compareOp .In) (kx X.K false):=by
 intro ξ s σ H x y v u Q I rx ry h;obtain⟨d,ds,hd,he,ka,kd,q⟩:=h;obtain⟨as,ra⟩:=Rep.reads I hd rx;obtain⟨bs,rb⟩:=Rep.reads I he ry;rw[kqdP] at rb;exact SeqAt.in_list_reads rb ra (V5 ka).1 (TW 8 d kd).1 (AW kd hu) ⟨_,H,I,(by rw[tO ka kd];rfl),q⟩
def zZ(hu:X.A.units+64<cLine):fD X (compareOp .NotIn) (kx X.K true):=by
 intro ξ s σ H x y v u Q I rx ry h;obtain⟨d,ds,hd,he,ka,kd,q⟩:=h;obtain⟨as,ra⟩:=Rep.reads I hd rx;obtain⟨bs,rb⟩:=Rep.reads I he ry;rw[kqdP] at rb;exact SeqAt.notIn_list_reads rb ra (V5 ka).1 (TW 8 d kd).1 (AW kd hu) ⟨_,H,I,(by rw[tO ka kd];rfl),q⟩
end
abbrev a8(X:Cx)(ys M:List Str)(scope:Scope)(cl:List (Str×Addr))(C:Addr)(s:QP)(H:Hp)(fp:List Addr)(ξ:List (Addr×Obj)):Cx where
 prog:=X.prog
 w:=X.w
 K:=X.K
 mg:=X.mg
 base:=X.base
 A:=X.A
 N:=ys++M
 s₀:=s
 H₀:=H
 env:=compEnvC scope cl C X.env
 outer:=X.stack
 stack:=X.stack
 ex:=fp
 fn:=λ_=>false
 calm:=X.calm
 pn:=X.pn++ξ
 xe:=λ_ _=>False
structure jZ (X:Cx) (ys M:List Str) (scope:Scope) (cl:List (Str×Addr)):Prop where
 kind:scope.kind=.function
 nocell:∀y∈scope.names,y.2≠.cell
 names:∀y∈scope.names,y.2=.local->scope.names.lookup y.1=some .local
 own:∀y∈ys,scope.names.lookup y=some .local
 clos:closureFor scope X.env=pure cl
 nd:(ys++M).Nodup
 len:M.length=X.N.length
 same:∀p∈M.zip X.N,p.1=p.2\/(relabel scope X.env).names.lookup p.1=none
 apart:∀y∈M,(relabel scope X.env).names.lookup y≠some .local
 cells:∀y c,cl.lookup y=some c->X.env.cells.lookup y=some c/\(X.env.scope.names.lookup y=some .cell\/X.env.scope.names.lookup y=some .free)
 has:∀y,((relabel scope X.env).names.lookup y=some .cell\/(relabel scope X.env).names.lookup y=some .free)->∃c,cl.lookup y=some c
section
variable{X:Cx}{ys M:List Str}{scope:Scope}{cl:List (Str×Addr)}{C:Addr}{s:QP}{H:Hp}{fp:List Addr}{ξ:List (Addr×Obj)}{σ:St}
def EU{h1:Heap}{tk:Nat}(I:Inv X ξ σ H s)(c:jZ X ys M scope cl)(eC:C=s.heap.objs.size)(hns:h1.Ns C (λ_=>none))(hsb:TX C (s.heap.push o) h1)
  (fk:∀b∈fp,iR X ξ H b/\∃o,s.heap.get? b=some o):Inv (a8 X ys M scope cl C s H fp ξ) [] (Rm ys.length none ++ σ) H {s with heap:=h1,toks:=tk}:=by
 have keep:∀b u,s.heap.get? b=some u->h1.get? b=some u:=λb u e=>hsb.extBut b u (by rw[eC];exact RE (Q_ e)) (QN _ e)
 have neC:∀b u,s.heap.get? b=some u->b≠C:=λb u e=>by rw[eC];exact RE (Q_ e)
 have out:∀{b:Addr},b≠X.env.locals->b∉X.fs->b∉wO X.stack:=λh1 h2 z=>(Q5.mp (I.yq _ z)).elim h1 h2
 refine⟨⟨I.ok.mod,c.kind,I.ok.glob,I.ok.blt,by rw[eC];exact QH _,λy z a h1 h2=>I.ok.inj y z a (c.cells y a h1).1 (c.cells z a h2).1,c.has,λy a z _=>Bool.noConfusion z,I.ok.hd,I.ok.frames,.inl rfl,λb hb=>?_,I.bs,Q0 I.ok.bsz I.sz,λb u e hb=>?_,λb hb=>?_,I.stack,I.yr⟩,
  rfl,I.bare,Un.kept keep,⟨_,hns,λi y v e1 e2 e3=>?_⟩,λy a e=>?_,I.hok.fresh (by rw[eC];exact QH _),λy a e=>I.freeC y a (c.cells y a e).1,λp hp=>?_,I.hok.kept keep,?_⟩
 .obtain⟨⟨_,_,_,_,f5,_⟩,u,e⟩:=fk b hb;exact⟨neC b u e,λy a q=>f5 y a (c.cells y a q).1⟩
 .obtain⟨⟨_,_,_,f4,_,_⟩,_⟩:=fk b hb;rcases f4 with z|z
  .exact I.ok.noex b u e z
  .exact absurd (Re (Q_ (I.ok.bs b u e).1) z) (T7 _)
 .obtain⟨⟨_,f2,f3,_,_,_⟩,_⟩:=fk b hb;exact out f2 f3
 .by_cases lt:i<ys.length
  .have e2':(Rm ys.length (none:Option V) ++ σ)[i]?=some (some v):=e2;rw[RV (by simpa using lt),List.getElem?_replicate_of_lt lt] at e2';cases e2'
  .have e0:M[i-ys.length]?=some y:=by
    have e1':(ys++M)[i]?=some y:=e1
    rwa [R4 (by lia)] at e1'
   have e2':σ[i-ys.length]?=some (some v):=by
    have e2':(Rm ys.length (none:Option V) ++ σ)[i]?=some (some v):=e2
    rwa [R4 (by simpa using lt),Uh] at e2'
   have hy:y∈M:=QI e0
   have vis0:(relabel scope X.env).names.lookup y≠none:=by
    rcases e3 with z|z|z <;> (intro q;have q':=(show(relabel scope X.env).names.lookup y=some _ from z).symm.trans q;cases q')
   have e1':X.N[i-ys.length]?=some y:=by
    have Ad:i-ys.length<X.N.length:=by rw[<- c.len];exact(QC.mp e0).1
    have hz:(y,X.N[i-ys.length])∈M.zip X.N:=by
     refine QI (i:=i-ys.length) ?_;rw[Uk];exact⟨e0,Qy Ad⟩
    rcases c.same _ hz with q|q
    .rw[Qy Ad];exact congrArg some q.symm
    .exact absurd q vis0
   have e3':(relabel scope X.env).names.lookup y=some .cell\/(relabel scope X.env).names.lookup y=some .free:=by
    rcases e3 with z|z|z
    .exact absurd z (c.apart y hy)
    .exact .inl z
    .exact .inr z
   obtain⟨a,ea⟩:=c.has y e3';obtain⟨q1,q2⟩:=c.cells y a ea;obtain⟨m,_,hl⟩:=I.loc;have vis:Oe X.env.scope y:=.inr q2;obtain⟨u,ru,lu⟩:=hl (i-ys.length) y v e1' e2' vis;refine⟨u,ru,.inr ⟨e3',a,ea,?_⟩⟩;rcases lu with⟨z,_⟩|⟨_,a',ea',⟨oc,hoc,hd⟩⟩
   .have z':X.env.scope.names.lookup y=some .local:=z;rcases q2 with q2|q2 <;> (rw[z'] at q2;cases q2)
   .rw[q1] at ea';cases ea';exact⟨oc,keep _ _ hoc,hd⟩
 .obtain⟨v,oc,hoc,hd⟩:=I.cell y a (c.cells y a e).1;exact⟨v,oc,keep _ _ hoc,hd⟩
 .have hp':p∈X.pn++ξ:=by simpa[a8] using hp
  obtain⟨q1,q2,q3,q4,q5⟩:=I.pin p hp';exact⟨keep _ _ q1,q2,neC _ _ q1,out q3 q4,q5⟩
 .show(Rm ys.length none ++ σ).length=(ys++M).length;rw[QT,QT,Uh,I.len,c.len]
def wz(I:Inv X ξ σ H s)(fk:∀b∈fp,iR X ξ H b/\∃o,s.heap.get? b=some o)(I':Inv (a8 X ys M scope cl C s H fp ξ) pins' σ' H' s1):Inv X ξ σ H' s1 :=
 I.call' (ch:=fp) I'.os I'.base I'.hok I'.bare λb hb=>let ⟨⟨_,f2,_,f4,f5,f6⟩,_⟩:=fk b hb;⟨f4,f2,f5,f6⟩
abbrev tT(J:It)(n:Nat)(g:TG)(te:TE)(σ:St)(Q:VK)(H1:Hp):Prop:=∀D,H1 D=none->∃W:Nat->Nat->Hp->Prop,(∃m,W 0 m (upd H1 D (.lst [])))/\∀i m H,W i m H ->
 (J.stop i H/\Q (.ref D) H)\/(J.go i H/\∀v H',J.yld i H v H'->∀us:St,us.length=n->g v (us ++ σ) H' λσ2 H2=>(∃us':St,us'.length=n/\σ2=us' ++ σ)/\te σ2 H2 λy H3=>∃xs,H3 D=some (.lst xs)/\xs.length<sizeLine/\∃m',m'<m/\W (i+1) m' (upd H3 D (.lst (xs++[y]))))
abbrev gc(wi:TI)(n:Nat)(g:TG)(te:TE):TE:=λσ H Q=>wi σ H λJ H1=>tT J n g te σ Q H1
abbrev cS(J:It)(te:TE)(σ:St)(Q:VK)(H1:Hp):Prop:=∀D,H1 D=none->∃W:Nat->Nat->Hp->Prop,(∃m,W 0 m (upd H1 D (.lst [])))/\∀i m H,W i m H ->
 (J.stop i H/\Q (.ref D) H)\/(J.go i H/\∀v H',J.yld i H v H'->te (some v :: σ) H' λy H2=>∃xs,H2 D=some (.lst xs)/\xs.length<sizeLine/\∃m',m'<m/\W (i+1) m' (upd H2 D (.lst (xs++[y]))))
abbrev fA(wi:TI)(te:TE):TE:=λσ H Q=>wi σ H λJ H1=>cS J te σ Q H1
def Fd{σ:St}{Q:VK}(h:cS J te σ Q H1):tT J 1 (al 0) te σ Q H1:=by
 intro D nD;obtain⟨W,h0,hs⟩:=h D nD;refine⟨W,h0,λi m H w=>?_⟩;rcases hs i m H w with q|⟨go,st⟩
 .exact .inl q
 .refine .inr ⟨go,λv H' y us hu=>?_⟩;obtain⟨u,rfl⟩:∃u,us=[u]:=SV.mp hu;exact⟨⟨[some v],rfl,rfl⟩,st v H' y⟩
abbrev N7(J:It)(n:Nat)(g:TG)(tc:TT)(te:TE)(σ:St)(QQ:Addr->Hp->Prop)(H1:Hp):Prop:=∀D,H1 D=none->∃W:Nat->Nat->Hp->Prop,(∃m,W 0 m (upd H1 D (.lst [])))/\∀i m H,W i m H ->
 (J.stop i H/\QQ D H)\/(J.go i H/\∀v H',J.yld i H v H'->∀us:St,us.length=n->g v (us ++ σ) H' λσ2 H2=>(∃us':St,us'.length=n/\σ2=us' ++ σ)/\tc σ2 H2 λb H3 =>
  if b=true then te σ2 H3 λy H4=>∃xs,H4 D=some (.lst xs)/\xs.length<sizeLine/\∃m',m'<m/\W (i+1) m' (upd H4 D (.lst (xs++[y]))) else ∃m',m'<m/\W (i+1) m' H3)
nonrec abbrev wK(J:It)(n:Nat)(g:TG)(tc:TT)(te:TE)(σ:St)(Q:VK)(H1:Hp):Prop:=N7 J n g tc te σ (λD H=>Q (.ref D) H) H1
abbrev d8(wi:TI)(n:Nat)(g:TG)(tc:TT)(te:TE):TE:=λσ H Q=>wi σ H λJ H1=>wK J n g tc te σ Q H1
nonrec abbrev Kx(ifs:List Expr)(env:Env):Sem Bool:=forIn ifs true λc r=>if r=true then (do let ok <- isTrue c env (eval c env);pure (WB ok)) else pure (WB r)
abbrev NZ(X:Cx)(ifs:List Expr)(tc:TT):Prop:=∀(ξ:List (Addr×Obj)) (s:QP) (σ:St) (H:Hp) (Q:Bool->Hp->Prop),Inv X ξ σ H s->tc σ H Q->wpAny (model X.prog X.w) X.A (Kx ifs X.env) (λb s'=>∃H',Inv X ξ σ H' s'/\Q b H') X.xe s
nonrec abbrev KL:TT:=λ_ H Q=>Q true H
def IH{X:Cx}:NZ X [] KL:=λ_ _ _ H _ I h=>wpAny_tests_nil ⟨H,I,h⟩
def zx{X:Cx}(h:PT X c tc):NZ X [c] tc:=λξ s σ H Q I q=>wpAny_tests_one (h ξ s σ H Q I q)
def BH{R:ZQ->QP->Prop}{s:QP}{iter:Expr}{scope:Scope}{acc:QF}(I:Nat->QP->Prop)
  (turn:∀n s,I n s->wpAny (model prog w) A (pyNext it) (λr s1=>match r with
   |none=>R (.ok .next) s1
   |some v=>wpAny (model prog w) A (letOwnedTupleGo target it v) (λ_ s2=>wpAny (model prog w) A (assign target env v) (λ_ s3=>wpAny (model prog w) A (Kx ifs env) (λok s4 =>
     if ok=true then wpAny (model prog w) A (eval elt env) (λx s5=>wpAny (model prog w) A (call (.builtin "list.append") [acc,x]) (λ_ s6=>∃m,m<n/\I m s6) (λ_ _=>False) s5) (λ_ _=>False) s4
     else ∃m,m<n/\I m s4) (λ_ _=>False) s3) (λ_ _=>False) s2) (λ_ _=>False) s1) (λ_ _=>False) s) (n:Nat) (h:I n s) :
  codeAny (model prog w) A (.compLoop (.ListComp elt [⟨target,iter,ifs,0⟩] scope pos) 0 it acc env) R s:=by
 refine codeAny_loop rfl I (λk s1 hI=>?_) n h;have no:∀{α:Type} {t:Sem α} {P:α->QP->Prop} {E:QF->QP->Prop} {z:QP},wpAny (model prog w) A t P (λ_ _=>False) z->wpAny (model prog w) A t P E z:=λq=>SL q (λ_ _ z=>z) λ_ _ z=>z.elim
 show wpAny _ _ ((compTurn (.ListComp elt [⟨target,iter,ifs,0⟩] scope pos) 0 it acc env).onRaise _) _ _ s1;refine wpAny_noted ?_;rw[compTurn_list];refine QE (Xr (QE (no (SL (turn k s1 hI) (λr s2 h2=>?_) λ_ _ z=>z))));cases r with
 |none=>exact Q1 h2
 |some v =>
  refine QE (no (SL h2 (λ_ s3 h3=>?_) λ_ _ z=>z));refine QE (no (SL h3 (λ_ s4 h4=>?_) λ_ _ z=>z));refine QE (no (SL h4 (λok s5 h5=>?_) λ_ _ z=>z));cases ok with
  |true =>
   rw[if_pos rfl] at h5;refine QE (QE (no (SL h5 (λx s6 h6=>?_) λ_ _ z=>z)));exact QE (no (SL h6 (λ_ s7 h7=>Q1 (Q1 ⟨rfl,h7⟩)) λ_ _ z=>z))
  |false =>
   rw[if_neg Rj] at h5;exact Q1 ⟨rfl,h5⟩
def qy{iter:Expr}{E:QF->QP->Prop}{QQ:Addr->Hp->Prop}{RR:QF->Addr->ZQ->QP->Prop}(I:Inv X ξ σ H s)(c:jZ X ys M scope cl)(hc:X.calm=true)
  (hg:∀C s₀ H₀ fp ξ,PG (a8 X ys M scope cl C s₀ H₀ fp ξ) tg g) (ht:∀C s₀ H₀ fp ξ,NZ (a8 X ys M scope cl C s₀ H₀ fp ξ) ifs tc) (he:∀C s₀ H₀ fp ξ,PE (a8 X ys M scope cl C s₀ H₀ fp ξ) elt te) (T:qL X.prog X.w X.K tg J fp it tn) (st:tn 0 s.heap) (fk:∀b∈fp,iR X ξ H b)
  (h:N7 J ys.length g tc te σ QQ H)
  (fin:∀D C H' s',s.heap.objs.size<=C->s'.heap.get? C≠none->(∃m,s'.heap.Ns C m)->H' C=none->Inv X ξ σ H' s'->QQ D H'->RR (.ref D) C (.ok .next) s') :
  wpAny (model X.prog X.w) X.A (newList []) (λacc s₃=>wpAny (model X.prog X.w) X.A (newFunctionEnv scope X.env.globals cl [] X.env.qual none .none (some X.env)) (λcenv s₄ =>
   codeAny (model X.prog X.w) X.A (.compStart (.ListComp elt [⟨tg,iter,ifs,0⟩] scope pos) 0 (.ref it) acc {cenv with scope:=relabel scope X.env}) (RR acc cenv.locals) s₄) E s₃) E s:=by
 refine SG (wpAny_newFunctionEnv c.nocell (by intro y hy;simp at hy) (λh1 hns hsb=>?_) c.kind);dsimp only at hns hsb ⊢;have hf:H s.heap.objs.size=none:=I.hok.fresh (QH _)
 have I3:Inv X ξ σ (upd H s.heap.objs.size (.lst [])) {s with heap:=s.heap.push {cls:=.type "list",dict:=none,data:=.seq ([]:List QF).toArray}} :=
  I.laid (t':=s.toks) (λb u e=>QN _ e) (QH _) ⟨by decide,[],_,.nil,Rg _ rfl⟩
 have eD:∀b u,s.heap.get? b=some u->b≠s.heap.objs.size:=λb u e=>RE (Q_ e)
 have fk3:∀b∈fp,iR X ξ (upd H s.heap.objs.size (.lst [])) b/\∃o,(s.heap.push {cls:=.type "list",dict:=none,data:=.seq ([]:List QF).toArray}).get? b=some o:=λb hb=>by
  obtain⟨o,eo,_⟩:=T.obj 0 _ st b hb;obtain⟨f1,f2⟩:=fk b hb;exact⟨⟨by rw[aJ (eD b o eo)];exact f1,f2⟩,o,QN _ eo⟩
 have I4:=EU (tk:=s.toks+([]:List (Str×QF)).length) I3 c rfl hns hsb fk3;obtain⟨W,⟨m0,w0⟩,turn⟩:=h _ hf
 have st4:tn 0 h1:=T.keep 0 _ _ st λb hb o e=>by
  have e2:=QN {cls:=.type "list",dict:=none,data:=.seq ([]:List QF).toArray} e;exact hsb.extBut b o (RE (Q_ e2)) (QN _ e2)
 have stat:∀{H':Hp},(∀b∈fp,H' b=none)->∀b∈fp,iR (a8 X ys M scope cl (s.heap.push {cls:=.type "list",dict:=none,data:=.seq ([]:List QF).toArray}).objs.size {s with heap:=s.heap.push {cls:=.type "list",dict:=none,data:=.seq ([]:List QF).toArray}} (upd H s.heap.objs.size (.lst [])) fp ξ) [] H' b :=
  λhn b hb=>⟨hn b hb,(I4.ok.exf b hb).1,I4.ok.exfs b hb,.inl hb,(I4.ok.exf b hb).2,λp hp=>(fk3 b hb).1.2.2.2.2.2 p (by simpa[a8] using hp)⟩
 have loop:∀s4:QP,s4 = {s with heap:=h1,toks:=s.toks+([]:List (Str×QF)).length} ->
   codeAny (model X.prog X.w) X.A (.compLoop (.ListComp elt [⟨tg,iter,ifs,0⟩] scope pos) 0 (.ref it) (.ref s.heap.objs.size) (compEnvC scope cl (s.heap.push {cls:=.type "list",dict:=none,data:=.seq ([]:List QF).toArray}).objs.size X.env))
    (RR (.ref s.heap.objs.size) (s.heap.push {cls:=.type "list",dict:=none,data:=.seq ([]:List QF).toArray}).objs.size) s4:=by
  rintro s4 rfl
  refine BH (λn s'=>∃(i:Nat) (us:St) (H':Hp),us.length=ys.length/\Inv (a8 X ys M scope cl (s.heap.push {cls:=.type "list",dict:=none,data:=.seq ([]:List QF).toArray}).objs.size {s with heap:=s.heap.push {cls:=.type "list",dict:=none,data:=.seq ([]:List QF).toArray}} (upd H s.heap.objs.size (.lst [])) fp ξ) [] (us ++ σ) H' s'/\tn i s'.heap/\(∀b∈fp,H' b=none)/\W i n H')
   ?_ m0 ⟨0,_,_,Uh,I4,st4,λb hb=>(fk3 b hb).1.1,w0⟩
  rintro n s5 ⟨i,us,H5,lu,I5,st5,fr5,w5⟩;rcases turn i n H5 w5 with⟨stop,q⟩|⟨go,step⟩
  .refine bh (T.done (a8 X ys M scope cl _ _ _ _ _) rfl rfl rfl hc i [] s5 _ H5 _ I5 (stat fr5) st5 stop) λr s6 ω=>?_;obtain⟨er,I6⟩:=ω
   subst er;obtain⟨m,hn6,_⟩:=id I6.loc;obtain⟨o6,_,_,ho6,_⟩:=id hn6;exact fin _ _ H5 s6 (by rw[TN];exact Yt _) (λz=>by have z':=ho6.symm.trans z;cases z') ⟨m,hn6⟩ I6.free (wz I3 fk3 I6) q
  .refine bh (T.item (a8 X ys M scope cl _ _ _ _ _) rfl rfl rfl hc i [] s5 _ H5 _ I5 (stat fr5) st5 go) λr s6 ω=>?_;obtain⟨u,er,h6⟩:=ω
   subst er;refine bh h6 λ_ s7 ω=>?_;obtain⟨v',H7,I7,r7,y7,st7,fr7⟩:=ω
   have I7':=I7.pinned (stat fr7) (T.obj _ _ st7);refine SL (hg _ _ _ _ _ _ s7 _ H7 v' u _ I7' r7 (step v' H7 y7 us lu)) (λ_ s8 ω=>?_) λ_ _ z=>z.elim;obtain⟨σ8,H8,I8,⟨us',lu',e8⟩,q8⟩:=ω
   refine SL (ht _ _ _ _ _ _ s8 _ H8 _ I8 q8) (λok s9 ω=>?_) λ_ _ z=>z.elim;obtain⟨H9,I9,q9⟩:=ω
   subst e8;cases ok with
   |true =>
    rw[if_pos rfl] at q9 ⊢;refine SL (he _ _ _ _ _ _ s9 _ H9 _ I9 q9) (λy s10 ω=>?_) λ_ _ z=>z.elim;obtain⟨yv,H10,I10,ry,xs,hxs,hlen,m',hm,w10⟩:=ω
    refine SL (pZ (X:=a8 X ys M scope cl _ _ _ _ _) _ s10 _ H10 (.ref s.heap.objs.size) [yv] (.ref s.heap.objs.size) [y] (λ_ H11=>H11=upd H10 s.heap.objs.size (.lst (xs++[yv]))) I10 rfl (.cons ry .nil) ⟨_,xs,yv,rfl,rfl,hxs,hlen,rfl⟩) (λ_ s11 ω=>?_) λ_ _ z=>z.elim;obtain⟨z,H11,I11,rz,q11⟩:=ω
    subst q11;refine⟨m',hm,i+1,us',_,lu',I11.ga (ξ:=[]),T.keep _ _ _ st7 λb hb o e=>(I11.pin (b,o) (Q6 _ (Q6 _ (cH hb e)))).1,λb hb=>?_,w10⟩;obtain⟨o,e,_⟩:=T.obj _ _ st7 b hb;exact(I11.pin (b,o) (Q6 _ (Q6 _ (cH hb e)))).2.1
   |false =>
    rw[if_neg Rj] at q9 ⊢;obtain⟨m',hm,w9⟩:=q9;refine⟨m',hm,i+1,us',_,lu',I9.ga (ξ:=[]),T.keep _ _ _ st7 λb hb o e=>(I9.pin (b,o) (Q6 _ (Q6 _ (cH hb e)))).1,λb hb=>?_,w9⟩;obtain⟨o,e,_⟩:=T.obj _ _ st7 b hb;exact(I9.pin (b,o) (Q6 _ (Q6 _ (cH hb e)))).2.1
 exact codeAny_compStart_list (loop _ rfl) (T.self _ 0 _ _ _ st4 (loop _ rfl))
end
section
variable{X:Cx}{ys M:List Str}{x:Str}{scope:Scope}{cl:List (Str×Addr)}
def uA{iter:Expr}(c:jZ X ys M scope cl)(hc:X.calm=true)(hi:PI X tg iter wi)(hg:∀C s₀ H₀ fp ξ,PG (a8 X ys M scope cl C s₀ H₀ fp ξ) tg g)(ht:∀C s₀ H₀ fp ξ,NZ (a8 X ys M scope cl C s₀ H₀ fp ξ) ifs tc)(he:∀C s₀ H₀ fp ξ,PE (a8 X ys M scope cl C s₀ H₀ fp ξ) elt te)
  (hs:∀v,foldedSetIterable iter X.env v=pure v:=by intro _;rfl):PE X (.ListComp elt [⟨tg,iter,ifs,0⟩] scope pos) (d8 wi ys.length g tc te):=by
 intro ξ s σ H Q I h;rw[eval_ListComp];refine Xw (use:=none) rfl hs c.clos c.kind c.names (bh (hi ξ s σ H _ I h) λv s1 h1=>bh h1 λitv s2 h2=>?_);obtain⟨it,fp,tn,J,H2,rfl,I2,T,st2,fk2,h3⟩:=h2;refine qy (E:=X.xe) (QQ:=λD H'=>Q (.ref D) H') I2 c hc hg ht he T st2 fk2 h3 λD C H' s' hC hl ns fr I' q=>?_
 obtain⟨m,hn⟩:=ns;refine⟨m,hn,λh' hs'=>?_⟩;have sz:=I2.sz;exact⟨.ref D,H',I'.turned (t':=s'.toks) (λb o hb e=>(hs'.2 b hb).trans e) fr (I2.fpOk hC fr).2.1 (I2.fpOk hC fr).2.2.2.1 (I2.fpOk hC fr).2.2.2.2.1 (I2.fpOk hC fr).2.2.2.2.2,rfl,q⟩
def Ed{iter:Expr}{sp:Pos}{i:Nat}{y:Str}(hy:X.N[i]?=some y)(ly:X.env.scope.names.lookup y=some .local)(c:jZ X ys M scope cl)(hN:X.N.Nodup)(hc:X.calm=true)(hi:PI X tg iter wi)
  (hg:∀C s₀ H₀ fp ξ,PG (a8 X ys M scope cl C s₀ H₀ fp ξ) tg g) (ht:∀C s₀ H₀ fp ξ,NZ (a8 X ys M scope cl C s₀ H₀ fp ξ) ifs tc) (he:∀C s₀ H₀ fp ξ,PE (a8 X ys M scope cl C s₀ H₀ fp ξ) elt te)
  (hsw:swapsWith (.ListComp elt [⟨tg,iter,ifs,0⟩] scope pos) (some (.Name y py)) sp.line X.env=pure true:=by rfl) (hs:∀v,foldedSetIterable iter X.env v=pure v:=by intro _;rfl) :
  PS X (.Assign [.Name y py] (.ListComp elt [⟨tg,iter,ifs,0⟩] scope pos) sp) (aw (d8 wi ys.length g tc te) (al i)):=by
 intro ξ s σ H D I h;rw[exec_Assign_Name_used _ _ _ _ hsw];refine QE (Xr (QE ?_));show wpAny _ X.A (do let _ <- comprehension (.ListComp elt [⟨tg,iter,ifs,0⟩] scope pos) scope X.env _ (newList []) false (eval iter X.env) (some (assign (.Name y py) X.env))) _ _ s;refine QE (SL (Xw (use:=some (assign (.Name y py) X.env)) (Q:=λ_ s'=>SP X ξ D .next s') rfl hs c.clos c.kind c.names (bh (hi ξ s σ H _ I h) λv s1 h1=>bh h1 λitv s2 h2=>?_)) (λ_ s' hq=>Q1 (Q1 hq)) λ_ _ z=>z);obtain⟨it,fp,tn,J,H2,rfl,I2,T,st2,fk2,h3⟩:=h2;refine qy (E:=X.xe) (QQ:=λDa H'=>D.nx (σ.set i (⇑Da)) H') I2 c hc hg ht he T st2 fk2 h3 λDa C H' s' hC hl ns fr I' q=>?_
 obtain⟨m,hn⟩:=ns;refine wpAny_assign_Name (oP I' hN hy (.inl ly) (v:=.ref Da) rfl (λs3 I3 ω=>?_) (.inr ly));obtain⟨a,hsa,ha⟩:=ω
 have nC:C≠a:=by
  rcases ha with z|z
  .rw[z];exact(I2.fpOk hC fr).2.1
  .exact λw'=>(I2.fpOk hC fr).2.2.2.2.1 y a z w'.symm
 refine⟨m,hn.sameBut hsa nC,λh' hs'=>⟨_,H',I3.turned (t':=s3.toks) (λb o hb e=>(hs'.2 b hb).trans e) fr (I2.fpOk hC fr).2.1 (I2.fpOk hC fr).2.2.2.1 (I2.fpOk hC fr).2.2.2.2.1 (I2.fpOk hC fr).2.2.2.2.2,q⟩⟩
def uz{iter:Expr}(c:jZ X ys M scope cl)(hc:X.calm=true)(hi:PI X tg iter wi)(hg:∀C s₀ H₀ fp ξ,PG (a8 X ys M scope cl C s₀ H₀ fp ξ) tg g)(he:∀C s₀ H₀ fp ξ,PE (a8 X ys M scope cl C s₀ H₀ fp ξ) elt te)
  (hs:∀v,foldedSetIterable iter X.env v=pure v:=by intro _;rfl):PE X (.ListComp elt [⟨tg,iter,[],0⟩] scope pos) (gc wi ys.length g te):=uA (tc:=KL) c hc hi hg (λ_ _ _ _ _=>IH) he hs
def LX(c:jZ X [x] M scope cl)(C:Addr)(s₀:QP)(H₀:Hp)(fp:List Addr)(ξ:List (Addr×Obj)):PG (a8 X [x] M scope cl C s₀ H₀ fp ξ) (.Name x px) (al 0):=by
 have hx:(relabel scope X.env).names.lookup x=some .local:=lookup_relabel_local (c.own x (by simp));exact zP (X:=a8 X [x] M scope cl C s₀ H₀ fp ξ) (i:=0) c.nd rfl (.inl hx) (.inr hx)
end
abbrev DB(scope sc:Scope):List (Str×XI):=scope.names.map λ(n,k)=>if (k == .free && sc.kind == .function && sc.names.lookup n == some .cell) then (n,.cell) else (n,k)
abbrev gz(scope:Scope)(cells:List (Str×Addr)):List (Str×Addr):=((scope.names.filter λn=>n.2 == .free).map λn=>(n.1,(cells.lookup n.1).getD 0)).reverse
structure oC (sc:Scope) (N M ys:List Str) (scope:Scope):Prop where
 kind:scope.kind=.function
 nocell:∀y∈scope.names,y.2≠.cell
 names:∀y∈scope.names,y.2=.local->scope.names.lookup y.1=some .local
 own:∀y∈ys,scope.names.lookup y=some .local
 nd:(ys++M).Nodup
 len:M.length=N.length
 same:∀p∈M.zip N,p.1=p.2\/(DB scope sc).lookup p.1=none
 apart:∀y∈M,(DB scope sc).lookup y≠some .local
 free:∀n∈scope.names,n.2=.free->sc.names.lookup n.1=some .cell
def ig{g:Str->Addr}:∀{l:List (Str×Addr)} {y:Str},(∀n∈l,n.2=g n.1)->∀{c:Addr},l.lookup y=some c->c=g y/\∃n∈l,n.1=y
 |[],_,_,_,h=>by simp at h
 |(n,a) :: r,y,hg,c,h=>by
  by_cases e:y=n
  .subst e;rw[Ua,beq_self_eq_true] at h;have h':a=c:=Q7 h;exact⟨by rw[<- h'];exact hg (y,a) QK,_,QK,rfl⟩
  .have e':(y == n)=false:=beq_eq_false_iff_ne.mpr e;rw[Ua,e'] at h;obtain⟨h1,m,hm,h2⟩:=ig (λn hn=>hg n (QL _ hn)) h;exact⟨h1,m,QL _ hm,h2⟩
def sV{l:List (Str×Addr)}{y:Str}:(∃n∈l,n.1=y)->∃c,l.lookup y=some c:=by
 induction l with
 |nil=>rintro⟨n,hn,_⟩;cases hn
 |cons a r ih =>
  rintro⟨n,hn,e⟩;obtain⟨m,b⟩:=a;by_cases e':y=m
  .subst e';exact⟨b,by rw[Ua,beq_self_eq_true]⟩
  .have e2:(y == m)=false:=beq_eq_false_iff_ne.mpr e';rw[Ua,e2];refine ih ?_;rcases Q5.mp hn with z|z
   .rw[z] at e;exact absurd e.symm e'
   .exact⟨n,z,e⟩
def n9{n:Str×Addr}:n∈gz scope cells↔∃m∈scope.names,m.2=.free/\n=(m.1,(cells.lookup m.1).getD 0):=by
 unfold gz;rw[List.mem_reverse,QU];constructor
 .rintro⟨m,hm,rfl⟩;rw[Ri] at hm;exact⟨m,hm.1,beq_iff_eq.mp hm.2,rfl⟩
 .rintro⟨m,hm,hk,rfl⟩;exact⟨m,Ri.mpr ⟨hm,beq_iff_eq.mpr hk⟩,rfl⟩
def lv{env:Env}:∀(names:List (Str×XI)) (acc:List (Str×Addr)),(∀n∈names,n.2=.free->∃c,env.cells.lookup n.1=some c) ->
  (forIn names acc λx r=>do
   let (name,kind):=x
   if kind == .free then do
    let c <- cellOf env name
    pure (WB ((name,c) :: r))
   else pure (WB r):Sem (List (Str×Addr)))=pure (((names.filter λn=>n.2 == .free).map λn=>(n.1,(env.cells.lookup n.1).getD 0)).reverse++acc)
 |[],acc,_=>rfl
 |(n,k) :: r,acc,h=>by
  have ih:=λacc=>lv r acc λm hm=>h m (QL _ hm)
  rw[List.forIn_cons];by_cases hk:k=.free
  .subst hk;obtain⟨c,hc⟩:=h (n,.free) QK rfl;have e1:cellOf env n=pure c:=by unfold cellOf;rw[hc]
   simp only[beq_self_eq_true,if_true,e1,pure_bind,XN,RP,Zs,R_,VY];rw[hc];exact ih _
  .have hb:(k == Zay)=false:=beq_eq_false_iff_ne.mpr hk;simp only[hb,UV,if_false,pure_bind,XN];exact ih _
def oC.sc{X:Cx}(c:oC X.env.scope X.N M ys scope)(ok:X.Ok):jZ X ys M scope (gz scope X.env.cells):=by
 have hfc:∀n∈scope.names,n.2=.free->∃a,X.env.cells.lookup n.1=some a:=λn hn hk=>ok.has n.1 (.inl (c.free n hn hk))
 refine⟨c.kind,c.nocell,c.names,c.own,?_,c.nd,c.len,c.same,c.apart,λy a h=>?_,λy h=>?_⟩
 .have z:=lv (env:=X.env) scope.names [] hfc;rw[Tx] at z;exact(congrArg (λm:Sem (List (Str×Addr))=>m >>= λcs=>pure cs) z).trans rfl
 .obtain⟨h1,n,hn,e⟩:=ig (g:=λz=>(X.env.cells.lookup z).getD 0) (λn hn=>by obtain⟨m,_,_,rfl⟩:=n9.mp hn;rfl) h;obtain⟨m,hm,hk,e2⟩:=n9.mp hn;have ey:m.1=y:=by rw[<- e,e2]
  obtain⟨a',ha'⟩:=hfc m hm hk;rw[ey] at ha';refine⟨?_,.inl (by rw[<- ey];exact c.free m hm hk)⟩;rw[h1,ha'];rfl
 .have hm:∃m∈scope.names,m.1=y/\m.2=.free:=by
   have go:∀names:List (Str×XI),(∀z∈names,z.2≠.cell)->((names.map λ(n,k)=>if (k == .free && X.env.scope.kind == .function && X.env.kindOf n == some .cell) then (n,Xx) else (n,k)).lookup y=some .cell\/(names.map λ(n,k)=>if (k == .free && X.env.scope.kind == .function && X.env.kindOf n == some .cell) then (n,Xx) else (n,k)).lookup y=some .free)->∃m∈names,m.1=y/\m.2=.free:=by
    intro names
    induction names with
    |nil=>intro _ h;simp at h
    |cons a r ih =>
     intro nc h;obtain⟨n,k⟩:=a;by_cases e:y=n
     .subst e;refine⟨_,QK,rfl,?_⟩;have nk:k≠.cell:=nc (y,k) QK;by_cases hk:k=.free
      .exact hk
      .have hb:(k == Zay)=false:=beq_eq_false_iff_ne.mpr hk;simp only[RP,hb,Zak,UV,if_false,Ua,beq_self_eq_true] at h;rcases h with z|z
       .exact absurd (Q7 z) nk
       .exact absurd (Q7 z) hk
     .have e':(y == n)=false:=beq_eq_false_iff_ne.mpr e
      have h':(r.map λ(n,k)=>if (k == .free && X.env.scope.kind == .function && X.env.kindOf n == some .cell) then (n,Xx) else (n,k)).lookup y=some .cell\/(r.map λ(n,k)=>if (k == .free && X.env.scope.kind == .function && X.env.kindOf n == some .cell) then (n,Xx) else (n,k)).lookup y=some .free:=by
       by_cases hb:(k == .free && X.env.scope.kind == .function && X.env.kindOf n == some .cell)=true
       .simpa only[RP,hb,if_true,Ua,e'] using h
       .simpa only[RP,hb,UV,if_false,Ua,e'] using h
      obtain⟨m,hm,r1⟩:=ih (λz hz=>nc z (QL _ hz)) h';exact⟨m,QL _ hm,r1⟩
   exact go scope.names c.nocell h
  obtain⟨m,hm,e,hk⟩:=hm;exact sV ⟨_,n9.mpr ⟨m,hm,hk,rfl⟩,e⟩
section
variable{X:Cx}{x:Str}{ys M:List Str}{scope:Scope}
def LN{iter:Expr}(c:oC X.env.scope X.N M ys scope)(hc:X.calm=true)(hi:PI X tg iter wi)(hg:∀C s₀ H₀ fp ξ,PG (a8 X ys M scope (gz scope X.env.cells) C s₀ H₀ fp ξ) tg g)(he:∀C s₀ H₀ fp ξ,PE (a8 X ys M scope (gz scope X.env.cells) C s₀ H₀ fp ξ) elt te)
  (hs:∀v,foldedSetIterable iter X.env v=pure v:=by intro _;rfl):PE X (.ListComp elt [⟨tg,iter,[],0⟩] scope pos) (gc wi ys.length g te):=λξ s σ H Q I h=>uz (c.sc I.ok) hc hi hg he hs ξ s σ H Q I h
def LP{elt iter:Expr}{px pos:Pos}{wi:TI}{te:TE}(c:oC X.env.scope X.N M [x] scope)(hN:X.N.Nodup)(hc:X.calm=true)(hi:PI X (.Name x px) iter wi)(he:∀C s₀ H₀ fp ξ,PE (a8 X [x] M scope (gz scope X.env.cells) C s₀ H₀ fp ξ) elt te)
  (hs:∀v,foldedSetIterable iter X.env v=pure v:=by intro _;rfl):PE X (.ListComp elt [⟨.Name x px,iter,[],0⟩] scope pos) (fA wi te):=by
 intro ξ s σ H Q I h
 have hi':PI X (.Name x px) iter (λσ H R=>∃R',(∀J H1,R' J H1->R J H1)/\wi σ H R'):=by
  intro ξ s σ H R I ⟨R',hR,hw⟩;refine bh (hi ξ s σ H R' I hw) λv s1 h1=>bh h1 (by rintro itv s2 ⟨it,fp,tn,J,H',e,I',T,t0,fk,r⟩;exact ⟨it,fp,tn,J,H',e,I',T,t0,fk,hR J H' r⟩)
 exact uz (c.sc I.ok) hc hi' (λC s₀ H₀ fp ξ=>LX (c.sc I.ok) C s₀ H₀ fp ξ) he hs ξ s σ H Q I ⟨_,λJ H1 q=>Fd q,h⟩
end
abbrev Ka(D:Addr)(Pv:Hp->Prop):VK:=λy H2=>∃xs,H2 D=some (.lst xs)/\xs.length<sizeLine/\Pv (upd H2 D (.lst (xs++[y])))
section
variable{K:Fg}{te:TE}{σ:St}{Q:VK}{H:Hp}
abbrev oB(D:Addr)(n i:Nat)(Pv:Nat->Hp->Prop):VK:=λy H2=>∃xs,H2 D=some (.lst xs)/\xs.length<sizeLine/\∃m',m'<n-i/\m'=n-(i+1)/\i+1<=n/\Pv (i+1) (upd H2 D (.lst (xs++[y])))
abbrev On(te:TE)(σ:St)(v:V)(H:Hp)(D:Addr)(n i:Nat)(Pv:Nat->Hp->Prop):Prop:=te (some v :: σ) H (oB D n i Pv)
def a6{n i:Nat}{Pv:Nat->Hp->Prop}(hi:i<n)(h:Ka D (Pv (i+1)) y H2):oB D n i Pv y H2:=by
 obtain⟨xs,h1,h2,h3⟩:=h;exact⟨xs,h1,h2,n-(i+1),by lia,rfl,hi,h3⟩
def c_{lo:Int}{n:Nat}(h:∀D,H D=none->∃Pv:Nat->Hp->Prop,Pv 0 (upd H D (.lst []))/\(∀i H2,i<n->Pv i H2->On te σ (.int (lo+i)) H2 D n i Pv)/\∀H2,Pv n H2->Q (.ref D) H2):cS (oG lo n) te σ Q H:=by
 intro D nD;obtain⟨Pv,h0,hs,hd⟩:=h D nD;refine⟨λi m H=>m=n-i/\i<=n/\Pv i H,⟨n,by simp,RL _,h0⟩,?_⟩;rintro i m H ⟨rfl,hi,p⟩;by_cases Ad:i<n
 .refine .inr ⟨Ad,λv H' y=>?_⟩;obtain⟨e,y⟩:=y;subst e y;exact hs i _ Ad p
 .have e:i=n:=by lia
  subst e;exact .inl ⟨QH _,hd H p⟩
def df{xs:List V}(h:∀D,H D=none->∃Pv:Nat->Hp->Prop,Pv 0 (upd H D (.lst []))/\(∀i H2,i<=xs.length->Pv i H2->SqL K H2 a xs)/\(∀i x H2,xs[i]?=some x->Pv i H2->On te σ x H2 D xs.length i Pv)/\∀H2,Pv xs.length H2->Q (.ref D) H2):cS (vC K a) te σ Q H:=by
 intro D nD;obtain⟨Pv,h0,hl,hs,hd⟩:=h D nD;refine⟨λi m H=>m=xs.length-i/\i<=xs.length/\Pv i H,⟨xs.length,by simp,RL _,h0⟩,?_⟩;rintro i m H ⟨rfl,hi,p⟩;have q:=hl i H hi p;by_cases Ad:i<xs.length
 .refine .inr ⟨⟨xs,xs[i],q,by simp[Ad]⟩,λv H' y=>?_⟩;obtain⟨e,y⟩:=y;subst e;exact hs i v _ (y xs q) p
 .have e:i=xs.length:=by lia
  subst e;exact .inl ⟨⟨xs,q,QH _⟩,hd H p⟩
def vm{xs:List V}(h:∀D,H D=none->∃Pv:Nat->Hp->Prop,Pv 0 (upd H D (.lst []))/\(∀i H2,i<=xs.length->Pv i H2->SqT K H2 a xs)/\(∀i x H2,xs[i]?=some x->Pv i H2->On te σ x H2 D xs.length i Pv)/\∀H2,Pv xs.length H2->Q (.ref D) H2):cS (wJ K a) te σ Q H:=by
 intro D nD;obtain⟨Pv,h0,hl,hs,hd⟩:=h D nD;refine⟨λi m H=>m=xs.length-i/\i<=xs.length/\Pv i H,⟨xs.length,by simp,RL _,h0⟩,?_⟩;rintro i m H ⟨rfl,hi,p⟩;have q:=hl i H hi p;by_cases Ad:i<xs.length
 .refine .inr ⟨⟨xs,xs[i],q,by simp[Ad]⟩,λv H' y=>?_⟩;obtain⟨e,y⟩:=y;subst e;exact hs i v _ (y xs q) p
 .have e:i=xs.length:=by lia
  subst e;exact .inl ⟨⟨xs,q,QH _⟩,hd H p⟩
end
open PySem.W (Dat kqdOk)
section
variable{K:Fg}{σ:St}{H:Hp}{Q:VK}{D:cq}{ta tb tc te:TE}{t u:TS}{c:TT}{QB:Bool->Hp->Prop}{QA:List V->Hp->Prop}{QS:St->Hp->Prop}
def O0(h:t {D with nx:=u D} σ H):am t u D σ H:=h
def MQ(h:D.nx σ H):aV D σ H:=h
def JH(h:te σ H λ_ H1=>D.nx σ H1):bz te D σ H:=h
def O1(h:te σ H D.rt):aG te D σ H:=h
def Pk(h:c σ H λb H1=>if b=true then t D σ H1 else u D σ H1):aS c t u D σ H:=h
def JM{g:TG}(h:te σ H λx H1=>g x σ H1 D.nx):aw te g D σ H:=h
def sZ{v:V}(h:QS (σ.set i (some v)) H):al i v σ H QS:=h
def wu{i:Nat}{v:V}(e:σ[i]?=some (some v))(h:Q v H):aa i σ H Q:=⟨v,e,h⟩
def Qj(h:Q v H):tC v σ H Q:=h
def O_{r:R2}(h:ta σ H λx H1=>tb σ H1 λy H2=>r x y H2 Q):ar r ta tb σ H Q:=h
def OW{r:V->Hp->VK->Prop}(h:ta σ H λx H1=>r x H1 Q):Hs r ta σ H Q:=h
def MJ{g:Int->V}(h:Q (g i) H):rU g (.int i) H Q:=⟨i,rfl,h⟩
def O3{g:Int->Int->V}(h:Q (g i j) H):v_ g (.int i) (.int j) H Q:=⟨i,j,rfl,rfl,h⟩
def cK{C:Int->Int->Prop}{g:Int->Int->V}(hc:C i j)(h:Q (g i j) H):rI C g (.int i) (.int j) H Q:=⟨i,j,rfl,rfl,hc,h⟩
def Po{i j:Int}(h:Q (.bl (decide (i=j))) H):fV (.int i) (.int j) H Q:=⟨rfl,by
 have e:decide (V.int i=V.int j)=decide (i=j):=by
  by_cases z:i=j
  .subst z;simp
  .simp[z]
 rw[e];exact h⟩
def Pa{i j:Int}(h:Q (.bl (!decide (i=j))) H):wL (.int i) (.int j) H Q:=⟨rfl,by
 have e:decide (V.int i=V.int j)=decide (i=j):=by
  by_cases z:i=j
  .subst z;simp
  .simp[z]
 rw[e];exact h⟩
def Pc{i j:Bool}(h:Q (.bl (!decide (i=j))) H):wL (.bl i) (.bl j) H Q:=⟨rfl,by
 have e:decide (V.bl i=V.bl j)=decide (i=j):=by
  by_cases z:i=j
  .subst z;simp
  .simp[z]
 rw[e];exact h⟩
def Ph{x:V}(h:Q (.bl (decide (x=.non))) H):pE x .non H Q:=⟨rfl,h⟩
def MO{x:V}(h:Q (.bl (!decide (x=.non))) H):Lg x .non H Q:=⟨rfl,h⟩
def MB(h:te σ H λx H'=>∃k,x=.bl k/\QB k H'):aR te σ H QB:=h
def OY(h:te σ H λx H'=>∃k,x=.bl k/\QB k H'):tB te σ H QB:=h
def Px{P:Bool->Prop}(h:P b):∃k,V.bl b=.bl k/\P k:=⟨b,rfl,h⟩
def MP(h:c σ H λb H1=>QB (!b) H1):gb c σ H QB:=h
def Py{c':TT}(h:c σ H λb H1=>if b=true then c' σ H1 QB else QB false H1):mB c c' σ H QB:=h
def O9{c':TT}(h:c σ H λb H1=>if b=true then QB true H1 else c' σ H1 QB):Cj c c' σ H QB:=h
def M2(h:ta σ H λx H1=>∃k,x=.bl k/\if k=true then tb σ H1 Q else Q (.bl false) H1):gf ta tb σ H Q:=h
def O8(h:ta σ H λx H1=>∃k,x=.bl k/\if k=true then Q (.bl true) H1 else tb σ H1 Q):Ht ta tb σ H Q:=h
def MN(h:ta σ H λx H1=>∃k,x=.bl k/\Q (.bl (!k)) H1):yl ta σ H Q:=h
def Pl(h:c σ H λb H1=>if b=true then ta σ H1 Q else tb σ H1 Q):KH c ta tb σ H Q:=h
def JL{r r':R2}(h:ta σ H λx H1=>tb σ H1 λy H2=>r x y H2 λz H3=>∃k,z=.bl k/\(if k=true then tc σ H3 λw' H4=>r' y w' H4 Q else Q (.bl false) H3)):ua r r' ta tb tc σ H Q:=h
def EO(h:QA [] H):ag σ H QA:=h
def MY{tr:TA}(h:ta σ H λx H1=>tr σ H1 λxs H2=>QA (x :: xs) H2):ae ta tr σ H QA:=h
def M0{sp:Sp}{dY:List V}{ts:TA}(h:ts σ H λvs H1=>sp (vs++dY) H1 Q E):aD sp dY E ts σ H Q:=h
def Ps{r:List V->Hp->VK->Prop}{ts:TA}(h:ts σ H λvs H1=>r vs H1 Q):bo r ts σ H Q:=h
def OX{ts:TA}(h:ts σ H λxs H1=>xs.length<=sizeLine/\∀p,H1 p=none->Q (.ref p) (upd H1 p (.tup xs))):bq ts σ H Q:=h
def Pe{ts:TA}(h:ts σ H λxs H1=>xs.length<=sizeLine/\∀p,H1 p=none->Q (.ref p) (upd H1 p (.lst xs))):bR ts σ H Q:=h
def OZ{r:V->Option Int->Option Int->Hp->VK->Prop}{tl th:TO}(h:te σ H λx H1=>tl σ H1 λl H2=>th σ H2 λu H3=>r x l u H3 Q):Kl r te tl th σ H Q:=h
def EN{QO:Option Int->Hp->Prop}(h:QO none H):mz σ H QO:=h
def ML{QO:Option Int->Hp->Prop}(h:te σ H λx H1=>∃i,x=.int i/\QO (some i) H1):oO te σ H QO:=h
def Pi{P:Int->Prop}(h:P i):∃j,V.int i=.int j/\P j:=⟨i,rfl,h⟩
def bb[Decidable p]{A B:Prop}(h1:p->A)(h2 : ¬ p->B):if decide p=true then A else B:=M8 h1 h2
def eN[Decidable p]{A B:Prop}(h1 : ¬ p->A)(h2:p->B):if (!decide p)=true then A else B:=by
 by_cases h:p
 .rw[decide_eq_true h];exact AQ (h2 h)
 .rw[decide_eq_false h];exact wy (h1 h)
def JE{A B:Prop}(h:A):if (!false)=true then A else B:=wy h
def JD{A B:Prop}(h:B):if (!true)=true then A else B:=AQ h
abbrev wP(J:It)(g:TG)(tb:TS)(D:cq)(σ:St)(H1:Hp):Prop:=∃W:Nat->Nat->St->Hp->Prop,(∃m,W 0 m σ H1)/\∀i m σ H,W i m σ H ->
 (J.stop i H/\D.nx σ H)\/(J.go i H/\∃N:St->Hp->Prop,(∀σ' H',N σ' H'->∃m',m'<m/\W (i+1) m' σ' H')/\∀x H',J.yld i H x H'->g x σ H' λσ2 H2=>tb {D with nx:=N,ct:=N,bk:=D.nx} σ2 H2)
def Pm{wi:TI}{tb:TS}(h:wi σ H λJ H1=>wP J g tb D σ H1):aW wi g tb D σ H:=h
def MZ{wi:TI}(h:wi σ H λJ H1=>cS J te σ Q H1):fA wi te σ H Q:=h
def MG{ts:TA}{R:It->Hp->Prop}(h:ts σ H λvs H1=>∃j:Int,vs=[.int j]/\-(2 ^ 62)<=j/\j<2 ^ 62/\R (oG 0 j.toNat) H1):ck ts σ H R:=h
def O4{tb:TS}{j:Int}(h0 : -(2 ^ 62)<=j/\j<2 ^ 62)(h:wP (oG 0 j.toNat) g tb D σ H):∃i:Int,[V.int j]=[.int i]/\-(2 ^ 62)<=i/\i<2 ^ 62/\wP (oG 0 i.toNat) g tb D σ H:=⟨j,rfl,h0.1,h0.2,h⟩
def O5{j:Int}(h0 : -(2 ^ 62)<=j/\j<2 ^ 62)(h:cS (oG 0 j.toNat) te σ Q H):∃i:Int,[V.int j]=[.int i]/\-(2 ^ 62)<=i/\i<2 ^ 62/\cS (oG 0 i.toNat) te σ Q H:=⟨j,rfl,h0.1,h0.2,h⟩
def JF{R:It->Hp->Prop}(h:te σ H λx H1=>∃a,x=.ref a/\(∃xs,SqL K H1 a xs)/\R (vC K a) H1):ce K te σ H R:=h
def MS{R:It->Hp->Prop}(h:te σ H λx H1=>∃a,x=.ref a/\(∃xs,SqT K H1 a xs)/\R (wJ K a) H1):qk K te σ H R:=h
def f7{tb:TS}(e:SqL K H a xs)(h:wP (vC K a) g tb D σ H):∃b,V.ref a=.ref b/\(∃xs,SqL K H b xs)/\wP (vC K b) g tb D σ H:=⟨a,rfl,⟨xs,e⟩,h⟩
def sX(e:SqL K H a xs)(h:cS (vC K a) te σ Q H):∃b,V.ref a=.ref b/\(∃xs,SqL K H b xs)/\cS (vC K b) te σ Q H:=⟨a,rfl,⟨xs,e⟩,h⟩
def MC{tb:TS}(e:SqT K H a xs)(h:wP (wJ K a) g tb D σ H):∃b,V.ref a=.ref b/\(∃xs,SqT K H b xs)/\wP (wJ K b) g tb D σ H:=⟨a,rfl,⟨xs,e⟩,h⟩
def MD(e:SqT K H a xs)(h:cS (wJ K a) te σ Q H):∃b,V.ref a=.ref b/\(∃xs,SqT K H b xs)/\cS (wJ K b) te σ Q H:=⟨a,rfl,⟨xs,e⟩,h⟩
def aT{lo:Int}{n:Nat}{g:TG}{tb:TS}(Pv:Nat->St->Hp->Prop)(h0:Pv 0 σ H)
  (hs:∀i σ H,i<n->Pv i σ H->g (.int (lo+i)) σ H λσ2 H2=>tb {D with nx:=Pv (i+1),ct:=Pv (i+1),bk:=D.nx} σ2 H2) (hd:∀σ H,Pv n σ H->D.nx σ H):wP (oG lo n) g tb D σ H:=Bm Pv h0 hs hd
def a_{xs:List V}{g:TG}{tb:TS}(Pv:Nat->St->Hp->Prop)(h0:Pv 0 σ H)(hl:∀i σ H,i<=xs.length->Pv i σ H->SqL K H a xs)
  (hs:∀i x σ H,xs[i]?=some x->Pv i σ H->g x σ H λσ2 H2=>tb {D with nx:=Pv (i+1),ct:=Pv (i+1),bk:=D.nx} σ2 H2) (hd:∀σ H,Pv xs.length σ H->D.nx σ H):wP (vC K a) g tb D σ H:=E7 Pv h0 hl hs hd
def tq{xs:List V}{g:TG}{tb:TS}(Pv:Nat->St->Hp->Prop)(h0:Pv 0 σ H)(hl:∀i σ H,i<=xs.length->Pv i σ H->SqT K H a xs)
  (hs:∀i x σ H,xs[i]?=some x->Pv i σ H->g x σ H λσ2 H2=>tb {D with nx:=Pv (i+1),ct:=Pv (i+1),bk:=D.nx} σ2 H2) (hd:∀σ H,Pv xs.length σ H->D.nx σ H):wP (wJ K a) g tb D σ H:=JT Pv h0 hl hs hd
def Pq{v:V}{D:Addr}(h:te (some v :: σ) H (oB D n i Pv)):On te σ v H D n i Pv:=h
def bP{n:Nat}{ts:Fu}(e:SqT K H a xs)(l:xs.length=n)(h:ts xs σ H QS):cx K n ts (.ref a) σ H QS:=⟨a,xs,rfl,e,l,h⟩
def JG{tg:TG}{ts:Fu}(h:tg v σ H λσ' H'=>ts r σ' H' QS):aX tg ts (v :: r) σ H QS:=⟨v,r,rfl,h⟩
def MT(h:QS σ H):cy [] σ H QS:=⟨rfl,h⟩
def b7(e:SqL K H p xs)(h:Q (.int xs.length) H):bW K [.ref p] H Q:=⟨p,xs,rfl,.inl e,h⟩
def ik(e:SqT K H p xs)(h:Q (.int xs.length) H):bW K [.ref p] H Q:=⟨p,xs,rfl,.inr e,h⟩
def bU{v:V}(e:SqL K H p xs)(a:om xs i=some v)(h:Q v H):bJ K (.ref p) (.int i) H Q:=⟨p,xs,i,v,rfl,rfl,e,a,h⟩
def aF{v:V}(e:SqT K H p xs)(a:om xs i=some v)(h:Q v H):aE K (.ref p) (.int i) H Q:=⟨p,xs,i,v,rfl,rfl,e,a,h⟩
def Pf{z:Str}{c:Nat}(e:z.length<=sizeLine)(a:om z.cps.toList i=some c)(h:Q (.str ⟨#[c]⟩) H):D9 (.str z) (.int i) H Q:=⟨z,i,c,rfl,rfl,e,a,h⟩
def eM(e:SqL K H p xs)(h:∀l,H l=none->Q (.ref l) (upd H l (.tup xs))):cC K [.ref p] H Q:=⟨p,xs,rfl,.inl ⟨e,h⟩⟩
def MA(e:SqT K H p xs)(h:Q (.ref p) H):cC K [.ref p] H Q:=⟨p,xs,rfl,.inr ⟨e,h⟩⟩
def jM(e:SqL K H p xs)(h:∀l,H l=none->Q (.ref l) (upd H l (.lst xs))):dm K [.ref p] H Q:=⟨p,xs,rfl,.inl e,h⟩
def AJ(e:SqT K H p xs)(h:∀l,H l=none->Q (.ref l) (upd H l (.lst xs))):dm K [.ref p] H Q:=⟨p,xs,rfl,.inr e,h⟩
def Pu{T:String}{r:V->List V->Hp->VK->Prop}{to:TE}{ts:TA}(h:to σ H λx H1=>FE K T x H1/\ts σ H1 λxs H2=>r x xs H2 Q):cZ K T r to ts σ H Q:=h
def Pt{T:String}{r:V->List V->Hp->VK->Prop}{to:TE}(h:to σ H λx H1=>FE K T x H1/\r x [] H1 Q):Hv K T r to σ H Q:=h
def wv(e:H p=some (.lst xs)):FE K "list" (.ref p) H:=.inl ⟨rfl,xs,SqL.of e⟩
def ES{y:V}(e:H l=some (.lst xs))(n:xs.length<sizeLine)(h:Q .non (upd H l (.lst (xs++[y])))):aO (.ref l) [y] H Q:=⟨l,xs,y,rfl,rfl,e,n,h⟩
def MR{b:Bool}(h:Q (.int (if b then 1 else 0)) H):IE [.bl b] H Q:=.inr ⟨b,rfl,h⟩
def ww{b:Bool}(e:TyOf K H x ty)(k:SC K ty (.type n)=some b)(h:Q (.bl b) H):dq K [x,.ty n] H Q:=⟨x,n,ty,b,rfl,e,k,h⟩
def Gj{i j:Str}(n:i.length+j.length<=sizeLine)(h:Q (.str (i++j)) H):IG (.str i) (.str j) H Q:=⟨i,j,rfl,rfl,n,h⟩
end
mutual
inductive Rp (K:Fg) (S:Addr->Prop) (H:Hp):V->Dat->Prop
 |non:Rp K S H .non .none
 |bl (b:Bool):Rp K S H (.bl b) (.bool b)
 |int (i:Int):Rp K S H (.int i) (.int i)
 |str (x:Str):Rp K S H (.str x) (.str x)
 |tup {a:Addr} {xs:List V} {ds:List Dat}:H a=some (.tup xs)->RpL K S H xs ds->Rp K S H (.ref a) (.tuple ds)
 |lst {a:Addr} {xs:List V} {ds:List Dat}:S a->H a=some (.lst xs)->RpL K S H xs ds->Rp K S H (.ref a) (.list ds)
inductive RpL (K:Fg) (S:Addr->Prop) (H:Hp):List V->List Dat->Prop
 |nil:RpL K S H [] []
 |cons {v:V} {d:Dat} {vs:List V} {ds:List Dat}:Rp K S H v d->RpL K S H vs ds->RpL K S H (v :: vs) (d :: ds)
end
structure Agr (S:Addr->Prop) (H H':Hp):Prop where
 tup:∀a xs,H a=some (.tup xs)->H' a=some (.tup xs)
 lst:∀a xs,S a->H a=some (.lst xs)->H' a=some (.lst xs)
section
variable{K:Fg}{S S':Addr->Prop}{H H':Hp}
def Agr.of_same(e:Same H H'):Agr S H H':=⟨λa xs h=>e _ _ h,λa xs _ h=>e _ _ h⟩
def Agr.eJ(hl:H l=some (.lst ys))(ns : ¬ S l):Agr S H (upd H l o):=by
 refine⟨λa xs h=>?_,λa xs s h=>?_⟩
 .have ne:a≠l:=by
   rintro rfl;rw[hl] at h;cases h
  rw[aJ ne];exact h
 .have ne:a≠l:=by
   rintro rfl;exact ns s
  rw[aJ ne];exact h
mutual
def Rp.agr(e:Agr S H H'):∀{v:V} {d:Dat},Rp K S H v d->Rp K S H' v d
 |_,_,.non=>.non
 |_,_,.bl b=>.bl b
 |_,_,.int i=>.int i
 |_,_,.str x=>.str x
 |_,_,.tup h r=>.tup (e.tup _ _ h) (RpL.agr e r)
 |_,_,.lst s h r=>.lst s (e.lst _ _ s h) (RpL.agr e r)
def RpL.agr(e:Agr S H H'):∀{vs:List V} {ds:List Dat},RpL K S H vs ds->RpL K S H' vs ds
 |_,_,.nil=>.nil
 |_,_,.cons h r=>.cons (Rp.agr e h) (RpL.agr e r)
end
mutual
def Rp.mono(e:∀a,S a->S' a):∀{v:V} {d:Dat},Rp K S H v d->Rp K S' H v d
 |_,_,.non=>.non
 |_,_,.bl b=>.bl b
 |_,_,.int i=>.int i
 |_,_,.str x=>.str x
 |_,_,.tup h r=>.tup h (RpL.mono e r)
 |_,_,.lst s h r=>.lst (e _ s) h (RpL.mono e r)
def RpL.mono(e:∀a,S a->S' a):∀{vs:List V} {ds:List Dat},RpL K S H vs ds->RpL K S' H vs ds
 |_,_,.nil=>.nil
 |_,_,.cons h r=>.cons (Rp.mono e h) (RpL.mono e r)
end
mutual
def Rp.rep:∀{v:V} {d:Dat},Rp K S H v d->Rep K H v d
 |_,_,.non=>.non
 |_,_,.bl b=>.bl b
 |_,_,.int i=>.int i
 |_,_,.str x=>.str x
 |_,_,.tup h r=>.tup (SqT.of h) (RpL.rep r)
 |_,_,.lst _ h r=>.lst (SqL.of h) (RpL.rep r)
def RpL.rep:∀{vs:List V} {ds:List Dat},RpL K S H vs ds->RepL K H vs ds
 |_,_,.nil=>.nil
 |_,_,.cons h r=>.cons (Rp.rep h) (RpL.rep r)
end
def Rp.same(e:Same H H')(h:Rp K S H v d):Rp K S H' v d:=h.agr (Agr.of_same e)
def RpL.same(e:Same H H'){vs:List V}(h:RpL K S H vs ds):RpL K S H' vs ds:=h.agr (Agr.of_same e)
def RpL.length:∀{vs:List V} {ds:List Dat},RpL K S H vs ds->vs.length=ds.length
 |_,_,.nil=>rfl
 |_,_,.cons _ r=>congrArg (· + 1) (RpL.length r)
def RpL.get:∀{vs:List V} {ds:List Dat} {i:Nat} {v:V},RpL K S H vs ds->vs[i]?=some v->∃d,ds[i]?=some d/\Rp K S H v d
 |_,_,_,_,.nil,e=>by simp at e
 |_,_,0,_,.cons h _,e=>by simp at e;subst e;exact⟨_,rfl,h⟩
 |_,_,i+1,v,.cons _ r,e=>by
  obtain⟨d,h1,h2⟩:=RpL.get (i:=i) (v:=v) r (by simpa using e);exact⟨d,by simpa using h1,h2⟩
def RpL.get':∀{vs:List V} {ds:List Dat} {i:Nat} {d:Dat},RpL K S H vs ds->ds[i]?=some d->∃v,vs[i]?=some v/\Rp K S H v d
 |_,_,_,_,.nil,e=>by simp at e
 |_,_,0,_,.cons h _,e=>by simp at e;subst e;exact⟨_,rfl,h⟩
 |_,_,i+1,v,.cons _ r,e=>by
  obtain⟨d,h1,h2⟩:=RpL.get' (i:=i) (d:=v) r (by simpa using e);exact⟨d,by simpa using h1,h2⟩
def RpL.append:∀{vs ws:List V} {ds es:List Dat},RpL K S H vs ds->RpL K S H ws es->RpL K S H (vs++ws) (ds++es)
 |_,_,_,_,.nil,s=>s
 |_,_,_,_,.cons h r,s=>.cons h (RpL.append r s)
def RpL.ints:∀ns:List Int,RpL K S H (ns.map V.int) (ns.map Rn)
 |[]=>.nil
 |n :: ns=>.cons (.int n) (RpL.ints ns)
def RpL.strs:∀ns:List Str,RpL K S H (ns.map V.str) (ns.map X5)
 |[]=>.nil
 |n :: ns=>.cons (.str n) (RpL.strs ns)
def RpL.ints_of:∀{vs:List V} {ns:List Int},RpL K S H vs (ns.map Rn)->vs=ns.map V.int
 |_,[],.nil=>rfl
 |_,n :: ns,.cons h r=>by cases h;rw[RpL.ints_of r];rfl
def RpL.yp:∀{vs:List V} {ns:List Str},RpL K S H vs (ns.map X5)->vs=ns.map V.str
 |_,[],.nil=>rfl
 |_,n :: ns,.cons h r=>by cases h;rw[RpL.yp r];rfl
def Rp.Kw(h:Rp K S H v (.tuple ds)):∃a xs,v=.ref a/\SqT K H a xs/\RpL K S H xs ds:=by
 cases h with
 |tup h r=>exact⟨_,_,rfl,SqT.of h,r⟩
def Rp.b5(h:Rp K S H v (.tuple ds)):∃a xs,v=.ref a/\H a=some (.tup xs)/\RpL K S H xs ds:=by
 cases h with
 |tup h r=>exact⟨_,_,rfl,h,r⟩
def Rp.kU(h:Rp K S H v (.list ds)):∃a xs,v=.ref a/\S a/\H a=some (.lst xs)/\RpL K S H xs ds:=by
 cases h with
 |lst s h r=>exact⟨_,_,rfl,s,h,r⟩
end
abbrev F0:Addr->Prop:=λ_=>False
nonrec abbrev Rz(K:Fg)(H:Hp):V->Dat->Prop:=Rp K F0 H
nonrec abbrev RzL(K:Fg)(H:Hp):List V->List Dat->Prop:=RpL K F0 H
section
variable{K:Fg}{S:Addr->Prop}{H H':Hp}
def RpL.z{vs:List V}(h:RzL K H vs ds):RpL K S H vs ds:=h.mono λ_ z=>z.elim
def Rz.upd(h:Rz K H v d)(hl:H l=some (.lst ys)):Rz K (L2.upd H l o) v d:=h.agr (Agr.eJ hl λz=>z)
def RzL.upd(h:RzL K H v d)(hl:H l=some (.lst ys)):RzL K (L2.upd H l o) v d:=h.agr (Agr.eJ hl λz=>z)
end
structure Acc (K:Fg) (H0:Hp) (l:Addr) (H:Hp) (ds:List Dat):Prop where
 same:Same H0 H
 new:H0 l=none
 at_:∃xs,H l=some (.lst xs)/\RpL K (λa=>H0 a=none/\a≠l) H xs ds
section
variable{K:Fg}{H0 H H':Hp}{l:Addr}{ds:List Dat}
def Acc.start(n:H0 l=none):Acc K H0 l (upd H0 l (.lst [])) []:=⟨ak n _,n,[],aj,.nil⟩
def Acc.on(A:Acc K H0 l H ds)(e:Same H H'):Acc K H0 l H' ds:=by
 obtain⟨xs,h1,h2⟩:=A.at_;exact⟨A.same.trans e,A.new,xs,e _ _ h1,h2.same e⟩
def Acc.ref(A:Acc K H0 l H ds):Rp K (λa=>H0 a=none) H (.ref l) (.list ds):=by
 obtain⟨xs,h1,h2⟩:=A.at_;exact .lst A.new h1 (h2.mono λ_ z=>z.1)
def Acc.push(A:Acc K H0 l H ds)(r:Rp K S H y d)(hS:∀a,S a->H0 a=none/\a≠l):∃xs,H l=some (.lst xs)/\xs.length=ds.length/\Acc K H0 l (upd H l (.lst (xs++[y]))) (ds++[d]):=by
 obtain⟨xs,h1,h2⟩:=A.at_;refine⟨xs,h1,h2.length,⟨λb o q=>?_,A.new,xs++[y],aj,?_⟩⟩
 .rw[aJ (ay q A.new)];exact A.same b o q
 .exact(h2.append (.cons (r.mono hS) .nil)).agr (Agr.eJ h1 λz=>z.2 rfl)
def Acc.OB(A:Acc K H0 l H ds)(e:Same H H')(r:Rp K (λa=>H a=none) H' y d):∃xs,H' l=some (.lst xs)/\xs.length=ds.length/\Acc K H0 l (upd H' l (.lst (xs++[y]))) (ds++[d]) :=
 (A.on e).push r λa z=>⟨A.same.free z,λq=>by obtain⟨xs,h1,_⟩:=A.at_;rw[q,h1] at z;cases z⟩
def Acc.cA(A:Acc K H0 l H ds)(e:Same H H')(r:Rp K (λa=>H a=none) H' y d)(n:ds.length<sizeLine){Pv:Hp->Prop}(h:∀H2,Acc K H0 l H2 (ds++[d])->Pv H2):Ka l Pv y H':=by
 obtain⟨xs,h1,h2,h3⟩:=A.OB e r;exact⟨xs,h1,by rw[h2];exact n,h _ h3⟩
end
def Acc.ty{K:Fg}    (A:Acc K H0 l H ds):FE K "list" (.ref l) H:=by
 obtain⟨xs,h1,_⟩:=A.at_;exact wv h1
structure AccZ (K:Fg) (H0:Hp) (l:Addr) (H:Hp) (ds:List Dat):Prop where
 same:Same H0 H
 new:H0 l=none
 at_:∃xs,H l=some (.lst xs)/\RzL K H xs ds
section
variable{K:Fg}{H0 H H':Hp}{l m:Addr}{ds:List Dat}
def AccZ.start(e:Same H0 H)(n:H l=none):AccZ K H0 l (upd H l (.lst [])) []:=⟨e.trans (ak n _),e.free n,[],aj,.nil⟩
def AccZ.on(A:AccZ K H0 l H ds)(e:Same H H'):AccZ K H0 l H' ds:=by
 obtain⟨xs,h1,h2⟩:=A.at_;exact⟨A.same.trans e,A.new,xs,e _ _ h1,h2.same e⟩
def AccZ.ref(A:AccZ K H0 l H ds):Rp K (λa=>H0 a=none) H (.ref l) (.list ds):=by
 obtain⟨xs,h1,h2⟩:=A.at_;exact .lst A.new h1 h2.z
def AccZ.rep(A:AccZ K H0 l H ds):Rep K H (.ref l) (.list ds):=A.ref.rep
def AccZ.ty(A:AccZ K H0 l H ds):FE K "list" (.ref l) H:=by
 obtain⟨xs,h1,_⟩:=A.at_;exact wv h1
def AccZ.sq(A:AccZ K H0 l H ds):∃xs,SqL K H l xs/\xs.length=ds.length/\RzL K H xs ds:=by
 obtain⟨xs,h1,h2⟩:=A.at_;exact⟨xs,SqL.of h1,h2.length,h2⟩
def AccZ.aj(A:AccZ K H0 l H ds):Same H0 (L2.upd H l o):=λb u q=>by
 rw[L2.aJ (ay q A.new)];exact A.same b u q
def AccZ.other(A:AccZ K H0 l H ds)(ne:l≠m)(n:H0 m=none)(h:H m=some (.lst ys)):AccZ K H0 l (upd H m o) ds:=by
 obtain⟨xs,h1,h2⟩:=A.at_;refine⟨λb u q=>?_,A.new,xs,by rw[aJ ne];exact h1,h2.upd h⟩;rw[aJ (ay q n)];exact A.same b u q
end
def bV{K:Fg}{Q:VK}(A:AccZ K H0 l H ds)(r:Rz K H y d)(n:ds.length<sizeLine)
  (h:∀H2,AccZ K H0 l H2 (ds++[d])->(∀{v:V} {e:Dat},Rz K H v e->Rz K H2 v e)->(∀b,b≠l->H2 b=H b)->(∀{m:Addr} {es:List Dat},m≠l->AccZ K H0 m H es->AccZ K H0 m H2 es)->Q .non H2):aO (.ref l) [y] H Q:=by
 obtain⟨xs,h1,h2⟩:=A.at_;refine⟨l,xs,y,rfl,rfl,h1,by rw[h2.length];exact n,h _ ⟨A.aj,A.new,xs++[y],aj,?_⟩ (λq=>Rz.upd q h1) (λb nb=>aJ nb) λne B=>B.other ne A.new h1⟩;exact RzL.upd (h2.append (.cons r .nil)) h1
section
variable{K:Fg}{H:Hp}{Q:VK}{x y:V}{d e:Dat}{ds:List Dat}
open Classical in
def iZ(hd:Rep K H x d)(he:Rep K H y (.list ds))(ka:∀e∈ds,kqdOk 8 e=true)(kd:kqdOk 8 d=true)(h1:d∉ds->Q (.bl true) H)(h2:d∈ds->Q (.bl false) H):kx K true x y H Q:=by
 refine⟨d,ds,hd,he,ka,kd,?_⟩;by_cases z:d∈ds
 .have q:=h2 z;simpa[z] using q
 .have q:=h1 z;simpa[z] using q
open Classical in
def Pj(hd:Rep K H x d)(he:Rep K H y (.list ds))(ka:∀e∈ds,kqdOk 8 e=true)(kd:kqdOk 8 d=true)(h1:d∈ds->Q (.bl true) H)(h2:d∉ds->Q (.bl false) H):kx K false x y H Q:=by
 refine⟨d,ds,hd,he,ka,kd,?_⟩;by_cases z:d∈ds
 .have q:=h1 z;simpa[z] using q
 .have q:=h2 z;simpa[z] using q
open Classical in
def Pb(hd:Rep K H x d)(he:Rep K H y e)(kd:kqdOk 8 d=true)(ke:kqdOk 8 e=true)(h1:d≠e->Q (.bl true) H)(h2:d=e->Q (.bl false) H):IC K x y H Q:=by
 refine⟨d,e,hd,he,kd,ke,?_⟩;by_cases z:d=e
 .have q:=h2 z;rw[decide_eq_true z];exact q
 .have q:=h1 z;rw[decide_eq_false z];exact q
end
abbrev E2(n:Nat):Option Int->Nat
 |none=>n
 |some j=>min j.toNat n
abbrev JP(l:List Nat):Option Int->List Nat
 |none=>l
 |some j=>l.take j.toNat
def Gp(n:Nat)(hi:Option Int):E2 n hi<=n:=by
 cases hi with
 |none=>exact QH _
 |some j=>exact Vd _ _
abbrev kj(z:Str)(lo hi:Option Int):Str:=⟨((JP z.cps.toList hi).drop (lo.getD 0).toNat).toArray⟩
abbrev NN:Option Int->Prop
 |none=>True
 |some i=>0<=i
def Ou{lo:Option Int}(n:Nat)(hl:NN lo)(hh:NN hi):R3 lo hi 1 n=(QR (E2 n hi-min (lo.getD 0).toNat n)).map (λk=>min (lo.getD 0).toNat n+k):=by
 have core:∀(a b:Nat),a<=n->b<=n->sliceRange (a:Int) (b:Int) 1=(QR (b-a)).map (λk=>a+k):=by
  intro a b ha hb;simp only[sliceRange,show((1:Int) > 0)=True from by simp,if_true];by_cases Ad:(a:Int)<b
  .have e3:(((b:Int)-a+1-1) / 1).toNat=b-a:=by rw[Int.ediv_one];lia
   simp only[Ad,if_true,e3];refine Su λk _=>?_
   lia
  .have:b-a=0:=by lia
   simp[Ad,this]
 have clip:∀i:Int,0<=i->max (0:Int) (min (if i<0 then i+n else i) n)=((min i.toNat n:Nat):Int):=by
  intro i hi;rw[if_neg (by lia)];lia
 cases lo with
 |none =>
  cases hi with
  |none =>
   have:=core 0 n (by lia) (by lia)
   simpa[R3,E2] using this
  |some j =>
   have:=core 0 (min j.toNat n) (by lia) (by lia)
   simp only[R3,show((1:Int) > 0)=True from by simp,if_true];rw[clip j hh];simpa[E2] using this
 |some i =>
  cases hi with
  |none =>
   have:=core (min i.toNat n) n (by lia) (by lia)
   simp only[R3,show((1:Int) > 0)=True from by simp,if_true];rw[clip i hl];simpa[E2] using this
  |some j =>
   have:=core (min i.toNat n) (min j.toNat n) (by lia) (by lia)
   simp only[R3,show((1:Int) > 0)=True from by simp,if_true];rw[clip i hl,clip j hh];simpa[E2] using this
def Dm(z:Str){lo:Option Int}(hl:NN lo)(hh:NN hi):ZaC z lo hi=kj z lo hi:=by
 have len:z.cps.toList.length=z.length:=by simp[Zam]
 have e:=Ou z.length hl hh;have p:=StrLaws.picks z.cps.toList (E2 z.length hi-min (lo.getD 0).toNat z.length) (min (lo.getD 0).toNat z.length) (by have:=Gp z.length hi;rw[len];lia)
 have q:(z.cps.toList.drop (min (lo.getD 0).toNat z.length)).take (E2 z.length hi-min (lo.getD 0).toNat z.length)=(JP z.cps.toList hi).drop (lo.getD 0).toNat:=by
  generalize (lo.getD 0).toNat=a;cases hi with
  |none =>
   show VF (z.length-min a z.length) (YI (min a z.length) z.cps.toList)=YI a z.cps.toList;by_cases ha:a<=z.length
   .rw[WC ha,QM (by rw[Sw,len];exact QH _)]
   .rw[V6 (by lia),Ts (by rw[len];exact QH _),Ts (by rw[len];lia)];simp
  |some j =>
   show VF (min j.toNat z.length-min a z.length) (YI (min a z.length) z.cps.toList)=YI a (z.cps.toList.take j.toNat);rw[List.drop_take];generalize j.toNat=b;by_cases ha:a<=z.length
   .rw[WC ha];by_cases hb:b<=z.length
    .rw[WC hb]
    .rw[V6 (by lia),QM (by rw[Sw,len];exact QH _),QM (by rw[Sw,len];lia)]
   .rw[V6 (by lia:z.length<=a),Ts (by rw[len];exact QH _),Ts (by rw[len];lia)];simp
 have r:(R3 lo hi 1 z.length).filterMap (z.cps[·]?)=(JP z.cps.toList hi).drop (lo.getD 0).toNat:=by
  rw[<- q,<- p,e];simp
 unfold ZaC kj;split
 .rename_i c;have c':(R3 lo hi 1 z.length).length=z.length:=by simpa using c
  rw[e,Qx,Ra] at c'
  have w:(z.cps.toList.drop (min (lo.getD 0).toNat z.length)).take (E2 z.length hi-min (lo.getD 0).toNat z.length)=z.cps.toList:=by
   have b:=Gp z.length hi;by_cases h0:z.length=0
   .have:z.cps.toList=[]:=SK.mp (by rw[len];exact h0)
    rw[this];simp
   .have a0:min (lo.getD 0).toNat z.length=0:=by lia
    rw[a0,List.drop_zero,QM (by rw[len];lia)]
  rw[<- q,w]
 .rw[r]
abbrev Lf:V->Option Int->Option Int->Hp->VK->Prop:=λx lo hi H Q=>∃z,x=.str z/\z.length<=sizeLine/\NN lo/\NN hi/\Q (.str (kj z lo hi)) H
abbrev Oy:List V->Hp->VK->Prop:=λxs H Q=>∃i j,xs=[.int i,.int j]/\Q (.int (if j<i then j else i)) H
section
variable{X:Cx}
def KP:Og X Lf:=by
 intro ξ s σ H x v vl vu lo hi sl Q I rx hs pl pu h;obtain⟨z,rfl,hz,hl,hh,q⟩:=h;obtain⟨t,rfl⟩:=rx;refine⟨"str",_,F.slot_str_getitem.lookup,typeIs_str _ _ _,?_⟩
 have fin:∀(l u:Option (Int×Tok)),l.map (·.1)=lo->u.map (·.1)=hi->(sliceMade z t l u none).post (EP X ξ σ Q) s:=by
  intro l u el eu
  have e:sliceMade z t l u none=if ((1:Int) == 1 && (R3 lo hi 1 z.length).length == z.length)=true then Made.val (.str z t) else .str ⟨((R3 lo hi 1 z.length).filterMap (z.cps[·]?)).toArray⟩:=by
   unfold sliceMade slicePicked;rw[el,eu];rfl
  rw[e];have lt:=Txt.slice_le z lo hi;have eq:=Dm z hl hh;unfold ZaC at lt eq;refine post_val_or_str ⟨Q0 lt hz,λt' k=>⟨.str (kj z lo hi),H,I.tok k,⟨t',?_⟩,q⟩⟩;rw[eq]
 cases pl with
 |none =>
  cases pu with
  |none=>exact UO (l:=none) (u:=none) (st:=none) hs rfl (fin none none rfl rfl)
  |int j tj=>exact UO (l:=none) (u:=some (j,tj)) (st:=none) hs rfl (fin none (some (j,tj)) rfl rfl)
 |int i ti =>
  cases pu with
  |none=>exact UO (l:=some (i,ti)) (u:=none) (st:=none) hs rfl (fin (some (i,ti)) none rfl rfl)
  |int j tj=>exact UO (l:=some (i,ti)) (u:=some (j,tj)) (st:=none) hs rfl (fin (some (i,ti)) (some (j,tj)) rfl rfl)
end
abbrev RawD(h:Heap)(d:Addr)(es:Array WS)(ep:Nat):Prop:=∃o,h.get? d=some o/\o.ExactDict/\o.data=.dict es ep
section
variable{prog:Rx}{w:RQ}{A:RT}{E:QF->QP->Prop}{s:QP}{d it:Addr}{es:Array WS}{ep i:Nat}
def RawD.ty(m:RawD s.heap d es ep):s.TypeIs (.ref d) "dict":=by
 obtain⟨o,a,b,_⟩:=m;exact⟨o,a,b.1⟩
def RawD.at{h':Heap}(m:RawD h d es ep)(k:∀o,h.get? d=some o->h'.get? d=some o):RawD h' d es ep:=by
 obtain⟨o,a,b⟩:=m;exact⟨o,k o a,b⟩
def D6{Q:QF->QP->Prop} (lo:(d == sysModules)=false) (m:RawD s.heap d es ep) (q:Q (.ref s.heap.objs.size) {s with heap:=s.heap.push {cls:=.type "dict_keyiterator",data:=.fields #[.ref d,.int 0 0,.int es.size 0,.int ep 0]}}) :
  wpAny (model prog w) A (pyIter (.ref d)) Q E s:=by
 have ty:=m.ty;obtain⟨o,ho,_,dt⟩:=m;refine Xh ty ZT (SW ZT ty F.entry_dict_iter ?_ (F.args_dict_iter_1 _));unfold TC.«dict.__iter__» TC.Dict.dictSlotNone;refine QE (QE (wpAny_notOrdered_dict ty ?_));show wpAny _ _ (pure (RK d)) _ _ s;refine Q1 ?_;show wpAny _ _ (Yj d >>= _) _ _ s;unfold Yj;rw[if_neg (λz=>by rw[lo] at z;cases z)];refine QE (Q1 (QE (Xi ho dt (QE (Ye ho dt ?_)))));refine QE (SG (Q1 ⟨_,rfl,"dict_keyiterator",_,⟨_,Rg _ rfl,rfl⟩,Tb.lookup,?_⟩));simpa[rawInt] using q
def ur{Q:Option QF->QP->Prop}(ki:s.heap.IsKeyIter it d i es.size ep)(m:RawD s.heap d es ep) :
  (∀e,es[i]?=some e->(∀h',h'.IsKeyIter it d (i+1) es.size ep->TX it s.heap h'->Q (some e.key) {s with heap:=h'})->wpAny (model prog w) A (pyNext (.ref it)) Q E s) /\
  (A.handled=none->es[i]?=none->(∀h',Z5 it s.heap h'->Q none {s with heap:=h'})->wpAny (model prog w) A (pyNext (.ref it)) Q E s):=by
 obtain⟨o,ho,oc,od⟩:=id ki;obtain⟨dd,hd,_,dt⟩:=id m;have own:TC.Dict_items.ownsTuple "dict_keyiterator"=false:=by decide
 have nn : ¬ ((RK d == Td)=true):=Rj;constructor
 .intro e he hq;unfold pyNext;refine QE (Wh (Tf (name:=VM "__next__") ki.typeIs Tb (SW Tb ki.typeIs Wk ?_ (V7 _))));refine QE (Q1 (QE (QE (QE (TQ ki.typeIs (Q1 (QE (WY ho od ?_))))))));simp only[own,UV,if_false];show wpAny _ _ (if (RK d == Td)=true then _ else _) _ _ s;rw[if_neg nn];refine QE (Q1 (QE (Xi hd dt ?_)));rw[if_neg (by simp)];refine QE (Q1 (QE (Ye hd dt ?_)));rw[if_neg (by simp)];refine Q1 ?_;simp only[show ¬ ((i:Int)<0) from by lia,if_false,RJ,he];refine QE (QE (TQ ki.typeIs (Q1 (QE (Yk ki.typeIs ?_)))));show wpAny _ _ (setField (.ref it) 1 (rawInt ((i:Int)+1)) >>= _) _ _ s;refine QE (UP ho od (by simp) ?_);have k2:(s.heap.update it (T9 (·.setIfInBounds 1 (rawInt ((i:Int)+1))))).IsKeyIter it d (i+1) es.size ep:=⟨_,SE _ ho (U1 (Te od _)),(VN ..).trans oc,by rw[Te od];simp[rawInt]⟩
  refine QE (T8 (QE (Yk (s:={s with heap:=s.heap.update it (T9 (·.setIfInBounds 1 (rawInt ((i:Int)+1))))}) k2.typeIs ?_)));show wpAny _ _ (pure e.key) _ _ _;exact Q1 (Q1 ⟨_,rfl,Q1 (hq _ k2 (Sn ..))⟩)
 .intro hh he hq;unfold pyNext;refine QE (Wh (Tf (name:=VM "__next__") ki.typeIs Tb (SW Tb ki.typeIs Wk ?_ (V7 _))));refine QE (Q1 (QE (QE (QE (TQ ki.typeIs (Q1 (QE (WY ho od ?_))))))));simp only[own,UV,if_false];show wpAny _ _ (if (RK d == Td)=true then _ else _) _ _ s;rw[if_neg nn];refine QE (Q1 (QE (Xi hd dt ?_)));rw[if_neg (by simp)];refine QE (Q1 (QE (Ye hd dt ?_)));rw[if_neg (by simp)];refine Q1 ?_;simp only[show ¬ ((i:Int)<0) from by lia,if_false,RJ,he];refine QE (QE (TQ ki.typeIs (Q1 ?_)));show wpAny _ _ (setField (.ref it) 0 .none >>= _) _ _ s;refine QE (UP ho od (by simp) ?_);show wpAny _ _ (newExc (.type "StopIteration") [] >>= _) _ _ _;refine QE ?_;simp only[newExc,newTuple];refine QE (SG ?_ (by size_fits));refine QE (m:=firstArgMember _ _) (Xj (a:=Td) (by simp only[firstArgMember];rfl) (SG ?_ (by size_fits)));simp only[raiseNew];refine QE (YV ?_);rw[show A.in1.handled=none from hh];refine QE (Q1 (Z6 ?_));refine QE (V8 (T:="StopIteration") (b:=true) ⟨_,Rg _ rfl,rfl⟩ Yv ?_);exact Q1 (hq _ (((Sn ..).extBut.push _).push _))
def zq(hh:A.handled=none)(I d:Addr)(ne:d≠I)(es:Array WS)(ep:Nat):YU prog w A I [I,d] [I] es.size (λi v=>∃e,es[i]?=some e/\v=e.key) (λi h=>h.IsKeyIter I d i es.size ep/\RawD h d es ep) where
 sub:=λb hb=>by rw[QY.mp hb];simp
 frame:=λ_ _ _ st hk=>⟨st.1.at λo e=>hk I (by simp) o e,st.2.at λo e=>hk d (by simp) o e⟩
 item:=λi s Q E hi st hq=>by
  refine(ur st.1 st.2).1 es[i] (by simp[hi]) λh' k1 k2=>?_
  exact hq _ h' s.toks ⟨es[i],by simp[hi],rfl⟩ ⟨k1,st.2.at λo e=>k2.extBut d o ne e⟩ λb o hb e=>k2.extBut b o (λz=>hb (by simp[z])) e
 done:=λs Q E st hq=>(ur st.1 st.2).2 hh (by simp) λh' k=>hq h' s.toks λb o hb e=>k b o (λz=>hb (by simp[z])) e
 self:=λ_ _ _ _ st hq=>wpAny_pyIter_keyiter st.1 hq
def zr(lo:(d == sysModules)=false):Zao prog w "dict" d d es.size (λi v=>∃e,es[i]?=some e/\v=e.key) (λh=>RawD h d es ep) where
 type:=λ_ m=>m.ty
 there:=(by rintro _ ⟨_,e,_⟩;exact ⟨Q_ e,Q_ e⟩)
 keep:=λ_ _ m hk=>m.at λo e=>hk d (.inl rfl) o e
 notList:=by decide
 notTuple:=by decide
 hint:=λ_ _ _ _ m q=>PySem.W.kdl_hint_dict m.ty q
 iter:=λ_ _ hh m=>⟨_,_,(λ_ _ q=>D6 lo m q),zq hh _ d (by obtain⟨_,e,_⟩:=m;exact RE (Q_ e)) es ep,⟨⟨_,Rg _ rfl,rfl,rfl⟩,m.at λ_ e=>QN _ e⟩⟩
end
def pD:∀ys:List (List bf×Addr×QF),Vals (ys.map (V.ref∘λy=>y.2.1)) (ys.map λy=>RK y.2.1)
 |[]=>.nil
 |_ :: ys=>.cons rfl (pD ys)
def JB{de:List (List bf×V)}{ys:List (List bf×Addr×QF)}(r:KT H de ys):Paired (λ(p:List bf×V) b=>H b=some (.tup (p.1.map kV))) de (ys.map λy=>y.2.1):=by
 induction r with
 |nil=>exact .nil
 |cons h t ih=>exact .cons h.2.1 ih
abbrev FL:List V->Hp->VK->Prop:=λxs H Q=>∃a de,xs=[.ref a]/\H a=some (.dT de)/\∀(l:Addr) (bs:List Addr),H l=none->Paired (λ(p:List bf×V) b=>H b=some (.tup (p.1.map kV))) de bs->Q (.ref l) (upd H l (.lst (bs.map V.ref)))
def wH{X:Cx} (hc:X.calm=true):eR X (.type "list") FL:=by
 intro ξ s σ H xs us Q I r h;obtain⟨a,de,rfl,ha,q⟩:=h;obtain⟨u,rfl,ru⟩:=vals1 r;cases ru;obtain⟨z,lo,ys,kt,o,es,ep,ho,ex,dt,he,_,_⟩:=Nl I.hok ha;have sz:es.size=de.length:=by rw[<- Ro,he,Qx];exact(Vq kt).symm
 refine ZU (zr (es:=es) (ep:=ep) lo) (I.ok.hd hc) ⟨o,ho,ex,dt⟩ (by rw[sz];exact z) λh' tk acc c kp hl hit=>?_
 have acc_eq:acc.toList=ys.map λy=>RK y.2.1:=by
  refine VO λj=>?_
  by_cases lt:j<es.size
  .have hj:j<acc.toList.length:=by rw[Ro];rw[hit.1];exact lt
   have e1:acc.toList[j]?=some acc.toList[j]:=Qy hj;obtain⟨e,ee,ev⟩:=hit.2 j acc.toList[j] (by rw[<- Rq];exact e1);rw[e1,ev];rw[<- Rq,he,QD] at ee;obtain⟨y,hy1,hy2⟩:=QG.mp ee;rw[QD,hy1,<- hy2];rfl
  .rw[RD (by rw[Ro,hit.1];lia),RD];rw[Qx]
   have:=Vq kt
   lia
 have vals:Vals ((ys.map λy=>y.2.1).map V.ref) acc.toList:=by
  rw[acc_eq,Sg];exact pD ys
 have bK:Paired (λ(p:List bf×V) b=>H b=some (.tup (p.1.map kV))) de (ys.map λy=>y.2.1):=by
  exact JB kt
 refine⟨.ref s.heap.objs.size,_,I.laid (t':=tk) kp (QH _) (show cc X.prog X.w _ h' _ (.lst ((ys.map λy=>y.2.1).map V.ref)) from⟨?_,acc.toList,c,vals,by rw[Wl];exact hl⟩),rfl,q _ _ (I.hok.fresh (QH _)) bK⟩;rw[Qx,Qx,<- Vq kt];exact z
section
variable{X:Cx}{ξ:List (Addr×Obj)}{σ:St}{H:Hp}{s:QP}{h':Heap}
def Inv.lV{t':Nat}{fp:List Addr}(I:Inv X ξ σ H s)(k:∀b o,b∉fp->s.heap.get? b=some o->h'.get? b=some o)(hf:∀b∈fp,iR X ξ H b):Inv X ξ σ H {s with heap:=h',toks:=t'}:=by
 have nit:∀b u,H b=some u->b∉fp:=λb u e z=>by
  have q:=(hf b z).1;rw[q] at e;cases e
 refine I.step (g':=s.gens) (d':=s.drawn) (ch:=fp) (λb hb=>⟨(hf b hb).2.2.2.1,(hf b hb).2.1,(hf b hb).2.2.2.2.1,(hf b hb).2.2.2.2.2⟩) (λb o _ _ hc e _=>k b o hc e) (λb o _ _ hc e _=>⟨o.slots,k b o hc e⟩) (λ_ _ _ _ n=>n)
  (λb o hc e=>⟨o,k b o hc e⟩) (λ_ _ e=>e) (λ_ _ _ e=>e) (λb ps e=>⟨#[],by rw[e,Y0]⟩) (λm hm=>?_) (λb u e=>?_) I.bare
 .obtain⟨o,es,ep,ho,r⟩:=hm;exact⟨o,es,ep,k _ o (λz=>(hf _ z).2.1 rfl) ho,r⟩
 .refine(I.hok b u e).stay (λc v hc q=>k c v ?_ q) (λ_ q=>q) λ_ _ q=>q
  rcases hc with z|z
  .rw[z];exact nit b u e
  .exact nit c _ z
end
end L2
local macro_rules | `(tactic| walk_at "zo")=>`(tactic| first|omega|(show(_:Nat)≠_;omega))
namespace L2
open PySem PySem.Spec PyProof.Rows
inductive Kn|L|T
abbrev Kn.sq(k:Kn)(K:Fg)(H:Hp)(a:Addr)(xs:List V):Prop:=match k with
 |.L=>SqL K H a xs
 |.T=>SqT K H a xs
abbrev Kn.it(k:Kn)(h:Heap)(i l:Addr)(j:Nat):Prop:=match k with
 |.L=>h.IsListIter i l j
 |.T=>h.IsTupleIter i l j
abbrev Kn.seq(k:Kn)(h:Heap)(l:Addr)(xs:Array QF):Prop:=match k with
 |.L=>h.IsList l xs
 |.T=>h.IsTuple l xs
abbrev Kn.obj(k:Kn)(l:Addr):Obj:=match k with
 |.L=>{cls:=.type "list_iterator",data:=.fields #[.ref l,.int 0 0]}
 |.T=>{cls:=.type "tuple_iterator",data:=.fields #[.ref l,.int 0 0]}
def Kn.itAt(k:Kn){h':Heap}{it:Addr}(t:k.it h it l j)(e:∀o,h.get? it=some o->h'.get? it=some o):k.it h' it l j:=by
 cases k
 .exact Heap.IsListIter.at t e
 .exact Heap.IsTupleIter.at t e
def Kn.Pz(k:Kn){it:Addr}(t:k.it h it l j):∃o,h.get? it=some o/\∀v,o.data≠.cell v:=by
 cases k <;> (obtain⟨o,e,_,d⟩:=t;exact⟨o,e,λv z=>by rw[d] at z;cases z⟩)
def Kn.Dj(k:Kn){h':Heap}(t:k.seq h l xs)(e:∀o,h.get? l=some o->h'.get? l=some o):k.seq h' l xs:=by
 cases k
 .exact Heap.IsList.at t e
 .obtain⟨o,a,b⟩:=t;exact⟨o,e o a,b⟩
def Kn.lt(k:Kn)(t:k.seq h l xs):l<h.objs.size:=by
 cases k <;> (obtain⟨o,a,_⟩:=t;exact Q_ a)
def Kn.inv{H:Hp}(k:Kn)(I:Inv X ξ σ H s)(q:k.sq X.K H a xs):∃gV:List QF,Vals xs gV/\k.seq s.heap a gV.toArray:=by
 cases k
 .obtain⟨gV,r,p,_⟩:=I.list q;exact⟨gV,r,p.isList⟩
 .obtain⟨gV,r,p,_⟩:=I.tuple q;exact⟨gV,r,p⟩
def Kn.inj{H:Hp}(k:Kn)(I:Inv X ξ σ H s)(q:k.sq X.K H a xs)(r:k.sq X.K H a ys):xs=ys:=by
 cases k
 .exact I.nG q r
 .exact I.oM q r
section
variable{prog:Rx}{w:RQ}{A:RT}{E:QF->QP->Prop}{s:QP}
def Kn.iter(k:Kn){Q:QF->QP->Prop}(t:k.seq s.heap l xs)(q:Q (.ref s.heap.objs.size) {s with heap:=s.heap.push (k.obj l)}):wpAny (model prog w) A (pyIter (.ref l)) Q E s:=by
 cases k
 .exact Xg t q
 .exact WV t q
def Kn.it0(k:Kn)(h:Heap)(l:Addr):k.it (h.push (k.obj l)) h.objs.size l 0:=by
 cases k <;> exact⟨_,Rg _ rfl,rfl,rfl⟩
def Kn.nx(k:Kn){it:Addr}{Q:QF->QP->Prop}(t:k.it s.heap it l i)(q:k.seq s.heap l xs)(hi:∀x h',xs[i]?=some x->k.it h' it l (i+1)->TX it s.heap h'->Q x {s with heap:=h'})
  (he:xs[i]?=none->A.handled=none/\∀h' e,Z5 it s.heap h'->(∃o,h'.get? e=some o/\o.cls=.type "StopIteration")->E (.ref e) {s with heap:=h'}):wpAny (model prog w) A (Vj (.ref it)) Q E s:=by
 cases k with
 |L=>cases hx:xs[i]? with
  |some x=>exact wpAny_nextOf_list_item t q hx λh'=>hi x h' hx
  |none=>exact wpAny_nextOf_list_end (he hx).1 t q hx (he hx).2
 |T =>
  obtain⟨o,ho,oc,od⟩:=id t;obtain⟨ol,hl,_,nl,dl⟩:=id q;unfold Vj;refine QE (Tf (name:=VM "__next__") t.typeIs WZ (SW WZ t.typeIs F.entry_tuple_iterator_next ?_ (F.args_tuple_iterator_next_1 _)));show wpAny _ _ (field (.ref it) 0 >>= _) _ _ s;refine QE (Wm ho od (x:=.ref l) rfl ?_);show wpAny _ _ (if (RK l == Td)=true then _ else _) _ _ s;rw[if_neg (show ¬ ((RK l == Td)=true) from Rj)];show wpAny _ _ (field (.ref it) 1 >>= _) _ _ s;refine QE (Wm ho od (x:=.int i 0) rfl ?_);show wpAny _ _ (seqItems? (.ref l) >>= _) _ _ s;refine QE (W0 hl dl ?_);simp only[RJ];cases hx:xs[i]? with
  |some x =>
   exact QE (UP ho od (by simp) (Q1 ⟨x,rfl,Q1 (hi x _ hx ⟨_,SE _ ho (U1 (Te od _)),(VN ..).trans oc,by rw[Te od];simp[rawInt]⟩ (Sn ..))⟩))
  |none =>
   refine QE (XY (QE (UP ho od (by simp) ?_)));show wpAny _ _ (newExc (.type "StopIteration") [] >>= _) _ _ _;refine QE ?_;simp only[newExc,newTuple];refine QE (SG ?_ (by size_fits));refine QE (m:=firstArgMember _ _) (Xj (a:=Td) (by simp only[firstArgMember];rfl) ?_);refine SG ?_ (by size_fits);simp only[raiseNew];refine QE (YV ?_);rw[show A.in1.handled=none from(he hx).1];exact QE (Q1 (Z6 ((he hx).2 _ _ (((Sn ..).extBut.push _).push _) ⟨_,Rg _ rfl,rfl⟩)))
def fh{α β:Type}{F:α->β->Prop}:∀{l:List α} {m:List β} {i:Nat} {x:α},Paired F l m->l[i]?=some x->∃y,m[i]?=some y/\F x y
 |_,_,0,_,.cons r _,e=>by cases e;exact⟨_,rfl,r⟩
 |_,_,i+1,x,.cons _ t,e=>fh (i:=i) t e
structure NP (B:Nat) (ks:List (Kn×Addr)) (i:Nat) (f0:QF) (h:Heap):Prop where
 z:IsZip h (B+ks.length+2) (B+ks.length) (B+ks.length+1) f0
 c:h.get? (B+ks.length)=some {cls:=.type "tuple",data:=.seq ((QR ks.length).map λj=>RK (B+j)).toArray}
 o:∃a:Array QF,a.size=ks.length/\h.get? (B+ks.length+1)=some {cls:=.type "tuple",data:=.seq a}
 t:∀(j:Nat) (p:Kn×Addr),ks[j]?=some p->p.1.it h (B+j) p.2 i
structure P6 (B:Nat) (ks:List (Kn×Addr)) (us:List (Array QF)) (i j:Nat) (h0 h:Heap):Prop where
 sz:h.objs.size=h0.objs.size
 z:IsZip h (B+ks.length+2) (B+ks.length) (B+ks.length+1) .ellipsis
 o:∃a:Array QF,a.size=ks.length/\h.get? (B+ks.length+1)=some {cls:=.type "tuple",data:=.seq a}/\∀m<j,∃u:Array QF,us[m]?=some u/\a[m]? = u[i]?/\i<u.size
 t:∀(m:Nat) (p:Kn×Addr),ks[m]?=some p->p.1.it h (B+m) p.2 (if m<j then i+1 else i)
 k:∀c o,(c<B\/c=B+ks.length\/B+ks.length+2<c)->h0.get? c=some o->h.get? c=some o
def wQ{ks:List (Kn×Addr)}{Q:Option QF->QP->Prop}(ne:0<ks.length)(lz:ks.length<=sizeLine)(st:NP B ks i .none s.heap)(sq:Paired (λ(p:Kn×Addr) (u:Array QF)=>p.2<B/\p.1.seq s.heap p.2 u) ks us)
  (hi:∀h' a,a.size=ks.length->(∀(m:Nat) (u:Array QF),us[m]?=some u->i<u.size/\a[m]? = u[i]?)->NP B ks (i+1) (rawInt s.heap.objs.size) h'->h'.get? s.heap.objs.size=some {cls:=.type "tuple",data:=.seq a}->(∀c o,(c<B\/B+ks.length+2<c)->s.heap.get? c=some o->h'.get? c=some o)->Q (some (.ref s.heap.objs.size)) {s with heap:=h'})
  (he:∀u∈us,u.size<=i->A.handled=none/\∀h',(∀c o,(c<B\/B+ks.length+2<c)->s.heap.get? c=some o->h'.get? c=some o)->Q none {s with heap:=h'}):wpAny (model prog w) A (pyNext (.ref (B+ks.length+2))) Q E s:=by
 obtain⟨hz,hI,⟨a0,ha,hO⟩,ht⟩:=st;have ty:s.TypeIs (.ref (B+ks.length+2)) "zip":=⟨_,hz,rfl⟩
 unfold pyNext;refine QE (Wh (Tf (name:=VM "__next__") ty F.slot_zip_next (SW F.slot_zip_next ty F.entry_zip_next ?_ (F.args_zip_next_1 _))));show wpAny _ _ (field (.ref (B+ks.length+2)) 2 >>= _) _ _ _;refine QE (Wm hz rfl (x:=.bool false) rfl ?_);show wpAny _ _ (field (.ref (B+ks.length+2)) 3 >>= _) _ _ _;refine QE (Wm hz rfl (x:=.ref (B+ks.length)) rfl (QE (W0 hI rfl ?_)));have em : ¬ (((QR ks.length).map λj=>RK (B+j)).toArray.isEmpty=true):=λz=>by simp at z;rw[z] at ne;cases ne
 dsimp only;rw[if_neg em];refine QE ?_;unfold TC.SmallTypes.ownedTupleIsFree;refine QE (Wm hz rfl (x:=.none) rfl (Q1 ?_));simp only[if_true];have pl:=sq.length;refine QE (XY (QE (Wm hz rfl (x:=.ref (B+ks.length+1)) rfl (QE (VA hz (by simp) λh1 hz1 hs1=>?_)))));refine QE (wpAny_forIn_list _ (λrest b s'=>∃j h,j<=ks.length/\rest=(((QR ks.length).map λj=>RK (B+j)).zipIdx).drop j/\b=(none,())/\s' = {s with heap:=h}/\P6 B ks us i j s.heap h) _ ?_ ?_ _ _ ⟨0,h1,RL _,rfl,rfl,rfl,hs1.1,hz1,⟨a0,ha,hs1.extBut _ _ (by walk_at "zo") hO,λm z=>nomatch z⟩,λm p hp=>p.1.itAt (ht m p hp) λo=>hs1.extBut _ _ (by have:=(QC.mp hp).1;walk_at "zo"),λc o hc=>hs1.extBut _ _ (by walk_at "zo")⟩)
 .rintro x rest b s' ⟨j,h,le,e,rfl,rfl,M⟩;have lj:j<ks.length:=Y9 le λz=>by rw[z,Ts (by simp)] at e;cases e
  rw[Xb (by simpa using lj)] at e;obtain⟨e1,e2⟩:=UG e;obtain rfl:x=(RK (B+j),j):=by rw[e1];simp
  have hp:ks[j]?=some ks[j]:=Qy lj;obtain⟨u,hu,lu,sp⟩:=fh sq hp;have tj:=M.t j _ hp;rw[if_neg (T7 j)] at tj;show wpAny _ _ (((Vj (.ref (B+j)) >>= λv=>pure (some v)).onRaise _) >>= _) _ _ _;refine QE (wpAny_onRaise (QE (ks[j].1.nx tj (ks[j].1.Dj sp λo=>M.k _ o (.inl lu)) (λx h2 hx t2 hs2=>Q1 ?_) λhx=>?_)))
  .obtain⟨a,ha,hO,hd⟩:=M.o;have hO2:=hs2.extBut _ _ (by walk_at "zo") hO;have sb:=Sn h2 (B+ks.length+1) (UU (·.setIfInBounds j x));have kp:∀c o,c≠B+j->c≠B+ks.length+1->h.get? c=some o->_:=λc o c1 c2 e=>sb.extBut c o c2 (hs2.extBut c o c1 e)
   refine QE (W0 hO2 rfl (QE (wpAny_updateSeq hO2 rfl (QE (wpAny_letGo (Q1 ⟨j+1,_,lj,e2,rfl,rfl,?_,kp _ _ (by walk_at "zo") (by walk_at "zo") M.z,⟨a.setIfInBounds j x,by simpa using ha,?_,λm hm=>?_⟩,λm p hm=>?_,λc o hc e=>kp c o (by walk_at "zo") (by walk_at "zo") (M.k c o hc e)⟩))))))
   .rw[sb.1,hs2.1];exact M.sz
   .rw[SE _ hO2 rfl];simp[UU]
   .rcases Xy.mp hm with q|rfl
    .obtain⟨v,h1,h2,h3⟩:=hd m q;exact⟨v,h1,by rw[Array.getElem?_setIfInBounds_ne (by lia)];exact h2,h3⟩
    .exact⟨u,hu,by rw[Array.getElem?_setIfInBounds_self_of_lt (by lia),hx],(W3.mp hx).1⟩
   .have lm:=(QC.mp hm).1;by_cases q:m=j
    .subst q;rw[hp] at hm;cases hm;rw[if_pos (V9 _)];exact ks[m].1.itAt t2 λo=>sb.extBut _ _ (by walk_at "zo")
    .rw[show(if m<j+1 then i+1 else i)=if m<j then i+1 else i by split <;> split <;> lia];exact p.1.itAt (M.t m p hm) λo=>kp _ _ (by walk_at "zo") (by walk_at "zo")
  .obtain⟨hh,q⟩:=he u (QI hu) (Array.getElem?_eq_none_iff.mp hx);refine⟨hh,λh2 e hs2 ω=>?_⟩;obtain⟨oe,hoe,hce⟩:=ω;have hz2:=hs2 _ _ (by walk_at "zo") M.z;have ez:e≠B+ks.length+2:=λx=>by rw[x,hz2] at hoe;cases hoe;simp at hce
   refine VA hz2 (by simp) λh3 _ hs3=>?_
   exact QE (V8 (T:="StopIteration") (b:=true) ⟨oe,hs3.extBut _ _ ez hoe,hce⟩ Yv (Q1 (q _ λc o hc e=>hs3.extBut _ _ (by walk_at "zo") (hs2 _ _ (by walk_at "zo") (M.k c o (by walk_at "zo") e)))))
 .rintro b s' ⟨j,h,le,e,rfl,rfl,M⟩
  obtain rfl:j=ks.length:=by
   have:=congrArg Sr e
   simp at this;lia
  obtain⟨a,ha,hO,hd⟩:=M.o;refine QE (W0 hO rfl (QE (Yw ?_ (by rw[Ro,ha];exact lz))));show wpAny _ _ (Vm (.ref (B+ks.length+2)) (.ref h.objs.size) >>= _) _ _ _;refine QE ?_;unfold Vm;have zl:=Q_ M.z;refine QE (VA (QN _ M.z) (by simp) λh7 hz7 hs7=>VA hz7 (by simp) λh8 hz8 hs8=>Q1 ⟨_,rfl,?_⟩);have up:∀c o,c≠B+ks.length+2->h.get? c=some o->h8.get? c=some o:=λc o c1 e=>hs8.extBut _ _ c1 (hs7.extBut _ _ c1 (QN _ e))
  have hT:=hs8.extBut _ _ (UT zl) (hs7.extBut _ _ (UT zl) (Rg (o:={cls:=.type "tuple",data:=.seq a}) h rfl));show wpAny _ _ (pure (some (RK h.objs.size))) _ _ _;rw[M.sz] at hT hz8 ⊢;refine Q1 (hi h8 a ha (λm u hu=>?_) ⟨hz8,up _ _ (by walk_at "zo") (M.k _ _ (.inr (.inl rfl)) hI),⟨a,ha,up _ _ (by walk_at "zo") hO⟩,λm p hp=>p.1.itAt ?_ λo=>up _ o (by have:=(QC.mp hp).1;walk_at "zo")⟩ hT λc o hc e=>up c o (by walk_at "zo") (M.k c o (by walk_at "zo") e))
  .obtain⟨v,h1,h2,h3⟩:=hd m (by have:=(QC.mp hu).1;lia);rw[h1] at hu;cases hu;exact⟨h3,h2⟩
  .have:=M.t m p hp
   rwa [if_pos (QC.mp hp).1] at this
def Cr{Q:List QF->QP->Prop}(sq:Paired (λ(p:Kn×Addr) (u:Array QF)=>p.1.seq s.heap p.2 u) ks us)
  (q:∀h':Heap,h'.objs.size=s.heap.objs.size+ks.length->(∀(j:Nat) (p:Kn×Addr),ks[j]?=some p->p.1.it h' (s.heap.objs.size+j) p.2 0)->(∀c o,s.heap.get? c=some o->h'.get? c=some o)->Q ((QR ks.length).map λj=>RK (s.heap.objs.size+j)) {s with heap:=h'}) :
  wpAny (model prog w) A (W4 (ks.map λp=>.ref p.2)) Q E s:=by
 unfold W4
 refine QE (wpAny_forIn_list _ (λrest b s'=>∃j h,j<=ks.length/\rest=(ks.map λp=>RK p.2).drop j/\b=((QR j).map λj=>RK (s.heap.objs.size+j)).toArray/\s' = {s with heap:=h}/\h.objs.size=s.heap.objs.size+j /\
  (∀(m:Nat) (p:Kn×Addr),m<j->ks[m]?=some p->p.1.it h (s.heap.objs.size+m) p.2 0)/\∀c o,s.heap.get? c=some o->h.get? c=some o) _ ?_ ?_ _ _ ⟨0,s.heap,RL _,rfl,rfl,rfl,rfl,(λm p z=>absurd z (SU m)),λc o e=>e⟩)
 .rintro x rest b s' ⟨j,h,le,e,rfl,rfl,sz,t,kp⟩;have lj:j<ks.length:=Y9 le λz=>by rw[z,Ts (by simp)] at e;cases e
  rw[Xb (by simpa using lj)] at e;obtain⟨e1,e2⟩:=UG e;obtain rfl:x=RK ks[j].2:=by rw[e1];simp
  obtain⟨u,_,sp⟩:=fh sq (Qy lj);refine QE (T8 (ks[j].1.iter (ks[j].1.Dj sp λo=>kp _ o) (Q1 ⟨j+1,_,lj,e2,?_,rfl,?_,λm p hm hp=>?_,λc o e=>QN _ (kp c o e)⟩)))
  .simp[Tc,sz]
  .simp[TN,sz];lia
  .rcases Xy.mp hm with q|rfl
   .exact p.1.itAt (t m p q hp) λo=>QN _
   .rw[Qy lj] at hp;cases hp;rw[<- sz];exact ks[m].1.it0 _ _
 .rintro b s' ⟨j,h,le,e,rfl,rfl,sz,t,kp⟩
  obtain rfl:j=ks.length:=by
   have:=congrArg Sr e
   simp at this;lia
  exact Q1 (q h sz (λj p hp=>t j p (QC.mp hp).1 hp) kp)
def OC{h:Heap}{n:Nat}{a b c:Obj}(sz:h.objs.size=n)(fa:a.isFreed=false)(fb:b.isFreed=false)(fc:c.isFreed=false):(h.push a).objs.size=n+1/\((h.push a).push b).objs.size=n+2 /\
  (((h.push a).push b).push c).get? n=some a/\(((h.push a).push b).push c).get? (n+1)=some b/\(((h.push a).push b).push c).get? (n+2)=some c/\∀x o,h.get? x=some o->(((h.push a).push b).push c).get? x=some o:=by
 have e1:(h.push a).objs.size=n+1:=by rw[TN,sz]
 have e2:((h.push a).push b).objs.size=n+2:=by rw[TN,e1]
 refine⟨e1,e2,?_,?_,?_,λx o e=>QN _ (QN _ (QN _ e))⟩
 .rw[<- sz];exact QN _ (QN _ (Rg _ fa))
 .rw[<- e1];exact QN _ (Rg _ fb)
 .rw[<- e2];exact Rg _ fc
def Cq(ks:List (Kn×Addr)) (us:List (Array QF)):Meets (TC.«zip.__new__» ⟨.type "zip" :: ks.map λp=>.ref p.2,[]⟩) (λ_ R s=>ks.length<=sizeLine/\Paired (λ(p:Kn×Addr) (u:Array QF)=>p.1.seq s.heap p.2 u) ks us /\
  ∀h',NP s.heap.objs.size ks 0 .none h'->(∀c o,s.heap.get? c=some o->h'.get? c=some o)->R (.ok (.ret (.ref (s.heap.objs.size+ks.length+2)))) {s with heap:=h'}) :=
 .of_wp λprog w A R s h=>by
  obtain⟨lz,sq,h⟩:=h;have hsub:=sub_zip;wp_walk using Cr sq;intro h' sz t kp;refine QE (Yw (QE (Yw (QE ?_) (by simpa using lz))) (by simpa using lz));wp_walk;refine⟨_,rfl,?_⟩
  obtain⟨e1,e2,g1,g2,g3,kp2⟩:=OC (h:=h') (a:={cls:=.type "tuple",data:=.seq ((QR ks.length).map λj=>RK (s.heap.objs.size+j)).toArray}) (b:={cls:=.type "tuple",data:=.seq (((QR ks.length).map λj=>RK (s.heap.objs.size+j)).map λ_=>Td).toArray})
   (c:={cls:=.type "zip",data:=.fields #[.none,.bool false,.bool false,.ref (s.heap.objs.size+ks.length),.ref (s.heap.objs.size+ks.length+1)]}) sz rfl rfl rfl
  simp only[sz,e1,e2];exact h _ ⟨g3,g1,⟨_,by simp,g2⟩,λj p hp=>p.1.itAt (t j p hp) λo=>kp2 _ o⟩ λc o e=>kp2 c o (kp c o e)
end
abbrev Om(K:Fg)(ks:List (Kn×Addr)):It :=
 ⟨λi H=>∀p∈ks,∃xs,p.1.sq K H p.2 xs/\i<xs.length,λi H v H'=>∃T ys,H T=none/\v=.ref T/\H'=upd H T (.tup ys)/\Paired (λ(p:Kn×Addr) y=>∀xs,p.1.sq K H p.2 xs->xs[i]?=some y) ks ys,
  λi H=>∀p∈ks,∃xs,p.1.sq K H p.2 xs/\(i<xs.length->∃p∈ks,∃xs,p.1.sq K H p.2 xs/\xs.length<=i)⟩
def gX{α β:Type}{F:α->β->Prop}:∀{l:List α},(∀x∈l,∃y,F x y)->∃m,Paired F l m
 |[],_=>⟨[],.nil⟩
 |x :: l,h=>by
  obtain⟨y,hy⟩:=h x QK;obtain⟨m,hm⟩:=gX λz hz=>h z (QL x hz)
  exact⟨y :: m,.cons hy hm⟩
def kR{α β:Type}{F:α->β->Prop}:∀{l:List α} {m:List β},Paired F l m->∀y∈m,∃x∈l,F x y
 |_,_,.cons r t,y,h=>by
  rcases Q5.mp h with rfl|z
  .exact⟨_,QK,r⟩
  .obtain⟨x,hx,e⟩:=kR t y z;exact⟨x,QL _ hx,e⟩
def tW{X:Cx}{ξ:List (Addr×Obj)}{σ:St}{H:Hp}{s:QP}(I:Inv X ξ σ H s){i:Nat}:∀{ks:List (Kn×Addr)} {us:List (Array QF)},Paired (λ(p:Kn×Addr) (u:Array QF)=>∃xs,p.1.sq X.K H p.2 xs/\Vals xs u.toList) ks us->(∀(m:Nat) (u:Array QF),us[m]?=some u->i<u.size) ->
  ∃ys vs,Paired (λ(p:Kn×Addr) y=>∀xs,p.1.sq X.K H p.2 xs->xs[i]?=some y) ks ys/\Vals ys vs/\vs.length=us.length/\∀(m:Nat) (u:Array QF),us[m]?=some u->vs[m]? = u[i]?
 |_,_,.nil,_=>⟨[],[],.nil,.nil,rfl,λm u e=>nomatch e⟩
 |p :: ks,u :: us,.cons ⟨xs,q,r⟩ t,h=>by
  obtain⟨ys,vs,h1,h2,h3,h4⟩:=tW I t λm u e=>h (m+1) u e
  have l:=h 0 u rfl;have lx:i<xs.length:=by rw[r.length];exact l
  obtain⟨v,e1,e2⟩:=r.get (Qy lx);refine⟨xs[i] :: ys,v :: vs,.cons (λzs hz=>by rw[p.1.inj I hz q];exact Qy lx) h1,.cons e2 h2,congrArg (· + 1) h3,λm w e=>?_⟩;cases m with
  |zero=>cases e;exact e1.symm.trans (by simp)
  |succ m=>exact h4 m w e
def wY{K:Fg}{x1}{ks:List (Kn×Addr)}{B:Nat}(ne:0<ks.length)(lz:ks.length<=sizeLine)(lb:∀p∈ks,p.2<B):qL P w K (.Tuple elts x1 pos) (Om K ks) (Wn B (ks.length+3)) (B+ks.length+2) (λi h=>NP B ks i .none h):=by
 have mem:∀{c:Nat},c∈Wn B (ks.length+3)↔B<=c/\c<B+(ks.length+3):=λ{c}=>Zt
 have out:∀{c:Nat},c∉Wn B (ks.length+3)->c<B\/B+ks.length+2<c:=λ{c} hc=>by rw[mem] at hc;lia
 have obj:∀i h,NP B ks i .none h->∀b∈Wn B (ks.length+3),∃o,h.get? b=some o/\∀v,o.data≠.cell v:=λi h st b hb=>by
  obtain⟨b1,b2⟩:=mem.mp hb;by_cases c:b<B+ks.length
  .obtain⟨j,rfl⟩:=Nat.exists_eq_add_of_le b1;have lj:j<ks.length:=by lia
   exact ks[j].1.Pz (st.t j _ (Qy lj))
  .rcases (by lia:b=B+ks.length\/b=B+ks.length+1\/b=B+ks.length+2) with rfl|rfl|rfl
   .exact⟨_,st.c,λv q=>by cases (show ZaE _ _=XF v from q)⟩
   .obtain⟨a,_,e⟩:=st.o;exact⟨_,e,λv q=>by cases (show ZaE _ _=XF v from q)⟩
   .exact⟨_,st.z,λv q=>by cases (show Yp _=XF v from q)⟩
 have us_of:∀{X:Cx} {ξ:List (Addr×Obj)} {σ:St} {H:Hp} {s:QP},Inv X ξ σ H s->(∀p∈ks,∃xs,p.1.sq X.K H p.2 xs)->∃us:List (Array QF),Paired (λ(p:Kn×Addr) (u:Array QF)=>∃xs,p.1.sq X.K H p.2 xs/\Vals xs u.toList) ks us/\Paired (λ(p:Kn×Addr) (u:Array QF)=>p.2<B/\p.1.seq s.heap p.2 u) ks us:=λ{X ξ σ H s} I h=>by
  obtain⟨us,hu⟩:=gX (F:=λ(p:Kn×Addr) (u:Array QF)=>(∃xs,p.1.sq X.K H p.2 xs/\Vals xs u.toList)/\p.2<B/\p.1.seq s.heap p.2 u) λp hp=>by
   obtain⟨xs,q⟩:=h p hp;obtain⟨gV,r,z⟩:=p.1.inv I q;exact⟨gV.toArray,⟨xs,q,r⟩,lb p hp,z⟩
  exact⟨us,Paired.mapP hu λ_ _ z=>z.1,Paired.mapP hu λ_ _ z=>z.2⟩
 refine⟨mem.mpr (by lia),obj,λi h h' st kp=>⟨kp _ (mem.mpr (by lia)) _ st.z,kp _ (mem.mpr (by lia)) _ st.c,?_,λj p hp=>p.1.itAt (st.t j p hp) (kp _ (mem.mpr (by have:=(QC.mp hp).1;lia)))⟩,?_,?_,λ_ _ _ _ _ st q=>wpAny_pyIter_zip st.z q⟩
 .obtain⟨a,e,q⟩:=st.o;exact⟨a,e,kp _ (mem.mpr (by lia)) _ q⟩
 .intro X hP hw hK hc i ξ s σ H E I hf st hg;subst hP hw hK;obtain⟨us,u1,u2⟩:=us_of I λp hp=>let ⟨xs,q,_⟩:=hg p hp;⟨xs,q⟩
  refine wQ ne lz st u2 (λh' a ha hu st' hT all=>⟨_,rfl,?_⟩) λu hm le=>?_
  .obtain⟨ys,vs,y1,y2,y3,y4⟩:=tW I u1 λm u e=>(hu m u e).1
   obtain rfl:a=vs.toArray:=by
    refine Y_ λm=>?_
    by_cases c:m<us.length
    .exact(hu m _ (Qy c)).2.trans ((y4 m _ (Qy c)).symm.trans (by simp))
    .rw[TY (by rw[ha,u1.length];lia),U2,RD (by lia)]
   refine wpAny_letOwnedTupleGo_zip st'.z λh2 hz2 sb=>?_
   have nT:∀c∈Wn B (ks.length+3),c≠s.heap.objs.size:=λc hc=>let ⟨_,q,_⟩:=obj i _ st c hc;RE (Q_ q)
   have I1:Inv X ξ σ (upd H s.heap.objs.size (.tup ys)) {s with heap:=s.heap.push {cls:=.type "tuple",data:=.seq vs.toArray}} :=
    I.laid (t':=s.toks) (λb u e=>QN _ e) (QH _) ⟨by rw[<- y1.length];exact lz,vs,y2,TupD.new _ _⟩
   have up:∀c o,c∉Wn B (ks.length+3)->(s.heap.push {cls:=.type "tuple",data:=.seq vs.toArray}).get? c=some o->h2.get? c=some o:=λc o hc e=>by
    have ncz:c≠B+ks.length+2:=λz=>hc (mem.mpr (by rw[z];lia))
    rcases Yx e with⟨ec,eo⟩|e
    .rw[ec,eo];exact sb.extBut _ _ (by rw[<- ec];exact ncz) hT
    .exact sb.extBut _ _ ncz (all c o (out hc) e)
   refine⟨.ref s.heap.objs.size,_,Inv.lV (s:={s with heap:=s.heap.push {cls:=.type "tuple",data:=.seq vs.toArray}}) (t':=s.toks) I1 up λc hc=>⟨by rw[aJ (nT c hc)];exact(hf c hc).1,(hf c hc).2⟩,rfl,⟨_,ys,I.hok.fresh (QH _),rfl,rfl,y1⟩,⟨hz2,sb.extBut _ _ (by walk_at "zo") st'.c,?_,λj p hp=>p.1.itAt (st'.t j p hp) λo=>sb.extBut _ _ (by have:=(QC.mp hp).1;walk_at "zo")⟩,λc hc=>by rw[aJ (nT c hc)];exact(hf c hc).1⟩;obtain⟨a,e,q⟩:=st'.o;exact⟨a,e,sb.extBut _ _ (by walk_at "zo") q⟩
  .obtain⟨p,hp,xs,q,r⟩:=kR u1 u hm;obtain⟨ys,q',l⟩:=hg p hp;rw[p.1.inj I q' q,r.length] at l;exact absurd l (Nat.not_lt.mpr le)
 .intro X hP hw hK hc i ξ s σ H E I hf st hg;subst hP hw hK;obtain⟨us,u1,u2⟩:=us_of I λp hp=>let ⟨xs,q,_⟩:=hg p hp;⟨xs,q⟩
  refine wQ ne lz st u2 (λh' a ha hu _ _ _=>?_) λu _ _=>⟨I.ok.hd hc,λh' all=>⟨rfl,I.lV (t':=s.toks) (λc o hc e=>all c o (out hc) e) hf⟩⟩
  have big:∀p∈ks,∀xs,p.1.sq X.K H p.2 xs->i<xs.length:=λp hp xs q=>by
   obtain⟨j,hj⟩:=RA hp;obtain⟨u,e,ys,q',r⟩:=fh u1 hj;rw[p.1.inj I q q',r.length];exact(hu j u e).1
  obtain⟨p,hp⟩:=List.exists_mem_of_length_pos ne;obtain⟨xs,q,f⟩:=hg p hp;obtain⟨p',hp',ys,q',le⟩:=f (big p hp xs q);exact absurd (big p' hp' ys q') (Nat.not_lt.mpr le)
section
variable{X:Cx}
def oI:∀{as:List (Kn×Addr)} {us:List QF},Vals (as.map λp=>V.ref p.2) us->us=as.map λp=>RK p.2
 |[],_,.nil=>rfl
 |_ :: _,_,.cons r t=>by cases r;rw[oI t];rfl
def wR{H:Hp}{x1}{R:It->Hp->Prop}{ks:List (Kn×Addr)}(I:Inv X ξ σ H s)(r:Vals (ks.map λp=>V.ref p.2) us)(ne:0<ks.length)(lz:ks.length<=sizeLine)(hs:∀p∈ks,∃xs,p.1.sq X.K H p.2 xs)(q:R (Om X.K ks) H)
  (c1:checkTypeCall "zip" ⟨ks.map λp=>.ref p.2,[]⟩=pure ()) (c2:checkBuiltinCall "zip.__new__" ⟨.type "zip" :: ks.map λp=>.ref p.2,[]⟩=pure ()) (c3:∀o,argsOk "object.__init__" ⟨o :: ks.map λp=>.ref p.2,[]⟩) :
  wpAny (model X.prog X.w) X.A (call (.type "zip") us) (λv s1=>wpAny (model X.prog X.w) X.A (pyIter v) (Oi X ξ σ (.Tuple elts x1 tp) R) X.xe s1) X.xe s:=by
 rw[oI r];obtain⟨vs,hv⟩:=gX (F:=λ(p:Kn×Addr) (u:Array QF)=>p.1.seq s.heap p.2 u) λp hp=>let ⟨xs,q⟩:=hs p hp;let ⟨gV,_,z⟩:=p.1.inv I q;⟨gV.toArray,z⟩
 refine callType_new F.called_zip (by decide) c1 c2 c3 F.entry_zip_new (Cq ks vs) ⟨lz,hv,λh' st kp=>⟨⟨_,st.z,rfl⟩,wpAny_pyIter_zip (s:={s with heap:=h'}) st.z ⟨_,_,_,_,H,rfl,I.kept (t':=s.toks) kp,wY ne lz λp hp=>?_,st,λc hc=>?_,q⟩⟩⟩
 .obtain⟨xs,q⟩:=hs p hp;obtain⟨gV,_,z⟩:=p.1.inv I q;exact p.1.lt z
 .have le:=(Zt.mp hc).1;exact I.fpOk le (I.hok.fresh le)
def all2{α:Type}{F:α->Prop}{x y:α}(h1:F x)(h2:F y):∀z∈[x,y],F z:=Wo.mpr ⟨h1,Wo.mpr ⟨h2,nofun⟩⟩
def GG:bootBuiltins "zip"=some (.type "zip"):=by decide +kernel
nonrec abbrev GK(K:Fg)(k1 k2:Kn)(a b:Addr):It:=Om K [(k1,a),(k2,b)]
abbrev qj(K:Fg)(k1 k2:Kn)(ta:TA):TI:=λσ H R=>ta σ H λvs H1=>∃a b xs ys,vs=[.ref a,.ref b]/\k1.sq K H1 a xs/\k2.sq K H1 b ys/\R (GK K k1 k2 a b) H1
def LA{x y:Expr} {ta:TA}  {x1} {p pos:Pos} (hg:Gl X "zip") (hm:X.mg "zip"=none) (ha:PA X [x,y] ta) (hs:starEach [x,y] X.env=[(false,eval x X.env),(false,eval y X.env)]:=by rfl) (hs2:starEach [y] X.env=[(false,eval y X.env)]:=by rfl) :
  PI X (.Tuple elts x1 tp) (.Call (.Name "zip" p) [x,y] [] pos) (qj X.K k1 k2 ta):=by
 intro ξ s σ H R I h;refine Call_ (dR I hg hm GG (RZ (bh (ha pos ξ s σ H _ I h) λus s1 ω=>?_) (by rw[hs,hs2]) (by rw[hs2];rfl)));obtain⟨vs,H1,I1,r1,a,b,xs,ys,e,s1q,s2q,q⟩:=ω;subst e;exact wR (ks:=[(k1,a),(k2,b)]) I1 r1 (WN _) aQ (all2 ⟨xs,s1q⟩ ⟨ys,s2q⟩) q (F.typeCall_zip_2 _ _) (F.newCall_zip_2 _ _) λo=>F.args_object_init_3 o _ _
def wS{K:Fg}{k1 k2:Kn}{i n:Nat}(q1:k1.sq K H a xs)(q2:k2.sq K H b ys)(e1:n<=xs.length)(e2:n<=ys.length)(e3:xs.length=n\/ys.length=n):(i<n->(GK K k1 k2 a b).go i H)/\(n<=i->(GK K k1 k2 a b).stop i H)/\∀{v H'},(GK K k1 k2 a b).yld i H v H'->∃T x y,H T=none/\v=.ref T/\H'=upd H T (.tup [x,y])/\xs[i]?=some x/\ys[i]?=some y:=by
 refine⟨λl=>all2 ⟨xs,q1,by lia⟩ ⟨ys,q2,by lia⟩,λl=>?_,λ⟨T,zs,h1,h2,h3,h4⟩=>?_⟩
 .have:∃p∈[(k1,a),(k2,b)],∃xs,p.1.sq K H p.2 xs/\xs.length<=i:=by
   rcases e3 with e|e
   .exact⟨_,.head _,xs,q1,by lia⟩
   .exact⟨_,.tail _ (.head _),ys,q2,by lia⟩
  exact all2 ⟨xs,q1,λ_=>this⟩ ⟨ys,q2,λ_=>this⟩
 .obtain _|⟨z1,_|⟨z2,_|_⟩⟩:=h4
  exact⟨T,_,_,h1,h2,h3,z1 xs q1,z2 ys q2⟩
end
section
variable{K:Fg}{te:TE}{σ:St}{Q:VK}{H:Hp}
abbrev Fy(g:TG)(n:Nat)(te:TE)(σ:St)(v:V)(H:Hp)(D:Addr)(m i:Nat)(Pv:Nat->Hp->Prop):Prop:=∀us:St,us.length=n->g v (us ++ σ) H λσ2 H2=>(∃us':St,us'.length=n/\σ2=us' ++ σ)/\te σ2 H2 (oB D m i Pv)
def vk{k1 k2:Kn}{xs ys:List V}(h:∀D,H D=none->∃Pv:Nat->Hp->Prop,Pv 0 (upd H D (.lst []))/\(∀i H2,i<=min xs.length ys.length->Pv i H2->k1.sq K H2 a xs/\k2.sq K H2 b ys) /\
  (∀i x y H2 T,xs[i]?=some x->ys[i]?=some y->Pv i H2->H2 T=none->Fy g n te σ (.ref T) (upd H2 T (.tup [x,y])) D (min xs.length ys.length) i Pv)/\∀H2,Pv (min xs.length ys.length) H2->Q (.ref D) H2):tT (GK K k1 k2 a b) n g te σ Q H:=by
 intro D nD;obtain⟨Pv,h0,hl,hs,hd⟩:=h D nD;refine⟨λi m H=>m=min xs.length ys.length-i/\i<=min xs.length ys.length/\Pv i H,⟨_,rfl,RL _,h0⟩,?_⟩;rintro i m H ⟨rfl,hi,p⟩;obtain⟨q1,q2⟩:=hl i H hi p;obtain⟨g1,g2,g3⟩:=wS (i:=i) (n:=min xs.length ys.length) q1 q2 (by lia) (by lia) (by lia);by_cases Ad:i<min xs.length ys.length
 .refine .inr ⟨g1 Ad,λv H' y us hu=>?_⟩;obtain⟨T,x,z,nT,rfl,rfl,z1,z2⟩:=g3 y;exact hs i x z H T z1 z2 p nT us hu
 .obtain rfl:i=min xs.length ys.length:=by lia
  exact .inl ⟨g2 (QH _),hd H p⟩
end
open PySem.W (Dat kqdOk)
def AccZ.cA{K:Fg}(A:AccZ K H0 l H ds)(r:Rz K H y d)(n:ds.length<sizeLine){Pv:Hp->Prop}(h:∀H2,AccZ K H0 l H2 (ds++[d])->Pv H2):Ka l Pv y H:=by
 obtain⟨xs,h1,h2⟩:=A.at_;refine⟨xs,h1,by rw[h2.length];exact n,h _ ⟨A.aj,A.new,xs++[y],L2.aj,?_⟩⟩;exact RzL.upd (h2.append (.cons r .nil)) h1
open PySem
section
variable{K:Fg}{σ:St}{H:Hp}{Q:VK}{te:TE}
def JJ{wi:TI}(h:wi σ H λJ H1=>tT J n g te σ Q H1):gc wi n g te σ H Q:=h
def OV{k1 k2:Kn}{ta:TA}{R:It->Hp->Prop}(h:ta σ H λvs H1=>∃a b xs ys,vs=[.ref a,.ref b]/\k1.sq K H1 a xs/\k2.sq K H1 b ys/\R (GK K k1 k2 a b) H1):qj K k1 k2 ta σ H R:=h
end
section
variable{K:Fg}{σ:St}{H:Hp}{Q:VK}{D:cq}{td ty tv te tk:TE}
def MW(h:tv σ H λv H1=>td σ H1 λx H2=>ty σ H2 λy H3=>∃a H4,x=.ref a/\DPut H3 a y v H4/\D.nx σ H4):pB td ty tv D σ H:=h
end
section
variable{X:Cx}{scope:Scope}
def LM{elt iter tg:Expr}{pos:Pos}{wi:TI}{g:TG}{te:TE}{n:Nat}(ys M:List Str)(c:oC X.env.scope X.N M ys scope)(hc:X.calm=true)(hi:PI X tg iter wi)(hg:∀C s₀ H₀ fp ξ,PG (a8 X ys M scope (gz scope X.env.cells) C s₀ H₀ fp ξ) tg g)(he:∀C s₀ H₀ fp ξ,PE (a8 X ys M scope (gz scope X.env.cells) C s₀ H₀ fp ξ) elt te)
  (hn:ys.length=n:=by rfl) (hs:∀v,foldedSetIterable iter X.env v=pure v:=by intro _;rfl):PE X (.ListComp elt [⟨tg,iter,[],0⟩] scope pos) (gc wi n g te):=by
 subst hn;exact LN c hc hi hg he hs
end
section
variable{X:Cx}
abbrev IF(K:Fg):List V->Hp->VK->Prop:=λxs H Q=>∃(a:Addr) (bs:List Bool),xs=[.ref a]/\SqL K H a (bs.map V.bl)/\Q (.bl (bs.all id)) H
def qE:∀{bs:List Bool} {us:List QF},Vals (bs.map V.bl) us->LSm.BoolsAre us bs
 |[],_,.nil=>.nil
 |b :: bs,_,.cons r rr=>by
  cases (show _=XW b from r);exact .cons b (qE rr)
def vG{M:Model}{A:RT}{E:QF->QP->Prop}{H:Hp}{bs:List Bool}(d:Bool)(I:Inv X ξ σ H s)(q1:SqL X.K H a (bs.map V.bl))(hh:A.handled=none)(hM:M=model X.prog X.w)
  {Qr:Bool->QF->QP->Prop} {f:(Nat->Bool)->Nat->Bool} {r:Bool} (hf:f (λi=>(bs[i]?).getD d) bs.length=r) (q:∀h' tk,Inv X ξ σ H {s with heap:=h',toks:=tk}->Qr r (.bool r) {s with heap:=h',toks:=tk}) :
  wpAny M A (pyIter (.ref a)) (λit s₂=>∃I fp wr n P St tr,it=.ref I/\YU X.prog X.w A I fp wr n P St/\St 0 s₂.heap/\TruthOf X.prog X.w A P tr/\∀h' tk,(∀b o,b∉wr->s₂.heap.get? b=some o->h'.get? b=some o)->Qr r (.bool (f tr n)) {s₂ with heap:=h',toks:=tk}) E s:=by
 subst hM;obtain⟨gV,rv,p,_⟩:=I.list q1;have hl:s.heap.IsList a gV.toArray:=p.isList;have hb:=qE rv;have Ad:a<s.heap.objs.size:=by obtain⟨_,e,_⟩:=hl;exact Q_ e
 refine Xg hl ⟨s.heap.objs.size,[s.heap.objs.size,a],[s.heap.objs.size],gV.toArray.size,_,_,λi=>(bs[i]?).getD d,rfl,YU.list hh _ a (RE Ad) gV.toArray,⟨⟨_,Rg _ rfl,rfl,rfl⟩,hl.push _⟩,λi v s' Q' E' hP hQ=>?_,λh' tk hk=>?_⟩
 .obtain⟨b,e,rfl⟩:=hb.get i v (by simpa using hP);dsimp only at hQ;rw[e] at hQ;exact SX hQ
 .rw[Rf,hb.length,hf];exact q h' tk (I.kept (t':=tk) λb o e=>hk b o (λz=>absurd (Q_ e) (by rw[QY.mp z];exact T7 _)) (QN _ e))
def Fh(hc:X.calm=true):eR X (.builtin "all") (IF X.K):=by
 intro ξ s σ H xs us Q I r h;obtain⟨a,bs,rfl,q1,q⟩:=h;obtain⟨u,rfl,ru⟩:=vals1 r;cases ru;refine call_all_walk (vG (f:=λtr n=>(QR n).all tr) (r:=bs.all id) true I q1 (by have:=I.ok.hd hc;simpa using this) rfl (LSm.range_all bs) (Qr:=λ_ v s'=>EP X ξ σ Q v s') λh' tk I2=>⟨.bl _,H,I2,rfl,q⟩)
def NJ:bootBuiltins "all"=some (.builtin "all"):=by decide +kernel
end
section
variable{X:Cx}{ys M:List Str}{scope:Scope}{cl:List (Str×Addr)}{C:Addr}{s:QP}{H:Hp}{fp:List Addr}{ξ:List (Addr×Obj)}{σ:St}
def LO{elt iter tg cn:Expr}{pos:Pos}{wi:TI}{g:TG}{tc:TT}{te:TE}{n:Nat}(ys M:List Str)(c0:oC X.env.scope X.N M ys scope)(hc:X.calm=true)(hi:PI X tg iter wi)(hg:∀C s₀ H₀ fp ξ,PG (a8 X ys M scope (gz scope X.env.cells) C s₀ H₀ fp ξ) tg g)
  (ht:∀C s₀ H₀ fp ξ,PT (a8 X ys M scope (gz scope X.env.cells) C s₀ H₀ fp ξ) cn tc) (he:∀C s₀ H₀ fp ξ,PE (a8 X ys M scope (gz scope X.env.cells) C s₀ H₀ fp ξ) elt te)
  (hn:ys.length=n:=by rfl) (hs:∀v,foldedSetIterable iter X.env v=pure v:=by intro _;rfl):PE X (.ListComp elt [⟨tg,iter,[cn],0⟩] scope pos) (d8 wi n g tc te):=by
 subst hn;exact λξ s σ H Q I h=>uA (c0.sc I.ok) hc hi hg (λC s₀ H₀ fp ξ=>zx (ht C s₀ H₀ fp ξ)) he hs ξ s σ H Q I h
def FM{elt iter tg cn:Expr}{pos py sp:Pos}{wi:TI}{g:TG}{tc:TT}{te:TE}{i n:Nat}{y:Str}(ys M:List Str)(hN:X.N.Nodup)(hy:X.N[i]?=some y)(ly:X.env.scope.names.lookup y=some .local)(c0:oC X.env.scope X.N M ys scope)(hc:X.calm=true)(hi:PI X tg iter wi)
  (hg:∀C s₀ H₀ fp ξ,PG (a8 X ys M scope (gz scope X.env.cells) C s₀ H₀ fp ξ) tg g) (ht:∀C s₀ H₀ fp ξ,PT (a8 X ys M scope (gz scope X.env.cells) C s₀ H₀ fp ξ) cn tc) (he:∀C s₀ H₀ fp ξ,PE (a8 X ys M scope (gz scope X.env.cells) C s₀ H₀ fp ξ) elt te) (hn:ys.length=n:=by rfl)
  (hsw:swapsWith (.ListComp elt [⟨tg,iter,[cn],0⟩] scope pos) (some (.Name y py)) sp.line X.env=pure true:=by rfl) (hs:∀v,foldedSetIterable iter X.env v=pure v:=by intro _;rfl) :
  PS X (.Assign [.Name y py] (.ListComp elt [⟨tg,iter,[cn],0⟩] scope pos) sp) (aw (d8 wi n g tc te) (al i)):=by
 subst hn;exact λξ s σ H D I h=>Ed hy ly (c0.sc I.ok) hN hc hi hg (λC s₀ H₀ fp ξ=>zx (ht C s₀ H₀ fp ξ)) he hsw hs ξ s σ H D I h
end
section
variable{K:Fg}{tc:TT}{te:TE}{σ:St}{Q:VK}{H:Hp}
def JK{wi:TI}(h:wi σ H λJ H1=>wK J n g tc te σ Q H1):d8 wi n g tc te σ H Q:=h
abbrev Ql(n i:Nat)(Pv:Nat->Hp->Prop):Hp->Prop:=λH2=>∃m',m'<n-i/\m'=n-(i+1)/\i+1<=n/\Pv (i+1) H2
abbrev Fz(g:TG)(n:Nat)(tc:TT)(te:TE)(σ:St)(v:V)(H:Hp)(D:Addr)(m i:Nat)(Pv:Nat->Hp->Prop):Prop:=∀us:St,us.length=n->g v (us ++ σ) H λσ2 H2=>(∃us':St,us'.length=n/\σ2=us' ++ σ)/\tc σ2 H2 λb H3=>if b=true then te σ2 H3 (oB D m i Pv) else Ql m i Pv H3
def fe{n i:Nat}{Pv:Nat->Hp->Prop}(hi:i<n)(h:Pv (i+1) H2):Ql n i Pv H2:=⟨n-(i+1),by lia,rfl,hi,h⟩
def BI{k1 k2:Kn}{xs ys:List V}(h:∀D,H D=none->∃Pv:Nat->Hp->Prop,Pv 0 (upd H D (.lst []))/\(∀i H2,i<=min xs.length ys.length->Pv i H2->k1.sq K H2 a xs/\k2.sq K H2 b ys) /\
  (∀i x y H2 T,xs[i]?=some x->ys[i]?=some y->Pv i H2->H2 T=none->Fz g n tc te σ (.ref T) (upd H2 T (.tup [x,y])) D (min xs.length ys.length) i Pv)/\∀H2,Pv (min xs.length ys.length) H2->Q (.ref D) H2):wK (GK K k1 k2 a b) n g tc te σ Q H:=by
 intro D nD;obtain⟨Pv,h0,hl,hs,hd⟩:=h D nD;refine⟨λi m H=>m=min xs.length ys.length-i/\i<=min xs.length ys.length/\Pv i H,⟨_,rfl,RL _,h0⟩,?_⟩;rintro i m H ⟨rfl,hi,p⟩;obtain⟨q1,q2⟩:=hl i H hi p;obtain⟨g1,g2,g3⟩:=wS (i:=i) (n:=min xs.length ys.length) q1 q2 (by lia) (by lia) (by lia);by_cases Ad:i<min xs.length ys.length
 .refine .inr ⟨g1 Ad,λv H' y us hu=>?_⟩;obtain⟨T,x,z,nT,rfl,rfl,z1,z2⟩:=g3 y;exact hs i x z H T z1 z2 p nT us hu
 .obtain rfl:i=min xs.length ys.length:=by lia
  exact .inl ⟨g2 (QH _),hd H p⟩
end
section
variable{K:Fg}{te:TE}{σ:St}{Q:VK}{H:Hp}
def M3{bs:List Bool}(e:SqL K H a (bs.map V.bl))(h:Q (.bl (bs.all id)) H):IF K [.ref a] H Q:=⟨a,bs,rfl,e,h⟩
def AccZ.bls{bs:List Bool}(A:AccZ K H0 l H (bs.map ZV)):SqL K H l (bs.map V.bl):=by
 obtain⟨xs,h1,h2⟩:=A.at_
 have:∀{vs:List V} {bs:List Bool},RzL K H vs (bs.map ZV)->vs=bs.map V.bl:=by
  intro vs bs
  induction bs generalizing vs with
  |nil=>intro h;cases h;rfl
  |cons b bs ih =>
   intro h;cases h with
   |cons h1 h2 =>
    cases h1;rw[ih h2];rfl
 rw[this h2] at h1;exact SqL.of h1
end
end L2
namespace Gd
abbrev gd(a b:Int):Int:=(Zu a b:Nat)
def Ba(a b:Int):gd b (Zv a b)=gd a b:=by
 unfold gd
 have e:Zv a b=a+b*(-(Yy a b)):=by
  rw[Zw,Z7];lia
 rw[e,Int.gcd_add_mul_left_right,Int.gcd_comm]
def Bc{b:Int}(h:b≠0):(Zv a b).natAbs<b.natAbs:=by
 rcases (by lia:0<b\/b<0) with p|p
 .have h1:=X6 a p;have h2:=Za a p;lia
 .have e:Zv a b = -(Zv (-a) (-b)):=by
   rw[Zw,Zw,Int.neg_fdiv_neg];rw[U9];lia
  have h1:=X6 (-a) (b:=-b) (by lia);have h2:=Za (-a) (b:=-b) (by lia);lia
def JR(a:Int):gd a 0=(a.natAbs:Int):=by
 unfold gd;rw[Int.gcd_zero_right]
def Gs(a:Int):(if a<0 then -a else a)=gd a 0:=by
 rw[JR];split <;> lia
def uY{b:Int}(h:b≠0):0<gd a b:=by
 unfold gd
 have:Zu a b≠0:=λe=>h (Int.gcd_eq_zero_iff.mp e).2
 lia
def Bb(a b:Int):0<=gd a b:=W5 _
structure Low (top bottom q p:Int):Prop where
 pos:0<p
 low:gd q p=1
 worth:q*bottom=top*p
def uL{b d:Int}(hb:b≠0)(hd:d=gd t b/\0<b\/d = - gd t b/\b<0):Low t b (Yy t d) (Yy b d):=by
 have gp:=uY (a:=t) hb;have d1:gd t b∣t:=XO t b;have d2:gd t b∣b:=Xk t b;have e1:d∣t:=by rcases hd with⟨e,_⟩|⟨e,_⟩ <;> rw[e];exact d1;exact Xl.mpr d1
 have e2:d∣b:=by rcases hd with⟨e,_⟩|⟨e,_⟩ <;> rw[e];exact d2;exact Xl.mpr d2
 have d0:d≠0:=by rcases hd with⟨e,_⟩|⟨e,_⟩ <;> lia
 obtain⟨q,rfl⟩:=e1;obtain⟨p,rfl⟩:=e2;rw[Vt _ d0,Vt _ d0];refine⟨?_,?_,?_⟩
 .rcases hd with⟨e,z⟩|⟨e,z⟩
  .exact Xz z (by lia) |> λh=>h
  .have z':0<(-d)*p:=by rw[U9];lia
   exact Xz z' (by lia)
 .have m:gd (d*q) (d*p)=(d.natAbs:Int)*gd q p:=by
   unfold gd;rw[XQ];simp
  have n:gd (d*q) (d*p)=(d.natAbs:Int):=by
   rcases hd with⟨e,z⟩|⟨e,z⟩ <;> lia
  rw[n] at m;have k:(d.natAbs:Int)*gd q p=(d.natAbs:Int)*1:=by lia
  exact Vk (by lia) k
 .rw[<- SA,TK q d]
def nU{t d:Int}(h:d≠0)(hd:d∣t):(Yy t d).natAbs<=t.natAbs:=by
 obtain⟨q,rfl⟩:=hd;rw[Vt _ h,RM];exact SB _ (by lia)
def sU{b d:Int}(hb:b≠0)(hd:d=gd t b/\0<b\/d = - gd t b/\b<0):(Yy t d).natAbs<=t.natAbs/\(Yy b d).natAbs<=b.natAbs:=by
 have gp:=uY (a:=t) hb;have d1:gd t b∣t:=XO t b;have d2:gd t b∣b:=Xk t b;have d0:d≠0:=by rcases hd with⟨e,_⟩|⟨e,_⟩ <;> lia
 refine⟨nU d0 ?_,nU d0 ?_⟩
 .rcases hd with⟨e,_⟩|⟨e,_⟩ <;> rw[e];exact d1;exact Xl.mpr d1
 .rcases hd with⟨e,_⟩|⟨e,_⟩ <;> rw[e];exact d2;exact Xl.mpr d2
end Gd
namespace Fr
open PySem L2
abbrev oT:Sp:=λvs H Q _=>∃a b:Int,vs=[.int a,.int b]/\Q (.int (Gd.gd a b)) H
abbrev KI:TS:=(am (h_ (aR (ar wL (aa 1) (tC (.int 0))))
 (am (aw (ar ID (aa 0) (aa 1)) (al 2))
 (am (aw (aa 1) (al 0))
 (aw (aa 2) (al 1)))))
 (aG (bo Lj (ae (aa 0) ag))))
def K8(a b:Int)(H:Hp)(D:cq)(k:D.rt (.int (Gd.gd a b)) H):KI D [↥a,↥b,none] H:=by
 refine iT (λσ H'=>H'=H/\∃(i j:Int) (v:Option V),σ=[↥i,↥j,v]/\Gd.gd i j=Gd.gd a b)
  (λσ _=>match σ with | [_,↥j,_]=>j.natAbs|_=>0) ⟨rfl,a,b,none,rfl,rfl⟩ ?_ ?_
 .rintro σ H' ⟨rfl,i,j,v,rfl,e⟩;refine⟨_,rfl,rfl,_,rfl,M7 (λhj=>?_) (λhj=>?_)⟩
  .refine⟨_,rfl,_,rfl,_,_,rfl,rfl,hj,_,rfl,_,rfl,⟨rfl,j,i.fmod j,_,rfl,(Gd.Ba i j).trans e⟩,?_⟩;exact Gd.Bc hj
  .subst hj;refine⟨_,rfl,_,rfl,?_⟩;rw[Gd.Gs,e];exact k
 .rintro σ H' R R' h ⟨v,e,sc,c,ec,q⟩;exact⟨v,e,sc,c,ec,h _ _ q⟩
open PySem.W (Dat kqdOk)
abbrev cellOf(ns:List Int)(k:Int):Int:=(ns[k.toNat]?).getD 0
abbrev c6(K:Fg):Sp:=λvs H Q _=>∃(a:Addr) (ns:List Int) (k:Int),vs=[.ref a,.int k]/\SqL K H a (ns.map V.int)/\0<=k/\Q (.int (cellOf ns k)) H
abbrev KJ(K:Fg):TS:=(am (aS (aR (ar wM (aa 1) (bo (bW K) (ae (aa 0) ag))))
 (aG (ar (bJ K) (aa 0) (aa 1)))
 aV)
 (aG (tC (.int 0))))
def Ir{K:Fg}{ns:List Int}{k:Int}{D:cq}(hS:SqL K H a (ns.map V.int))(h0:0<=k)(q:D.rt (.int (cellOf ns k)) H):KJ K D [⇑a,↥k] H:=by
 have el:(ns.map V.int).length=ns.length:=Qx _;refine⟨_,rfl,_,rfl,a,_,rfl,.inl hS,_,_,rfl,rfl,_,rfl,M8 (λc=>?_) (λc=>?_)⟩
 .rw[el] at c;have hk:k.toNat<ns.length:=by lia
  have e:k=((k.toNat:Nat):Int):=by lia
  have z:cellOf ns k=ns[k.toNat]:=by
   unfold cellOf;rw[Qy hk];rfl
  have w:om (ns.map V.int) ((k.toNat:Nat):Int)=some (.int ns[k.toNat]):=aI (by rw[QD];simp[hk]);rw[<- e] at w;rw[z] at q;exact⟨_,rfl,_,rfl,a,_,_,_,rfl,rfl,hS,w,q⟩
 .rw[el] at c
  have z:cellOf ns k=0:=by
   unfold cellOf;rw[RD (by lia)];rfl
  rw[z] at q;exact q
abbrev i7:Sp:=λvs H Q _=>∃i:Int,vs=[.int i]/\Q (.bl true) H
abbrev FF (K:Fg):TS:=(aG (gf (bo (dq K) (ae (aa 0) (ae (tC (.ty "int")) ag))) (yl (bo (dq K) (ae (aa 0) (ae (tC (.ty "bool")) ag))))))
def DC{K:Fg}{D:cq}(q:D.rt (.bl true) H):FF K D [↥i] H :=
 ⟨_,rfl,_,_,_,_,rfl,TyOf.int i,Mt,_,rfl,wy ⟨_,rfl,_,_,_,_,rfl,TyOf.int i,Mu,_,rfl,q⟩⟩
end Fr
namespace Kd
end Kd
namespace Ex0
end Ex0
namespace L2
open PySem PySem.SetTable
def gy{α:Type}(l:List α)(p:Nat)(x:α)(_hp:p<=l.length):insertAt l.toArray p x=(l.take p++x :: l.drop p).toArray:=by
 unfold insertAt;apply Array.ext';simp[List.extract_eq_take_drop];rw[QM (by simp)]
def vS{t:S_}{l:List Nat}(hp:t.place=l.toArray)(hd:t.dummies = #[]){j:Nat}(h:j∉l):t.slot j=.empty:=by
 unfold S_.slot;rw[hp,hd];show(if l.toArray[below l.toArray j]? == some j then _ else _)=_;rw[if_neg,if_neg]
 .simp[has,below,below.go]
 .intro e;exact h (QI (by simpa using e))
def uX{α:Type}{l:List α}{p:Nat}(hp:p<=l.length)(x:α)(i:Nat):(l.take p++x :: l.drop p)[i]? = if i<p then l[i]? else if i=p then some x else l[i-1]?:=by
 have ht:(l.take p).length=p:=by rw[Q3];lia
 by_cases h1:i<p
 .rw[if_pos h1,RV (by lia),Zb,if_pos h1]
 .rw[if_neg h1,R4 (by lia),ht];by_cases h2:i=p
  .rw[if_pos h2,h2,X7];rfl
  .rw[if_neg h2,show i-p=(i-p-1)+1 by lia,Th,Zc];congr 1;lia
open PySem PySem.Spec PyProof.Rows
open PySem.W (Dat kqdP kqdOk)
section
variable{prog:Rx}{w:RQ}{A:RT}{R:ZQ->QP->Prop}{I:Addr}{fp wr:List Addr}{n:Nat}{P:Nat->QF->Prop}{St:Nat->Heap->Prop}
def Di(W:YU prog w A.in1 I fp wr n P St)(S:Addr)(nS:S∉fp)(Z:Nat->Heap->Prop)(zk:∀i h h',Z i h->(∀b o,b∉wr->h.get? b=some o->h'.get? b=some o)->Z i h')
  (za:∀i v (s:QP) (Q:Bool->QP->Prop) (E:QF->QP->Prop),i<n->P i v->Z i s.heap->(∀r h' tk,Z (i+1) h'->(∀b,b≠S->h'.get? b=s.heap.get? b)->Q r {s with heap:=h',toks:=tk})->wpAny (model prog w) A.in1 (setAdd S v) Q E s) :
  ∀(k i:Nat) (s:QP),n-i=k->i<=n->St i s.heap->Z i s.heap->(∀h' tk,Z n h'->(∀b o,b∉S :: wr->s.heap.get? b=some o->h'.get? b=some o)->R (.ok (.ret .none)) {s with heap:=h',toks:=tk}) ->
   codeAny (model prog w) A (.builtin "set.update.loop" ⟨[.ref S,.ref I],[]⟩) R s:=by
 have nw:S∉wr:=λh=>nS (W.sub _ h)
 intro k
 induction k with
 |zero =>
  intro i s hk hi hst hz hR;obtain rfl:i=n:=by lia
  refine UY XR ?_;rw[Uv VG _];refine(show wpAny _ A.in1 (pyNext (.ref I) >>= _) _ _ s from QE (W.done s _ _ hst λh' tk hm=>?_));refine(show wpAny _ A.in1 (ret Td) _ _ _ from Q1 (hR h' tk (zk _ _ _ hz hm) λb o hb e=>hm b o (λz=>hb (QL _ z)) e))
 |succ k ih =>
  intro i s hk hi hst hz hR;have Ad:i<n:=by lia
  refine UY XR ?_;rw[Uv VG _];refine(show wpAny _ A.in1 (pyNext (.ref I) >>= _) _ _ s from QE (W.item i s _ _ Ad hst λv h' tk hP hst' hm=>?_));refine(show wpAny _ A.in1 (holding [v] (setAdd S v) >>= _) _ _ _ from QE (T8 (za i v _ _ _ Ad hP (zk _ _ _ hz hm) λr h2 tk2 z2 k2=>?_)));refine Q1 ⟨XA VG _,ih (i+1) _ (by lia) Ad (W.frame _ _ _ hst' λb hb o e=>?_) z2 λh3 tk3 z3 k3=>hR h3 tk3 z3 λb o hb e=>?_⟩
  .exact(k2 b λz=>nS (z ▸ hb)).trans e
  .refine k3 b o hb ((k2 b λz=>hb (z ▸ QK)).trans (hm b o (λz=>hb (QL _ z)) e))
end
namespace F
def sub_tuple_set:isSubtype (.type "tuple") (.type "set")=pure false:=by rw[VP];kernel_rfl
def sub_tuple_frozenset:isSubtype (.type "tuple") (.type "frozenset")=pure false:=by rw[VP];kernel_rfl
end F
section
variable{prog:Rx}{w:RQ}{A:RT}{E:QF->QP->Prop}{s:QP}
def Kn.walks(k:Kn)(hh:A.handled=none)(I ax:Addr)(hne:ax≠I)(items:Array QF):YU prog w A I [I,ax] [I] items.size (λi v=>items[i]?=some v) (λi h=>k.it h I ax i/\k.seq h ax items):=by
 cases k
 .exact YU.list hh I ax hne items
 .exact YU.tuple hh I ax hne items
abbrev uj (led:Bool):Obj:={cls:=.type "set",dict:=none,data:=.set #[] 0 (.fresh 0 0 led)}
end
def NF:bootBuiltins "set"=some (.type "set"):=by decide +kernel
open PySem PySem.Spec PyProof.Rows PySem.SetTable
abbrev Ko(K:Fg)(a:Addr):It :=
 ⟨λi H=>∃xs,SqL K H a xs/\i<xs.length,λi H v H'=>∃T x,H T=none/\v=.ref T/\H'=upd H T (.tup [.int i,x])/\∀xs,SqL K H a xs->xs[i]?=some x,λi H=>∃xs,SqL K H a xs/\xs.length<=i⟩
def w_{K:Fg}{x1}{a e it:Addr}(n1:e≠it)(n2:a≠it) :
  qL P w K (.Tuple elts x1 pos) (Ko K a) [e,it] e (λi h=>(∃old,IsEnum h e it (i:Int) old)/\h.IsListIter it a i) where
 mem:=by simp
 obj:=λi h ⟨⟨old,he⟩,t⟩ c hc=>by
  simp only[Q5,Ub,or_false] at hc;rcases hc with rfl|rfl
  .exact⟨_,he,λv q=>by cases (show Yp _=XF v from q)⟩
  .obtain⟨o,ho,_,d⟩:=t;exact⟨o,ho,λv q=>by rw[d] at q;cases q⟩
 keep:=(by rintro i h h' ⟨⟨old,he⟩,t⟩ kp;exact ⟨⟨old,kp e (by simp) _ he⟩,t.at λo z=>kp it (by simp) o z⟩)
 item:=by
  intro X hP hw hK hc i ξ s σ H E I hf ⟨⟨old,he⟩,t⟩ hg;subst hP hw hK;obtain⟨xs,q1,l1⟩:=hg;obtain⟨gV,r1,p,_⟩:=I.list q1;obtain⟨u1,e1,ru1⟩:=r1.get (Qy l1);refine wpAny_pyNext_enum_item he t p.isList (x:=u1) (by simpa using e1) n1 λh' he' t' hT sz all=>⟨_,rfl,?_⟩
  refine wpAny_letOwnedTupleGo_enum (s:={s with heap:=h',toks:=s.toks+1}) he' λh2 he2 sb=>?_
  have hfr:H s.heap.objs.size=none:=I.hok.fresh (QH _)
  have nT:∀c∈[e,it],c≠s.heap.objs.size:=λc hc'=>by
   simp only[Q5,Ub,or_false] at hc';rcases hc' with rfl|rfl
   .exact RE (Q_ he)
   .obtain⟨o,ho,_⟩:=t;exact RE (Q_ ho)
  have I1:Inv X ξ σ (upd H s.heap.objs.size (.tup [.int i,xs[i]])) {s with heap:=s.heap.push {cls:=.type "tuple",data:=.seq #[.int i s.toks,u1]}} :=
   I.laid (t':=s.toks) (λb u z=>QN _ z) (QH _) ⟨aQ,[.int i s.toks,u1],.cons ⟨_,rfl⟩ (.cons ru1 .nil),TupD.new _ _⟩
  have I2:Inv X ξ σ (upd H s.heap.objs.size (.tup [.int i,xs[i]])) {s with heap:=h2,toks:=s.toks+1}:=Inv.lV (s:={s with heap:=s.heap.push {cls:=.type "tuple",data:=.seq #[.int i s.toks,u1]}}) (t':=s.toks+1) (fp:=[e,it]) I1 (λc o hc' z=>by
   have c1:c≠e:=λx=>hc' (by simp[x])
   have c2:c≠it:=λx=>hc' (by simp[x])
   rcases Yx z with⟨ec,eo⟩|z
   .rw[ec,eo];exact sb.extBut _ _ (nT e (by simp)).symm hT
   .exact sb.extBut _ _ c1 (all c o c1 c2 z)) λc hc'=>⟨by rw[aJ (nT c hc')];exact(hf c hc').1,(hf c hc').2⟩
  exact⟨.ref s.heap.objs.size,_,I2,rfl,⟨s.heap.objs.size,xs[i],hfr,rfl,rfl,λzs hz=>by rw[I.nG hz q1,Qy l1]⟩,⟨⟨_,he2⟩,t'.at λo z=>sb.extBut _ _ n1.symm z⟩,λc hc'=>by rw[aJ (nT c hc')];exact(hf c hc').1⟩
 done:=by
  intro X hP hw hK hc i ξ s σ H E I hf ⟨⟨old,he⟩,t⟩ hg;subst hP hw hK;obtain⟨xs,q1,le⟩:=hg;obtain⟨gV,r1,p,_⟩:=I.list q1;have e1:=r1.length;exact wpAny_pyNext_enum_end (I.ok.hd hc) he t p.isList (by simp;lia) λh' all=>⟨rfl,I.lV (t':=s.toks) (λc o hc' z=>all c o (λx=>hc' (by simp[x])) z) hf⟩
 self:=λ_ _ _ _ _ st q=>let ⟨⟨_,he⟩,_⟩:=st;wpAny_pyIter_enum he q
abbrev iM(K:Fg)(ta:TA):TI:=λσ H R=>ta σ H λvs H1=>∃a xs,vs=[.ref a]/\SqL K H1 a xs/\R (Ko K a) H1
def qK:bootBuiltins "enumerate"=some (.type "enumerate"):=by decide +kernel
section
variable{X:Cx}
def IY{x:Expr} {ta:TA}  {x1} {p pos:Pos} (hg:Gl X "enumerate") (hm:X.mg "enumerate"=none) (ha:PA X [x] ta) (hs:starEach [x] X.env=[(false,eval x X.env)]:=by rfl) :
  PI X (.Tuple elts x1 tp) (.Call (.Name "enumerate" p) [x] [] pos) (iM X.K ta):=by
 intro ξ s σ H R I h;refine Call_ (dR I hg hm qK (RZ (bh (ha pos ξ s σ H _ I h) λus s1 ω=>?_) (by rw[hs];rfl) (by rfl)));obtain⟨vs,H1,I1,r1,q1⟩:=ω;obtain⟨a,xs,e,sq,q⟩:=q1;subst e;obtain⟨u1,rfl,ra⟩:=vals1 r1;cases ra;obtain⟨gV,rv,p1,_⟩:=I1.list sq;have lt:a<s1.heap.objs.size:=by obtain⟨_,z,_⟩:=p1.isList;exact Q_ z
 refine call_enumerate_list p1.isList λh' he t sz kp=>?_
 refine wpAny_pyIter_enum (s:={s1 with heap:=h'}) he ?_;refine⟨s1.heap.objs.size+1,[s1.heap.objs.size+1,s1.heap.objs.size],_,_,H1,rfl,I1.kept (t':=s1.toks) kp,w_ (Nat.succ_ne_self _) (RE lt),⟨⟨_,he⟩,t⟩,λc hc=>?_,q⟩
 have le2:s1.heap.objs.size<=c:=by
  simp only[Q5,Ub,or_false] at hc;rcases hc with rfl|rfl
  .exact Yt _
  .exact QH _
 exact I1.fpOk le2 (I1.hok.fresh le2)
end
section
variable{K:Fg}{te:TE}{tc:TT}{σ:St}{Q:VK}{H:Hp}{D:cq}
def MV{ta:TA}{R:It->Hp->Prop}(h:ta σ H λvs H1=>∃a xs,vs=[.ref a]/\SqL K H1 a xs/\R (Ko K a) H1):iM K ta σ H R:=h
def dG{xs:List V}{g:TG}{tb:TS}(Pv:Nat->St->Hp->Prop)(h0:Pv 0 σ H)(hl:∀i σ H,i<=xs.length->Pv i σ H->SqL K H a xs)
  (hs:∀i x σ H T,xs[i]?=some x->Pv i σ H->H T=none->g (.ref T) σ (upd H T (.tup [.int i,x])) λσ2 H2=>tb {D with nx:=Pv (i+1),ct:=Pv (i+1),bk:=D.nx} σ2 H2) (hd:∀σ H,Pv xs.length σ H->D.nx σ H):wP (Ko K a) g tb D σ H:=by
 refine⟨λi m σ H=>m=xs.length-i/\i<=xs.length/\Pv i σ H,⟨_,rfl,RL _,h0⟩,?_⟩;rintro i m σ H ⟨rfl,hi,p⟩;have q:=hl i σ H hi p;by_cases Ad:i<xs.length
 .refine .inr ⟨⟨xs,q,Ad⟩,Pv (i+1),λσ' H' p'=>⟨xs.length-(i+1),by lia,rfl,Ad,p'⟩,λv H' y=>?_⟩;obtain⟨T,x,nT,rfl,rfl,z⟩:=y;exact hs i x σ H T (z xs q) p nT
 .have e:i=xs.length:=by lia
  subst e;exact .inl ⟨⟨xs,q,QH _⟩,hd σ H p⟩
end
abbrev Iz:R2:=λx y H Q=>∃z i,x=.str z/\y=.int i/\(i=0\/i=1)/\Q (.str (if i=0 then XH else z)) H
section
variable{X:Cx}
def Je:fD X (binaryOp .Mult) Iz:=by
 intro ξ s σ H x y v u Q I rx ry h;obtain⟨z,i,rfl,rfl,hi,q⟩:=h;obtain⟨t,rfl⟩:=rx;obtain⟨t',rfl⟩:=ry;rcases hi with rfl|rfl
 .exact P.mul_str_none (by decide) (by decide) ⟨.str XH,H,I.tok _,⟨_,rfl⟩,q⟩
 .refine P.mul_str (by decide) (λ_ e=>by simp at e) (λ_ e=>by simp at e) ?_;rw[if_neg (by decide),if_pos (by simp)];exact⟨.str z,H,I,⟨_,rfl⟩,q⟩
def MH{Q:VK}{z:Str}{i:Int}(hi:i=0\/i=1)(q:Q (.str (if i=0 then XH else z)) H):Iz (.str z) (.int i) H Q:=⟨z,i,rfl,rfl,hi,q⟩
end
open PySem.W (Dat kqdOk kqdP kqdPs)
abbrev uu(K:Fg):V->List V->Hp->VK->Prop:=λx xs H Q=>∃(a:Addr) (y:V) (ds:List Dat) (d:Dat) (j:Nat),x=.ref a/\xs=[y]/\Rep K H y d/\Rep K H (.ref a) (.list ds)/\(∀e∈ds,kqdOk 8 e=true)/\kqdOk 8 d=true/\ds[j]?=some d/\(∀m,m<j->ds[m]?≠some d)/\ds.length<=1000/\Q (.int j) H
open Classical in
def vd(he:kqdOk 8 e=true)(hd:kqdOk 8 d=true):Vz (kqdP e) (kqdP d)=decide (d=e):=by
 have h:=tO (ds:=[e]) (d:=d) (λx hx=>by rw[QY.mp hx];exact he) hd;rw[kqdPs,kqdPs,Xu,List.any_nil,Zaw] at h;rw[h];by_cases z:d=e
 .simp[z]
 .simp[z]
def jK:∀{ds:List Dat} {i:Nat},(kqdPs ds)[i]? = (ds[i]?).map kqdP
 |[],i=>by rw[kqdPs];simp
 |d :: ds,0=>by rw[kqdPs];rfl
 |d :: ds,i+1=>by rw[kqdPs,Th,Th,jK]
def jJ:∀ds:List Dat,(kqdPs ds).length=ds.length
 |[]=>by rw[kqdPs];rfl
 |d :: ds=>by rw[kqdPs,Ru,Ru,jJ]
open Classical in
def EE{X:Cx} (hu:X.A.units+64<cLine):Oj X "list.index" (uu X.K):=by
 intro ξ s σ H x xs v us Q I rx rv h;obtain⟨a,y,ds,d,j,rfl,rfl,hd,he,ka,kd,e1,e2,ln,q⟩:=h;obtain⟨u,rfl,ru⟩:=vals1 rv;obtain⟨as,ra⟩:=Rep.reads I hd ru;obtain⟨bs,rb⟩:=Rep.reads I he rx;rw[kqdP] at rb;cases rx;generalize hp:kqdPs ds=ps at rb;cases rb with
 |@list _ o gV n _ _ h1 h2 h3 h4 =>
  obtain⟨c,dct,dt,sl⟩:=o;replace h2:c=.type "list":=h2;replace h3:dt=.seq gV n:=h3;subst h2 h3;have hxs:Zx ps=true:=by rw[<- hp];exact(V5 ka).1
  have hmap:=Zd ps _ _ hxs h4;have lj:j<ds.length:=(QC.mp e1).1
  have at_:∀m (hm:m<gV.size),Vz (Uw s.heap gV[m]) (kqdP d)=decide (ds[m]?=some d):=by
   intro m hm;have g:(gV.toList.map (Uw s.heap))[m]?=some (Uw s.heap gV[m]):=by rw[QD,Rq,Array.getElem?_eq_getElem hm];rfl
   rw[hmap,<- hp,jK] at g;obtain⟨e,ge,gp⟩:=QG.mp g;rw[<- gp,vd (ka e (QI ge)) kd,ge];by_cases z:d=e
   .simp[z]
   .have:e≠d:=λw=>z w.symm
    simp[z,this]
  have szl:gV.size=ds.length:=by
   have:=congrArg Sr hmap
   rw[Qx,Ro,<- hp] at this;rw[this,jJ]
  have hm:wpAny (model X.prog X.w) X.A (call (.builtin "list.index") [.ref a,u]) (EP X ξ σ Q) X.xe s:=by
   refine Vx F.slot_list_index ⟨_,h1,rfl⟩ F.entry_list_index (F.args_list_index_2 _ _) (SeqAt.list_indexAt a gV n dct sl u (λy=>Vz (Uw s.heap y) (kqdP d)) j (by lia) (by lia) ?_ ?_) ⟨h1,ZW h4 ra hxs (TW 8 d kd).1 ?_,⟨.int j,H,I.tok _,⟨_,rfl⟩,q⟩⟩
   .rw[at_ j (by lia),e1];simp
   .intro m hm hmj;rw[at_ m hm];exact decide_eq_false (e2 m hmj)
   .have l:=(TW 8 d kd).2
    have:=Vd (WA ps) (kqdP d).depth
    lia
  exact hm
def AK{K:Fg}{Q:VK}{j:Nat}(hd:Rep K H y d)(he:Rep K H (.ref a) (.list ds))(ka:∀e∈ds,kqdOk 8 e=true)(kd:kqdOk 8 d=true)(e1:ds[j]?=some d)(e2:∀m,m<j->ds[m]?≠some d)(l:ds.length<=1000)(q:Q (.int j) H):uu K (.ref a) [y] H Q :=
 ⟨a,y,ds,d,j,rfl,rfl,hd,he,ka,kd,e1,e2,l,q⟩
section
variable{K:Fg}{σ:St}{Q:VK}{H:Hp}{td ty:TE}{D:cq}
def MX(h:td σ H λx H1=>ty σ H1 λy H2=>∃a v,x=.ref a/\DGet H2 a y (some v)/\Q v H2):rN td ty σ H Q:=h
def EQ(h:ty σ H λy H1=>td σ H1 λx H2=>∃a o,x=.ref a/\DGet H2 a y o/\Q (.bl (!o.isSome)) H2):rM ty td σ H Q:=h
def JI(h:td σ H λx H1=>∃a,x=.ref a/\Qa H1 a/\ty σ H1 λy H2=>∃o,DGet H2 a y o/\Q (o.getD .non) H2):yn td ty σ H Q:=h
def O7{ta:TA}(h:ta σ H λvs H1=>∃v w,vs=[v,w]/\D.nx ((σ.set i (some v)).set j (some w)) H1):C4 i j ta D σ H:=h
end
section
variable{K:Fg}{te:TE}{tc:TT}{σ:St}{Q:VK}{H:Hp}
def k9{xs:List V}(h:∀D,H D=none->∃Pv:Nat->Hp->Prop,Pv 0 (upd H D (.lst []))/\(∀i H2,i<=xs.length->Pv i H2->SqL K H2 a xs)/\(∀i x H2,xs[i]?=some x->Pv i H2->Fz g n tc te σ x H2 D xs.length i Pv)/\∀H2,Pv xs.length H2->Q (.ref D) H2):wK (vC K a) n g tc te σ Q H:=by
 intro D nD;obtain⟨Pv,h0,hl,hs,hd⟩:=h D nD;refine⟨λi m H=>m=xs.length-i/\i<=xs.length/\Pv i H,⟨_,rfl,RL _,h0⟩,?_⟩;rintro i m H ⟨rfl,hi,p⟩;have q:=hl i H hi p;by_cases Ad:i<xs.length
 .refine .inr ⟨⟨xs,xs[i],q,Qy Ad⟩,λv H' y us hu=>?_⟩;obtain⟨rfl,z⟩:=y;exact hs i v _ (z xs q) p us hu
 .have e:i=xs.length:=by lia
  subst e;exact .inl ⟨⟨xs,q,QH _⟩,hd H p⟩
def k_{xs:List V}(h:∀D,H D=none->∃Pv:Nat->Hp->Prop,Pv 0 (upd H D (.lst []))/\(∀i H2,i<=xs.length->Pv i H2->SqL K H2 a xs) /\
  (∀i x H2 T,xs[i]?=some x->Pv i H2->H2 T=none->Fz g n tc te σ (.ref T) (upd H2 T (.tup [.int i,x])) D xs.length i Pv)/\∀H2,Pv xs.length H2->Q (.ref D) H2):wK (Ko K a) n g tc te σ Q H:=by
 intro D nD;obtain⟨Pv,h0,hl,hs,hd⟩:=h D nD;refine⟨λi m H=>m=xs.length-i/\i<=xs.length/\Pv i H,⟨_,rfl,RL _,h0⟩,?_⟩;rintro i m H ⟨rfl,hi,p⟩;have q:=hl i H hi p;by_cases Ad:i<xs.length
 .refine .inr ⟨⟨xs,q,Ad⟩,λv H' y us hu=>?_⟩;obtain⟨T,x,nT,rfl,rfl,z⟩:=y;exact hs i x H T (z xs q) p nT us hu
 .have e:i=xs.length:=by lia
  subst e;exact .inl ⟨⟨xs,q,QH _⟩,hd H p⟩
end
def gK:∀{xs:List V} {us:List QF} (j:Nat),Vals xs us->Vals (xs.eraseIdx j) (us.eraseIdx j)
 |_,_,_,.nil=>.nil
 |_,_,0,.cons _ r=>r
 |_,_,j+1,.cons h r=>.cons h (gK j r)
def DA(l:Addr)(items:Array QF)(n:Nat)(x:QF)(e:QF->Bool)(j:Nat)(hj:j<items.size)(hit:e items[j]=true)(hs1:items.size<=sizeLine)(k:Nat) :
  ∀i:Nat,j-i=k->i<=j->(∀m (hm:m<items.size),i<=m->m<j->e items[m]=false)->Meets (TC.«list.remove.loop» ⟨[.ref l,x,rawInt i],[]⟩)
   (λA R s=>s.heap.get? l=some {cls:=.type "list",dict:=none,data:=.seq items n,slots:=#[]}/\(∀y,y∈items->Y5 A.in1 s y x (e y))/\R (.ok (.ret .none)) {s with heap:=s.heap.update l (UU λxs=>xs.eraseIdxIfInBounds j)}):=by
 induction k with
 |zero =>
  intro i hk hij hno prog w A R s h;obtain⟨hp,g,d,tk,os⟩:=s;obtain⟨hl,he,h⟩:=h;have hij':i=j:=by lia
  subst hij';wp_walk using UH hl;have hi:items[((i:Nat):Int).toNat]?=some items[i]:=by simp[hj]
  rw[hi];refine QE (he _ (Zy hj) prog w _ _ ?_);rw[hit];have hz':(items.eraseIdxIfInBounds i).size<=sizeLine+1:=Q0 (MeetsSeq.size_erased items _) (Xm hs1);wp_walk using(wpAny_updateSeq hl rfl (hz:=hs1) (_hz':=hz')),UH hl;simpa using h
 |succ k ih =>
  intro i hk hij hno prog w A R s h;obtain⟨hp,g,d,tk,os⟩:=s;obtain⟨hl,he,h⟩:=h;have Ad:i<items.size:=by lia
  wp_walk using UH hl;have hi:items[((i:Nat):Int).toNat]?=some items[i]:=by simp[Ad]
  have hc:((i:Int)+1)=((i+1:Nat):Int):=by lia
  rw[hi];refine QE (he _ (Zy Ad) prog w _ _ ?_);rw[hno i Ad (QH _) (by lia)];wp_walk;rw[hc];exact⟨XA Ue _,UY W6 (by rw[Uv Ue _];exact ih (i+1) (by lia) (by lia) (λm hm h1 h2=>hno m hm (by lia) h2) prog w A R _ ⟨hl,he,h⟩)⟩
abbrev zt(K:Fg):V->List V->Hp->VK->Prop:=λx ys H Q=>∃(l:Addr) (xs:List V) (y:V) (ds:List Dat) (d:Dat) (j:Nat),x=.ref l/\ys=[y]/\H l=some (.lst xs)/\RepL K H xs ds/\Rep K H y d/\(∀e∈ds,kqdOk 8 e=true)/\kqdOk 8 d=true/\ds[j]?=some d/\(∀m,m<j->ds[m]?≠some d)/\Q .non (upd H l (.lst (xs.eraseIdx j)))
open Classical in
def Ak{X:Cx} (hu:X.A.units+64<cLine):Oj X "list.remove" (zt X.K):=by
 intro ξ s σ H x ys v us Q I rx rv h;obtain⟨l,xs,y,ds,d,j,rfl,rfl,hH,rxs,hd,ka,kd,e1,e2,q⟩:=h;cases rx;obtain⟨u,rfl,ru⟩:=vals1 rv;obtain⟨as,ra⟩:=Rep.reads I hd ru;obtain⟨z,gV,n,r,hl,e⟩:=I.lstM hH;obtain⟨bs,rb⟩:=RepL.reads I rxs r;have hxs:Zx (kqdPs ds)=true:=(V5 ka).1;have hmap:=Zd (kqdPs ds) _ _ hxs rb
 have szl:gV.length=ds.length:=by
  have:=congrArg Sr hmap
  rw[Qx,jJ] at this;exact this
 have lj:j<ds.length:=(QC.mp e1).1
 have at_:∀m (hm:m<gV.toArray.size),Vz (Uw s.heap gV.toArray[m]) (kqdP d)=decide (ds[m]?=some d):=by
  intro m hm;have hm':m<gV.length:=by simpa using hm
  have g:(gV.map (Uw s.heap))[m]?=some (Uw s.heap gV.toArray[m]):=by rw[QD,Qy hm'];rfl
  rw[hmap,jK] at g;obtain⟨e0,ge,gp⟩:=QG.mp g;rw[<- gp,vd (ka e0 (QI ge)) kd,ge];by_cases z:d=e0
  .simp[z]
  .have:e0≠d:=λw=>z w.symm
   simp[z,this]
 have hs1:gV.toArray.size<=sizeLine:=by rw[Rf];lia
 have M:Meets (TC.«list.remove» ⟨[.ref l,u],[]⟩) (λA R s'=>s'.heap.get? l=some {cls:=.type "list",dict:=none,data:=.seq gV.toArray n,slots:=#[]}/\(∀y,y∈gV.toArray->Y5 A.in1 s' y u (Vz (Uw s.heap y) (kqdP d)))/\R (.ok (.ret .none)) {s' with heap:=s'.heap.update l (UU λxs=>xs.eraseIdxIfInBounds j)}):=by
  intro prog w A R s' h;obtain⟨hp,g,d',tk,os⟩:=s';obtain⟨hl',he,h⟩:=h;wp_walk using UH hl';exact⟨XA Ue _,UY W6 (by rw[Uv Ue _];exact DA l gV.toArray n u (λy=>Vz (Uw s.heap y) (kqdP d)) j (by simp;lia) (by rw[at_ j (by simp;lia),e1];simp) hs1 _ 0 rfl (RL _) (λm hm _ h2=>by rw[at_ m hm];exact decide_eq_false (e2 m h2)) prog w A R _ ⟨hl',he,h⟩)⟩
 refine Vx F.slot_list_remove ⟨_,e,rfl⟩ F.entry_list_remove (F.args_list_remove_2 _ _) M ⟨e,ZW (by simpa using rb) ra hxs (TW 8 d kd).1 ?_,?_⟩
 .have l:=(TW 8 d kd).2
  have:=Vd (WA (kqdPs ds)) (kqdP d).depth
  lia
 .refine⟨.non,_,I.lset (its':=gV.eraseIdx j) hH e (by simp) (gK j r) ?_,rfl,q⟩
  have:=List.length_eraseIdx_le gV j
  have e3:=(gK j r).length;have e4:=r.length;lia
def kJ:∀{ns:List Int} {us:List QF},Vals (ns.map V.int) us->∃l:List (Int×Tok),us=l.map (λp=>U0 p.1 p.2)/\l.map (·.1)=ns
 |[],_,.nil=>⟨[],rfl,rfl⟩
 |n :: ns,_,.cons r rr=>by
  obtain⟨t,rfl⟩:=r;obtain⟨l,e1,e2⟩:=kJ rr;exact⟨(n,t) :: l,by rw[e1];rfl,by rw[<- e2];rfl⟩
section
variable{X:Cx}
def NH:bootBuiltins "max"=some (.builtin "max"):=by decide +kernel
end
end L2
namespace Rk
abbrev pt(r:List Int)(p:Nat):Int:=r.getD p 0
abbrev bE:List Int->List (List Int)->Nat->Int
 |a :: as,r :: rs,p=>a*pt r p+bE as rs p
 |_,_,_=>0
abbrev d5(R:List (List Int)):Prop:=∀a:List Int,a.length=R.length->(∀p,bE a R p=0)->∀c∈a,c=0
def nV(a:List Int)(p:Nat):bE a [] p=0:=by cases a <;> rfl
def g_:∀{a:List Int} {R:List (List Int)} (b:List Int) (S:List (List Int)) (p:Nat),a.length=R.length->bE (a++b) (R++S) p=bE a R p+bE b S p
 |[],[],b,S,p,_=>by simp[bE]
 |x :: a,r :: R,b,S,p,h=>by
  have ih:=g_ (a:=a) (R:=R) b S p (by simpa using h);show x*pt r p+bE (a++b) (R++S) p=(x*pt r p+bE a R p)+bE b S p;rw[ih,Int.add_assoc]
def fu(k:Int):∀(a:List Int) (R:List (List Int)) (p:Nat),bE (a.map λx=>k*x) R p=k*bE a R p
 |[],R,p=>by cases R <;> simp[bE]
 |x :: a,[],p=>by simp[bE]
 |x :: a,r :: R,p=>by
  have ih:=fu k a R p;show k*x*pt r p+bE (a.map λx=>k*x) R p=k*(x*pt r p+bE a R p);rw[ih,Ux,SA]
def split_len{a:List Int}{R S:List (List Int)}(h:a.length=(R++S).length):∃b c,a=b++c/\b.length=R.length/\c.length=S.length:=by
 refine⟨a.take R.length,a.drop R.length,(Ui _ _).symm,?_,?_⟩
 .rw[Q3,h,QT];lia
 .rw[Sw,h,QT];lia
abbrev kh(by_:List Int)(p:Nat)(r:List Int):List Int:=Ve (λone iU=>one*pt by_ p-pt r p*iU) r by_
def zz{by_ r:List Int}(h:r.length=by_.length):pt (kh by_ p r) q=pt r q*pt by_ p-pt r p*pt by_ q:=by
 unfold pt kh;rw[Qz,U3,Qz (l:=r) (i:=q),Qz (l:=by_) (i:=q)];by_cases l:q<r.length
 .rw[Qy l,Qy (by lia)];rfl
 .rw[RD (by lia),RD (by lia)];simp
abbrev Wide(w:Nat)(R:List (List Int)):Prop:=∀r∈R,r.length=w
def nZ{by_ r:List Int}(h:r.length=by_.length):(kh by_ p r).length=by_.length:=by
 unfold kh;rw[YM];lia
def Bv:∀(a b:List Int) (R:List (List Int)) (p:Nat),a.length=b.length->bE (Ve (· + ·) a b) R p=bE a R p+bE b R p
 |[],[],R,p,_=>by cases R <;> simp[bE]
 |x :: a,y :: b,[],p,_=>by simp[bE]
 |x :: a,y :: b,r :: R,p,h=>by
  have ih:=Bv a b R p (by simpa using h);show(x+y)*pt r p+bE (Ve (· + ·) a b) R p=(x*pt r p+bE a R p)+(y*pt r p+bE b R p)
  rw[ih,Wr];lia
def kZ{S T:List (List Int)}{d:List Int}{c G:Int}(ld:d.length=S.length)(hc:c≠0)(hG:G≠0)(e:∀q,G*pt s q=c*pt r q+bE d S q)(h:d5 (S++r :: T)):d5 (S++s :: T):=by
 intro a la ha;obtain⟨a1,a',rfl,l1,l'⟩:=split_len la;obtain⟨x,a2,rfl⟩:∃x a2,a'=x :: a2:=UQ (by rw[l'];simp);have l2:a2.length=T.length:=by simpa using l'
 have at_:∀q,bE a1 S q+(x*pt s q+bE a2 T q)=0:=λq=>by
  have:=ha q
  rw[g_ _ _ _ l1] at this;exact this
 have h':=h (Ve (· + ·) (a1.map λy=>G*y) (d.map λy=>x*y)++(x*c) :: a2.map λy=>G*y) (by simp[l1,l2,ld]) λq=>by
  rw[g_ _ _ _ (by simp[l1,ld])];show bE (Ve (· + ·) (a1.map λy=>G*y) (d.map λy=>x*y)) S q+(x*c*pt r q+bE (a2.map λy=>G*y) T q)=0;rw[Bv _ _ _ _ (by simp[l1,ld]),fu,fu,fu];have e1:=at_ q;have e2:=e q;have e3:G*(bE a1 S q+(x*pt s q+bE a2 T q))=0:=by rw[e1,TZ]
  rw[Ux,Ux] at e3;have e4:G*(x*pt s q)=x*(c*pt r q+bE d S q):=by rw[<- e2,<- SA,<- SA,TK G x]
  rw[e4,Ux] at e3;have e5:x*(c*pt r q)=x*c*pt r q:=by rw[SA]
  lia
 have x0:x=0:=by
  have:=h' (x*c) (Q6 _ QK)
  exact(Sq.mp this).resolve_right hc
 have a20:∀y∈a2,y=0:=λy hy=>by
  have:=h' (G*y) (Q6 _ (QL _ (QU.mpr ⟨y,hy,rfl⟩)))
  exact(Sq.mp this).resolve_left hG
 have a10:∀y∈a1,y=0:=λy hy=>by
  obtain⟨i,hi,rfl⟩:=Sh.mp hy
  have m:G*a1[i]+x*d[i]'(by lia)∈Ve (· + ·) (a1.map λy=>G*y) (d.map λy=>x*y):=by
   refine Sh.mpr ⟨i,by simp;lia,by simp⟩
  have:=h' _ (Rc _ m)
  rw[x0,TL,Uy] at this;exact(Sq.mp this).resolve_left hG
 intro y hy;rcases Q8.mp hy with z|z
 .exact a10 y z
 .rcases Q5.mp z with rfl|z
  .exact x0
  .exact a20 y z
def qq{S T:List (List Int)}{d:List Int}{c G:Int}(ld:d.length=S.length)(hc:c≠0)(hG:G≠0)(e:∀q,G*pt s q=c*pt r q+bE d S q):d5 (S++r :: T)↔d5 (S++s :: T) :=
 ⟨kZ ld hc hG e,kZ (d:=d.map λy=>(-1)*y) (by simp[ld]) hG hc λq=>by rw[fu];have:=e q;lia⟩
abbrev Eqv(F S:List (List Int)):Prop:=∀T,d5 (F++T)↔d5 (S++T)
def Eqv.snoc{d:List Int}{c G:Int}(h:Eqv F S)(ld:d.length=S.length)(hc:c≠0)(hG:G≠0)(e:∀q,G*pt s q=c*pt r q+bE d S q):Eqv (F++[r]) (S++[s]):=λT=>by
 rw[R_,R_,h,VY,VY];exact qq ld hc hG e
inductive cB:List (List Int)->List Nat->Prop
 |nil:cB [] []
 |cons {s:List Int} {p:Nat} {S:List (List Int)} {ps:List Nat}:pt s p≠0->(∀t∈S,pt t p=0)->cB S ps->cB (s :: S) (p :: ps)
def cB.snoc{s:List Int}{p:Nat}:∀{S:List (List Int)} {ps:List Nat},cB S ps->(∀q∈ps,pt s q=0)->pt s p≠0->cB (S++[s]) (ps++[p])
 |_,_,.nil,_,h=>.cons h (by simp) .nil
 |_,_,.cons (s:=t) (p:=q) h1 h2 r,z,h=>.cons h1 (λu hu=>by
   rcases Q8.mp hu with m|m
   .exact h2 u m
   .rw[QY.mp m];exact z q QK) (cB.snoc r (λq hq=>z q (QL _ hq)) h)
def kO{x:List Int}:∀{S:List (List Int)} {ps:List Nat},cB S ps->(∀q∈ps,pt x q=0)->(d5 (S++[x])↔∃q,pt x q≠0)
 |[],[],.nil,_=>by
  constructor
  .intro h;by_cases z:∃q,pt x q≠0
   .exact z
   .have:=h [1] rfl (λp=>by
     show 1*pt x p+bE [] [] p=0
     have:pt x p=0:=Decidable.byContradiction λy=>z ⟨p,y⟩
     rw[this];rfl) 1 QK
    cases this
  .rintro⟨q,hq⟩ a la ha c hc;obtain⟨y,rfl⟩:∃y,a=[y]:=SV.mp la
   have:=ha q
   have e:y*pt x q+0=0:=this;rw[Uy] at e;rw[QY.mp hc];exact(Sq.mp e).resolve_right hq
 |s :: S,p :: ps,.cons h1 h2 r,z=>by
  have ih:=kO r λq hq=>z q (QL _ hq)
  have zp:∀t∈S++[x],pt t p=0:=λt ht=>by
   rcases Q8.mp ht with m|m
   .exact h2 t m
   .rw[QY.mp m];exact z p QK
  have nought:∀(b:List Int) (R:List (List Int)),(∀t∈R,pt t p=0)->bE b R p=0:=by
   intro b
   induction b with
   |nil=>intro R _;cases R <;> rfl
   |cons c b ihb =>
    intro R hR;cases R with
    |nil=>rfl
    |cons t R =>
     show c*pt t p+bE b R p=0;rw[hR t QK,ihb R λt ht=>hR t (QL _ ht)];lia
  rw[<- ih];constructor
  .intro h a la ha c hc
   exact h (0 :: a) (by simp[la]) (λq=>by
    show 0*pt s q+bE a (S++[x]) q=0
    rw[ha q];lia) c (QL _ hc)
  .intro h a la ha;obtain⟨y,b,rfl⟩:∃y b,a=y :: b:=UQ (by rw[la];simp);have at_:∀q,y*pt s q+bE b (S++[x]) q=0:=ha
   have y0:y=0:=by
    have:=at_ p
    rw[nought b _ zp,Uy] at this;exact(Sq.mp this).resolve_right h1
   have:=h b (by simpa using la) λq=>by
    have:=at_ q
    rw[y0] at this;lia
   intro c hc;rcases Q5.mp hc with rfl|hc
   .exact y0
   .exact this c hc
structure Clrd (S:List (List Int)) (ps:List Nat) (x x':List Int):Prop where
 made:∃(d:List Int) (c G:Int),d.length=S.length/\c≠0/\G≠0/\∀q,G*pt x' q=c*pt x q+bE d S q
 nought:∀q∈ps,pt x' q=0
 len:x'.length=x.length
def Clrd.snoc{z s:List Int}{p:Nat}{g:Int}(h:Clrd S ps x y)(st:cB (S++[s]) (ps++[p]))(lp:S.length=ps.length)(ls:y.length=s.length)(hg:g≠0)(lz:z.length=y.length)(ez:∀q,g*pt z q=pt (kh s p y) q):Clrd (S++[s]) (ps++[p]) x z:=by
 obtain⟨d,c,G,ld,hc,hG,e⟩:=h.made
 have sp:pt s p≠0:=by
  have:∀{S:List (List Int)} {ps:List Nat},cB (S++[s]) (ps++[p])->S.length=ps.length->pt s p≠0:=by
   intro S
   induction S with
   |nil =>
    intro ps st l
    have:ps=[]:=SK.mp l.symm
    subst this;cases st with
    |cons h _ _=>exact h
   |cons t S ih =>
    intro ps st l;cases ps with
    |nil=>simp at l
    |cons q ps =>
     cases st with
     |cons _ _ r=>exact ih r (by simpa using l)
  exact this st lp
 have s0:∀q∈ps,pt s q=0:=by
  have:∀{S:List (List Int)} {ps:List Nat},cB (S++[s]) (ps++[p])->S.length=ps.length->∀q∈ps,pt s q=0:=by
   intro S
   induction S with
   |nil =>
    intro ps st l q hq
    have:ps=[]:=SK.mp l.symm
    subst this;cases hq
   |cons t S ih =>
    intro ps st l q hq;cases ps with
    |nil=>simp at l
    |cons q0 ps =>
     cases st with
     |cons _ h2 r =>
      rcases Q5.mp hq with rfl|hq
      .exact h2 s (Q6 _ (QY.mpr rfl))
      .exact ih r (by simpa using l) q hq
  exact this st lp
 have ec:∀q,g*pt z q=pt y q*pt s p-pt y p*pt s q:=λq=>by rw[ez q,zz ls]
 have zero:∀q,pt y q*pt s p-pt y p*pt s q=0->pt z q=0:=λq h0=>by
  have:=ec q
  rw[h0] at this;exact(Sq.mp this).resolve_left hg
 refine⟨⟨(d.map λv=>pt s p*v)++[-(G*pt y p)],pt s p*c,G*g,by simp[ld],λw=>?_,λw=>?_,λq=>?_⟩,λq hq=>?_,by rw[lz,h.len]⟩
 .rcases Sq.mp w with w|w
  .exact sp w
  .exact hc w
 .rcases Sq.mp w with w|w
  .exact hG w
  .exact hg w
 .rw[g_ _ _ _ (by simp[ld]),fu];show G*g*pt z q=pt s p*c*pt x q+(pt s p*bE d S q+(-(G*pt y p)*pt s q+0))
  have e1:=e q;rw[SA,ec q,Yz,Uy,U9];have a1:G*(pt y q*pt s p)=pt s p*(c*pt x q+bE d S q):=by rw[<- e1,<- SA,TK]
  have a2:G*(pt y p*pt s q)=G*pt y p*pt s q:=by rw[SA]
  have a3:pt s p*(c*pt x q+bE d S q)=pt s p*c*pt x q+pt s p*bE d S q:=by rw[Ux,SA]
  lia
 .rcases Q8.mp hq with m|m
  .refine zero q ?_;rw[h.nought q m,s0 q m];simp
  .rw[QY.mp m];refine zero p ?_;lia
def Clrd.start{x:List Int}:Clrd [] [] x x:=⟨⟨[],1,1,rfl,by decide,by decide,λq=>by simp[bE]⟩,by simp,rfl⟩
def BJ(E:Eqv F S)(st:cB S ps)(c:Clrd S ps x x'):d5 (F++[x])↔∃q,pt x' q≠0:=by
 obtain⟨d,c0,G,ld,hc,hG,e⟩:=c.made;rw[E [x]];rw[qq (T:=[]) ld hc hG e];exact kO st c.nought
end Rk
namespace Dn
open Rk
nonrec abbrev Tp:=List Int×List Int
abbrev can(t:Tp)(c:List Int):Bool:=(SM t.1 c).all λz=>decide (z.1<=z.2)
abbrev beh(t:Tp)(c:List Int):List Int:=(QR c.length).map λk=>pt c k-pt t.1 k+pt t.2 k
end Dn
namespace L2
open PySem PySem.Spec PyProof.Rows
open PySem.W (Dat KasT kas_sort kas_ask)
section
variable{X:Cx}
def BU:bootBuiltins "sorted"=some (.builtin "sorted"):=by decide +kernel
end
def lU(a b c:QF):checkTypeCall "zip" ⟨[a,b,c],[]⟩=pure ():=by kernel_rfl
def pY(a b c:QF):checkBuiltinCall "zip.__new__" ⟨[.type "zip",a,b,c],[]⟩=pure ():=by kernel_rfl
def tN(a b c d:QF):argsOk "object.__init__" ⟨[a,b,c,d],[]⟩:=by
 unfold argsOk;rw[signature?_of (id:="object.__init__") (n:=['_','_','t','i','n','i','_','_']) (o:=['t','c','e','j','b','o']) (by kernel_rfl) PySem.F.owner_object];kernel_rfl
nonrec abbrev Kf(k:Kn)(K:Fg)(a b c:Addr):It:=Om K [(k,a),(k,b),(k,c)]
abbrev M_(k:Kn)(K:Fg)(ta:TA):TI:=λσ H R=>ta σ H λvs H1=>∃a b c xs ys zs,vs=[.ref a,.ref b,.ref c]/\k.sq K H1 a xs/\k.sq K H1 b ys/\k.sq K H1 c zs/\R (Kf k K a b c) H1
def J6{α:Type}{F:α->Prop}{x y z:α}(h1:F x)(h2:F y)(h3:F z):∀u∈[x,y,z],F u:=Wo.mpr ⟨h1,all2 h2 h3⟩
def IV{x y u:Expr} {ta:TA}  {x1} {p pos:Pos} (hg:Gl X "zip") (hm:X.mg "zip"=none) (ha:PA X [x,y,u] ta) (hs:starEach [x,y,u] X.env=[(false,eval x X.env),(false,eval y X.env),(false,eval u X.env)]:=by rfl) (hs2:starEach [y,u] X.env=[(false,eval y X.env),(false,eval u X.env)]:=by rfl) :
  PI X (.Tuple elts x1 tp) (.Call (.Name "zip" p) [x,y,u] [] pos) (M_ k X.K ta):=by
 intro ξ s σ H R I h;refine Call_ (dR I hg hm GG (RZ (bh (ha pos ξ s σ H _ I h) λus s1 ω=>?_) (by rw[hs,hs2]) (by rw[hs2];rfl)));obtain⟨vs,H1,I1,r1,a,b,c,xs,ys,zs,e,s1q,s2q,s3q,q⟩:=ω;subst e;exact wR (ks:=[(k,a),(k,b),(k,c)]) I1 r1 (WN _) fS (J6 ⟨xs,s1q⟩ ⟨ys,s2q⟩ ⟨zs,s3q⟩) q (lU _ _ _) (pY _ _ _) λo=>tN o _ _ _
section
variable{K:Fg}{te:TE}{σ:St}{Q:VK}{H:Hp}
def BG{k:Kn}{xs ys zs:List V}{m:Nat}(e1:xs.length=m)(e2:ys.length=m)(e3:zs.length=m)(h:∀D,H D=none->∃Pv:Nat->Hp->Prop,Pv 0 (upd H D (.lst []))/\(∀i H2,i<=m->Pv i H2->k.sq K H2 a xs/\k.sq K H2 b ys/\k.sq K H2 c zs) /\
  (∀i x y u H2 T,xs[i]?=some x->ys[i]?=some y->zs[i]?=some u->Pv i H2->H2 T=none->Fy g n te σ (.ref T) (upd H2 T (.tup [x,y,u])) D m i Pv)/\∀H2,Pv m H2->Q (.ref D) H2):tT (Kf k K a b c) n g te σ Q H:=by
 intro D nD;obtain⟨Pv,h0,hl,hs,hd⟩:=h D nD;refine⟨λi k H=>k=m-i/\i<=m/\Pv i H,⟨_,rfl,RL _,h0⟩,?_⟩;rintro i j H ⟨rfl,hi,p⟩;obtain⟨q1,q2,q3⟩:=hl i H hi p;by_cases Ad:i<m
 .refine .inr ⟨J6 ⟨xs,q1,by lia⟩ ⟨ys,q2,by lia⟩ ⟨zs,q3,by lia⟩,λv H' ⟨T,ws,nT,h1,h2,h3⟩ us hu=>?_⟩;subst h1 h2;obtain _|⟨z1,_|⟨z2,_|⟨z3,_|_⟩⟩⟩:=h3
  exact hs i _ _ _ H T (z1 xs q1) (z2 ys q2) (z3 zs q3) p nT us hu
 .obtain rfl:i=m:=by lia
  exact .inl ⟨J6 ⟨xs,q1,λz=>by lia⟩ ⟨ys,q2,λz=>by lia⟩ ⟨zs,q3,λz=>by lia⟩,hd H p⟩
nonrec abbrev N5(K:Fg):=Kf .T K
nonrec abbrev EY(K:Fg):=M_ .T K
def IW{x y u:Expr} {ta:TA}  {x1} {p pos:Pos} (hg:Gl X "zip") (hm:X.mg "zip"=none) (ha:PA X [x,y,u] ta) (hs:starEach [x,y,u] X.env=[(false,eval x X.env),(false,eval y X.env),(false,eval u X.env)]:=by rfl) (hs2:starEach [y,u] X.env=[(false,eval y X.env),(false,eval u X.env)]:=by rfl) :
  PI X (.Tuple elts x1 tp) (.Call (.Name "zip" p) [x,y,u] [] pos) (EY X.K ta):=IV hg hm ha hs hs2
def Gf{ta:TA}{R:It->Hp->Prop}(h:ta σ H λvs H1=>∃a b c xs ys zs,vs=[.ref a,.ref b,.ref c]/\SqT K H1 a xs/\SqT K H1 b ys/\SqT K H1 c zs/\R (N5 K a b c) H1):EY K ta σ H R:=h
def qu{xs ys zs:List V}{m:Nat}(e1:xs.length=m)(e2:ys.length=m)(e3:zs.length=m)(h:∀D,H D=none->∃Pv:Nat->Hp->Prop,Pv 0 (upd H D (.lst []))/\(∀i H2,i<=m->Pv i H2->SqT K H2 a xs/\SqT K H2 b ys/\SqT K H2 c zs) /\
  (∀i x y u H2 T,xs[i]?=some x->ys[i]?=some y->zs[i]?=some u->Pv i H2->H2 T=none->Fy g n te σ (.ref T) (upd H2 T (.tup [x,y,u])) D m i Pv)/\∀H2,Pv m H2->Q (.ref D) H2):tT (N5 K a b c) n g te σ Q H:=BG e1 e2 e3 h
end
end L2
namespace L2
open PySem PySem.Spec PyProof.Rows
abbrev tP(es:Array (Int×QF))(t:S_)(h:Int)(x:QF)(i:Int):Array (Int×QF)×S_ :=
 match es.toList.findIdx? (λe=>Tv i e.2) with
 |some _=>(es,t)
 |none=>if (!(layNew t es h x).2.2.1 && (layNew t es h x).2.1.tooFull)=true then ((relayAll (layNew t es h x).2.1 (layNew t es h x).1 (Tt (layNew t es h x).1.size)).1,(relayAll (layNew t es h x).2.1 (layNew t es h x).1 (Tt (layNew t es h x).1.size)).2.1)
  else ((layNew t es h x).1,(layNew t es h x).2.1)
section
variable{prog:Rx}{w:RQ}{A:RT}{E:QF->QP->Prop}{s:QP}
def J7{a:Addr}      {Q:Bool->QP->Prop} (ho:s.heap.get? a=some {cls:=.type "set",dict:=none,data:=.set es ep t,slots:=#[]}) (hf:t.fits es.size=true) (hel:ElemsOf (intKind prog w) es.toList) (hb:es.size+2<scanBound)
  (h:∀h' ep' r tk,TX a s.heap h'->h'.get? a=some {cls:=.type "set",dict:=none,data:=.set (tP es t (hashInt i) (.int i u) i).1 ep' (tP es t (hashInt i) (.int i u) i).2,slots:=#[]}->Q r {s with heap:=h',toks:=tk}) :
  wpAny (model prog w) A (setAdd a (.int i u)) Q E s:=by
 unfold setAdd;refine T8 (QE (wpAny_pyHash_int ?_));unfold setAddHashed setAddHashedIn;refine T8 (QE (VQ ho rfl hf ?_));dsimp only;rw[byScan_of (knd:=intKind prog w) (show Zab (.int i u)=true from rfl) (by lia) hel];simp only[↓reduceIte];unfold setAddByScan;refine QE (QE (XY (QE (wpAny_setScan_of (knd:=intKind prog w) (k:=i) (show Tv i (.int i u)=true by simp[Tv]) ho rfl hf hel ?_))));unfold tP at h;cases hr:es.toList.findIdx? (λe=>Tv i e.2) with
 |some j =>
  rw[hr] at h;rw[show(es.toList.findIdx? λe=>(intKind prog w).is i e.2)=some j from hr];dsimp only;refine Q1 (Q1 ?_);exact h s.heap ep _ _ (TX.refl a s.heap) ho
 |none =>
  rw[hr] at h;rw[show(es.toList.findIdx? λe=>(intKind prog w).is i e.2)=none from hr];dsimp only
  have sz:(layNew t es (hashInt i) (.int i u)).1.size=es.size+1:=by
   have:=(layNew_perm t es (hashInt i) (.int i u)).length_eq
   rw[Ro,Ro,Array.size_push] at this;exact this
  generalize layNew t es (hashInt i) (.int i u)=L at h sz ⊢;obtain⟨es1,t1,wd,gv⟩:=L;dsimp only at h sz ⊢
  have gw:∀(b:Bool) (s₁:QP) (R:Unit->QP->Prop) (m:Bool->Sem Unit),m=(λb=>match b with|true=>rule "set.scan.the-table-gave-way" | false=>pure ())->R () s₁->wpAny (model prog w) A (m b) R E s₁:=by
   rintro b s₁ R m rfl hq;cases b <;> first|exact Q1 hq|exact XY hq
  have fin:∀(s':QP),(∃tk,s' = {s with heap:=s.heap,toks:=tk})->wpAny (model prog w) A (do
    storeSet a es1 t1
    if (!wd && t1.tooFull)=true then do
      (match (relayAll t1 es1 (Tt es1.size)).2.2 with|true=>rule "set.scan.the-table-gave-way" | false=>pure ())
      storeSet a (relayAll t1 es1 (Tt es1.size)).1 (relayAll t1 es1 (Tt es1.size)).2.1
      pure (some true)
     else pure (some true)) (λr s''=>wpAny (model prog w) A (match r with|some added=>pure added|none=>setAddHashedIn a (.int i u) (hashInt i) 99999) Q E s'') E s':=by
   rintro s' ⟨tk,rfl⟩
   have e1:(s.heap.update a (W7 es1 t1)).get? a=some {cls:=.type "set",dict:=none,data:=.set es1 (ep+1) t1,slots:=#[]}:=by
    have:=SE (W7 es1 t1) ho (by rw[ZX es1 t1 rfl];rfl)
    rw[ZX es1 t1 rfl] at this;exact this
   refine QE (wpAny_storeSet_of (s:={s with heap:=s.heap,toks:=tk}) ho rfl ?_ (fits_of_scanBound (by lia)));by_cases c:(!wd && t1.tooFull)=true
   .rw[if_pos c] at h ⊢
    have sz2:(relayAll t1 es1 (Tt es1.size)).1.size=es1.size:=by
     have:=(relayAll_perm t1 es1 (Tt es1.size)).length_eq
     rw[Ro,Ro] at this;exact this
    generalize relayAll t1 es1 (Tt es1.size)=Rl at h sz2 ⊢;obtain⟨es2,t2,gv2⟩:=Rl;dsimp only at h sz2 ⊢
    have e2:((s.heap.update a (W7 es1 t1)).update a (W7 es2 t2)).get? a=some {cls:=.type "set",dict:=none,data:=.set es2 (ep+1+1) t2,slots:=#[]}:=by
     have:=SE (W7 es2 t2) e1 (by rw[ZX es2 t2 rfl];rfl)
     rw[ZX es2 t2 rfl] at this;exact this
    refine QE (gw gv2 _ _ _ rfl ?_);refine QE (wpAny_storeSet_of (s:={s with heap:=s.heap.update a (W7 es1 t1),toks:=tk}) e1 rfl ?_ (fits_of_scanBound (by lia)));exact Q1 (Q1 (h _ _ _ _ ((Sn ..).trans (Sn ..)) e2))
   .rw[if_neg c] at h ⊢;exact Q1 (Q1 (h _ _ _ _ (Sn ..) e1))
  refine QE (gw gv _ _ _ rfl ?_);split
  .refine QE ?_;rw[hashByValue_scannable 8 (show Zab (.int i u)=true from rfl)];refine Q1 ?_;exact fin _ ⟨_,rfl⟩
  .refine QE (Q1 ?_);exact fin _ ⟨_,rfl⟩
end
abbrev aK(b:Nat):List Nat:=(QR 8).filter λk=>b.testBit k
abbrev bC(b k:Nat):Nat:=if (aK b).contains k then b else b+2 ^ k
def fo:∀b<256,(aK b).length<=8:=by decide +kernel
def nM:∀b<256,∀k<8,bC b k<256:=by decide +kernel
def EV:∀b<256,∀k<8,∀j<8,(aK (bC b k)).contains j=((aK b).contains j || j == k):=by decide +kernel
abbrev Qh(b k:Nat):Bool:=(aK b).contains k || ((aK b).take (Uf (aK b).toArray k)++k :: (aK b).drop (Uf (aK b).toArray k) == aK (b+2 ^ k) && Uf (aK b).toArray k<=(aK b).length)
def Ll:∀b<256,∀k<8,Qh b k=true:=by decide +kernel
abbrev Qi(b:Nat):Bool:=match Zz 31 ((aK b).map λk:Nat=>(k:Int)).toArray with
 |some o=>((QR 32).filterMap λj=>(o.getD j none).map (j,·)) == (aK b).zipIdx
 |none=>false
def Mo:∀b<256,Qi b=true:=by decide +kernel
def Nd:∀k<8,hashInt ((k:Nat):Int)=(k:Int):=by decide +kernel
def NA:∀k<8,YW ((k:Nat):Int) % 8=k/\YW ((k:Nat):Int) % 32=k:=by decide +kernel
abbrev ER(es:Array (Int×QF))(l:List Nat):Prop:=es.size=l.length/\∀(i k:Nat),l[i]?=some k->∃tk,es[i]?=some ((k:Int),.int (k:Int) tk)
structure TR (led:Bool) (t:S_) (b:Nat):Prop where
 place:t.place=(aK b).toArray
 dum:t.dummies = #[]
 led:t.led=led
 plain:t.plain=true
 mask:(t.mask=7/\(aK b).length<=4)\/t.mask=31
def TR.fill{led:Bool}(T:TR led t b):t.fill=(aK b).length:=by
 unfold Wi;rw[T.place,T.dum];simp
def TR.fits{led:Bool}{n:Nat}(T:TR led t b)(hb:b<256)(hn:n=(aK b).length):t.fits n=true:=by
 have l8:=fo b hb;unfold YX;rw[T.fill,T.place];simp only[Rf,XS,beq_iff_eq,decide_eq_true_eq];rcases T.mask with⟨m,l⟩|m <;> rw[m] <;> lia
def ER.elems(R:ER es (aK b))(h8:∀k∈aK b,k<8):ElemsOf (intKind prog w) es.toList:=by
 intro e he;obtain⟨i,li,ei⟩:=Sh.mp he;have l2:i<(aK b).length:=by rw[<- R.1];simpa using li
 obtain⟨tk,et⟩:=R.2 i _ (Qy l2);have e2:es.toList[i]?=some e:=by rw[Qy li,ei]
 rw[Rq] at e2;rw[et] at e2;cases e2;refine⟨⟨((aK b)[i]:Int),by simp[intKind,Tv],?_⟩,rfl⟩;exact(Nd _ (h8 _ (Ry l2))).symm
def sR(b:Nat):∀k∈aK b,k<8:=λk hk=>by
 unfold aK at hk;exact Rb.mp (Ri.mp hk).1
def EX{k:Nat}(R:ER es l)(h:k∉l):es.toList.findIdx? (λe=>Tv (k:Int) e.2)=none:=by
 rw[Ul];intro e he;obtain⟨i,li,ei⟩:=Sh.mp he;have l2:i<l.length:=by rw[<- R.1];simpa using li
 obtain⟨tk,et⟩:=R.2 i _ (Qy l2);have e2:es.toList[i]?=some e:=by rw[Qy li,ei]
 rw[Rq,et] at e2;cases e2;have ne:l[i]≠k:=λz=>h (z ▸ Ry l2)
 have : ¬ ((l[i]:Int)=(k:Int)):=by lia
 simp[Tv,this]
def EW{k:Nat}(R:ER es l)(h:k∈l):∃j,es.toList.findIdx? (λe=>Tv (k:Int) e.2)=some j:=by
 cases e:es.toList.findIdx? (λe=>Tv (k:Int) e.2) with
 |some j=>exact⟨j,rfl⟩
 |none =>
  rw[Ul] at e;obtain⟨i,li,ei⟩:=Sh.mp h;obtain⟨tk,et⟩:=R.2 i k (by rw[Qy li,ei])
  have:=e ((k:Int),.int (k:Int) tk) (QI (by rw[Rq];exact et))
  simp[Tv] at this
def PK{led:Bool}{k:Nat}(T:TR led t b)(hk:k<8)(h:k∉aK b):t.freeSlot (k:Int)=some (k,false):=by
 have ej:(t.probeStart (k:Int)).j=k:=by
  show YW (k:Int) % (t.mask+1)=k;rcases T.mask with⟨m,_⟩|m <;> rw[m]
  .exact(NA k hk).1
  .exact(NA k hk).2
 have sl:=vS T.place T.dum h;obtain⟨n,hn⟩:∃n,10*YA t.mask=n+1:=⟨10*YA t.mask-1,by unfold YA;lia⟩
 unfold S_.freeSlot Zap;rw[hn];unfold Zap.go;rw[ej,sl];rfl
def jr{α:Type}:∀l:List α,(QR l.length).filterMap (λi=>l[i]?)=l
 |[]=>rfl
 |x :: l=>by
  rw[Ru,List.range_succ_eq_map,Vl];show x :: (ZaD Nat.succ (QR l.length)).filterMap (λi=>(x :: l)[i]?)=x :: l;rw[List.filterMap_map];congr 1;exact jr l
def range_all{α:Type}(a:Array α):(QR a.size).toArray.filterMap (λx=>a[x]?)=a:=by
 obtain⟨l⟩:=a;apply Array.toList_inj.mp;rw[Array.toList_filterMap];simpa using jr l
def GR(l:List Nat):l.zipIdx.map (·.1)=l:=by simp
def GQ(l:List Nat):l.zipIdx.map (·.2)=QR l.length:=by simp[List.range_eq_range']
def J8{led:Bool}{b k:Nat}(hb:b<256)(hk:k<8)(R:ER es (aK b))(T:TR led t b) :
  ER (tP es t (hashInt (k:Int)) (.int (k:Int) u) (k:Int)).1 (aK (bC b k))/\TR led (tP es t (hashInt (k:Int)) (.int (k:Int) u) (k:Int)).2 (bC b k):=by
 rw[Nd k hk];have l8:=fo b hb;by_cases h:k∈aK b
 .obtain⟨j,e⟩:=EW R h;have ei:bC b k=b:=by unfold bC;rw[if_pos (by simpa using h)]
  unfold tP;rw[e,ei];exact⟨R,T⟩
 .have ei:bC b k=b+2 ^ k:=by unfold bC;rw[if_neg (by simpa using h)]
  have pk:=Ll b hb k hk;unfold Qh at pk;rw[show(aK b).contains k=false by simpa using h,Zax,XS,beq_iff_eq,decide_eq_true_eq] at pk;obtain⟨p1,p2⟩:=pk;have l8':=fo (bC b k) (nM b hb k hk);rw[<- ei] at p1
  have ll:(aK (bC b k)).length=(aK b).length+1:=by
   rw[<- p1,QT,Ru,Q3,Sw];lia
  generalize hp:Uf (aK b).toArray k=p at p1 p2
  have put:t.put k=({t with place:=(aK (bC b k)).toArray,dummies:=#[]},p):=by
   unfold S_.put;rw[T.place,T.dum,hp];dsimp only;rw[gy _ _ _ p2,p1,if_neg (by simp[S_.has,Uf,Uf.go])]
  have esl:Uz es p ((k:Int),.int (k:Int) u)=(es.toList.take p++((k:Int),U0 (k:Int) u) :: es.toList.drop p).toArray:=by
   have:=gy es.toList p ((k:Int),U0 (k:Int) u) (by rw[Ro,R.1];exact p2)
   simpa using this
  have R1:ER (Uz es p ((k:Int),.int (k:Int) u)) (aK (bC b k)):=by
   refine⟨?_,λi j hj=>?_⟩
   .rw[esl,ll,<- R.1];simp;lia
   .rw[esl];rw[<- p1,uX p2] at hj;rw[U2,uX (by rw[Ro,R.1];exact p2)];split at hj
    .rename_i c;rw[if_pos c,Rq];exact R.2 i j hj
    .rename_i c;rw[if_neg c];split at hj
     .rename_i c2;cases hj;rw[if_pos c2];exact⟨u,rfl⟩
     .rename_i c2;rw[if_neg c2,Rq];exact R.2 _ j hj
  have sz1:(Uz es p ((k:Int),.int (k:Int) u)).size=(aK (bC b k)).length:=R1.1
  have ft:({t with place:=(aK (bC b k)).toArray,dummies:=#[]}:S_).fits (Uz es p ((k:Int),.int (k:Int) u)).size=true:=by
   unfold YX Wi;rw[sz1];simp only[Rf,XS,beq_iff_eq,decide_eq_true_eq];refine⟨trivial,?_⟩;show(aK (bC b k)).length+0<=t.mask;rcases T.mask with⟨m,l⟩|m <;> rw[m] <;> lia
  have lay:layNew t es (k:Int) (.int (k:Int) u)=(Uz es p ((k:Int),.int (k:Int) u),{t with place:=(aK (bC b k)).toArray,dummies:=#[]},false,false):=by
   unfold layNew;rw[PK T hk h];dsimp only;rw[put];dsimp only;unfold S_.orStandIn;rw[ft];rfl
  unfold tP;rw[EX R h,lay];dsimp only;generalize Uz es p ((k:Int),.int (k:Int) u)=es1 at R1 sz1 ft
  have hs:es1.map (·.1)=((aK (bC b k)).map λk:Nat=>(k:Int)).toArray:=by
   apply Y_;intro i;simp only[Array.getElem?_map,U2,QD];by_cases li:i<(aK (bC b k)).length
   .obtain⟨tk,et⟩:=R1.2 i _ (Qy li);rw[et,Qy li];rfl
   .rw[TY (by lia),RD (by lia)];rfl
  by_cases c:(!false && ({t with place:=(aK (bC b k)).toArray,dummies:=#[]}:S_).tooFull)=true
  .rw[if_pos c]
   have c2:((aK (bC b k)).length+0)*5≥t.mask*3:=by
    have c1:({t with place:=(aK (bC b k)).toArray,dummies:=#[]}:S_).tooFull=true:=by simpa using c
    unfold ZY Wi at c1;simpa using c1
   have n5:(aK (bC b k)).length=5:=by
    rcases T.mask with⟨m,l⟩|m <;> rw[m] at c2 <;> lia
   have g20:S_.sizeAbove (Tt es1.size)-1=31:=by rw[sz1,n5];decide
   have lk:=Mo (bC b k) (nM b hb k hk);unfold Qi at lk
   have rel:∃mv,relayAll ({t with place:=(aK (bC b k)).toArray,dummies:=#[]}:S_) es1 (Tt es1.size)=(es1,{mask:=31,place:=(aK (bC b k)).toArray,dummies:=#[],finger:=t.finger,led:=t.led,moves:=mv,plain:=t.plain},false):=by
    cases lc:Zz 31 ((aK (bC b k)).map λk:Nat=>(k:Int)).toArray with
    |none=>rw[lc] at lk;cases lk
    |some o =>
     rw[lc] at lk;have lz:((QR 32).filterMap λj=>(o.getD j none).map (j,·))=(aK (bC b k)).zipIdx:=by simpa using lk
     refine⟨({t with place:=(aK (bC b k)).toArray,dummies:=#[]}:S_).movedTo 31,?_⟩;unfold relayAll S_.relaid S_.laid;rw[hs,g20,lc];simp only[Option.bind_eq_bind,Option.bind_some,lz,GR,GQ];dsimp only[Option.pure_def];have ef:(QR (aK (bC b k)).length).toArray.filterMap (λx=>es1[x]?)=es1:=by rw[<- sz1];exact range_all es1
     rw[ef]
     have cv:coversAll (QR (aK (bC b k)).length).toArray es1.size=true:=by
      unfold coversAll;rw[sz1,n5];rfl
     have ft2:({mask:=31,place:=(aK (bC b k)).toArray,dummies:=#[],finger:=t.finger,led:=t.led,moves:=({t with place:=(aK (bC b k)).toArray,dummies:=#[]}:S_).movedTo 31,plain:=t.plain}:S_).fits es1.size=true:=by
      unfold YX Wi;rw[sz1];simp;lia
     rw[cv,ft2];rfl
   obtain⟨mv,rel⟩:=rel;rw[rel];exact⟨R1,rfl,rfl,T.led,T.plain,.inr rfl⟩
  .rw[if_neg c]
   have c2 : ¬ ((aK (bC b k)).length+0)*5≥t.mask*3:=λz=>c (by
    show(true && ({t with place:=(aK (bC b k)).toArray,dummies:=#[]}:S_).tooFull)=true
    unfold ZY Wi
    simpa using z)
   refine⟨R1,rfl,rfl,T.led,T.plain,?_⟩;rcases T.mask with⟨m,l⟩|m
   .refine .inl ⟨m,?_⟩;rw[m] at c2;lia
   .exact .inr m
structure jX (led:Bool) (h:Heap) (a:Addr) (b:Nat):Prop where
 b8:b<256
 at_:∃es ep t,h.get? a=some {cls:=.type "set",dict:=none,data:=.set es ep t,slots:=#[]}/\ER es (aK b)/\TR led t b
def jX.keep{led:Bool}{h':Heap}(S:jX led h a b)(k:∀o,h.get? a=some o->h'.get? a=some o):jX led h' a b:=by
 obtain⟨es,ep,t,e,r⟩:=S.at_;exact⟨S.b8,es,ep,t,k _ e,r⟩
section
variable{prog:Rx}{w:RQ}{A:RT}{E:QF->QP->Prop}{s:QP}
def ul{led:Bool}{k:Nat}{Q:Bool->QP->Prop}(S:jX led s.heap a b)(hk:k<8)(h:∀h' r tk,TX a s.heap h'->jX led h' a (bC b k)->Q r {s with heap:=h',toks:=tk}) :
  wpAny (model prog w) A (setAdd a (.int (k:Int) u)) Q E s:=by
 obtain⟨es,ep,t,e,R,T⟩:=S.at_;have l8:=fo b S.b8;have sb:scanBound=4096:=rfl;refine J7 e (T.fits S.b8 R.1) (R.elems (sR b)) (by rw[R.1,sb];lia) λh' ep' r tk sm e'=>?_
 obtain⟨R',T'⟩:=J8 (u:=u) S.b8 hk R T;exact h h' r tk sm ⟨nM b S.b8 k hk,_,ep',_,e',R',T'⟩
abbrev iP (w:RQ):Bool:=w.params.followText "set-order"
def sr(a:QF){Q₁:QF->QP->Prop}(h:Q₁ (.ref s.heap.objs.size) {s with heap:=s.heap.push (uj (!iP w))}) :
  codeAny (model prog w) A (.call (.builtin "set.__new__") ⟨[.type "set",a],[]⟩) (wants Q₁ E) s:=by
 refine codeAny_of_tree (show wpAny _ A.in1 (do checkBuiltinCall "set.__new__" ⟨[.type "set",a],[]⟩;again (.builtin "set.__new__" ⟨[.type "set",a],[]⟩)) _ _ s from ?_);refine QE (Xj (F.newCall_set_1 a) (Q1 ⟨XA F.plain_set_new _,UY F.entry_set_new ?_⟩));rw[Uv F.plain_set_new _];unfold TC.«set.__new__» TC.Frozenset.newClass;have hsub:=sub_set_self;obtain⟨hp,g,d,tk,os⟩:=s;dsimp only;wp_walk;refine Vf (Q1 ?_);dsimp only;simp only[newObj];refine QE (wpAny_alloc (Q1 (Q1 ?_)));exact h
end
section
variable{prog:Rx}{w:RQ}{A:RT}{E:QF->QP->Prop}{s:QP}
def yS(k:Kn){Q:QF->QP->Prop}(hh:A.handled=none)(hl:k.seq s.heap l items)(Z:Nat->Heap->Prop)
  (z0:∀h,h.get? s.heap.objs.size=some (uj (!iP w))->(∀b o,s.heap.get? b=some o->h.get? b=some o)->Z 0 h) (zk:∀i h h',Z i h->(∀b o,b≠s.heap.objs.size+1->h.get? b=some o->h'.get? b=some o)->Z i h')
  (za:∀(A':RT) i v (s':QP) (Q:Bool->QP->Prop) (E:QF->QP->Prop),A'.units<=A.units+8->i<items.size->items[i]?=some v->Z i s'.heap->(∀r h' tk,Z (i+1) h'->(∀b,b≠s.heap.objs.size->h'.get? b=s'.heap.get? b)->Q r {s' with heap:=h',toks:=tk})->wpAny (model prog w) A' (setAdd s.heap.objs.size v) Q E s')
  (q:∀h' tk,Z items.size h'->(∀b o,b<s.heap.objs.size->s.heap.get? b=some o->h'.get? b=some o)->Q (.ref s.heap.objs.size) {s with heap:=h',toks:=tk}):wpAny (model prog w) A (call (.type "set") [.ref l]) Q E s:=by
 obtain⟨c,tl,hmro⟩:=UW.mro;have hmade:=UW.made;have hsub:=UW.sub;refine wpAny_call (codeAny_of_tree ?_);show wpAny _ _ (callAny (.type "set") _) _ _ _;refine Q1 ⟨Code.quiet_builtin _ (by decide +kernel),UY F.entry_type_call ?_⟩;rw[RT.under_plain (weight_type_call_type "set" [.ref l] []) rfl];have h1:=UW.notType;have h2:=UW.canCreate;have hct:=F.typeCall_set_1 (.ref l)
 repeat (any_goals (first|assumption|wp_step))
 refine WK (sr (.ref l) (E:=E) (Q₁:=λobj s₁=>∃led:Bool,led = !iP w/\obj=.ref s.heap.objs.size/\s₁ = {s with heap:=s.heap.push (uj led)}) ⟨_,rfl,rfl,rfl⟩) λr s₁ hr=>?_
 cases r with
 |error e=>exact hr
 |ok fl =>
  cases fl with
  |ret obj =>
   obtain⟨led,hled,rfl,rfl⟩:=hr;have hS:(s.heap.push (uj led)).get? s.heap.objs.size=some (uj led):=Rg _ rfl;have hT:QP.TypeIs {s with heap:=s.heap.push (uj led)} (.ref s.heap.objs.size) "set":=⟨_,hS,rfl⟩
   have hli:=UW.init.lookup;have hbi:=UW.init.bind (.ref s.heap.objs.size)
   repeat (any_goals (first|assumption|wp_step))
   refine WK (codeAny_call_builtin (R:=wants (λr s₂=>r=.none/\∃h' tk,s₂ = {s with heap:=h',toks:=tk}/\Z items.size h'/\(∀b o,b<s.heap.objs.size->s.heap.get? b=some o->h'.get? b=some o)) E) UW.init.plain F.entry_set_init (check_set_init_1 hT ?_)) λr₂ s₂ hr₂=>?_
   .have Ad:l<s.heap.objs.size:=k.lt hl;have hl1:k.seq (s.heap.push (uj led)) l items:=k.Dj hl λo e=>QN _ e
    have nI:l≠(s.heap.push (uj led)).objs.size:=by rw[TN];exact RE (Xn Ad)
    have nS:s.heap.objs.size∉[(s.heap.push (uj led)).objs.size,l]:=by
     rw[TN];simp only[Q5,Ub,or_false,not_or];exact⟨RE (V9 _),UT Ad⟩
    have fin:∀(A':RT) (R':ZQ->QP->Prop),A'.in1.handled=none->A'.in1.units<=A.units+8->(∀h' tk,Z items.size h'->(∀b o,b<s.heap.objs.size->s.heap.get? b=some o->h'.get? b=some o)->R' (.ok (.ret .none)) {s with heap:=h',toks:=tk}) ->
      codeAny (model prog w) A' (.builtin "set.update.loop" ⟨[.ref s.heap.objs.size,.ref (s.heap.push (uj led)).objs.size],[]⟩) R' {s with heap:=(s.heap.push (uj led)).push (k.obj l)}:=by
     intro A' R' ha hu hR;refine Di (k.walks ha _ l nI items) s.heap.objs.size nS Z (λi h h' z kp=>zk i h h' z λb o hb e=>kp b o (by rw[TN];simpa using hb) e) (λi v s' Q' E' hi hv hz hq=>za _ i v s' Q' E' hu hi hv hz hq) (items.size-0) 0 _ rfl (RL _) ⟨k.it0 _ l,k.Dj hl1 λo e=>QN _ e⟩ (z0 _ (hled ▸ QN _ hS) λb o e=>QN _ (QN _ e)) λh' tk z kp=>hR h' tk z λb o hb e=>kp b o ?_ (QN _ (QN _ e))
     rw[TN];simp only[Q5,Ub,or_false,not_or];exact⟨RE hb,RE (Xn hb)⟩
    cases k
    .have hl2:(s.heap.push (uj led)).IsList l items:=hl1;obtain⟨ol,hol,hcl,nl,hdl⟩:=hl1;obtain⟨ocls,odict,odata,oslots⟩:=ol;simp only at hcl hdl;subst hcl;subst hdl;have hsls:=F.sub_list_set;have hslf:=F.sub_list_frozenset;have hne:(V2 "list" == V2 "dict")=false:=by decide
     unfold TC.«set.__init__» noKeywords WD;generalize hPI:pyIter=PI;wp_walk;subst hPI;refine Kn.iter .L hl2 (QE (wpAny_runValue (fin _ _ (by simp[hh]) (by simp) λh' tk z kp=>?_)));refine(show wpAny _ _ _ _ _ _ from Q1 (show wpAny _ _ (ret Td) _ _ _ from Q1 ⟨rfl,h',tk,rfl,z,kp⟩))
    .have hl2:(s.heap.push (uj led)).IsTuple l items:=hl1;obtain⟨ol,hol,hcl,nl,hdl⟩:=hl1;obtain⟨ocls,odict,odata,oslots⟩:=ol;simp only at hcl hdl;subst hcl;subst hdl;have hsls:=F.sub_tuple_set;have hslf:=F.sub_tuple_frozenset;have hne:(V2 "tuple" == V2 "dict")=false:=by decide
     unfold TC.«set.__init__» noKeywords WD;generalize hPI:pyIter=PI;wp_walk;subst hPI;refine Kn.iter .T hl2 (QE (wpAny_runValue (fin _ _ (by simp[hh]) (by simp) λh' tk z kp=>?_)));refine(show wpAny _ _ _ _ _ _ from Q1 (show wpAny _ _ (ret Td) _ _ _ from Q1 ⟨rfl,h',tk,rfl,z,kp⟩))
   .cases r₂ with
    |error e=>exact hr₂
    |ok fl₂ =>
     cases fl₂ with
     |ret r =>
      obtain⟨rfl,h',tk,rfl,hz,hk'⟩:=hr₂
      repeat (any_goals (first|assumption|wp_step))
      exact q _ _ hz hk'
     |_=>exact hr₂.elim
  |_=>exact hr.elim
abbrev dJ:List Nat->Nat->Nat
 |[],b=>b
 |k :: l,b=>dJ l (bC b k)
def kQ:∀(l:List Nat) (k b:Nat),dJ (l++[k]) b=bC (dJ l b) k
 |[],_,_=>rfl
 |j :: l,k,b=>kQ l k (bC b j)
def gq:aK 0=[]:=by decide
def Df(led:Bool)(h:Heap)(a:Addr)(e:h.get? a=some (uj led)):jX led h a 0:=by
 refine⟨by decide,#[],0,_,e,⟨by rw[gq];rfl,λi k hk=>by rw[gq] at hk;cases hk⟩,?_⟩;exact⟨by rw[gq];rfl,rfl,rfl,rfl,.inl ⟨rfl,by rw[gq];decide⟩⟩
def HE{items:List QF}{ks:List Nat}{Q:QF->QP->Prop}(hh:A.handled=none)(hl:s.heap.IsList l items.toArray)(hi:U4 items (ks.map λk:Nat=>(k:Int)))(h8:∀k∈ks,k<8)
  (q:∀h' tk,jX (!iP w) h' s.heap.objs.size (dJ ks 0)->(∀b o,b<s.heap.objs.size->s.heap.get? b=some o->h'.get? b=some o)->Q (.ref s.heap.objs.size) {s with heap:=h',toks:=tk}):wpAny (model prog w) A (call (.type "set") [.ref l]) Q E s:=by
 have li:items.length=ks.length:=by have:=U4.length hi;rw[Qx] at this;exact this
 refine yS .L (items:=items.toArray) hh hl (λi h=>jX (!iP w) h s.heap.objs.size (dJ (ks.take i) 0)) (λh e _=>by simpa[dJ] using Df _ h _ e) (λi h h' z k=>z.keep λo e=>k _ o (RE (V9 _)) e) (λA' i v s' Q' E' _ Ad hv z hq=>?_) (λh' tk z k=>q h' tk (by simpa[li] using z) k);have lt:i<ks.length:=by rw[<- li];simpa using Ad
 have hk:=h8 _ (Ry lt)
 obtain⟨u,rfl⟩:∃u,v=.int ((ks[i]:Nat):Int) u:=by
  have:∀{vs:List QF} {ns:List Int} (i:Nat),U4 vs ns->∀v,vs[i]?=some v->∃n u,ns[i]?=some n/\v=.int n u:=by
   intro vs ns i h
   induction h generalizing i with
   |nil=>intro v e;cases e
   |cons n t r ih =>
    intro v e;cases i with
    |zero=>cases e;exact⟨n,t,rfl,rfl⟩
    |succ i=>exact ih i v e
  obtain⟨n,u,e1,e2⟩:=this i hi v (by simpa using hv);rw[QD,Qy lt] at e1;cases e1;exact⟨u,e2⟩
 refine ul z hk λh' r tk sm z'=>?_
 refine hq r h' tk ?_ λb hb=>?_
 .show jX _ h' _ (dJ (ks.take (i+1)) 0);rw[QX,Qy lt];show jX _ h' _ (dJ (ks.take i++[ks[i]]) 0);rw[kQ];exact z'
 .exact sm.2 b hb
end
namespace F7
def kG:entryFor table "set.__iter__"=some TC.«frozenset.__iter__»:=entryFor_alias (id':="frozenset.__iter__") (by kernel_rfl) (by first|rfl|decide +kernel|(unfold Zaq;simp +decide [ZA])) (by decide +kernel) (by kernel_rfl)
def slot_next:Slot "set_iterator" "__next__" "set_iterator.__next__":=.of (owner:="set_iterator") (n:="__next__") (by rw[typeLookup_type,Yl];kernel_rfl) (by decide +kernel) (by decide +kernel) (by decide +kernel) (by first|exact .inl (by decide +kernel)|exact .inr (by decide +kernel)) (by rw[VP];kernel_rfl)
def entry_next:entryFor table "set_iterator.__next__"=some TC.«set_iterator.__next__»:=entryFor_of_tree (by kernel_rfl)
def args_next(a:QF):argsOk "set_iterator.__next__" ⟨[a],[]⟩:=by unfold argsOk;kernel_rfl
def oV:Slot "set_iterator" "__iter__" "set_iterator.__iter__":=.of (owner:="set_iterator") (n:="__iter__") (by rw[typeLookup_type,Yl];kernel_rfl) (by decide +kernel) (by decide +kernel) (by decide +kernel) (by first|exact .inl (by decide +kernel)|exact .inr (by decide +kernel)) (by rw[VP];kernel_rfl)
def wC:entryFor table "set_iterator.__iter__"=some TC.«dict_keyiterator.__iter__»:=entryFor_alias (id':="dict_keyiterator.__iter__") (by kernel_rfl) (by first|rfl|decide +kernel|(unfold Zaq;simp +decide [ZA])) (by decide +kernel) (by kernel_rfl)
def BW(a:QF):argsOk "set_iterator.__iter__" ⟨[a],[]⟩:=by unfold argsOk;kernel_rfl
end F7
abbrev Oh (h:Heap) (I S:Addr) (sl i n ep:Nat):Prop:=∃o,h.get? I=some o/\o.cls=.type "set_iterator"/\o.data=.fields #[.int (sl:Int) 0,.int (i:Int) 0,.ref S,.int (n:Int) 0,.int (ep:Int) 0]
abbrev wI (h:Heap) (S:Addr) (es:Array (Int×QF)) (ep:Nat) (t:S_):Prop:=h.get? S=some {cls:=.type "set",dict:=none,data:=.set es ep t,slots:=#[]}
section
variable{prog:Rx}{w:RQ}{A:RT}{E:QF->QP->Prop}{s:QP}{S I:Addr}{es:Array (Int×QF)}{ep:Nat}{t:S_}
def HD{Q:QF->QP->Prop} (m:wI s.heap S es ep t) (hf:t.fits es.size=true) (pl:t.plain=true) (q:Q (.ref s.heap.objs.size) {s with heap:=s.heap.push {cls:=.type "set_iterator",data:=.fields #[.int 0 0,.int 0 0,.ref S,.int (es.size:Int) 0,.int (ep:Int) 0]}}) :
  wpAny (model prog w) A (pyIter (.ref S)) Q E s:=by
 have ty:s.TypeIs (.ref S) "set":=⟨_,m,rfl⟩
 refine Xh ty F.slot_set_iter (SW F.slot_set_iter ty F7.kG ?_ (F.args_set_iter_1 _));unfold TC.«frozenset.__iter__»;refine QE (Xj (a:=S) rfl ?_);unfold TC.Frozenset.sizeOf;refine QE (QE (WJ m rfl hf (Q1 ?_)));rw[show setDrawn S=(do let x <- setState S;let b <- setsByText;return !b && (!x.2.2.plain && decide (x.1.size > 1))) from rfl];refine QE (QE (VQ m rfl hf ?_));unfold setsByText;refine QE (QE (Vf (Q1 (Q1 ?_))));dsimp only;rw[pl,show(!(model prog w).w.params.followText "set-order" && (!true && decide (es.size > 1)))=false by simp,if_neg (by simp)];refine QE (Q1 (QE (wpAny_setEpoch_of m rfl hf ?_)));refine QE (SG (Q1 ⟨_,rfl,"set_iterator",_,⟨_,Rg _ rfl,rfl⟩,F7.slot_next.lookup,?_⟩));simpa[rawInt] using q
def yP{Q:Option QF->QP->Prop}(it:Oh s.heap I S sl i es.size ep)(m:wI s.heap S es ep t)(hf:t.fits es.size=true) :
  (∀v nx,(∀(R:Option (QF×Nat)->QP->Prop) (E':QF->QP->Prop),R (some (v,nx)) s->wpAny (model prog w) A.in1 (setNext S sl i ep) R E' s)->(∀h',Oh h' I S nx (i+1) es.size ep->TX I s.heap h'->Q (some v) {s with heap:=h'})->wpAny (model prog w) A (pyNext (.ref I)) Q E s) /\
  (A.handled=none->(∀(R:Option (QF×Nat)->QP->Prop) (E':QF->QP->Prop),R none s->wpAny (model prog w) A.in1 (setNext S sl i ep) R E' s)->(∀h',Z5 I s.heap h'->Q none {s with heap:=h'})->wpAny (model prog w) A (pyNext (.ref I)) Q E s):=by
 obtain⟨o,ho,oc,od⟩:=id it;have ty:s.TypeIs (.ref I) "set_iterator":=⟨_,ho,oc⟩
 constructor
 .intro v nx hn hq;unfold pyNext;refine QE (Wh (Tf (name:=VM "__next__") ty F7.slot_next (SW F7.slot_next ty F7.entry_next ?_ (F7.args_next _))));unfold TC.«set_iterator.__next__»;refine QE (Q1 (QE (WY ho od ?_)));dsimp only;refine QE (WJ m rfl hf ?_);rw[if_neg (by simp)];simp only[RJ];refine QE (hn _ _ ?_);dsimp only;refine QE (UP ho od (by simp) ?_);have od1:(T9 (·.setIfInBounds 0 (rawInt (nx:Int))) o).data=.fields #[.int (nx:Int) 0,.int (i:Int) 0,.ref S,.int (es.size:Int) 0,.int (ep:Int) 0]:=by rw[Te od];simp[rawInt]
  have ho1:(s.heap.update I (T9 (·.setIfInBounds 0 (rawInt (nx:Int))))).get? I=some (T9 (·.setIfInBounds 0 (rawInt (nx:Int))) o):=SE _ ho (U1 (Te od _));refine QE (UP (s:={s with heap:=s.heap.update I (T9 (·.setIfInBounds 0 (rawInt (nx:Int))))}) ho1 od1 (by simp) ?_);have ho2:=SE (T9 (·.setIfInBounds 1 (rawInt ((i:Int)+1)))) ho1 (U1 (Te od1 _));have k2:Oh ((s.heap.update I (T9 (·.setIfInBounds 0 (rawInt (nx:Int))))).update I (T9 (·.setIfInBounds 1 (rawInt ((i:Int)+1))))) I S nx (i+1) es.size ep:=⟨_,ho2,(VN ..).trans ((VN ..).trans oc),by rw[Te od1];simp[rawInt]⟩
  exact Q1 ⟨_,rfl,Q1 (hq _ k2 ((Sn ..).trans (Sn ..)))⟩
 .intro hh hn hq;unfold pyNext;refine QE (Wh (Tf (name:=VM "__next__") ty F7.slot_next (SW F7.slot_next ty F7.entry_next ?_ (F7.args_next _))));unfold TC.«set_iterator.__next__»;refine QE (Q1 (QE (WY ho od ?_)));dsimp only;refine QE (WJ m rfl hf ?_);rw[if_neg (by simp)];simp only[RJ];refine QE (hn _ _ ?_);dsimp only;refine QE (UP ho od (by simp) ?_);show wpAny _ _ (newExc (.type "StopIteration") [] >>= _) _ _ _;refine QE ?_;simp only[newExc,newTuple];refine QE (SG ?_ (by size_fits));refine QE (m:=firstArgMember _ _) (Xj (a:=Td) (by simp only[firstArgMember];rfl) (SG ?_ (by size_fits)));simp only[raiseNew];refine QE (YV ?_);rw[show A.in1.handled=none from hh];refine QE (Q1 (Z6 ?_));refine QE (V8 (T:="StopIteration") (b:=true) ⟨_,Rg _ rfl,rfl⟩ Yv ?_);exact Q1 (hq _ (((Sn ..).extBut.push _).push _))
abbrev fC(w:RQ)(S:Addr)(ep:Nat)(es:Array (Int×QF)):Array (Int×QF):=if iP w then pickOrder (w.params.setOrder S ep) es else es
abbrev slotAt(w:RQ)(l:List Nat)(i:Nat):Nat:=if iP w then 0 else if i=0 then 0 else l.getD (i-1) 0+1
def NC:∀b<256,∀i<9,(aK b).length<i\/Uf (aK b).toArray (if i=0 then 0 else (aK b).getD (i-1) 0+1)=i:=by decide +kernel
def k7{α:Type}:∀(l:List α) (i:Nat) (h:i<l.length),(l[i] :: l.eraseIdx i).Perm l
 |x :: l,0,_=>VR _
 |x :: l,i+1,h=>by
  have h':i<l.length:=Nat.lt_of_succ_lt_succ h;exact(Zar x l[i] (l.eraseIdx i)).trans ((k7 l i h').cons x)
def zK{α:Type}(f:Nat->Nat):∀(n k:Nat) (left:List α) (out:Array α),n=left.length->(pickOrder.go f n k left out).toList.Perm (out.toList++left)
 |0,k,left,out,h=>by
  have:left=[]:=SK.mp h.symm
  subst this;show out.toList.Perm (out.toList++[]);rw[Tx]
 |n+1,k,left,out,h=>by
  have lt:f k % left.length<left.length:=Zas _ (by lia);unfold pickOrder.go;rw[Qy lt];refine(zK f n (k+1) _ _ (by rw[YB,if_pos lt];lia)).trans ?_;rw[Array.toList_push,R_];refine List.Perm.append_left _ ?_;exact k7 left _ lt
def m7{es:Array (Int×QF)}:(fC w S ep es).toList.Perm es.toList:=by
 unfold fC;split
 .have:=zK (w.params.setOrder S ep) es.size 0 es.toList #[] (by simp)
  simpa[pickOrder] using this
 .exact VR _
def mZ{es:Array (Int×QF)}:(fC w S ep es).size=es.size:=by
 have:=(m7 (w:=w) (S:=S) (ep:=ep) (es:=es)).length_eq
 simpa using this
def uo{b i:Nat}{R:Option (QF×Nat)->QP->Prop}(m:wI s.heap S es ep t)(hb:b<256)(T:TR (!iP w) t b)(hr:ER es (aK b))(hi:i<=es.size)(h:R ((fC w S ep es)[i]?.map λe=>(e.2,slotAt w (aK b) (i+1))) s) :
  wpAny (model prog w) A (setNext S (slotAt w (aK b) i) i ep) R E' s:=by
 have hf:=T.fits hb hr.1;have l8:=fo b hb;unfold setNext;refine QE (VQ m rfl hf ?_);dsimp only;unfold setsByText;refine QE (QE (Vf (Q1 ?_)));cases bt:iP w with
 |true =>
  have bt':(model prog w).w.params.followText "set-order"=true:=bt;dsimp only;rw[bt',if_pos rfl,if_neg (by simp)];unfold setWalk;refine QE (QE (VQ m rfl hf ?_));dsimp only;unfold setsByText;refine QE (QE (Vf (Q1 ?_)));dsimp only;rw[bt',if_pos rfl];refine QE (Vf (Q1 (Q1 ?_)));unfold fC slotAt at h;rw[bt] at h;unfold slotAt;rw[bt];exact h
 |false =>
  have bt':(model prog w).w.params.followText "set-order"=false:=bt;dsimp only;rw[bt',if_neg (by simp)];have sl:slotAt w (aK b) i=if i=0 then 0 else (aK b).getD (i-1) 0+1:=by unfold slotAt;rw[bt];rfl
  have sl2:slotAt w (aK b) (i+1)=(aK b).getD i 0+1:=by unfold slotAt;rw[bt];rfl
  have bl:Uf t.place (slotAt w (aK b) i)=i:=by
   rw[sl,T.place];rcases NC b hb i (by have:=hr.1;lia) with z|z
   .have:=hr.1;lia
   .exact z
  have eo:fC w S ep es=es:=by unfold fC;rw[bt];rfl
  rw[eo,sl2] at h;split
  .rename_i z;have z2:(!t.plain && decide (es.size > 1))=true:=z;rw[T.plain] at z2;cases z2
  .refine QE (show wpAny _ _ (if (!t.led && !es.isEmpty)=true then unsupported "set:maker-not-led" else pure ()) _ _ _ from ?_);rw[T.led,bt,if_neg (by simp)];refine Q1 (Q1 ?_);rw[bl,T.place];by_cases li:i<es.size
   .have l2:i<(aK b).length:=by rw[<- hr.1];exact li
    obtain⟨tk,et⟩:=hr.2 i _ (Qy l2);rw[et] at h ⊢;rw[U2,Qy l2];rw[Qz,Qy l2] at h;exact h
   .have en:es[i]?=none:=TY (by lia);rw[en] at h ⊢;exact h
def De(hh:A.handled=none)(I S:Addr)(ne:S≠I){b:Nat}(hb:b<256)(T:TR (!iP w) t b)(hr:ER es (aK b)):YU prog w A I [I,S] [I] es.size (λi v=>∃e,(fC w S ep es)[i]?=some e/\v=e.2) (λi h=>Oh h I S (slotAt w (aK b) i) i es.size ep/\wI h S es ep t) where
 sub:=λb hb=>by rw[QY.mp hb];simp
 frame:=λ_ _ _ st hk=>⟨by obtain⟨o,e,r⟩:=st.1;exact⟨o,hk I (by simp) o e,r⟩,hk S (by simp) _ st.2⟩
 item:=λi s Q E hi st hq=>by
  have lo:(fC w S ep es).size=es.size:=mZ;have ei:(fC w S ep es)[i]?=some (fC w S ep es)[i]:=by simp[lo,hi]
  refine(yP st.1 st.2 (T.fits hb hr.1)).1 (fC w S ep es)[i].2 (slotAt w (aK b) (i+1)) (λR E' h=>uo st.2 hb T hr (TJ hi) (by rw[ei];exact h)) λh' k1 k2=>?_
  exact hq _ h' s.toks ⟨_,ei,rfl⟩ ⟨k1,k2.extBut S _ ne st.2⟩ λb o hb e=>k2.extBut b o (λz=>hb (by simp[z])) e
 done:=λs Q E st hq=>(yP st.1 st.2 (T.fits hb hr.1)).2 hh (λR E' h=>uo st.2 hb T hr (QH _) (by rw[show(fC w S ep es)[es.size]?=none from TY (by rw[mZ];exact QH _)];exact h)) λh' k=>hq h' s.toks λb o hb e=>k b o (λz=>hb (by simp[z])) e
 self:=λ_ s _ _ st hq=>by
  obtain⟨o,ho,oc,od⟩:=st.1;have ty:s.TypeIs (.ref I) "set_iterator":=⟨_,ho,oc⟩
  refine Xh ty F7.oV (SW F7.oV ty F7.wC (show wpAny _ _ (ret (.ref I)) _ _ s from Q1 ⟨_,rfl,"set_iterator",_,ty,F7.slot_next.lookup,hq⟩) (F7.BW _))
def EZ{Q:Bool->QP->Prop} (hT:s.TypeIs (.ref r) "set") (h:Q false s):wpAny (model prog w) A (WO (.ref r)) Q E s:=by
 unfold WO;refine QE (wpAny_specialOf hT PySem.F.slot_set_len.lookup ?_);generalize hid:("set.__len__" : String)=id0;wp_delta;rw[show splitId id0=some ("set","__len__") from by subst hid;decide +kernel];subst hid;refine QE (V8 (T:="set") (b:=true) hT (by rw[VP];kernel_rfl) ?_);refine wpAny_ite_split (λhab=>absurd hab (by decide)) (λ_=>?_);refine wpAny_ite_split (λ_=>?_) (λhab=>absurd (by decide +kernel) hab);refine QE (wpAny_typeOf hT ?_);exact Q1 h
def KN{b:Nat} (hb:b<256) (T:TR (!iP w) t b) (hr:ER es (aK b)):Zao prog w "set" S S es.size (λi v=>∃e,(fC w S ep es)[i]?=some e/\v=e.2) (λh=>wI h S es ep t) where
 type:=λ_ m=>⟨_,m,rfl⟩
 there:=λ_ m=>⟨Q_ m,Q_ m⟩
 keep:=λ_ _ m hk=>hk S (.inl rfl) _ m
 notList:=by decide
 notTuple:=by decide
 hint:=λ_ _ _ _ m q=>EZ ⟨_,m,rfl⟩ q
 iter:=λ_ _ hh m=>⟨_,_,(λ_ _ q=>HD m (T.fits hb hr.1) T.plain q),De hh _ S (RE (Q_ m)) hb T hr,⟨⟨_,Rg _ rfl,rfl,by unfold slotAt;simp⟩,QN _ m⟩⟩
def ints_of:∀{vs:List QF} {ns:List Int},vs.length=ns.length->(∀(j:Nat) (v:QF),vs[j]?=some v->∃n u,ns[j]?=some n/\v=U0 n u)->U4 vs ns
 |[],[],_,_=>.nil
 |[],_ :: _,h,_=>by cases h
 |_ :: _,[],h,_=>by cases h
 |v :: vs,n :: ns,h,k=>by
  obtain⟨n',u,e1,rfl⟩:=k 0 v rfl;cases e1;exact .cons n u (ints_of (by simpa using h) λj v hj=>k (j+1) v hj)
def Jt:∀b<256,((aK b).map λk:Nat=>(k:Int)).Pairwise (· < ·):=by decide +kernel
def jc:∀{a b:List Int},a.Perm b->a.Pairwise (·<=·)->b.Pairwise (· < ·)->a=b
 |[],b,p,_,_=>p.nil_eq
 |x :: a,[],p,_,_=>by have:=p.length_eq;cases this
 |x :: a,y :: b,p,h1,h2=>by
  obtain⟨x1,x2⟩:=VB.mp h1;obtain⟨y1,y2⟩:=VB.mp h2
  have e:x=y:=by
   have m1:y∈x :: a:=p.mem_iff.mpr QK;have m2:x∈y :: b:=p.mem_iff.mp QK;rcases Q5.mp m1 with e|m1
   .exact e.symm
   .rcases Q5.mp m2 with e|m2
    .exact e
    .have:=x1 y m1
     have:=y1 x m2
     lia
  subst e;rw[jc (List.Perm.cons_inv p) x2 y2]
def yO{Q:QF->QP->Prop} (hh:A.handled=none) (m:jX (!iP w) s.heap S b) (q:∀(h1 h':Heap) (tk:Nat) (D:Addr) (vs:List QF) (c:Nat),(∀b o,s.heap.get? b=some o->h1.get? b=some o)->(∀b o,h1.get? b=some o->h'.get? b=some o)->h1.objs.size<=D->h'.get? D=some (seqObj "list" (List.toArray vs) c)->U4 vs ((aK b).map λk:Nat=>(k:Int))->Q (.ref D) {s with heap:=h',toks:=tk}) :
  wpAny (model prog w) A (call (.builtin "sorted") [.ref S]) Q E s:=by
 obtain⟨es,ep,t,e,hr,T⟩:=m.at_;have l8:=fo b m.b8;have raw:wI s.heap S es ep t:=e;refine Calls.call_function_entry kind_sorted plain_sorted entry_sorted (args_sorted1 _) ?_;unfold TC.«sorted»;refine QE (m:=checkCount "sorted" 1 1 _) (Q1 ?_);refine QE (PySem.W.kdu_collect (A:=A.in1) (KN m.b8 T hr) hh raw (by rw[hr.1,Us];lia) λh' tk acc hk hacc=>?_);have la:acc.size=es.size:=hacc.1;have lo:(fC w S ep es).size=es.size:=mZ
 have ent:∀e∈es.toList,∃(k:Int) (tk:Tok),e=(k,U0 k tk):=λe he=>by
  obtain⟨i,li,ei⟩:=Sh.mp he;have l2:i<(aK b).length:=by rw[<- hr.1];simpa using li
  obtain⟨tk,et⟩:=hr.2 i _ (Qy l2);have e2:es.toList[i]?=some e:=by rw[Qy li,ei]
  rw[Rq,et] at e2;cases e2;exact⟨_,tk,rfl⟩
 have hs:es.toList.map (·.1)=(aK b).map λk:Nat=>(k:Int):=by
  apply VO;intro i;rw[QD,QD,Rq];by_cases li:i<(aK b).length
  .obtain⟨tk,et⟩:=hr.2 i _ (Qy li);rw[et,Qy li];rfl
  .rw[TY (by rw[hr.1];lia),RD (by lia)];rfl
 have hI:U4 acc.toList ((fC w S ep es).toList.map (·.1)):=ints_of (by rw[Ro,Qx,Ro,la,lo]) λj v hj=>by
  rw[Rq] at hj;obtain⟨e,e1,e2⟩:=hacc.2 j v hj;obtain⟨k,tk,rfl⟩:=ent e (m7.mem_iff.mp (QI (by rw[Rq];exact e1)));exact⟨_,tk,by rw[QD,Rq,e1];rfl,e2⟩
 have l64:acc.toList.length<64:=by rw[Ro,la,hr.1];lia
 refine QE (wpAny_newList ?_ (by rw[Us];lia));have hoL:(h'.push (seqObj "list" acc.toList.toArray 0)).get? h'.objs.size=some (seqObj "list" acc.toList.toArray 0):=Rg _ rfl;refine QE (T8 (SW (s:={s with heap:=h'.push (seqObj "list" acc.toList.toArray 0),toks:=tk}) slot_list_sort ⟨_,hoL,rfl⟩ entry_list_sort (list_sort_tree hoL hI l64 λout ns' i' p' pw=>⟨_,rfl,?_⟩) (args_list_sort _)));have en:ns'=(aK b).map λk:Nat=>(k:Int):=jc (p'.trans (by rw[<- hs];exact m7.map _)) pw (Jt b m.b8)
 subst en
 have keep2:∀c o,c≠h'.objs.size->(h'.push (seqObj "list" acc.toList.toArray 0)).get? c=some o->(sortedHeap (h'.push (seqObj "list" acc.toList.toArray 0)) h'.objs.size acc.toList out).get? c=some o:=λc o hc e2=>by
  unfold sortedHeap;rw[YN _ _ _ _ hc];exact QN _ (QN _ (by rw[YN _ _ _ _ hc];exact e2))
 obtain⟨e1,ho1⟩:∃e1,((h'.push (seqObj "list" acc.toList.toArray 0)).update h'.objs.size (UU λ_=>(#[]:Array QF))).get? h'.objs.size=some (seqObj "list" #[] e1):=⟨_,get?_update_seq hoL λ_=>#[]⟩
 obtain⟨c2,ho2⟩:∃c2,(sortedHeap (h'.push (seqObj "list" acc.toList.toArray 0)) h'.objs.size acc.toList out).get? h'.objs.size=some (seqObj "list" out c2):=⟨_,get?_update_seq (QN _ (QN _ ho1)) λ_=>out⟩
 exact Q1 ⟨_,rfl,q h' _ tk h'.objs.size out.toList c2 hk (λc o e2=>keep2 c o (RE (Q_ e2)) (QN _ e2)) (QH _) (by simpa using ho2) i'⟩
end
open PySem.W (Dat)
def kP:∀(ks:List Nat) (b:Nat),b<256->(∀k∈ks,k<8)->∀j,j∈aK (dJ ks b)↔j∈aK b\/j∈ks
 |[],b,_,_,j=>by simp[dJ]
 |k :: ks,b,h,g,j=>by
  have hk:=g k QK;rw[dJ,kP ks (bC b k) (nM b h k hk) (λj hj=>g j (QL _ hj)) j,Q5]
  have:j∈aK (bC b k)↔j∈aK b\/j=k:=by
   by_cases j8:j<8
   .have:=EV b h k hk j j8
    rw[TV] at this;simpa using this
   .exact⟨λz=>absurd (sR _ _ z) j8,λz=>by
     rcases z with z|z
     .exact absurd (sR _ _ z) j8
     .exact absurd (z ▸ hk) j8⟩
  rw[this];constructor
  .rintro((z|z)|z)
   .exact .inl z
   .exact .inr (.inl z)
   .exact .inr (.inr z)
  .rintro(z|z|z)
   .exact .inl (.inl z)
   .exact .inl (.inr z)
   .exact .inr z
abbrev cT(ks:List Nat):List Nat:=(QR 8).filter λk=>ks.contains k
def yT{ks:List Nat}(g:∀k∈ks,k<8):aK (dJ ks 0)=cT ks:=by
 unfold cT;have e:=kP ks 0 (by decide) g;unfold aK at e ⊢;refine ZB λk hk=>?_
 have:=e k
 rw[Ri] at this;rw[TV,VZ];refine⟨λz=>?_,λz=>(this.mpr (.inr z)).2⟩;rcases this.mp ⟨hk,z⟩ with y|y
 .rw[Ri] at y;simp at y
 .exact y
def t5{vs:List QF}(h:U4 vs ns):Vals (ns.map V.int) vs:=by
 induction h with
 |nil=>exact .nil
 |cons n t r ih=>exact .cons ⟨t,rfl⟩ ih
section
variable{X:Cx}
abbrev ut(K:Fg):V->Hp->VK->Prop:=λx H Q=>∃(a:Addr) (ks:List Nat),x=.ref a/\SqL K H a (ks.map λk:Nat=>.int (k:Int))/\(∀k∈ks,k<8)/\∀l,H l=none->Q (.ref l) (upd H l (.lst ((cT ks).map λk:Nat=>.int (k:Int))))
abbrev mr(K:Fg)(te:TE):TE:=λσ H Q=>te σ H λx H1=>ut K x H1 Q
def wc{p p2 pos pos2:Pos} (hc:X.calm=true) (hgl:Gl X "sorted") (hml:X.mg "sorted"=none) (hgs:Gl X "set") (hms:X.mg "set"=none) (he:PE X e te)
  (hs:starEach [e] X.env=[(false,eval e X.env)]:=by rfl) (hs2:starEach [Expr.Call (.Name "set" p2) [e] [] pos2] X.env=[(false,eval (.Call (.Name "set" p2) [e] [] pos2) X.env)]:=by rfl) :
  PE X (.Call (.Name "sorted" p) [.Call (.Name "set" p2) [e] [] pos2] [] pos) (mr X.K te):=by
 intro ξ s σ H Q I h;refine TF (dR I hgl hml BU ?_);refine V3 ?_ hs2 rfl;rw[hs2];refine(show wpAny _ _ (spliced ((false,eval (.Call (.Name "set" p2) [e] [] pos2) X.env) :: backTo pos [])) _ _ s from Uc ?_);refine TF (dR I hgs hms NF ?_);refine RZ ?_ hs rfl;rw[hs];refine(show wpAny _ _ (spliced ((false,eval e X.env) :: backTo pos2 [])) _ _ s from Uc (bh (he ξ s σ H _ I h) λu s1 ⟨x,H1,I1,r1,q1⟩=>Ut ?_));obtain⟨a,ks,rfl,hq,g8,q⟩:=q1;cases r1;obtain⟨gV,rv,pl,_⟩:=I1.list hq;have hl:s1.heap.IsList a gV.toArray:=pl.isList;have hi:U4 gV (ks.map λk:Nat=>(k:Int)):=intsAre_of (by rw[Sg];exact rv);have hh:=I1.ok.hd hc;refine HE hh hl hi g8 λh' tk sm kp=>Ut ?_
 refine yO (s:={s1 with heap:=h',toks:=tk}) hh sm λh1 h2 tk2 D vs c k1 k2 lD eD iD=>?_
 have keep:∀b o,s1.heap.get? b=some o->h2.get? b=some o:=λb o e=>k2 b o (k1 b o (kp b o (Q_ e) e))
 rw[yT g8] at iD;have l8:(cT ks).length<=8:=by unfold cT;exact Sc _ _
 have lS:s1.heap.objs.size<=D:=by
  obtain⟨es,ep,t,e,_⟩:=sm.at_
  have:=Q_ (k1 _ _ e)
  exact Q0 (TJ this) lD
 refine⟨.ref D,_,I1.laid (t':=tk2) (o:=.lst ((cT ks).map λk:Nat=>.int (k:Int))) keep lS ⟨?_,vs,c,?_,eD⟩,rfl,q D (I1.hok.fresh lS)⟩
 .rw[Qx,Us];lia
 .have:=t5 iD
  rw[Sg] at this;exact this
abbrev gO(te:TE):TE:=λσ H Q=>te σ H λx H1=>∃n:Nat,x=.int (n:Int)/\n<=1000/\∀l,H1 l=none->Q (.ref l) (upd H1 l (.lst ((QR n).map λk:Nat=>.int (k:Int))))
def pI{p p2 pos pos2:Pos} (hc:X.calm=true) (hgl:Gl X "list") (hml:X.mg "list"=none) (hgs:Gl X "range") (hms:X.mg "range"=none) (he:PE X e te)
  (hs:starEach [e] X.env=[(false,eval e X.env)]:=by rfl) (hs2:starEach [Expr.Call (.Name "range" p2) [e] [] pos2] X.env=[(false,eval (.Call (.Name "range" p2) [e] [] pos2) X.env)]:=by rfl) :
  PE X (.Call (.Name "list" p) [.Call (.Name "range" p2) [e] [] pos2] [] pos) (gO te):=by
 intro ξ s σ H Q I h;refine TF (dR I hgl hml tJ ?_);refine RZ ?_ hs2 rfl;rw[hs2];refine(show wpAny _ _ (spliced ((false,eval (.Call (.Name "range" p2) [e] [] pos2) X.env) :: backTo pos [])) _ _ s from Uc ?_);refine TF (dR I hgs hms boot_range ?_);refine RZ ?_ hs rfl;rw[hs];refine(show wpAny _ _ (spliced ((false,eval e X.env) :: backTo pos2 [])) _ _ s from Uc (bh (he ξ s σ H _ I h) λu s1 ⟨x,H1,I1,r1,q1⟩=>Ut ?_));obtain⟨n,rfl,hn,q⟩:=q1;obtain⟨t,rfl⟩:=r1;refine call_range_1 (Ut ?_);refine call_list_range (n:=n) (I1.ok.hd hc) (Yq ..) (small_one (by lia) (by lia) (by lia) (by lia)) (by rw[rangeSize_nat];lia) (by lia) λh' tk acc c kp ha hit=>?_
 have hsz:(s1.heap.push {cls:=.type "range",data:=.fields #[.int 0 s1.toks,.int (n:Int) t,.int 1 (s1.toks+1)]}).objs.size=s1.heap.objs.size+1:=size_push' _ _
 have hi:U4 acc.toList ((QR n).map λk:Nat=>(k:Int)):=ints_of (by rw[Ro,Qx,Ra];exact hit.1) λj v hj=>by
  rw[Rq] at hj;obtain⟨u,e2⟩:=hit.2 j v hj
  have lj:j<n:=by
   have:=(W3.mp hj).1
   rw[hit.1] at this;exact this
  exact⟨_,u,by rw[QD,RG lj];rfl,by rw[e2];simp⟩
 have lS:s1.heap.objs.size<=(s1.heap.push {cls:=.type "range",data:=.fields #[.int 0 s1.toks,.int (n:Int) t,.int 1 (s1.toks+1)]}).objs.size:=by rw[hsz];exact Yt _
 refine⟨.ref _,_,I1.laid (t':=tk) (o:=.lst ((QR n).map λk:Nat=>.int (k:Int))) (λb o e=>kp b o (QN _ e)) lS ⟨?_,acc.toList,c,?_,by rw[Wl];exact ha⟩,rfl,q _ (I1.hok.fresh lS)⟩
 .rw[Qx,Ra,Us];lia
 .have:=t5 hi
  rw[Sg] at this;exact this
abbrev Oz:List V->Hp->VK->Prop:=λxs H Q=>∃i j,xs=[.int i,.int j]/\Q (.int (if j > i then j else i)) H
end
abbrev Li:List V->Hp->VK->Prop:=λxs H Q=>∃a de,xs=[V.ref a]/\H a=some (.dK de)/\Q (.int de.length) H
def HQ{k:bf}(h:nJ k v=true):RelV (kV k) v:=by
 cases k with
 |inl i =>
  cases v <;> simp[nJ,Tv] at h
  subst h;exact⟨_,rfl⟩
 |inr x =>
  cases v <;> simp[nJ,YT] at h
  subst h;exact⟨_,rfl⟩
def qe{P:Rx}{w:RQ}:∀{es:List WS} {vs:List (bf×QF)},Pairs (bH P w) es vs->Vals (vs.map λkv=>kV kv.1) (es.map λe=>e.key)
 |_,_,.nil=>.nil
 |_,_,.cons h _ r=>.cons (HQ h) (qe r)
def pairs_len{P:Rx}{w:RQ}:∀{es:List WS} {vs:List (bf×QF)},Pairs (bH P w) es vs->es.length=vs.length
 |_,_,.nil=>rfl
 |_,_,.cons _ _ r=>congrArg (· + 1) (pairs_len r)
abbrev zv:List V->Hp->VK->Prop:=λxs H Q=>∃a de,xs=[.ref a]/\H a=some (.dK de)/\∀l:Addr,H l=none->Q (.ref l) (upd H l (.lst (de.map λkv=>kV kv.1)))
def tI{X:Cx} (hc:X.calm=true):eR X (.type "list") zv:=by
 intro ξ s σ H xs us Q I r h;obtain⟨a,de,rfl,ha,q⟩:=h;obtain⟨u,rfl,ru⟩:=vals1 r;cases ru;obtain⟨z,lo,vs,kv,o,es,ep,ho,ex,dt,_,pr,_⟩:=J1 I.hok ha
 have ek:(de.map λkv=>kV kv.1)=vs.map λkv=>kV kv.1:=by
  have:=congrArg (ZaD kV) kv.keys
  rw[Sg,Sg] at this;exact this
 have lk:de.length=vs.length:=by have:=congrArg Sr ek;rwa [Qx,Qx] at this
 have sz:es.size=de.length:=by rw[<- Ro,pairs_len pr,lk]
 refine ZU (zr (es:=es) (ep:=ep) lo) (I.ok.hd hc) ⟨o,ho,ex,dt⟩ (by rw[sz];exact z) λh' tk acc c kp hl hit=>?_
 have acc_eq:acc.toList=es.toList.map λe=>e.key:=by
  refine VO λj=>?_
  by_cases lt:j<es.size
  .have hj:j<acc.toList.length:=by rw[Ro];rw[hit.1];exact lt
   have e1:acc.toList[j]?=some acc.toList[j]:=Qy hj;obtain⟨e,ee,ev⟩:=hit.2 j acc.toList[j] (by rw[<- Rq];exact e1);rw[e1,ev,QD,Rq,ee];rfl
  .rw[RD (by rw[Ro,hit.1];lia),RD];rw[Qx,Ro];lia
 have vals:Vals (de.map λkv=>kV kv.1) acc.toList:=by
  rw[acc_eq,ek];exact qe pr
 refine⟨.ref s.heap.objs.size,_,I.laid (t':=tk) kp (QH _) (show cc X.prog X.w _ h' _ (.lst (de.map λkv=>kV kv.1)) from⟨?_,acc.toList,c,vals,by rw[Wl];exact hl⟩),rfl,q _ (I.hok.fresh (QH _))⟩;rw[Qx];exact z
open PySem.Builtin.Str (occurrences lastOccurrence strSub subAt partsBetween)
open PySem PySem.Spec PyProof.Rows PySem.W
end L2
namespace L2
open PySem PySem.Spec PyProof.Rows
open PySem.Builtin.Str (strSub subAt occurrences)
def oC.of{sc scope:Scope}{N M ys:List Str}(h:decide (scope.kind=.function/\(∀y∈scope.names,y.2≠.cell)/\(∀y∈scope.names,y.2=.local->scope.names.lookup y.1=some .local)/\(∀y∈ys,scope.names.lookup y=some .local)/\(ys++M).Nodup/\M.length=N.length/\(∀p∈M.zip N,p.1=p.2\/(DB scope sc).lookup p.1=none)/\(∀y∈M,(DB scope sc).lookup y≠some .local)/\∀n∈scope.names,n.2=.free->sc.names.lookup n.1=some .cell)=true):oC sc N M ys scope:=by
 obtain⟨a,b,c,d,e,f,g,i,j⟩:=of_decide_eq_true h;exact⟨a,b,c,d,e,f,g,i,j⟩
abbrev Oq:Expr->List Str
 |.Name x _=>[x]
 |.Tuple es _ _=>es.map λe=>match e with|.Name x _=>x|_=>XH
 |_=>[]
section
variable{X:Cx}{x:Str}{scope:Scope}{elt iter tg cn:Expr}{pos py sp:Pos}{wi:TI}{g:TG}{tc:TT}{te:TE}{n i:Nat}{y:Str}
abbrev Qu:=@LP X x X.N scope
abbrev Qs:=@LM X scope elt iter tg pos wi g te n (Oq tg) X.N
abbrev Qt:=@LO X scope elt iter tg cn pos wi g tc te n (Oq tg) X.N
abbrev Qp:=@FM X scope elt iter tg cn pos py sp wi g tc te i n y (Oq tg) X.N
end
def pV{x:Int}(h:x.natAbs<2 ^ 13500):WE x y=false:=by
 unfold WE;by_cases z:x=0
 .subst z;simp
 .have l:x.natAbs.log2<13500:=(Yu (by lia)).mpr h;have e:(x == 0)=false:=by simp[z]
  simp only[e];simp;intro _;lia
abbrev N9(i j:Int):Prop:=j≠0/\i.natAbs<2 ^ 13500
def Es:fD X (binaryOp .FloorDiv) (rI N9 λi j=>.int (i.fdiv j)):=F1 λ_ _ _ _ _ _ _ hc q=>Zk hc.1 q (.inl (pV hc.2))
nonrec abbrev wa:R2:=rI N9 λi j=>.int (i.fdiv j)
def wZ{K:Fg}(it:Addr)(lo:Int)(n:Nat):qL P w K tg (oG lo n) [it] it (λi h=>IsLongIter h it (lo+(i:Nat)*1) ((n:Int)-(i:Nat)) 1) where
 mem:=by simp
 obj:=λi h st b hb=>by
  have e:b=it:=by simpa using hb
  subst e;exact⟨_,st,λv z=>by have z':Yp _=XF v:=z;cases z'⟩
 keep:=λi h h' st k=>k it (by simp) _ st
 item:=by
  intro X hP hw hK hc i ξ s σ H E I hf st hg;subst hP hw hK;obtain⟨f0,f1,f2,f3,f4,f5⟩:=hf it (by simp);refine(YU.longrange (prog:=X.prog) (w:=X.w) (I.ok.hd hc) it lo 1 n).item i s _ _ hg st λv h' tk hv st' kk=>?_
  obtain⟨t,rfl⟩:=hv;have I1:Inv X ξ σ H {s with heap:=h',toks:=tk}:=I.turned (λb o hb e=>kk b o (by simpa using hb) e) f0 f1 f3 f4 f5;refine⟨_,rfl,E4 (s:={s with heap:=h',toks:=tk}) (n:="longrange_iterator") st' rfl rfl (by decide) ⟨.int (lo+i),H,I1,⟨t,by rw[Z3]⟩,⟨rfl,rfl⟩,st',λb hb=>(hf b hb).1⟩⟩
 done:=by
  intro X hP hw hK hc i ξ s σ H E I hf st hg;subst hP hw hK;obtain⟨f0,f1,f2,f3,f4,f5⟩:=hf it (by simp);exact wpAny_pyNext_long_end (I.ok.hd hc) st (by have:n<=i:=hg;lia) λh' eb=>⟨rfl,I.turned (t':=s.toks) (λb o hb e=>eb b o hb e) f0 f1 f3 f4 f5⟩
 self:=λ_ _ _ _ _ st h=>wpAny_pyIter_longiter st h
section
variable{X:Cx}{tg:Expr}
def vZ{H:Hp}{R:It->Hp->Prop}{lo hi:Int}{t u v:Tok}{tk:Nat}(I:Inv X ξ σ H s)
  (q:R (oG lo (hi-lo).toNat) H):wpAny (model X.prog X.w) X.A (pyIter (.ref s.heap.objs.size)) (Oi X ξ σ tg R) E {s with heap:=s.heap.push {cls:=.type "range",data:=.fields #[.int lo t,.int hi u,.int 1 v]},toks:=tk}:=by
 have I1:Inv X ξ σ H {s with heap:=s.heap.push {cls:=.type "range",data:=.fields #[.int lo t,.int hi u,.int 1 v]},toks:=tk}:=I.kept λb o e=>QN _ e
 have e1:lo+((0:Nat):Int)*1=lo:=by simp
 have e2:(((hi-lo).toNat:Nat):Int)-((0:Nat):Int)=XG lo hi 1:=by rw[rangeSize_one];split <;> lia
 by_cases c:TC.Range.small lo hi 1=true
 .refine Y6 (Yq ..) c ?_;refine⟨_,[(s.heap.push {cls:=.type "range",data:=.fields #[.int lo t,.int hi u,.int 1 v]}).objs.size],_,_,H,rfl,I1.kept (t':=tk) λb o e=>QN _ e,kK _ lo (hi-lo).toNat,?_,λb hb=>?_,q⟩
  .show Z2 _ _ (lo+((0:Nat):Int)*1) ((((hi-lo).toNat:Nat):Int)-((0:Nat):Int)) 1;rw[e1,e2];exact Rg _ rfl
  .have e:b=(s.heap.push {cls:=.type "range",data:=.fields #[.int lo t,.int hi u,.int 1 v]}).objs.size:=by simpa using hb
   subst e;exact I1.fpOk (QH _) (I1.hok.fresh (QH _))
 .refine wpAny_pyIter_longrange (Yq ..) (by simpa using c) ?_;refine⟨_,[(s.heap.push {cls:=.type "range",data:=.fields #[.int lo t,.int hi u,.int 1 v]}).objs.size],_,_,H,rfl,I1.kept (t':=tk) λb o e=>QN _ e,wZ _ lo (hi-lo).toNat,?_,λb hb=>?_,q⟩
  .show IsLongIter _ _ (lo+((0:Nat):Int)*1) ((((hi-lo).toNat:Nat):Int)-((0:Nat):Int)) 1;rw[e1,e2];exact Rg _ rfl
  .have e:b=(s.heap.push {cls:=.type "range",data:=.fields #[.int lo t,.int hi u,.int 1 v]}).objs.size:=by simpa using hb
   subst e;exact I1.fpOk (QH _) (I1.hok.fresh (QH _))
abbrev JO(ta:TA):TI:=λσ H R=>ta σ H λvs H1=>∃i j:Int,vs=[.int i,.int j]/\R (oG i (j-i).toNat) H1
def MF{ta:TA}{H:Hp}{R:It->Hp->Prop}(h:ta σ H λvs H1=>∃i j:Int,vs=[.int i,.int j]/\R (oG i (j-i).toNat) H1):JO ta σ H R:=h
def zM{a b:Expr} {ta:TA} {p pos:Pos} (hg:Gl X "range") (hm:X.mg "range"=none) (ha:PA X [a,b] ta) (hs:starEach [a,b] X.env=[(false,eval a X.env),(false,eval b X.env)]:=by rfl) (hs2:starEach [b] X.env=[(false,eval b X.env)]:=by rfl) :
  PI X tg (.Call (.Name "range" p) [a,b] [] pos) (JO ta):=by
 intro ξ s σ H R I h;refine Call_ (dR I hg hm boot_range (RZ (bh (ha pos ξ s σ H _ I h) λus s1 ω=>?_) (by rw[hs,hs2]) (by rw[hs2];rfl)));obtain⟨vs,H1,I1,r1,i,j,e,q⟩:=ω;subst e;obtain⟨u,u',rfl,⟨t,rfl⟩,⟨t',rfl⟩⟩:=vals2 r1;exact call_range_2 (vZ I1 q)
end
abbrev Lh(K:Fg):List V->Hp->VK->Prop:=λxs H Q=>∃(a:Addr) (ns:List Int),xs=[.ref a]/\SqT K H a (ns.map V.int)/\ns≠[]/\∀m,m∈ns->(∀x∈ns,x<=m)->Q (.int m) H
def BM{X:Cx} (hc:X.calm=true):eR X (.builtin "max") (Lh X.K):=by
 intro ξ s σ H xs us Q I r h;obtain⟨a,ns,rfl,q1,ne,q⟩:=h;obtain⟨u,rfl,ru⟩:=vals1 r;cases ru;obtain⟨gV,rv,p,_⟩:=I.tuple q1;obtain⟨l,e1,e2⟩:=kJ rv;have p:s.heap.IsTuple a gV.toArray:=p;rw[e1,show(l.map λp=>U0 p.1 p.2).toArray=intItems l.toArray by simp[intItems]] at p;have ln:l.length=ns.length:=by rw[<- e2,Qx]
 have pos:=Vn.mpr ne;have Ad:a<s.heap.objs.size:=by obtain⟨_,e,_⟩:=p;exact Q_ e
 refine call_max_walk (WV p ⟨_,_,_,_,_,_,_,rfl,YU.tuple (A:=X.A.in1) (I.ok.hd hc) s.heap.objs.size a (RE Ad) (intItems l.toArray),⟨⟨_,Rg _ rfl,rfl,rfl⟩,p.push _⟩,λb hb=>?_,by simp[intItems];lia,CmpOf.ints_gt (numAt l.toArray) (λ_ _=>intItems_at),λv h' tk hP hk=>?_⟩)
 .show b<(s.heap.push _).objs.size;rw[TN];rcases Q5.mp hb with rfl|hb
  .exact V9 _
  .cases QY.mp hb;exact Xn Ad
 have hk':∀b o,s.heap.get? b=some o->h'.get? b=some o:=λb o e=>hk b o (λhm=>by cases QY.mp hm;exact absurd (Q_ e) (T7 _)) (QN _ e)
 obtain⟨t,rfl⟩:=intItems_at hP;have sz:(intItems l.toArray).size=l.length:=by simp[intItems]
 obtain⟨h1,h2⟩:=argBest_gt (numAt l.toArray) ((intItems l.toArray).size-1);have el:l.toArray.toList.map (·.1)=ns:=by simpa using e2
 refine⟨.int _,H,I.kept (t':=tk) hk',⟨_,rfl⟩,q _ ?_ λx hx=>?_⟩
 .rw[numAt_eq,el];exact getD_mem (by lia)
 .obtain⟨j,hj,rfl⟩:=mem_getD hx;rw[<- el,<- numAt_eq];exact h2 j (by lia)
end L2
open L2
local macro_rules | `(tactic| fail "z")=>`(tactic| first
 |(show(0:Int)<_;omega)
 |(unfold Ki;omega)
 |(unfold CMul;omega)
 |exact⟨by decide,by decide,by decide⟩)
local macro_rules | `(tactic| fail "1")=>`(tactic| first
 |(with_reducible first|apply O0|apply JM|apply sZ)
 |((with_reducible refine' wu ?k1 ?_);(case k1=>exact rfl))
 |(with_reducible first|apply Qj|apply O_|apply O3|apply Po|apply Pa|apply Pc|apply Pk|apply MB|apply OY|apply Px|apply O1|apply MQ|apply JH|apply MP|apply Py|apply O9|apply M2|apply O8|apply MN|apply Pl|apply JL|apply EO|apply MY|apply M0|apply Ps|apply OX|apply Pe|apply OW|apply MJ|apply OZ|apply EN|apply ML|apply Pi|apply MW|apply JJ|apply JK|apply MV|apply MX|apply EQ|apply JI|apply O7|apply OV|apply Ph|apply MO|apply Pm|apply MZ|apply MG|apply JF|apply MS|apply Pu|apply Pt|apply Pq|apply JG|apply MT|apply MR|apply wy|apply AQ|apply JD|apply JE)
 |((with_reducible refine' cK ?k1 ?_);(case k1=>fail "z"))
 |((with_reducible refine' O4 ?k1 ?_);(case k1=>(constructor <;> omega)))
 |((with_reducible refine' O5 ?k1 ?_);(case k1=>(constructor <;> omega))))
local macro_rules | `(tactic| cbv)=>`(tactic| repeat fail "1")
namespace G1
open PySem L2 Fr
open PySem.W (Dat kqdOk)
nonrec abbrev ends(Q:VK):cq:={nx:=λ_ H'=>Q .non H',rt:=Q}
abbrev eQ(n:Nat)(hs:List Int):Prop:=hs.length=n/\∀x∈hs,0<=x/\x<=3
nonrec abbrev dI(ns:List Int):Dat:=.tuple (ns.map Rn)
def AccZ.ints{K:Fg}{ns:List Int}(A:AccZ K H0 l H (ns.map Rn)):H l=some (.lst (ns.map V.int)):=by
 obtain⟨xs,h1,h2⟩:=A.at_;rw[RpL.ints_of h2] at h1;exact h1
def AccZ.strs{K:Fg}{ns:List Str}(A:AccZ K H0 l H (ns.map X5)):H l=some (.lst (ns.map V.str)):=by
 obtain⟨xs,h1,h2⟩:=A.at_;rw[RpL.yp h2] at h1;exact h1
nonrec abbrev az:Str:="abcdefghijklmnopqrstuvwxyz"
def P4:∀j:Nat,j<26->az.cps.toList[j]?=some (97+j):=by decide +kernel
def NM:az.length<=sizeLine:=by decide +kernel
def P3{i:Int}(h0:0<=i)(h1:i<26):om az.cps.toList i=some (97+i.toNat):=by
 have e:i=((i.toNat:Nat):Int):=by lia
 have q:=aI (P4 i.toNat (by lia));rw[<- e] at q;exact q
abbrev Low(z:Str):Prop:=∀x∈z.cps.toList,97<=x/\x<=122
def GE(z:Str):z.cps.toList.length=z.length:=by simp[Zam]
def Jv{c:Nat}(h0:97<=c)(h1:c<=122):Low ⟨#[c]⟩:=λx hx=>by
 have:x=c:=by simpa using hx
 lia
def Jw{lo:Option Int}(h:Low z):Low (kj z lo hi):=λx hx=>by
 have q:x∈(JP z.cps.toList hi).drop (lo.getD 0).toNat:=by simpa[kj] using hx
 have q2:=U_ q;cases hi with
 |none=>exact h x q2
 |some j=>exact h x (SN q2)
def Do(z:Str)(lo hi:Option Int):(kj z lo hi).length=(JP z.cps.toList hi).length-(lo.getD 0).toNat:=by
 show(YI (lo.getD 0).toNat (JP z.cps.toList hi)).toArray.size=_;rw[Rf,Sw]
abbrev NR(w:Str):Prop:=1<=w.length/\w.length<=8/\Low w
abbrev tQ(ws:List Str):Prop:=ws.Nodup/\∀w∈ws,NR w
def cG{α:Type}{xs:List α}{x:α}(h:xs.Nodup)(n:x∉xs):(xs++[x]).Nodup:=by
 rw[U5];refine⟨h,by simp,?_⟩;intro a ha b hb e;rw[QY.mp hb] at e;exact n (e ▸ ha)
def cr{α:Type}{P:α->Prop}{xs:List α}{x:α}(h:∀y∈xs,P y)(n:P x):∀y∈xs++[x],P y:=λy hy=>by
 rcases Q8.mp hy with q|q
 .exact h y q
 .rw[QY.mp q];exact n
abbrev gC(q d:Int):Prop:=0<q/\0<d/\Gd.gd q d=1/\q<=10000000000/\d<=10000000000
def jE(ns:List Int)(n:Nat):kqdOk (n+1) (dI ns)=true:=by
 show((ns.map Rn).all (kqdOk n))=true;rw[V_];intro x hx;obtain⟨i,_,rfl⟩:=QU.mp hx;cases n <;> rfl
def BD(h:dI a=dI b):a=b:=by
 have:=Dat.tuple.inj h
 exact(VC (λx y e=>Rn.inj e)).mp this
def Ao{hs:List (List Int)}:dI a∈hs.map dI↔a∈hs:=by
 rw[QU];constructor
 .rintro⟨b,hb,e⟩;rw[<- BD e];exact hb
 .intro h;exact⟨a,h,rfl⟩
abbrev vB(n:Nat)(hs:List (List Int)):Prop:=hs.Nodup/\∀h∈hs,eQ n h
end G1
namespace G1
open PySem L2 Fr
open PySem.W (Dat kqdOk)
structure Tn where
 fr:List Int
 to:List Int
 q:Int
 d:Int
abbrev dT(t:Tn):Dat:=.tuple [dI t.fr,dI t.to,dI [t.q,t.d]]
abbrev TurnOk(hs:List (List Int))(t:Tn):Prop:=t.fr∈hs/\t.to∈hs/\t.fr≠t.to/\gC t.q t.d
abbrev b_(t:Tn):List Int×List Int:=(t.fr,t.to)
structure tR (hs:List (List Int)) (ts:List Tn):Prop where
 ne:ts≠[]
 le:ts.length<=8
 nd:(ts.map b_).Nodup
 ok:∀t∈ts,TurnOk hs t
abbrev dP(p:Nat×Nat):Dat:=dI [(p.1:Int),(p.2:Int)]
def Nq(h:dP a=dP b):a=b:=by
 have e:=BD h;have e1:(a.1:Int)=b.1:=(UG e).1;have e2:(a.2:Int)=b.2:=(UG (UG e).2).1;obtain⟨a1,a2⟩:=a;obtain⟨b1,b2⟩:=b;have e1':a1=b1:=Vu e1;have e2':a2=b2:=Vu e2;rw[e1',e2']
def Mj{ps:List (Nat×Nat)}:dP a∈ps.map dP↔a∈ps:=by
 rw[QU];constructor
 .rintro⟨b,hb,e⟩;rw[<- Nq e];exact hb
 .intro h;exact⟨a,h,rfl⟩
abbrev lG(n:Nat)(p:Nat×Nat):Prop:=p.1<n/\p.2<n/\p.1≠p.2
abbrev iU(hs:List (List Int))(p:Nat×Nat):List Int×List Int:=(hs.getD p.1 [],hs.getD p.2 [])
structure Good (hs:List (List Int)) (ps:List (Nat×Nat)) (ts:List Tn):Prop where
 nd:ps.Nodup
 le:ps.length<=8
 eq:ts.map b_=ps.map (iU hs)
 ok:∀p∈ps,lG hs.length p
 pc:∀t∈ts,gC t.q t.d
def getD_mem{hs:List (List Int)}{i:Nat}(h:i<hs.length):hs.getD i []∈hs:=by
 rw[Qz,Qy h];exact Ry h
def jQ{hs:List (List Int)}(nd:hs.Nodup){i j:Nat}(hi:i<hs.length)(hj:j<hs.length)(e:hs.getD i []=hs.getD j []):i=j:=by
 rw[Qz,Qy hi,Qz,Qy hj] at e;have e':hs[i]=hs[j]:=e;have pw:=List.pairwise_iff_getElem.mp nd;rcases ZC i j with z|z|z
 .exact absurd e' (pw i j hi hj z)
 .exact z
 .exact absurd e'.symm (pw j i hj hi z)
def nodup_map_on{α β:Type}{f:α->β}:∀{xs:List α},xs.Nodup->(∀a∈xs,∀b∈xs,f a=f b->a=b)->(xs.map f).Nodup
 |[],_,_=>To
 |x :: xs,h,hf=>by
  rw[RP,RH];refine⟨λhm=>?_,nodup_map_on (RH.mp h).2 λa ha b hb=>hf a (QL _ ha) b (QL _ hb)⟩;obtain⟨y,hy,e⟩:=QU.mp hm;rw[<- hf y (QL _ hy) x QK e] at h;exact(RH.mp h).1 hy
def Good.turns(g:Good hs ps ts)(nd:hs.Nodup)(ne:ps≠[]):tR hs ts:=by
 have len:ts.length=ps.length:=by have:=congrArg Sr g.eq;simpa using this
 refine⟨λz=>?_,by rw[len];exact g.le,?_,λt ht=>?_⟩
 .rw[z] at len;exact ne (SK.mp len.symm)
 .rw[g.eq];refine nodup_map_on g.nd λa ha b hb e=>?_
  have oa:=g.ok a ha;have ob:=g.ok b hb;have e1:=jQ nd oa.1 ob.1 (congrArg Ws e);have e2:=jQ nd oa.2.1 ob.2.1 (congrArg VS e);obtain⟨a1,a2⟩:=a;obtain⟨b1,b2⟩:=b;simp only at e1 e2;rw[e1,e2]
 .have hm:b_ t∈ps.map (iU hs):=by rw[<- g.eq];exact QU.mpr ⟨t,ht,rfl⟩
  obtain⟨p,hp,e⟩:=QU.mp hm;have op:=g.ok p hp;have e1:hs.getD p.1 []=t.fr:=congrArg Ws e;have e2:hs.getD p.2 []=t.to:=congrArg VS e;refine⟨e1 ▸ getD_mem op.1,e2 ▸ getD_mem op.2.1,λz=>op.2.2 ?_,g.pc t ht⟩;rw[<- e1,<- e2] at z;exact jQ nd op.1 op.2.1 z
structure oz (ws:List Str) (ts:List Tn):Prop where
 words:tQ ws
 w1:1<=ws.length
 w5:ws.length<=5
 turns:∃hs,vB ws.length hs/\hs.length<=8/\tR hs ts
abbrev dV(ws:List Str)(ts:List Tn):Dat:=.tuple [.tuple (ws.map X5),.tuple (ts.map dT)]
end G1
namespace L2
open PySem PySem.Spec PyProof.Rows
open PySem.W (Dat kqdOk)
def ii{K:Fg}:SC K (.type "int") (.type "bool")=some false:=by
 show Tq K (.type "int") (.type "bool")=some false;unfold Tq;kernel_rfl
def jL{K:Fg}:SC K (.type "int") (.type "int")=some true:=by rfl
def nH{K:Fg}:SC K (.type "int") (.type "tuple")=some false:=by
 show Tq K (.type "int") (.type "tuple")=some false;unfold Tq;kernel_rfl
def qd{K:Fg}:SC K (.type "int") (.type "list")=some false:=by
 show Tq K (.type "int") (.type "list")=some false;unfold Tq;kernel_rfl
def cJ{K:Fg}:SC K (.type "tuple") (.type "tuple")=some true:=by rfl
def fH{K:Fg}:SC K (.type "tuple") (.type "list")=some false:=by
 show Tq K (.type "tuple") (.type "list")=some false;unfold Tq;kernel_rfl
def Gh{K:Fg}{Q:VK}{v:V}(e:SqT K H p xs)(a:om xs i=some v)(h:Q v H):Oc K (.ref p) (.int i) H Q:=.inr (.inl (aF e a h))
end L2
namespace Sm
end Sm
namespace L2
nonrec abbrev ρ(n:Nat)(sp:Sp)(t:TS):Prop:=∀⦃vs:List V⦄⦃H:Hp⦄⦃Q:VK⦄⦃E:XK⦄⦃N:List PySem.Str⦄,N.length=n->sp vs H Q E->t (G1.ends Q) (L2.start N vs) H
end L2
set_option hygiene false in
local macro_rules | `(tactic| fail "R")=>`(tactic| intro vs H Q E N hN h)
namespace Vs
open PySem L2 Fr G1 Sm
open PySem.W (Dat kqdOk)
abbrev b9(hs:List (List Int))(h:List Int):List (List Int):=if h∈hs then hs else hs++[h]
abbrev iN(hs:List (List Int))(ts:List Tn):List (List Int):=ts.foldl (λhs t=>b9 (b9 hs t.fr) t.to) hs
abbrev aH(ts:List Tn):List (List Int):=iN [] ts
def nL(hs:List (List Int))(h:List Int):(b9 hs h).length<=hs.length+1:=by
 unfold b9;split
 .lia
 .simp
def nR:∀(ts:List Tn) (hs:List (List Int)),(iN hs ts).length<=hs.length+2*ts.length
 |[],hs=>by simp[iN]
 |t :: ts,hs=>by
  have h1:=nR ts (b9 (b9 hs t.fr) t.to);have h2:=nL (b9 hs t.fr) t.to;have h3:=nL hs t.fr;show(iN (b9 (b9 hs t.fr) t.to) ts).length<=_;rw[Ru];lia
def qo(hs:List (List Int))(ts:List Tn)(t:Tn):iN hs (ts++[t])=b9 (b9 (iN hs ts) t.fr) t.to:=by
 unfold iN;rw[SY];rfl
abbrev iV(h:List Int):List bf:=h.map Vc
def kM(h:List Int):(iV h).map kV=h.map V.int:=by
 unfold iV;rw[Sg];rfl
def xh(h:iV a=iV b):a=b:=(VC (λx y e=>VE e)).mp h
def pF{de:List (List bf×V)}{hs:List (List Int)}(e:de.map (·.1)=hs.map iV)(h:List Int)(v:V):(ci de (iV h) v).map (·.1)=(b9 hs h).map iV:=by
 have any:(de.any λkv=>decide (kv.1=iV h))=decide (h∈hs):=by
  rw[TV,List.any_eq_true,decide_eq_true_iff];constructor
  .rintro⟨kv,hm,q⟩
   have:kv.1∈hs.map iV:=by rw[<- e];exact QU.mpr ⟨kv,hm,rfl⟩
   obtain⟨g,hg,eg⟩:=QU.mp this;rw[of_decide_eq_true q] at eg;rw[<- xh eg];exact hg
  .intro hm
   have:iV h∈de.map (·.1):=by rw[e];exact QU.mpr ⟨h,hm,rfl⟩
   obtain⟨kv,hk,ek⟩:=QU.mp this;exact⟨kv,hk,decide_eq_true ek⟩
 unfold ci b9;rw[any];by_cases z:h∈hs
 .rw[if_pos z,decide_eq_true z,if_pos rfl,Sg,<- e];refine Su λkv _=>?_
  show(if kv.1=iV h then (kv.1,v) else kv).1=kv.1;split <;> rfl
 .rw[if_neg z,decide_eq_false z,if_neg Rj,QJ,QJ,e];rfl
def AE{K:Fg}{H:Hp}:∀{de:List (List bf×V)} {hs:List (List Int)} {bs:List Addr},de.map (·.1)=hs.map iV->Paired (λ(p:List bf×V) b=>H b=some (.tup (p.1.map kV))) de bs->RzL K H (bs.map V.ref) (hs.map dI)
 |[],[],_,_,.nil=>.nil
 |[],h :: hs,_,e,_=>by simp at e
 |kv :: de,[],_,e,_=>by simp at e
 |kv :: de,h :: hs,_,e,.cons q t=>by
  have e1:kv.1=iV h:=(UG e).1;have e2:=(UG e).2;rw[e1,kM] at q;exact .cons (.tup q (RpL.ints h)) (AE e2 t)
abbrev i_(K:Fg):Sp:=λvs H Q _=>∃(v:V) (ts:List Tn),vs=[v]/\Rz K H v (.tuple (ts.map dT))/\ts.length<=100/\∀(p:Addr) (H':Hp),AccZ K H p H' ((aH ts).map dI)->Q (.ref p) H'
abbrev i5(K:Fg):TS:=(am (aw ym (al 1))
 (am (aW (qk K (aa 0)) (al 2)
 (am (pB (aa 1) (ar (aE K) (aa 2) (tC (.int 0))) (tC (.bl true)))
 (pB (aa 1) (ar (aE K) (aa 2) (tC (.int 1))) (tC (.bl true)))))
 (aG (bo FL (ae (aa 1) ag)))))
def jU{K:Fg}(h:Rz K H v (dT t)):∃(a:Addr) (v1 v2 v3:V),v=.ref a/\H a=some (.tup [v1,v2,v3])/\Rz K H v1 (dI t.fr)/\Rz K H v2 (dI t.to)/\Rz K H v3 (dI [t.q,t.d]):=by
 obtain⟨a,xs,e,ha,r⟩:=h.b5;cases r with
 |cons r1 r =>
  cases r with
  |cons r2 r =>
   cases r with
   |cons r3 r =>
    cases r;exact⟨a,_,_,_,e,ha,r1,r2,r3⟩
def bM{K:Fg}(h:Rz K H v (dI ns)):∃a:Addr,v=.ref a/\H a=some (.tup (ns.map V.int)):=by
 obtain⟨a,xs,e,ha,r⟩:=h.b5;rw[RpL.ints_of r] at ha;exact⟨a,e,ha⟩
def vY{K:Fg}:ρ 3 (i_ K) (i5 K):=by
 fail "R";obtain⟨v,ts,rfl,rv,hl,k⟩:=h;obtain⟨a,xs,rfl,ha,rx⟩:=rv.b5;rw[L2.aP hN];walk_at "t";have lx:xs.length=ts.length:=by rw[rx.length,Qx]
 unfold i5;cbv;intro d nd;cbv;refine MC (SqT.of ((ak nd _) _ _ ha)) ?_;refine tq (xs:=xs) (λi σ H2=>∃(de:List (List bf×V)) (u:Option V),σ=[⇑a,⇑d,u]/\Same H H2/\H2 d=some (.dT de)/\de.map (·.1)=(aH (ts.take i)).map iV) ⟨[],none,rfl,ak nd _,aj,rfl⟩ ?_ ?_ ?_
 .rintro i σ H2 _ ⟨de,u,rfl,S,ed,ek⟩;exact SqT.of (S _ _ ha)
 .rintro i z σ H2 hz ⟨de,u,rfl,S,ed,ek⟩;obtain⟨dd,g1,g2⟩:=rx.get hz;rw[QD] at g1;obtain⟨t,ht,rfl⟩:=QG.mp g1;obtain⟨at_,v1,v2,v3,rfl,hat,r1,r2,_⟩:=jU (g2.same S);obtain⟨b1,rfl,hb1⟩:=bM r1;obtain⟨b2,rfl,hb2⟩:=bM r2;have ti:i<ts.length:=(QC.mp ht).1;have kl:de.length=(aH (ts.take i)).length:=by have:=congrArg Sr ek;simpa using this
  have hl2:=nR (ts.take i) [];rw[Q3] at hl2;have kl2:de.length<=2*i:=by rw[kl];unfold aH;simp only[Vw] at hl2;lia
  have e1:=pF ek t.fr (.bl true);have e2:=pF e1 t.to (.bl true);have le1:=cj de (iV t.fr) (.bl true);have n1:b1≠d:=kE hb1 ed (by intro z;cases z);have n2:b2≠d:=kE hb2 ed (by intro z;cases z);have n3:at_≠d:=kE hat ed (by intro z;cases z);cbv;refine aF (SqT.of hat) (v:=.ref b1) rfl ?_;refine⟨d,_,rfl,DPut.t ed (k:=iV t.fr) (by rw[kM];exact hb1) (av (by lia)),?_⟩;cbv;refine aF (SqT.of (by rw[aJ n3];exact hat)) (v:=.ref b2) rfl ?_;refine⟨d,_,rfl,DPut.t aj (k:=iV t.to) (by rw[kM,aJ n2];exact hb2) (av (by lia)),?_⟩;rw[GW];refine⟨_,_,rfl,λb o q=>?_,aj,?_⟩
  .rw[aJ (ay q nd)];exact S _ _ q
  .rw[e2];congr 1;have et:ts.take (i+1)=ts.take i++[t]:=by rw[QX,ht];rfl
   rw[et];exact(qo [] (ts.take i) t).symm
 .rintro σ H2 ⟨de,u,rfl,S,ed,ek⟩;rw[lx,QM (QH _)] at ek;cbv;refine⟨d,de,rfl,ed,λl bs nl pr=>?_⟩;have S2:=ak nl (.lst (bs.map V.ref));exact k l _ ⟨S.trans S2,S.free nl,_,aj,(AE ek pr).same S2⟩
abbrev dh(K:Fg):Sp:=λvs H Q _=>∃(v:V) (ws:List Str) (ts:List Tn),vs=[v]/\Rz K H v (dV ws ts)/\ts.length<=100/\∀(p:Addr) (H':Hp),AccZ K H p H' ((aH ts).map dI)->Q (.ref p) H'
def iO{K:Fg}(h:Rz K H v (dV ws ts)):∃(a:Addr) (v1 v2:V),v=.ref a/\H a=some (.tup [v1,v2])/\Rz K H v1 (.tuple (ws.map X5))/\Rz K H v2 (.tuple (ts.map dT)):=by
 obtain⟨a,xs,e,ha,r⟩:=h.b5;cases r with
 |cons r1 r =>
  cases r with
  |cons r2 r =>
   cases r;exact⟨a,_,_,e,ha,r1,r2⟩
abbrev rD(K:Fg):TS:=(aG (aD (i_ K) [] E0 (ae (ar (aE K) (aa 0) (tC (.int 1))) ag)))
def DT{K:Fg}:ρ 1 (dh K) (rD K):=by
 fail "R";obtain⟨v,ws,ts,rfl,rv,hl,k⟩:=h;obtain⟨a,v1,v2,rfl,ha,r1,r2⟩:=iO rv;rw[L2.aP hN];walk_at "t";unfold rD;cbv;refine aF (SqT.of ha) (v:=v2) rfl ?_;exact⟨v2,ts,rfl,r2,hl,k⟩
end Vs
namespace G2
open PySem L2 Fr G1
open PySem.W (Dat kqdOk)
abbrev Qw(n:Int):Prop:=0<=n/\n<2147483587
abbrev dH:Sp:=λvs H Q _=>∃c p:Int,vs=[.int c,.int p]/\0<=p/\p<=1000/\∀m:Int,Qw m->Q (.int m) H
nonrec abbrev CT(K:Fg):TS:=(am (aw (ar aU (ar aZ (ar aZ (ar (rI CMul λi j=>.int (i*j)) (aa 2) (aa 2)) (ar (rI CMul λi j=>.int (i*j)) (tC (.int 48271)) (aa 1))) (tC (.int 7))) (tC (.int 2147483629))) (al 2))
 (aG (ar aU (ar aZ (ar (rI CMul λi j=>.int (i*j)) (aa 2) (aa 2)) (tC (.int 69621))) (tC (.int 2147483587)))))
abbrev xK(K:Fg):TS:=(am (aw (ar aU (ar aZ (ar aZ (ar (rI CMul λi j=>.int (i*j)) (ar aU (aa 0) (tC (.int 2147483629))) (tC (.int 16807))) (ar (rI CMul λi j=>.int (i*j)) (tC (.int 69621)) (aa 1))) (tC (.int 11))) (tC (.int 2147483629))) (al 2))
 (CT K))
def Ib{K:Fg}:ρ 3 dH (xK K):=by
 fail "R";obtain⟨c,p,rfl,h0,h1,k⟩:=h;rw[L2.aP hN];walk_at "t";unfold xK;cbv;generalize hx:(c % 2147483629*16807+69621*p+11) % 2147483629=x;have x0:0<=x/\x<2147483629:=by lia
 cbv;generalize hy:(x*x+48271*p+7) % 2147483629=y;have y0:0<=y/\y<2147483629:=by lia
 cbv;exact k _ ⟨by lia,by lia⟩
abbrev yc(K:Fg):TS:=(am (h_ (aR (ar wL (aa 1) (tC (.int 0))))
 (C4 0 1 (ae (aa 1) (ae (ar ID (aa 0) (aa 1)) ag))))
 (aG (bo Lj (ae (aa 0) ag))))
def Im{K:Fg}:ρ 2 oT (yc K):=by
 fail "R";obtain⟨a,b,rfl,k⟩:=h;rw[L2.aP hN];walk_at "t";unfold yc
 refine iT (λσ H'=>H'=H/\∃i j:Int,σ=[↥i,↥j]/\Gd.gd i j=Gd.gd a b)
  (λσ _=>match σ with | [_,↥j]=>j.natAbs|_=>0) ⟨rfl,a,b,rfl,rfl⟩ ?_ ?_
 .rintro σ H' ⟨rfl,i,j,rfl,e⟩;refine⟨_,rfl,rfl,_,rfl,M7 (λhj=>?_) (λhj=>?_)⟩
  .refine⟨_,rfl,_,rfl,_,rfl,_,_,rfl,rfl,hj,_,_,rfl,⟨rfl,j,i.fmod j,rfl,(Gd.Ba i j).trans e⟩,?_⟩;exact Gd.Bc hj
  .subst hj;refine⟨_,rfl,_,rfl,?_⟩;rw[Gd.Gs,e];exact k
 .rintro σ H' R R' h ⟨v,e,sc,c,ec,q⟩;exact⟨v,e,sc,c,ec,h _ _ q⟩
abbrev i9(K:Fg):Sp:=λvs H Q _=>∃a b:Int,vs=[.int a,.int b]/\∀(p:Addr) (q d:Int) (H':Hp),Same H H'->gC q d->Rz K H' (.ref p) (dI [q,d])->Q (.ref p) H'
def p9:(10:Int) ^ (9:Int).toNat=1000000000:=by decide +kernel
def PJ:Gd.gd 1 1=1:=by decide +kernel
abbrev gg(K:Fg):Sp:=λvs H Q _=>∃n m:Int,vs=[.int n,.int m]/\0<=n/\1<=m/\m<=5/\∀(p:Addr) (H':Hp) (ws:List Str),Same H H'->tQ ws->ws.length=m.toNat->Rz K H' (.ref p) (.tuple (ws.map X5))->Q (.ref p) H'
def GS:∀j:Nat,j<4->(kj "xyz" none (some (j:Int))).length<=3/\Low (kj "xyz" none (some (j:Int))):=by
 intro j hj;have sl:=Do ("xyz":Str) none (some (j:Int));have l3:(("xyz":Str)).length=3:=by decide +kernel
 refine⟨?_,Jw ?_⟩
 .rw[sl];simp only[JP,Q3,GE,l3,Option.getD];lia
 .intro x hx
  have:(("xyz":Str)).cps.toList=[120,121,122]:=by decide +kernel
  rw[this] at hx;simp only[Q5,Ub,or_false] at hx;lia
def jW(a b:Str):(a++b).cps.toList=a.cps.toList++b.cps.toList:=by
 show(a.cps++b.cps).toList=_;exact Array.toList_append
def Av(h1:Low a)(h2:Low b):Low (a++b):=λx hx=>by
 rw[jW] at hx;rcases Q8.mp hx with q|q
 .exact h1 x q
 .exact h2 x q
nonrec abbrev vJ (K:Fg):TS:=(bz (cZ K "list" aO (aa 3) (ae (ar IG (ar IG (aa 5) (Kl Lf (tC (.str "xyz")) mz (oO (ar aU (ar cg (aa 0) (tC (.int 26))) (tC (.int 4)))))) (ar Iz (aa 5) (ar aU (ar cg (aa 0) (tC (.int 104))) (tC (.int 2))))) ag)))
nonrec abbrev vI(K:Fg):TS:=(am (aW (ck (ae (aa 1) ag)) (al 4)
 (am (aw (ar D9 (aa 2) (ar aU (ar aZ (aa 0) (ar (rI CMul λi j=>.int (i*j)) (tC (.int 5)) (aa 4))) (tC (.int 26)))) (al 5))
 (vJ K)))
 (aG (bo (cC K) (ae (aa 3) ag))))
abbrev lX (K:Fg):TS:=(am (aw (tC (.str "abcdefghijklmnopqrstuvwxyz")) (al 2))
 (am (aw (bR ag) (al 3))
 (vI K)))
def y_{K:Fg}:ρ 6 (gg K) (lX K):=by
 fail "R";obtain⟨n,m,rfl,n0,m1,m5,k⟩:=h;rw[L2.aP hN];walk_at "t";unfold lX;cbv;refine⟨by decide,λl nl=>?_⟩;cbv
 refine aT (λi σ H2=>∃(ws:List Str) (v4 v5:Option V),σ=[↥n,↥m,some (.str az),⇑l,v4,v5]/\AccZ K H l H2 (ws.map X5)/\ws.length=i/\tQ ws /\
   ∀(j:Nat) (w:Str),ws[j]?=some w->w.cps.toList[0]?=some (97+((n+5*(j:Int)) % 26).toNat))
  ⟨[],none,none,rfl,AccZ.start (Same.refl _) nl,rfl,⟨To,by simp⟩,by simp⟩ ?_ ?_
 .rintro i σ H2 hi ⟨ws,v4,v5,rfl,A,hl,hw,hj⟩;have e0:(0:Int)+(i:Int)=(i:Int):=by lia
  rw[e0];have f0:=Sv (n+5*(i:Int)) (b:=26) (by lia);have f1:=Sj (n+5*(i:Int)) (b:=26) (by lia);cbv;refine Pf NM (P3 f0 f1) ?_;have lf:=Jv (c:=97+((n+5*(i:Int)) % 26).toNat) (by lia) (by lia);have len1:(⟨#[97+((n+5*(i:Int)) % 26).toNat]⟩:Str).length=1:=rfl;have hd1:(⟨#[97+((n+5*(i:Int)) % 26).toNat]⟩:Str).cps.toList[0]?=some (97+((n+5*(i:Int)) % 26).toNat):=rfl;generalize hf:(⟨#[97+((n+5*(i:Int)) % 26).toNat]⟩:Str)=fw at lf len1 hd1 ⊢;cbv;refine⟨A.ty,?_⟩;cbv;have j0:0<=n / 26 % 4:=by lia
  have ej:n / 26 % 4=(((n / 26 % 4).toNat:Nat):Int):=by lia
  have xc:=GS (n / 26 % 4).toNat (by lia);rw[<- ej] at xc;refine⟨_,rfl,by decide +kernel,trivial,j0,?_⟩;generalize kj "xyz" none (some (n / 26 % 4))=mid at xc ⊢;refine Gj (by rw[len1,show sizeLine=16777216 by decide];lia) ?_;cbv;refine MH (by lia) ?_;generalize he:(if n / 104 % 2=0 then XH else fw)=tl
  have tlo:tl.length<=1/\Low tl:=by
   rw[<- he];split
   .exact⟨by decide,λx hx=>by cases hx⟩
   .exact⟨by lia,lf⟩
  have lnew:(fw++mid++tl).length=fw.length+mid.length+tl.length:=by rw[YY,YY]
  refine Gj (by rw[YY,len1,show sizeLine=16777216 by decide];lia) ?_;cbv;refine bV A (.str _) (av (by rw[Qx];lia)) λH3 A3 _ _ _=>?_
  have hd2:(fw++mid++tl).cps.toList[0]?=some (97+((n+5*(i:Int)) % 26).toNat):=by
   rw[jW,jW,R_,RV (by rw[GE,len1];lia)];exact hd1
  cbv;refine⟨ws++[fw++mid++tl],_,_,rfl,by rw[QJ];exact A3,by simp[hl],⟨cG hw.1 λhx=>?_,cr hw.2 ⟨by lia,by lia,Av (Av lf xc.2) tlo.2⟩⟩,λj w e=>?_⟩
  .obtain⟨j,hj1,hj2⟩:=Sh.mp hx;have g:=hj j _ (by rw[Qy hj1,hj2]);rw[hd2] at g;have g':=Q7 g;omega
  .by_cases lt:j<ws.length
   .rw[RV lt] at e;exact hj j w e
   .rw[R4 (by lia)] at e
    have z:j-ws.length=0:=by
     rcases Ze (j-ws.length) with z|z
     .exact z
     .rw[RD (by simp;lia)] at e;cases e
    rw[z] at e;have e':fw++mid++tl=w:=by simpa using e
    have ej2:j=i:=by lia
    rw[<- e',ej2];exact hd2
 .rintro σ H2 ⟨ws,v4,v5,rfl,A,hl,hw,hj⟩;have e:=AccZ.strs A;cbv;refine eM (SqL.of e) λp np=>?_
  exact k p _ ws (A.same.trans (ak np _)) hw hl (.tup aj (RpL.strs ws))
abbrev sj(K:Fg):Sp:=λvs H Q _=>∃(c k m t:Int) (pl:Bool),vs=[.int c,.int k,.int m,.int t,.bl pl]/\0<=k/\k<=100/\0<=m/\m<=5/\2<=t/\t<=4/\∀(p:Addr) (H':Hp) (hs:List Int),Same H H'->eQ m.toNat hs->Rz K H' (.ref p) (dI hs)->Q (.ref p) H'
nonrec abbrev xV(K:Fg):TS:=(aS (tB (aa 4))
 (am (bz (cZ K "list" aO (aa 6) (ae (ar aU (aa 5) (aa 3)) ag)))
 (aw (ar cg (aa 5) (aa 3)) (al 5)))
 (bz (cZ K "list" aO (aa 6) (ae (ar aU (aD dH [] E0 (ae (aa 0) (ae (ar aZ (ar (rI CMul λi j=>.int (i*j)) (tC (.int 5)) (aa 1)) (aa 7)) ag))) (aa 3)) ag))))
nonrec abbrev xU(K:Fg):TS:=(am (aS (aR (ar wN (aa 1) (tC (.int 5))))
 (aw (ar cg (aa 0) (tC (.int 1024))) (al 5))
 aV)
 (am (aw (bR ag) (al 6))
 (am (aW (ck (ae (aa 2) ag)) (al 7)
 (xV K))
 (aG (bo (cC K) (ae (aa 6) ag))))))
abbrev rE(K:Fg):TS:=(am (aw (aa 0) (al 5))
 (xU K))
def DU{K:Fg}:ρ 8 (sj K) (rE K):=by
 fail "R";obtain⟨c,kk,m,t,pl,rfl,k0,k1,m0,m5,t2,t4,k⟩:=h;rw[L2.aP hN];walk_at "t";unfold rE;cbv;have rest:∀z0:Int,(am (aw (bR ag) (al 6)) (am (aW (ck (ae (aa 2) ag)) (al 7)
 (aS (tB (aa 4))
 (am (bz (cZ K "list" aO (aa 6) (ae (ar aU (aa 5) (aa 3)) ag)))
 (aw (ar cg (aa 5) (aa 3)) (al 5)))
 (bz (cZ K "list" aO (aa 6) (ae (ar aU (aD dH [] E0 (ae (aa 0) (ae (ar aZ (ar (rI CMul λi j=>.int (i*j)) (tC (.int 5)) (aa 1)) (aa 7)) ag))) (aa 3)) ag)))))
 (aG (bo (cC K) (ae (aa 6) ag))))) (ends Q) [↥c,↥kk,↥m,↥t,some (.bl pl),↥z0,none,none] H:=by
  intro z0;cbv;refine⟨by decide,λl nl=>?_⟩;cbv;refine aT (λi σ H2=>∃(ns:List Int) (z:Int) (v:Option V),σ=[↥c,↥kk,↥m,↥t,some (.bl pl),↥z,⇑l,v]/\AccZ K H l H2 (ns.map Rn)/\eQ i ns) ⟨[],z0,none,rfl,AccZ.start (Same.refl _) nl,rfl,by simp⟩ ?_ ?_
  .rintro i σ H2 hi ⟨ns,z,v,rfl,A,hl,hb⟩
   have one:∀x:Int,eQ (i+1) (ns++[x % t]):=λx=>⟨by simp[hl],λy hy=>by
    rcases Q8.mp hy with q|q
    .exact hb y q
    .rw[QY.mp q]
     have e1:=Sv x (b:=t) (by lia)
     have e2:=Sj x (b:=t) (by lia)
     exact⟨by lia,by lia⟩⟩
   cbv;cases pl with
   |true =>
    cbv;refine⟨A.ty,?_⟩;cbv;refine bV A (.int _) (av (by rw[Qx];lia)) λH3 A3 _ _ _=>?_
    cbv;exact⟨ns++[z % t],_,_,rfl,by simpa using A3,one z⟩
   |false =>
    cbv;refine⟨A.ty,?_⟩;cbv;refine⟨c,5*kk+(0+(i:Int)),rfl,by lia,by lia,λx hx=>?_⟩;cbv;refine bV A (.int _) (av (by rw[Qx];lia)) λH3 A3 _ _ _=>?_
    cbv;exact⟨ns++[x % t],_,_,rfl,by simpa using A3,one x⟩
  .rintro σ H2 ⟨ns,z,v,rfl,A,hh⟩;cbv;have e:=AccZ.ints A;refine eM (SqL.of e) λp np=>?_
   exact k p _ ns (A.same.trans (ak np _)) hh (.tup aj (RpL.ints ns))
 refine bb (λ_=>?_) (λ_=>?_)
 .fail "1";fail "1";fail "1";fail "1";fail "1";fail "1";exact rest _
 .exact rest _
def ot{K:Fg}(S:Same H H3)(A:AccZ K H3 l H' ds):AccZ K H l H' ds:=⟨S.trans A.same,S.free A.new,A.at_⟩
abbrev d_(h1:Int)(m:Nat):List Int:=(QR m).map λj=>if j=0 then (if decide (h1=0)=true then 1 else 0) else 0
abbrev rV(K:Fg):Sp:=λvs H Q _=>∃(a:Addr) (ns:List Int) (t m s tp:Int) (pl:Bool),vs=[.ref a,.int t,.int m,.int s,.int tp,.bl pl]/\SqL K H a (ns.map V.int)/\0<=t/\1<=m/\m<=5/\2<=s/\s<=8/\2<=tp/\tp<=4 /\
 ∀(p:Addr) (H':Hp) (hs:List (List Int)),AccZ K H p H' (hs.map dI)->vB m.toNat hs->2<=hs.length->hs.length<=8->Q (.ref p) H'
nonrec abbrev xE(K:Fg):TS:=(am (aw (aD (sj K) [] E0 (ae (aD (c6 K) [] E0 (ae (aa 0) (ae (ar aZ (aa 1) (ar aU (aa 7) (tC (.int 6)))) ag))) (ae (aa 7) (ae (aa 2) (ae (aa 4) (ae (aa 5) ag)))))) (al 8))
 (aS (aR (ar (kx K true) (aa 8) (aa 6)))
 (bz (cZ K "list" aO (aa 6) (ae (aa 8) ag)))
 aV))
nonrec abbrev xD (K:Fg):TS:=(bz (cZ K "list" aO (aa 6) (ae (bo (cC K) (ae (fA (ck (ae (aa 2) ag)) (bo IE (ae (gf (ar fV (aa 0) (tC (.int 0))) (ar fV (ar (aE K) (ar (bJ K) (aa 7) (tC (.int 0))) (tC (.int 0))) (tC (.int 0)))) ag))) ag)) ag)))
abbrev q_(K:Fg):TS:=(am (aw (bR ag) (al 6))
 (am (aW (ck (ae (aa 3) ag)) (al 7)
 (xE K))
 (am (aS (aR (ar fV (bo (bW K) (ae (aa 6) ag)) (tC (.int 1))))
 (xD K)
 aV)
 (aG (aa 6)))))
def DK{K:Fg}:ρ 9 (rV K) (q_ K):=by
 fail "R";obtain⟨a,ns,t,m,s,tp,pl,rfl,hS,t0,m1,m5,s2,s8,p2,p4,k⟩:=h;rw[L2.aP hN];walk_at "t";unfold q_;cbv;refine⟨by decide,λl nl=>?_⟩;cbv
 refine aT (λi σ H2=>∃(hs:List (List Int)) (v7 v8:Option V),σ=[⇑a,↥t,↥m,↥s,↥tp,some (.bl pl),⇑l,v7,v8]/\AccZ K H l H2 (hs.map dI)/\hs.length<=i/\vB m.toNat hs/\(0<i->hs≠[]))
  ⟨[],none,none,rfl,AccZ.start (Same.refl _) nl,QH _,⟨To,by simp⟩,by simp⟩ ?_ ?_
 .rintro i σ H2 hi ⟨hs,v7,v8,rfl,A,hl,hp,_⟩;cbv;refine⟨a,ns,t+(0+(i:Int)) % 6,rfl,A.same.seq hS,by lia,?_⟩;generalize cellOf ns (t+(0+(i:Int)) % 6)=c1;cbv;refine⟨c1,0+(i:Int),m,tp,pl,rfl,by lia,by lia,by lia,by lia,p2,p4,λph H4 h S4' oh rh=>?_⟩;have A4:=A.on S4';cbv;refine iZ rh.rep A4.rep (λe he=>by obtain⟨b,_,rfl⟩:=QU.mp he;exact jE b 7) (jE h 7) (λnm=>?_) (λmm=>?_)
  .cbv;refine⟨A4.ty,?_⟩;cbv;refine bV A4 rh (av (by rw[Qx];lia)) λH5 A5 _ _ _=>?_
   cbv;exact⟨hs++[h],_,_,rfl,by rw[QJ];exact A5,by simp;lia,⟨cG hp.1 λz=>nm (Ao.mpr z),cr hp.2 oh⟩,by simp⟩
  .cbv;exact⟨hs,_,_,rfl,A4,by lia,hp,λ_ z=>by rw[z] at mm;cases mm⟩
 .rintro σ H2 ⟨hs,v7,v8,rfl,A,hl,hp,hne⟩;have ne:=hne (by lia);obtain⟨xs,sx,lx,rx⟩:=A.sq;rw[Qx] at lx;cbv;refine b7 sx ?_;cbv;refine bb (λfew=>?_) (λfew=>?_)
  .have l1:hs.length=1:=by lia
   obtain⟨h,rfl⟩:∃x,hs=[x]:=SV.mp l1;have oh:=hp.2 h (by simp);obtain⟨h1,hr,eh⟩:∃h1 hr,h=h1 :: hr:=UQ (by have:=oh.1;lia);obtain⟨v,ev,rv⟩:=RpL.get' (i:=0) rx (d:=dI h) rfl;obtain⟨ah,ys,e1,sh,rh⟩:=rv.Kw;cases e1;cases RpL.ints_of rh;cbv;refine⟨A.ty,?_⟩;cbv;refine c_ λDl nD=>⟨λj H4=>AccZ K H2 Dl H4 ((d_ h1 j).map Rn),AccZ.start (Same.refl _) nD,?_,?_⟩
   .intro j H4 hj B
    have put:∀x:Int,x=(if j=0 then (if decide (h1=0)=true then 1 else 0) else 0)->oB Dl m.toNat j (λj H4=>AccZ K H2 Dl H4 ((d_ h1 j).map Rn)) (.int x) H4:=by
     intro x ex;refine a6 hj (B.cA (.int x) (av ?_) λH5 B5=>?_)
     .rw[Qx];unfold d_;rw[Qx,Ra];lia
     .show AccZ K H2 Dl H5 ((d_ h1 (j+1)).map Rn);unfold d_;rw[Tc,QJ,QJ,VD,VD,<- ex];exact B5
    cbv;refine bb (λj0=>?_) (λj0=>?_)
    .cbv;refine bU (B.same.seq sx) (aI (j:=0) ev) ?_;cbv;refine aF (B.same.seqT sh) (v:=.int h1) (aI (j:=0) (by rw[eh];rfl)) ?_;cbv;refine put _ ?_;rw[if_pos (show j=0 by lia)]
    .cbv;refine put _ ?_;rw[if_neg (show ¬ j=0 by lia)];rfl
   .intro H4 B;have eB:=AccZ.ints B;cbv;refine eM (SqL.of eB) λp np=>?_
    cbv;have Sp:=ak np (.tup ((d_ h1 m.toNat).map V.int));have A5:=(A.on B.same).on Sp;refine bV A5 (d:=dI (d_ h1 m.toNat)) (.tup aj (RpL.ints _)) (av (by simp)) λH6 A6 _ _ _=>?_
    cbv
    have e0:(d_ h1 m.toNat)[0]?=some (if decide (h1=0)=true then 1 else 0):=by
     unfold d_;rw[QD,RG (by lia)];rfl
    refine k l H6 ([h]++[_]) (by rw[QJ];exact A6) ⟨cG hp.1 λz=>?_,cr hp.2 ⟨?_,λx hx=>?_⟩⟩ (by simp) (by simp)
    .have z':=QY.mp z;rw[z',eh] at e0;have z2:h1=(if decide (h1=0)=true then 1 else 0):=Q7 e0;by_cases h10:h1=0
     .rw[decide_eq_true h10] at z2;simp at z2;lia
     .rw[decide_eq_false h10] at z2;simp at z2;lia
    .unfold d_;rw[Qx,Ra]
    .unfold d_ at hx;obtain⟨j,_,rfl⟩:=QU.mp hx;split
     .split <;> decide
     .decide
  .cbv
   have:0<hs.length:=Vn.mpr ne
   exact k l H2 hs A hp (by lia) (by lia)
abbrev GD(p:Int×Int):Dat:=dI [p.1,p.2]
abbrev FP(s:Int)(p:Int×Int):Prop:=0<=p.1/\p.1<s/\0<=p.2/\p.1≠p.2
abbrev mH(K:Fg):Sp:=λvs H Q _=>∃(a:Addr) (ns:List Int) (t s kd:Int) (pl:Bool),vs=[.ref a,.int t,.int s,.int kd,.bl pl]/\SqL K H a (ns.map V.int)/\0<=t/\2<=s/\s<=8/\0<=kd/\kd<=3 /\
 ∀(p:Addr) (H':Hp) (ps:List (Nat×Nat)),AccZ K H p H' (ps.map dP)->ps.Nodup->ps.length<=8->ps≠[]->(∀q∈ps,lG s.toNat q)->Q (.ref p) H'
nonrec abbrev vP(K:Fg):TS:=(am (aS (mB (aR (ar fV (aa 3) (tC (.int 3)))) (aR (ar wN (aa 2) (tC (.int 3)))))
 (bz (cZ K "list" aO (aa 5) (ae (bq (ae (aa 6) (ae (ar aZ (ar (rI CMul λi j=>.int (i*j)) (ar cg (aa 6) (tC (.int 2))) (tC (.int 2))) (ar aU (ar aZ (aa 6) (tC (.int 1))) (tC (.int 2)))) ag))) ag)))
 (aS (aR (ar wN (aa 3) (tC (.int 0))))
 (bz (cZ K "list" aO (aa 5) (ae (bq (ae (aa 6) (ae (aa 7) ag))) ag)))
 aV))
 (aS (aR (ar fV (aa 3) (tC (.int 2))))
 (bz (cZ K "list" aO (aa 5) (ae (bq (ae (aa 7) (ae (aa 6) ag))) ag)))
 aV))
nonrec abbrev vO(K:Fg):TS:=(am (aS (tB (aa 4))
 (am (aw (ar aU (ar aU (ar cg (aa 8) (tC (.int 5))) (tC (.int 8))) (aa 2)) (al 9))
 (aw (ar aU (ar aU (ar cg (aa 8) (tC (.int 40))) (tC (.int 8))) (ar iF (aa 2) (tC (.int 1)))) (al 10)))
 aV)
 (bz (cZ K "list" aO (aa 5) (ae (bq (ae (aa 9) (ae (ar aU (ar aZ (ar aZ (aa 9) (tC (.int 1))) (aa 10)) (aa 2)) ag))) ag))))
nonrec abbrev vN(K:Fg):TS:=(am (aw (ar aU (aD dH [] E0 (ae (aa 8) (ae (tC (.int 50)) ag))) (aa 2)) (al 9))
 (am (aw (ar aU (aD dH [] E0 (ae (aa 8) (ae (tC (.int 51)) ag))) (ar iF (aa 2) (tC (.int 1)))) (al 10))
 (vO K)))
nonrec abbrev vM(K:Fg):TS:=(am (aw (aD (c6 K) [] E0 (ae (aa 0) (ae (ar aZ (aa 1) (aa 6)) ag))) (al 8))
 (aS (Cj (aR (ar fV (aa 3) (tC (.int 0)))) (aR (ar fV (ar aU (aa 8) (tC (.int 5))) (tC (.int 1)))))
 (vN K)
 aV))
nonrec abbrev vL(K:Fg):TS:=(aS (mB (aR (ar (kx K true) (bq (ae (aa 9) (ae (aa 12) ag))) (aa 11))) (mB (aR (ar wM (aa 12) (aa 2))) (aR (ar wM (bo (bW K) (ae (aa 11) ag)) (tC (.int 8))))))
 (bz (cZ K "list" aO (aa 11) (ae (bq (ae (aa 9) (ae (aa 12) ag))) ag)))
 aV)
nonrec abbrev vK(K:Fg):TS:=(am (aW (ck (ae (aa 2) ag)) (al 6)
 (am (aw (ar aU (ar aZ (aa 6) (tC (.int 1))) (aa 2)) (al 7))
 (vP K)))
 (am (aW (ck (ae (tC (.int 8)) ag)) (al 6)
 (vM K))
 (am (aw (bR ag) (al 11))
 (am (aW (ce K (aa 5)) (cx K 2 (aX (al 9) (aX (al 12) cy)))
 (vL K))
 (aG (aa 11))))))
abbrev ma(K:Fg):TS:=(am (aw (bR ag) (al 5))
 (vK K))
def kX{K:Fg}{fs:List (Int×Int)}{x y:Int}{Q:VK}(A:AccZ K H l H2 (fs.map GD))(n:fs.length<=100)(k:∀H3,AccZ K H l H3 ((fs++[(x,y)]).map GD)->Q .non H3) :
  ([V.int x,.int y].length<=sizeLine/\∀p,H2 p=none->ag σ (upd H2 p (.tup [.int x,.int y])) λxs H3=>aO (.ref l) (.ref p :: xs) H3 Q):=by
 refine⟨aQ,λp np=>?_⟩;have S:=ak np (.tup [V.int x,.int y]);refine EO ?_;refine bV (A.on S) (d:=GD (x,y)) (.tup aj (RpL.ints [x,y])) (av (by rw[Qx];lia)) λH3 A3 _ _ _=>k H3 ?_
 rw[QJ];exact A3
def g6{fs:List (Int×Int)}(h:∀q∈fs,FP s q)(n:FP s p):∀q∈fs++[p],FP s q:=cr h n
def Mg{n u v:Int}(h1:0<=u)(h2:u<n)(h3:0<=v)(h4:v<n-1):(u+1+v) % n≠u:=by
 intro e;by_cases z:u+1+v<n
 .rw[ZD (by lia) z] at e;lia
 .have e2:(u+1+v) % n=u+1+v-n:=by
   rw[<- Int.sub_emod_right,ZD (by lia) (by lia)]
  lia
def Bs{s:Int}{fs:List (Int×Int)}{p:Int×Int}(h:∃q∈fs,q.2<s):∃q∈fs++[p],q.2<s:=by
 obtain⟨q,h1,h2⟩:=h;exact⟨q,Rc _ h1,h2⟩
def jS{s:Int}{fs:List (Int×Int)}{p:Int×Int}(h:p.2<s):∃q∈fs++[p],q.2<s:=⟨p,Q6 _ (QY.mpr rfl),h⟩
def zf{K:Fg}:ρ 13 (mH K) (ma K):=by
 fail "R";obtain⟨a,ns,t,s,kd,pl,rfl,hS,t0,s2,s8,k0,k3,k⟩:=h;rw[L2.aP hN];walk_at "t";unfold ma;cbv;refine⟨by decide,λl nl=>?_⟩;cbv
 refine aT (λi σ H2=>∃(fs:List (Int×Int)) (v6 v7:Option V),σ=[⇑a,↥t,↥s,↥kd,some (.bl pl),⇑l,v6,v7,none,none,none,none,none]/\AccZ K H l H2 (fs.map GD)/\fs.length<=2*i/\(∀q∈fs,FP s q)/\(0<i->0<kd->∃q∈fs,q.2<s))
  ⟨[],none,none,rfl,AccZ.start (Same.refl _) nl,QH _,by simp,by simp⟩ ?_ ?_
 .rintro i σ H2 hi ⟨fs,v6,v7,rfl,A,hl,hf,hx⟩;have i8:(i:Int)<s:=by lia
  have hm0:=Sv (0+(i:Int)+1) (b:=s) (by lia);have hm1:=Sj (0+(i:Int)+1) (b:=s) (by lia)
  have hne:(0+(i:Int)+1) % s≠0+(i:Int):=by
   have z:=Mg (n:=s) (u:=0+(i:Int)) (v:=0) (by lia) (by lia) (by lia) (by lia);rw[Uy] at z;exact z
  have back:∀(gs:List (Int×Int)) (H3:Hp) (D':cq),AccZ K H l H3 (gs.map GD)->gs.length<=2*i+1->(∀q∈gs,FP s q)->(0<kd->∃q∈gs,q.2<s) ->
    (∀σ' H',(∃(fs:List (Int×Int)) (v6 v7:Option V),σ'=[⇑a,↥t,↥s,↥kd,some (.bl pl),⇑l,v6,v7,none,none,none,none,none]/\AccZ K H l H' (fs.map GD)/\fs.length<=2*(i+1)/\(∀q∈fs,FP s q)/\(0<i+1->0<kd->∃q∈fs,q.2<s))->D'.nx σ' H') ->
    (aS (aR (ar fV (aa 3) (tC (.int 2))))
     (bz (cZ K "list" aO (aa 5) (ae (bq (ae (aa 7) (ae (aa 6) ag))) ag))) aV) D' [⇑a,↥t,↥s,↥kd,some (.bl pl),⇑l,some (.int (0+(i:Int))),some (.int ((0+(i:Int)+1) % s)),none,none,none,none,none] H3:=by
   intro gs H3 D' B lg fg xg fin;cbv;refine bb (λ_=>?_) (λ_=>?_)
   .cbv;refine⟨B.ty,?_⟩;cbv;refine kX B (by lia) λH4 B4=>?_
    exact fin _ _ ⟨_,_,_,rfl,B4,by simp;lia,g6 fg ⟨hm0,hm1,by dsimp only;lia,λe=>hne e⟩,λ_ z=>Bs (xg z)⟩
   .cbv;exact fin _ _ ⟨gs,_,_,rfl,B,by lia,fg,λ_ z=>xg z⟩
  cbv;refine bb (λe3=>?_) (λe3=>?_)
  .cbv;refine bb (λs3=>?_) (λs3=>?_)
   .cbv;refine⟨A.ty,?_⟩;cbv;refine kX A (by lia) λH3 B=>?_
    refine back _ _ _ B (by simp;lia) (g6 hf ⟨by dsimp only;lia,by dsimp only;lia,by dsimp only;lia,by dsimp only;lia⟩) (λz=>?_) λσ' H' z=>z
    by_cases i0:0<i
    .exact Bs (hx i0 z)
    .exact jS (by dsimp only;lia)
   .cbv;refine bb (λ_=>?_) (λz=>absurd z (by lia));cbv;refine⟨A.ty,?_⟩;cbv;refine kX A (by lia) λH3 B=>?_
    exact back _ _ _ B (by simp;lia) (g6 hf ⟨by dsimp only;lia,by dsimp only;lia,hm0,λe=>hne e.symm⟩) (λz=>jS hm1) λσ' H' z=>z
  .cbv;refine bb (λkp=>?_) (λkp=>?_)
   .cbv;refine⟨A.ty,?_⟩;cbv;refine kX A (by lia) λH3 B=>?_
    exact back _ _ _ B (by simp;lia) (g6 hf ⟨by dsimp only;lia,by dsimp only;lia,hm0,λe=>hne e.symm⟩) (λz=>jS hm1) λσ' H' z=>z
   .exact back fs _ _ A (by lia) hf (λz=>absurd z kp) λσ' H' z=>z
 rintro σ H2 ⟨fs,v6,v7,rfl,A,hl,hf,hx⟩;have s8':s.toNat<=8:=by lia
 cbv
 refine aT (λi σ H3=>∃(gs:List (Int×Int)) (u6 u7 u8 u9 u10:Option V),σ=[⇑a,↥t,↥s,↥kd,some (.bl pl),⇑l,u6,u7,u8,u9,u10,none,none]/\AccZ K H l H3 (gs.map GD)/\gs.length<=16+i/\(∀q∈gs,FP s q)/\(0<kd\/0<i->∃q∈gs,q.2<s))
  ⟨fs,v6,v7,none,none,none,rfl,A,by lia,hf,λz=>hx (by lia) (by lia)⟩ ?_ ?_
 .rintro i σ H3 hi ⟨gs,u6,u7,u8,u9,u10,rfl,B,lg,fg,xg⟩;cbv;refine⟨a,ns,t+(0+(i:Int)),rfl,B.same.seq hS,by lia,?_⟩;generalize cellOf ns (t+(0+(i:Int)))=c
  have draw:∀(D':cq),(∀σ' H',(∃(gs:List (Int×Int)) (u6 u7 u8 u9 u10:Option V),σ'=[⇑a,↥t,↥s,↥kd,some (.bl pl),⇑l,u6,u7,u8,u9,u10,none,none]/\AccZ K H l H' (gs.map GD)/\gs.length<=16+(i+1)/\(∀q∈gs,FP s q)/\(0<kd\/0<i+1->∃q∈gs,q.2<s))->D'.nx σ' H') ->
    (am (aw (ar aU (aD dH [] E0 (ae (aa 8) (ae (tC (.int 50)) ag))) (aa 2)) (al 9))
    (am (aw (ar aU (aD dH [] E0 (ae (aa 8) (ae (tC (.int 51)) ag))) (ar iF (aa 2) (tC (.int 1)))) (al 10))
    (am (aS (tB (aa 4))
    (am (aw (ar aU (ar aU (ar cg (aa 8) (tC (.int 5))) (tC (.int 8))) (aa 2)) (al 9))
    (aw (ar aU (ar aU (ar cg (aa 8) (tC (.int 40))) (tC (.int 8))) (ar iF (aa 2) (tC (.int 1)))) (al 10)))
    aV)
    (bz (cZ K "list" aO (aa 5) (ae (bq (ae (aa 9) (ae (ar aU (ar aZ (ar aZ (aa 9) (tC (.int 1))) (aa 10)) (aa 2)) ag))) ag)))))) D'
     [⇑a,↥t,↥s,↥kd,some (.bl pl),⇑l,some (.int (0+(i:Int))),u7,↥c,u9,u10,none,none] H3:=by
   intro D' fin
   have last:∀o st:Int,0<=o->o<s->0<=st->st<s-1->FP s (o,(o+1+st) % s)/\(o+1+st) % s<s:=λo st h1 h2 h3 h4 =>
    ⟨⟨h1,h2,Sv _ (by lia),λe=>Mg h1 h2 h3 h4 e.symm⟩,Sj _ (by lia)⟩
   cbv;refine⟨c,50,rfl,by decide,by decide,λy hy=>?_⟩;have y0:=Sv y (b:=s) (by lia);have y1:=Sj y (b:=s) (by lia);cbv;refine⟨c,51,rfl,by decide,by decide,λw hw=>?_⟩;have w0:=Sv w (b:=s-1) (by lia);have w1:=Sj w (b:=s-1) (by lia);cbv;cases pl with
   |true =>
    have z0:=Sv (c / 5 % 8) (b:=s) (by lia);have z1:=Sj (c / 5 % 8) (b:=s) (by lia);have x0:=Sv (c / 40 % 8) (b:=s-1) (by lia);have x1:=Sj (c / 40 % 8) (b:=s-1) (by lia);cbv;refine⟨B.ty,?_⟩;cbv;refine kX B (by lia) λH4 B4=>?_
    obtain⟨o1,o2⟩:=last (c / 5 % 8 % s) (c / 40 % 8 % (s-1)) z0 z1 x0 x1;exact fin _ _ ⟨_,_,_,_,_,_,rfl,B4,by simp;lia,g6 fg o1,λ_=>jS o2⟩
   |false =>
    cbv;refine⟨B.ty,?_⟩;cbv;refine kX B (by lia) λH4 B4=>?_
    obtain⟨o1,o2⟩:=last (y % s) (w % (s-1)) y0 y1 w0 w1;exact fin _ _ ⟨_,_,_,_,_,_,rfl,B4,by simp;lia,g6 fg o1,λ_=>jS o2⟩
  cbv;refine bb (λz=>?_) (λz=>?_)
  .fail "1";exact draw _ λσ' H' z=>z
  .cbv;refine bb (λy=>?_) (λy=>?_)
   .exact draw _ λσ' H' z=>z
   .cbv;exact⟨gs,_,_,_,_,_,rfl,B,by lia,fg,λ_=>xg (.inl (by lia))⟩
 rintro σ H3 ⟨gs,u6,u7,u8,u9,u10,rfl,B,lg,fg,xg⟩;have xg':=xg (.inr (by decide));obtain⟨xs,hl3,rx⟩:=B.at_;have lx:xs.length=gs.length:=by rw[rx.length,Qx]
 cbv;refine⟨by decide,λl2 nl2=>?_⟩;cbv;have S2:=ak nl2 (.lst []);refine f7 (SqL.of (S2 _ _ hl3)) ?_
 refine a_ (xs:=xs) (λi σ H4=>∃(ps:List (Nat×Nat)) (w6 w7 w8 w9 w10 w12:Option V),σ=[⇑a,↥t,↥s,↥kd,some (.bl pl),⇑l,w6,w7,w8,w9,w10,⇑l2,w12]/\AccZ K H3 l2 H4 (ps.map dP)/\ps.Nodup/\ps.length<=8/\(∀q∈ps,lG s.toNat q)/\((∃q∈gs.take i,q.2<s)->ps≠[]))
  ⟨[],u6,u7,u8,u9,u10,none,rfl,AccZ.start (Same.refl _) nl2,To,by decide,by simp,by simp⟩ ?_ ?_ ?_
 .rintro i σ H4 _ ⟨ps,w6,w7,w8,w9,w10,w12,rfl,C,_⟩;exact SqL.of (C.same _ _ hl3)
 .rintro i z σ H4 hz ⟨ps,w6,w7,w8,w9,w10,w12,rfl,C,nd,l8,okp,hne⟩;obtain⟨dd,g1,g2⟩:=rx.get hz;rw[QD] at g1;obtain⟨g,eg,rfl⟩:=QG.mp g1;have og:=fg g (QI eg);obtain⟨tz,zs,e1,st,rt⟩:=(g2.same C.same).b5;cases e1;cases RpL.ints_of (ns:=[g.1,g.2]) rt;obtain⟨x,y⟩:=g;obtain⟨o0,o1,o2,o3⟩:=og;dsimp only at o0 o1 o2 o3
  have oo:y<s->lG s.toNat (x.toNat,y.toNat):=λys=>by
   clear hne xg xg' hx;exact⟨by show x.toNat<s.toNat;lia,by show y.toNat<s.toNat;lia,by show x.toNat≠y.toNat;lia⟩
  have tk:gs.take (i+1)=gs.take i++[(x,y)]:=by rw[QX,eg];rfl
  have old:(∃q∈gs.take (i+1),q.2<s)->¬ y<s->∃q∈gs.take i,q.2<s:=by
   rintro⟨q,h1,h2⟩ ny;rw[tk] at h1;rcases Q8.mp h1 with h|h
   .exact⟨q,h,h2⟩
   .rw[QY.mp h] at h2;exact absurd h2 ny
  have st':H4 tz=some (.tup [.int x,.int y]):=st;refine bP (SqT.of st') rfl ?_;cbv;refine⟨aQ,λp np=>?_⟩;have S5:=ak np (.tup [V.int x,.int y]);have C5:=C.on S5;have r5:Rz K (upd H4 p (.tup [V.int x,.int y])) (.ref p) (dI [x,y]):=.tup aj (RpL.ints [x,y])
  have eP:dI [x,y]=dP (x.toNat,y.toNat):=by
   show dI [x,y]=dI [((x.toNat:Nat):Int),((y.toNat:Nat):Int)];rw[YO o0,YO o2]
  rw[eP] at r5;cbv;refine iZ r5.rep C5.rep (λe he=>by obtain⟨b,_,rfl⟩:=QU.mp he;exact jE _ 7) (jE _ 7) (λnm=>?_) (λmm=>?_)
  .cbv;refine bb (λys=>?_) (λys=>?_)
   .obtain⟨xs5,s5,n5,_⟩:=C5.sq;rw[Qx] at n5;cbv;refine b7 s5 ?_;cbv;refine bb (λlt=>?_) (λge=>?_)
    .cbv;refine⟨C5.ty,?_⟩;cbv;refine⟨aQ,λp' np'=>?_⟩;have S6:=ak np' (.tup [V.int x,.int y]);refine EO ?_;refine bV (C5.on S6) (d:=dP (x.toNat,y.toNat)) (by rw[<- eP];exact .tup aj (RpL.ints [x,y])) (av (by rw[Qx];lia)) λH6 C6 _ _ _=>?_
     cbv;exact⟨ps++[(x.toNat,y.toNat)],_,_,_,_,_,_,rfl,by rw[QJ];exact C6,cG nd λz=>nm (Mj.mpr z),by simp;lia,cr okp (oo ys),by simp⟩
    .have lz:ps=[]->False:=λz=>by
      have z0:ps.length=0:=by rw[z];rfl
      clear hne xg xg' hx;lia
     cbv;exact⟨ps,_,_,_,_,_,_,rfl,C5,nd,l8,okp,λ_ z=>lz z⟩
   .cbv;exact⟨ps,_,_,_,_,_,_,rfl,C5,nd,l8,okp,λz=>hne (old z ys)⟩
  .cbv;exact⟨ps,_,_,_,_,_,_,rfl,C5,nd,l8,okp,λ_ z=>by rw[z] at mm;cases mm⟩
 .rintro σ H4 ⟨ps,w6,w7,w8,w9,w10,w12,rfl,C,nd,l8,okp,hne⟩;rw[lx,QM (QH _)] at hne;cbv;exact k l2 H4 ps (ot B.same C) nd l8 (hne xg') okp
abbrev yz(K:Fg):Sp:=λvs H Q _=>∃(a:Addr) (ns:List Int) (t:Int),vs=[.ref a,.int t]/\SqL K H a (ns.map V.int)/\0<=t/\∀(p:Addr) (H':Hp) (ws:List Str) (ts:List Tn),Same H H'->oz ws ts->Rz K H' (.ref p) (dV ws ts)->Q (.ref p) H'
nonrec abbrev CI (K:Fg):TS:=(bz (cZ K "list" aO (aa 8) (ae (bq (ae (ar (bJ K) (aa 6) (aa 11)) (ae (ar (bJ K) (aa 6) (aa 12)) (ae (aD (i9 K) [] E0 (ae (ar cg (aa 10) (tC (.int 320))) (ae (ar aU (ar cg (aa 2) (tC (.int 420))) (tC (.int 3))) ag))) ag)))) ag)))
nonrec abbrev CH(K:Fg):TS:=(am (aw (aD (c6 K) [] E0 (ae (aa 0) (ae (ar aZ (ar aZ (aa 1) (tC (.int 7))) (aa 9)) ag))) (al 10))
 (am (aw (ar (bJ K) (aa 7) (aa 9)) (cx K 2 (aX (al 11) (aX (al 12) cy))))
 (CI K)))
nonrec abbrev CG(K:Fg):TS:=(am (aW (ck (ae (bo (bW K) (ae (aa 7) ag)) ag)) (al 9)
 (CH K))
 (aG (bq (ae (aD (gg K) [] E0 (ae (ar cg (aa 2) (tC (.int 2520))) (ae (aa 3) ag))) (ae (bo (cC K) (ae (aa 8) ag)) ag)))))
nonrec abbrev CF(K:Fg):TS:=(am (aw (aD (mH K) [] E0 (ae (aa 0) (ae (ar aZ (aa 1) (tC (.int 7))) (ae (bo (bW K) (ae (aa 6) ag)) (ae (ar aU (ar cg (aa 2) (tC (.int 105))) (tC (.int 4))) (ae (aa 5) ag)))))) (al 7))
 (am (aw (bR ag) (al 8))
 (CG K)))
nonrec abbrev CD(K:Fg):TS:=(am (aw (aD (rV K) [] E0 (ae (aa 0) (ae (ar aZ (aa 1) (tC (.int 1))) (ae (aa 3) (ae (ar aZ (tC (.int 2)) (ar aU (ar cg (aa 2) (tC (.int 15))) (tC (.int 7)))) (ae (aa 4) (ae (aa 5) ag))))))) (al 6))
 (CF K))
nonrec abbrev CC(K:Fg):TS:=(am (aw (ar aZ (tC (.int 1)) (ar aU (aa 2) (tC (.int 5)))) (al 3))
 (am (aw (ar aZ (tC (.int 2)) (ar aU (ar cg (aa 2) (tC (.int 5))) (tC (.int 3)))) (al 4))
 (am (aw (ar fV (ar aU (ar cg (aa 2) (tC (.int 1260))) (tC (.int 2))) (tC (.int 1))) (al 5))
 (CD K))))
abbrev xl(K:Fg):TS:=(am (aw (aD dH [] E0 (ae (aD (c6 K) [] E0 (ae (aa 0) (ae (aa 1) ag))) (ae (tC (.int 1)) ag))) (al 2))
 (CC K))
def HU{K:Fg}:ρ 13 (yz K) (xl K):=by
 fail "R";obtain⟨a,ns,t,rfl,hS,t0,k⟩:=h;rw[L2.aP hN];walk_at "t";unfold xl;cbv;refine⟨a,ns,t,rfl,hS,t0,?_⟩;generalize cellOf ns t=c;cbv;refine⟨c,1,rfl,by decide,by decide,λn ω=>?_⟩;obtain⟨n0,_⟩:=ω;cbv;generalize decide (n / 1260 % 2=1)=pl;refine⟨a,ns,t+1,1+n % 5,2+n / 15 % 7,2+n / 5 % 3,pl,rfl,hS,by lia,by lia,by lia,by lia,by lia,by lia,by lia,λpp H1 hs A1 op h2 h8=>?_⟩;obtain⟨xs,hpp,rz⟩:=A1.at_;have lx:xs.length=hs.length:=by rw[rz.length,Qx]
 have S1:=A1.same;cbv;refine b7 (SqL.of hpp) ?_;cbv;refine⟨a,ns,t+7,(xs.length:Int),n / 105 % 4,pl,rfl,S1.seq hS,by lia,by lia,by lia,by lia,by lia,λpr H2 ps A2 nd l8 ne okp=>?_⟩;obtain⟨ys,hpr,ry⟩:=A2.at_;have ly:ys.length=ps.length:=by rw[ry.length,Qx]
 have S2:=A2.same;have S02:=S1.trans S2;cbv;refine⟨by decide,λl nl=>?_⟩;cbv;have Sl:=ak nl (.lst []);refine b7 (SqL.of (Sl _ _ hpr)) ?_;rw[ly];cbv;have et:((ps.length:Nat):Int).toNat=ps.length:=by lia
 rw[et]
 refine aT (λi σ H3=>∃(ts:List Tn) (v9 v10 v11 v12:Option V),σ=[⇑a,↥t,↥n,↥(1+n % 5),↥(2+n / 5 % 3),some (.bl pl),⇑pp,⇑pr,⇑l,v9,v10,v11,v12]/\AccZ K H2 l H3 (ts.map dT)/\ts.map b_=(ps.take i).map (iU hs)/\∀t∈ts,gC t.q t.d)
  ⟨[],none,none,none,none,rfl,AccZ.start (Same.refl _) nl,rfl,by simp⟩ ?_ ?_
 .rintro i σ H3 hi ⟨ts,v9,v10,v11,v12,rfl,A,em,pc⟩;have S3:=A.same
  have lts:ts.length=i:=by
   have:=congrArg Sr em
   rw[Qx,Qx,Q3] at this;lia
  have eq1:ps[i]?=some ps[i]:=Qy hi;have oq:=okp _ (Ry hi);generalize ps[i]=q at eq1 oq;have oq1:q.1<hs.length:=by have:=oq.1;lia
  have oq2:q.2<hs.length:=by have:=oq.2.1;lia
  obtain⟨w,ew,rw_⟩:=ry.get' (i:=i) (d:=dP q) (by rw[QD,eq1];rfl);cbv;refine⟨a,ns,t+7+(0+(i:Int)),rfl,(S02.trans S3).seq hS,by lia,?_⟩;generalize cellOf ns (t+7+(0+(i:Int)))=c2;cbv;refine bU (SqL.of (S3 _ _ hpr)) (v:=w) (by rw[T0];exact aI ew) ?_;obtain⟨tz,zs,rfl,st,rt⟩:=(rw_.same S3).b5;cases RpL.ints_of (ns:=[(q.1:Int),(q.2:Int)]) rt;have st':H3 tz=some (.tup [.int (q.1:Int),.int (q.2:Int)]):=st;refine bP (SqT.of st') rfl ?_;have g1:(hs.map dI)[q.1]?=some (dI (hs.getD q.1 [])):=by rw[QD,Qz,Qy oq1];rfl
  have g2:(hs.map dI)[q.2]?=some (dI (hs.getD q.2 [])):=by rw[QD,Qz,Qy oq2];rfl
  obtain⟨w1,ew1,rw1⟩:=rz.get' g1;obtain⟨w2,ew2,rw2⟩:=rz.get' g2;have S13:=S2.trans S3;cbv;refine⟨A.ty,?_⟩;cbv;refine bU (SqL.of (S13 _ _ hpp)) (aI ew1) ?_;cbv;refine bU (SqL.of (S13 _ _ hpp)) (aI ew2) ?_;cbv;refine⟨_,_,rfl,λpa pq pd H4 S4 ok4 r4=>?_⟩;cbv;refine⟨fS,λpt npt=>?_⟩;have S5:=ak npt (.tup [w1,w2,.ref pa]);have S15:=S13.trans (S4.trans S5);have r5:Rz K (upd H4 pt (.tup [w1,w2,.ref pa])) (.ref pt) (dT ⟨hs.getD q.1 [],hs.getD q.2 [],pq,pd⟩):=.tup aj (.cons (rw1.same S15) (.cons (rw2.same S15) (.cons (r4.same S5) .nil)));cbv;refine bV (A.on (S4.trans S5)) r5 (av (by rw[Qx];lia)) λH6 A6 _ _ _=>?_
  cbv;refine⟨ts++[_],_,_,_,_,rfl,by rw[QJ];exact A6,?_,cr pc ok4⟩;rw[QJ,em,QX,eq1,QJ];rfl
 .rintro σ H3 ⟨ts,v9,v10,v11,v12,rfl,A,em,pc⟩;rw[QM (QH _)] at em;have S3:=A.same;obtain⟨zs,hl,rzs⟩:=A.at_;have gd:G1.Good hs ps ts:=⟨nd,l8,em,λp hp=>by have:=okp p hp;have e:((xs.length:Nat):Int).toNat=hs.length:=(by lia);rw[e] at this;exact this,pc⟩
  have tk:=gd.turns op.1 ne;cbv;refine⟨n / 2520,1+n % 5,rfl,by lia,by lia,by lia,λpw H4 ws S4 ow lw r4=>?_⟩;cbv;refine eM (SqL.of (S4 _ _ hl)) λp np=>?_
  have S5:=ak np (.tup zs);cbv;refine⟨aQ,λr nr=>?_⟩;have S6:=ak nr (.tup [.ref pw,.ref p]);have r5:Rz K (upd H4 p (.tup zs)) (.ref p) (.tuple (ts.map dT)):=.tup aj ((rzs.same S4).same S5);refine k r _ ws ts (S02.trans (S3.trans (S4.trans (S5.trans S6)))) ⟨ow,by lia,by lia,hs,?_,h8,tk⟩ (.tup aj (.cons ((r4.same S5).same S6) (.cons (r5.same S6) .nil)));rw[lw];exact op
end G2
namespace Ti
open PySem L2 Fr G1 Sm Vs G2
open PySem.W (Dat kqdOk)
abbrev ix:List (List Int)->List Int->Nat
 |[],_=>0
 |x :: xs,h=>if x=h then 0 else ix xs h+1
def AN:∀{hs:List (List Int)} {h:List Int},h∈hs->hs[ix hs h]?=some h
 |x :: xs,h,m=>by
  unfold ix;by_cases e:x=h
  .rw[if_pos e,e];rfl
  .rw[if_neg e,Th];exact AN ((Q5.mp m).resolve_left λz=>e z.symm)
def uR:∀{hs:List (List Int)} {h:List Int} {m:Nat},m<ix hs h->hs[m]?≠some h
 |[],_,m,l=>by unfold ix at l;lia
 |x :: xs,h,m,l=>by
  unfold ix at l;by_cases e:x=h
  .rw[if_pos e] at l;lia
  .rw[if_neg e] at l;cases m with
   |zero=>intro z;exact e (Q7 z)
   |succ m=>rw[Th];exact uR (by lia)
def M5:∀{hs:List (List Int)} {h:List Int} {i:Nat},hs.Nodup->hs[i]?=some h->ix hs h=i
 |x :: xs,h,0,nd,e=>by
  unfold ix;rw[if_pos (Q7 e)]
 |x :: xs,h,i+1,nd,e=>by
  rw[RH] at nd;rw[Th] at e;unfold ix;rw[if_neg (show ¬ x=h from λz=>nd.1 (by rw[z];exact QI e)),M5 nd.2 e]
def M6{hs:List (List Int)}{h:List Int}(m:h∈hs):ix hs h<hs.length:=(QC.mp (AN m)).1
def nK{hs:List (List Int)}{x:List Int}(m:x∈hs):x∈b9 hs h:=by
 unfold b9;split
 .exact m
 .exact Rc _ m
def uS(hs:List (List Int))(h:List Int):h∈b9 hs h:=by
 unfold b9;split
 .assumption
 .exact Q6 _ (QY.mpr rfl)
def nQ:∀{ts:List Tn} {hs:List (List Int)} {x:List Int},x∈hs->x∈iN hs ts
 |[],_,_,m=>m
 |t :: ts,hs,x,m=>nQ (ts:=ts) (nK (nK m))
def dF:∀{ts:List Tn} {hs:List (List Int)} {t:Tn},t∈ts->t.fr∈iN hs ts/\t.to∈iN hs ts
 |u :: ts,hs,t,m=>by
  rcases Q5.mp m with rfl|m
  .exact⟨nQ (ts:=ts) (nK (uS _ _)),nQ (ts:=ts) (uS _ _)⟩
  .exact dF (ts:=ts) m
def AV{hs:List (List Int)}(nd:hs.Nodup):(b9 hs h).Nodup:=by
 unfold b9;split
 .exact nd
 .rename_i z;exact cG nd z
def AY:∀(ts:List Tn) {hs:List (List Int)},hs.Nodup->(iN hs ts).Nodup
 |[],_,nd=>nd
 |t :: ts,_,nd=>AY ts (AV (AV nd))
def qm(ts:List Tn):(aH ts).Nodup:=AY ts To
def nP{ts:List Tn}(l:ts.length<=100):(aH ts).length<=200:=by
 have:=nR ts []
 unfold aH;simp only[Vw] at this;lia
abbrev aq(ts:List Tn):List (Nat×Nat):=ts.map λt=>(ix (aH ts) t.fr,ix (aH ts) t.to)
abbrev N6(n:Nat)(es:List (Nat×Nat)):Prop:=∀e∈es,e.1<n/\e.2<n
def bS(ts:List Tn):N6 (aH ts).length (aq ts):=λe he=>by
 obtain⟨t,ht,rfl⟩:=QU.mp he
 have:=dF (hs:=[]) ht
 exact⟨M6 this.1,M6 this.2⟩
nonrec abbrev vQ(K:Fg):TS:=(am (aW (qk K (ar (aE K) (aa 0) (tC (.int 1)))) (cx K 3 (aX (al 2) (aX (al 3) (aX (al 4) cy))))
 (aW (ce K (bR (ae (aa 2) (ae (aa 3) ag)))) (al 5)
 (aS (aR (ar (kx K true) (aa 5) (aa 1)))
 (bz (cZ K "list" aO (aa 1) (ae (aa 5) ag)))
 aV)))
 (aG (aa 1)))
abbrev mi(K:Fg):TS:=(am (aw (bR ag) (al 1))
 (vQ K))
abbrev FZ(hs:List (List Int))(t:Tn):Nat->List (List Int)
 |0=>hs
 |1=>b9 hs t.fr
 |_=>b9 (b9 hs t.fr) t.to
def zh{K:Fg}:ρ 6 (dh K) (mi K):=by
 fail "R";obtain⟨v,ws,ts,rfl,rv,hl,k⟩:=h;obtain⟨a0,y1,y2,rfl,ha0,_,r2⟩:=iO rv;obtain⟨a,xs,rfl,ha,rx⟩:=r2.b5;rw[L2.aP hN];walk_at "t";have lx:xs.length=ts.length:=by rw[rx.length,Qx]
 unfold mi;cbv;refine⟨by decide,λl nl=>?_⟩;have Sl:=ak nl (.lst []);cbv;refine aF (SqT.of (Sl _ _ ha0)) (v:=.ref a) rfl ?_;refine MC (SqT.of (Sl _ _ ha)) ?_;refine tq (xs:=xs) (λi σ H2=>∃u2 u3 u4 u5:Option V,σ=[⇑a0,⇑l,u2,u3,u4,u5]/\AccZ K H l H2 ((aH (ts.take i)).map dI)) ⟨none,none,none,none,rfl,AccZ.start (Same.refl _) nl⟩ ?_ ?_ ?_
 .rintro i σ H2 _ ⟨u2,u3,u4,u5,rfl,A⟩;exact SqT.of (A.same _ _ ha)
 .rintro i z σ H2 hz ⟨u2,u3,u4,u5,rfl,A⟩;obtain⟨dd,g1,g2⟩:=rx.get hz;rw[QD] at g1;obtain⟨t,ht,rfl⟩:=QG.mp g1;obtain⟨at_,v1,v2,v3,rfl,hat,r1,r2,_⟩:=jU (g2.same A.same);have ti:i<ts.length:=(QC.mp ht).1;refine bP (SqT.of hat) rfl ?_;cbv;refine⟨aQ,λpt npt=>?_⟩;have S3:=ak npt (.lst [v1,v2]);have hpt:upd H2 pt (.lst [v1,v2]) pt=some (.lst [v1,v2]):=aj;have A3:=A.on S3;have q1:=r1.same S3;have q2:=r2.same S3
  have npl:pt≠l:=by
   obtain⟨_,z,_⟩:=A.at_;exact(ay z npt).symm
  generalize upd H2 pt (.lst [v1,v2])=H3 at S3 hpt A3 q1 q2 ⊢;refine f7 (SqL.of hpt) ?_;have hl2:(aH (ts.take i)).length<=200:=nP (by rw[Q3];lia);generalize hhs:aH (ts.take i)=hs at A3 hl2 A ⊢;refine a_ (xs:=[v1,v2]) (λj σ H4=>∃u:Option V,σ=[⇑a0,⇑l,some v1,some v2,some v3,u]/\AccZ K H l H4 ((FZ hs t j).map dI)/\H4 pt=some (.lst [v1,v2])/\Rz K H4 v1 (dI t.fr)/\Rz K H4 v2 (dI t.to)) ⟨_,rfl,A3,hpt,q1,q2⟩ ?_ ?_ ?_
  .rintro j σ H4 _ ⟨u,rfl,_,e,_⟩;exact SqL.of e
  .rintro j y σ H4 hy ⟨u,rfl,B,e,p1,p2⟩
   have go:∀(w:V) (g:List Int) (ds:List (List Int)) (D':cq),Rz K H4 w (dI g)->AccZ K H l H4 (ds.map dI)->ds.length<=300->(∀H5,AccZ K H l H5 ((b9 ds g).map dI)->H5 pt=some (.lst [v1,v2])->Rz K H5 v1 (dI t.fr)->Rz K H5 v2 (dI t.to)->D'.nx [⇑a0,⇑l,some v1,some v2,some v3,some w] H5) ->
     (aS (aR (ar (kx K true) (aa 5) (aa 1))) (bz (cZ K "list" aO (aa 1) (ae (aa 5) ag))) aV) D' [⇑a0,⇑l,some v1,some v2,some v3,some w] H4:=by
    intro w g ds D' rw_ Bd ld fin;cbv;refine iZ rw_.rep Bd.rep (λe he=>by obtain⟨b,_,rfl⟩:=QU.mp he;exact jE b 7) (jE g 7) (λnm=>?_) (λmm=>?_)
    .cbv;refine⟨Bd.ty,?_⟩;cbv;refine bV Bd rw_ (av (by rw[Qx];lia)) λH5 A5 keepZ keepB _=>?_
     refine fin H5 ?_ ((keepB pt npl).trans e) (keepZ p1) (keepZ p2);unfold b9;rw[if_neg (λz=>nm (Ao.mpr z)),QJ];exact A5
    .cbv;refine fin H4 ?_ e p1 p2;unfold b9;rw[if_pos (Ao.mp mm)];exact Bd
   match j,hy with
   |0,hy =>
    cases Q7 hy;exact go v1 t.fr hs _ p1 B (by lia) λH5 A5 e5 z1 z2=>⟨_,rfl,A5,e5,z1,z2⟩
   |1,hy =>
    cases Q7 hy;exact go v2 t.to (b9 hs t.fr) _ p2 B (by have:=nL hs t.fr;lia) λH5 A5 e5 z1 z2=>⟨_,rfl,A5,e5,z1,z2⟩
   |j+2,hy=>simp at hy
  .rintro σ H4 ⟨u,rfl,B,e,p1,p2⟩;refine⟨_,_,_,_,rfl,?_⟩;have et:ts.take (i+1)=ts.take i++[t]:=by rw[QX,ht];rfl
   have ep:aH (ts.take (i+1))=FZ hs t 2:=by
    rw[et,<- hhs];exact qo [] (ts.take i) t
   rw[ep];exact B
 .rintro σ H2 ⟨u2,u3,u4,u5,rfl,A⟩;rw[lx,QM (QH _)] at A;cbv;exact k l H2 A
abbrev fF(K:Fg):Sp:=λvs H Q _=>∃(v:V) (ws:List Str) (ts:List Tn),vs=[v]/\Rz K H v (dV ws ts)/\ts.length<=100/\∀(p:Addr) (H':Hp),AccZ K H p H' ((aq ts).map dP)->Q (.ref p) H'
def Bu{K:Fg}{H:Hp}{σ:St}{Q:VK}{te:TE}{ts:List Tn}(l:ts.length<=100)(hb:H b=some (.tup xs))(rx:RzL K H xs (ts.map dT))
  (ht:∀(H2:Hp) (v:V) (t:Tn) (Q':VK),t∈ts->Same H H2->Rz K H2 v (dT t)->(∀p,H2 p=none->Q' (.ref p) (upd H2 p (.tup [.int (ix (aH ts) t.fr),.int (ix (aH ts) t.to)])))->te (some v :: σ) H2 Q')
  (hq:∀(D:Addr) (H':Hp),AccZ K H D H' ((aq ts).map dP)->Q (.ref D) H'):cS (wJ K b) te σ Q H:=by
 have lx:xs.length=ts.length:=by rw[rx.length,Qx]
 refine vm (xs:=xs) λD nD=>⟨λi H2=>AccZ K H D H2 (((ts.take i).map λt=>(ix (aH ts) t.fr,ix (aH ts) t.to)).map dP),AccZ.start (Same.refl _) nD,λi H2 _ A=>SqT.of (A.same _ _ hb),?_,?_⟩
 .intro i z H2 hz A;obtain⟨dd,g1,g2⟩:=rx.get hz;rw[QD] at g1;obtain⟨t,et,rfl⟩:=QG.mp g1;have li:i<ts.length:=(QC.mp et).1;refine ht H2 z t _ (QI et) A.same (g2.same A.same) λp np=>?_
  have S3:=ak np (.tup [V.int (ix (aH ts) t.fr),.int (ix (aH ts) t.to)]);refine a6 (by lia) ((A.on S3).cA (d:=dP (ix (aH ts) t.fr,ix (aH ts) t.to)) (.tup aj (RpL.ints [_,_])) (av ?_) λH4 A4=>?_)
  .rw[Qx,Qx,Q3];lia
  .show AccZ K H D H4 (((ts.take (i+1)).map λt=>(ix (aH ts) t.fr,ix (aH ts) t.to)).map dP);rw[QX,et,QJ,QJ];exact A4
 .intro H2 A;rw[lx,QM (QH _)] at A;exact hq D H2 A
nonrec abbrev xR (K:Fg):TS:=(aG (fA (qk K (ar (aE K) (aa 0) (tC (.int 1)))) (bq (ae (cZ K "list" (uu K) (aa 2) (ae (ar (aE K) (aa 0) (tC (.int 0))) ag)) (ae (cZ K "list" (uu K) (aa 2) (ae (ar (aE K) (aa 0) (tC (.int 1))) ag)) ag)))))
abbrev rB(K:Fg):TS:=(am (aw (aD (dh K) [] E0 (ae (aa 0) ag)) (al 1))
 (xR K))
def DR{K:Fg}:ρ 2 (fF K) (rB K):=by
 fail "R";obtain⟨v,ws,ts,rfl,rv,hl,k⟩:=h;rw[L2.aP hN];walk_at "t";unfold rB;cbv;refine⟨v,ws,ts,rfl,rv,hl,λp H1 A1=>?_⟩;have S1:=A1.same;obtain⟨a0,y1,y2,rfl,ha0,_,r2⟩:=iO (rv.same S1);obtain⟨a,xs,rfl,ha,rx⟩:=r2.b5;have hl2:=nP hl;cbv;refine aF (SqT.of ha0) (v:=.ref a) rfl ?_;refine MD (SqT.of ha) ?_;refine Bu hl ha rx (λH2 z t Q' mt S2 rz q=>?_) λD H' A=>k D H' (ot S1 A)
 obtain⟨b,w1,w2,w3,rfl,hb,q1,q2,_⟩:=jU rz;have mm:=dF (hs:=[]) mt;have A2:=A1.on S2;have okd:∀e∈(aH ts).map dI,kqdOk 8 e=true:=λe he=>by obtain⟨b,_,rfl⟩:=QU.mp he;exact jE b 7
 have first:∀{g:List Int} {m:Nat},m<ix (aH ts) g->((aH ts).map dI)[m]?≠some (dI g):=λhm z=>by
  rw[QD] at z;obtain⟨g',e1,e2⟩:=QG.mp z;exact uR hm (by rw[e1,BD e2])
 have at_:∀{g:List Int},g∈aH ts->((aH ts).map dI)[ix (aH ts) g]?=some (dI g):=λm=>by rw[QD,AN m];rfl
 cbv;refine⟨A2.ty,?_⟩;cbv;refine aF (SqT.of hb) (v:=w1) rfl ?_;cbv;refine AK q1.rep A2.rep okd (jE _ 7) (at_ mm.1) (λm hm=>first hm) (by rw[Qx];lia) ?_;cbv;refine⟨A2.ty,?_⟩;cbv;refine aF (SqT.of hb) (v:=w2) rfl ?_;cbv;refine AK q2.rep A2.rep okd (jE _ 7) (at_ mm.2) (λm hm=>first hm) (by rw[Qx];lia) ?_;cbv;exact⟨aQ,q⟩
nonrec abbrev C0(K:Fg):TS:=(am (aW (iM K (ae (aD (dh K) [] E0 (ae (aa 0) ag)) ag)) (cx K 2 (aX (al 2) (aX (al 3) cy)))
 (pB (aa 1) (aa 3) (aa 2)))
 (aG (fA (qk K (ar (aE K) (aa 0) (tC (.int 1)))) (bq (ae (rN (aa 2) (ar (aE K) (aa 0) (tC (.int 0)))) (ae (rN (aa 2) (ar (aE K) (aa 0) (tC (.int 1)))) ag))))))
abbrev xT(K:Fg):TS:=(am (aw ym (al 1))
 (C0 K))
def Ii{K:Fg}:ρ 4 (fF K) (xT K):=by
 fail "R";obtain⟨v,ws,ts,rfl,rv,hl,k⟩:=h;rw[L2.aP hN];walk_at "t";have hl2:=nP hl;have nd:=qm ts;unfold xT;cbv;intro d fd;have S0:=ak fd (.dT []);cbv;refine⟨v,ws,ts,rfl,rv.same S0,hl,λp H1 A1=>?_⟩;obtain⟨xs,hp,rx⟩:=A1.at_;have lx:xs.length=(aH ts).length:=by rw[rx.length,Qx]
 have S1:=A1.same;have e1:H1 d=some (.dT []):=S1 _ _ aj;cbv;refine⟨p,xs,rfl,SqL.of hp,?_⟩
 refine dG (xs:=xs) (λi σ H2=>∃(de:List (List bf×V)) (u2 u3:Option V),σ=[some v,⇑d,u2,u3]/\Same H H2/\(∀b o,b≠d->H1 b=some o->H2 b=some o)/\H2 d=some (.dT de)/\de.length<=i/\∀g:List Int,g∈(aH ts).take i->bO de (iV g)=some (.int (ix (aH ts) g)))
  ⟨[],none,none,rfl,S0.trans S1,λ_ _ _ z=>z,e1,QH _,by simp⟩ ?_ ?_ ?_
 .rintro i σ H2 _ ⟨de,u2,u3,rfl,S,kp,ed,ek,eg⟩;exact SqL.of (kp p _ (kE hp e1 (by intro z;cases z)) hp)
 .rintro i z σ H2 T hz ⟨de,u2,u3,rfl,S,kp,ed,ek,eg⟩ nT;obtain⟨dd,g1,g2⟩:=rx.get hz;rw[QD] at g1;obtain⟨g,hg,rfl⟩:=QG.mp g1;have li:i<(aH ts).length:=(QC.mp hg).1;obtain⟨b,rfl,hb⟩:=bM g2;have nbd:b≠d:=kE hb e1 (by intro z;cases z);have S2:=ak nT (.tup [.int (i:Int),.ref b]);have nTd:T≠d:=(ay ed nT).symm;have ed2:=S2 _ _ ed;have hb2:=S2 _ _ (kp b _ nbd hb);refine bP (SqT.of aj) rfl ?_;cbv;refine⟨d,_,rfl,DPut.t ed2 (k:=iV g) (by rw[kM];exact hb2) (av (by lia)),?_⟩;have le1:=cj de (iV g) (.int (i:Int));refine⟨_,_,_,rfl,λb' o q=>?_,λb' o n q=>?_,aj,by lia,λg' mg=>?_⟩
  .rw[aJ (ay q fd)];exact S2 _ _ (S _ _ q)
  .rw[aJ n];exact S2 _ _ (kp b' o n q)
  .rw[lT];by_cases e:iV g'=iV g
   .rw[if_pos e,xh e,M5 nd hg]
   .rw[if_neg e];refine eg g' ?_;rw[QX,hg] at mg;rcases Q8.mp mg with m|m
    .exact m
    .exact absurd (by rw[QY.mp m]) e
 .rintro σ H2 ⟨de,u2,u3,rfl,S,kp,ed,ek,eg⟩;rw[lx,QM (QH _)] at eg;obtain⟨a0,y1,y2,rfl,ha0,_,r2⟩:=iO (rv.same S);obtain⟨a,zs,rfl,ha,rz⟩:=r2.b5;cbv;refine aF (SqT.of ha0) (v:=.ref a) rfl ?_;refine MD (SqT.of ha) ?_;refine Bu hl ha rz (λH3 z t Q' mt S3 rt q=>?_) λD H' A=>k D H' (ot S A)
  obtain⟨b,w1,w2,w3,rfl,hb,q1,q2,_⟩:=jU rt;obtain⟨b1,rfl,hb1⟩:=bM q1;obtain⟨b2,rfl,hb2⟩:=bM q2;have mm:=dF (hs:=[]) mt;cbv;refine aF (SqT.of hb) (v:=.ref b1) rfl ?_;refine⟨d,_,rfl,(by have:=DGet.t (S3 _ _ ed) (k:=iV t.fr) (b:=b1) (by rw[kM];exact hb1);rw[eg t.fr mm.1] at this;exact this),?_⟩;cbv;refine aF (SqT.of hb) (v:=.ref b2) rfl ?_;refine⟨d,_,rfl,(by have:=DGet.t (S3 _ _ ed) (k:=iV t.to) (b:=b2) (by rw[kM];exact hb2);rw[eg t.to mm.2] at this;exact this),?_⟩;cbv;exact⟨aQ,q⟩
def cw{α:Type}[DecidableEq α]:∀{l hs:List α},l.Nodup->(∀x∈l,x∈hs)->l.length<=hs.length
 |[],_,_,_=>RL _
 |x :: l,hs,nd,sub=>by
  rw[RH] at nd;have hx:=sub x QK
  have h:=cw (l:=l) (hs:=hs.erase x) nd.2 λy hy=>by
   refine(List.mem_erase_of_ne ?_).mpr (sub y (QL _ hy));rintro rfl;exact nd.1 hy
  rw[List.length_erase_of_mem hx] at h
  have:=X8 hx
  rw[Ru];lia
inductive Rch (es:List (Nat×Nat)) (a:Nat):Nat->Prop
 |refl:Rch es a a
 |step {x y:Nat}:Rch es a x->(x,y)∈es->Rch es a y
abbrev Cl(es:List (Nat×Nat))(S:List Nat):Prop:=∀e∈es,e.1∈S->e.2∈S
def Ld{S:List Nat}{a:Nat}(ha:a∈S)(c:Cl es S)(h:Rch es a b):b∈S:=by
 induction h with
 |refl=>exact ha
 |step _ m ih=>exact c _ m ih
abbrev dN(n:Nat):Dat:=.int (n:Int)
def BC{K:Fg}(h:Rz K H v (dP q)):∃a:Addr,v=.ref a/\H a=some (.tup [.int (q.1:Int),.int (q.2:Int)]):=by
 obtain⟨a,xs,e,ha,r⟩:=h.b5;cases RpL.ints_of (ns:=[(q.1:Int),(q.2:Int)]) r;exact⟨a,e,ha⟩
abbrev ui(K:Fg):Sp:=λvs H Q _=>∃(v:V) (ws:List Str) (ts:List Tn) (n:Nat),vs=[v,.int (n:Int)]/\Rz K H v (dV ws ts)/\ts.length<=100/\n<(aH ts).length/\∀H',Same H H'->Q .non H'
abbrev yh(K:Fg):TS:=(aS (Cj (gb (tB (aD i7 [] E0 (ae (aa 1) ag)))) (gb (aR (ua OA wM (tC (.int 0)) (aa 1) (bo (bW K) (ae (aD (dh K) [] E0 (ae (aa 0) ag)) ag))))))
 ia
 aV)
def Iq{K:Fg}:ρ 2 (ui K) (yh K):=by
 fail "R";obtain⟨v,ws,ts,n,rfl,rv,hl,ln,k⟩:=h;rw[L2.aP hN];walk_at "t";unfold yh;cbv;refine⟨(n:Int),rfl,?_⟩;cbv;refine bb (λ_=>?_) (λz=>absurd z (by lia));cbv;refine⟨v,ws,ts,rfl,rv,hl,λp H1 A1=>?_⟩;obtain⟨xs,hp,lx,_⟩:=A1.sq;rw[Qx] at lx;cbv;refine b7 hp ?_;cbv;refine eN (λz=>absurd z (by lia)) (λ_=>?_);cbv;exact k H1 A1.same
structure RI (es:List (Nat×Nat)) (a n:Nat) (H3:Hp) (rd ct:Addr) (cs:List Nat) (H:Hp):Prop where
 same:Same H3 H
 dict:∃de:List (bf×V),H rd=some (.dK de)/\de.length<=cs.length/\(∀c:Nat,(bO de (.inl (c:Int))).isSome=true↔c∈cs)/\∀k v,bO de k=some v->∃q xs,v=.ref q/\H q=some (.lst xs)/\q≠ct/\xs.length<=cs.length
 come:H ct=some (.lst (cs.map λc:Nat=>V.int (c:Int)))
 nd:cs.Nodup
 lt:∀c∈cs,c<n
 one:a∈cs
 rch:∀c∈cs,Rch es a c
def RI.on(R:RI es a n H3 rd ct cs H)(S:Same H H'):RI es a n H3 rd ct cs H':=by
 obtain⟨de,h1,h2,h3,h4⟩:=R.dict;refine⟨R.same.trans S,⟨de,S _ _ h1,h2,h3,λk v e=>?_⟩,S _ _ R.come,R.nd,R.lt,R.one,R.rch⟩;obtain⟨q,xs,e1,e2,e3⟩:=h4 k v e;exact⟨q,xs,e1,S _ _ e2,e3⟩
def RI.len(R:RI es a n H3 rd ct cs H):cs.length<=n:=by
 have:=cw (hs:=QR n) R.nd λx hx=>Rb.mpr (R.lt x hx)
 rwa [Ra] at this
def RI.more{de:List (bf×V)}{y:Nat}(R:RI es a n H3 rd ct cs H)(nr:H3 rd=none)(nc:H3 ct=none)(ed:H rd=some (.dK de))(ny:y∉cs)(ly:y<n)(ry:Rch es a y)
  (hp:H p=some (.lst xs)) (npc:p≠ct) (lxs:xs.length<=cs.length+1) :
  RI es a n H3 rd ct (cs++[y]) (upd (upd H rd (.dK (ci de (.inl (y:Int)) (.ref p)))) ct (.lst ((cs.map λc:Nat=>V.int (c:Int))++[.int (y:Int)]))):=by
 obtain⟨kvs',h1,h2,h3,h4⟩:=R.dict;rw[ed] at h1;cases h1;have ncr:rd≠ct:=kE ed R.come (by intro z;cases z);have lp:=cj de (Vc (y:Int):bf) (.ref p);refine⟨λb o q=>?_,⟨_,by rw[aJ ncr];exact aj,by rw[QT];simp only[RY];lia,λc=>?_,λk v e=>?_⟩,by rw[aj,QJ];rfl,cG R.nd ny,cr R.lt ly,Rc _ R.one,cr R.rch ry⟩
 .rw[aJ (ay q nc),aJ (ay q nr)];exact R.same b o q
 .rw[lT,Q8,QY];by_cases e:c=y
  .subst e;simp
  .rw[if_neg (show ¬ ((Vc (c:Int):bf)=Vc (y:Int)) from λz=>e (Vu (VE z))),h3 c];simp[e]
 .rw[lT] at e
  have keep:∀q ys,H q=some (.lst ys)->q≠ct->upd (upd H rd (.dK (ci de (.inl (y:Int)) (.ref p)))) ct (.lst ((cs.map λc:Nat=>V.int (c:Int))++[.int (y:Int)])) q=some (.lst ys):=λq ys hq nq=>by
   rw[aJ nq,aJ (kE hq ed (by intro z;cases z))];exact hq
  rw[QT];simp only[RY];by_cases ek:k=.inl (y:Int)
  .rw[if_pos ek] at e;exact⟨p,xs,(Q7 e).symm,keep p xs hp npc,npc,lxs⟩
  .rw[if_neg ek] at e;obtain⟨q,ys,e1,e2,e3,e4⟩:=h4 k v e;exact⟨q,ys,e1,keep q ys e2 e3,e3,by lia⟩
abbrev yF(K:Fg):Sp:=λvs H Q _=>∃(v:V) (ws:List Str) (ts:List Tn) (a b:Nat),vs=[v,.int (a:Int),.int (b:Int)]/\Rz K H v (dV ws ts)/\ts.length<=100/\a<(aH ts).length/\b<(aH ts).length /\
 (Rch (aq ts) a b->∀(p:Addr) (H':Hp),Same H H'->Q (.ref p) H')/\(¬ Rch (aq ts) a b->∀H',Same H H'->Q .non H')
nonrec abbrev CQ(K:Fg):TS:=(aS (mB (aR (ar fV (ar (aE K) (aa 9) (tC (.int 0))) (aa 7))) (tB (rM (ar (aE K) (aa 9) (tC (.int 1))) (aa 4))))
 (am (pB (aa 4) (ar (aE K) (aa 9) (tC (.int 1))) (ar zw (rN (aa 4) (aa 7)) (bR (ae (aa 8) ag))))
 (bz (cZ K "list" aO (aa 5) (ae (ar (aE K) (aa 9) (tC (.int 1))) ag))))
 aV)
nonrec abbrev CP(K:Fg):TS:=(am (h_ (aR (ar wM (aa 6) (bo (bW K) (ae (aa 5) ag))))
 (am (aw (ar (bJ K) (aa 5) (aa 6)) (al 7))
 (am (aW (iM K (ae (aa 3) ag)) (cx K 2 (aX (al 8) (aX (al 9) cy)))
 (CQ K))
 (aw (ar aZ (aa 6) (tC (.int 1))) (al 6)))))
 (aG (yn (aa 4) (aa 2))))
nonrec abbrev CO(K:Fg):TS:=(am (bz (aD (ui K) [] E0 (ae (aa 0) (ae (aa 2) ag))))
 (am (aw (aD (fF K) [] E0 (ae (aa 0) ag)) (al 3))
 (am (aw (Hu [((aa 1),(bR ag))]) (al 4))
 (am (aw (bR (ae (aa 1) ag)) (al 5))
 (am (aw (tC (.int 0)) (al 6))
 (CP K))))))
abbrev xA(K:Fg):TS:=(am (bz (aD (ui K) [] E0 (ae (aa 0) (ae (aa 1) ag))))
 (CO K))
def HY{K:Fg}:ρ 10 (yF K) (xA K):=by
 fail "R";obtain⟨v,ws,ts,a,b,rfl,rv,hl,la,lb,kyes,kno⟩:=h;rw[L2.aP hN];walk_at "t";have hl2:=nP hl;have eo:=bS ts;unfold xA;cbv;refine⟨v,ws,ts,a,rfl,rv,hl,la,λH1 S1=>?_⟩;cbv;refine⟨v,ws,ts,b,rfl,rv.same S1,hl,lb,λH2 S2=>?_⟩;cbv;refine⟨v,ws,ts,rfl,(rv.same S1).same S2,hl,λpe H3 A3=>?_⟩;have S03:=S1.trans (S2.trans A3.same);obtain⟨xs,hpe,rx⟩:=A3.at_;have le:(aq ts).length=ts.length:=by unfold aq;rw[Qx]
 have lx:xs.length=(aq ts).length:=by rw[rx.length,Qx]
 generalize aq ts=es at kyes kno rx lx eo le;generalize (aH ts).length=n at la lb hl2 eo;cbv;intro rd nr;have T1:=ak nr (.dK []);unfold i6;cbv;refine⟨by decide,λq0 nq0=>?_⟩;have T2:=ak nq0 (.lst []);unfold i6;refine⟨T2 _ _ aj,[(.inl (a:Int),.ref q0)],rfl,by show 1<=15;decide,?_⟩;have nq:q0≠rd:=(ay (show upd H3 rd (.dK []) rd=some _ from aj) nq0).symm
 have S4:Same H3 (upd (upd (upd H3 rd (.dK [])) q0 (.lst [])) rd (.dK (dO [] [(.inl (a:Int),.ref q0)]))):=λb' o q=>by
  rw[aJ (ay q nr)];exact T2 _ _ (T1 _ _ q)
 have ed:upd (upd (upd H3 rd (.dK [])) q0 (.lst [])) rd (.dK (dO [] [(.inl (a:Int),.ref q0)])) rd=some (.dK [((.inl (a:Int):bf),.ref q0)]):=aj;have eq0:upd (upd (upd H3 rd (.dK [])) q0 (.lst [])) rd (.dK (dO [] [(.inl (a:Int),.ref q0)])) q0=some (.lst []):=by rw[aJ nq];exact aj
 generalize upd (upd (upd H3 rd (.dK [])) q0 (.lst [])) rd (.dK (dO [] [(.inl (a:Int),.ref q0)]))=H4 at S4 ed eq0 ⊢;cbv;refine⟨gQ,λct nct=>?_⟩;have S5:=ak nct (.lst [.int (a:Int)]);have nc:H3 ct=none:=S4.free nct
 have R0:RI es a n H3 rd ct [a] (upd H4 ct (.lst [.int (a:Int)])):=by
  refine⟨S4.trans S5,⟨_,S5 _ _ ed,by simp,λc=>?_,λk v e=>?_⟩,aj,by simp,λc hc=>by rw[QY.mp hc];exact la,by simp,λc hc=>by rw[QY.mp hc];exact .refl⟩
  .by_cases e:c=a
   .subst e;rw[bF rfl];simp
   .rw[bw (show ¬ (Vc (a:Int):bf)=Vc (c:Int) from λz=>e (Vu (VE z)).symm)];simp[e,t6]
  .by_cases e':(Vc (a:Int):bf)=k
   .rw[bF e'] at e;exact⟨q0,[],(Q7 e).symm,S5 _ _ eq0,ay eq0 nct,by simp⟩
   .rw[bw e',t6] at e;cases e
 generalize upd H4 ct (.lst [.int (a:Int)])=H5 at R0;cbv
 refine iT (λσ H6=>∃(cs:List Nat) (pl:Nat) (u7 u8 u9:Option V),σ=[some v,↥(a:Int),↥(b:Int),⇑pe,⇑rd,⇑ct,↥(pl:Int),u7,u8,u9]/\RI es a n H3 rd ct cs H6/\pl<=cs.length/\∀j<pl,∀x,cs[j]?=some x->∀y,(x,y)∈es->y∈cs)
  (λσ _=>match σ with | [_,_,_,_,_,_,↥pl,_,_,_]=>n-pl.toNat|_=>0) ⟨[a],0,none,none,none,rfl,R0,RL _,λj hj=>absurd hj (SU _)⟩ ?_ ?_
 .rintro σ H6 ⟨cs,pl,u7,u8,u9,rfl,R,lpl,done⟩;have lcs:=R.len;cbv;refine b7 (SqL.of R.come) ?_;rw[Qx];cbv;refine bb (λlt=>?_) (λge=>?_)
  .have lt':pl<cs.length:=by lia
   have ehere:cs[pl]?=some cs[pl]:=Qy lt';have mhere:=Ry lt';generalize cs[pl]=hr at ehere mhere;cbv;refine bU (SqL.of R.come) (v:=.int (hr:Int)) (aI (by rw[QD,ehere];rfl)) ?_;cbv;refine⟨pe,xs,rfl,SqL.of (R.same _ _ hpe),?_⟩
   refine dG (xs:=xs) (λi σ H7=>∃(ex:List Nat) (w8 w9:Option V),σ=[some v,↥(a:Int),↥(b:Int),⇑pe,⇑rd,⇑ct,↥(pl:Int),↥(hr:Int),w8,w9]/\RI es a n H3 rd ct (cs++ex) H7/\∀j<i,∀y,es[j]?=some (hr,y)->y∈cs++ex)
    ⟨[],u8,u9,rfl,by rw[Tx];exact R,λj hj=>absurd hj (SU _)⟩ ?_ ?_ ?_
   .rintro i σ H7 _ ⟨ex,w8,w9,rfl,R7,_⟩;exact SqL.of (R7.same _ _ hpe)
   .rintro i z σ H7 T hz ⟨ex,w8,w9,rfl,R7,dn⟩ nT;obtain⟨dd,g1,g2⟩:=rx.get hz;rw[QD] at g1;obtain⟨e,he,rfl⟩:=QG.mp g1;obtain⟨x,y⟩:=e;have mem:(x,y)∈es:=QI he;have oe:=eo _ mem;have S8:=ak nT (.tup [.int (i:Int),z]);have R8:=R7.on S8;obtain⟨pb,rfl,hpb⟩:=BC ((g2.same R7.same).same S8)
    have keep:(x=hr->y∈cs++ex)->∀j<i+1,∀y',es[j]?=some (hr,y')->y'∈cs++ex:=λq j hj y' ge=>by
     by_cases ji:j<i
     .exact dn j ji y' ge
     .have:j=i:=by lia
      rw[this,he] at ge;have e1:=Q7 ge;have e2:x=hr:=congrArg Ws e1;have e3:y=y':=congrArg VS e1;rw[<- e3];exact q e2
    have hT:upd H7 T (.tup [.int (i:Int),.ref pb]) T=some (.tup [.int (i:Int),.ref pb]):=aj;refine bP (SqT.of aj) rfl ?_;cbv;generalize upd H7 T (.tup [.int (i:Int),.ref pb])=H8 at S8 R8 hpb hT ⊢;refine aF (SqT.of hpb) (v:=.int (x:Int)) rfl ?_;cbv;refine bb (λex1=>?_) (λex1=>?_)
    .have exh:x=hr:=Vu ex1;cbv;refine aF (SqT.of hpb) (v:=.int (y:Int)) rfl ?_;cbv;obtain⟨de,d1,d2,d3,d4⟩:=id R8.dict;refine⟨rd,_,rfl,(DGet.k d1:DGet H8 rd (kV (.inl (y:Int))) _),?_⟩;by_cases my:y∈cs++ex
     .rw[(d3 y).mpr my];cbv;exact⟨ex,_,_,rfl,R8,keep λ_=>my⟩
     .have nv:(bO de (.inl (y:Int))).isSome=false:=by
       cases hh:(bO de (.inl (y:Int):bf)).isSome with
       |false=>rfl
       |true=>exact absurd ((d3 y).mp hh) my
      rw[nv];cbv;obtain⟨vh,evh⟩:=Vr.mp ((d3 hr).mpr (Rc _ mhere));obtain⟨q,zs,rfl,hq,nqc,lz⟩:=d4 _ _ evh;have lall:=R8.len;refine⟨rd,_,rfl,(by have:=(DGet.k d1:DGet H8 rd (kV (.inl (hr:Int))) _);rw[evh] at this;exact this),?_⟩;cbv;refine⟨gQ,λp1 np1=>?_⟩;have S9:=ak np1 (.lst [.int (i:Int)]);have hp1:upd H8 p1 (.lst [.int (i:Int)]) p1=some (.lst [.int (i:Int)]):=aj;have R9:=R8.on S9;have d9:=S9 _ _ d1;have hq9:=S9 _ _ hq;have hpb9:=S9 _ _ hpb;generalize upd H8 p1 (.lst [.int (i:Int)])=H9 at S9 hp1 R9 d9 hq9 hpb9 ⊢;refine⟨q,p1,zs,_,rfl,rfl,hq9,hp1,by rw[show sizeLine=16777216 by decide];simp only[RY];lia,λp2 np2=>?_⟩;have S10:=ak np2 (.lst (zs++[.int (i:Int)]));have hp2:upd H9 p2 (.lst (zs++[.int (i:Int)])) p2=some (.lst (zs++[.int (i:Int)])):=aj;have R10:=R9.on S10;have d10:=S10 _ _ d9;have hpb10:=S10 _ _ hpb9;have np2c:p2≠ct:=(ay R9.come np2).symm;generalize upd H9 p2 (.lst (zs++[.int (i:Int)]))=H10 at S10 hp2 R10 d10 hpb10 ⊢;cbv;refine aF (SqT.of hpb10) (v:=.int (y:Int)) rfl ?_;refine⟨rd,_,rfl,(DPut.k d10 (av (by lia)):DPut H10 rd (kV (.inl (y:Int))) _ _),?_⟩;have ncr:ct≠rd:=(kE d10 R10.come (by intro z;cases z)).symm;have npr:pb≠rd:=kE hpb10 d10 (by intro z;cases z);have hc11:upd H10 rd (.dK (ci de (.inl (y:Int)) (.ref p2))) ct=some (.lst ((cs++ex).map λc:Nat=>V.int (c:Int))):=by rw[aJ ncr];exact R10.come
      have R11:=R10.more (y:=y) (p:=p2) (xs:=zs++[.int (i:Int)]) nr nc d10 my oe.2 (.step (R8.rch x (exh ▸ Rc _ mhere)) mem) hp2 np2c (by rw[QT];simp only[RY];lia);cbv;refine⟨wv hc11,?_⟩;cbv;refine aF (SqT.of (by rw[aJ npr];exact hpb10)) (v:=.int (y:Int)) rfl ?_;refine EO ?_;refine ES hc11 (av (by rw[Qx];lia)) ?_;cbv;refine⟨ex++[y],_,_,rfl,by rw[<- R_];exact R11,λj hj y' ge=>?_⟩;rw[<- R_];by_cases ji:j<i
      .exact Rc _ (dn j ji y' ge)
      .have:j=i:=by lia
       rw[this,he] at ge;have e3:y=y':=congrArg VS (Q7 ge);exact Q6 _ (by rw[e3];exact QY.mpr rfl)
    .cbv;exact⟨ex,_,_,rfl,R8,keep λz=>absurd (by rw[z]) ex1⟩
   .rintro σ H7 ⟨ex,w8,w9,rfl,R7,dn⟩;cbv;refine⟨⟨cs++ex,pl+1,_,_,_,rfl,R7,by rw[QT];lia,λj hj x gx y my=>?_⟩,?_⟩
    .by_cases jp:j<pl
     .rw[RV (by lia)] at gx;exact Rc _ (done j jp x gx y my)
     .have:j=pl:=by lia
      rw[this,RV lt',ehere] at gx;cases Q7 gx;obtain⟨m,hm,ge⟩:=Sh.mp my;exact dn m (by lia) y (by rw[Qy hm,ge])
    .show n-((pl:Int)+1).toNat<n-((pl:Int)).toNat;lia
  .have epl:pl=cs.length:=by lia
   have cl:Cl es cs:=λe he m1=>by
    obtain⟨j,hj,gj⟩:=Sh.mp m1;exact done j (by lia) e.1 (by rw[Qy hj,gj]) e.2 he
   obtain⟨de,d1,d2,d3,d4⟩:=id R.dict;cbv;refine⟨rd,rfl,.inl ⟨de,.inl d1⟩,?_⟩;cbv;refine⟨_,(DGet.k d1:DGet H6 rd (kV (.inl (b:Int))) _),?_⟩;cases hv:bO de (.inl (b:Int)) with
   |none =>
    refine kno (λr=>?_) H6 (S03.trans R.same)
    have:=(d3 b).mpr (Ld R.one cl r)
    rw[hv] at this;cases this
   |some w =>
    obtain⟨q,zs,rfl,_⟩:=d4 _ _ hv;exact kyes (R.rch b ((d3 b).mp (by rw[hv];rfl))) q H6 (S03.trans R.same)
 .rintro σ H' R R' h ⟨w1,e1,w2,e2,p,ys,e3,e4,i,j,e5,e6,kk,e7,q⟩;exact⟨w1,e1,w2,e2,p,ys,e3,e4,i,j,e5,e6,kk,e7,h _ _ q⟩
end Ti
namespace Sz
open PySem L2 Fr G1 Sm Vs G2 Rk
open PySem.W (Dat kqdOk)
abbrev dL(r:List Int):Dat:=.list (r.map Rn)
def wF{K:Fg}(h:Rp K S H v (dL r)):∃b,v=.ref b/\S b/\H b=some (.lst (r.map V.int)):=by
 obtain⟨b,xs,rfl,s,hb,rx⟩:=Rp.kU h;rw[RpL.ints_of rx] at hb;exact⟨b,rfl,s,hb⟩
def wE{K:Fg}{S:Addr->Prop}{H:Hp}{r:List Int}(s:S b)(h:H b=some (.lst (r.map V.int))):Rp K S H (.ref b) (dL r):=.lst s h (RpL.ints r)
abbrev Cp(n:Nat)(R:List (List Int)):Prop:=∀r∈R,∀c∈r,c.natAbs<2 ^ n
def pG{n:Nat}{r:List Int}(h:∀c∈r,c.natAbs<2 ^ n)(p:Nat):(pt r p).natAbs<2 ^ n:=by
 unfold pt;rw[Qz];cases e:r[p]? with
 |none=>exact Zac n
 |some c=>exact h c (QI e)
def BK{n:Nat}{by_ r:List Int}(hb:∀c∈by_,c.natAbs<2 ^ n)(hr:∀c∈r,c.natAbs<2 ^ n):∀c∈kh by_ p r,c.natAbs<2 ^ (2*n+1):=by
 intro c hc;unfold kh at hc;obtain⟨i,hi⟩:=RA hc;rw[U3] at hi;cases e1:r[i]? with
 |none=>rw[e1] at hi;simp at hi
 |some one =>
  cases e2:by_[i]? with
  |none=>rw[e1,e2] at hi;simp at hi
  |some iU =>
   rw[e1,e2] at hi;have hi':=Q7 hi;subst hi'
   have m1:(one*pt by_ p).natAbs<2 ^ n*2 ^ n:=by
    rw[RM];exact Wa (hr one (QI e1)) (pG hb p)
   have m2:(pt r p*iU).natAbs<2 ^ n*2 ^ n:=by
    rw[RM];exact Wa (pG hr p) (hb iU (QI e2))
   have e:2 ^ (2*n+1)=2 ^ n*2 ^ n+2 ^ n*2 ^ n:=by
    rw[SJ,Nat.two_mul n,SO];lia
   rw[e];generalize one*pt by_ p=x at m1 ⊢;generalize pt r p*iU=y at m2 ⊢;generalize 2 ^ n*2 ^ n=z at m1 m2 ⊢;show(x-y).natAbs<z+z;lia
def F9{n:Nat}{x y:Int}(h:n<=20000)(hx:x.natAbs<2 ^ n)(hy:y.natAbs<2 ^ n):oF x y:=⟨Re hx (QW (by decide) h),Re hy (QW (by decide) h)⟩
def tL{r:List Int}{i:Nat}(h:i<r.length):om (r.map V.int) ((i:Nat):Int)=some (V.int (pt r i)):=by
 refine aI ?_;unfold pt;rw[QD,Qz,Qy h];rfl
abbrev Nu(t:Tn):List Int:=Ve (λa b=>b-a) t.fr t.to
end Sz
namespace Sf
open Rk Sz
abbrev fp(r:List Int):Option Nat:=r.findIdx? (λx=>decide (x≠0))
def cW{i:Nat}(h:fp r=some i):i<r.length/\pt r i≠0/\∀j,j<i->pt r j=0:=by
 unfold fp at h;rw[Uj] at h;obtain⟨l,h1,h2⟩:=h;refine⟨l,?_,λj hj=>?_⟩
 .unfold pt;rw[Qz,Qy l];simpa using h1
 .have:=h2 j hj
  unfold pt;rw[Qz,Qy (by lia)];simpa using this
def Bk(h:fp r=none)(q:Nat):pt r q=0:=by
 unfold fp at h;rw[Ul] at h;unfold pt;rw[Qz];cases e:r[q]? with
 |none=>rfl
 |some c=>simpa using h c (QI e)
abbrev cM(r:List Int):Int:=r.foldl Gd.gd 0
def Nj(a b:Int):Gd.gd a b∣a/\Gd.gd a b∣b:=⟨XO ..,Xk ..⟩
def i3:∀(r:List Int) (g:Int),r.foldl Gd.gd g∣g/\∀x∈r,r.foldl Gd.gd g∣x
 |[],g=>⟨Int.dvd_refl g,by simp⟩
 |y :: r,g=>by
  obtain⟨h1,h2⟩:=i3 r (Gd.gd g y);obtain⟨d1,d2⟩:=Nj g y;refine⟨Int.dvd_trans h1 d1,λx hx=>?_⟩;rcases Q5.mp hx with rfl|hx
  .exact Int.dvd_trans h1 d2
  .exact h2 x hx
def Bf(h:pt r i≠0):cM r≠0:=by
 intro z;unfold pt at h;rw[Qz] at h;cases e:r[i]? with
 |none=>rw[e] at h;exact h rfl
 |some c =>
  rw[e] at h
  have:=(i3 r 0).2 c (QI e)
  unfold cM at z;rw[z] at this;exact h (Int.zero_dvd.mp this)
abbrev dY(r:List Int)(i:Nat):Int:=if pt r i<0 then -cM r else cM r
abbrev bB(r:List Int):List Int:=match fp r with
 |none=>r
 |some i=>r.map λx=>x.fdiv (dY r i)
def vf(h:pt r i≠0):dY r i≠0:=by
 have:=Bf h
 unfold dY;split <;> lia
def tu(r:List Int)(i:Nat):∀x∈r,dY r i∣x:=λx hx=>by
 have:=(i3 r 0).2 x hx
 unfold dY;split
 .exact(Xl).mpr this
 .exact this
def dB(r:List Int):(bB r).length=r.length:=by
 unfold bB;split
 .rfl
 .rw[Qx]
def jI(r:List Int):∃g:Int,g≠0/\∀q,g*pt (bB r) q=pt r q:=by
 unfold bB;split
 .exact⟨1,by decide,λq=>Va _⟩
 .rename_i i e
  have:=(cW e).2.1
  refine⟨dY r i,vf this,λq=>?_⟩;unfold pt;rw[Qz,QD,Qz];cases e2:r[q]? with
  |none=>exact TZ _
  |some c=>exact Wu (tu r i c (QI e2))
def uM{n:Nat}{r:List Int}(h:∀c∈r,c.natAbs<2 ^ n):∀c∈bB r,c.natAbs<2 ^ n:=by
 unfold bB;split
 .exact h
 .rename_i i e;intro c hc;obtain⟨x,hx,rfl⟩:=QU.mp hc;exact Q4 (Gd.nU (vf (cW e).2.1) (tu r i x hx)) (h x hx)
abbrev cR(row s:List Int):List Int:=bB (kh s ((fp s).getD 0) row)
abbrev aY(row:List Int)(S:List (List Int)):List Int:=S.foldl cR row
abbrev bG(n i:Nat):List Int:=(QR n).map λo=>if o=i then 1 else 0
structure qS where
 stairs:List (List Int)
 free:List Nat
 makers:List (List Int)
abbrev cI(n:Nat)(st:qS)(i:Nat)(r:List Int):List Int:=aY (r++bG n i) st.stairs
abbrev jo(n:Nat)(st:qS)(i:Nat)(r:List Int):qS :=
 if (fp (cI n st i r)).getD (r.length+n)<r.length then ⟨st.stairs++[cI n st i r],st.free++[i],st.makers⟩
 else ⟨st.stairs,st.free,st.makers++[bB ((cI n st i r).drop r.length)]⟩
abbrev y6(R:List (List Int)):Nat->qS
 |0=>⟨[],[],[]⟩
 |i+1=>jo R.length (y6 R i) i (R.getD i [])
abbrev rowsOf(R:List (List Int))(ix:List Nat):List (List Int):=ix.map λi=>R.getD i []
open Classical in
abbrev qp (R:List (List Int)):Nat->List Nat
 |0=>[]
 |i+1=>if d5 (rowsOf R (qp R i)++[R.getD i []]) then qp R i++[i] else qp R i
open Classical in
def AZ{R:List (List Int)}{r:List Int}(e:R.getD i []=r)(h:d5 (rowsOf R (qp R i)++[r])):qp R (i+1)=qp R i++[i]:=by
 subst e;exact if_pos h
open Classical in
def Gq{R:List (List Int)}{r:List Int}(e:R.getD i []=r)(h : ¬ d5 (rowsOf R (qp R i)++[r])):qp R (i+1)=qp R i:=by
 subst e;exact if_neg h
def eE{s:List Int}:pt (s.take w) q=if q<w then pt s q else 0:=by
 unfold pt;rw[Qz,Zb,Qz];split
 .rfl
 .rfl
def vi{w q:Nat}:∀(d:List Int) (S:List (List Int)),bE d (S.map (VF w)) q=if q<w then bE d S q else 0
 |[],S=>by cases S <;> simp[bE]
 |x :: d,[]=>by simp[bE]
 |x :: d,s :: S=>by
  have ih:=vi (w:=w) (q:=q) d S;show x*pt (s.take w) q+bE d (S.map (VF w)) q=_;rw[ih,eE];split
  .rfl
  .simp
def kN{w:Nat}:∀{S:List (List Int)} {ps:List Nat},cB S ps->(∀p∈ps,p<w)->cB (S.map (VF w)) ps
 |_,_,.nil,_=>.nil
 |_,_,.cons h1 h2 r,hp=>.cons (by rw[eE,if_pos (hp _ QK)];exact h1) (λt ht=>by
   obtain⟨u,hu,rfl⟩:=QU.mp ht
   rw[eE,if_pos (hp _ QK)]
   exact h2 u hu) (kN r λp hpp=>hp p (QL _ hpp))
def qz{w:Nat}(c:Clrd S ps x x')(hp:∀p∈ps,p<w):Clrd (S.map (VF w)) ps (x.take w) (x'.take w):=by
 obtain⟨d,c0,G,ld,hc,hG,e⟩:=c.made;refine⟨⟨d,c0,G,by rw[ld,Qx],hc,hG,λq=>?_⟩,λq hq=>by rw[eE,if_pos (hp q hq)];exact c.nought q hq,by rw[Q3,Q3,c.len]⟩;rw[eE,eE,vi];split
 .exact e q
 .simp
def Fe{x:List Int}{L:Nat}(lx:x.length=L):∀{S:List (List Int)} {ps:List Nat},cB S ps->(∀s∈S,s.length=L)->S.map fp=ps.map some->Clrd S ps x (aY x S):=by
 have go:∀(T:List (List Int)) (qs:List Nat) (S:List (List Int)) (ps:List Nat) (y:List Int),Clrd S ps x y->S.length=ps.length->cB (S++T) (ps++qs)->(∀s∈T,s.length=L)->T.map fp=qs.map some->Clrd (S++T) (ps++qs) x (aY y T):=by
  intro T
  induction T with
  |nil =>
   intro qs S ps y c _ _ _ e;cases qs with
   |nil=>simpa[aY] using c
   |cons=>simp at e
  |cons s T ih =>
   intro qs S ps y c l st hl e;cases qs with
   |nil=>simp at e
   |cons p qs =>
    obtain⟨e1,e2⟩:=UG e;rw[show S++s :: T=(S++[s])++T by simp,show ps++p :: qs=(ps++[p])++qs by simp] at st ⊢
    have st':cB (S++[s]) (ps++[p]):=by
     have:∀(T:List (List Int)) {S:List (List Int)} {qs ps:List Nat},S.length=ps.length->cB (S++T) (ps++qs)->cB S ps:=by
      intro T S
      induction S with
      |nil =>
       intro qs ps l _
       have:ps=[]:=SK.mp l.symm
       subst this;exact .nil
      |cons t S ihS =>
       intro qs ps l h;cases ps with
       |nil=>simp at l
       |cons q ps =>
        cases h with
        |cons h1 h2 r=>exact .cons h1 (λu hu=>h2 u (Rc _ hu)) (ihS (by simpa using l) r)
     exact this T (by simp[l]) st
    obtain⟨g,hg,eg⟩:=jI (kh s ((fp s).getD 0) y);have ls:s.length=L:=hl s QK;have ly:y.length=s.length:=by rw[c.len,lx,ls]
    have lz:(cR y s).length=y.length:=by
     unfold cR;rw[dB,nZ ly,ly]
    refine ih qs (S++[s]) (ps++[p]) (cR y s) (Clrd.snoc c st' l ly hg lz λq=>?_) (by simp[l]) st (λu hu=>hl u (QL _ hu)) e2
    have:=eg q
    rw[e1] at this;unfold cR;rw[e1];exact this
 intro S ps st hl e
 have:=go S ps [] [] x Clrd.start rfl st hl e
 simpa using this
abbrev bits(b k:Nat):Nat:=(b+1)*2 ^ k-1
def qF(b k:Nat):bits b (k+1)=2*bits b k+1:=by
 unfold bits;have pos:0<(b+1)*2 ^ k:=RB (WN _) (Zac k)
 have:(b+1)*2 ^ (k+1)=2*((b+1)*2 ^ k):=by rw[SJ,<- RF,Se]
 lia
def gA{k m:Nat}(h:k<=m):bits b k<=bits b m:=by
 unfold bits
 have:=Rh (b+1) (QW (by decide:0<2) h)
 lia
abbrev Kj(b:Nat)(S:List (List Int)):Prop:=∀k s,S[k]?=some s->∀c∈s,c.natAbs<2 ^ bits b k
def f9{b:Nat}{x:List Int}(hx:∀c∈x,c.natAbs<2 ^ b){S:List (List Int)}(hS:Kj b S):∀k,k<=S.length->∀c∈aY x (S.take k),c.natAbs<2 ^ bits b k
 |0,_=>by simpa[aY,bits] using hx
 |k+1,h=>by
  have ih:=f9 hx hS k (by lia);have lk:k<S.length:=by lia
  rw[QX,Qy lk];show ∀c∈(S.take k++[S[k]]).foldl cR x,c.natAbs<2 ^ bits b (k+1);rw[SY];show ∀c∈cR (aY x (S.take k)) S[k],c.natAbs<2 ^ bits b (k+1);rw[qF];exact uM (BK (hS k _ (Qy lk)) ih)
def uC{w j:Nat}{r:List Int}(lr:r.length=w):pt (r++bG n i) (w+j)=if j<n/\j=i then 1 else 0:=by
 unfold pt bG;rw[Qz,R4 (by lia),lr,show w+j-w=j by lia,QD];by_cases h:j<n
 .rw[RG h];by_cases e:j=i
  .simp[e,e ▸ h]
  .simp[e]
 .rw[RD (by simpa using h)];simp[h]
def c9:∀{S:List (List Int)},(∀s∈S,pt s q=0)->bE d S q=0:=by
 induction d with
 |nil=>intro S _;cases S <;> rfl
 |cons x d ih =>
  intro S h;cases S with
  |nil=>rfl
  |cons s S =>
   show x*pt s q+bE d S q=0;rw[h s QK,ih λt ht=>h t (QL _ ht)];lia
structure SI (R:List (List Int)) (w b i:Nat) (st:qS):Prop where
 sta:∃ps,cB st.stairs ps/\(∀p∈ps,p<w)/\st.stairs.map fp=ps.map some/\Eqv (rowsOf R st.free) (st.stairs.map (VF w))
 len:∀s∈st.stairs,s.length=w+R.length
 own:∀s∈st.stairs,∀j,i<=j->pt s (w+j)=0
 cnt:st.stairs.length<=i
 bnd:Kj b st.stairs
 free:st.free=qp R i
 mks:st.makers.length<=i
structure RI (R:List (List Int)) (w b i:Nat) (st:qS) (r rest:List Int):Prop where
 len:rest.length=w+R.length
 ne:∃q,fp rest=some q/\q<=w+i
 bnd:∀c∈rest,c.natAbs<2 ^ bits b st.stairs.length
 own:∀j,i+1<=j->pt rest (w+j)=0
 free:d5 (rowsOf R (qp R i)++[r])↔∃q,fp rest=some q/\q<w
def HP{st:qS}{r:List Int}(I:SI R w b i st)(hb:1<=b)(hi:i<R.length)(lr:r.length=w)(br:∀c∈r,c.natAbs<2 ^ b) :
  RI R w b i st r (cI R.length st i r)/\∃ps,cB st.stairs ps/\(∀p∈ps,p<w)/\st.stairs.map fp=ps.map some/\Eqv (rowsOf R st.free) (st.stairs.map (VF w))/\Clrd st.stairs ps (r++bG R.length i) (cI R.length st i r):=by
 obtain⟨ps,s1,s2,s3,s4⟩:=I.sta;have lx:(r++bG R.length i).length=w+R.length:=by unfold bG;rw[QT,Qx,Ra,lr]
 have C:=Fe lx s1 I.len s3
 have hx:∀c∈r++bG R.length i,c.natAbs<2 ^ b:=by
  intro c hc;rcases Q8.mp hc with m|m
  .exact br c m
  .unfold bG at m;obtain⟨o,_,rfl⟩:=QU.mp m
   have:2 ^ 1<=2 ^ b:=QW (by decide) hb
   split <;> lia
 have hbn:=f9 hx I.bnd st.stairs.length (QH _);rw[Sa] at hbn;obtain⟨d,c,G,ld,hc,hG,e⟩:=C.made
 have at_i:pt (cI R.length st i r) (w+i)≠0:=by
  intro z;have e1:=e (w+i);have z':pt (aY (r++bG R.length i) st.stairs) (w+i)=0:=z;rw[z',uC lr,c9 λs hs=>I.own s hs i (QH _),if_pos ⟨hi,rfl⟩] at e1;lia
 have fq:∃q,fp (cI R.length st i r)=some q/\q<=w+i:=by
  cases f:fp (cI R.length st i r) with
  |none=>exact absurd (Bk f (w+i)) at_i
  |some q =>
   refine⟨q,rfl,?_⟩;by_cases l:q<=w+i
   .exact l
   .exact absurd ((cW f).2.2 (w+i) (by lia)) at_i
 have tk:(r++bG R.length i).take w=r:=by rw[Wv (by lia),QM (by lia)]
 refine⟨⟨?_,fq,hbn,λj hj=>?_,?_⟩,ps,s1,s2,s3,s4,C⟩
 .show(aY _ _).length=_;rw[C.len,lx]
 .have e1:=e (w+j);rw[uC lr,c9 λs hs=>I.own s hs j (by lia),if_neg (by lia)] at e1
  have:G*pt (cI R.length st i r) (w+j)=0:=by
   show G*pt (aY (r++bG R.length i) st.stairs) (w+j)=0;rw[e1];lia
  exact(Sq.mp this).resolve_left hG
 .rw[<- I.free]
  have:=BJ s4 (kN s1 s2) (qz C s2)
  rw[tk] at this;rw[this];constructor
  .rintro⟨q,hq⟩;rw[eE] at hq;split at hq
   .rename_i lq;obtain⟨q',f1,f2⟩:=fq;refine⟨q',f1,?_⟩;by_cases l:q'<w
    .exact l
    .exact absurd ((cW f1).2.2 q (by lia)) hq
   .exact absurd rfl hq
  .rintro⟨q,f1,f2⟩;refine⟨q,?_⟩;rw[eE,if_pos f2];exact(cW f1).2.1
def HH{st:qS}{r:List Int}(I:SI R w b i st)(hb:1<=b)(hr:R[i]?=some r)(lr:r.length=w)(br:∀c∈r,c.natAbs<2 ^ b):SI R w b (i+1) (jo R.length st i r):=by
 have hi:i<R.length:=(QC.mp hr).1;obtain⟨Y,ps,s1,s2,s3,s4,C⟩:=HP I hb hi lr br;have er:R.getD i []=r:=by rw[Qz,hr];rfl
 unfold jo;generalize hz:cI R.length st i r=z at Y C;obtain⟨q,f1,f2⟩:=Y.ne;rw[f1];show SI R w b (i+1) (if q<r.length then _ else _);split
 .rename_i lq;rw[lr] at lq;have fr:d5 (rowsOf R (qp R i)++[r]):=Y.free.mpr ⟨q,f1,lq⟩;have tk:(r++bG R.length i).take w=r:=by rw[Wv (by lia),QM (by lia)]
  refine⟨⟨ps++[q],s1.snoc C.nought (cW f1).2.1,λp hp=>?_,?_,?_⟩,λs hs=>?_,λs hs j hj=>?_,?_,λk s hk=>?_,?_,Xm I.mks⟩
  .rcases Q8.mp hp with m|m
   .exact s2 p m
   .rw[QY.mp m];exact lq
  .show(st.stairs++[z]).map fp=_;rw[QJ,QJ,s3];show _++[fp z]=_++[some q]
   rw[f1]
  .show Eqv (rowsOf R (st.free++[i])) ((st.stairs++[z]).map (VF w));unfold rowsOf at s4 ⊢;rw[QJ,QJ];show Eqv (_++[R.getD i []]) (_++[z.take w]);rw[er];obtain⟨d,c,G,ld,hc,hG,e⟩:=(qz C s2).made;rw[tk] at e;exact s4.snoc ld hc hG e
  .rcases Q8.mp hs with m|m
   .exact I.len s m
   .rw[QY.mp m];exact Y.len
  .rcases Q8.mp hs with m|m
   .exact I.own s m j (by lia)
   .rw[QY.mp m];exact Y.own j hj
  .show(st.stairs++[z]).length<=i+1;rw[QT];exact V4 I.cnt
  .have hk':(st.stairs++[z])[k]?=some s:=hk;by_cases l:k<st.stairs.length
   .rw[RV l] at hk';exact I.bnd k s hk'
   .rw[R4 (by lia)] at hk'
    have k0:k=st.stairs.length:=by
     have:=(QC.mp hk').1
     simp at this;lia
    subst k0;rw[X7] at hk';rw[<- Q7 hk'];exact Y.bnd
  .show st.free++[i]=qp R (i+1);rw[I.free];rw[AZ er fr]
 .rename_i lq;rw[lr] at lq
  have nf : ¬ d5 (rowsOf R (qp R i)++[r]):=λh=>by
   obtain⟨q',g1,g2⟩:=Y.free.mp h;rw[f1] at g1;cases g1;exact lq g2
  refine⟨I.sta,I.len,λs hs j hj=>I.own s hs j (by lia),Xm I.cnt,I.bnd,?_,?_⟩
  .show st.free=qp R (i+1);rw[I.free];rw[Gq er nf]
  .show(st.makers++[_]).length<=i+1;rw[QT];exact V4 I.mks
def HI{R:List (List Int)}{w b:Nat}(hw:Wide w R)(hb:1<=b)(br:Cp b R):∀i,i<=R.length->SI R w b i (y6 R i)
 |0,_=>⟨⟨[],.nil,(by simp),rfl,λT=>Iff.rfl⟩,(λs hs=>by cases hs),(λs hs=>by cases hs),QH _,(λk s hk=>by simp[y6] at hk),rfl,QH _⟩
 |i+1,h=>by
  have hr:R[i]?=some (R.getD i []):=by rw[Qz,Qy (by lia)];rfl
  exact HH (HI hw hb br i (by lia)) hb hr (hw _ (QI hr)) (br _ (QI hr))
end Sf
namespace Rw
open PySem L2 Fr G1 Sm Vs G2 Rk Sz Sf
open PySem.W (Dat kqdOk)
abbrev Gx(r:List Int):V:=match fp r with
 |some i=>.int i
 |none=>.non
abbrev jb(K:Fg):Sp:=λvs H Q _=>∃(a:Addr) (r:List Int),vs=[.ref a]/\H a=some (.lst (r.map V.int))/\∀H',Same H H'->Q (Gx r) H'
def PN{i:Nat}{c:Int}(h:∀j,j<i->pt r j=0)(hi:r[i]?=some c)(hc:c≠0):fp r=some i:=by
 unfold fp;rw[Uj];obtain⟨l,e⟩:=QC.mp hi;refine⟨l,by rw[e];simpa using hc,λj hj=>?_⟩
 have:=h j hj
 unfold pt at this;rw[Qz,Qy (by lia)] at this;simpa using this
def PM{r:List Int}(h:∀j,j<r.length->pt r j=0):fp r=none:=by
 unfold fp;rw[Ul];intro x hx;obtain⟨j,l,rfl⟩:=Sh.mp hx
 have:=h j l
 unfold pt at this;rw[Qz,Qy l] at this;simpa using this
abbrev rG(K:Fg):TS:=(am (aW (iM K (ae (aa 0) ag)) (cx K 2 (aX (al 1) (aX (al 2) cy)))
 (aS (aR (ar wL (aa 2) (tC (.int 0))))
 (aG (aa 1))
 aV))
 (aG (tC .non)))
def DW{K:Fg}:ρ 3 (jb K) (rG K):=by
 fail "R";obtain⟨a,r,rfl,ha,k⟩:=h;rw[L2.aP hN];walk_at "t";unfold rG;cbv;refine⟨a,_,rfl,SqL.of ha,?_⟩;refine dG (xs:=r.map V.int) (λi σ H2=>∃u1 u2:Option V,σ=[⇑a,u1,u2]/\Same H H2/\∀j<i,pt r j=0) ⟨none,none,rfl,Same.refl _,λj hj=>absurd hj (SU _)⟩ (by rintro i σ H2 _ ⟨_,_,_,S,_⟩;exact SqL.of (S _ _ ha)) ?_ ?_
 .rintro i z σ H2 T hz ⟨u1,u2,rfl,S,d⟩ nT;rw[QD] at hz;obtain⟨c,hc,rfl⟩:=QG.mp hz;have S2:=S.trans (ak nT (.tup [.int (i:Int),.int c]));have hT:upd H2 T (.tup [.int (i:Int),.int c]) T=some (.tup [.int (i:Int),.int c]):=aj;generalize upd H2 T (.tup [.int (i:Int),.int c])=H3 at S2 hT ⊢;refine bP (SqT.of hT) rfl ?_;cbv;have ec:pt r i=c:=by unfold pt;rw[Qz,hc];rfl
  refine eN (λnz=>?_) (λz=>?_)
  .cbv
   have:=k H3 S2
   unfold Gx at this;rw[PN d hc nz] at this;exact this
  .cbv;refine⟨_,_,rfl,S2,λj hj=>?_⟩;by_cases e:j=i
   .rw[e,ec,z]
   .exact d j (by lia)
 .rintro σ H2 ⟨u1,u2,rfl,S,d⟩;cbv
  have:=k H2 S
  unfold Gx at this;rw[PM λj hj=>d j (by rw[Qx];exact hj)] at this;exact this
abbrev ug(K:Fg):Sp:=λvs H Q _=>∃(a:Addr) (r:List Int),vs=[.ref a]/\H a=some (.lst (r.map V.int))/\r.length<=100/\(∀c∈r,c.natAbs<2 ^ 9000)/\∀(p:Addr) (H':Hp),AccZ K H p H' ((bB r).map Rn)->Q (.ref p) H'
def Bh{r:List Int}{i:Nat}{c:Int}(h:r[i]?=some c):(r.take (i+1)).foldl Gd.gd 0=Gd.gd ((r.take i).foldl Gd.gd 0) c:=by
 rw[QX,h,SY];rfl
def JS{n:Nat}(h:pt r i≠0)(hb:∀c∈r,c.natAbs<2 ^ n):(cM r).natAbs<2 ^ n:=by
 have d:cM r∣pt r i:=by
  unfold pt at h ⊢;rw[Qz] at h ⊢;cases e:r[i]? with
  |none=>rw[e] at h;exact absurd rfl h
  |some c=>exact(i3 r 0).2 c (QI e)
 have:=TM (by lia) (Int.natAbs_dvd_natAbs.mpr d)
 exact Q4 this (pG hb i)
abbrev HA(K:Fg):Sp:=λvs H Q _=>∃(a:Addr) (r:List Int),vs=[.ref a]/\H a=some (.lst (r.map V.int))/\∀H',Same H H'->Q (.int (cM r)) H'
abbrev Hn(K:Fg):TS:=(am (aw (tC (.int 0)) (al 1))
 (am (aW (ce K (aa 0)) (al 2)
 (aw (aD oT [] E0 (ae (aa 1) (ae (aa 2) ag))) (al 1)))
 (aG (aa 1))))
def K9{K:Fg}:ρ 3 (HA K) (Hn K):=by
 fail "R";obtain⟨a,r,rfl,ha,k⟩:=h;rw[L2.aP hN];walk_at "t";unfold Hn;cbv;refine f7 (SqL.of ha) ?_;refine a_ (xs:=r.map V.int) (λj σ H2=>∃u3:Option V,σ=[⇑a,some (.int ((r.take j).foldl Gd.gd 0)),u3]/\Same H H2) ⟨_,rfl,Same.refl _⟩ (by rintro j σ H2 _ ⟨_,_,S⟩;exact SqL.of (S _ _ ha)) ?_ ?_
 .rintro j z σ H2 hz ⟨u3,rfl,S⟩;rw[QD] at hz;obtain⟨c,hc,rfl⟩:=QG.mp hz;cbv;refine⟨_,_,rfl,?_⟩;cbv;refine⟨_,by rw[Bh hc];rfl,S⟩
 .rintro σ H2 ⟨u3,rfl,S⟩;rw[QM (by rw[Qx];exact QH _)];cbv;exact k H2 S
nonrec abbrev CW(K:Fg):TS:=(am (aw (aD (HA K) [] E0 (ae (aa 0) ag)) (al 2))
 (am (aS (aR (ar wM (ar (bJ K) (aa 0) (aa 1)) (tC (.int 0))))
 (aw (Hs (rU λi=>.int (-i)) (aa 2)) (al 2))
 aV)
 (aG (fA (ce K (aa 0)) (ar D_ (aa 0) (aa 3))))))
abbrev xN(K:Fg):TS:=(am (aw (aD (jb K) [] E0 (ae (aa 0) ag)) (al 1))
 (am (aS (aR (ar pE (aa 1) (tC .non)))
 (aG (bo (dm K) (ae (aa 0) ag)))
 aV)
 (CW K)))
def Ig{K:Fg}:ρ 3 (ug K) (xN K):=by
 fail "R";obtain⟨a,r,rfl,ha,hl,hb,k⟩:=h;rw[L2.aP hN];walk_at "t";unfold xN;cbv;refine⟨a,r,rfl,ha,λH1 S1=>?_⟩;unfold Gx;cases f:fp r with
 |none =>
  cbv;refine bb (λ_=>?_) (λz=>absurd rfl z);cbv;refine jM (SqL.of (S1 _ _ ha)) λl nl=>?_
  have e:bB r=r:=by unfold bB;rw[f]
  rw[e] at k;exact k l _ ⟨S1.trans (ak nl _),S1.free nl,_,aj,RpL.ints r⟩
 |some i =>
  obtain⟨f1,f2,f3⟩:=cW f;cbv;refine bb (λz=>by cases z) (λ_=>?_);cbv;refine⟨a,r,rfl,S1 _ _ ha,λH2 S2=>?_⟩;have S:=S1.trans S2;cbv;refine bU (SqL.of (S _ _ ha)) (tL f1) ?_
  have fin:cS (vC K a) (ar D_ (aa 0) (aa 3)) [⇑a,↥i,↥(dY r i)] (ends Q).rt H2:=by
   refine df (xs:=r.map V.int) λD nD=>⟨λj H3=>AccZ K H D H3 (((bB r).take j).map Rn),by simpa using AccZ.start S nD,λj H3 _ A=>SqL.of (A.same _ _ ha),?_,?_⟩
   .intro j x H3 hx A;have lj:=(QC.mp hx).1;rw[QD] at hx;obtain⟨c,hc,rfl⟩:=QG.mp hx;cbv;refine⟨c,dY r i,rfl,rfl,⟨vf f2,?_⟩,?_⟩
    .have:=JS f2 hb
     have e:(dY r i).natAbs=(cM r).natAbs:=by unfold dY;split <;> lia
     rw[e];exact this
    refine a6 lj ?_;refine A.cA (.int _) (av (by rw[Qx,Q3,dB];lia)) λH4 A4=>?_
    have e:(bB r)[j]?=some (c.fdiv (dY r i)):=by unfold bB;rw[f];show(r.map _)[j]? = _;rw[QD,hc];rfl
    show AccZ K H D H4 (((bB r).take (j+1)).map Rn);rw[QX,e,QJ];exact A4
   .intro H3 A;rw[QM (by rw[dB,Qx];exact QH _)] at A;exact k D H3 A
  cbv;refine bb (λng=>?_) (λng=>?_)
  .cbv;refine sX (SqL.of (S _ _ ha)) ?_;have e:dY r i = -cM r:=by unfold dY;rw[if_pos ng]
   rw[e] at fin;exact fin
  .cbv;refine sX (SqL.of (S _ _ ha)) ?_;have e:dY r i=cM r:=by unfold dY;rw[if_neg ng]
   rw[e] at fin;exact fin
abbrev NX(K:Fg)(S:Addr->Prop)(H:Hp)(a:Addr)(T:List (List Int)):Prop:=∃xs,H a=some (.lst xs)/\RpL K S H xs (T.map dL)
abbrev HB(K:Fg):Sp:=λvs H Q _=>∃(a s:Addr) (r:List Int) (T:List (List Int)) (b:Nat),vs=[.ref a,.ref s]/\H a=some (.lst (r.map V.int))/\NX K (λ_=>True) H s T/\r.length<=100/\(∀t∈T,t.length=r.length/\∃i,fp t=some i)/\(∀c∈r,c.natAbs<2 ^ b)/\Kj b T/\bits b T.length<=9000 /\
 ∀(p:Addr) (H':Hp),Same H H'->(p=a\/H p=none)->H' p=some (.lst ((aY r T).map V.int))->Q (.ref p) H'
def qA{r:List Int}:∀{T:List (List Int)},(∀t∈T,t.length=r.length)->(aY r T).length=r.length:=by
 intro T
 have go:∀(T:List (List Int)) (y:List Int),y.length=r.length->(∀t∈T,t.length=r.length)->(aY y T).length=r.length:=by
  intro T
  induction T with
  |nil=>intro y ly _;exact ly
  |cons t T ih =>
   intro y ly h;refine ih (cR y t) ?_ λu hu=>h u (QL _ hu)
   unfold cR
   have:=h t QK
   rw[dB,nZ (by lia)];exact this
 exact go T r rfl
def n4{t:List Int}{T:List (List Int)}{i:Nat}(h:T[i]?=some t):aY r (T.take (i+1))=cR (aY r (T.take i)) t:=by
 unfold aY;rw[QX,h,SY];rfl
nonrec abbrev C3(K:Fg):TS:=(aw (aD (ug K) [] E0 (ae (gc (qj K .L .L (ae (aa 0) (ae (aa 2) ag))) 2 (cx K 2 (aX (al 0) (aX (al 1) cy))) (ar iF (ar cO (ar (bJ K) (aa 4) (aa 5)) (aa 0)) (ar cO (ar (bJ K) (aa 2) (aa 5)) (aa 1)))) ag)) (al 0))
abbrev yg(K:Fg):TS:=(am (aW (ce K (aa 1)) (al 2)
 (am (aw (aD (jb K) [] E0 (ae (aa 2) ag)) (al 3))
 (C3 K)))
 (aG (aa 0)))
def Ip{K:Fg}:ρ 4 (HB K) (yg K):=by
 fail "R";obtain⟨a,s,r,T,b,rfl,ha,⟨xs,hs,rx⟩,hl,hT,hb,hB,hbits,k⟩:=h;rw[L2.aP hN];walk_at "t";have lx:xs.length=T.length:=by rw[rx.length,Qx]
 unfold yg;cbv;refine f7 (SqL.of hs) ?_;refine a_ (xs:=xs) (λj σ H2=>∃(p:Addr) (u2 u3:Option V),σ=[⇑p,⇑s,u2,u3]/\Same H H2/\(p=a\/H p=none)/\H2 p=some (.lst ((aY r (T.take j)).map V.int))) ⟨a,none,none,rfl,Same.refl _,.inl rfl,by simpa[aY] using ha⟩ (by rintro j σ H2 _ ⟨_,_,_,_,S,_⟩;exact SqL.of (S _ _ hs)) ?_ ?_
 .rintro j z σ H2 hz ⟨p,u2,u3,rfl,S,hp,h2⟩;obtain⟨d,g1,g2⟩:=rx.get hz;rw[QD] at g1;obtain⟨t,ht,rfl⟩:=QG.mp g1;obtain⟨b0,rfl,_,hb0⟩:=wF g2;obtain⟨lt,i,fi⟩:=hT t (QI ht);obtain⟨f1,f2,f3⟩:=cW fi;have lj:j<T.length:=(QC.mp ht).1;have ly:(aY r (T.take j)).length=r.length:=qA λt ht=>(hT t (SN ht)).1
  have by_:=f9 hb hB j (by lia);have bm:bits b (j+1)<=bits b T.length:=gA (by lia);rw[qF] at bm;have hBt:=hB j t ht;rw[n4 ht];generalize aY r (T.take j)=y at h2 ly by_ ⊢;cbv;refine⟨b0,t,rfl,S _ _ hb0,λH3 S3=>?_⟩;have fv:Gx t=.int i:=by unfold Gx;rw[fi]
  rw[fv];have S4:=S.trans S3;have h3:=S3 _ _ h2;cbv;refine⟨p,b0,_,_,rfl,SqL.of h3,SqL.of (S4 _ _ hb0),?_⟩;refine vk (xs:=y.map V.int) (ys:=t.map V.int) λD nD=>⟨λm H5=>AccZ K H3 D H5 (((kh t i y).take m).map Rn),AccZ.start (Same.refl _) nD,λm H5 _ C=>⟨SqL.of (C.same _ _ h3),SqL.of (C.same _ _ (S4 _ _ hb0))⟩,?_,?_⟩
  .intro m y1 y2 H5 T' e1 e2 C nT us hu
   obtain⟨u1,u2',rfl⟩:∃u0 u1,us=[u0,u1]:=ex2 hu
   rw[QD] at e1 e2;obtain⟨m1,g1,rfl⟩:=QG.mp e1;obtain⟨m2,g2,rfl⟩:=QG.mp e2;have ec:(kh t i y)[m]?=some (m1*pt t i-pt y i*m2):=by unfold kh;rw[U3,g1,g2]
   have lm:=(QC.mp g1).1;have lm2:=(QC.mp g2).1;have C2:=C.on (ak nT (.tup [.int m1,.int m2]));have hT':upd H5 T' (.tup [.int m1,.int m2]) T'=some (.tup [.int m1,.int m2]):=aj;generalize upd H5 T' (.tup [.int m1,.int m2])=H7 at C2 hT' ⊢;refine bP (SqT.of hT') rfl ?_;cbv;refine⟨⟨[↥m1,↥m2],rfl,rfl⟩,?_⟩;cbv;refine bU (SqL.of (C2.same _ _ (S4 _ _ hb0))) (tL f1) ?_;cbv;refine⟨pt t i,m1,rfl,rfl,F9 (by lia) (pG hBt i) (by_ _ (QI g1)),?_⟩;cbv;refine bU (SqL.of (C2.same _ _ h3)) (tL (by lia)) ?_;cbv;refine⟨pt y i,m2,rfl,rfl,F9 (by lia) (pG by_ i) (hBt _ (QI g2)),?_⟩;cbv;refine a6 (by rw[Qx,Qx];lia) ?_;rw[TK (pt t i) m1];refine C2.cA (.int _) (av ?_) λH8 C8=>?_
   .rw[Qx,Q3];lia
   .show AccZ K H3 D H8 (((kh t i y).take (m+1)).map Rn);rw[QX,ec,QJ];exact C8
  .intro H5 C;have lc:(kh t i y).length=t.length:=nZ (by lia);rw[QM (by rw[Qx,Qx];lia)] at C;cbv;refine⟨D,kh t i y,rfl,AccZ.ints C,by lia,λc hc=>?_,λp2 H6 A6=>?_⟩
   .exact Re (BK hBt by_ c hc) (QW (by decide) (by lia))
   .cbv;refine⟨p2,_,_,rfl,S4.trans (C.same.trans A6.same),.inr ((S4.trans C.same).free A6.new),?_⟩;have e:cR y t=bB (kh t i y):=by unfold cR;rw[fi];rfl
    rw[e];exact AccZ.ints A6
 .rintro σ H2 ⟨p,u2,u3,rfl,S,hp,h2⟩;rw[QM (by lia)] at h2;cbv;exact k p H2 S hp h2
abbrev SS(H:Hp)(D1 D2 D3:Addr):Addr->Prop:=λa=>H a=none/\a≠D1/\a≠D2/\a≠D3
abbrev ni(l:List Nat):List Int:=l.map λi:Nat=>(i:Int)
structure SH (K:Fg) (H H2:Hp) (D1 D2 D3:Addr) (st:qS):Prop where
 same:Same H H2
 n1:H D1=none
 n2:H D2=none
 n3:H D3=none
 d12:D1≠D2
 d13:D1≠D3
 d23:D2≠D3
 a1:∃xs,H2 D1=some (.lst xs)/\RpL K (SS H D1 D2 D3) H2 xs (st.stairs.map dL)
 a2:H2 D2=some (.lst ((ni st.free).map V.int))
 a3:∃xs,H2 D3=some (.lst xs)/\RpL K (SS H D1 D2 D3) H2 xs (st.makers.map dL)
def SH.on{K:Fg}{st:qS}(A:SH K H H2 D1 D2 D3 st)(e:Same H2 H3):SH K H H3 D1 D2 D3 st:=by
 obtain⟨xs,h1,r1⟩:=A.a1;obtain⟨zs,h3,r3⟩:=A.a3;exact⟨A.same.trans e,A.n1,A.n2,A.n3,A.d12,A.d13,A.d23,⟨xs,e _ _ h1,r1.same e⟩,e _ _ A.a2,⟨zs,e _ _ h3,r3.same e⟩⟩
def SH.Os{K:Fg}{H H2:Hp}{D1 D2 D3:Addr}{st:qS}{p:Addr}{z:List Int}{i:Nat}(A:SH K H H2 D1 D2 D3 st)(hp:SS H D1 D2 D3 p)(h:H2 p=some (.lst (z.map V.int))):∃xs,H2 D1=some (.lst xs)/\xs.length=st.stairs.length/\upd H2 D1 (.lst (xs++[.ref p])) D2=some (.lst ((ni st.free).map V.int)) /\
  SH K H (upd (upd H2 D1 (.lst (xs++[.ref p]))) D2 (.lst ((ni st.free).map V.int++[.int i]))) D1 D2 D3 ⟨st.stairs++[z],st.free++[i],st.makers⟩:=by
 obtain⟨xs,h1,r1⟩:=A.a1;obtain⟨zs,h3,r3⟩:=A.a3;have e2:upd H2 D1 (.lst (xs++[.ref p])) D2=some (.lst ((ni st.free).map V.int)):=by rw[aJ A.d12.symm];exact A.a2
 refine⟨xs,h1,by rw[r1.length,Qx],e2,⟨λb o q=>?_,A.n1,A.n2,A.n3,A.d12,A.d13,A.d23,⟨xs++[.ref p],?_,?_⟩,?_,⟨zs,?_,?_⟩⟩⟩
 .rw[aJ (ay q A.n2),aJ (ay q A.n1)];exact A.same b o q
 .rw[aJ A.d12];exact aj
 .show RpL K (SS H D1 D2 D3) _ _ ((st.stairs++[z]).map dL);rw[QJ];exact((r1.append (.cons (wE hp h) .nil)).agr (Agr.eJ h1 λw=>w.2.1 rfl)).agr (Agr.eJ e2 λw=>w.2.2.1 rfl)
 .show upd _ D2 _ D2=some (.lst ((ni (st.free++[i])).map V.int));rw[aj];unfold ni;rw[QJ,QJ];rfl
 .rw[aJ A.d23.symm,aJ A.d13.symm];exact h3
 .exact(r3.agr (Agr.eJ h1 λw=>w.2.1 rfl)).agr (Agr.eJ e2 λw=>w.2.2.1 rfl)
def SH.maker{K:Fg}{st:qS}{z:List Int}(A:SH K H H2 D1 D2 D3 st)(hp:SS H D1 D2 D3 p)(h:H2 p=some (.lst (z.map V.int))):∃xs,H2 D3=some (.lst xs)/\xs.length=st.makers.length /\
  SH K H (upd H2 D3 (.lst (xs++[.ref p]))) D1 D2 D3 ⟨st.stairs,st.free,st.makers++[z]⟩:=by
 obtain⟨xs,h1,r1⟩:=A.a1;obtain⟨zs,h3,r3⟩:=A.a3;refine⟨zs,h3,by rw[r3.length,Qx],⟨λb o q=>?_,A.n1,A.n2,A.n3,A.d12,A.d13,A.d23,⟨xs,?_,?_⟩,?_,⟨zs++[.ref p],aj,?_⟩⟩⟩
 .rw[aJ (ay q A.n3)];exact A.same b o q
 .rw[aJ A.d13];exact h1
 .exact r1.agr (Agr.eJ h3 λw=>w.2.2.2 rfl)
 .rw[aJ A.d23];exact A.a2
 .show RpL K (SS H D1 D2 D3) _ _ ((st.makers++[z]).map dL);rw[QJ];exact(r3.append (.cons (wE hp h) .nil)).agr (Agr.eJ h3 λw=>w.2.2.2 rfl)
abbrev RowV(H:Hp)(x:V)(r:List Int):Prop:=∃c,x=.ref c/\(H c=some (.lst (r.map V.int))\/H c=some (.tup (r.map V.int)))
abbrev BZ(H:Hp)(a:Addr)(R:List (List Int)):Prop:=∃xs,H a=some (.lst xs)/\xs.length=R.length/\∀(i:Nat) (x:V) (r:List Int),xs[i]?=some x->R[i]?=some r->RowV H x r
def RowV.same(h:RowV H x r)(e:Same H H'):RowV H' x r:=by
 obtain⟨c,rfl,h⟩:=h;exact⟨c,rfl,h.imp (e _ _) (e _ _)⟩
abbrev Ob(R:List (List Int)):qS:=y6 R R.length
abbrev dS(st:qS):Dat:=.tuple [dL (ni st.free),.list (st.makers.map dL)]
abbrev yE(K:Fg):Sp:=λvs H Q _=>∃(a:Addr) (R:List (List Int)) (w b:Nat),vs=[.ref a]/\BZ H a R/\Wide w R/\R.length<=20/\w<=20/\Cp b R/\1<=b/\bits b R.length<=9000 /\
 ∀(p:Addr) (H':Hp),Same H H'->Rp K (λa=>H a=none) H' (.ref p) (dS (Ob R))->Q (.ref p) H'
def Dy{R:List (List Int)}{i:Nat}{r:List Int}(h:R[i]?=some r):y6 R (i+1)=jo R.length (y6 R i) i r:=by
 show jo R.length (y6 R i) i (R.getD i [])=_;rw[Qz,h];rfl
def JC{K:Fg}{Q:VK}(e:RowV H x r)(h:∀l,H l=none->Q (.ref l) (upd H l (.lst (r.map V.int)))):dm K [x] H Q:=by
 obtain⟨c,rfl,e|e⟩:=e
 .exact jM (SqL.of e) h
 .exact AJ (SqT.of e) h
def Gg{K:Fg}{Q:VK}(e:RowV H x r)(h:Q (.int r.length) H):bW K [x] H Q:=by
 obtain⟨c,rfl,e|e⟩:=e
 .exact b7 (SqL.of e) (by rw[Qx];exact h)
 .exact ik (SqT.of e) (by rw[Qx];exact h)
def BF(xs:List V)(k:Nat):kH xs (some (k:Int)) none=xs.drop k:=by
 have e:HT.sIx xs.length 0 (some (k:Int))=min k xs.length:=by
  show(if (k:Int)<0 then ((k:Int)+(xs.length:Nat)).toNat else min (k:Int).toNat xs.length)=_;rw[if_neg (by lia),RJ]
 have e2:HT.sIx xs.length xs.length none=xs.length:=rfl;unfold kH;rw[e,e2];by_cases h:k<=xs.length
 .rw[WC h,QM (by rw[Sw];exact QH _)]
 .rw[V6 (by lia),X9 (QH _),X9 (by lia),List.take_nil]
abbrev rQ(K:Fg):Sp:=λvs H Q _=>∃n i:Nat,vs=[.int (n:Int),.int (i:Int)]/\n<=100/\∀(p:Addr) (H':Hp),AccZ K H p H' ((bG n i).map Rn)->Q (.ref p) H'
def uD(n i:Nat):(bG n i).length=n:=by unfold bG;rw[Qx,Ra]
abbrev qW(K:Fg):TS:=(aG (fA (ck (ae (aa 0) ag)) (KH (aR (ar fV (aa 0) (aa 2))) (tC (.int 1)) (tC (.int 0)))))
def DF{K:Fg}:ρ 2 (rQ K) (qW K):=by
 fail "R";obtain⟨n,i,rfl,hn,k⟩:=h;rw[L2.aP hN];walk_at "t";unfold qW;cbv;rw[RJ];refine c_ (n:=n) λD nD=>⟨λj H4=>AccZ K H D H4 (((bG n i).take j).map Rn),by simpa using AccZ.start (Same.refl _) nD,?_,?_⟩
 .intro j H4 hj B;have eo:(bG n i)[j]?=some (if j=i then 1 else 0):=by unfold bG;rw[QD,RG hj];rfl
  have fin:∀(v:Int),v=(if j=i then 1 else 0)->oB D n j (λj H4=>AccZ K H D H4 (((bG n i).take j).map Rn)) (.int v) H4:=by
   rintro v rfl;refine a6 hj ?_;refine B.cA (.int _) (av (by rw[Qx,Q3];lia)) λH5 B5=>?_
   show AccZ K H D H5 (((bG n i).take (j+1)).map Rn);rw[QX,eo,QJ];exact B5
  rw[T0];cbv;refine bb (λe=>?_) (λe=>?_)
  .cbv;exact fin 1 (by rw[if_pos (by lia)])
  .cbv;exact fin 0 (by rw[if_neg (by lia)])
 intro H4 B;rw[QM (by rw[uD];exact QH _)] at B;exact k D H4 B
abbrev pJ(n:Nat):List (List Int):=(QR n).map (bG n)
def zU(n:Nat):(pJ n).length=n:=by unfold pJ;rw[Qx,Ra]
def uB{n i:Nat}(h:i<n):(pJ n)[i]?=some (bG n i):=by unfold pJ;rw[QD,RG h];rfl
abbrev rP(K:Fg):Sp:=λvs H Q _=>∃n:Nat,vs=[.int (n:Int)]/\n<=100/\∀(p:Addr) (H':Hp),Acc K H p H' ((pJ n).map dL)->Q (.ref p) H'
abbrev qV(K:Fg):TS:=(aG (fA (ck (ae (aa 0) ag)) (aD (rQ K) [] E0 (ae (aa 1) (ae (aa 0) ag)))))
def DE{K:Fg}:ρ 1 (rP K) (qV K):=by
 fail "R";obtain⟨n,rfl,hn,k⟩:=h;rw[L2.aP hN];walk_at "t";unfold qV;cbv;rw[RJ];refine c_ (n:=n) λD nD=>⟨λj H3=>Acc K H D H3 (((pJ n).take j).map dL),by simpa using Acc.start nD,?_,?_⟩
 .intro j H3 hj A;rw[T0];cbv;refine⟨n,j,rfl,hn,λp H4 C=>?_⟩;refine a6 hj ?_;refine A.cA C.same (d:=dL (bG n j)) C.ref (av (by rw[Qx,Q3];lia)) λH5 A5=>?_
  show Acc K H D H5 (((pJ n).take (j+1)).map dL);rw[QX,uB hj,QJ];exact A5
 .intro H3 A;rw[QM (by rw[zU];exact QH _)] at A;exact k D H3 A
structure UN (K:Fg) (H H2:Hp) (D1 D2 D3 U:Addr) (n:Nat):Prop where
 s:SS H D1 D2 D3 U
 at_:∃xs,H2 U=some (.lst xs)/\RpL K (SS H D1 D2 D3) H2 xs ((pJ n).map dL)
def UN.on{K:Fg}(A:UN K H H2 D1 D2 D3 U n)(e:Same H2 H3):UN K H H3 D1 D2 D3 U n:=by
 obtain⟨xs,h1,r1⟩:=A.at_;exact⟨A.s,xs,e _ _ h1,r1.same e⟩
def UN.upd{K:Fg}{D:Addr}(A:UN K H H2 D1 D2 D3 U n)(hD:D=D1\/D=D2\/D=D3)(h:H2 D=some (.lst l)):UN K H (L2.upd H2 D o) D1 D2 D3 U n:=by
 obtain⟨xs,h1,r1⟩:=A.at_
 have no:∀a,SS H D1 D2 D3 a->a≠D:=λa z e=>by
  rcases hD with rfl|rfl|rfl
  .exact z.2.1 e
  .exact z.2.2.1 e
  .exact z.2.2.2 e
 exact⟨A.s,xs,by rw[aJ (no _ A.s)];exact h1,r1.agr (Agr.eJ h λw=>no _ w rfl)⟩
def UN.get{K:Fg}{i:Nat}(A:UN K H H2 D1 D2 D3 U n)(hi:i<n):∃xs c,H2 U=some (.lst xs)/\xs[i]?=⇑c/\H2 c=some (.lst ((bG n i).map V.int)):=by
 obtain⟨xs,h1,r1⟩:=A.at_;obtain⟨x,e0,q0⟩:=r1.get' (i:=i) (d:=dL (bG n i)) (by rw[QD,uB hi];rfl);obtain⟨c,rfl,_,hc⟩:=wF q0;exact⟨xs,c,h1,e0,hc⟩
nonrec abbrev CN(K:Fg):TS:=(aS (aR (ar wM (aD (jb K) [] E0 (ae (aa 7) ag)) (bo (bW K) (ae (aa 6) ag))))
 (am (bz (cZ K "list" aO (aa 1) (ae (aa 7) ag)))
 (bz (cZ K "list" aO (aa 2) (ae (aa 5) ag))))
 (bz (cZ K "list" aO (aa 3) (ae (aD (ug K) [] E0 (ae (Kl (D8 K) (aa 7) (oO (bo (bW K) (ae (aa 6) ag))) mz) ag)) ag))))
nonrec abbrev CM(K:Fg):TS:=(am (aW (iM K (ae (aa 0) ag)) (cx K 2 (aX (al 5) (aX (al 6) cy)))
 (am (aw (aD (HB K) [] E0 (ae (ar zw (bo (dm K) (ae (aa 6) ag)) (ar (bJ K) (aa 4) (aa 5))) (ae (aa 1) ag))) (al 7))
 (CN K)))
 (aG (bq (ae (aa 2) (ae (aa 3) ag)))))
abbrev xz(K:Fg):TS:=(am (aw (bR ag) (al 1))
 (am (aw (bR ag) (al 2))
 (am (aw (bR ag) (al 3))
 (am (aw (aD (rP K) [] E0 (ae (bo (bW K) (ae (aa 0) ag)) ag)) (al 4))
 (CM K)))))
def HX{K:Fg}:ρ 8 (yE K) (xz K):=by
 fail "R";obtain⟨a,R,w,b,rfl,⟨xs,ha,lx,rx⟩,hw,hl,hw1,hb,hb1,hbits,k⟩:=h;rw[L2.aP hN];walk_at "t";unfold xz;cbv;refine⟨by decide,λD1 n1=>?_⟩;cbv;refine⟨by decide,λD2 n2=>?_⟩;cbv;refine⟨by decide,λD3 n3=>?_⟩
 have A0:SH K H (upd (upd (upd H D1 (.lst [])) D2 (.lst [])) D3 (.lst [])) D1 D2 D3 (y6 R 0):=by
  have S1:=ak n1 (.lst []);have S2:=ak n2 (.lst []);have S3:=ak n3 (.lst []);have h1:upd H D1 (.lst []) D1=some (.lst []):=aj;have h2:upd (upd H D1 (.lst [])) D2 (.lst []) D2=some (.lst []):=aj;exact⟨S1.trans (S2.trans S3),n1,S1.free n2,(S1.trans S2).free n3,ay h1 n2,ay (S2 _ _ h1) n3,ay h2 n3,⟨[],S3 _ _ (S2 _ _ h1),.nil⟩,S3 _ _ h2,⟨[],aj,.nil⟩⟩
 generalize upd (upd (upd H D1 (.lst [])) D2 (.lst [])) D3 (.lst [])=H0 at A0 ⊢;cbv;refine b7 (SqL.of (A0.same _ _ ha)) ?_;rw[lx];cbv;refine⟨R.length,rfl,by lia,λU H1 AU=>?_⟩
 have B0:UN K H H1 D1 D2 D3 U R.length:=by
  obtain⟨x1,hx1,_⟩:=A0.a1;obtain⟨x3,hx3,_⟩:=A0.a3;have ss:∀q,H0 q=none->SS H D1 D2 D3 q:=λq nq=>⟨A0.same.free nq,(ay hx1 nq).symm,(ay A0.a2 nq).symm,(ay hx3 nq).symm⟩
  obtain⟨ys,hy,ry⟩:=AU.at_;exact⟨ss U AU.new,ys,hy,ry.mono λq z=>ss q z.1⟩
 replace A0:=A0.on AU.same;clear AU;cbv;refine⟨a,xs,rfl,SqL.of (A0.same _ _ ha),?_⟩;refine dG (xs:=xs) (λi σ H2=>∃u5 u6 u7:Option V,σ=[⇑a,⇑D1,⇑D2,⇑D3,⇑U,u5,u6,u7]/\SH K H H2 D1 D2 D3 (y6 R i)/\UN K H H2 D1 D2 D3 U R.length) ⟨none,none,none,rfl,A0,B0⟩ (by rintro i σ H2 _ ⟨_,_,_,_,A,_⟩;exact SqL.of (A.same _ _ ha)) ?_ ?_
 .clear A0 B0 n1 n2 n3;rintro i x σ H2 T hx ⟨u5,u6,u7,rfl,A,B⟩ nT;have li:i<R.length:=by rw[<- lx];exact(QC.mp hx).1
  obtain⟨r,hr⟩:∃r,R[i]?=some r:=⟨_,Qy li⟩
  have rv:=rx i x r hx hr;have I:=HI hw hb1 hb i (by lia);have lr:=hw r (QI hr);have Y:=(HP I hb1 li lr (hb r (QI hr))).1;have es:=Dy hr;rw[es];generalize y6 R i=st at A I Y ⊢;have A2:=A.on (ak nT (.tup [.int (i:Int),x]));have B2:=B.on (ak nT (.tup [.int (i:Int),x]));have hT:upd H2 T (.tup [.int (i:Int),x]) T=some (.tup [.int (i:Int),x]):=aj;generalize upd H2 T (.tup [.int (i:Int),x])=H3 at A2 B2 hT ⊢;refine bP (SqT.of hT) rfl ?_;have lo:(bG R.length i).length=R.length:=uD _ _;cbv;refine JC (rv.same A2.same) λl nl=>?_
  have A5:=A2.on (ak nl (.lst (r.map V.int)));have B5:=B2.on (ak nl (.lst (r.map V.int)));have hl5:upd H3 l (.lst (r.map V.int)) l=some (.lst (r.map V.int)):=aj;generalize upd H3 l (.lst (r.map V.int))=H5 at A5 B5 hl5 ⊢;obtain⟨us,D,hU,eD,hD5⟩:=B5.get li;cbv;refine bU (SqL.of hU) (v:=.ref D) (aI (j:=i) eD) ?_;cbv;refine⟨l,D,_,_,rfl,rfl,hl5,hD5,?_,λq nq=>?_⟩
  .have:(r.map V.int).length+((bG R.length i).map V.int).length<sizeLine:=av (by rw[Qx,Qx];lia)
   lia
  rw[<- QJ];have hq6:upd H5 q (.lst ((r++bG R.length i).map V.int)) q=some (.lst ((r++bG R.length i).map V.int)):=aj;have A6:=A5.on (ak nq (.lst ((r++bG R.length i).map V.int)));have B6:=B5.on (ak nq (.lst ((r++bG R.length i).map V.int)));obtain⟨x1,hx1,rx1⟩:=A5.a1;obtain⟨x3,hx3,rx3⟩:=A5.a3;have sq:SS H D1 D2 D3 q:=⟨A5.same.free nq,(ay hx1 nq).symm,(ay A5.a2 nq).symm,(ay hx3 nq).symm⟩
  generalize upd H5 q (.lst ((r++bG R.length i).map V.int))=H6 at hq6 A6 B6 ⊢;cbv;obtain⟨ps,s1,s2,s3,_⟩:=I.sta;have lxo:(r++bG R.length i).length=w+R.length:=by rw[QT,lo,lr]
  have bst:bits b st.stairs.length<=bits b R.length:=gA (by have:=I.cnt;lia);refine⟨q,D1,r++bG R.length i,st.stairs,b,rfl,hq6,?_,by lia,λt ht=>⟨by rw[I.len t ht,lxo],?_⟩,?_,I.bnd,by lia,λp H7 S7 hp h7=>?_⟩
  .obtain⟨y1,hy1,ry1⟩:=A6.a1;exact⟨y1,hy1,ry1.mono λ_ _=>trivial⟩
  .have:fp t∈st.stairs.map fp:=QU.mpr ⟨t,ht,rfl⟩
   rw[s3] at this;obtain⟨p0,_,e0⟩:=QU.mp this;exact⟨p0,e0.symm⟩
  .intro c hc;rcases Q8.mp hc with m|m
   .exact hb r (QI hr) c m
   .unfold bG at m;obtain⟨o,_,rfl⟩:=QU.mp m
    have:2 ^ 1<=2 ^ b:=QW (by decide) hb1
    split <;> lia
  have A7:=A6.on S7;have B7:=B6.on S7
  have sp:SS H D1 D2 D3 p:=by
   rcases hp with rfl|np
   .exact sq
   .obtain⟨y1,hy1,_⟩:=A6.a1;obtain⟨y3,hy3,_⟩:=A6.a3;exact⟨A6.same.free np,(ay hy1 np).symm,(ay A6.a2 np).symm,(ay hy3 np).symm⟩
  have h7':H7 p=some (.lst ((cI R.length st i r).map V.int)):=h7;cbv;refine⟨p,cI R.length st i r,rfl,h7',λH8 S8=>?_⟩;have A8:=A7.on S8;have B8:=B7.on S8;have h8:=S8 _ _ h7';obtain⟨f,f1,f2⟩:=Y.ne;have fv:Gx (cI R.length st i r)=.int f:=by unfold Gx;rw[f1]
  rw[fv];cbv;refine Gg (rv.same A8.same) ?_;cbv;refine bb (λc=>?_) (λc=>?_)
  .have c':f<r.length:=by lia
   have e1:jo R.length st i r=⟨st.stairs++[cI R.length st i r],st.free++[i],st.makers⟩:=by
    unfold jo;rw[f1];exact if_pos c'
   obtain⟨zs,z1,z2,z3,z4⟩:=A8.Os (i:=i) sp h8;cbv;refine⟨wv z1,?_⟩;cbv;refine⟨D1,zs,_,rfl,rfl,z1,av (by have:=I.cnt;lia),?_⟩;cbv;refine⟨wv z3,?_⟩;cbv;refine⟨D2,_,_,rfl,rfl,z3,av ?_,?_⟩
   .have:st.free.length<=i:=by
     rw[I.free]
     have:∀i,(qp R i).length<=i:=by
      intro i
      induction i with
      |zero=>exact QH _
      |succ i ih =>
       by_cases g:d5 (rowsOf R (qp R i)++[R.getD i []])
       .rw[AZ rfl g,QT];exact V4 ih
       .rw[Gq rfl g];lia
     exact this i
    unfold ni;rw[Qx,Qx];lia
   .rw[e1];exact⟨_,_,_,rfl,z4,(B8.upd (.inl rfl) z1).upd (.inr (.inl rfl)) z3⟩
  .have c' : ¬ f<r.length:=by lia
   have e1:jo R.length st i r=⟨st.stairs,st.free,st.makers++[bB ((cI R.length st i r).drop r.length)]⟩:=by
    unfold jo;rw[f1];exact if_neg c'
   obtain⟨y3,hy3,_⟩:=A8.a3;cbv;refine⟨wv hy3,?_⟩;cbv;refine Gg (rv.same A8.same) ?_;cbv;refine⟨p,_,rfl,SqL.of h8,λt nt=>?_⟩;rw[BF,<- Zaz];have A9:=A8.on (ak nt (.lst (((cI R.length st i r).drop r.length).map V.int)));have B9:=B8.on (ak nt (.lst (((cI R.length st i r).drop r.length).map V.int)));have h9:upd H8 t (.lst (((cI R.length st i r).drop r.length).map V.int)) t=some (.lst (((cI R.length st i r).drop r.length).map V.int)):=aj;generalize upd H8 t (.lst (((cI R.length st i r).drop r.length).map V.int))=H9 at A9 B9 h9 ⊢;cbv;refine⟨t,_,rfl,h9,by rw[Sw,Y.len];lia,λc hc=>?_,λp2 H10 C2=>?_⟩
   .exact Re (Y.bnd c (U_ hc)) (QW (by decide) (by lia))
   .have A10:=A9.on C2.same;obtain⟨y1,hy1,_⟩:=A9.a1;obtain⟨y4,hy4,_⟩:=A9.a3;have sp2:SS H D1 D2 D3 p2:=⟨A9.same.free C2.new,(ay hy1 C2.new).symm,(ay A9.a2 C2.new).symm,(ay hy4 C2.new).symm⟩
    obtain⟨zs,z1,z2,z3⟩:=A10.maker sp2 (AccZ.ints C2);cbv;refine⟨D3,zs,_,rfl,rfl,z1,av (by have:=I.mks;lia),?_⟩;rw[e1];exact⟨_,_,_,rfl,z3,(B9.on C2.same).upd (.inr (.inr rfl)) z1⟩
 .rintro σ H2 ⟨u5,u6,u7,rfl,A,_⟩;rw[lx] at A;cbv;refine⟨aQ,λp np=>?_⟩;obtain⟨x3,h3,r3⟩:=A.a3;have S:=ak np (.tup [.ref D2,.ref D3]);refine k p _ (A.same.trans S) (.tup aj (.cons (wE A.n2 (S _ _ A.a2)) (.cons (.lst A.n3 (S _ _ h3) ((r3.same S).mono λ_ z=>z.1)) .nil)))
abbrev mD(K:Fg):Sp:=λvs H Q _=>∃(v:V) (n:Nat) (ws:List Str) (ts:List Tn) (t:Tn),vs=[v,.int (n:Int)]/\Rz K H v (dV ws ts)/\ts[n]?=some t/\∀z,Rz K H z (dT t)->Q z H
abbrev lY(K:Fg):TS:=(am (aw (ar (aE K) (aa 0) (tC (.int 1))) (al 2))
 (am (aS (Cj (gb (tB (aD i7 [] E0 (ae (aa 1) ag)))) (gb (aR (ua OA wM (tC (.int 0)) (aa 1) (bo (bW K) (ae (aa 2) ag))))))
 ia
 aV)
 (aG (ar (aE K) (aa 2) (aa 1)))))
def zb{K:Fg}:ρ 3 (mD K) (lY K):=by
 fail "R";obtain⟨v,n,ws,ts,t,rfl,rv,ht,k⟩:=h;obtain⟨a,v1,v2,rfl,ha,_,r2⟩:=iO rv;obtain⟨b,xs,rfl,hb,rx⟩:=r2.b5;have lx:xs.length=ts.length:=by rw[rx.length,Qx]
 have ln:n<ts.length:=(QC.mp ht).1;rw[L2.aP hN];walk_at "t";unfold lY;cbv;refine aF (SqT.of ha) (v:=.ref b) rfl ?_;cbv;refine⟨(n:Int),rfl,?_⟩;cbv;refine bb (λ_=>?_) (λz=>absurd z (by lia));cbv;refine ik (SqT.of hb) ?_;cbv;refine eN (λz=>absurd z (by lia)) (λ_=>?_);cbv;obtain⟨u,eu,ru⟩:=rx.get' (i:=n) (d:=dT t) (by rw[QD,ht];rfl);refine aF (SqT.of hb) (v:=u) (aI eu) ?_;exact k u ru
structure Kh (w:Nat) (ts:List Tn):Prop where
 le:ts.length<=8
 w5:w<=5
 fr:∀t∈ts,t.fr.length=w
 wide:Wide w (ts.map Nu)
 bnd:Cp 2 (ts.map Nu)
def PV(vo:oz ws ts):Kh ws.length ts:=by
 obtain⟨hs,po,_,tk⟩:=vo.turns;have ho:∀t∈ts,eQ ws.length t.fr/\eQ ws.length t.to:=λt ht=>⟨po.2 _ (tk.ok t ht).1,po.2 _ (tk.ok t ht).2.1⟩
 refine⟨tk.le,vo.w5,λt ht=>(ho t ht).1.1,λr hr=>?_,λr hr c hc=>?_⟩
 .obtain⟨t,ht,rfl⟩:=QU.mp hr;unfold Nu;rw[YM,(ho t ht).1.1,(ho t ht).2.1,Nat.min_self]
 .obtain⟨t,ht,rfl⟩:=QU.mp hr;unfold Nu at hc;obtain⟨i,hi⟩:=RA hc;rw[U3] at hi;cases e1:t.fr[i]? with
  |none=>rw[e1] at hi;simp at hi
  |some x =>
   cases e2:t.to[i]? with
   |none=>rw[e1,e2] at hi;simp at hi
   |some y =>
    rw[e1,e2] at hi;have hi':=Q7 hi;have b1:=(ho t ht).1.2 x (QI e1);have b2:=(ho t ht).2.2 y (QI e2);show c.natAbs<4;lia
def NB{n:Nat}(h:n<=8):bits 2 n<=9000:=Q0 (gA h) (by decide)
end Rw
namespace Cl
end Cl
namespace Mk
open Rk Sz Sf Cl
def gU(a:List Int)(j:Nat):pt a.tail j=pt a (j+1):=by
 cases a with
 |nil=>rfl
 |cons x a=>rfl
def fz(a:List Int)(r:List Int)(R:List (List Int))(q:Nat):bE a (r :: R) q=pt a 0*pt r q+bE a.tail R q:=by
 cases a with
 |nil=>show(0:Int)=0*pt r q+bE [] R q;cases R <;> simp[bE]
 |cons x a=>rfl
def jT{α β:Int}{q:Nat}:∀{R:List (List Int)} {a b c:List Int},(∀j,pt c j=α * pt a j + β * pt b j)->bE c R q=α * bE a R q + β * bE b R q
 |[],a,b,c,_=>by rw[nV,nV,nV];simp
 |r :: R,a,b,c,h=>by
  have ih:=jT (R:=R) (a:=a.tail) (b:=b.tail) (c:=c.tail) (q:=q) λj=>by rw[gU,gU,gU];exact h (j+1)
  rw[fz,fz,fz,ih,h 0,Wr,Ux,Ux,SA,SA];lia
def eF(s:List Int)(w j:Nat):pt (s.drop w) j=pt s (w+j):=by
 unfold pt;rw[Qz,Qz,Zc]
def vg{q:Nat}:∀{R:List (List Int)} {a:List Int} {i:Nat} {r:List Int},R[i]?=some r->(∀j,pt a j=if j=i then 1 else 0)->bE a R q=pt r q
 |x :: R,a,0,r,e,h=>by
  have e':x=r:=Q7 e;have z:bE a.tail R q=0*bE [] R q+0*bE [] R q:=jT λj=>by rw[gU,h (j+1)];simp
  rw[fz,z,h 0,e'];simp
 |x :: R,a,i+1,r,e,h=>by
  have ih:=vg (R:=R) (a:=a.tail) (i:=i) (q:=q) (by simpa using e) λj=>by rw[gU,h (j+1)];simp
  rw[fz,ih,h 0];simp
abbrev Md(w:Nat)(R:List (List Int))(s:List Int):Prop:=∀q<w,pt s q=bE (s.drop w) R q
def Mm{w:Nat}{R:List (List Int)}{r:List Int}{i:Nat}(hr:R[i]?=some r)(lr:r.length=w):Md w R (r++bG R.length i):=by
 intro q hq;have hi:i<R.length:=(QC.mp hr).1
 have e:pt (r++bG R.length i) q=pt r q:=by
  unfold pt;rw[Qz,RV (by lia),Qz]
 rw[e];refine(vg hr λj=>?_).symm;rw[eF,uC lr];by_cases z:j=i
 .rw[if_pos ⟨z ▸ hi,z⟩,if_pos z]
 .rw[if_neg (λy=>z y.2),if_neg z]
def Ml(my:Md w R y)(ms:Md w R s)(l:y.length=s.length):Md w R (cR y s):=by
 intro q hq;unfold cR;generalize (fp s).getD 0=p;obtain⟨g,hg,eg⟩:=jI (kh s p y)
 have e1:g*pt (bB (kh s p y)) q=g*bE ((bB (kh s p y)).drop w) R q:=by
  have a1:bE ((kh s p y).drop w) R q=g*bE ((bB (kh s p y)).drop w) R q+0*bE [] R q:=jT λj=>by
   rw[eF,eF,eg (w+j)];simp
  have a2:bE ((kh s p y).drop w) R q=pt s p*bE (y.drop w) R q+(-pt y p)*bE (s.drop w) R q:=jT λj=>by
   rw[eF,eF,eF,zz l,TK (pt y (w+j)),U9];lia
  rw[eg q,zz l,my q hq,ms q hq];rw[a1,TL,Uy] at a2;rw[a2,TK (bE (y.drop w) R q),U9];lia
 exact Vk hg e1
def kT{w L:Nat}{R:List (List Int)}:∀(S:List (List Int)) (y:List Int),(∀s∈S,s.length=L/\Md w R s)->y.length=L->Md w R y->Md w R (aY y S)
 |[],y,_,_,m=>m
 |s :: S,y,h,l,m=>by
  have hs:=h s QK;refine kT S (cR y s) (λt ht=>h t (QL _ ht)) ?_ (Ml m hs.2 (by rw[l,hs.1]));unfold cR;rw[dB,nZ (by rw[l,hs.1]),hs.1]
def Be{g:Int}:∀(r:List Int) (d:Int),(r.map λx=>g*x).foldl Gd.gd (g*d)=(g.natAbs:Int)*r.foldl Gd.gd d\/(r=[]/\(r.map λx=>g*x).foldl Gd.gd (g*d)=g*d)
 |[],d=>.inr ⟨rfl,rfl⟩
 |x :: r,d=>by
  refine .inl ?_
  have e:Gd.gd (g*d) (g*x)=(g.natAbs:Int)*Gd.gd d x:=by
   unfold Gd.gd;rw[XQ];simp
  show(r.map λx=>g*x).foldl Gd.gd (Gd.gd (g*d) (g*x))=(g.natAbs:Int)*r.foldl Gd.gd (Gd.gd d x);rw[e]
  have abs:∀(r:List Int) (d:Int),(r.map λx=>g*x).foldl Gd.gd ((g.natAbs:Int)*d)=(g.natAbs:Int)*r.foldl Gd.gd d:=by
   intro r
   induction r with
   |nil=>intro d;rfl
   |cons y r ih =>
    intro d
    have e:Gd.gd ((g.natAbs:Int)*d) (g*y)=(g.natAbs:Int)*Gd.gd d y:=by
     unfold Gd.gd
     have:Zu ((g.natAbs:Int)*d) (g*y)=Zu (g*d) (g*y):=by
      rw[WF,WF,RM,RM,RM];simp
     rw[this,XQ];simp
    show(r.map λx=>g*x).foldl Gd.gd (Gd.gd ((g.natAbs:Int)*d) (g*y))=_;rw[e,ih];rfl
  exact abs r _
def jR:∀(r:List Int) (d:Int),0<=d->0<=r.foldl Gd.gd d
 |[],d,h=>h
 |x :: r,d,_=>jR r _ (Gd.Bb d x)
def EH{i:Nat}(h:fp r=some i):cM (bB r)=1/\fp (bB r)=some i/\0<pt (bB r) i:=by
 obtain⟨f1,f2,f3⟩:=cW h;have d0:=vf f2;have dd:=tu r i;have el:bB r=r.map λx=>x.fdiv (dY r i):=by unfold bB;rw[h]
 have back:r=(bB r).map λx=>dY r i*x:=by
  rw[el,Sg]
  conv=>lhs;rw[<- List.map_id r]
  refine Su λx hx=>?_
  show x=dY r i*x.fdiv (dY r i);rw[Wu (dd x hx)]
 have ptl:∀q,dY r i*pt (bB r) q=pt r q:=by
  intro q;rw[el];unfold pt;rw[Qz,QD,Qz];cases e2:r[q]? with
  |none=>exact TZ _
  |some c=>exact Wu (dd c (QI e2))
 have g0:=Bf f2;have gn:0<=cM r:=jR r 0 (Z8 _);have gp:0<cM r:=by lia
 have da:((dY r i).natAbs:Int)=cM r:=by unfold dY;split <;> lia
 refine⟨?_,?_,?_⟩
 .have:=Be (g:=dY r i) (bB r) 0
  rw[TZ,<- back] at this;rcases this with e|⟨e,_⟩
  .have e':cM r=cM r*cM (bB r):=by rw[da] at e;exact e
   have:cM r*cM (bB r)=cM r*1:=by lia
   exact Vk g0 this
  .rw[e] at back;rw[back] at f1;simp at f1
 .have nz:pt (bB r) i≠0:=λz=>f2 (by rw[<- ptl i,z,TZ])
  have l:i<(bB r).length:=by rw[dB];exact f1
  unfold fp;rw[Uj];refine⟨l,?_,λj hj=>?_⟩
  .unfold pt at nz;rw[Qz,Qy l] at nz;simpa using nz
  .have z:pt (bB r) j=0:=by
    have:=ptl j
    rw[f3 j hj] at this;exact(Sq.mp this).resolve_left d0
   unfold pt at z;rw[Qz,Qy (by lia)] at z;simpa using z
 .have e:=ptl i;unfold dY at e;split at e
  .rename_i ng;by_cases z:0<pt (bB r) i
   .exact z
   .have:0<=cM r * -pt (bB r) i:=Zat gn (by lia)
    rw[Z7] at this;rw[U9] at e;lia
  .rename_i ng;by_cases z:0<pt (bB r) i
   .exact z
   .have:0<=cM r * -pt (bB r) i:=Zat gn (by lia)
    rw[Z7] at this;lia
def Bj(h:d5 M)(n:pt m p≠0)(z:∀t∈M,pt t p=0):d5 (M++[m]):=by
 intro a la ha;obtain⟨a1,a2,rfl,l1,l2⟩:=split_len la;obtain⟨x,rfl⟩:∃x,a2=[x]:=SV.mp l2
 have x0:x=0:=by
  have:=ha p
  rw[g_ _ _ _ l1,c9 z] at this;have e:0+(x*pt m p+0)=0:=this;exact(Sq.mp (by lia:x*pt m p=0)).resolve_right n
 intro c hc;rcases Q8.mp hc with q|q
 .refine h a1 l1 (λk=>?_) c q
  have:=ha k
  rw[g_ _ _ _ l1,x0] at this;have e:bE a1 M k+(0*pt m k+0)=0:=this;lia
 .rw[QY.mp q];exact x0
def oQ:∀{S:List (List Int)} {ps:List Nat},cB S ps->S.length=ps.length
 |_,_,.nil=>rfl
 |_,_,.cons _ _ r=>congrArg (· + 1) (oQ r)
def ud{p:Nat}:∀{S:List (List Int)} {ps:List Nat},cB S ps->(∀t∈S,pt t p=0)->p∉ps
 |_,_,.nil,_=>by simp
 |_,_,.cons (s:=s) (p:=q) h1 _ r,z=>λm=>by
  rcases Q5.mp m with e|m
  .exact h1 (by rw[<- e];exact z s QK)
  .exact ud r (λt ht=>z t (QL _ ht)) m
def ue:∀{S:List (List Int)} {ps:List Nat},cB S ps->ps.Nodup
 |_,_,.nil=>To
 |_,_,.cons _ h2 r=>RH.mpr ⟨ud r h2,ue r⟩
def C7{w:Nat}(h:cB S ps)(l:∀p∈ps,p<w):S.length<=w:=by
 have:=Ti.cw (hs:=QR w) (ue h) λp hp=>Rb.mpr (l p hp)
 rw[Ra] at this;rw[oQ h];exact this
structure Good (R:List (List Int)) (w b:Nat) (m:List Int):Prop where
 len:m.length=R.length
 nought:∀q,bE m R q=0
 low:cM m=1
 first:∃k,fp m=some k/\0<pt m k
 bnd:∀c∈m,c.natAbs<2 ^ bits b (min w R.length)
structure MI (R:List (List Int)) (w b i:Nat) (st:qS):Prop where
 cnt:st.makers.length+st.free.length=i
 md:∀s∈st.stairs,Md w R s
 good:∀m∈st.makers,Good R w b m
 last:∀m∈st.makers,∀j,i<=j->pt m j=0
 free:d5 st.makers
def Fc{q:Nat}(hw:Wide w R)(hq:w<=q):bE a R q=0:=c9 λs hs=>by
 unfold pt;rw[Qz,RD (by rw[hw s hs];exact hq)];rfl
def Js{st:qS}{r:List Int}(hw:Wide w R)(I:SI R w b i st)(J:MI R w b i st)(hb:1<=b)(hr:R[i]?=some r)(br:∀c∈r,c.natAbs<2 ^ b):MI R w b (i+1) (jo R.length st i r):=by
 have lr:=hw r (QI hr);have hi:i<R.length:=(QC.mp hr).1;obtain⟨Y,ps,s1,s2,s3,s4,C⟩:=HP I hb hi lr br;have lx:(r++bG R.length i).length=w+R.length:=by unfold bG;rw[QT,Qx,Ra,lr]
 have M:Md w R (cI R.length st i r):=kT st.stairs _ (λs hs=>⟨I.len s hs,J.md s hs⟩) lx (Mm hr lr);have ws:=C7 s1 s2;obtain⟨d,c,G,ld,hc,hG,e⟩:=C.made
 have at_i:pt (cI R.length st i r) (w+i)≠0:=by
  intro z;have e1:=e (w+i);rw[z,uC lr,c9 λs hs=>I.own s hs i (QH _),if_pos ⟨hi,rfl⟩] at e1;lia
 unfold jo;generalize cI R.length st i r=z at Y C M at_i;obtain⟨q,f1,f2⟩:=Y.ne;rw[f1];show MI R w b (i+1) (if q<r.length then _ else _);split
 .refine⟨?_,λs hs=>?_,J.good,λm hm j hj=>J.last m hm j (by lia),J.free⟩
  .show st.makers.length+(st.free++[i]).length=i+1;rw[QT]
   have:=J.cnt
   show st.makers.length+(st.free.length+1)=i+1;lia
  .rcases Q8.mp hs with m|m
   .exact J.md s m
   .rw[QY.mp m];exact M
 .rename_i lq;rw[lr] at lq;have z0:∀k,k<w->pt z k=0:=λk hk=>(cW f1).2.2 k (by lia)
  rw[lr];have dn:pt (z.drop w) i≠0:=by rw[eF];exact at_i
  obtain⟨k,fk⟩:∃k,fp (z.drop w)=some k:=by
   cases f:fp (z.drop w) with
   |none=>exact absurd (Bk f i) dn
   |some k=>exact⟨k,rfl⟩
  obtain⟨l1,l2,l3⟩:=EH fk;obtain⟨g,hg,eg⟩:=jI (z.drop w)
  have zero:∀j,pt (z.drop w) j=0->pt (bB (z.drop w)) j=0:=λj h=>by
   have:=eg j
   rw[h] at this;exact(Sq.mp this).resolve_left hg
  have G1:Good R w b (bB (z.drop w)):=by
   refine⟨?_,λq=>?_,l1,⟨k,l2,l3⟩,?_⟩
   .rw[dB,Sw,Y.len];lia
   .by_cases hq:q<w
    .have a1:bE (z.drop w) R q=g*bE (bB (z.drop w)) R q+0*bE [] R q:=jT λj=>by rw[eg j];simp
     rw[<- M q hq,z0 q hq,TL,Uy] at a1;exact(Sq.mp a1.symm).resolve_left hg
    .exact Fc hw (by lia)
   .refine uM λc hc=>?_
    exact Re (Y.bnd c (U_ hc)) (QW (by decide) (gA (by have:=I.cnt;lia)))
  refine⟨?_,J.md,λm hm=>?_,λm hm j hj=>?_,?_⟩
  .show(st.makers++[_]).length+st.free.length=i+1;rw[QT]
   have:=J.cnt
   show st.makers.length+1+st.free.length=i+1;lia
  .rcases Q8.mp hm with y|y
   .exact J.good m y
   .rw[QY.mp y];exact G1
  .rcases Q8.mp hm with y|y
   .exact J.last m y j (by lia)
   .rw[QY.mp y];exact zero j (by rw[eF];exact Y.own j hj)
  .refine Bj (p:=i) J.free (λy=>dn ?_) λt ht=>J.last t ht i (QH _)
   rw[<- eg i,y,TZ]
def Mi{R:List (List Int)}{w b:Nat}(hw:Wide w R)(hb:1<=b)(br:Cp b R):∀i,i<=R.length->MI R w b i (y6 R i)
 |0,_=>⟨rfl,(λs hs=>by cases hs),(λs hs=>by cases hs),(λs hs=>by cases hs),λa la _ c hc=>by
   have:a=[]:=SK.mp la
   subst this
   cases hc⟩
 |i+1,h=>by
  have hr:R[i]?=some (R.getD i []):=by rw[Qz,Qy (by lia)];rfl
  exact Js hw (HI hw hb br i (by lia)) (Mi hw hb br i (by lia)) hb hr (br _ (QI hr))
end Mk
namespace Rw
open PySem L2 Fr G1 Sm Vs G2 Rk Sz Sf Cl
open PySem.W (Dat kqdOk)
abbrev dM(M:List (List Int)):Dat:=.list (M.map dL)
abbrev mI(K:Fg):Sp:=λvs H Q _=>∃(a:Addr) (R:List (List Int)) (w b:Nat),vs=[.ref a]/\BZ H a R/\Wide w R/\R.length<=20/\w<=20/\Cp b R/\1<=b/\bits b R.length<=9000 /\
 ∀(p:Addr) (H':Hp),Same H H'->Rp K (λa=>H a=none) H' (.ref p) (dM (Ob R).makers)->Q (.ref p) H'
abbrev mf(K:Fg):TS:=(aG (ar (aE K) (aD (yE K) [] E0 (ae (aa 0) ag)) (tC (.int 1))))
def zg{K:Fg}:ρ 1 (mI K) (mf K):=by
 fail "R";obtain⟨a,R,w,b,rfl,hr,hw,hl,hw1,hb,hb1,hbits,k⟩:=h;rw[L2.aP hN];walk_at "t";unfold mf;cbv;refine⟨a,R,w,b,rfl,hr,hw,hl,hw1,hb,hb1,hbits,λp H1 S1 rp=>?_⟩;obtain⟨q,xs,e,hq,rx⟩:=rp.b5;cases e;cases rx with
 |cons h1 r1 =>
  cases r1 with
  |cons h2 r2 =>
   cases r2;obtain⟨c,ys,rfl,nc,hc,ry⟩:=Rp.kU h2;cbv;refine aF (SqT.of hq) (v:=.ref c) (aI (j:=1) rfl) ?_;exact k c H1 S1 h2
def Ov{K:Fg}{R:List (List Int)}(A:Acc K H0 p H (R.map dL)):BZ H p R:=by
 obtain⟨xs,h1,h2⟩:=A.at_;refine⟨xs,h1,by rw[h2.length,Qx],λi x r hx hr=>?_⟩;obtain⟨d,g1,g2⟩:=h2.get hx;rw[QD,hr] at g1;cases g1;obtain⟨b,rfl,_,hb⟩:=wF g2;exact⟨b,rfl,.inl hb⟩
end Rw
namespace Dn
open PySem L2 Fr G1 Sm Vs G2 Rk Sz
open PySem.W (Dat kqdOk)
abbrev pr(t:Tn):Tp:=(t.fr,t.to)
end Dn
namespace L2
open PySem
def tH{Q:VK}{H:Hp}{lo:Int}{n:Nat}(h:∀D,H D=none->∃Pv:Nat->Hp->Prop,Pv 0 (upd H D (.lst []))/\(∀i H2,i<n->Pv i H2->Fz g k tc te σ (.int (lo+i)) H2 D n i Pv)/\∀H2,Pv n H2->Q (.ref D) H2):wK (oG lo n) k g tc te σ Q H:=by
 intro D nD;obtain⟨Pv,h0,hs,hd⟩:=h D nD;refine⟨λi m H=>m=n-i/\i<=n/\Pv i H,⟨n,by simp,RL _,h0⟩,?_⟩;rintro i m H ⟨rfl,hi,p⟩;by_cases Ad:i<n
 .refine .inr ⟨Ad,λv H' y us hu=>?_⟩;obtain⟨rfl,rfl⟩:=y;exact hs i _ Ad p us hu
 .have e:i=n:=by lia
  subst e;exact .inl ⟨QH _,hd H p⟩
end L2
namespace Dn
open PySem L2 Fr G1 Sm Vs G2 Rk Sz
open PySem.W (Dat kqdOk kas_sort)
open PySem.W (Dat kqdOk)
abbrev so(K:Fg):Sp:=λvs H Q _=>∃(c z:Int) (n:Nat),vs=[.int c,.int (n:Int),.int z]/\n<=5/\0<z/\z.natAbs<2 ^ 9000/\∀(p:Addr) (H':Hp) (cs:List Int),Same H H'->cs.length=n->(∀x∈cs,0<=x/\x<z)->Rz K H' (.ref p) (dI cs)->Q (.ref p) H'
nonrec abbrev yd(K:Fg):TS:=(aS (aR (ar fV (ar aU (aa 0) (tC (.int 2))) (tC (.int 1))))
 (am (bz (cZ K "list" aO (aa 3) (ae (ar aU (aa 4) (aa 2)) ag)))
 (aw (ar D_ (aa 4) (aa 2)) (al 4)))
 (bz (cZ K "list" aO (aa 3) (ae (ar aU (aD dH [] E0 (ae (aa 0) (ae (ar aZ (tC (.int 30)) (aa 5)) ag))) (aa 2)) ag))))
abbrev rK(K:Fg):TS:=(am (aw (bR ag) (al 3))
 (am (aw (ar cg (aa 0) (tC (.int 2))) (al 4))
 (am (aW (ck (ae (aa 1) ag)) (al 5)
 (yd K))
 (aG (bo (cC K) (ae (aa 3) ag))))))
def DZ{K:Fg}:ρ 6 (so K) (rK K):=by
 fail "R";obtain⟨c,z,n,rfl,hn,hz,hz2,k⟩:=h;rw[L2.aP hN];walk_at "t";unfold rK;cbv;refine⟨by decide,λl nl=>?_⟩;have A0:AccZ K H l (upd H l (.lst [])) (([]:List Int).map Rn):=AccZ.start (Same.refl _) nl;generalize upd H l (.lst [])=H0 at A0 ⊢;cbv;rw[RJ];refine aT (λi σ H2=>∃(cs:List Int) (m:Int) (u5:Option V),σ=[↥c,↥(n:Int),↥z,⇑l,↥m,u5]/\AccZ K H l H2 (cs.map Rn)/\cs.length=i/\∀x∈cs,0<=x/\x<z) ⟨[],_,none,rfl,A0,rfl,by simp⟩ ?_ ?_
 .rintro i σ H2 hi ⟨cs,m,u5,rfl,A,lc,bc⟩
  have fin:∀(x:Int) (σ':St),0<=x->x<z->∀H3,AccZ K H l H3 (cs.map Rn++[.int x])->AccZ K H l H3 ((cs++[x]).map Rn)/\(cs++[x]).length=i+1/\∀y∈cs++[x],0<=y/\y<z:=by
   intro x _ x0 x1 H3 A3;refine⟨by rw[QJ];exact A3,by rw[QT,lc];rfl,λy hy=>?_⟩;rcases Q8.mp hy with m|m
   .exact bc y m
   .rw[QY.mp m];exact⟨x0,x1⟩
  cbv;refine bb (λe=>?_) (λe=>?_)
  .cbv;refine⟨A.ty,?_⟩;cbv;refine bV A (.int _) (av (by rw[Qx];lia)) λH3 A3 _ _ _=>?_
   obtain⟨f1,f2,f3⟩:=fin (m % z) [] (Sv _ (by lia)) (Sj _ hz) H3 A3;cbv;refine⟨m,z,rfl,rfl,⟨by lia,hz2⟩,?_⟩;cbv;exact⟨cs++[m % z],_,_,rfl,f1,f2,f3⟩
  .cbv;refine⟨A.ty,?_⟩;cbv;refine⟨c,30+(0+(i:Int)),rfl,by lia,by lia,λq hq=>?_⟩;cbv;refine bV A (.int _) (av (by rw[Qx];lia)) λH3 A3 _ _ _=>?_
   obtain⟨f1,f2,f3⟩:=fin (q % z) [] (Sv _ (by lia)) (Sj _ hz) H3 A3;exact⟨cs++[q % z],_,_,rfl,f1,f2,f3⟩
 .rintro σ H2 ⟨cs,m,u5,rfl,A,lc,bc⟩;cbv;refine eM (SqL.of (AccZ.ints A)) λp np=>?_
  exact k p _ cs (A.same.trans (ak np _)) lc bc (.tup aj (RpL.ints _))
abbrev Dc(K:Fg):Sp:=λvs H Q _=>∃(v w:V) (t:Tn) (c:List Int),vs=[v,w]/\Rz K H v (dT t)/\Rz K H w (dI c)/\t.fr.length<=100/\∀H',Same H H'->Q (.bl (can (pr t) c)) H'
def Nw{t:Tp}:decide ((((SM t.1 c).filter λz=>decide (z.2<z.1)).length:Int)=0)=can t c:=by
 cases e:can t c with
 |true =>
  unfold can at e;rw[V_] at e
  have z:(SM t.1 c).filter (λz=>decide (z.2<z.1))=[]:=X_.mpr λx hx=>by
   have:=e x hx
   simp only[decide_eq_true_eq] at this ⊢;lia
  rw[z];rfl
 |false =>
  unfold can at e;rw[List.all_eq_false] at e;obtain⟨x,hx,p⟩:=e
  have:0<((SM t.1 c).filter λz=>decide (z.2<z.1)).length:=Vn.mpr λz=>by
   have m:x∈(SM t.1 c).filter λz=>decide (z.2<z.1):=Ri.mpr ⟨hx,by simp only[decide_eq_true_eq] at p ⊢;lia⟩
   rw[z] at m;cases m
  exact decide_eq_false (by lia)
abbrev Ho(K:Fg):TS:=(aG (ar fV (bo (bW K) (ae (d8 (qj K .T .T (ae (ar (aE K) (aa 0) (tC (.int 0))) (ae (aa 1) ag))) 2 (cx K 2 (aX (al 0) (aX (al 1) cy))) (aR (ar wM (aa 1) (aa 0))) (tC (.int 1))) ag)) (tC (.int 0))))
def K_{K:Fg}:ρ 2 (Dc K) (Ho K):=by
 fail "R";obtain⟨v,w,t,c,rfl,rv,rw_,hl,k⟩:=h;obtain⟨a,w1,w2,w3,rfl,ha,q1,q2,_⟩:=jU rv;obtain⟨b,rfl,hb⟩:=bM rw_;obtain⟨f,rfl,hf⟩:=bM q1;rw[L2.aP hN];walk_at "t";unfold Ho;have lz:(SM t.fr c).length=min t.fr.length c.length:=Zad;cbv;refine aF (SqT.of ha) (v:=.ref f) rfl ?_;cbv;refine⟨f,b,_,_,rfl,SqT.of hf,SqT.of hb,?_⟩;have ml:min (t.fr.map V.int).length (c.map V.int).length=(SM t.fr c).length:=by rw[Qx,Qx,lz]
 refine BI (k1:=.T) (k2:=.T) (xs:=t.fr.map V.int) (ys:=c.map V.int) λD nD=>⟨λi H2=>AccZ K H D H2 ((((SM t.fr c).take i).filter λz=>decide (z.2<z.1)).map λ_=>Rn 1),by simpa using AccZ.start (Same.refl _) nD,λi H2 _ A=>⟨SqT.of (A.same _ _ hf),SqT.of (A.same _ _ hb)⟩,?_,?_⟩
 .intro i x y H2 T e1 e2 A nT us hu
  obtain⟨u1,u2',rfl⟩:∃u0 u1,us=[u0,u1]:=ex2 hu
  rw[QD] at e1 e2;obtain⟨m1,f1,rfl⟩:=QG.mp e1;obtain⟨m2,f2,rfl⟩:=QG.mp e2;have ez:(SM t.fr c)[i]?=some (m1,m2):=by rw[Uk];exact⟨f1,f2⟩
  have li:i<(SM t.fr c).length:=(QC.mp ez).1;have A2:=A.on (ak nT (.tup [.int m1,.int m2]));have lf:(((SM t.fr c).take i).filter λz=>decide (z.2<z.1)).length<=100:=Q0 (Sc _ _) (by rw[Q3];lia);have er:(((SM t.fr c).take (i+1)).filter λz=>decide (z.2<z.1))=(((SM t.fr c).take i).filter λz=>decide (z.2<z.1))++[(m1,m2)].filter λz=>decide (z.2<z.1):=by rw[QX,ez,TH];rfl
  refine bP (SqT.of aj) rfl ?_;generalize upd H2 T (.tup [.int m1,.int m2])=H3 at A2 ⊢;cbv;refine⟨⟨[↥m1,↥m2],rfl,rfl⟩,?_⟩;cbv;refine bb (λe=>?_) (λe=>?_)
  .cbv;refine a6 (by rw[ml];exact li) ?_;refine A2.cA (.int 1) (av (by rw[Qx];lia)) λH4 A4=>?_
   show AccZ K H D H4 ((((SM t.fr c).take (i+1)).filter λz=>decide (z.2<z.1)).map λ_=>Rn 1);rw[er,Sb (by simpa using e),QJ];exact A4
  .refine fe (by rw[ml];exact li) ?_;show AccZ K H D H3 ((((SM t.fr c).take (i+1)).filter λz=>decide (z.2<z.1)).map λ_=>Rn 1);rw[er,RU (by simpa using e)];simpa using A2
 .intro H2 A;rw[ml,QM (QH _)] at A;obtain⟨zs,hzs,rz⟩:=A.at_;cbv;refine b7 (SqL.of hzs) ?_;rw[rz.length,Qx];cbv
  have:=Nw (t:=pr t) (c:=c)
  rw[show((SM t.fr c).filter λz=>decide (z.2<z.1))=((SM (pr t).1 c).filter λz=>decide (z.2<z.1)) from rfl,this];exact k H2 A.same
abbrev e9(K:Fg):Sp:=λvs H Q _=>∃(v w:V) (t:Tn) (c:List Int),vs=[v,w]/\Rz K H v (dT t)/\Rz K H w (dI c)/\t.fr.length=c.length/\t.to.length=c.length/\c.length<=100/\∀(p:Addr) (H':Hp),Same H H'->Rz K H' (.ref p) (dI (beh (pr t) c))->Q (.ref p) H'
abbrev mn(K:Fg):TS:=(aG (bo (cC K) (ae (gc (EY K (ae (ar (aE K) (aa 0) (tC (.int 0))) (ae (ar (aE K) (aa 0) (tC (.int 1))) (ae (aa 1) ag)))) 3 (cx K 3 (aX (al 0) (aX (al 1) (aX (al 2) cy)))) (ar aZ (ar iF (aa 2) (aa 0)) (aa 1))) ag)))
def zi{K:Fg}:ρ 2 (e9 K) (mn K):=by
 fail "R";obtain⟨v,w,t,c,rfl,rv,rw_,l1,l2,hl,k⟩:=h;obtain⟨a,w1,w2,w3,rfl,ha,q1,q2,_⟩:=jU rv;obtain⟨b,rfl,hb⟩:=bM rw_;obtain⟨f,rfl,hf⟩:=bM q1;obtain⟨g,rfl,hg⟩:=bM q2;rw[L2.aP hN];walk_at "t";unfold mn;have lb:(beh (pr t) c).length=c.length:=by unfold beh;rw[Qx,Ra]
 cbv;refine Gf ?_;cbv;refine aF (SqT.of ha) (v:=.ref f) rfl ?_;cbv;refine aF (SqT.of ha) (v:=.ref g) rfl ?_;cbv;refine⟨f,g,b,_,_,_,rfl,SqT.of hf,SqT.of hg,SqT.of hb,?_⟩;refine qu (xs:=t.fr.map V.int) (ys:=t.to.map V.int) (zs:=c.map V.int) (m:=c.length) (by rw[Qx];exact l1) (by rw[Qx];exact l2) (Qx _) λD nD=>⟨λi H2=>AccZ K H D H2 (((beh (pr t) c).take i).map Rn),by simpa using AccZ.start (Same.refl _) nD,λi H2 _ A=>⟨SqT.of (A.same _ _ hf),SqT.of (A.same _ _ hg),SqT.of (A.same _ _ hb)⟩,?_,?_⟩
 .intro i x y u H2 T e1 e2 e3 A nT us hu
  obtain⟨u1,u2,u3,rfl⟩:∃u0 u1 u2,us=[u0,u1,u2]:=by
   match us,hu with
   |[u0,u1,u2],_=>exact⟨u0,u1,u2,rfl⟩
  rw[QD] at e1 e2 e3;obtain⟨m1,f1,rfl⟩:=QG.mp e1;obtain⟨m2,f2,rfl⟩:=QG.mp e2;obtain⟨m3,f3,rfl⟩:=QG.mp e3;have li:i<c.length:=(QC.mp f3).1
  have ec:(beh (pr t) c)[i]?=some (m3-m1+m2):=by
   unfold beh;rw[QD,RG li];show some (pt c i-pt t.fr i+pt t.to i)=_;unfold pt;rw[Qz,f3,Qz,f1,Qz,f2];rfl
  refine bP (SqT.of aj) rfl ?_;cbv;refine⟨⟨[↥m1,↥m2,↥m3],rfl,rfl⟩,?_⟩;cbv;refine a6 li ?_;refine(A.on (ak nT _)).cA (.int _) (av (by rw[Qx,Q3];lia)) λH4 A4=>?_
  show AccZ K H D H4 (((beh (pr t) c).take (i+1)).map Rn);rw[QX,ec,QJ];exact A4
 .intro H2 A;rw[QM (by lia)] at A;cbv;refine eM (SqL.of (AccZ.ints A)) λp np=>?_
  exact k p _ (A.same.trans (ak np _)) (.tup aj (RpL.ints _))
end Dn
namespace Mk
open Rk Sz Sf Cl
abbrev Dg(R:List (List Int))(y:List Int)(q:Nat):Nat->Int
 |0=>0
 |t+1=>Dg R y q t+pt y t*pt (R.getD t []) q
def um(r:List Int)(R:List (List Int))(y:List Int)(q:Nat):∀t,Dg (r :: R) y q (t+1)=pt y 0*pt r q+Dg R y.tail q t
 |0=>by show(0:Int)+pt y 0*pt r q=_;simp[Dg]
 |t+1=>by
  have ih:=um r R y q t;show Dg (r :: R) y q (t+1)+pt y (t+1)*pt ((r :: R).getD (t+1) []) q=pt y 0*pt r q+(Dg R y.tail q t+pt y.tail t*pt (R.getD t []) q)
  rw[ih,gU];show _+pt y (t+1)*pt (R.getD t []) q=_;lia
def yQ{q:Nat}:∀(R:List (List Int)) (y:List Int),Dg R y q R.length=bE y R q
 |[],y=>by rw[nV];rfl
 |r :: R,y=>by rw[Ru,um,fz,yQ R y.tail]
end Mk
namespace L2
open PySem
def Gi{to ti:TE}{t:Ft}{H:Hp}{Q:St->Hp->Prop}(h:to σ H λo H1=>ti σ H1 λi H2=>t o i v H2 λH3=>Q σ H3):E5 to ti t v σ H Q:=h
end L2
namespace Lo
open Ti
def Rch.trans(h:Rch es a b)(k:Rch es b c):Rch es a c:=by
 induction k with
 |refl=>exact h
 |step _ m ih=>exact .step ih m
abbrev iQ(es:List (Nat×Nat)):List (Nat×Nat):=es++es.map λe=>(e.2,e.1)
def Fl{a b:Nat}(h:(a,b)∈iQ es):(b,a)∈iQ es:=by
 unfold iQ at h ⊢;rcases Q8.mp h with h|h
 .exact Q6 _ (QU.mpr ⟨_,h,rfl⟩)
 .obtain⟨e,m,z⟩:=QU.mp h;refine Rc _ ?_;obtain⟨x,y⟩:=e;simp only[ZaA] at z;rw[<- z.1,<- z.2];exact m
def oi(h:Rch (iQ es) a b):Rch (iQ es) b a:=by
 induction h with
 |refl=>exact .refl
 |step _ m ih=>exact Rch.trans (.step .refl (Fl m)) ih
abbrev at_(f:List Nat)(i:Nat):Nat:=f.getD i 0
abbrev sS(f:List Nat)(e:Nat×Nat):Nat:=if at_ f e.2<at_ f e.1 then at_ f e.2 else at_ f e.1
abbrev qR(f:List Nat)(e:Nat×Nat):Nat:=if at_ f e.2 > at_ f e.1 then at_ f e.2 else at_ f e.1
abbrev c8(f:List Nat)(e:Nat×Nat):List Nat:=f.map λx=>if x=qR f e then sS f e else x
def cV{f:List Nat}{i:Nat}(h:i<f.length):at_ (c8 f e) i=if at_ f i=qR f e then sS f e else at_ f i:=by
 unfold c8 at_;rw[Qz,QD,Qz,Qy h];rfl
def Ju(f:List Nat)(e:Nat×Nat):(sS f e=at_ f e.1/\qR f e=at_ f e.2/\at_ f e.1<=at_ f e.2)\/(sS f e=at_ f e.2/\qR f e=at_ f e.1/\at_ f e.2<=at_ f e.1):=by
 unfold sS qR;by_cases h:at_ f e.2<at_ f e.1
 .right;rw[if_pos h,if_neg (by lia)];lia
 .left;rw[if_neg h];by_cases g:at_ f e.2 > at_ f e.1
  .rw[if_pos g];lia
  .rw[if_neg g];lia
structure FI (n:Nat) (es seen:List (Nat×Nat)) (f:List Nat):Prop where
 len:f.length=n
 le:∀i<n,at_ f i<=i
 fix:∀i<n,at_ f (at_ f i)=at_ f i
 tie:∀i<n,Rch (iQ es) i (at_ f i)
 one:∀e∈seen,at_ f e.1=at_ f e.2
def FI.start(n:Nat)(es:List (Nat×Nat)):FI n es [] (QR n):=by
 have e:∀i<n,at_ (QR n) i=i:=λi h=>by
  unfold at_;rw[Qz,RG h];rfl
 exact⟨Ra,λi h=>by rw[e i h];exact QH _,λi h=>by rw[e i h,e i h],λi h=>by rw[e i h];exact .refl,λe h=>by cases h⟩
def FI.more{seen:List (Nat×Nat)}{e:Nat×Nat}(F:FI n es seen f)(ok:N6 n es)(sub:∀e∈seen,e∈es)(m:e∈es):FI n es (seen++[e]) (c8 f e):=by
 obtain⟨l1,l2⟩:=ok e m;have hl:=F.len;have a1:=F.le e.1 l1;have a2:=F.le e.2 l2;have f1:=F.fix e.1 l1;have f2:=F.fix e.2 l2;have eg:(e.1,e.2)∈iQ es:=Rc _ m;have t12:Rch (iQ es) (at_ f e.1) (at_ f e.2):=Rch.trans (oi (F.tie e.1 l1)) (Rch.trans (.step .refl eg) (F.tie e.2 l2))
 have gl:Rch (iQ es) (qR f e) (sS f e):=by
  rcases Ju f e with⟨x,y,_⟩|⟨x,y,_⟩
  .rw[x,y];exact oi t12
  .rw[x,y];exact t12
 have hls:sS f e<n/\at_ f (sS f e)=sS f e/\sS f e<=qR f e:=by
  rcases Ju f e with⟨x,y,z⟩|⟨x,y,z⟩
  .rw[x,y];exact⟨by lia,f1,z⟩
  .rw[x,y];exact⟨by lia,f2,z⟩
 refine⟨by unfold c8;rw[Qx];exact hl,λi h=>?_,λi h=>?_,λi h=>?_,λd hd=>?_⟩
 .have:=F.le i h
  rw[cV (by lia)];split
  .rename_i z
   have:=hls.2.2
   lia
  .exact this
 .have li:=F.le i h;rw[cV (e:=e) (i:=i) (by lia)];by_cases z:at_ f i=qR f e
  .rw[if_pos z,cV (by lia),hls.2.1];split <;> rfl
  .rw[if_neg z,cV (by lia),F.fix i h,if_neg z]
 .rw[cV (by lia)];by_cases z:at_ f i=qR f e
  .rw[if_pos z]
   have:=F.tie i h
   rw[z] at this;exact Rch.trans this gl
  .rw[if_neg z];exact F.tie i h
 .rcases Q8.mp hd with hd|hd
  .obtain⟨d1,d2⟩:=ok d (sub d hd);rw[cV (by lia),cV (by lia),F.one d hd]
  .cases QY.mp hd;rw[cV (by lia),cV (by lia)];rcases Ju f e with⟨x,y,z⟩|⟨x,y,z⟩
   .rw[x,y,if_pos rfl];split <;> rfl
   .rw[x,y,if_pos rfl];split <;> rfl
abbrev a5(n:Nat)(es:List (Nat×Nat)):List Nat:=es.foldl c8 (QR n)
def uZ(ok:N6 n es)(i:Nat):FI n es (es.take i) ((es.take i).foldl c8 (QR n)):=by
 induction i with
 |zero=>exact FI.start n es
 |succ i ih =>
  by_cases h:i<es.length
  .rw[QX,Qy h,W8,SY];exact ih.more ok (λe he=>SN he) (Ry h)
  .rw[QM (by lia)] at ih ⊢;exact ih
def bX(ok:N6 n es):FI n es es (a5 n es):=by
 have:=uZ ok es.length
 rwa [Sa] at this
def FI.same(F:FI n es es f)(h:Rch (iQ es) i j):at_ f i=at_ f j:=by
 induction h with
 |refl=>rfl
 |step _ m ih =>
  rw[ih];rcases Q8.mp m with m|m
  .exact F.one _ m
  .obtain⟨e,m,z⟩:=QU.mp m;simp only[ZaA] at z;rw[<- z.1,<- z.2];exact(F.one e m).symm
def FI.tied(F:FI n es es f){i j:Nat}(hi:i<n)(hj:j<n):at_ f i=at_ f j↔Rch (iQ es) i j:=by
 refine⟨λh=>?_,F.same⟩;have a:=F.tie i hi;have b:=F.tie j hj;rw[h] at a;exact Rch.trans a (oi b)
abbrev aM(f:List Nat)(v:Nat):List Nat:=(QR f.length).filter λi=>at_ f i=v
abbrev fG(f:List Nat):List (List Nat):=((QR f.length).filter λv=>at_ f v=v).map (aM f)
def FI.mem{seen:List (Nat×Nat)}(F:FI n es seen f){v:Nat}:v∈f↔v<n/\at_ f v=v:=by
 constructor
 .intro h;obtain⟨i,li,e⟩:=Sh.mp h
  have ea:at_ f i=v:=by
   unfold at_;rw[Qz,Qy li];exact e
  rw[F.len] at li
  have:=F.le i li
  have fx:=F.fix i li;rw[ea] at this fx;exact⟨by lia,fx⟩
 .rintro⟨h,e⟩;unfold at_ at e;rw[Qz,Qy (by rw[F.len];exact h)] at e;exact List.mem_of_getElem (by exact e)
def Op{seen:List (Nat×Nat)}(F:FI n es seen f)(h8:n<=8):L2.cT f=(QR f.length).filter λv=>at_ f v=v:=by
 unfold L2.cT
 have e8:QR 8=QR f.length++(QR (8-f.length)).map (f.length + ·):=by
  rw[<- List.range_add];congr 1;have:=F.len;lia
 rw[e8,TH]
 have z:((QR (8-f.length)).map (f.length + ·)).filter (λk=>f.contains k)=[]:=by
  rw[X_];intro a ha;obtain⟨k,_,rfl⟩:=QU.mp ha;rw[VZ,F.mem]
  have:=F.len
  lia
 rw[z,Tx];refine ZB λv hv=>?_
 rw[Rb,F.len] at hv;rw[TV,VZ,F.mem];simp[hv]
end Lo
namespace L2
open PySem
def NG:bootBuiltins "min"=some (.builtin "min"):=by decide +kernel
def sY{te:TE}{H:Hp}{Q:VK}(h:te σ H λx H1=>∃n:Nat,x=.int (n:Int)/\n<=1000/\∀l,H1 l=none->Q (.ref l) (upd H1 l (.lst ((QR n).map λk:Nat=>.int (k:Int))))):gO te σ H Q:=h
def AI{K:Fg}{te:TE}{H:Hp}(h:te σ H λx H1=>ut K x H1 Q):mr K te σ H Q:=h
end L2
namespace Lo
open PySem L2 Fr G1 Sm Vs G2 Ti Sz Rw
open PySem.W (Dat kqdOk)
abbrev zN(l:List Nat):List Int:=l.map λk:Nat=>(k:Int)
def tX(l:List Nat):(zN l).length=l.length:=Qx _
def zV(l:List Nat):(zN l).map V.int=l.map λk:Nat=>V.int (k:Int):=by unfold zN;rw[Sg];rfl
def FB(l m:List Nat):zN (l++m)=zN l++zN m:=QJ
def lE{f:List Nat}{i:Nat}(h:i<f.length):((zN f).map V.int)[i]?=↥(at_ f i:Int):=by
 rw[zV,QD];unfold at_;rw[Qz,Qy h];rfl
abbrev mG(K:Fg):Sp:=λvs H Q _=>∃(a:Addr) (f:List Nat) (v:Nat),vs=[.ref a,.int (v:Int)]/\H a=some (.lst ((zN f).map V.int))/\f.length<=100/\∀(p:Addr) (H':Hp),AccZ K H p H' ((zN (aM f v)).map Rn)->Q (.ref p) H'
abbrev l_(K:Fg):TS:=(aG (d8 (iM K (ae (aa 0) ag)) 2 (cx K 2 (aX (al 0) (aX (al 1) cy))) (aR (ar fV (aa 1) (aa 3))) (aa 0)))
def ze{K:Fg}:ρ 2 (mG K) (l_ K):=by
 fail "R";obtain⟨a,f,v,rfl,ha,hl,k⟩:=h;rw[L2.aP hN];walk_at "t";unfold l_;cbv;refine⟨a,_,rfl,SqL.of ha,?_⟩;have lf:((zN f).map V.int).length=f.length:=by rw[Qx,tX]
 refine k_ (xs:=(zN f).map V.int) λD nD=>⟨λj H2=>AccZ K H D H2 ((zN ((QR j).filter λi=>at_ f i=v)).map Rn),by simpa[zN] using AccZ.start (Same.refl _) nD,λj H2 _ A=>SqL.of (A.same _ _ ha),?_,?_⟩
 .intro j x H2 T hx A nT us hu
  obtain⟨u0,u1,rfl⟩:∃u w,us=[u,w]:=ex2 hu
  have lj:j<f.length:=by rw[<- lf];exact(QC.mp hx).1
  rw[lE lj] at hx;cases hx;have er:((QR (j+1)).filter λi=>decide (at_ f i=v))=((QR j).filter λi=>decide (at_ f i=v))++[j].filter λi=>decide (at_ f i=v):=by rw[Tc,TH]
  have lr:((QR j).filter λi=>decide (at_ f i=v)).length<=100:=Q0 (Sc _ _) (by rw[Ra];lia);have S2:=ak nT (.tup [.int (j:Int),.int (at_ f j:Int)]);have hT:upd H2 T (.tup [.int (j:Int),.int (at_ f j:Int)]) T=some (.tup [.int (j:Int),.int (at_ f j:Int)]):=aj;have A2:=A.on S2;generalize upd H2 T (.tup [.int (j:Int),.int (at_ f j:Int)])=H3 at hT A2 ⊢;cbv;refine bP (SqT.of hT) rfl ?_;cbv;refine⟨⟨[↥(j:Int),↥(at_ f j:Int)],rfl,rfl⟩,?_⟩;cbv;refine bb (λc=>?_) (λc=>?_)
  .have c':at_ f j=v:=by
    have:(at_ f j:Int)=(v:Int):=by simpa using c
    lia
   cbv;refine a6 (by rw[lf];exact lj) ?_;refine A2.cA (.int (j:Int)) (av (by rw[Qx,tX];lia)) λH4 A4=>?_
   show AccZ K H D H4 ((zN ((QR (j+1)).filter λi=>decide (at_ f i=v))).map Rn);rw[er,Sb (by simpa using c'),FB,QJ];exact A4
  .have c' : ¬ at_ f j=v:=λz=>c (by simp[z])
   refine fe (by rw[lf];exact lj) ?_;show AccZ K H D H3 ((zN ((QR (j+1)).filter λi=>decide (at_ f i=v))).map Rn);rw[er,RU (by simpa using c')];simpa using A2
 .intro H2 A;rw[lf] at A;exact k D H2 A
abbrev cQ(ts:List Tn):List (List Int):=(fG (a5 (aH ts).length (aq ts))).map zN
abbrev uh(K:Fg):Sp:=λvs H Q _=>∃(v:V) (ws:List Str) (ts:List Tn),vs=[v]/\Rz K H v (dV ws ts)/\ts.length<=8/\(aH ts).length<=8/\∀(p:Addr) (H':Hp),Same H H'->Rp K (λa=>H a=none) H' (.ref p) (dM (cQ ts))->Q (.ref p) H'
nonrec abbrev CZ(K:Fg):TS:=(am (aw (bo Oy (ae (ar (bJ K) (aa 1) (aa 2)) (ae (ar (bJ K) (aa 1) (aa 3)) ag))) (al 4))
 (am (aw (bo Oz (ae (ar (bJ K) (aa 1) (aa 2)) (ae (ar (bJ K) (aa 1) (aa 3)) ag))) (al 5))
 (aw (fA (ce K (aa 1)) (KH (aR (ar fV (aa 0) (aa 6))) (aa 5) (aa 0))) (al 1))))
nonrec abbrev CY(K:Fg):TS:=(am (aW (ce K (aD (fF K) [] E0 (ae (aa 0) ag))) (cx K 2 (aX (al 2) (aX (al 3) cy)))
 (CZ K))
 (aG (fA (ce K (mr K (aa 1))) (aD (mG K) [] E0 (ae (aa 2) (ae (aa 0) ag))))))
abbrev xO(K:Fg):TS:=(am (aw (gO (bo (bW K) (ae (aD (dh K) [] E0 (ae (aa 0) ag)) ag))) (al 1))
 (CY K))
def Ih{K:Fg}:ρ 6 (uh K) (xO K):=by
 fail "R";obtain⟨v,ws,ts,rfl,rv,ht,h8,k⟩:=h;rw[L2.aP hN];walk_at "t";unfold xO;cbv;refine sY ?_;cbv;refine⟨v,ws,ts,rfl,rv,by lia,λp H1 A1=>?_⟩;obtain⟨xs,hp,rx⟩:=A1.at_;have lx:xs.length=(aH ts).length:=by rw[rx.length,Qx]
 have ok:=bS ts;have le:(aq ts).length=ts.length:=by unfold aq;rw[Qx]
 unfold cQ at k;generalize (aH ts).length=n at lx ok h8 k;cbv;refine b7 (SqL.of hp) ?_;refine⟨n,by rw[lx],by lia,λl nl=>?_⟩;have S2:=ak nl (.lst ((QR n).map λk:Nat=>.int (k:Int)));have hl:upd H1 l (.lst ((QR n).map λk:Nat=>.int (k:Int))) l=some (.lst ((zN (QR n)).map V.int)):=by rw[zV];exact aj
 have S02:=A1.same.trans S2;generalize upd H1 l (.lst ((QR n).map λk:Nat=>.int (k:Int)))=H2 at S2 hl S02 ⊢;cbv;refine⟨v,ws,ts,rfl,rv.same S02,by lia,λpe H3 A3=>?_⟩;obtain⟨ys,hpe,ry⟩:=A3.at_;have S03:=S02.trans A3.same;generalize aq ts=es at ok le ry k A3;have ly:ys.length=es.length:=by rw[ry.length,Qx]
 have hl3:=A3.same _ _ hl;cbv;refine f7 (SqL.of hpe) ?_;refine a_ (xs:=ys) (λj σ H4=>∃(l:Addr) (u2 u3 u4 u5:Option V),σ=[some v,⇑l,u2,u3,u4,u5]/\Same H3 H4/\H4 l=some (.lst ((zN ((es.take j).foldl c8 (QR n))).map V.int))) ⟨l,none,none,none,none,rfl,Same.refl _,hl3⟩ (by rintro j σ H4 _ ⟨_,_,_,_,_,_,S,_⟩;exact SqL.of (S _ _ hpe)) ?_ ?_
 .rintro j x σ H4 hx ⟨m,u2,u3,u4,u5,rfl,S4,hm⟩;have lj:=(QC.mp hx).1;obtain⟨d,g1,g2⟩:=ry.get hx;rw[QD] at g1;obtain⟨e,he,rfl⟩:=QG.mp g1;obtain⟨b,rfl,hb⟩:=BC (g2.same S4);have FI:=uZ ok j;have et:(es.take (j+1)).foldl c8 (QR n)=c8 ((es.take j).foldl c8 (QR n)) e:=by rw[QX,he,W8,SY];rfl
  obtain⟨o1,o2⟩:=ok e (QI he);have lf:=FI.len;rw[et];generalize (es.take j).foldl c8 (QR n)=f at hm FI lf;refine bP (SqT.of hb) rfl ?_;cbv;refine bU (SqL.of hm) (aI (lE (i:=e.1) (by lia))) ?_;cbv;refine bU (SqL.of hm) (aI (lE (i:=e.2) (by lia))) ?_;cbv;refine⟨_,_,rfl,?_⟩
  have q1:(if (at_ f e.2:Int)<(at_ f e.1:Int) then (at_ f e.2:Int) else (at_ f e.1:Int))=(sS f e:Int):=by
   unfold sS;by_cases c:at_ f e.2<at_ f e.1
   .rw[if_pos c,if_pos (by lia)]
   .rw[if_neg c,if_neg (by lia)]
  have q2:(if (at_ f e.2:Int) > (at_ f e.1:Int) then (at_ f e.2:Int) else (at_ f e.1:Int))=(qR f e:Int):=by
   unfold qR;by_cases c:at_ f e.2 > at_ f e.1
   .rw[if_pos c,if_pos (by lia)]
   .rw[if_neg c,if_neg (by lia)]
  rw[q1];cbv;refine bU (SqL.of hm) (aI (lE (i:=e.1) (by lia))) ?_;cbv;refine bU (SqL.of hm) (aI (lE (i:=e.2) (by lia))) ?_;cbv;refine⟨_,_,rfl,?_⟩;rw[q2];cbv;refine sX (SqL.of hm) ?_;have lzf:((zN f).map V.int).length=f.length:=by rw[Qx,tX]
  refine df (xs:=(zN f).map V.int) λD nD=>⟨λi H5=>AccZ K H4 D H5 ((zN ((c8 f e).take i)).map Rn),by simpa[zN] using AccZ.start (Same.refl _) nD,λi H5 _ A=>SqL.of (A.same _ _ hm),?_,?_⟩
  .intro i x H5 hx A;have li:i<f.length:=by rw[<- lzf];exact(QC.mp hx).1
   rw[lE li] at hx;cases hx
   have ej:(c8 f e)[i]?=some (if at_ f i=qR f e then sS f e else at_ f i):=by
    have lj2:i<(c8 f e).length:=by unfold c8;rw[Qx];exact li
    rw[<- cV (e:=e) li];unfold at_;rw[Qz,Qy lj2];rfl
   have fin:∀(w:Nat),w=(if at_ f i=qR f e then sS f e else at_ f i)->oB D ((zN f).map V.int).length i (λi H5=>AccZ K H4 D H5 ((zN ((c8 f e).take i)).map Rn)) (.int (w:Int)) H5:=λw hw=>by
    refine a6 (by rw[lzf];exact li) ?_;refine A.cA (.int (w:Int)) (av (by rw[Qx,tX,Q3];lia)) λH6 A6=>?_
    show AccZ K H4 D H6 ((zN ((c8 f e).take (i+1))).map Rn);rw[QX,ej,<- hw,W8,FB,QJ];exact A6
   cbv;refine bb (λc=>?_) (λc=>?_)
   .have c':at_ f i=qR f e:=by
     have:(at_ f i:Int)=(qR f e:Int):=by simpa using c
     lia
    cbv;exact fin (sS f e) (by rw[if_pos c'])
   .have c' : ¬ at_ f i=qR f e:=λz=>c (by simp[z])
    cbv;exact fin (at_ f i) (by rw[if_neg c'])
  .intro H5 A;have lJ:(c8 f e).length=f.length:=by unfold c8;rw[Qx]
   rw[lzf,<- lJ,Sa] at A;exact⟨D,_,_,_,_,rfl,S4.trans A.same,AccZ.ints A⟩
 .rintro σ H4 ⟨m,u2,u3,u4,u5,rfl,S4,hm⟩;rw[ly,Sa] at hm;have FI:=bX ok;have FI':=FI;unfold a5 at FI k;generalize es.foldl c8 (QR n)=f at hm FI k;have lf:=FI.len;have f8:∀x∈f,x<8:=λx hx=>by have:=(FI.mem.mp hx).1;lia
  cbv;refine AI ?_;cbv;refine⟨m,f,rfl,by rw[<- zV];exact SqL.of hm,f8,λq nq=>?_⟩;have eu:=Op FI h8;have el:(cT f).map (aM f)=fG f:=by rw[eu];rfl
  have S5:=ak nq (.lst ((cT f).map λk:Nat=>.int (k:Int)));have hq:upd H4 q (.lst ((cT f).map λk:Nat=>.int (k:Int))) q=some (.lst ((cT f).map λk:Nat=>.int (k:Int))):=aj;generalize upd H4 q (.lst ((cT f).map λk:Nat=>.int (k:Int)))=H5 at S5 hq ⊢;have lu:((cT f).map λk:Nat=>V.int (k:Int)).length=(cT f).length:=Qx _;have lu8:(cT f).length<=8:=by unfold cT;exact Sc _ _
  refine sX (SqL.of hq) ?_;refine df (xs:=(cT f).map λk:Nat=>.int (k:Int)) λD nD=>⟨λi H6=>Acc K H5 D H6 ((((cT f).take i).map λv=>zN (aM f v)).map dL),by simpa using Acc.start nD,λi H6 _ A=>SqL.of (A.same _ _ hq),?_,?_⟩
  .intro i x H6 hx A;have li:=(QC.mp hx).1;rw[QD] at hx;obtain⟨w,hw,rfl⟩:=QG.mp hx;cbv;refine⟨m,f,w,rfl,A.same _ _ (S5 _ _ hm),by lia,λr H7 C=>?_⟩;refine a6 li ?_;refine A.cA C.same (d:=dL (zN (aM f w))) C.ref (av (by rw[Qx,Qx,Q3];lia)) λH8 A8=>?_
   show Acc K H5 D H8 ((((cT f).take (i+1)).map λv=>zN (aM f v)).map dL);rw[QX,hw,QJ,QJ];exact A8
  .intro H6 A;rw[lu,Sa] at A;have S06:=S03.trans (S4.trans S5);have em:((cT f).map λv=>zN (aM f v))=(fG f).map zN:=by rw[<- el,Sg];rfl
   rw[em] at A;exact k D H6 (S06.trans A.same) (A.ref.mono λ_ z=>S06.free z)
end Lo
namespace Bo
abbrev sm:Nat->(Nat->Int)->Int
 |0,_=>0
 |n+1,f=>sm n f+f n
def bY{n:Nat}{f g:Nat->Int}(h:∀k,k<n->f k=g k):sm n f=sm n g:=by
 induction n with
 |zero=>rfl
 |succ n ih=>rw[sm,sm,ih λk hk=>h k (by lia),h n (by lia)]
def ul(n:Nat)(f g:Nat->Int):sm n (λk=>f k+g k)=sm n f+sm n g:=by
 induction n with
 |zero=>rfl
 |succ n ih=>rw[sm,sm,sm,ih];lia
def KO(n:Nat)(c:Int)(f:Nat->Int):sm n (λk=>c*f k)=c*sm n f:=by
 induction n with
 |zero=>rw[sm,sm,TZ]
 |succ n ih=>rw[sm,sm,ih,Ux]
def uk{n j:Nat}{f:Nat->Int}(hj:j<n)(h:∀k,k<n->k≠j->f k=0):sm n f=f j:=by
 induction n with
 |zero=>lia
 |succ n ih =>
  rw[sm];by_cases e:j=n
  .subst e;rw[show sm j f=0 from ?_,T0]
   have:sm j f=sm j λ_=>0:=bY λk hk=>h k (by lia) (by lia)
   rw[this];clear this ih h hj
   induction j with
   |zero=>rfl
   |succ j ih=>rw[sm,ih];rfl
  .rw[ih (by lia) λk hk ne=>h k (by lia) ne,h n (by lia) (by lia),Uy]
def fR{n:Nat}{f:Nat->Int}(h:∀k,k<n->f k=0):sm n f=0:=by
 induction n with
 |zero=>rfl
 |succ n ih=>rw[sm,ih λk hk=>h k (by lia),h n (by lia)];rfl
end Bo
namespace L2
open PySem
def wG{K:Fg}{Q:VK}{H:Hp}{xs:List V}(h:∀D,H D=none->∃Pv:Nat->Hp->Prop,Pv 0 (upd H D (.lst []))/\(∀i H2,i<=xs.length->Pv i H2->SqL K H2 a xs) /\
  (∀i x H2 T,xs[i]?=some x->Pv i H2->H2 T=none->Fy g n te σ (.ref T) (upd H2 T (.tup [.int i,x])) D xs.length i Pv)/\∀H2,Pv xs.length H2->Q (.ref D) H2):tT (Ko K a) n g te σ Q H:=by
 intro D nD;obtain⟨Pv,h0,hl,hs,hd⟩:=h D nD;refine⟨λi m H=>m=xs.length-i/\i<=xs.length/\Pv i H,⟨_,rfl,RL _,h0⟩,?_⟩;rintro i m H ⟨rfl,hi,p⟩;have q:=hl i H hi p;by_cases Ad:i<xs.length
 .refine .inr ⟨⟨xs,q,Ad⟩,λv H' y us hu=>?_⟩;obtain⟨T,x,nT,rfl,rfl,z⟩:=y;exact hs i x H T (z xs q) p nT us hu
 .have e:i=xs.length:=by lia
  subst e;exact .inl ⟨⟨xs,q,QH _⟩,hd H p⟩
def tm{K:Fg}{H:Hp}{D:cq}{k1 k2:Kn}{xs ys:List V}{g:TG}{tb:TS}{n:Nat}(e1:xs.length=n)(e2:ys.length=n)(Pv:Nat->St->Hp->Prop)(h0:Pv 0 σ H)(hl:∀i σ H,i<=n->Pv i σ H->k1.sq K H a xs/\k2.sq K H b ys)
  (hs:∀i x y σ H T,xs[i]?=some x->ys[i]?=some y->Pv i σ H->H T=none->g (.ref T) σ (upd H T (.tup [x,y])) λσ2 H2=>tb {D with nx:=Pv (i+1),ct:=Pv (i+1),bk:=D.nx} σ2 H2) (hd:∀σ H,Pv n σ H->D.nx σ H):wP (GK K k1 k2 a b) g tb D σ H:=by
 refine⟨λi m σ H=>m=n-i/\i<=n/\Pv i σ H,⟨_,rfl,RL _,h0⟩,?_⟩;rintro i m σ H ⟨rfl,hi,p⟩;obtain⟨q1,q2⟩:=hl i σ H hi p;obtain⟨g1,g2,g3⟩:=wS (i:=i) q1 q2 (X3 e1.symm) (X3 e2.symm) (.inl e1);by_cases Ad:i<n
 .refine .inr ⟨g1 Ad,Pv (i+1),λσ' H' p'=>⟨n-(i+1),by lia,rfl,Ad,p'⟩,λv H' y=>?_⟩;obtain⟨T,x,z,nT,rfl,rfl,z1,z2⟩:=g3 y;exact hs i x z σ H T z1 z2 p nT
 .obtain rfl:i=n:=by lia
  exact .inl ⟨g2 (QH _),hd σ H p⟩
end L2
namespace Br
end Br
namespace Bo
def yN(m:Nat)(W:Nat)(c z:Nat->Int)(L:Nat->Nat->Int):sm W (λk=>sm m (λj=>c j*L j k)*z k)=sm m λj=>c j*sm W λk=>L j k*z k:=by
 induction m with
 |zero=>exact fR λk _=>TL _
 |succ m ih =>
  show sm W (λk=>(sm m (λj=>c j*L j k)+c m*L m k)*z k)=sm m (λj=>c j*sm W λk=>L j k*z k)+c m*sm W λk=>L m k*z k
  rw[<- ih,<- KO,<- ul];refine bY λk _=>?_
  rw[Wr,SA]
end Bo
namespace Br
open Rk Sf Rw Bo
open PySem L2 Fr G1 Sm Vs G2 Rk Sz Sf Rw
open PySem.W (Dat kqdOk)
def O2{H:Hp}{Q:VK}{c:V}{k:Nat}(h0:H l0=some (.lst [c]))(hk:k<=100)(h:∀l,H l=none->Q (.ref l) (upd H l (.lst (Rm k c)))):IA (.ref l0) (.int (k:Int)) H Q:=by
 refine⟨l0,(k:Int),_,rfl,rfl,h0,by lia,by lia,by rw[Us];show 1*_<=_;lia,λl nl=>?_⟩;rw[RJ,List.flatten_replicate_singleton];exact h l nl
end Br
namespace Fr
def eK{b:Int}(hb:b≠0)(L:Gd.Low t b q d):q=(Q9 t b).num/\d=((Q9 t b).den:Int):=by
 obtain⟨pos,low,worth⟩:=L;have e:Q9 t b=Q9 q d:=(Si hb (by lia)).mpr worth.symm
 have cp:SQ q.natAbs d.natAbs:=by
  unfold Gd.gd at low;unfold SQ
  have:Zu q d=Rv q.natAbs d.natAbs:=rfl
  lia
 have m:Rat.mk' q d.natAbs (by lia) cp=Q9 q d:=by
  rw[Rat.mk_eq_divInt];congr 1;lia
 rw[e,<- m];exact⟨rfl,by show d=(d.natAbs:Int);lia⟩
def gT(x:Rat):Q9 x.num (x.den:Int)=x:=RO x
def Ix(x y:Rat):Q9 (x.num*(y.den:Int)+y.num*(x.den:Int)) ((x.den:Int)*(y.den:Int))=x+y:=by
 have h1:(x.den:Int)≠0:=by have:=x.den_nz;lia
 have h2:(y.den:Int)≠0:=by have:=y.den_nz;lia
 rw[<- Rat.divInt_add_divInt _ _ h1 h2,gT,gT]
def Iv(x y:Rat):Q9 (x.num*y.num) ((x.den:Int)*(y.den:Int))=x*y:=by
 rw[<- Ss,gT,gT]
def GA(x y:Rat):(x.den:Int)*(y.den:Int)≠0:=by
 have:=x.den_nz
 have:=y.den_nz
 exact WG (by lia) (by lia)
def Iw(x:Rat):0<(x.den:Int)/\Gd.gd x.num (x.den:Int)=1:=by
 have h:=x.den_nz;refine⟨by lia,?_⟩;have c:=x.reduced;unfold SQ at c;unfold Gd.gd
 have:Zu x.num (x.den:Int)=Rv x.num.natAbs x.den:=rfl
 lia
end Fr
namespace Tr
abbrev ls{α:Type}(l:List α)(f:α->Rat):Rat:=(l.map f).sum
def uJ{α:Type}(f:α->Rat):ls [] f=0:=rfl
def a7{α:Type}(a:α)(l:List α)(f:α->Rat):ls (a :: l) f=f a+ls l f:=rfl
def a9{α:Type}{l:List α}{f g:α->Rat}(h:∀x∈l,f x=g x):ls l f=ls l g:=by
 unfold ls;rw[Su h]
def Gc{α:Type}(l:List α)(f g:α->Rat):ls l (λx=>f x+g x)=ls l f+ls l g:=by
 induction l with
 |nil=>exact(UA 0).symm
 |cons a l ih=>rw[a7,a7,a7,ih];grind
def uK{α:Type}(c:Rat)(l:List α)(f:α->Rat):ls l (λx=>c*f x)=c*ls l f:=by
 induction l with
 |nil=>exact(ZE c).symm
 |cons a l ih=>rw[a7,a7,ih,Rat.mul_add]
def nF{α:Type}{l:List α}{f:α->Rat}(h:∀x∈l,f x=0):ls l f=0:=by
 induction l with
 |nil=>rfl
 |cons a l ih=>rw[a7,h a QK,ih λx hx=>h x (QL _ hx),UA]
def sT{α β:Type}(l:List α)(m:List β)(f:α->β->Rat):ls l (λx=>ls m (f x))=ls m λy=>ls l λx=>f x y:=by
 induction l with
 |nil=>exact(nF λ_ _=>rfl).symm
 |cons a l ih =>
  rw[a7,ih,<- Gc];rfl
def Ga{α:Type}{l:List α}{f:α->Rat}(nd:l.Nodup){a:α}(ha:a∈l)(h:∀x∈l,x≠a->f x=0):ls l f=f a:=by
 induction l with
 |nil=>cases ha
 |cons b l ih =>
  rw[RH] at nd;rw[a7];rcases Q5.mp ha with rfl|hb
  .rw[nF λx hx=>h x (QL _ hx) λe=>nd.1 (e ▸ hx),UA]
  .rw[h b QK λe=>nd.1 (e ▸ hb),ih nd.2 hb λx hx=>h x (QL _ hx),WP]
section
variable(fm:Nat->List Nat)
abbrev up(g:Nat->Nat)(h k:Nat):Nat->Nat:=λx=>if x=h then k else g x
abbrev T:List Nat->((Nat->Nat)->Rat)->Rat
 |[],F=>F λ_=>0
 |h :: hs,F=>ls (fm h) λk=>T hs λg=>F (up g h k)
variable{fm}
def tS:∀{hs:List Nat} {F G:(Nat->Nat)->Rat},hs.Nodup->(∀g,(∀h∈hs,g h∈fm h)->F g=G g)->T fm hs F=T fm hs G
 |[],F,G,_,e=>e _ λh hh=>by cases hh
 |h :: hs,F,G,nd,e=>a9 λk hk=>tS (RH.mp nd).2 λg hg=>e _ λx hx=>by
  unfold up;by_cases q:x=h
  .rw[if_pos q,q];exact hk
  .rw[if_neg q];exact hg x ((Q5.mp hx).resolve_left q)
def Fs{F G:(Nat->Nat)->Rat}(e:∀g,F g=G g):T fm hs F=T fm hs G:=by rw[show F=G from funext e]
def NV(c:Rat):∀{hs:List Nat} {F:(Nat->Nat)->Rat},T fm hs (λg=>c*F g)=c*T fm hs F
 |[],F=>rfl
 |h :: hs,F=>by
  show ls (fm h) (λk=>T fm hs λg=>c*F (up g h k))=_;rw[a9 λk _=>NV c,uK];rfl
def NW{α:Type}(l:List α):∀{hs:List Nat} {F:α->(Nat->Nat)->Rat},T fm hs (λg=>ls l λi=>F i g)=ls l λi=>T fm hs (F i)
 |[],F=>rfl
 |h :: hs,F=>by
  show ls (fm h) (λk=>T fm hs λg=>ls l λi=>F i (up g h k))=_;rw[a9 λk _=>NW l,sT];rfl
def Oo{h h':Nat}(n:h≠h'):up (up g h k) h' k'=up (up g h' k') h k:=by
 funext x;unfold up;by_cases a:x=h'
 .rw[if_pos a,if_neg λe=>n (e.symm.trans a),if_pos a]
 .rw[if_neg a,if_neg a]
def NS{h h':Nat}{hs:List Nat}{F:(Nat->Nat)->Rat}(n:h≠h'):T fm (h :: h' :: hs) F=T fm (h' :: h :: hs) F:=by
 show ls (fm h) (λk=>ls (fm h') λk'=>T fm hs λg=>F (up (up g h' k') h k))=ls (fm h') λk'=>ls (fm h) λk=>T fm hs λg=>F (up (up g h k) h' k')
 rw[sT];exact a9 λk' _=>a9 λk _=>Fs λg=>by rw[Oo n]
def NU{l:List Nat}(p:l.Perm l'):∀{F:(Nat->Nat)->Rat},l.Nodup->T fm l F=T fm l' F:=by
 induction p with
 |nil=>exact λ_=>rfl
 |cons x _ ih=>exact λnd=>a9 λk _=>ih (RH.mp nd).2
 |swap x y l=>exact λnd=>NS λe=>(RH.mp nd).1 (e ▸ QK)
 |trans p1 _ ih1 ih2=>exact λnd=>(ih1 nd).trans (ih2 (p1.nodup_iff.mp nd))
end
abbrev c5(f:Nat->Nat):Nat->Nat->Nat
 |0,x=>x
 |n+1,x=>f (c5 f n x)
def dD(f:Nat->Nat)(a:Nat):∀(b x:Nat),c5 f (b+a) x=c5 f b (c5 f a x)
 |0,x=>by rw[UR];rfl
 |b+1,x=>by rw[Nat.add_right_comm];exact congrArg f (dD f a b x)
def qh{f:Nat->Nat}{L:List Nat}(hf:∀h∈L,f h∈L){x:Nat}(hx:x∈L):∀n,c5 f n x∈L
 |0=>hx
 |n+1=>hf _ (qh hf hx n)
abbrev cR(s:Nat->Nat)(r:Nat):Nat->Nat:=λx=>if x=r then r else s x
abbrev All(s:Nat->Nat)(L:List Nat)(r:Nat):Prop:=∀h∈L,∃n,c5 s n h=r
abbrev Tree(s:Nat->Nat)(L:List Nat)(r:Nat):Prop:=∀h∈L,c5 (cR s r) L.length h=r
def ub(s:Nat->Nat)(r:Nat):∀n,c5 (cR s r) n r=r
 |0=>rfl
 |n+1=>by
  show cR s r (c5 (cR s r) n r)=r;rw[ub s r n];exact if_pos rfl
def mC{s:Nat->Nat}{r h:Nat}:∀n,(∀m,m<n->c5 s m h≠r)->c5 (cR s r) n h=c5 s n h
 |0,_=>rfl
 |n+1,d=>by
  show cR s r (c5 (cR s r) n h)=s (c5 s n h);rw[mC n λm hm=>d m (by lia)];exact if_neg (d n (by lia))
def uQ{P:Nat->Prop}:∀n,P n->∃m,m<=n/\P m/\∀k,k<m->¬ P k
 |n,h=>by
  induction n using Uq with
  |_ n ih =>
   by_cases q:∃k,k<n/\P k
   .obtain⟨k,hk,pk⟩:=q;obtain⟨m,hm,r⟩:=ih k hk pk;exact⟨m,by lia,r⟩
   .exact⟨n,QH _,h,λk hk pk=>q ⟨k,hk,pk⟩⟩
def t9{s:Nat->Nat}{L:List Nat}(hs:∀h∈L,s h∈L)(pig:∀l:List Nat,l.Nodup->(∀x∈l,x∈L)->l.length<=L.length):Tree s L r↔All s L r:=by
 constructor
 .intro t h hh;refine Xc λno=>?_
  have:=t h hh
  rw[mC _ λm _ e=>no ⟨m,e⟩] at this;exact no ⟨_,this⟩
 .intro a h hh;obtain⟨n,hn⟩:=a h hh;obtain⟨m,_,pm,lo⟩:=uQ (P:=λn=>c5 s n h=r) n hn;have e1:c5 (cR s r) m h=r:=by rw[mC m lo];exact pm
  have nd:((QR (m+1)).map λi=>c5 s i h).Nodup:=by
   unfold List.Nodup;rw[List.pairwise_map];refine List.Pairwise.imp_of_mem ?_ List.pairwise_lt_range;intro i j _ hj lt e;have hj:j<m+1:=Rb.mp hj;have go:∀d,c5 s (d+i) h=c5 s (d+j) h:=λd=>by rw[dD s i d h,dD s j d h,e]
   have:=go (m-j)
   rw[show m-j+j=m by lia,pm] at this;exact lo (m-j+i) (by lia) this
  have:=pig _ nd λx hx=>by
   obtain⟨i,_,rfl⟩:=QU.mp hx;exact qh hs hh i
  rw[Qx,Ra] at this;rw[show L.length=(L.length-m)+m by lia,dD (cR s r) m,e1];exact ub s r _
def Aa{s:Nat->Nat}{L:List Nat}{j:Nat}(hs:∀h∈L,s h∈L)(hj:j∈L)(a:All s L j):∃i∈L,s i=j/\All s L i/\∀i'∈L,s i'=j->All s L i'->i'=i:=by
 obtain⟨n0,e0⟩:=a (s j) (hs j hj);have e1:c5 s (n0+1) j=j:=by rw[dD s 1 n0 j];exact e0
 obtain⟨n,_,en,lo⟩:=uQ (P:=λn=>c5 s (n+1) j=j) n0 e1
 have per:∀q,c5 s (q*(n+1)) j=j:=by
  intro q
  induction q with
  |zero=>rw[VT];rfl
  |succ q ih=>rw[Uu,dD s (n+1) (q*(n+1)) j,en,ih]
 have red:∀b,c5 s b j=c5 s (b % (n+1)) j:=λb=>by
  conv=>lhs;rw[<- Nat.mod_add_div b (n+1),Se,dD s _ _ j,per]
 refine⟨c5 s n j,qh hs hj n,en,λh hh=>?_,λi' hi' e' a'=>?_⟩
 .obtain⟨k,hk⟩:=a h hh;exact⟨n+k,by rw[dD s k n h,hk]⟩
 .obtain⟨b,hb⟩:=a' j hj;rw[red b] at hb;have lt:=Zas b (WN n);generalize b % (n+1)=c at hb lt
  have ec:c5 s (c+1) j=j:=by
   show s (c5 s c j)=j;rw[hb];exact e'
  rcases WQ c n with q|q
  .exact absurd ec (lo c q)
  .rw[<- hb,show c=n by lia]
def c7{α:Type}(p:α->Bool)(f:α->Rat):∀l:List α,ls (l.filter p) f=ls l λx=>if p x=true then f x else 0
 |[]=>rfl
 |a :: l=>by
  rw[XN,a7];split
  .rw[a7,c7 p f l]
  .rw[c7 p f l,WP]
section
variable(es:List (Nat×Nat))(pc:Nat->Rat)
abbrev fro(k:Nat):Nat:=(es.getD k (0,0)).1
abbrev tow(k:Nat):Nat:=(es.getD k (0,0)).2
abbrev d7(h:Nat):List Nat:=(QR es.length).filter λk=>fro es k == h
abbrev b6(L:List Nat)(r:Nat):List Nat:=L.filter λx=>x != r
abbrev bK(g:Nat->Nat):List Nat->Rat
 |[]=>1
 |h :: hs=>pc (g h)*bK g hs
open Classical in
abbrev W (L:List Nat) (r:Nat):Rat:=T (d7 es) (b6 L r) λg=>if Tree (λh=>tow es (g h)) L r then bK pc g (b6 L r) else 0
variable{es}{pc}
def KM(g:Nat->Nat)(r k:Nat):cR (λh=>tow es (up g r k h)) r=cR (λh=>tow es (g h)) r:=by
 funext x;unfold cR up;by_cases q:x=r
 .rw[if_pos q,if_pos q]
 .rw[if_neg q,if_neg q];show tow es (if x=r then k else g x)=tow es (g x);rw[if_neg q]
def xf(g:Nat->Nat)(L:List Nat)(r k:Nat):Tree (λh=>tow es (up g r k h)) L r↔Tree (λh=>tow es (g h)) L r:=by
 unfold Tree;rw[KM]
def FN{g:Nat->Nat}{r k:Nat}:∀{l:List Nat},r∉l->bK pc (up g r k) l=bK pc g l
 |[],_=>rfl
 |h :: l,n=>by
  show pc (up g r k h)*bK pc (up g r k) l=pc (g h)*bK pc g l;have ne:h≠r:=λe=>n (by rw[e];exact QK)
  rw[FN λq=>n (QL _ q),show up g r k h=g h from if_neg ne]
def Ef{l:List Nat}(p:l.Perm l'):bK pc g l=bK pc g l':=by
 induction p with
 |nil=>rfl
 |cons x _ ih=>exact congrArg (pc (g x) * ·) ih
 |swap x y l=>show pc (g y)*(pc (g x)*bK pc g l)=pc (g x)*(pc (g y)*bK pc g l);grind
 |trans _ _ ih1 ih2=>exact ih1.trans ih2
def mX{L:List Nat}(nd:L.Nodup){i:Nat}(hi:i∈L):L.Perm (i :: b6 L i):=by
 have:=List.perm_cons_erase hi
 rw[nd.erase_eq_filter] at this;exact this
def zW{i:Nat}:i∉b6 L i:=λh=>by
 have:=(Ri.mp h).2
 simp at this
open Classical in
def uc{L:List Nat}(nd:L.Nodup){i:Nat}(hi:i∈L)(c:Nat->Rat):ls (d7 es i) (λk=>c k*pc k*W es pc L i)=T (d7 es) L λg=>c (g i)*if Tree (λh=>tow es (g h)) L i then bK pc g L else 0:=by
 rw[NU (mX nd hi) nd];refine a9 λk _=>?_
 rw[show W es pc L i=T (d7 es) (b6 L i) λg=>if Tree (λh=>tow es (g h)) L i then bK pc g (b6 L i) else 0 from rfl,<- NV];refine Fs λg=>?_
 show(c k*pc k*if Tree (λh=>tow es (g h)) L i then bK pc g (b6 L i) else 0)=c (up g i k i)*if Tree (λh=>tow es (up g i k h)) L i then bK pc (up g i k) L else 0
 rw[Ef (mX nd hi),show up g i k i=k from if_pos rfl,show bK pc (up g i k) (i :: b6 L i)=pc (up g i k i)*bK pc (up g i k) (b6 L i) from rfl,show up g i k i=k from if_pos rfl,FN zW];by_cases t:Tree (λh=>tow es (g h)) L i
 .rw[if_pos t,if_pos ((xf g L i k).mpr t)];grind
 .rw[if_neg t,if_neg λz=>t ((xf g L i k).mp z)];grind
def Nf{L:List Nat}(nd:L.Nodup){j:Nat}(hj:j∈L)(cl:∀k,k<es.length->tow es k∈L->fro es k∈L)(f:Nat->Nat->Rat):ls ((QR es.length).filter λk=>tow es k == j) (λk=>f k (fro es k))=ls L λi=>ls (d7 es i) λk=>if tow es k=j then f k i else 0:=by
 have e:(ls L λi=>ls (d7 es i) λk=>if tow es k=j then f k i else 0)=ls L λi=>ls (QR es.length) λk=>if (fro es k == i)=true then (if tow es k=j then f k i else 0) else 0:=a9 λi _=>c7 (λk=>fro es k == i) _ _
 rw[e,c7,sT];refine a9 λk hk=>?_
 by_cases t:tow es k=j
 .rw[if_pos (by simp[t])];rw[Ga nd (cl k (Rb.mp hk) (by rw[t];exact hj)) λx _ ne=>if_neg (by simpa using λe=>ne e.symm)];rw[if_pos (by simp),if_pos t]
 .rw[if_neg (by simpa using t)];refine(nF λi _=>?_).symm;rw[if_neg t,ite_self]
open Classical in
def Fm{L:List Nat}(nd:L.Nodup){j:Nat}(hj:j∈L)(cl:∀k,k<es.length->(fro es k∈L↔tow es k∈L))(pig:∀l:List Nat,l.Nodup->(∀x∈l,x∈L)->l.length<=L.length) :
  ls ((QR es.length).filter λk=>tow es k == j) (λk=>pc k*W es pc L (fro es k))=ls (d7 es j) λk=>pc k*W es pc L j:=by
 rw[Nf nd hj (λk hk=>(cl k hk).mpr) λk i=>pc k*W es pc L i]
 have r:ls (d7 es j) (λk=>pc k*W es pc L j)=T (d7 es) L λg=>if Tree (λh=>tow es (g h)) L j then bK pc g L else 0:=by
  rw[a9 (g:=λk=>(λ_=>(1:Rat)) k*pc k*W es pc L j) λk _=>by grind,uc nd hj];exact Fs λg=>Tj _
 rw[r,a9 (g:=λi=>T (d7 es) L λg=>(if tow es (g i)=j then 1 else 0)*if Tree (λh=>tow es (g h)) L i then bK pc g L else 0) λi hi=>?_,<- NW]
 .refine tS nd λg hg=>?_
  have hs:∀h∈L,tow es (g h)∈L:=λh hh=>by
   obtain⟨m1,m2⟩:=Ri.mp (hg h hh);exact(cl _ (Rb.mp m1)).mp (by rw[show fro es (g h)=h by simpa using m2];exact hh)
  have ta:=λr=>t9 (s:=λh=>tow es (g h)) (r:=r) hs pig
  by_cases t:Tree (λh=>tow es (g h)) L j
  .rw[if_pos t];obtain⟨i,hi,e,ai,un⟩:=Aa hs hj ((ta j).mp t);rw[Ga nd hi λx hx ne=>?_,if_pos e,if_pos ((ta i).mpr ai),Tj];by_cases q:tow es (g x)=j
   .rw[if_neg (c:=Tree (λh=>tow es (g h)) L x) λz=>ne (un x hx q ((ta x).mp z)),ZE]
   .rw[if_neg q,WR]
  .rw[if_neg t];refine nF λi hi=>?_
   by_cases q:tow es (g i)=j
   .rw[if_neg (c:=Tree (λh=>tow es (g h)) L i) λz=>t ((ta j).mpr λh hh=>?_),ZE];obtain⟨n,hn⟩:=(ta i).mp z h hh;exact⟨n+1,by show tow es (g (c5 (λh=>tow es (g h)) n h))=j;rw[hn];exact q⟩
   .rw[if_neg q,WR]
 .rw[<- uc nd hi λk=>if tow es k=j then 1 else 0];refine a9 λk _=>?_
  split
  .rw[Tj]
  .rw[WR,WR]
def jH{α:Type}{l:List α}{f:α->Rat}(h:∀x∈l,0<=f x):0<=ls l f:=by
 induction l with
 |nil=>exact YC
 |cons a l ih =>
  have h1:=h a QK;have h2:=ih λx hx=>h x (QL _ hx)
  rw[a7]
  grind
def Mr{α:Type}{l:List α}{f:α->Rat}(h:∀x∈l,0<=f x){a:α}(ha:a∈l)(p:0<f a):0<ls l f:=by
 induction l with
 |nil=>cases ha
 |cons b l ih =>
  rw[a7];have h1:=h b QK;have h2:=jH λx hx=>h x (QL b hx)
  rcases Q5.mp ha with rfl|hb
  .grind
  .have:=ih (λx hx=>h x (QL _ hx)) hb
   grind
def vy{fm:Nat->List Nat}:∀{hs:List Nat} {F:(Nat->Nat)->Rat},hs.Nodup->(∀g,(∀h∈hs,g h∈fm h)->0<=F g)->0<=T fm hs F
 |[],F,_,e=>e _ λh hh=>by cases hh
 |h :: hs,F,nd,e=>jH λk hk=>vy (RH.mp nd).2 λg hg=>e _ λx hx=>by
  unfold up;by_cases q:x=h
  .rw[if_pos q,q];exact hk
  .rw[if_neg q];exact hg x ((Q5.mp hx).resolve_left q)
def NT{fm:Nat->List Nat}:∀{hs:List Nat} {F:(Nat->Nat)->Rat} {g0:Nat->Nat},hs.Nodup->(∀g,(∀h∈hs,g h∈fm h)->0<=F g)->(∀h∈hs,g0 h∈fm h)->(∀h,h∉hs->g0 h=0)->0<F g0->0<T fm hs F
 |[],F,g0,_,_,_,z,p=>by
  show 0<F λ_=>0
  rw[show(λ_=>0)=g0 from funext λx=>(z x λh=>by cases h).symm];exact p
 |h :: hs,F,g0,nd,e,v,z,p=>by
  obtain⟨n1,n2⟩:=RH.mp nd
  have ok:∀k∈fm h,∀g,(∀x∈hs,g x∈fm x)->0<=F (up g h k):=λk hk g hg=>e _ λx hx=>by
   unfold up;by_cases q:x=h
   .rw[if_pos q,q];exact hk
   .rw[if_neg q];exact hg x ((Q5.mp hx).resolve_left q)
  refine Mr (λk hk=>vy n2 (ok k hk)) (v h QK) ?_;refine NT (g0:=λx=>if x=h then 0 else g0 x) n2 (ok _ (v h QK)) (λx hx=>?_) (λx hx=>?_) ?_
  .show(if x=h then 0 else g0 x)∈fm x;have ne:x≠h:=λq=>n1 (by rw[<- q];exact hx)
   rw[if_neg ne];exact v x (QL _ hx)
  .show(if x=h then 0 else g0 x)=0;by_cases q:x=h
   .rw[if_pos q]
   .rw[if_neg q];exact z x λm=>hx ((Q5.mp m).resolve_left q)
  .rw[show up (λx=>if x=h then 0 else g0 x) h (g0 h)=g0 from funext λx=>?_]
   .exact p
   .unfold up;by_cases q:x=h
    .rw[if_pos q,q]
    .rw[if_neg q];exact if_neg q
def gW{g:Nat->Nat}:∀{l:List Nat},(∀h∈l,0<pc (g h))->0<bK pc g l
 |[],_=>by show(0:Rat)<1;decide
 |h :: l,a=>TB (a h QK) (gW λx hx=>a x (QL _ hx))
abbrev Pn(es:List (Nat×Nat)):Nat->Nat->Nat->Prop
 |0,a,b=>a=b
 |n+1,a,b=>∃k,k<es.length/\fro es k=a/\Pn es n (tow es k) b
def Pn.snoc{es:List (Nat×Nat)}{k:Nat}(hk:k<es.length):∀{n a:Nat},Pn es n a (fro es k)->Pn es (n+1) a (tow es k)
 |0,_,h=>⟨k,hk,h.symm,rfl⟩
 |_+1,_,⟨m,hm,e,h⟩=>⟨m,hm,e,Pn.snoc hk h⟩
open Classical in
def P7{L:List Nat}(nd:L.Nodup){r:Nat}(hr:r∈L)(cl:∀k,k<es.length->(fro es k∈L↔tow es k∈L))(pig:∀l:List Nat,l.Nodup->(∀x∈l,x∈L)->l.length<=L.length)(pp:∀k,k<es.length->0<pc k)(bk:∀h∈L,∃n,Pn es n h r):0<W es pc L r:=by
 have ndo:(b6 L r).Nodup:=nd.filter _;have mo:∀{h},h∈b6 L r↔h∈L/\h≠r:=λ{h}=>by unfold b6;rw[Ri];simp
 have pos:∀g:Nat->Nat,(∀h∈b6 L r,g h∈d7 es h)->0<bK pc g (b6 L r):=λg hg=>gW λh hh=>pp _ (Rb.mp (Ri.mp (hg h hh)).1)
 have near:∀h,h∈b6 L r->∃k,k∈d7 es h/\∀n,(Pn es n h r/\∀m,m<n->¬ Pn es m h r)->∃m,m<n/\Pn es m (tow es k) r:=by
  intro h hh;obtain⟨hL,ne⟩:=mo.mp hh;obtain⟨n0,p0⟩:=bk h hL;obtain⟨n,_,pn,lo⟩:=uQ (P:=λn=>Pn es n h r) n0 p0;cases n with
  |zero=>exact absurd pn ne
  |succ n =>
   obtain⟨k,hk,e,p⟩:=pn;refine⟨k,Ri.mpr ⟨Rb.mpr hk,by simpa using e⟩,λn' ⟨q1,q2⟩=>⟨n,?_,p⟩⟩;rcases WQ n n' with z|z
   .exact z
   .exact absurd q1 (lo n' (by lia))
 let g0:Nat->Nat:=λh=>if q:h∈b6 L r then (near h q).choose else 0
 have v:∀h∈b6 L r,g0 h∈d7 es h:=λh hh=>by
  show(if q:h∈b6 L r then (near h q).choose else 0)∈_;rw[dif_pos hh];exact(near h hh).choose_spec.1
 have step:∀h∈b6 L r,∀n,(Pn es n h r/\∀m,m<n->¬ Pn es m h r)->∃m,m<n/\Pn es m (tow es (g0 h)) r:=λh hh=>by
  show ∀n,_->∃m,m<n/\Pn es m (tow es (if q:h∈b6 L r then (near h q).choose else 0)) r;rw[dif_pos hh];exact(near h hh).choose_spec.2
 have inL:∀h∈b6 L r,tow es (g0 h)∈L:=λh hh=>by
  obtain⟨m1,m2⟩:=Ri.mp (v h hh);exact(cl _ (Rb.mp m1)).mp (by rw[show fro es (g0 h)=h by simpa using m2];exact(mo.mp hh).1)
 refine NT (g0:=g0) ndo (λg hg=>?_) v (λh hh=>?_) ?_
 .split
  .exact T6 (pos g hg)
  .exact YC
 .show(if q:h∈b6 L r then (near h q).choose else 0)=0;rw[dif_neg hh]
 .have all:∀n h,h∈L->Pn es n h r->∃m,c5 (cR (λh=>tow es (g0 h)) r) m h=r:=by
   intro n
   induction n using Uq with
   |_ n ih =>
    intro h hL p;by_cases e:h=r
    .exact⟨0,e⟩
    .obtain⟨m,hm,pm,lo⟩:=uQ (P:=λn=>Pn es n h r) n p;have hh:=mo.mpr ⟨hL,e⟩;obtain⟨q,hq,pq⟩:=step h hh m ⟨pm,lo⟩;obtain⟨t,ht⟩:=ih q (by lia) _ (inL h hh) pq;refine⟨t+1,?_⟩;rw[dD (cR (λh=>tow es (g0 h)) r) 1 t h,show c5 (cR (λh=>tow es (g0 h)) r) 1 h=tow es (g0 h) from if_neg e];exact ht
  have tr:Tree (cR (λh=>tow es (g0 h)) r) L r:=(t9 (s:=cR (λh=>tow es (g0 h)) r) (λh hh=>by
   unfold cR
   by_cases e:h=r
   .rw[if_pos e];exact hr
   .rw[if_neg e];exact inL h (mo.mpr ⟨hh,e⟩)) pig).mpr λh hh=>by
    obtain⟨n,pn⟩:=bk h hh;exact all n h hh pn
  have tr2:Tree (λh=>tow es (g0 h)) L r:=λh hh=>by
   have:=tr h hh
   rw[show cR (cR (λh=>tow es (g0 h)) r) r=cR (λh=>tow es (g0 h)) r from funext λx=>by
    unfold cR
    by_cases e:x=r
    .rw[if_pos e,if_pos e]
    .rw[if_neg e,if_neg e]] at this
   exact this
  rw[if_pos tr2];exact pos g0 v
end
open PySem L2 Fr G1 Sm Vs G2 Rk Sz Sf Rw Ti
open PySem.W (Dat kqdOk)
abbrev dQ(x:Rat):Dat:=dI [x.num,(x.den:Int)]
abbrev QV(K:Fg)(H:Hp)(v:V)(x:Rat):Prop:=∃a:Addr,v=.ref a/\SqT K H a [.int x.num,.int (x.den:Int)]
def QV.of{K:Fg}(h:Rz K H v (dQ x)):QV K H v x:=by
 obtain⟨a,e,ha⟩:=bM h;exact⟨a,e,SqT.of ha⟩
abbrev Bq(n:Nat)(x:Rat):Prop:=x.num.natAbs<2 ^ n/\x.den<2 ^ n
abbrev gP(K:Fg):Sp:=λvs H Q _=>∃t b:Int,vs=[.int t,.int b]/\b≠0/\t.natAbs<2 ^ 8000/\b.natAbs<2 ^ 8000/\∀(p:Addr) (H':Hp),Same H H'->Rz K H' (.ref p) (dQ (Q9 t b))->Q (.ref p) H'
abbrev rX(K:Fg):Sp:=λvs H Q _=>∃(v u:V) (x y:Rat),vs=[v,u]/\QV K H v x/\QV K H u y/\Bq 3900 x/\Bq 3900 y/\∀(p:Addr) (H':Hp),Same H H'->Rz K H' (.ref p) (dQ (x+y))->Q (.ref p) H'
abbrev mF(K:Fg):Sp:=λvs H Q _=>∃(v u:V) (x y:Rat),vs=[v,u]/\QV K H v x/\QV K H u y/\Bq 3900 x/\Bq 3900 y/\∀(p:Addr) (H':Hp),Same H H'->Rz K H' (.ref p) (dQ (x*y))->Q (.ref p) H'
def Bq.mul{x y:Int}(hx:x.natAbs<2 ^ 3900)(hy:y.natAbs<2 ^ 3900):(x*y).natAbs<2 ^ 7800:=by
 rw[RM]
 have:=Wa hx hy
 rwa [<- SO] at this
def pw_lt{a b:Nat}(h:a<b):(2:Nat) ^ a<2 ^ b:=R5 (by decide) h
def Bq.w{x:Int}(h:x.natAbs<2 ^ 3900):x.natAbs<2 ^ 20000:=RW h (pw_lt (by decide))
def Bq.d(h:Bq 3900 x):((x.den:Nat):Int).natAbs<2 ^ 3900:=h.2
def Bq.sum{x y:Int}(hx:x.natAbs<2 ^ 7800)(hy:y.natAbs<2 ^ 7800):(x+y).natAbs<2 ^ 8000:=by
 refine Re (Q4 (Xo x y) (Nat.add_lt_add hx hy)) ?_;rw[<- Nat.two_mul,Se,<- SJ];exact QW (by decide) (by decide)
abbrev re(K:Fg):TS:=(aG (aD (gP K) [] E0 (ae (ar aZ (ar cO (ar (aE K) (aa 0) (tC (.int 0))) (ar (aE K) (aa 1) (tC (.int 1)))) (ar cO (ar (aE K) (aa 1) (tC (.int 0))) (ar (aE K) (aa 0) (tC (.int 1))))) (ae (ar cO (ar (aE K) (aa 0) (tC (.int 1))) (ar (aE K) (aa 1) (tC (.int 1)))) ag))))
def DL{K:Fg}:ρ 2 (rX K) (re K):=by
 fail "R";obtain⟨v,u,x,y,rfl,rv,ru,bx,by_,k⟩:=h;obtain⟨a,rfl,ha⟩:=rv;obtain⟨b,rfl,hb⟩:=ru;rw[L2.aP hN];walk_at "t";unfold re;cbv;refine aF ha (v:=.int x.num) rfl ?_;cbv;refine aF hb (v:=.int (y.den:Int)) rfl ?_;refine⟨_,_,rfl,rfl,⟨Bq.w bx.1,Bq.w by_.d⟩,?_⟩;cbv;refine aF hb (v:=.int y.num) rfl ?_;cbv;refine aF ha (v:=.int (x.den:Int)) rfl ?_;refine⟨_,_,rfl,rfl,⟨Bq.w by_.1,Bq.w bx.d⟩,?_⟩;cbv;refine aF ha (v:=.int (x.den:Int)) rfl ?_;cbv;refine aF hb (v:=.int (y.den:Int)) rfl ?_;refine⟨_,_,rfl,rfl,⟨Bq.w bx.d,Bq.w by_.d⟩,?_⟩;cbv;refine⟨_,_,rfl,GA x y,Bq.sum (Bq.mul bx.1 by_.d) (Bq.mul by_.1 bx.d),RW (Bq.mul bx.d by_.d) (pw_lt (by decide)),λp H' S r=>?_⟩;rw[Ix] at r;exact k p H' S r
abbrev l9(K:Fg):TS:=(aG (aD (gP K) [] E0 (ae (ar cO (ar (aE K) (aa 0) (tC (.int 0))) (ar (aE K) (aa 1) (tC (.int 0)))) (ae (ar cO (ar (aE K) (aa 0) (tC (.int 1))) (ar (aE K) (aa 1) (tC (.int 1)))) ag))))
def zd{K:Fg}:ρ 2 (mF K) (l9 K):=by
 fail "R";obtain⟨v,u,x,y,rfl,rv,ru,bx,by_,k⟩:=h;obtain⟨a,rfl,ha⟩:=rv;obtain⟨b,rfl,hb⟩:=ru;rw[L2.aP hN];walk_at "t";unfold l9;cbv;refine aF ha (v:=.int x.num) rfl ?_;cbv;refine aF hb (v:=.int y.num) rfl ?_;refine⟨_,_,rfl,rfl,⟨Bq.w bx.1,Bq.w by_.1⟩,?_⟩;cbv;refine aF ha (v:=.int (x.den:Int)) rfl ?_;cbv;refine aF hb (v:=.int (y.den:Int)) rfl ?_;refine⟨_,_,rfl,rfl,⟨Bq.w bx.d,Bq.w by_.d⟩,?_⟩;cbv;refine⟨_,_,rfl,GA x y,RW (Bq.mul bx.1 by_.1) (pw_lt (by decide)),RW (Bq.mul bx.d by_.d) (pw_lt (by decide)),λp H' S r=>?_⟩;rw[Iv] at r;exact k p H' S r
def Acc.ext{K:Fg}(A:Acc K H0 l H ds)(hb:H b=some (.lst zs))(rz:RpL K (λa=>H0 a=none/\a≠l) H zs es)(n:ds.length+es.length<=1000){Q:VK}(h:∀H2,Acc K H0 l H2 (ds++es)->Q .non H2):js (.ref l) [.ref b] H Q:=by
 obtain⟨xs,h1,h2⟩:=A.at_
 have lz:xs.length+zs.length<=sizeLine:=by
  have:=av n
  rw[h2.length,rz.length];lia
 refine⟨l,b,xs,zs,rfl,rfl,h1,hb,lz,h _ ⟨λc o q=>?_,A.new,_,L2.aj,?_⟩⟩
 .rw[L2.aJ (ay q A.new)];exact A.same c o q
 .exact(h2.append rz).agr (Agr.eJ h1 λw=>w.2 rfl)
abbrev yJ(K:Fg):Sp:=λvs H Q _=>∃(p:Addr) (xs:List V) (es:List (Nat×Nat)) (h:Nat),vs=[.ref p,.int (h:Int)]/\H p=some (.lst xs)/\RzL K H xs (es.map dP)/\es.length<=100/\∀(q:Addr) (H':Hp),AccZ K H q H' ((d7 es h).map dN)->Q (.ref q) H'
def Bi{es:List (Nat×Nat)}{j:Nat}{e:Nat×Nat}(h:es[j]?=some e):fro es j=e.1/\tow es j=e.2:=by
 unfold fro tow;rw[Qz,h];exact⟨rfl,rfl⟩
abbrev xX(K:Fg):TS:=(aG (d8 (iM K (ae (aa 0) ag)) 2 (cx K 2 (aX (al 0) (aX (al 1) cy))) (aR (ar fV (ar (aE K) (aa 1) (tC (.int 0))) (aa 3))) (aa 0)))
def Ik{K:Fg}:ρ 2 (yJ K) (xX K):=by
 fail "R";obtain⟨p,xs,es,h,rfl,hp,rx,le,k⟩:=h;rw[L2.aP hN];walk_at "t";have lx:xs.length=es.length:=by rw[rx.length,Qx]
 unfold xX;cbv;refine⟨p,xs,rfl,SqL.of hp,?_⟩;refine k_ (xs:=xs) λD nD=>⟨λj H2=>AccZ K H D H2 (((QR j).filter λk=>fro es k == h).map dN),AccZ.start (Same.refl _) nD,λj H2 _ A=>SqL.of (A.same _ _ hp),?_,?_⟩
 .intro j x H2 T hx A nT us hu
  obtain⟨u0,u1,rfl⟩:∃u0 u1,us=[u0,u1]:=ex2 hu
  have lj:=(QC.mp hx).1;obtain⟨d,g1,g2⟩:=rx.get hx;rw[QD] at g1;obtain⟨e,he,rfl⟩:=QG.mp g1;obtain⟨f1,_⟩:=Bi he;have A2:=A.on (ak nT (.tup [.int (j:Int),x]));have hT:upd H2 T (.tup [.int (j:Int),x]) T=some (.tup [.int (j:Int),x]):=aj;generalize upd H2 T (.tup [.int (j:Int),x])=H3 at A2 hT ⊢;obtain⟨pb,rfl,hpb⟩:=BC (g2.same A2.same);have lr:((QR j).filter λk=>fro es k == h).length<=100:=Q0 (Sc _ _) (by rw[Ra];lia);have er:(QR (j+1)).filter (λk=>fro es k == h)=(QR j).filter (λk=>fro es k == h)++[j].filter λk=>fro es k == h:=by rw[Tc,TH]
  refine bP (SqT.of hT) rfl ?_;cbv;refine⟨⟨[↥(j:Int),⇑pb],rfl,rfl⟩,?_⟩;cbv;refine aF (SqT.of hpb) (v:=.int (e.1:Int)) rfl ?_;cbv;refine bb (λc=>?_) (λc=>?_)
  .have c':fro es j=h:=by lia
   cbv;refine a6 lj ?_;refine A2.cA (d:=dN j) (.int _) (av (by rw[Qx];lia)) λH4 A4=>?_
   show AccZ K H D H4 (((QR (j+1)).filter λk=>fro es k == h).map dN);rw[er,Sb (by simpa using c'),QJ];exact A4
  .have c' : ¬ fro es j=h:=by lia
   refine fe lj ?_;show AccZ K H D H3 (((QR (j+1)).filter λk=>fro es k == h).map dN);rw[er,RU (by simpa using c')];simpa using A2
 .intro H2 A;rw[lx] at A;exact k D H2 A
abbrev ju(es:List (Nat×Nat))(acc:List (List Nat))(h:Nat):List (List Nat):=acc.flatMap λp=>(d7 es h).map λk=>p++[k]
abbrev pk(es:List (Nat×Nat))(hs:List Nat):List (List Nat):=hs.foldl (ju es) [[]]
abbrev GC(p:List Nat):Dat:=dL (ni p)
abbrev r_(K:Fg):Sp:=λvs H Q _=>∃(p b:Addr) (xs:List V) (es:List (Nat×Nat)) (hs:List Nat),vs=[.ref p,.ref b]/\H p=some (.lst xs)/\RzL K H xs (es.map dP)/\es.length<=100/\H b=some (.lst ((ni hs).map V.int))/\hs.length<=100/\(∀i,(pk es (hs.take i)).length<=900)/\∀(q:Addr) (H':Hp),Acc K H q H' ((pk es hs).map GC)->Q (.ref q) H'
def zH{hs:List Nat}{i h:Nat}(e:hs[i]?=some h):pk es (hs.take (i+1))=ju es (pk es (hs.take i)) h:=by
 unfold pk;rw[QX,e,SY];rfl
def FV{es:List (Nat×Nat)}:∀{hs:List Nat} {acc:List (List Nat)} {n:Nat},(∀p∈acc,p.length=n)->∀p∈hs.foldl (ju es) acc,p.length=n+hs.length
 |[],_,_,h,p,hp=>h p hp
 |x :: hs,acc,n,h,p,hp=>by
  have:=FV (hs:=hs) (acc:=ju es acc x) (n:=n+1) (λq hq=>by
   obtain⟨a,ha,hq⟩:=ZZ.mp hq
   obtain⟨k,_,rfl⟩:=QU.mp hq
   rw[QT,h a ha]
   rfl) p hp
  rw[this,Ru];lia
nonrec abbrev xF(K:Fg):TS:=(am (aW (ce K (aa 2)) (al 5)
 (bz (cZ K "list" js (aa 4) (ae (fA (ce K (aD (yJ K) [] E0 (ae (aa 0) (ae (aa 3) ag)))) (ar zw (aa 6) (bR (ae (aa 0) ag)))) ag))))
 (aw (aa 4) (al 2)))
abbrev rj(K:Fg):TS:=(am (aw (bR (ae (bR ag) ag)) (al 2))
 (am (aW (ce K (aa 1)) (al 3)
 (am (aw (bR ag) (al 4))
 (xF K)))
 (aG (aa 2))))
def DN{K:Fg}:ρ 6 (r_ K) (rj K):=by
 fail "R";obtain⟨p,b,xs,es,hs,rfl,hp,rx,le,hb,lh,few,k⟩:=h;rw[L2.aP hN];walk_at "t";unfold rj;cbv;refine⟨by decide,λl0 n0=>?_⟩;have S0:=ak n0 (.lst []);have h0:upd H l0 (.lst []) l0=some (.lst (([]:List Int).map V.int)):=aj;generalize upd H l0 (.lst [])=H0 at S0 h0 ⊢;cbv;refine⟨gQ,λl1 n1=>?_⟩;have S1:=ak n1 (.lst [.ref l0]);have A1:Acc K H l1 (upd H0 l1 (.lst [.ref l0])) ((pk es (hs.take 0)).map GC):=⟨S0.trans S1,S0.free n1,_,aj,.cons (wE ⟨n0,ay h0 n1⟩ (S1 _ _ h0)) .nil⟩
 generalize upd H0 l1 (.lst [.ref l0])=H1 at A1 ⊢;clear S1 S0 h0;cbv;refine f7 (SqL.of (A1.same _ _ hb)) ?_;refine a_ (xs:=(ni hs).map V.int) (λi σ H2=>∃(t:Addr) (u3 u4 u5:Option V),σ=[⇑p,⇑b,⇑t,u3,u4,u5]/\Acc K H t H2 ((pk es (hs.take i)).map GC)) ⟨l1,none,none,none,rfl,A1⟩ (by rintro i σ H2 _ ⟨_,_,_,_,_,A⟩;exact SqL.of (A.same _ _ hb)) ?_ ?_
 .rintro i x σ H2 hx ⟨t,u3,u4,u5,rfl,A⟩
  obtain⟨h,eh,rfl⟩:∃h,hs[i]?=some h/\x=.int (h:Int):=by
   unfold ni at hx;rw[QD,QD] at hx;cases e:hs[i]? with
   |none=>rw[e] at hx;cases hx
   |some h=>rw[e] at hx;exact⟨h,rfl,(Q7 hx).symm⟩
  have fw:=few (i+1);rw[zH eh] at fw
  have ln:∀q∈pk es (hs.take i),q.length<=100:=λq hq=>by
   have:=FV (acc:=[[]]) (n:=0) (λp hp=>by rw[QY.mp hp];rfl) q hq
   rw[this,Q3];lia
  obtain⟨ts,ht,rt⟩:=A.at_;generalize hP:pk es (hs.take i)=P at A rt fw ln;cbv;refine⟨by decide,λl nl=>?_⟩;have B0:Acc K H2 l (upd H2 l (.lst [])) ((ju es (P.take 0) h).map GC):=Acc.start nl;generalize upd H2 l (.lst [])=H3 at B0 ⊢;cbv;refine f7 (SqL.of (B0.same _ _ ht)) ?_;refine a_ (xs:=ts) (λj σ H4=>∃u5:Option V,σ=[⇑p,⇑b,⇑t,↥(h:Int),⇑l,u5]/\Acc K H2 l H4 ((ju es (P.take j) h).map GC)) ⟨u5,rfl,B0⟩ (by rintro j σ H4 _ ⟨_,_,B⟩;exact SqL.of (B.same _ _ ht)) ?_ ?_
  .rintro j y σ H4 hy ⟨u5,rfl,B⟩;have lj:=(QC.mp hy).1;obtain⟨d,g1,g2⟩:=rt.get hy;rw[QD] at g1;obtain⟨q,hq,rfl⟩:=QG.mp g1;obtain⟨c,rfl,_,hc⟩:=wF g2;have lq:=ln q (QI hq)
   have ej:ju es (P.take (j+1)) h=ju es (P.take j) h++(d7 es h).map λk=>q++[k]:=by
    unfold ju;rw[QX,hq,YQ];simp
   have e2:ju es P h=ju es (P.take (j+1)) h++ju es (P.drop (j+1)) h:=by unfold ju;rw[<- YQ,Ui]
   have fj:(ju es (P.take (j+1)) h).length<=900:=by
    rw[e2,QT] at fw;lia
   rw[ej,QT,Qx] at fj;cbv;refine⟨B.ty,?_⟩;cbv;refine⟨p,xs,es,h,rfl,B.same _ _ (A.same _ _ hp),rx.same (A.same.trans B.same),le,λr H5 A5=>?_⟩;have hr:H5 r=some (.lst ((ni (d7 es h)).map V.int)):=AccZ.ints (by unfold ni;rw[Sg];exact A5);have lf:((ni (d7 es h)).map V.int).length=(d7 es h).length:=by unfold ni;rw[Qx,Qx]
   refine sX (SqL.of hr) ?_;refine df (xs:=(ni (d7 es h)).map V.int) λE nE=>⟨λm H6=>Acc K H5 E H6 ((((d7 es h).take m).map λk=>q++[k]).map GC),by simpa using Acc.start nE,λm H6 _ C=>SqL.of (C.same _ _ hr),?_,?_⟩
   .intro m z H6 hz C;have lm:=(QC.mp hz).1
    obtain⟨n,en,rfl⟩:∃n,(d7 es h)[m]?=some n/\z=.int (n:Int):=by
     unfold ni at hz;rw[QD,QD] at hz;cases e:(d7 es h)[m]? with
     |none=>rw[e] at hz;cases hz
     |some n=>rw[e] at hz;exact⟨n,rfl,(Q7 hz).symm⟩
    have hc6:=C.same _ _ (A5.same _ _ (B.same _ _ hc));cbv;refine⟨gQ,λl2 n2=>?_⟩;have S7:=ak n2 (.lst [.int (n:Int)]);have h7:upd H6 l2 (.lst [.int (n:Int)]) l2=some (.lst [.int (n:Int)]):=aj;have hc7:=S7 _ _ hc6;generalize upd H6 l2 (.lst [.int (n:Int)])=H7 at S7 h7 hc7 ⊢;refine⟨c,l2,_,_,rfl,rfl,hc7,h7,by rw[Qx,Us];unfold ni;rw[Qx];show q.length+1<=_;lia,λl3 n3=>?_⟩;have S8:=S7.trans (ak n3 (.lst ((ni q).map V.int++[.int (n:Int)])));have h8:upd H7 l3 (.lst ((ni q).map V.int++[.int (n:Int)])) l3=some (.lst ((ni (q++[n])).map V.int)):=by unfold ni;rw[QJ,QJ];exact aj
    have n36:=S7.free n3;generalize upd H7 l3 (.lst ((ni q).map V.int++[.int (n:Int)]))=H8 at S8 h8 ⊢;refine a6 lm ?_;refine C.cA S8 (d:=GC (q++[n])) (wE n36 h8) (av (by rw[Qx,Qx,Q3];lia)) λH9 C9=>?_
    show Acc K H5 E H9 ((((d7 es h).take (m+1)).map λk=>q++[k]).map GC);rw[QX,en,QJ,QJ];exact C9
   .intro H6 C;rw[lf,QM (QH _)] at C;obtain⟨zs,hz,rz⟩:=C.at_;have B6:=(B.on A5.same).on C.same
    have lB:H4 l≠none:=by
     obtain⟨ys,h1,_⟩:=B.at_;rw[h1];exact λz=>by cases z
    cbv;refine Acc.ext B6 hz (rz.mono λa z=>⟨B.same.free (A5.same.free z.1),λe=>lB (by rw[<- e];exact A5.same.free z.1)⟩) (by rw[Qx,Qx,Qx];lia) λH7 B7=>?_
    refine⟨_,rfl,?_⟩;rw[ej,QJ];exact B7
  .rintro σ H4 ⟨u5,rfl,B⟩;have lt:ts.length=P.length:=by rw[rt.length,Qx]
   rw[lt,QM (QH _)] at B;cbv;refine⟨l,_,_,_,rfl,?_⟩;rw[zH eh,hP];obtain⟨zs,hz,rz⟩:=B.at_;exact⟨A.same.trans B.same,A.same.free B.new,zs,hz,rz.mono λ_ z=>⟨A.same.free z.1,z.2⟩⟩
 .rintro σ H2 ⟨t,u3,u4,u5,rfl,A⟩;rw[QM (by unfold ni;rw[Qx,Qx];exact QH _)] at A;cbv;exact k t H2 A
def Fv{K:Fg}(h:SqT K H a xs)(S:Same H H'):SqT K H' a xs:=by
 rcases h with(h|⟨o,h⟩)|h
 .exact .inl (.inl (S _ _ h))
 .exact .inl (.inr ⟨o,S _ _ h⟩)
 .exact .inr h
def QV.same{K:Fg}(h:QV K H v x)(S:Same H H'):QV K H' v x:=by
 obtain⟨a,e,ha⟩:=h;exact⟨a,e,Fv ha S⟩
def ic{i:Nat}{x:V}(hx:((ni hs).map V.int)[i]?=some x):∃h,hs[i]?=some h/\x=.int (h:Int):=by
 unfold ni at hx;rw[QD,QD] at hx;cases e:hs[i]? with
 |none=>rw[e] at hx;cases hx
 |some h=>rw[e] at hx;exact⟨h,rfl,(Q7 hx).symm⟩
def bA(hs:List Nat):((ni hs).map V.int).length=hs.length:=by unfold ni;rw[Qx,Qx]
abbrev kd(ps:List (Nat×Nat)):List (bf×V):=ps.map λq=>((.inl (q.1:Int):bf),V.int (q.2:Int))
abbrev lk(ps:List (Nat×Nat))(h:Nat):Nat:=((ps.find? λq=>q.1 == h).map (·.2)).getD 0
def AH:∀(ps:List (Nat×Nat)) (h:Nat),bO (kd ps) (.inl (h:Int))=(ps.find? λq=>q.1 == h).map λq=>V.int (q.2:Int)
 |[],h=>rfl
 |q :: ps,h=>by
  show bO (((.inl (q.1:Int):bf),V.int (q.2:Int)) :: kd ps) (.inl (h:Int))=_;rw[Tz];by_cases e:q.1=h
  .rw[bF (by rw[e]),show(q.1 == h)=true by simpa using e];rfl
  .rw[bw (λz=>e (by have:=VE z;lia)),show(q.1 == h)=false by simpa using e];exact AH ps h
def OU{ps:List (Nat×Nat)}{h:Nat}(m:h∈ps.map (·.1)):bO (kd ps) (.inl (h:Int))=↥(lk ps h:Int):=by
 rw[AH];unfold lk;cases e:ps.find? λq=>q.1 == h with
 |none =>
  obtain⟨q,hq,e2⟩:=QU.mp m
  have:=W9.mp e q hq
  simp[e2] at this
 |some q=>rfl
def Mz{ps:List (Nat×Nat)}{a b:Nat}(n:a∉ps.map (·.1)):ci (kd ps) (.inl (a:Int)) (.int (b:Int))=kd (ps++[(a,b)]):=by
 have z:bO (kd ps) (.inl (a:Int))=none:=by
  rw[AH,W9.mpr]
  .rfl
  .intro q hq e;exact n (QU.mpr ⟨q,hq,by simpa using e⟩)
 unfold ci;rw[eZ,z];show kd ps++[_]=_;unfold kd;rw[QJ];rfl
abbrev prs(es:List (Nat×Nat))(ks:List Nat)(r:Nat):List (Nat×Nat):=(r,r) :: ks.map λk=>(fro es k,tow es k)
abbrev TD(ps:List (Nat×Nat))(r:Nat):Prop:=∀q∈ps,c5 (lk ps) ps.length q.1=r
abbrev yA(K:Fg):Sp:=λvs H Q _=>∃(p b:Addr) (xs:List V) (es:List (Nat×Nat)) (ks:List Nat) (r:Nat),vs=[.ref p,.ref b,.int (r:Int)]/\H p=some (.lst xs)/\RzL K H xs (es.map dP)/\H b=some (.lst ((ni ks).map V.int))/\ks.length<=100/\(∀k∈ks,k<es.length)/\((prs es ks r).map (·.1)).Nodup/\(∀q∈prs es ks r,q.2∈(prs es ks r).map (·.1)) /\
 (TD (prs es ks r) r->∀H',Same H H'->Q (.bl true) H')/\(¬ TD (prs es ks r) r->∀H',Same H H'->Q (.bl false) H')
def OR{ps:List (Nat×Nat)}(cl:∀q∈ps,q.2∈ps.map (·.1)){h:Nat}(m:h∈ps.map (·.1)):lk ps h∈ps.map (·.1):=by
 unfold lk;cases e:ps.find? λq=>q.1 == h with
 |none =>
  obtain⟨q,hq,e2⟩:=QU.mp m
  have:=W9.mp e q hq
  simp[e2] at this
 |some q=>exact cl q (List.mem_of_find?_eq_some e)
nonrec abbrev CJ(K:Fg):TS:=(am (aW (ce K (bo zv (ae (aa 3) ag))) (al 5)
 (am (aw (aa 5) (al 6))
 (am (aW (ck (ae (bo Li (ae (aa 3) ag)) ag)) (al 7)
 (aw (rN (aa 3) (aa 6)) (al 6)))
 (aS (aR (ar wL (aa 6) (aa 2)))
 (aG (tC (.bl false)))
 aV))))
 (aG (tC (.bl true))))
abbrev xq(K:Fg):TS:=(am (aw (Hu [((aa 2),(aa 2))]) (al 3))
 (am (aW (ce K (aa 1)) (al 4)
 (pB (aa 3) (ar (aE K) (ar (bJ K) (aa 0) (aa 4)) (tC (.int 0))) (ar (aE K) (ar (bJ K) (aa 0) (aa 4)) (tC (.int 1)))))
 (CJ K)))
def HV{K:Fg}:ρ 8 (yA K) (xq K):=by
 fail "R";obtain⟨p,b,xs,es,ks,r,rfl,hp,rx,hb,lk_,lt,nd,cl,kyes,kno⟩:=h;rw[L2.aP hN];walk_at "t";have lx:xs.length=es.length:=by rw[rx.length,Qx]
 unfold xq;cbv;intro rd nr;have T1:=ak nr (.dK []);unfold i6;cbv;unfold i6;refine⟨aj,[(.inl (r:Int),.int (r:Int))],rfl,by show 1<=15;decide,?_⟩
 have S1:Same H (upd (upd H rd (.dK [])) rd (.dK (dO [] [(.inl (r:Int),.int (r:Int))]))):=λc o q=>by
  rw[aJ (ay q nr)];exact T1 _ _ q
 have d1:upd (upd H rd (.dK [])) rd (.dK (dO [] [(.inl (r:Int),.int (r:Int))])) rd=some (.dK (kd (prs es (ks.take 0) r))):=aj;generalize upd (upd H rd (.dK [])) rd (.dK (dO [] [(.inl (r:Int),.int (r:Int))]))=H1 at S1 d1 ⊢;cbv;refine f7 (SqL.of (S1 _ _ hb)) ?_;refine a_ (xs:=(ni ks).map V.int) (λi σ H2=>∃u4:Option V,σ=[⇑p,⇑b,↥(r:Int),⇑rd,u4,none,none,none]/\Same H H2/\H2 rd=some (.dK (kd (prs es (ks.take i) r)))) ⟨none,rfl,S1,d1⟩ (by rintro i σ H2 _ ⟨_,_,S,_⟩;exact SqL.of (S _ _ hb)) ?_ ?_
 .rintro i x σ H2 hx ⟨u4,rfl,S2,d2⟩;obtain⟨k,ek,rfl⟩:=ic hx;have lk2:=lt k (QI ek);obtain⟨e,he⟩:∃e,es[k]?=some e:=⟨_,Qy lk2⟩
  obtain⟨f1,f2⟩:=Bi he;obtain⟨z,ez⟩:∃z,xs[k]?=some z:=⟨_,Qy (by lia)⟩
  obtain⟨d,g1,g2⟩:=rx.get ez;rw[QD,he] at g1;cases g1;obtain⟨pb,rfl,hpb⟩:=BC (g2.same S2);have li:i<ks.length:=(QC.mp ek).1
  have ee:prs es (ks.take (i+1)) r=prs es (ks.take i) r++[(e.1,e.2)]:=by
   unfold prs;rw[QX,ek,QJ,<- f1,<- f2];rfl
  have nk:e.1∉(prs es (ks.take i) r).map (·.1):=by
   have n2:((prs es (ks.take (i+1)) r).map (·.1)).Nodup:=by
    refine nd.sublist ?_;unfold prs;exact((VI (i+1) ks).map _).cons_cons _ |>.map _
   rw[ee,QJ,U5] at n2;exact λm=>n2.2.2 _ m _ QK rfl
  cbv;refine bU (SqL.of (S2 _ _ hp)) (aI ez) ?_;cbv;refine aF (SqT.of hpb) (v:=.int (e.2:Int)) rfl ?_;cbv;refine bU (SqL.of (S2 _ _ hp)) (aI ez) ?_;cbv;refine aF (SqT.of hpb) (v:=.int (e.1:Int)) rfl ?_;refine⟨rd,_,rfl,(DPut.k d2 (av (by unfold kd prs;rw[Qx,Ru,Qx,Q3];lia)):DPut H2 rd (kV (.inl (e.1:Int))) _ _),?_⟩;refine⟨_,rfl,λc o q=>?_,?_⟩
  .rw[aJ (ay q nr)];exact S2 c o q
  .rw[aj,ee,Mz nk]
 rintro σ H2 ⟨u4,rfl,S2,d2⟩;rw[bA,QM (QH _)] at d2;have lp:(prs es ks r).length<=101:=by unfold prs;rw[Ru,Qx];lia
 generalize prs es ks r=ps at d2 nd cl kyes kno lp;have lkd:(kd ps).length=ps.length:=Qx _;cbv;refine⟨rd,_,rfl,d2,λl nl=>?_⟩;have el:((kd ps).map λkv=>kV kv.1)=(ni (ps.map (·.1))).map V.int:=by unfold kd ni;rw[Sg,Sg,Sg];rfl
 rw[el];have S3:=S2.trans (ak nl (.lst ((ni (ps.map (·.1))).map V.int)));have d3:=ak nl (.lst ((ni (ps.map (·.1))).map V.int)) _ _ d2;have h3:upd H2 l (.lst ((ni (ps.map (·.1))).map V.int)) l=some (.lst ((ni (ps.map (·.1))).map V.int)):=aj;generalize upd H2 l (.lst ((ni (ps.map (·.1))).map V.int))=H3 at S3 d3 h3 ⊢;refine f7 (SqL.of h3) ?_;refine a_ (xs:=(ni (ps.map (·.1))).map V.int) (λi σ H4=>∃u5 u6 u7:Option V,σ=[⇑p,⇑b,↥(r:Int),⇑rd,u4,u5,u6,u7]/\H4=H3/\∀m,m<i->∀h,(ps.map (·.1))[m]?=some h->c5 (lk ps) ps.length h=r) ⟨none,none,none,rfl,rfl,λm hm=>absurd hm (SU _)⟩ (λi σ H4 _ ⟨_,_,_,_,e,_⟩=>by rw[e];exact SqL.of h3) ?_ ?_
 .rintro i x σ H4 hx ⟨u5,u6,u7,rfl,rfl,dn⟩;obtain⟨h,eh,rfl⟩:=ic hx;have mh:=QI eh;cbv;refine⟨rd,_,rfl,d3,?_⟩;rw[lkd];refine⟨_,rfl,by lia,by lia,?_⟩;rw[RJ];refine aT (λm σ H5=>∃u7:Option V,σ=[⇑p,⇑b,↥(r:Int),⇑rd,u4,↥(h:Int),some (.int (c5 (lk ps) m h:Int)),u7]/\H5=H4) ⟨_,rfl,rfl⟩ ?_ ?_
  .rintro m σ H5 hm ⟨u7,rfl,rfl⟩;have mm:c5 (lk ps) m h∈ps.map (·.1):=qh (λx hx=>OR cl hx) mh m;cbv;refine⟨rd,_,rfl,(by have:=(DGet.k d3:DGet H5 rd (kV (.inl (c5 (lk ps) m h:Int))) _);rw[OU mm] at this;exact this),?_⟩;cbv;exact⟨_,rfl,rfl⟩
  .rintro σ H5 ⟨u7,rfl,rfl⟩;cbv;refine eN (λc=>?_) (λc=>?_)
   .cbv;refine kno (λt=>c ?_) H5 S3;obtain⟨q,hq,e⟩:=QU.mp mh
    have:=t q hq
    rw[e] at this;rw[this]
   .cbv;refine⟨_,_,_,rfl,rfl,λm hm h' e'=>?_⟩;rcases WQ m i with z|z
    .exact dn m z h' e'
    .rw[show m=i by lia,eh] at e';cases e';lia
 .rintro σ H4 ⟨u5,u6,u7,rfl,rfl,dn⟩;rw[bA] at dn;cbv;refine kyes (λq hq=>?_) H4 S3;have m1:q.1∈ps.map (·.1):=QU.mpr ⟨q,hq,rfl⟩;obtain⟨m,hm⟩:=RA m1;exact dn m (QC.mp hm).1 q.1 hm
open Fr
def Gb{α β:Type}(g:α->β)(f:β->Rat):∀l:List α,ls (l.map g) f=ls l λx=>f (g x)
 |[]=>rfl
 |a :: l=>by rw[RP,a7,a7,Gb g f l]
def p_{α:Type}(f:α->Rat):∀l m:List α,ls (l++m) f=ls l f+ls m f
 |[],m=>by rw[Um,uJ,WP]
 |a :: l,m=>by rw[XD,a7,a7,p_ f l m,Rat.add_assoc]
def Au{α β:Type}(g:α->List β)(f:β->Rat):∀l:List α,ls (l.flatMap g) f=ls l λx=>ls (g x) f
 |[]=>rfl
 |a :: l=>by rw[List.flatMap_cons,p_,a7,Au g f l]
section
variable{es:List (Nat×Nat)}{pc:Nat->Rat}
def Mn{h:Nat}{hs:List Nat}(n:h∉hs):hs.map (up g h k)=hs.map g:=Su λx hx=>if_neg λe:x=h=>n (by rw[<- e];exact hx)
def FU(G:List Nat->Rat):∀{hs:List Nat} (acc:List (List Nat)),hs.Nodup->ls (hs.foldl (ju es) acc) G=ls acc λa=>T (d7 es) hs λg=>G (a++hs.map g)
 |[],acc,_=>a9 λa _=>by show G a=G (a++[]);rw[Tx]
 |h :: hs,acc,nd=>by
  obtain⟨n1,n2⟩:=RH.mp nd;rw[Wx,FU G (ju es acc h) n2];unfold ju;rw[Au];refine a9 λa _=>?_
  rw[Gb];refine a9 λk _=>Fs λg=>?_
  show G (a++[k]++hs.map g)=G (a++(h :: hs).map (up g h k));rw[RP,Mn n1,show up g h k h=k from if_pos rfl,R_];rfl
abbrev pq(pc:Nat->Rat)(q:List Nat):Rat:=q.foldl (λx k=>x*pc k) 1
def IN:∀(q:List Nat) (x:Rat),q.foldl (λx k=>x*pc k) x=x*pq pc q
 |[],x=>(SR x).symm
 |k :: q,x=>by
  unfold pq;rw[Wx,Wx,IN q,IN q,Tj,Rr]
def FQ(g:Nat->Nat):∀hs:List Nat,pq pc (hs.map g)=bK pc g hs
 |[]=>rfl
 |h :: hs=>by
  show(hs.map g).foldl (λx k=>x*pc k) (1*pc (g h))=pc (g h)*bK pc g hs;rw[IN,FQ g hs,Tj]
def Go{f f':Nat->Nat}{L:List Nat}(hf:∀h∈L,f h∈L)(e:∀h∈L,f h=f' h){x:Nat}(hx:x∈L):∀n,c5 f n x=c5 f' n x
 |0=>rfl
 |n+1=>by
  show f (c5 f n x)=f' (c5 f' n x);rw[e _ (qh hf hx n),Go hf e hx n]
def qr{g:Nat->Nat}{h:Nat}:∀{hs:List Nat},h∈hs->((hs.map λx=>(x,g x)).find? λq=>q.1 == h)=some (h,g h)
 |[],m=>by cases m
 |x :: hs,m=>by
  rw[RP,Tz];by_cases e:x=h
  .rw[show((x,g x).1 == h)=true by simpa using e,e]
  .rw[show((x,g x).1 == h)=false by simpa using e];exact qr ((Q5.mp m).resolve_left λz=>e z.symm)
def zB{hs:List Nat}{g:Nat->Nat}(v:∀h∈hs,g h∈d7 es h)(r:Nat):prs es (hs.map g) r=(r,r) :: hs.map λh=>(h,tow es (g h)):=by
 unfold prs;rw[Sg];congr 1;refine Su λh hh=>?_
 have:=(Ri.mp (v h hh)).2
 show(fro es (g h),tow es (g h))=_;rw[show fro es (g h)=h by simpa using this]
def fZ{h:Nat}:h∈b6 L r↔h∈L/\h≠r:=by unfold b6;rw[Ri];simp
def OS{g:Nat->Nat}(v:∀h∈b6 L r,g h∈d7 es h){h:Nat}(hh:h∈L):lk (prs es ((b6 L r).map g) r) h=cR (λh=>tow es (g h)) r h:=by
 rw[zB v];unfold lk cR;rw[Tz];by_cases e:h=r
 .rw[if_pos e,show((r,r).1 == h)=true by simpa using e.symm];rfl
 .rw[if_neg e,show((r,r).1 == h)=false by simpa using λz=>e z.symm,qr (g:=λh=>tow es (g h)) (fZ.mpr ⟨hh,e⟩)];rfl
def mY{L:List Nat}(nd:L.Nodup){r:Nat}(hr:r∈L):(b6 L r).length+1=L.length:=by
 have:=(mX nd hr).length_eq
 rw[Ru] at this;exact this.symm
def PB{L:List Nat}{g:Nat->Nat}(cl:∀k,k<es.length->(fro es k∈L↔tow es k∈L))(v:∀h∈b6 L r,g h∈d7 es h){h:Nat}(hh:h∈b6 L r):tow es (g h)∈L:=by
 obtain⟨m1,m2⟩:=Ri.mp (v h hh);exact(cl _ (Rb.mp m1)).mp (by rw[show fro es (g h)=h by simpa using m2];exact(fZ.mp hh).1)
def BX{L:List Nat}(nd:L.Nodup){r:Nat}(hr:r∈L)(cl:∀k,k<es.length->(fro es k∈L↔tow es k∈L)){g:Nat->Nat}(v:∀h∈b6 L r,g h∈d7 es h):TD (prs es ((b6 L r).map g) r) r↔Tree (λh=>tow es (g h)) L r:=by
 have lp:(prs es ((b6 L r).map g) r).length=L.length:=by
  rw[<- mY nd hr];unfold prs;rw[Ru,Qx,Qx]
 have st:∀h∈L,cR (λh=>tow es (g h)) r h∈L:=λh hh=>by
  unfold cR;by_cases e:h=r
  .rw[if_pos e];exact hr
  .rw[if_neg e];exact PB cl v (fZ.mpr ⟨hh,e⟩)
 have ie:∀h∈L,c5 (lk (prs es ((b6 L r).map g) r)) L.length h=c5 (cR (λh=>tow es (g h)) r) L.length h:=λh hh=>(Go st (λx hx=>(OS v hx).symm) hh _).symm
 unfold TD Tree;rw[lp];constructor
 .intro t h hh;rw[<- ie h hh];by_cases e:h=r
  .have:=t (r,r) (by unfold prs;exact QK)
   rw[e];exact this
  .have:=t (h,tow es (g h)) (by rw[zB v];exact QL _ (QU.mpr ⟨h,fZ.mpr ⟨hh,e⟩,rfl⟩))
   exact this
 .intro t q hq;rw[zB v] at hq;rcases Q5.mp hq with rfl|hq
  .rw[ie r hr];exact t r hr
  .obtain⟨h,hh,rfl⟩:=QU.mp hq
   have:=(fZ.mp hh).1
   show c5 _ _ h=r;rw[ie h this];exact t h this
open Classical in
def J_{L:List Nat}(nd:L.Nodup){r:Nat}(hr:r∈L)(cl:∀k,k<es.length->(fro es k∈L↔tow es k∈L)):ls (pk es (b6 L r)) (λq=>if TD (prs es q r) r then pq pc q else 0)=W es pc L r:=by
 have ndo:(b6 L r).Nodup:=nd.filter _;unfold pk;rw[FU _ _ ndo,a7,uJ,UA];refine tS ndo λg v=>?_
 rw[Um,FQ];by_cases t:Tree (λh=>tow es (g h)) L r
 .rw[if_pos t,if_pos ((BX nd hr cl v).mpr t)]
 .rw[if_neg t,if_neg λz=>t ((BX nd hr cl v).mp z)]
def uv:∀{hs:List Nat} {acc:List (List Nat)} {q:List Nat},q∈hs.foldl (ju es) acc->∃a∈acc,∃ks:List Nat,q=a++ks/\ks.map (fro es)=hs/\∀k∈ks,k<es.length
 |[],acc,q,h=>⟨q,h,[],(Tx q).symm,rfl,λk hk=>by cases hk⟩
 |x :: hs,acc,q,h=>by
  obtain⟨a,ha,ks,e1,e2,e3⟩:=uv (hs:=hs) (acc:=ju es acc x) h;obtain⟨a0,ha0,hm⟩:=ZZ.mp ha;obtain⟨k,hk,rfl⟩:=QU.mp hm;obtain⟨m1,m2⟩:=Ri.mp hk;refine⟨a0,ha0,k :: ks,by rw[e1,R_];rfl,by rw[RP,e2,show fro es k=x by simpa using m2],λj hj=>?_⟩;rcases Q5.mp hj with rfl|hj
  .exact Rb.mp m1
  .exact e3 j hj
end
abbrev Sml(D M:Nat)(x:Rat):Prop:=∃m:Int,x*((D:Int):Rat)=(m:Rat)/\m.natAbs<=M
def Sml.add(a:Sml D M x)(b:Sml D N y):Sml D (M+N) (x+y):=by
 obtain⟨m,e,l⟩:=a;obtain⟨n,f,k⟩:=b;refine⟨m+n,by rw[Rat.add_mul,e,f,Rat.intCast_add],?_⟩;exact Q0 (Xo m n) (Nat.add_le_add l k)
def Sml.mul(a:Sml D M x)(b:Sml E N y):Sml (D*E) (M*N) (x*y):=by
 obtain⟨m,e,l⟩:=a;obtain⟨n,f,k⟩:=b;refine⟨m*n,?_,by rw[RM];exact Rt l k⟩;rw[UZ,<- e,<- f,Rs,UZ]
 grind
def Sml.up{E N:Nat}(a:Sml D M x)(h:M*E<=N):Sml (D*E) N x:=by
 obtain⟨m,e,l⟩:=a;refine⟨m*(E:Int),by rw[UZ,<- e,Rs,UZ,Rr],?_⟩;rw[RM];exact Q0 (RC _ l) h
def Sml.zero(D M:Nat):Sml D M 0:=⟨0,by rw[WR];rfl,RL _⟩
def Sml.one{D M:Nat}(h:D<=M):Sml D M 1:=⟨(D:Int),Tj _,h⟩
def Sml.bits(a:Sml D M x)(d0:0<D):x.num.natAbs<=M/\x.den<=D:=by
 obtain⟨m,e,l⟩:=a
 have dn:((D:Int):Rat)≠0:=by
  intro z
  have:=Yg.mp (show(((D:Int):Int):Rat)=((0:Int):Rat) from z)
  lia
 have ex:x=Q9 m (D:Int):=by
  rw[UB,<- e,Rat.mul_div_cancel dn]
 have L:=Gd.uL (t:=m) (b:=(D:Int)) (d:=Gd.gd m (D:Int)) (by lia) (.inl ⟨rfl,by lia⟩);have A:=Gd.sU (t:=m) (b:=(D:Int)) (d:=Gd.gd m (D:Int)) (by lia) (.inl ⟨rfl,by lia⟩);obtain⟨e1,e2⟩:=eK (by lia) L;rw[e1,e2,<- ex] at A;exact⟨Q0 A.1 l,by have:=A.2;lia⟩
abbrev cP(ts:List Tn)(k:Nat):Rat:=match ts[k]? with
 |some t=>Q9 t.q t.d
 |none=>1
abbrev Pd:List Tn->Nat
 |[]=>1
 |t :: ts=>t.d.natAbs*Pd ts
abbrev cE(ts:List Tn):Prop:=∀t∈ts,gC t.q t.d
def jY:∀{ts:List Tn},cE ts->0<Pd ts
 |[],_=>UC
 |t :: ts,h=>by
  have:=(h t QK).2.1
  exact RB (by lia) (jY λx hx=>h x (QL _ hx))
def Kc:∀{ts:List Tn},cE ts->Pd ts<=(10 ^ 10) ^ ts.length
 |[],_=>QH _
 |t :: ts,h=>by
  have h1:=(h t QK).2.1;have h2:=(h t QK).2.2.2.2;show t.d.natAbs*Pd ts<=(10 ^ 10) ^ (ts.length+1);rw[SJ,Se];exact Rt (Kc λx hx=>h x (QL _ hx)) (by lia)
def GI:∀{ts:List Tn} {t:Tn},t∈ts->t.d.natAbs∣Pd ts
 |x :: ts,t,m=>by
  rcases Q5.mp m with rfl|m
  .exact Xp _ _
  .exact YZ (GI m) (Nat.dvd_mul_left _ _)
def FX(pa:cE ts){k:Nat}(hk:k<ts.length):Sml (Pd ts) (10 ^ 10*Pd ts) (cP ts k):=by
 obtain⟨t,ht⟩:∃t,ts[k]?=some t:=⟨_,Qy hk⟩
 have mt:=QI ht;obtain⟨q0,d0,_,ql,_⟩:=pa t mt;obtain⟨c,hc⟩:=GI mt;have e:cP ts k=Q9 t.q t.d:=by unfold cP;rw[ht]
 have dn:((t.d:Int):Rat)≠0:=by
  intro z
  have:=Yg.mp (show((t.d:Int):Rat)=((0:Int):Rat) from z)
  lia
 refine⟨t.q*(c:Int),?_,?_⟩
 .have e2:((Pd ts:Nat):Int)=t.d*(c:Int):=by
   rw[hc,Rs];congr 1;lia
  rw[e,e2,UB,UZ,UZ,<- Rr,W_ dn]
 .rw[RM,hc];have h1:1<=t.d.natAbs:=by lia
  refine Rt (by lia) ?_;show c<=t.d.natAbs*c;exact SB _ h1
def zD{ks:List Nat}{i k:Nat}(e:ks[i]?=some k):pq pc (ks.take (i+1))=pq pc (ks.take i)*pc k:=by
 unfold pq;rw[QX,e,SY];rfl
def FO{ts:List Tn}(pa:cE ts){ks:List Nat}(hk:∀k∈ks,k<ts.length):∀i,i<=ks.length->Sml (Pd ts ^ i) ((10 ^ 10*Pd ts) ^ i) (pq (cP ts) (ks.take i))
 |0,_=>by
  rw[Vg,Vg];exact Sml.one (QH _)
 |i+1,h=>by
  obtain⟨k,ek⟩:∃k,ks[i]?=some k:=⟨_,Qy h⟩
  rw[zD ek,SJ,SJ];exact(FO pa hk i (by lia)).mul (FX pa (hk k (QI ek)))
abbrev DD(ts:List Tn):Nat:=Pd ts ^ 7
abbrev MM(ts:List Tn):Nat:=(10 ^ 10*Pd ts) ^ 7
def FS(pa:cE ts){ks:List Nat}(hk:∀k∈ks,k<ts.length)(l7:ks.length<=7):Sml (DD ts) (MM ts) (pq (cP ts) ks):=by
 have h:=FO pa hk ks.length (QH _);rw[Sa] at h
 have:=h.up (E:=Pd ts ^ (7-ks.length)) (N:=MM ts) (by
  unfold MM
  rw[show 7=ks.length+(7-ks.length) by lia,SO,show ks.length+(7-ks.length)-ks.length=7-ks.length by lia]
  exact Rh _ (UK (SB _ (by decide)) _))
 rw[<- SO,show ks.length+(7-ks.length)=7 by lia] at this;exact this
def e_(pa:cE ts)(t8:ts.length<=8)(h:Sml D M x)(d0:0<D)(hD:D<=Pd ts ^ 8)(hM:M<=10000*(10 ^ 10*Pd ts) ^ 8):Bq 3900 x:=by
 obtain⟨h1,h2⟩:=h.bits d0;have pl:Pd ts<=10 ^ 80:=Q0 (Kc pa) (by rw[<- YD];exact QW (by decide) (by lia));have p8:Pd ts ^ 8<=(10 ^ 80) ^ 8:=UK pl 8;have q8:(10 ^ 10*Pd ts) ^ 8<=(10 ^ 10*10 ^ 80) ^ 8:=UK (Rh _ pl) 8;have z1:(10 ^ 80) ^ 8<2 ^ 3900:=by decide
 have z2:10000*(10 ^ 10*10 ^ 80) ^ 8<2 ^ 3900:=by decide
 exact⟨Q4 (Q0 h1 (Q0 hM (Rh _ q8))) z2,Q4 (Q0 h2 (Q0 hD p8)) z1⟩
def zE(pa:cE ts)(t8:ts.length<=8){ks:List Nat}(hk:∀k∈ks,k<ts.length)(l7:ks.length<=7)(i:Nat):Bq 3900 (pq (cP ts) (ks.take i)):=by
 have h:=FS (ks:=ks.take i) pa (λk hk'=>hk k (SN hk')) (by rw[Q3];lia);have p1:=jY pa;refine e_ pa t8 h (Sd p1) (QW p1 (by decide)) ?_;unfold MM;exact Q0 (QW (RB (by decide) p1) (by decide)) (SB _ (by decide))
def Jc(pa:cE ts)(t8:ts.length<=8){k:Nat}(hk:k<ts.length):Bq 3900 (cP ts k):=by
 have p1:=jY pa;refine e_ pa t8 (FX pa hk) p1 (WH (by decide) _) ?_;exact Q0 (WH (by decide) _) (SB _ (by decide))
def LV(pa:cE ts){k:Nat}{t:Tn}(ht:ts[k]?=some t):dI [t.q,t.d]=dQ (cP ts k):=by
 obtain⟨_,d0,g,_,_⟩:=pa t (QI ht);obtain⟨e1,e2⟩:=eK (t:=t.q) (b:=t.d) (q:=t.q) (d:=t.d) (by lia) ⟨d0,g,rfl⟩;unfold dQ;have e:cP ts k=Q9 t.q t.d:=by unfold cP;rw[ht]
 rw[e,<- e1,<- e2]
abbrev yG(K:Fg):Sp:=λvs H Q _=>∃(c b:Addr) (xs:List V) (ts:List Tn) (ks:List Nat),vs=[.ref c,.ref b]/\H c=some (.tup xs)/\RzL K H xs (ts.map dT)/\H b=some (.lst ((ni ks).map V.int))/\(∀k∈ks,k<ts.length)/\cE ts/\ts.length<=8/\ks.length<=7/\∀(v:V) (H':Hp),Same H H'->QV K H' v (pq (cP ts) ks)->Q v H'
abbrev xI(K:Fg)(oq:Addr):TS:=(am (aw (tC (.ref oq)) (al 2))
 (am (aW (ce K (aa 1)) (al 3)
 (aw (aD (mF K) [] E0 (ae (aa 2) (ae (ar (aE K) (ar (aE K) (aa 0) (aa 3)) (tC (.int 2))) ag))) (al 2)))
 (aG (aa 2))))
def H_{K:Fg}(one:∀H:Hp,SqT K H oq [.int 1,.int 1]){vs:List V}{H:Hp}{N:List Str}(hN:N.length=4)(h:yG K vs H Q E):xI K oq (ends Q) (L2.start N vs) H:=by
 obtain⟨c,b,xs,ts,ks,rfl,hc,rx,hb,hk,pa,t8,l7,k⟩:=h;rw[L2.aP hN];walk_at "t";have lx:xs.length=ts.length:=by rw[rx.length,Qx]
 unfold xI;cbv;refine f7 (SqL.of hb) ?_;refine a_ (xs:=(ni ks).map V.int) (λi σ H2=>∃(v:V) (u3:Option V),σ=[⇑c,⇑b,some v,u3]/\Same H H2/\QV K H2 v (pq (cP ts) (ks.take i))) ⟨.ref oq,none,rfl,Same.refl _,oq,rfl,one H⟩ (by rintro i σ H2 _ ⟨_,_,_,S,_⟩;exact SqL.of (S _ _ hb)) ?_ ?_
 .rintro i x σ H2 hx ⟨v,u3,rfl,S2,qv⟩;obtain⟨m,em,rfl⟩:=ic hx;have lm:=hk m (QI em);obtain⟨t,ht⟩:∃t,ts[m]?=some t:=⟨_,Qy lm⟩
  obtain⟨z,ez⟩:∃z,xs[m]?=some z:=⟨_,Qy (by lia)⟩
  obtain⟨d,g1,g2⟩:=rx.get ez;rw[QD,ht] at g1;cases g1;obtain⟨pt_,z1,z2,z3,rfl,hpt,_,_,q3⟩:=jU (g2.same S2);rw[LV pa ht] at q3;cbv;refine aF (SqT.of (S2 _ _ hc)) (v:=.ref pt_) (aI ez) ?_;cbv;refine aF (SqT.of hpt) (v:=z3) rfl ?_;cbv;refine⟨v,z3,_,_,rfl,qv,QV.of q3,zE pa t8 hk l7 i,Jc pa t8 lm,λp H3 S3 r3=>?_⟩;cbv;refine⟨_,_,rfl,S2.trans S3,?_⟩;rw[zD em];exact QV.of r3
 .rintro σ H2 ⟨v,u3,rfl,S2,qv⟩;rw[bA,Sa] at qv;cbv;exact k v H2 S2 qv
def va{α:Type}{p q:α->Bool}:∀l:List α,(∀x∈l,p x=true->q x=false)->(l.filter p).length+(l.filter q).length=(l.filter λx=>p x || q x).length
 |[],_=>rfl
 |a :: l,h=>by
  have ih:=va l λx hx=>h x (QL _ hx)
  have ha:=h a QK;cases e1:p a <;> cases e2:q a
  .rw[RU (by rw[e1];decide),RU (by rw[e2];decide),RU (by rw[e1,e2];decide)];exact ih
  .rw[RU (by rw[e1];decide),Sb e2,Sb (by rw[e1,e2];rfl),Ru,Ru];lia
  .rw[Sb e1,RU (by rw[e2];decide),Sb (by rw[e1];rfl),Ru,Ru];lia
  .rw[ha e1] at e2;cases e2
abbrev rO(es:List (Nat×Nat)):List Nat->Nat
 |[]=>0
 |h :: hs=>(d7 es h).length+rO es hs
def yo(es:List (Nat×Nat)):∀{hs:List Nat},hs.Nodup->rO es hs<=((QR es.length).filter λk=>hs.contains (fro es k)).length
 |[],_=>RL _
 |h :: hs,nd=>by
  obtain⟨n1,n2⟩:=RH.mp nd;have ih:=yo es n2
  have e:=va (p:=λk=>fro es k == h) (q:=λk=>hs.contains (fro es k)) (QR es.length) λk _ hk=>by
   have:fro es k=h:=by simpa using hk
   rw[this];simpa using n1
  have e2:(λk=>(fro es k == h) || hs.contains (fro es k))=λk=>(h :: hs).contains (fro es k):=funext λk=>by rw[List.contains_cons]
  rw[e2] at e;show(d7 es h).length+rO es hs<=_;unfold d7;lia
def zI{es:List (Nat×Nat)}:∀(hs:List Nat) (acc:List (List Nat)),(hs.foldl (ju es) acc).length<=acc.length*2 ^ rO es hs
 |[],acc=>by show acc.length<=acc.length*2 ^ 0;lia
 |h :: hs,acc=>by
  refine Q0 (zI hs (ju es acc h)) ?_
  have l1:(ju es acc h).length=acc.length*(d7 es h).length:=by
   unfold ju;rw[List.length_flatMap];clear zI
   induction acc with
   |nil=>rw[WL,List.sum_nil,Vw,VT]
   |cons a acc ih=>rw[RP,List.sum_cons,ih,Qx,Ru,Uu,X2]
  rw[l1,show rO es (h :: hs)=(d7 es h).length+rO es hs from rfl,SO,<- RF];exact RC _ (Rh _ (TJ Nat.lt_two_pow_self))
def uw{es:List (Nat×Nat)}(e8:es.length<=8){hs:List Nat}(nd:hs.Nodup)(i:Nat):(pk es (hs.take i)).length<=900:=by
 have h1:=zI (es:=es) (hs.take i) [[]];have h2:=yo es (nd.sublist (VI i hs));have h3:=Sc (λk=>(hs.take i).contains (fro es k)) (QR es.length);rw[Ra] at h3;have h4:2 ^ rO es (hs.take i)<=2 ^ 8:=QW (by decide) (by lia);have h5:[([]:List Nat)].length=1:=rfl;unfold pk;rw[h5] at h1;lia
open Classical in
abbrev wq (es:List (Nat×Nat)) (ts:List Tn) (r:Nat) (q:List Nat):Rat:=if TD (prs es q r) r then pq (cP ts) q else 0
def Aq{α:Type}{l:List α}{f:α->Rat}{j:Nat}{x:α}(e:l[j]?=some x):ls (l.take (j+1)) f=ls (l.take j) f+f x:=by
 rw[QX,e,p_];show _+(f x+0)=_;rw[UA]
def wT{es:List (Nat×Nat)}{ts:List Tn}{r:Nat}(pa:cE ts):∀{l:List (List Nat)},(∀q∈l,(∀k∈q,k<ts.length)/\q.length<=7)->Sml (DD ts) (l.length*MM ts) (ls l (wq es ts r))
 |[],_=>Sml.zero _ _
 |q :: l,h=>by
  have h1:Sml (DD ts) (MM ts) (wq es ts r q):=by
   unfold wq;split
   .exact FS pa (h q QK).1 (h q QK).2
   .exact Sml.zero _ _
  rw[a7,Ru,Uu,X2];exact h1.add (wT pa λx hx=>h x (QL _ hx))
def GT(pa:cE ts)(t8:ts.length<=8){l:List (List Nat)}(h:∀q∈l,(∀k∈q,k<ts.length)/\q.length<=7)(few:l.length<=900):Bq 3900 (ls l (wq es ts r)):=by
 have p1:=jY pa;refine e_ pa t8 (wT pa h) (Sd p1) (QW p1 (by decide)) ?_;unfold MM;exact Rt (by lia) (QW (RB (by decide) p1) (by decide))
abbrev rS(K:Fg):Sp:=λvs H Q _=>∃(c p b:Addr) (ys xs:List V) (ts:List Tn) (es:List (Nat×Nat)) (L:List Nat) (r:Nat),vs=[.ref c,.ref p,.ref b,.int (r:Int)]/\H c=some (.tup ys)/\RzL K H ys (ts.map dT)/\H p=some (.lst xs)/\RzL K H xs (es.map dP)/\H b=some (.lst ((ni L).map V.int))/\es.length=ts.length/\ts.length<=8/\cE ts/\L.Nodup/\r∈L/\L.length<=8/\(∀k,k<es.length->(fro es k∈L↔tow es k∈L)) /\
 ∀(v:V) (H':Hp),Same H H'->QV K H' v (W es (cP ts) L r)->Q v H'
nonrec abbrev xp(K:Fg)(nq:Addr):TS:=(am (aW (ce K (aD (r_ K) [] E0 (ae (aa 1) (ae (d8 (ce K (aa 2)) 1 (al 0) (aR (ar wL (aa 0) (aa 4))) (aa 0)) ag)))) (al 5)
 (aS (tB (aD (yA K) [] E0 (ae (aa 1) (ae (aa 5) (ae (aa 3) ag)))))
 (aw (aD (rX K) [] E0 (ae (aa 4) (ae (aD (Tr.yG K) [] E0 (ae (aa 0) (ae (aa 5) ag))) ag))) (al 4))
 aV))
 (aG (aa 4)))
abbrev qY(K:Fg)(nq:Addr):TS:=(am (aw (tC (.ref nq)) (al 4))
 (xp K nq))
def DH{K:Fg}(zero:∀H:Hp,SqT K H nq [.int 0,.int 1]){vs:List V}{H:Hp}{N:List Str}(hN:N.length=6)(h:rS K vs H Q E):qY K nq (ends Q) (L2.start N vs) H:=by
 obtain⟨c,p,b,ys,xs,ts,es,L,r,rfl,hc,ry,hp,rx,hb,et,t8,pa,nd,hr,l8,cl,k⟩:=h;rw[L2.aP hN];walk_at "t";have ndo:(b6 L r).Nodup:=nd.filter _;have lo:=mY nd hr;unfold qY;cbv;refine⟨b,rfl,⟨_,SqL.of hb⟩,?_⟩;refine k9 (xs:=(ni L).map V.int) λD nD=>⟨λj H2=>AccZ K H D H2 ((b6 (L.take j) r).map dN),AccZ.start (Same.refl _) nD,λj H2 _ A=>SqL.of (A.same _ _ hb),?_,?_⟩
 .intro j x H2 hx A us hu;obtain⟨u0,rfl⟩:∃u,us=[u]:=SV.mp hu;have lj:=(QC.mp hx).1;obtain⟨h,eh,rfl⟩:=ic hx
  have er:b6 (L.take (j+1)) r=b6 (L.take j) r++[h].filter λx=>x != r:=by
   unfold b6;rw[QX,eh,TH];rfl
  have lr:(b6 (L.take j) r).length<=8:=Q0 (Sc _ _) (by rw[Q3];lia);cbv;refine⟨⟨[↥(h:Int)],rfl,rfl⟩,?_⟩;cbv;refine eN (λz=>?_) (λz=>?_)
  .have z':h≠r:=λe=>z (by rw[e])
   cbv;refine a6 lj ?_;refine A.cA (d:=dN h) (.int _) (av (by rw[Qx];lia)) λH4 A4=>?_
   show AccZ K H D H4 ((b6 (L.take (j+1)) r).map dN);rw[er,Sb (by simpa using z'),QJ];exact A4
  .have z':h=r:=by lia
   refine fe lj ?_;show AccZ K H D H2 ((b6 (L.take (j+1)) r).map dN);rw[er,RU (by simpa using z')];simpa using A
 intro H2 A;rw[bA,Sa] at A;have hD:H2 D=some (.lst ((ni (b6 L r)).map V.int)):=AccZ.ints (by unfold ni;rw[Sg];exact A);have S2:=A.same;cbv;refine⟨p,D,xs,es,b6 L r,rfl,S2 _ _ hp,rx.same S2,by lia,hD,by lia,uw (by lia) ndo,λq H3 A3=>?_⟩;have few:=uw (es:=es) (by lia) ndo (b6 L r).length;rw[Sa] at few;obtain⟨zs,hz,rz⟩:=A3.at_;have lz:zs.length=(pk es (b6 L r)).length:=by rw[rz.length,Qx]
 have S3:=S2.trans A3.same
 have pkm:∀q∈pk es (b6 L r),q.map (fro es)=b6 L r/\∀k∈q,k<es.length:=λq hq=>by
  obtain⟨a,ha,ks,e1,e2,e3⟩:=uv hq;rw[QY.mp ha,Um] at e1;rw[e1];exact⟨e2,e3⟩
 have pk7:∀q∈pk es (b6 L r),(∀k∈q,k<ts.length)/\q.length<=7:=λq hq=>by
  obtain⟨e2,e3⟩:=pkm q hq
  have:=congrArg Sr e2
  rw[Qx] at this;exact⟨λk hk=>by have:=e3 k hk;lia,by lia⟩
 have fin:ls (pk es (b6 L r)) (wq es ts r)=W es (cP ts) L r:=J_ nd hr cl;rw[<- fin] at k;generalize pk es (b6 L r)=P at rz lz few pkm pk7 k;refine f7 (SqL.of hz) ?_;refine a_ (xs:=zs) (λj σ H4=>∃(v:V) (u5:Option V),σ=[⇑c,⇑p,⇑b,↥(r:Int),some v,u5]/\Same H3 H4/\QV K H4 v (ls (P.take j) (wq es ts r))) ⟨.ref nq,none,rfl,Same.refl _,nq,rfl,zero H3⟩ (by rintro j σ H4 _ ⟨_,_,_,S,_⟩;exact SqL.of (S _ _ hz)) ?_ ?_
 .rintro j x σ H4 hx ⟨v,u5,rfl,S4,qv⟩;have lj:=(QC.mp hx).1;obtain⟨d,g1,g2⟩:=rz.get hx;rw[QD] at g1;obtain⟨w,hw,rfl⟩:=QG.mp g1;obtain⟨a,rfl,_,ha⟩:=wF g2;have mw:=QI hw;obtain⟨m1,m2⟩:=pkm w mw;obtain⟨m3,m4⟩:=pk7 w mw;have S04:=S3.trans S4
  have keys:(prs es w r).map (·.1)=r :: b6 L r:=by
   unfold prs;rw[RP,Sg,<- m1];rfl
  cbv;refine⟨p,a,xs,es,w,r,rfl,S04 _ _ hp,rx.same S04,S4 _ _ ha,by lia,m2,?_,?_,λtd H5 S5=>?_,λtd H5 S5=>?_⟩
  .rw[keys,RH];exact⟨zW,ndo⟩
  .intro e he;rw[keys]
   have inL:∀h,h∈L->h∈r :: b6 L r:=λh hh=>by
    by_cases q:h=r
    .rw[q];exact QK
    .exact QL _ (fZ.mpr ⟨hh,q⟩)
   rcases Q5.mp (show e∈(r,r) :: w.map λk=>(fro es k,tow es k) from he) with rfl|he
   .exact QK
   .obtain⟨k,hk,rfl⟩:=QU.mp he;refine inL _ ((cl k (m2 k hk)).mp ?_)
    have:fro es k∈w.map (fro es):=QU.mpr ⟨k,hk,rfl⟩
    rw[m1] at this;exact(fZ.mp this).1
  .cbv;refine⟨c,a,ys,ts,w,rfl,S5 _ _ (S04 _ _ hc),ry.same (S04.trans S5),S5 _ _ (S4 _ _ ha),m3,pa,t8,m4,λv2 H6 S6 qv2=>?_⟩;cbv;have fs:∀q∈P.take j,(∀k∈q,k<ts.length)/\q.length<=7:=λq hq=>pk7 q (SN hq)
   refine⟨v,v2,_,_,rfl,(qv.same S5).same S6,qv2,GT pa t8 fs (by rw[Q3];lia),by have:=zE pa t8 m3 m4 w.length;rw[Sa] at this;exact this,λp2 H7 S7 r7=>?_⟩;cbv;refine⟨_,_,rfl,S4.trans (S5.trans (S6.trans S7)),?_⟩;rw[Aq hw,show wq es ts r w=pq (cP ts) w from if_pos td];exact QV.of r7
  .cbv;refine⟨_,_,rfl,S4.trans S5,?_⟩;rw[Aq hw,show wq es ts r w=0 from if_neg td,UA];exact qv.same S5
 .rintro σ H4 ⟨v,u5,rfl,S4,qv⟩;rw[lz,Sa] at qv;cbv;exact k v H4 (S3.trans S4) qv
open PySem L2 Fr G1 Sm Vs G2 Rk Sz Sf Rw Ti Lo
def bi{h:Nat}:h∈aM f v↔h<f.length/\Lo.at_ f h=v:=by
 unfold aM;rw[Ri,Rb,decide_eq_true_eq]
def cu(f:List Nat)(v:Nat):(aM f v).Nodup:=Wc.filter _
def fW:(aM f v).length<=f.length:=by
 unfold aM;exact Q0 (Sc _ _) (by rw[Ra];exact QH _)
def tt{es:List (Nat×Nat)}{k:Nat}(h:k<es.length):(fro es k,tow es k)∈es:=by
 unfold fro tow;rw[Qz,Qy h];exact Ry h
def eG(F:FI n es es f)(ok:N6 n es)(v k:Nat)(hk:k<es.length):fro es k∈aM f v↔tow es k∈aM f v:=by
 have m:=tt hk;have e:=F.one _ m;have o:=ok _ m;have o1:fro es k<n:=o.1;have o2:tow es k<n:=o.2;have e':Lo.at_ f (fro es k)=Lo.at_ f (tow es k):=e;rw[bi,bi,F.len,e'];constructor
 .exact λz=>⟨o2,z.2⟩
 .exact λz=>⟨o1,z.2⟩
def FW{L:List Nat}(l:List Nat)(nd:l.Nodup)(s:∀x∈l,x∈L):l.length<=L.length:=cw nd s
abbrev Wt (ts:List Tn) (h:Nat):Rat:=W (aq ts) (cP ts) (aM (a5 (aH ts).length (aq ts)) (Lo.at_ (a5 (aH ts).length (aq ts)) h)) h
abbrev kv(dv:List (Nat×V)):List (bf×V):=dv.map λq=>((.inl (q.1:Int):bf),q.2)
def AD:∀{dv:List (Nat×V)} {h:Nat},h∉dv.map (·.1)->bO (kv dv) (.inl (h:Int))=none
 |[],h,_=>rfl
 |q :: dv,h,n=>by
  show bO (((.inl (q.1:Int):bf),q.2) :: kv dv) (.inl (h:Int))=_;rw[bw λz=>n (by have:=VE z;rw[RP,show q.1=h by lia];exact QK)];exact AD λm=>n (QL _ m)
def Ms{dv:List (Nat×V)}{h:Nat}(n:h∉dv.map (·.1)):ci (kv dv) (.inl (h:Int)) v=kv (dv++[(h,v)]):=by
 unfold ci;rw[eZ,AD n];show kv dv++[_]=_;unfold kv;rw[QJ];rfl
def Ge:∀{dv:List (Nat×V)} {h:Nat},h∈dv.map (·.1)->∃v,bO (kv dv) (.inl (h:Int))=some v/\(h,v)∈dv
 |[],h,m=>by cases m
 |q :: dv,h,m=>by
  by_cases e:q.1=h
  .refine⟨q.2,?_,by rw[<- e];exact QK⟩;show bO (((.inl (q.1:Int):bf),q.2) :: kv dv) (.inl (h:Int))=_;rw[bF (by rw[e])]
  .obtain⟨v,h1,h2⟩:=Ge (dv:=dv) (h:=h) ((Q5.mp m).resolve_left λz=>e z.symm);refine⟨v,?_,QL _ h2⟩;show bO (((.inl (q.1:Int):bf),q.2) :: kv dv) (.inl (h:Int))=_;rw[bw λz=>e (by have:=VE z;lia)];exact h1
def QV.put{K:Fg}{de:List (bf×V)}(h:QV K H v x)(hd:H rd=some (.dK de)):QV K (upd H rd o) v x:=by
 obtain⟨a,e,ha⟩:=h;refine⟨a,e,?_⟩;rcases ha with(ha|⟨u,ha⟩)|ha
 .exact .inl (.inl (by rw[aJ λz=>by rw[z,hd] at ha;cases ha];exact ha))
 .exact .inl (.inr ⟨u,by rw[aJ λz=>by rw[z,hd] at ha;cases ha];exact ha⟩)
 .exact .inr ha
abbrev Kp(H H':Hp):Prop:=∀c o,H c=some o->(∀de,o≠.dK de)->H' c=some o
def Kp.on(k:Kp H H1)(S:Same H1 H2):Kp H H2:=λc o e n=>S _ _ (k c o e n)
def Kp.put{de:List (bf×V)}(k:Kp H H1)(hd:H1 rd=some (.dK de)):Kp H (upd H1 rd o):=λc o' e n=>by
 have:=k c o' e n
 rw[aJ λz=>by rw[z,hd] at this;exact n de (Q7 this).symm];exact this
def Kp.lst{H H1:Hp}(k:Kp H H1){c:Addr}{xs:List V}(h:H c=some (.lst xs)):H1 c=some (.lst xs):=k _ _ h λ_ z=>by cases z
def Kp.tup{H H1:Hp}(k:Kp H H1){c:Addr}{xs:List V}(h:H c=some (.tup xs)):H1 c=some (.tup xs):=k _ _ h λ_ z=>by cases z
def Kp.rz{K:Fg}(k:Kp H H1)(h:RzL K H xs ds):RzL K H1 xs ds:=h.agr ⟨λ_ _ e=>k.tup e,λ_ _ z=>z.elim⟩
structure DI (K:Fg) (ts:List Tn) (H H3:Hp) (rd:Addr) (ks:List Nat) (H4:Hp):Prop where
 same:Same H H4
 keep:Kp H3 H4
 dict:∃dv:List (Nat×V),H4 rd=some (.dK (kv dv))/\dv.map (·.1)=ks/\∀q∈dv,QV K H4 q.2 (Wt ts q.1)
abbrev mE(K:Fg):Sp:=λvs H Q _=>∃(v:V) (ws:List Str) (ts:List Tn),vs=[v]/\Rz K H v (dV ws ts)/\ts.length<=8/\(aH ts).length<=8/\cE ts/\∀(p:Addr) (H':Hp) (xs:List V),H p=none->Same H H'->H' p=some (.lst xs)->xs.length=(aH ts).length->(∀i x,xs[i]?=some x->QV K H' x (Wt ts i))->Q (.ref p) H'
nonrec abbrev xo(K:Fg):TS:=(am (aW (ce K (aD (uh K) [] E0 (ae (aa 0) ag))) (al 3)
 (aW (ce K (aa 3)) (al 4)
 (pB (aa 2) (aa 4) (aD (rS K) [] E0 (ae (ar (aE K) (aa 0) (tC (.int 1))) (ae (aa 1) (ae (aa 3) (ae (aa 4) ag))))))))
 (aG (fA (ck (ae (bo Li (ae (aa 2) ag)) ag)) (rN (aa 3) (aa 0)))))
abbrev qX(K:Fg):TS:=(am (aw (aD (fF K) [] E0 (ae (aa 0) ag)) (al 1))
 (am (aw FG (al 2))
 (xo K)))
def DG{K:Fg}:ρ 5 (mE K) (qX K):=by
 fail "R";obtain⟨v,ws,ts,rfl,rv,t8,h8,pa,k⟩:=h;have rv0:=rv;obtain⟨a,v1,v2,rfl,ha,_,r2⟩:=iO rv;obtain⟨c,ys,rfl,hc,ry⟩:=r2.b5;rw[L2.aP hN];walk_at "t";have ok:=bS ts;have le:(aq ts).length=ts.length:=by unfold aq;rw[Qx]
 have F:=bX ok;unfold qX;cbv;refine⟨.ref a,ws,ts,rfl,rv0,by lia,λpe H1 A1=>?_⟩;obtain⟨xs,hpe,rx⟩:=A1.at_;have S1:=A1.same;cbv;intro rd nr;have S2:=S1.trans (ak nr (.dK []));have d2:upd H1 rd (.dK []) rd=some (.dK (kv [])):=aj;have hpe2:=ak nr (.dK []) _ _ hpe;have rx2:=rx.same (ak nr (.dK []));have nrH:H rd=none:=S1.free nr;generalize upd H1 rd (.dK [])=H2 at S2 d2 hpe2 rx2 ⊢;cbv;refine⟨.ref a,ws,ts,rfl,rv0.same S2,t8,h8,λlp H3 S3 r3=>?_⟩;obtain⟨lp',zs,elp,_,hl,rz⟩:=Rp.kU r3;cases elp;unfold cQ at rz;have lz:zs.length=(fG (a5 (aH ts).length (aq ts))).length:=by rw[rz.length,Qx,Qx]
 have hW:∀h,Wt ts h=W (aq ts) (cP ts) (aM (a5 (aH ts).length (aq ts)) (Lo.at_ (a5 (aH ts).length (aq ts)) h)) h:=λ_=>rfl
 generalize a5 (aH ts).length (aq ts)=f at F rz lz hW;generalize (aH ts).length=n at F ok h8 k;have fl:=F.len;have hpe3:=S3 _ _ hpe2;have rx3:=rx2.same S3;have hc3:=S3 _ _ (S2 _ _ hc);have ry3:=(ry.same S2).same S3;have ha3:=S3 _ _ (S2 _ _ ha)
 have lo:∀i L,(fG f)[i]?=some L->∃v,((QR f.length).filter λv=>Lo.at_ f v=v)[i]?=some v/\L=aM f v:=λi L e=>by
  unfold fG at e;rw[QD] at e;obtain⟨v,h1,h2⟩:=QG.mp e;exact⟨v,h1,h2.symm⟩
 have vnd:((QR f.length).filter λv=>Lo.at_ f v=v).Nodup:=Wc.filter _;generalize hV:(QR f.length).filter (λv=>Lo.at_ f v=v)=Vs at lo vnd;have D0:DI K ts H H3 rd [] H3:=⟨S2.trans S3,λ_ _ e _=>e,[],S3 _ _ d2,rfl,λq hq=>by cases hq⟩
 let Dn:Nat->List Nat->Prop:=λi ks=>ks.Nodup/\∀h,h∈ks↔h<n/\∃m,m<i/\Vs[m]?=some (Lo.at_ f h)
 have Dn0:Dn 0 []:=⟨To,λh=>⟨(λz=>by cases z),(by rintro ⟨_,m,hm,_⟩;exact absurd hm (SU _))⟩⟩
 refine f7 (SqL.of hl) ?_;refine a_ (xs:=zs) (λi σ H4=>∃(u3 u4:Option V) (ks:List Nat),σ=[⇑a,⇑pe,⇑rd,u3,u4]/\DI K ts H H3 rd ks H4/\Dn i ks) ⟨none,none,[],rfl,D0,Dn0⟩ (by rintro i σ H4 _ ⟨_,_,_,_,D,_⟩;exact SqL.of (D.keep.lst hl)) ?_ ?_
 .rintro i x σ H4 hx ⟨u3,u4,ks,rfl,D,dn⟩;have li:=(QC.mp hx).1;obtain⟨d,g1,g2⟩:=rz.get hx;rw[QD,QD] at g1;cases eL:(fG f)[i]? with
  |none=>rw[eL] at g1;cases g1
  |some L =>
   rw[eL] at g1;cases g1;obtain⟨b,rfl,_,hb⟩:=wF g2;obtain⟨w,ew,rfl⟩:=lo i L eL;have hb':H3 b=some (.lst ((ni (aM f w)).map V.int)):=hb;cbv;refine f7 (SqL.of (D.keep.lst hb')) ?_;refine a_ (xs:=(ni (aM f w)).map V.int) (λj σ H5=>∃(u4:Option V),σ=[⇑a,⇑pe,⇑rd,⇑b,u4]/\DI K ts H H3 rd (ks++(aM f w).take j) H5) ⟨u4,rfl,by simpa using D⟩ (by rintro j σ H5 _ ⟨_,_,D⟩;exact SqL.of (D.keep.lst hb')) ?_ ?_
   .rintro j x σ H5 hx5 ⟨u4,rfl,D5⟩;obtain⟨h,eh,rfl⟩:=ic hx5;have mh:=QI eh;obtain⟨hn,ah⟩:=bi.mp mh
    have nk:h∉ks++(aM f w).take j:=by
     intro m;rcases Q8.mp m with m|m
     .obtain⟨_,t,ht,et⟩:=(dn.2 h).mp m;rw[ah] at et;have l1:=(QC.mp et)
      have l2:=(QC.mp ew)
      have:=(UL (h₀:=l1.1) (h₁:=l2.1) vnd).mp (by rw[l1.2,l2.2])
      lia
     .obtain⟨t,et⟩:=RA m
      have tj:t<j:=by
       have:=(QC.mp et).1
       rw[Q3] at this;lia
      rw[Xs tj] at et;have l1:=(QC.mp et)
      have l2:=(QC.mp eh)
      have:=(UL (h₀:=l1.1) (h₁:=l2.1) (cu f w)).mp (by rw[l1.2,l2.2])
      lia
    cbv;refine aF (SqT.of (D5.keep.tup ha3)) (v:=.ref c) rfl ?_;cbv;refine⟨c,pe,b,ys,xs,ts,aq ts,aM f w,h,rfl,D5.keep.tup hc3,D5.keep.rz ry3,D5.keep.lst hpe3,D5.keep.rz rx3,D5.keep.lst hb',le,t8,pa,cu f w,mh,Q0 fW (by lia),eG F ok w,λv6 H6 S6 qv=>?_⟩;obtain⟨dv,q1,q2,q3⟩:=D5.dict;have d6:=S6 _ _ q1;have nkd:h∉dv.map (·.1):=by rw[q2];exact nk
    have ldv:dv.length<=100:=by
     have l1:(dv.map (·.1)).length<=(QR n).length:=by
      refine cw ?_ λx hx=>?_
      .rw[q2];refine U5.mpr ⟨dn.1,(cu f w).sublist (VI _ _),λx hx y hy e=>?_⟩;subst e;obtain⟨_,t,ht,et⟩:=(dn.2 x).mp hx
       have:=(bi.mp (SN hy)).2
       rw[this] at et;have l1:=(QC.mp et)
       have l2:=(QC.mp ew)
       have:=(UL (h₀:=l1.1) (h₁:=l2.1) vnd).mp (by rw[l1.2,l2.2])
       lia
      .rw[q2] at hx;rw[Rb];rcases Q8.mp hx with hx|hx
       .exact((dn.2 x).mp hx).1
       .have:=(bi.mp (SN hx)).1
        lia
     rw[Qx,Ra] at l1;lia
    cbv;refine⟨rd,_,rfl,(DPut.k d6 (av (by unfold kv;rw[Qx];lia)):DPut H6 rd (kV (.inl (h:Int))) _ _),?_⟩;refine⟨_,rfl,λe o q=>?_,(D5.keep.on S6).put d6,dv++[(h,v6)],?_,?_,λq hq=>?_⟩
    .rw[aJ (ay q nrH)];exact S6 _ _ (D5.same e o q)
    .rw[aj,Ms nkd]
    .rw[QJ,q2,QX,eh,R_];rfl
    .rcases Q8.mp hq with hq|hq
     .exact((q3 q hq).same S6).put d6
     .rw[QY.mp hq];refine QV.put ?_ d6;show QV K H6 v6 (Wt ts h);rw[hW h,ah];exact qv
   .rintro σ H5 ⟨u4,rfl,D5⟩;rw[bA,Sa] at D5;cbv;refine⟨_,_,_,rfl,D5,U5.mpr ⟨dn.1,cu f w,λx hx y hy e=>?_⟩,λh=>?_⟩
    .subst e;obtain⟨_,t,ht,et⟩:=(dn.2 x).mp hx;rw[(bi.mp hy).2] at et;have l1:=(QC.mp et)
     have l2:=(QC.mp ew)
     have:=(UL (h₀:=l1.1) (h₁:=l2.1) vnd).mp (by rw[l1.2,l2.2])
     lia
    .rw[Q8,dn.2 h,bi,fl];constructor
     .rintro(⟨q1,m,hm,em⟩|⟨q1,q2⟩)
      .exact⟨q1,m,by lia,em⟩
      .exact⟨q1,i,by lia,by rw[q2];exact ew⟩
     .rintro⟨q1,m,hm,em⟩;rcases WQ m i with z|z
      .exact .inl ⟨q1,m,z,em⟩
      .rw[show m=i by lia,ew] at em;exact .inr ⟨q1,(Q7 em).symm⟩
 rintro σ H4 ⟨u3,u4,ks,rfl,D,dn⟩;obtain⟨dv,q1,q2,q3⟩:=D.dict
 have all:∀h,h∈ks↔h<n:=λh=>by
  rw[dn.2 h];refine⟨λz=>z.1,λz=>⟨z,?_⟩⟩
  have m:Lo.at_ f h∈Vs:=by
   rw[<- hV,Ri,Rb,decide_eq_true_eq,fl];exact⟨Q4 (F.le h z) z,F.fix h z⟩
  obtain⟨t,et⟩:=RA m;refine⟨t,?_,et⟩
  have:=(QC.mp et).1
  rw[lz];unfold fG;rw[Qx,hV];exact this
 have lk2:ks.length=n:=by
  have l1:=cw (hs:=QR n) dn.1 λx hx=>Rb.mpr ((all x).mp hx)
  have l2:=cw (hs:=ks) (Wc (n:=n)) λx hx=>(all x).mpr (Rb.mp hx)
  rw[Ra] at l1 l2;lia
 have ldv:(kv dv).length=n:=by
  unfold kv;rw[Qx,<- lk2,<- q2,Qx]
 cbv;refine⟨rd,_,rfl,q1,?_⟩;rw[ldv];refine⟨_,rfl,by lia,by lia,?_⟩;rw[RJ];refine c_ (n:=n) λE nE=>⟨λj H5=>∃us:List V,H5=upd H4 E (.lst us)/\us.length=j/\∀i x,us[i]?=some x->QV K H4 x (Wt ts i),⟨[],rfl,rfl,λi x e=>by cases e⟩,?_,?_⟩
 .rintro j H5 hj ⟨us,rfl,lu,qs⟩;rw[T0];have q15:=ak nE (.lst us) _ _ q1;obtain⟨v,e1,e2⟩:=Ge (dv:=dv) (h:=j) (by rw[q2];exact(all j).mpr hj);cbv;refine⟨rd,_,rfl,(by have:=(DGet.k q15:DGet _ rd (kV (.inl (j:Int))) _);rw[e1] at this;exact this),?_⟩;refine a6 hj ⟨us,aj,av (by lia),us++[v],?_,by rw[QT,lu];rfl,λi x e=>?_⟩
  .funext z;unfold upd;by_cases w:z=E
   .rw[if_pos w,if_pos w]
   .rw[if_neg w,if_neg w,if_neg w]
  .rcases WQ i us.length with z|z
   .rw[RV z] at e;exact qs i x e
   .have li:=(QC.mp e).1;rw[QT,RY] at li;have ei:i=us.length:=by lia
    subst ei;rw[R4 (QH _),X7] at e;cases e;rw[lu];exact q3 _ e2
 .rintro H5 ⟨us,rfl,lu,qs⟩;exact k E _ us (D.same.free nE) (D.same.trans (ak nE _)) aj lu λi x e=>(qs i x e).same (ak nE _)
abbrev ib(K:Fg):Sp:=λvs H Q _=>∃t b:Int,vs=[.int t,.int b]/\0<b/\t.natAbs<2 ^ 8000/\b.natAbs<2 ^ 8000/\∀(p:Addr) (q d:Int) (H':Hp),Same H H'->Gd.Low t b q d->q.natAbs<=t.natAbs->d.natAbs<=b.natAbs->Rz K H' (.ref p) (dI [q,d])->Q (.ref p) H'
def Aw{K:Fg}{t b:Int}{Q:VK}(t0:0<t)(b0:0<b)(t1:t<=10000000000)(b1:b<=10000000000)(k:∀(p:Addr) (q d:Int) (H':Hp),Same H H'->gC q d->Rz K H' (.ref p) (dI [q,d])->Q (.ref p) H'):ib K [.int t,.int b] H Q E:=by
 have z:(10000000000:Nat)<2 ^ 8000:=Re (show(10000000000:Nat)<2 ^ 40 by decide) (QW (by decide) (by decide));refine⟨t,b,rfl,b0,Q4 (by lia) z,Q4 (by lia) z,λp q d H' S L m1 m2 r=>k p q d H' S ⟨?_,L.pos,L.low,?_,?_⟩ r⟩
 .have w:=L.worth
  have:=L.pos
  by_cases z:0<q
  .exact z
  .have h1:q*b<=0:=Int.mul_nonpos_of_nonpos_of_nonneg (by lia) (by lia);have h2:0<t*d:=Xq t0 L.pos;lia
 .lia
 .have:=L.pos
  lia
nonrec abbrev xH(K:Fg):TS:=(aG (aD (ib K) [] E0 (ae (ar aZ (tC (.int 1)) (ar aU (aa 0) (ar sE (tC (.int 10)) (tC (.int 9))))) (ae (ar aZ (tC (.int 1)) (ar aU (ar cg (aa 0) (ar sE (tC (.int 10)) (tC (.int 9)))) (ar sE (tC (.int 10)) (tC (.int 9))))) ag))))
nonrec abbrev xG(K:Fg):TS:=(am (aS (aR (ar fV (aa 1) (tC (.int 1))))
 (aG (aD (ib K) [] E0 (ae (ar aZ (tC (.int 1)) (ar aU (aa 0) (tC (.int 6)))) (ae (ar aZ (tC (.int 1)) (ar aU (ar cg (aa 0) (tC (.int 6))) (tC (.int 5)))) ag))))
 aV)
 (xH K))
abbrev rm(K:Fg):TS:=(am (aS (aR (ar fV (aa 1) (tC (.int 0))))
 (aG (bq (ae (tC (.int 1)) (ae (tC (.int 1)) ag))))
 aV)
 (xG K))
def DO{K:Fg}:ρ 2 (i9 K) (rm K):=by
 fail "R";obtain⟨a,b,rfl,k⟩:=h;rw[L2.aP hN];walk_at "t";unfold rm;cbv;refine bb (λz=>?_) (λz=>?_)
 .cbv;refine⟨aQ,λp np=>?_⟩;exact k p 1 1 _ (ak np _) ⟨by decide,by decide,PJ,by decide,by decide⟩ (.tup aj (RpL.ints [1,1]))
 cbv;refine bb (λz=>?_) (λz=>?_)
 .cbv;exact Aw (by lia) (by lia) (by lia) (by lia) k
 .cbv;rw[p9];cbv;rw[p9];cbv;rw[p9];cbv;exact Aw (by lia) (by lia) (by lia) (by lia) k
def NQ(pa:cE ts)(t8:ts.length<=8)(h8:(aH ts).length<=8){h:Nat}(hh:h<(aH ts).length):Sml (DD ts) (900*MM ts) (Wt ts h):=by
 have ok:=bS ts;have F:=bX ok;have le:(aq ts).length=ts.length:=by unfold aq;rw[Qx]
 unfold Wt;generalize a5 (aH ts).length (aq ts)=f at F;have nd:=cu f (Lo.at_ f h);have hr:h∈aM f (Lo.at_ f h):=bi.mpr ⟨by rw[F.len];exact hh,rfl⟩;have ndo:(b6 (aM f (Lo.at_ f h)) h).Nodup:=nd.filter _;have few:=uw (es:=aq ts) (by lia) ndo (b6 (aM f (Lo.at_ f h)) h).length;rw[Sa] at few;have lo:=mY nd hr;have l8:(aM f (Lo.at_ f h)).length<=8:=Q0 fW (by rw[F.len];exact h8);rw[<- J_ nd hr (eG F ok _)]
 have s:=wT (es:=aq ts) (r:=h) pa (l:=pk (aq ts) (b6 (aM f (Lo.at_ f h)) h)) λq hq=>by
  obtain⟨a,ha,ks,e1,e2,e3⟩:=uv hq;rw[QY.mp ha,Um] at e1
  have:=congrArg Sr e2
  rw[Qx] at this;rw[e1];exact⟨λk hk=>by have:=e3 k hk;lia,by lia⟩
 obtain⟨m,e,l⟩:=s;exact⟨m,e,Q0 l (RC _ few)⟩
def PZ{j:Nat}(hj:j<(aH ts).length):ls ((QR (aq ts).length).filter λk=>tow (aq ts) k == j) (λk=>cP ts k*Wt ts (fro (aq ts) k))=ls ((QR (aq ts).length).filter λk=>fro (aq ts) k == j) λk=>cP ts k*Wt ts (fro (aq ts) k):=by
 have ok:=bS ts;have F:=bX ok;have hW:∀h,Wt ts h=W (aq ts) (cP ts) (aM (a5 (aH ts).length (aq ts)) (Lo.at_ (a5 (aH ts).length (aq ts)) h)) h:=λ_=>rfl
 generalize a5 (aH ts).length (aq ts)=f at F hW;generalize aq ts=es at ok F hW;have nd:=cu f (Lo.at_ f j);have mj:j∈aM f (Lo.at_ f j):=bi.mpr ⟨by rw[F.len];exact hj,rfl⟩;have b:=Fm (es:=es) (pc:=cP ts) nd mj (eG F ok _) FW
 have e1:ls ((QR es.length).filter λk=>tow es k == j) (λk=>cP ts k*Wt ts (fro es k))=ls ((QR es.length).filter λk=>tow es k == j) λk=>cP ts k*W es (cP ts) (aM f (Lo.at_ f j)) (fro es k):=a9 λk hk=>by
  obtain⟨m1,m2⟩:=Ri.mp hk;have m2':tow es k=j:=by simpa using m2
  have:=F.one _ (tt (Rb.mp m1))
  have this':Lo.at_ f (fro es k)=Lo.at_ f (tow es k):=this;rw[hW,this',m2']
 have e2:ls ((QR es.length).filter λk=>fro es k == j) (λk=>cP ts k*Wt ts (fro es k))=ls (d7 es j) λk=>cP ts k*W es (cP ts) (aM f (Lo.at_ f j)) j:=a9 λk hk=>by
  obtain⟨m1,m2⟩:=Ri.mp hk;rw[show fro es k=j by simpa using m2,hW]
 rw[e1,e2];exact b
def zm(h:Rch es a b):∃n,Pn es n a b:=by
 induction h with
 |refl=>exact⟨0,rfl⟩
 |@step x y _ m ih =>
  obtain⟨n,p⟩:=ih;obtain⟨k,hk⟩:=RA m;obtain⟨e1,e2⟩:=Bi hk;have lk:=(QC.mp hk).1
  have:=Pn.snoc (es:=es) (k:=k) lk (n:=n) (a:=a) (by rw[e1];exact p)
  rw[e2] at this;exact⟨n+1,this⟩
def qD{es:List (Nat×Nat)}(bk:∀e∈es,Rch es e.2 e.1)(h:Rch (iQ es) a b):Rch es a b:=by
 induction h with
 |refl=>exact .refl
 |@step x y _ m ih =>
  refine Rch.trans ih ?_;rcases Q8.mp m with m|m
  .exact .step .refl m
  .obtain⟨e,he,z⟩:=QU.mp m;cases z;exact bk e he
def fY{x:Rat}:0<x.num↔0<x:=by
 constructor
 .intro h;have h1:=Ug.mp (Int.le_of_lt h);have h2:x≠0:=λe=>by rw[e] at h;exact absurd h (by decide)
  grind
 .intro h;have h1:=Ug.mpr (T6 h)
  have h2:x.num≠0:=λe=>by
   have:=Zae.mp e
   rw[this] at h;exact absurd h (by decide)
  lia
def FY(pa:cE ts){k:Nat}(hk:k<ts.length):0<cP ts k:=by
 obtain⟨t,ht⟩:∃t,ts[k]?=some t:=⟨_,Qy hk⟩
 obtain⟨q0,d0,g,_,_⟩:=pa t (QI ht);obtain⟨e1,e2⟩:=eK (t:=t.q) (b:=t.d) (q:=t.q) (d:=t.d) (by lia) ⟨d0,g,rfl⟩;have e:cP ts k=Q9 t.q t.d:=by unfold cP;rw[ht]
 rw[e];exact fY.mp (by rw[<- e1];exact q0)
def fI(pa:cE ts)(bk:∀e∈aq ts,Rch (aq ts) e.2 e.1){h:Nat}(hh:h<(aH ts).length):0<(Wt ts h).num:=by
 have ok:=bS ts;have F:=bX ok;have le:(aq ts).length=ts.length:=by unfold aq;rw[Qx]
 refine fY.mpr ?_;unfold Wt;generalize a5 (aH ts).length (aq ts)=f at F;have mh:h∈aM f (Lo.at_ f h):=bi.mpr ⟨by rw[F.len];exact hh,rfl⟩;refine P7 (cu f _) mh (eG F ok _) FW (λk hk=>FY pa (by lia)) λx hx=>?_
 obtain⟨x1,x2⟩:=bi.mp hx;rw[F.len] at x1;exact zm (qD bk ((F.tied x1 hh).mp x2))
end Tr
namespace L2
open PySem PySem.Spec PyProof.Rows
abbrev sF (K:Fg):List V->Hp->VK->Prop:=λxs H Q=>∃(a:Addr) (ys:List V) (n:String) (b:Bool),xs=[.ref a,.ty n]/\SqT K H a ys/\SC K (.type "tuple") (.type n)=some b/\Q (.bl b) H
def BP:eR X (.builtin "isinstance") (sF X.K):=by
 intro ξ s σ H xs us Q I r h;obtain⟨a,ys,n,b,rfl,sq,e,q⟩:=h;obtain⟨u,u',rfl,rx,ry⟩:=vals2 r;obtain rfl:u'=V2 n:=ry;cases (show u=RK a from rx);obtain⟨_,_,p,_⟩:=I.tuple sq;obtain⟨o,h1,h2,_⟩:=p;exact SD Y8 I.kIn ⟨o,h1,h2⟩ e (λz=>nomatch z) λtk=>⟨.bl b,H,I.tok tk,rfl,q⟩
end L2
namespace Rd
end Rd
namespace Wq
end Wq
namespace Nv
end Nv
namespace Lk
open Rk Sf Ti Lo
def Lr(a b:List Int)(q:Nat):pt (a++b) q=if q<a.length then pt a q else pt b (q-a.length):=by
 unfold pt;rw[Qz,List.getElem?_append];split
 .rw[Qz]
 .rw[Qz]
abbrev reps(f:List Nat):List Nat:=(QR f.length).filter λv=>at_ f v=v
abbrev mk(Y:Nat->List Int)(f:List Nat)(h:Nat):List Int:=Y h++(reps f).map λv=>if at_ f h=v then 1 else 0
def EG{v:Nat}:v∈reps f↔v<f.length/\at_ f v=v:=by
 unfold reps;rw[Ri,Rb,decide_eq_true_iff]
end Lk
namespace Mb
open Rk Sz Sf Cl Mk Bo
def FH{R:List (List Int)}{y:List Int}{q:Nat}:∀t,Dg R y q t=sm t λj=>pt (R.getD j []) q*pt y j
 |0=>rfl
 |t+1=>by
  show Dg R y q t+pt y t*pt (R.getD t []) q=sm t (λj=>pt (R.getD j []) q*pt y j)+pt (R.getD t []) q*pt y t;rw[FH t,TK]
open Rk Sz Sf Cl Mk
end Mb
namespace Lc
open PySem L2 Fr G1 Sm Vs G2 Rk Sz Sf Rw Ti Lo
open PySem.W (Dat kqdOk)
abbrev kF(n:Nat)(M:List (List Int)):List Int:=M.map λl=>if (n:Int)∈l then 1 else 0
abbrev sd(K:Fg):Sp:=λvs H Q _=>∃(n:Nat) (u:V) (M:List (List Int)),vs=[.int (n:Int),u]/\Rp K (λ_=>True) H u (dM M)/\M.length<=100/\∀(p:Addr) (H':Hp),AccZ K H p H' ((kF n M).map Rn)->Q (.ref p) H'
abbrev rn(K:Fg):TS:=(aG (fA (ce K (aa 1)) (KH (aR (ar (kx K false) (aa 1) (aa 0))) (tC (.int 1)) (tC (.int 0)))))
def uI{l:List Int}:Rn n∈l.map Rn↔n∈l:=by
 constructor
 .intro h;obtain⟨x,hx,e⟩:=QU.mp h;cases e;exact hx
 .exact λh=>QU.mpr ⟨n,h,rfl⟩
def DP{K:Fg}:ρ 2 (sd K) (rn K):=by
 fail "R";obtain⟨n,u,M,rfl,ru,hl,k⟩:=h;rw[L2.aP hN];walk_at "t";obtain⟨c,ys,rfl,_,hc,ry⟩:=Rp.kU ru;have ly:ys.length=M.length:=by rw[ry.length,Qx]
 have lm:(kF n M).length=M.length:=by unfold kF;rw[Qx]
 unfold rn;cbv;refine sX (SqL.of hc) ?_;refine df (xs:=ys) λD nD=>⟨λj H2=>AccZ K H D H2 (((kF n M).take j).map Rn),by simpa using AccZ.start (Same.refl _) nD,λj H2 _ A=>SqL.of (A.same _ _ hc),?_,?_⟩
 .intro j x H2 hx A;have lj:=(QC.mp hx).1;obtain⟨d,g1,g2⟩:=ry.get hx;rw[QD] at g1;obtain⟨l,hl2,rfl⟩:=QG.mp g1;have ej:(kF n M)[j]?=some (if (n:Int)∈l then 1 else 0):=by unfold kF;rw[QD,hl2];rfl
  have r2:=g2.same A.same;cbv;refine Pj (d:=Rn (n:Int)) (ds:=l.map Rn) (.int _) r2.rep (λe he=>by obtain⟨b,_,rfl⟩:=QU.mp he;rfl) rfl (λz=>?_) (λz=>?_)
  .have z':=uI.mp z;cbv;refine a6 lj ?_;refine A.cA (.int 1) (av (by rw[Qx,Q3];lia)) λH5 A5=>?_
   show AccZ K H D H5 (((kF n M).take (j+1)).map Rn);rw[QX,ej,QJ,if_pos z'];exact A5
  .have z' : ¬ (n:Int)∈l:=λy=>z (uI.mpr y)
   cbv;refine a6 lj ?_;refine A.cA (.int 0) (av (by rw[Qx,Q3];lia)) λH5 A5=>?_
   show AccZ K H D H5 (((kF n M).take (j+1)).map Rn);rw[QX,ej,QJ,if_neg z'];exact A5
 .intro H2 A;rw[QM (by lia)] at A;exact k D H2 A
abbrev dC(ts:List Tn):List (List Int):=(QR (aH ts).length).map λi=>(aH ts).getD i []++kF i (cQ ts)
abbrev sg(K:Fg):Sp:=λvs H Q _=>∃(v:V) (ws:List Str) (ts:List Tn) (w:Nat),vs=[v]/\Rz K H v (dV ws ts)/\Kh w ts/\(aH ts).length<=8/\(cQ ts).length<=8/\Wide w (aH ts)/\Cp 2 (aH ts) /\
 ∀(p:Addr) (H':Hp),Same H H'->Rp K (λa=>H a=none) H' (.ref p) (dM (Ob (dC ts)).makers)->Q (.ref p) H'
def gu(ts:List Tn):(dC ts).length=(aH ts).length:=by unfold dC;rw[Qx,Ra]
def EL{i:Nat}(h:i<(aH ts).length):(dC ts)[i]?=some ((aH ts).getD i []++kF i (cQ ts)):=by unfold dC;rw[QD,RG h];rfl
def kW(hw:Wide w (aH ts)):Wide (w+(cQ ts).length) (dC ts):=λr hr=>by
 unfold dC at hr;obtain⟨i,hi,rfl⟩:=QU.mp hr;rw[QT];unfold kF;rw[Qx,Qz,Qy (Rb.mp hi),XT,hw _ (Ry _)]
def qc(br:Cp 2 (aH ts)):Cp 2 (dC ts):=λr hr c hc=>by
 unfold dC at hr;obtain⟨i,hi,rfl⟩:=QU.mp hr;rcases Q8.mp hc with y|y
 .rw[Qz,Qy (Rb.mp hi),XT] at y;exact br _ (Ry _) c y
 .unfold kF at y;obtain⟨l,_,rfl⟩:=QU.mp y;split <;> decide
nonrec abbrev xS(K:Fg):TS:=(aG (aD (mI K) [] E0 (ae (gc (iM K (ae (aD (dh K) [] E0 (ae (aa 0) ag)) ag)) 2 (cx K 2 (aX (al 0) (aX (al 1) cy))) (ar zw (bo (dm K) (ae (aa 1) ag)) (aD (sd K) [] E0 (ae (aa 0) (ae (aa 3) ag))))) ag)))
abbrev rC(K:Fg):TS:=(am (aw (aD (uh K) [] E0 (ae (aa 0) ag)) (al 1))
 (xS K))
def DS{K:Fg}:ρ 2 (sg K) (rC K):=by
 fail "R";obtain⟨v,ws,ts,w,rfl,rv,co,h8,l8,hw,br,k⟩:=h;rw[L2.aP hN];walk_at "t";unfold rC;have t8:=co.le;have w5:=co.w5;cbv;refine⟨v,ws,ts,rfl,rv,t8,h8,λp1 H1 S1 r1=>?_⟩;cbv;refine⟨v,ws,ts,rfl,rv.same S1,by lia,λp2 H2 A2=>?_⟩;obtain⟨xs,hp2,rx⟩:=A2.at_;have lx:xs.length=(aH ts).length:=by rw[rx.length,Qx]
 have r2:Rp K (λ_=>True) H2 (.ref p1) (dM (cQ ts)):=(r1.same A2.same).mono λ_ _=>trivial
 have S02:=S1.trans A2.same;cbv;refine⟨p2,_,rfl,SqL.of hp2,?_⟩;refine wG (xs:=xs) λD nD=>⟨λj H3=>Acc K H2 D H3 (((dC ts).take j).map dL),by simpa using Acc.start nD,λj H3 _ A=>SqL.of (A.same _ _ hp2),?_,?_⟩
 .rintro j x H3 T hx A nT us hu
  obtain⟨u0,u1,rfl⟩:∃u w,us=[u,w]:=ex2 hu
  have lj:=(QC.mp hx).1;have lj':j<(aH ts).length:=by lia
  obtain⟨d,g1,g2⟩:=rx.get hx;rw[QD,Qy lj'] at g1;cases g1;obtain⟨b,rfl,hb⟩:=bM (g2.same A.same);have eB:=EL lj';rw[Qz,Qy lj',XT] at eB;have lr:(aH ts)[j].length=w:=hw _ (Ry _);generalize (aH ts)[j]=r at hb eB lr;have S3:=ak nT (.tup [.int (j:Int),.ref b]);have hT:upd H3 T (.tup [.int (j:Int),.ref b]) T=some (.tup [.int (j:Int),.ref b]):=aj;have hb3:=S3 _ _ hb;have A3:=A.on S3;generalize upd H3 T (.tup [.int (j:Int),.ref b])=H4 at S3 hT hb3 A3 ⊢;refine bP (SqT.of hT) rfl ?_;cbv;refine⟨⟨[↥(j:Int),⇑b],rfl,rfl⟩,?_⟩;cbv;refine AJ (SqT.of hb3) λl nl=>?_
  have S5:=ak nl (.lst (r.map V.int));have hl5:upd H4 l (.lst (r.map V.int)) l=some (.lst (r.map V.int)):=aj;generalize upd H4 l (.lst (r.map V.int))=H5 at S5 hl5 ⊢;have S45:=A3.same.trans S5;cbv;refine⟨j,.ref p1,cQ ts,rfl,r2.same S45,by lia,λm H6 A6=>?_⟩;have h6:=AccZ.ints A6;cbv;have lk:(kF j (cQ ts)).length=(cQ ts).length:=by unfold kF;rw[Qx]
  refine⟨l,m,_,_,rfl,rfl,A6.same _ _ hl5,h6,by rw[Us,Qx,Qx];lia,λq nq=>?_⟩;have S7:=ak nq (.lst (r.map V.int++(kF j (cQ ts)).map V.int));have hq:upd H6 q (.lst (r.map V.int++(kF j (cQ ts)).map V.int)) q=some (.lst ((r++kF j (cQ ts)).map V.int)):=by rw[QJ];exact aj
  have S47:=(S5.trans A6.same).trans S7;have nq4:H4 q=none:=(S5.trans A6.same).free nq;generalize upd H6 q (.lst (r.map V.int++(kF j (cQ ts)).map V.int))=H7 at S7 hq S47 ⊢;refine a6 lj ?_;refine A3.cA S47 (d:=dL (r++kF j (cQ ts))) (wE nq4 hq) (av (by rw[Qx,Q3];lia)) λH8 A8=>?_
  show Acc K H2 D H8 (((dC ts).take (j+1)).map dL);rw[QX,eB,QJ];exact A8
 .intro H3 A;have lB:=gu ts;rw[QM (by lia)] at A;cbv;refine⟨D,dC ts,w+(cQ ts).length,2,rfl,Ov A,kW hw,by lia,by lia,qc br,by decide,NB (by lia),λq H4 S4 r4=>?_⟩;have S03:=S02.trans A.same;exact k q H4 (S03.trans S4) (r4.mono λ_ z=>S03.free z)
def uT{hs:List (List Int)}:∀(ts:List Tn) (l:List (List Int)),(∀t∈ts,t.fr∈hs/\t.to∈hs)->(∀x∈l,x∈hs)->∀x∈iN l ts,x∈hs
 |[],l,_,h,x,hx=>h x hx
 |t :: ts,l,ht,h,x,hx=>by
  have ins:∀(l:List (List Int)) (y:List Int),(∀x∈l,x∈hs)->y∈hs->∀x∈b9 l y,x∈hs:=λl y h hy x hx=>by
   unfold b9 at hx;split at hx
   .exact h x hx
   .rcases Q8.mp hx with z|z
    .exact h x z
    .rw[QY.mp z];exact hy
  have t0:=ht t QK;exact uT ts (b9 (b9 l t.fr) t.to) (λu hu=>ht u (QL _ hu)) (ins _ _ (ins _ _ h t0.1) t0.2) x hx
structure Qb (w:Nat) (ts:List Tn):Prop where
 h8:(aH ts).length<=8
 l8:(cQ ts).length<=8
 wide:Wide w (aH ts)
 bnd:Cp 2 (aH ts)
 to:∀t∈ts,t.to.length=w
def PF(vo:oz ws ts):Qb ws.length ts:=by
 obtain⟨hs,po,h8,tk⟩:=vo.turns;have sub:∀x∈aH ts,x∈hs:=uT ts [] (λt ht=>⟨(tk.ok t ht).1,(tk.ok t ht).2.1⟩) λx h=>by cases h
 have n8:(aH ts).length<=8:=Q0 (cw (qm ts) sub) h8;refine⟨n8,?_,λr hr=>(po.2 r (sub r hr)).1,λr hr c hc=>?_,λt ht=>(po.2 _ (tk.ok t ht).2.1).1⟩
 .unfold cQ fG;rw[Qx,Qx];refine Q0 (Sc _ _) ?_;rw[Ra,(bX (bS ts)).len];exact n8
 .have:=(po.2 r (sub r hr)).2 c hc
  show c.natAbs<4;lia
section
variable{ts:List Tn}{w:Nat}
def EF{i:Nat}(hi:i<(aH ts).length):kF i (cQ ts)=(Lk.reps (a5 (aH ts).length (aq ts))).map λv=>if at_ (a5 (aH ts).length (aq ts)) i=v then 1 else 0:=by
 have F:=bX (bS ts);unfold cQ kF fG Lk.reps;generalize a5 (aH ts).length (aq ts)=f at F;rw[Sg,Sg];refine Su λv _=>?_
 show(if (i:Int)∈zN (aM f v) then (1:Int) else 0)=_
 have e:(i:Int)∈zN (aM f v)↔at_ f i=v:=by
  unfold zN aM;rw[QU];constructor
  .rintro⟨a,ha,ea⟩
   have:a=i:=Vu ea
   subst this;simpa using(Ri.mp ha).2
  .intro h;exact⟨i,Ri.mpr ⟨Rb.mpr (by rw[F.len];exact hi),by simpa using h⟩,rfl⟩
 by_cases c:at_ f i=v
 .rw[if_pos (e.mpr c),if_pos c]
 .rw[if_neg λz=>c (e.mp z),if_neg c]
def EK(ts:List Tn):dC ts=(QR (aH ts).length).map (Lk.mk (λh=>(aH ts).getD h []) (a5 (aH ts).length (aq ts))):=by
 unfold dC;refine Su λi hi=>?_
 rw[EF (Rb.mp hi)];rfl
def tf{x:List Int}(h:x∈aH ts):(aH ts).getD (ix (aH ts) x) []=x:=by rw[Qz,AN h];rfl
def Nc(hw:Wide w (aH ts)){h:Nat}(hh:h<(aH ts).length):((aH ts).getD h []).length=w:=by
 rw[Qz,Qy hh];exact hw _ (Ry _)
end
end Lc
namespace Wd
open PySem L2 Fr G1 Sm Vs Dn Rk
open PySem.W (Dat kqdOk)
abbrev Nn(n:Nat)(ts:List Tn):Prop:=∀t∈ts,t.fr.length=n/\t.to.length=n
def jP{ts:List Tn}{k:Nat}{t:Tn}(h:ts[k]?=some t):(ts.map pr).getD k ([],[])=pr t:=by
 rw[Qz,QD,h];rfl
abbrev yM(K:Fg):Sp:=λvs H Q _=>∃(v w:V) (t:Tn) (c:List Int),vs=[v,w]/\Rz K H v (dT t)/\Rz K H w (dI c)/\t.fr.length<=100/\∀H',Same H H'->Q (.bl (can (pr t) c)) H'
abbrev yi(K:Fg):TS:=(aG (bo (IF K) (ae (gc (qj K .T .T (ae (ar (aE K) (aa 0) (tC (.int 0))) (ae (aa 1) ag))) 2 (cx K 2 (aX (al 0) (aX (al 1) cy))) (ar OA (aa 0) (aa 1))) ag)))
def Iu{K:Fg}:ρ 2 (yM K) (yi K):=by
 fail "R";obtain⟨v,w,t,c,rfl,rv,rw_,hl,k⟩:=h;obtain⟨a,w1,w2,w3,rfl,ha,q1,q2,_⟩:=jU rv;obtain⟨b,rfl,hb⟩:=bM rw_;obtain⟨f,rfl,hf⟩:=bM q1;rw[L2.aP hN];walk_at "t";unfold yi;have lz:(SM t.fr c).length=min t.fr.length c.length:=Zad;cbv;refine aF (SqT.of ha) (v:=.ref f) rfl ?_;cbv;refine⟨f,b,_,_,rfl,SqT.of hf,SqT.of hb,?_⟩;have ml:min (t.fr.map V.int).length (c.map V.int).length=(SM t.fr c).length:=by rw[Qx,Qx,lz]
 refine vk (xs:=t.fr.map V.int) (ys:=c.map V.int) λD nD=>⟨λi H2=>AccZ K H D H2 ((((SM t.fr c).take i).map λz=>decide (z.1<=z.2)).map Dat.bool),by simpa using AccZ.start (Same.refl _) nD,λi H2 _ A=>⟨SqT.of (A.same _ _ hf),SqT.of (A.same _ _ hb)⟩,?_,?_⟩
 .intro i x y H2 T e1 e2 A nT us hu
  obtain⟨u1,u2',rfl⟩:∃u0 u1,us=[u0,u1]:=ex2 hu
  rw[QD] at e1 e2;obtain⟨m1,f1,rfl⟩:=QG.mp e1;obtain⟨m2,f2,rfl⟩:=QG.mp e2;have ez:(SM t.fr c)[i]?=some (m1,m2):=by rw[Uk];exact⟨f1,f2⟩
  have li:i<(SM t.fr c).length:=(QC.mp ez).1;refine bP (SqT.of aj) rfl ?_;cbv;refine⟨⟨[↥m1,↥m2],rfl,rfl⟩,?_⟩;cbv;refine a6 (by rw[ml];exact li) ?_;refine(A.on (ak nT _)).cA (.bl (decide (m1<=m2))) (av (by rw[Qx,Qx,Q3];lia)) λH4 A4=>?_
  show AccZ K H D H4 ((((SM t.fr c).take (i+1)).map λz=>decide (z.1<=z.2)).map Dat.bool);rw[QX,ez,QJ,QJ];exact A4
 .intro H2 A;rw[ml,QM (QH _)] at A;cbv;refine M3 A.bls ?_;have e:((SM t.fr c).map λz=>decide (z.1<=z.2)).all id=can (pr t) c:=by unfold can;rw[List.all_map];rfl
  rw[e];exact k H2 A.same
abbrev yL(K:Fg):Sp:=λvs H Q _=>∃(v w:V) (t:Tn) (c:List Int),vs=[v,w]/\Rz K H v (dT t)/\Rz K H w (dI c)/\t.fr.length=c.length/\t.to.length=c.length/\c.length<=100/\∀(p:Addr) (H':Hp),Same H H'->Rz K H' (.ref p) (dI (beh (pr t) c))->Q (.ref p) H'
def ND{t:Tn}{c:List Int}{i:Nat}{m1 m2 m3:Int}(f1:t.fr[i]?=some m1)(f2:t.to[i]?=some m2)(f3:c[i]?=some m3):(beh (pr t) c)[i]?=some (m3-m1+m2):=by
 have li:i<c.length:=(QC.mp f3).1;unfold beh;rw[QD,RG li];show some (pt c i-pt t.fr i+pt t.to i)=_;unfold pt;rw[Qz,f3,Qz,f1,Qz,f2];rfl
def BS(t:Tp)(c:List Int):(beh t c).length=c.length:=by unfold beh;rw[Qx,Ra]
abbrev yf(K:Fg):TS:=(aG (bo (cC K) (ae (gc (EY K (ae (aa 1) (ae (ar (aE K) (aa 0) (tC (.int 0))) (ae (ar (aE K) (aa 0) (tC (.int 1))) ag)))) 3 (cx K 3 (aX (al 0) (aX (al 1) (aX (al 2) cy)))) (ar aZ (ar iF (aa 0) (aa 1)) (aa 2))) ag)))
def Io{K:Fg}:ρ 2 (yL K) (yf K):=by
 fail "R";obtain⟨v,w,t,c,rfl,rv,rw_,l1,l2,hl,k⟩:=h;obtain⟨a,w1,w2,w3,rfl,ha,q1,q2,_⟩:=jU rv;obtain⟨b,rfl,hb⟩:=bM rw_;obtain⟨f,rfl,hf⟩:=bM q1;obtain⟨g,rfl,hg⟩:=bM q2;rw[L2.aP hN];walk_at "t";unfold yf;have lb:=BS (pr t) c;cbv;refine Gf ?_;cbv;refine aF (SqT.of ha) (v:=.ref f) rfl ?_;cbv;refine aF (SqT.of ha) (v:=.ref g) rfl ?_;cbv;refine⟨b,f,g,_,_,_,rfl,SqT.of hb,SqT.of hf,SqT.of hg,?_⟩;refine qu (xs:=c.map V.int) (ys:=t.fr.map V.int) (zs:=t.to.map V.int) (m:=c.length) (Qx _) (by rw[Qx];exact l1) (by rw[Qx];exact l2) λD nD=>⟨λi H2=>AccZ K H D H2 (((beh (pr t) c).take i).map Rn),by simpa using AccZ.start (Same.refl _) nD,λi H2 _ A=>⟨SqT.of (A.same _ _ hb),SqT.of (A.same _ _ hf),SqT.of (A.same _ _ hg)⟩,?_,?_⟩
 .intro i x y u H2 T e1 e2 e3 A nT us hu
  obtain⟨u1,u2,u3,rfl⟩:∃u0 u1 u2,us=[u0,u1,u2]:=by
   match us,hu with
   |[u0,u1,u2],_=>exact⟨u0,u1,u2,rfl⟩
  rw[QD] at e1 e2 e3;obtain⟨m1,f1,rfl⟩:=QG.mp e1;obtain⟨m2,f2,rfl⟩:=QG.mp e2;obtain⟨m3,f3,rfl⟩:=QG.mp e3;have li:i<c.length:=(QC.mp f1).1;have ec:=ND f2 f3 f1;refine bP (SqT.of aj) rfl ?_;cbv;refine⟨⟨[↥m1,↥m2,↥m3],rfl,rfl⟩,?_⟩;cbv;refine a6 li ?_;refine(A.on (ak nT _)).cA (.int _) (av (by rw[Qx,Q3];lia)) λH4 A4=>?_
  show AccZ K H D H4 (((beh (pr t) c).take (i+1)).map Rn);rw[QX,ec,QJ];exact A4
 .intro H2 A;rw[QM (by lia)] at A;cbv;refine eM (SqL.of (AccZ.ints A)) λp np=>?_
  exact k p _ (A.same.trans (ak np _)) (.tup aj (RpL.ints _))
end Wd
namespace Tw
end Tw
namespace Tp2
end Tp2
namespace Md
end Md
namespace Tr2
end Tr2
namespace Cm
end Cm
namespace Cg
end Cg
namespace Bg
end Bg
namespace Gu
end Gu
namespace Tg
end Tg
local macro_rules | `(tactic| walk_at "d")=>`(tactic| repeat first|fail "1"|with_reducible first|refine L2.k_fld ?_|refine L2.k_sfld ?_|refine L2.k_mt ?_)
namespace Dk
open PySem L2 Fr G1 Sm Vs
open PySem.W (Dat kqdOk)
open Dn (can beh pr)
end Dk
namespace Dk
open PySem L2 Fr G1 Sm Vs
open PySem.W (Dat kqdOk)
open PySem L2 Fr G1 Sm Vs Dn Rk Wd
end Dk
namespace Dk
open PySem L2 Fr G1 Sm Vs Dn Rk Wd
open PySem.W (Dat kqdOk)
end Dk
namespace Dh
open PySem L2 Fr G1 Sm Vs Dk
open PySem.W (Dat kqdOk)
open Dn (can beh pr)
end Dh
namespace Dh
open PySem L2 Fr G1 Sm Vs Dk
open PySem.W (Dat kqdOk)
open PySem L2 Fr G1 Sm Vs Dk Dn Rk Wd
local macro_rules | `(tactic| walk_at "d")=>`(tactic| repeat first|fail "1"|with_reducible first|refine k_fld ?_|refine k_sfld ?_|refine k_mt ?_|refine k_bIf ?_|refine k_bMethA ?_|refine k_bSeq ?_|refine k_tryB ?_)
end Dh
namespace Pw
abbrev IsP(p:Nat):Prop:=2<=p/\∀d,d∣p->d=1\/d=p
def mV:∀{n:Nat},2<=n->∃p,IsP p/\p∣n:=by
 intro n
 induction n using Uq with
 |_ n ih =>
  intro h;by_cases c:∃d,d∣n/\d≠1/\d≠n
  .obtain⟨d,dv,d1,dn⟩:=c;have dp:0<d:=Nat.pos_of_dvd_of_pos dv (by lia);have dl:=TM (by lia) dv;obtain⟨p,pp,pd⟩:=ih d (by lia) (by lia);exact⟨p,pp,YZ pd dv⟩
  .refine⟨n,⟨h,λd dv=>?_⟩,ZF n⟩;by_cases d1:d=1
   .exact .inl d1
   .by_cases dn:d=n
    .exact .inr dn
    .exact absurd ⟨d,dv,d1,dn⟩ c
def IsP.dvd_mul{a b:Nat}(hp:IsP p)(h:p∣a*b):p∣a\/p∣b:=by
 rcases hp.2 (Rv p a) (We p a) with g|g
 .exact .inr (VW g h)
 .exact .inl (g ▸ ZG p a)
abbrev tk(d n:Nat):Nat×Nat:=if _h:2<=d/\0<n/\d∣n then ((tk d (n / d)).1+1,(tk d (n / d)).2) else (0,n)
termination_by n
decreasing_by all_goals exact Nat.div_lt_self _h.2.1 _h.1
abbrev bD(d n:Nat):Nat:=(tk d n).1
abbrev cf(d n:Nat):Nat:=(tk d n).2
def GZ{d n:Nat}(h : ¬ d∣n):tk d n=(0,n):=by
 rw[tk,dif_neg λz=>h z.2.2]
def jG{d n:Nat}(h : ¬ d∣n):bD d n=0:=by unfold bD;rw[GZ h]
def xi{d n:Nat}(hd:2<=d)(hn:0<n):tk d (d*n)=(bD d n+1,cf d n):=by
 rw[tk,dif_pos ⟨hd,RB (by lia) hn,Xp d n⟩,XU n (by lia:0<d)];rfl
def dA{d n:Nat}(hd:2<=d)(hn:0<n):bD d (d*n)=bD d n+1:=by
 show(tk d (d*n)).1=_;rw[xi hd hn]
def gN{d:Nat}(hd:2<=d):∀n,0<n->n=d ^ bD d n*cf d n/\¬ d∣cf d n:=by
 intro n
 induction n using Uq with
 |_ n ih =>
  intro hn;by_cases c:d∣n
  .obtain⟨m,rfl⟩:=c;have hm:0<m:=Sx hn;have lt:m<d*m:=by have:=RC m hd;lia
   obtain⟨a,b⟩:=ih m lt hm;have e:tk d (d*m)=(bD d m+1,cf d m):=xi hd hm;unfold bD cf;rw[e];refine⟨?_,b⟩;show d*m=d ^ (bD d m+1)*cf d m;rw[SJ,Se (d ^ bD d m) d,RF,<- a]
  .have e:=GZ c;unfold bD cf;rw[e];exact⟨by simp,c⟩
def i4(hp:IsP p):∀a b,0<a->0<b->bD p (a*b)=bD p a+bD p b:=by
 intro a
 induction a using Uq with
 |_ a ih =>
  intro b ha hb;by_cases c:p∣a
  .obtain⟨m,rfl⟩:=c;have hm:0<m:=Sx ha;have lt:m<p*m:=by have:=RC m hp.1;lia
   rw[RF,dA hp.1 (RB hm hb),ih m lt b hm hb,dA hp.1 hm];lia
  .clear ih;rw[jG c,UR]
   induction b using Uq with
   |_ b ih =>
    by_cases c2:p∣b
    .obtain⟨m,rfl⟩:=c2;have hm:0<m:=Sx hb;have lt:m<p*m:=by have:=RC m hp.1;lia
     rw[Tu,dA hp.1 (RB ha hm),ih m lt hm,dA hp.1 hm]
    .rw[jG c2,jG λz=>(hp.dvd_mul z).elim c c2]
structure Add (f:Nat->Int):Prop where
 mul:∀a b,0<a->0<b->f (a*b)=f a+f b
def IsP.add(hp:IsP p):Add λn=>(bD p n:Int):=⟨λa b ha hb=>by rw[i4 hp a b ha hb];lia⟩
def Add.one(h:Add f):f 1=0:=by have:=h.mul 1 1 (by decide) (by decide);simp at this;lia
def Add.pow{f:Nat->Int}(h:Add f){a:Nat}(ha:0<a):∀k:Nat,f (a ^ k)=(k:Int)*f a
 |0=>by rw[Vg,h.one];simp
 |k+1=>by
  rw[SJ,h.mul _ _ (Sd ha) ha,Add.pow h ha k];show _=((k:Int)+1)*f a;rw[Wr,Va]
nonrec abbrev Pr:=Nat×Int
abbrev SF(f:Nat->Int):List Pr->Int
 |[]=>0
 |x :: L=>x.2*f x.1+SF f L
def lF(f:Nat->Int):∀A B,SF f (A++B)=SF f A+SF f B
 |[],B=>by simp[SF]
 |x :: A,B=>by show _+SF f (A++B)=_;rw[lF f A B];show _=_+_+_;lia
abbrev yw(x y:Pr):List Pr :=
 [(cf (Rv x.1 y.1) x.1,x.2),(cf (Rv x.1 y.1) y.1,y.2),(Rv x.1 y.1,bD (Rv x.1 y.1) x.1*x.2+bD (Rv x.1 y.1) y.1*y.2)]
def fU{d n:Nat}(hd:2<=d)(hn:0<n):0<cf d n:=by
 rcases Ze (cf d n) with z|z
 .have:=(gN hd n hn).2;rw[z] at this;exact absurd ⟨0,rfl⟩ this
 .exact z
def NY(hf:Add f){x y:Pr}(hx:0<x.1)(hy:0<y.1)(hg:2<=Rv x.1 y.1):SF f (yw x y)=x.2*f x.1+y.2*f y.1:=by
 have gp:0<Rv x.1 y.1:=by lia
 have e:∀n,0<n->f n=bD (Rv x.1 y.1) n*f (Rv x.1 y.1)+f (cf (Rv x.1 y.1) n):=λn hn=>by
  have s:=(gN hg n hn).1
  have:=congrArg f s
  rw[hf.mul _ _ (Sd gp) (fU hg hn),hf.pow gp] at this;exact this
 have e1:=e x.1 hx;have e2:=e y.1 hy;show x.2*f (cf (Rv x.1 y.1) x.1)+(y.2*f (cf (Rv x.1 y.1) y.1)+((bD (Rv x.1 y.1) x.1*x.2+bD (Rv x.1 y.1) y.1*y.2)*f (Rv x.1 y.1)+0))=_;rw[e1,e2];generalize f (cf (Rv x.1 y.1) x.1)=u;generalize f (cf (Rv x.1 y.1) y.1)=v;generalize f (Rv x.1 y.1)=w;generalize (bD (Rv x.1 y.1) x.1:Int)=i;generalize (bD (Rv x.1 y.1) y.1:Int)=j;rw[Ux,Ux,Wr,ZH x.2 i w,SA i x.2 w,ZH y.2 j w,SA j y.2 w];lia
def Jq{d:Nat}(hd:2<=d):bD d 1=0:=jG λz=>by have:=TM (by decide) z;lia
abbrev FA(L:List Nat):Prop:=(∀q∈L,2<=q)/\L.Pairwise λa b=>SQ a b
def Nt{p:Nat}(hp:2<=p)(c:SQ q r)(h:p∣q) : ¬ p∣r:=λz=>by
 have:=Nat.dvd_gcd h z
 rw[c] at this
 have:=TM (by decide) this
 lia
def BY{f:Nat->Int}:∀{L:List Pr},(∀x∈L,f x.1=0)->SF f L=0
 |[],_=>rfl
 |x :: L,h=>by show _*_+_=0;rw[h x QK,BY λy hy=>h y (QL _ hy)];simp
def NO{L:List Pr}(ha:FA (L.map (·.1)))(he:∀x∈L,x.2≠0)(hL:L≠[]):∃p,IsP p/\SF (λn=>(bD p n:Int)) L≠0:=by
 cases L with
 |nil=>exact absurd rfl hL
 |cons x L =>
  have h2:2<=x.1:=ha.1 x.1 QK;obtain⟨p,hp,d⟩:=mV h2;refine⟨p,hp,?_⟩;have c:=(VB.mp ha.2).1;show x.2*_+SF _ L≠0;rw[BY λy hy=>by show(bD p y.1:Int)=0;rw[jG (Nt hp.1 (c y.1 (So hy)) d)];rfl,Uy];obtain⟨m,e⟩:=d;have hm:0<m:=RN λz=>by rw[z] at e;simp at e;lia
  show x.2*(bD p x.1:Int)≠0;rw[e,dA hp.1 hm];exact WG (he x QK) (by lia)
def Ku{q:Nat}(hp:IsP p)(hq:0<q)(d:p∣q):0<bD p q:=by
 obtain⟨m,rfl⟩:=d;rw[dA hp.1 (Sx hq)];lia
abbrev vs(f:Nat->Int):List (Nat×Nat)->List Int->Int
 |w :: W,e :: R=>e*(f w.1-f w.2)+vs f W R
 |_,_=>0
abbrev gI:List (Nat×Nat)->List Int->List Pr
 |w :: W,e :: R=>(w.1,e) :: (w.2,-e) :: gI W R
 |_,_=>[]
def qM(f:Nat->Int):∀W R,SF f (gI W R)=vs f W R
 |[],_=>rfl
 |_ :: _,[]=>rfl
 |w :: W,e :: R=>by
  show e*f w.1+(-e*f w.2+SF f (gI W R))=e*(f w.1-f w.2)+vs f W R;rw[qM f W R,Yz,U9];lia
abbrev One(W:List (Nat×Nat))(R:List Int):Prop:=∀p,IsP p->vs (λn=>(bD p n:Int)) W R=0
def z_{T:List Pr}(ha:FA (T.map (·.1)))(he:∀x∈T,x.2≠0)(hs:∀f,Add f->SF f T=SF f (gI W R)):One W R↔T=[]:=by
 constructor
 .intro h;by_cases c:T=[]
  .exact c
  .obtain⟨p,hp,z⟩:=NO ha he c;exact absurd ((hs _ hp.add).trans ((qM _ W R).trans (h p hp))) z
 .intro h p hp;rw[<- qM,<- hs _ hp.add,h];rfl
abbrev bK:List Nat->Nat
 |[]=>1
 |q :: L=>q*bK L
def du:∀A B,bK (A++B)=bK A*bK B
 |[],B=>(Vb _).symm
 |q :: A,B=>by show q*bK (A++B)=q*bK A*bK B;rw[du A B,RF]
def gW:∀{L:List Nat},(∀q∈L,0<q)->0<bK L
 |[],_=>by decide
 |q :: L,h=>RB (h q QK) (gW λx hx=>h x (QL _ hx))
def jt:∀{L:List Nat} {i q:Nat},L[i]?=some q->bK L=q*bK (L.eraseIdx i)
 |x :: L,0,q,h=>by cases h;rfl
 |x :: L,i+1,q,h=>by
  show x*bK L=q*(x*bK (L.eraseIdx i));rw[jt (L:=L) (i:=i) (by simpa using h),Tu]
def vA(f:Nat->Int):∀{L:List Pr} {i:Nat} {y:Pr},L[i]?=some y->SF f L=y.2*f y.1+SF f (L.eraseIdx i)
 |x :: L,0,y,h=>by cases h;rfl
 |x :: L,i+1,y,h=>by
  show x.2*f x.1+SF f L=y.2*f y.1+(x.2*f x.1+SF f (L.eraseIdx i))
  rw[vA f (L:=L) (i:=i) (by simpa using h)];lia
abbrev gM:List Pr->Nat
 |[]=>0
 |x :: L=>x.2.natAbs*x.1.log2+gM L
def gL:∀A B,gM (A++B)=gM A+gM B
 |[],B=>(UR _).symm
 |q :: A,B=>by show _+gM (A++B)=_+gM A+gM B;rw[gL A B,Nat.add_assoc]
def oN:∀{L:List Pr} {i:Nat} {y:Pr},L[i]?=some y->gM L=y.2.natAbs*y.1.log2+gM (L.eraseIdx i)
 |x :: L,0,y,h=>by cases h;rfl
 |x :: L,i+1,y,h=>by
  show _+gM L=_+(x.2.natAbs*x.1.log2+gM (L.eraseIdx i))
  rw[oN (L:=L) (i:=i) (by simpa using h)];lia
def uP{a b:Nat}(ha:0<a)(hb:0<b):a.log2+b.log2<=(a*b).log2:=by
 rw[YE (UT (RB ha hb)),SO];exact Rt (Wf (UT ha)) (Wf (UT hb))
def Jy{a b:Nat}(ha:0<a)(h:a<=b):a.log2<=b.log2:=by
 rw[YE (by lia)];exact Q0 (Wf (by lia)) h
def Az{a b:Nat}(ha:0<a)(h:2*a<=b):a.log2+1<=b.log2:=by
 rw[YE (by lia),SJ]
 have:=Wf (n:=a) (by lia)
 lia
def uN{a:Nat}(ha:0<a):∀k:Nat,k*a.log2<=(a ^ k).log2
 |0=>by simp
 |k+1=>by
  have:=uP (Sd (n:=k) ha) ha
  have:=uN ha k
  rw[SJ,Uu];lia
def Ay{d n:Nat}(hd:2<=d)(hn:0<n):bD d n*d.log2+(cf d n).log2<=n.log2:=by
 have:=uP (Sd (n:=bD d n) (by lia:0<d)) (fU hd hn)
 rw[<- (gN hd n hn).1] at this
 have:=uN (by lia:0<d) (bD d n)
 lia
def GX{x y:Pr}(hx:0<x.1)(hy:0<y.1)(hg:2<=Rv x.1 y.1):gM (yw x y)<=x.2.natAbs*x.1.log2+y.2.natAbs*y.1.log2:=by
 have a:=Rh x.2.natAbs (Ay hg hx);have b:=Rh y.2.natAbs (Ay hg hy);show x.2.natAbs*(cf (Rv x.1 y.1) x.1).log2+(y.2.natAbs*(cf (Rv x.1 y.1) y.1).log2+((bD (Rv x.1 y.1) x.1*x.2+bD (Rv x.1 y.1) y.1*y.2).natAbs*(Rv x.1 y.1).log2+0))<=_;generalize Rv x.1 y.1=g at *
 have c:(bD g x.1*x.2+bD g y.1*y.2).natAbs<=x.2.natAbs*bD g x.1+y.2.natAbs*bD g y.1:=by
  refine Q0 (Xo _ _) ?_;rw[RM,RM,Q2,Q2,Se,Se (bD g y.1)];exact QH _
 have c':=RC g.log2 c;rw[Nat.add_mul,RF,RF] at c';rw[Nat.mul_add] at a b;lia
def FK{d n:Nat}(hd:2<=d)(hn:0<n):cf d n<=n:=by
 have:=(gN hd n hn).1
 have k:=RC (cf d n) (Sd (n:=bD d n) (by lia:0<d));lia
def Jp{d n:Nat}(hd:2<=d)(hn:0<n)(h:d∣n):0<bD d n:=by
 obtain⟨m,rfl⟩:=h;rw[dA hd (Sx hn)];lia
def PH{a b:Nat}(ha:0<a)(hb:0<b)(hg:2<=Rv a b):2*(cf (Rv a b) a*(cf (Rv a b) b*Rv a b))<=a*b:=by
 have da:=We a b;have db:=ZG a b;generalize Rv a b=g at *
 have le:∀n,0<n->g∣n->cf g n*g<=n:=λn hn h=>by
  have o:=Jp hg hn h;have s:=(gN hg n hn).1;obtain⟨k,e⟩:∃k,bD g n=k+1:=⟨bD g n-1,by lia⟩
  rw[e,SJ,RF,Se g] at s
  have:=RC (cf g n*g) (Sd (n:=k) (by lia:0<g))
  lia
 have la:=le a ha da;have lb:=le b hb db;have l2:2*cf g a<=a:=by have:=Rh (cf g a) hg;lia
 calc 2*(cf g a*(cf g b*g))=(2*cf g a)*(cf g b*g):=by rw[RF]
  _<=a*b:=Rt l2 lb
def qt{α β:Type}(f:α->β):∀(L:List α) (i:Nat),(L.map f).eraseIdx i=(L.eraseIdx i).map f
 |[],_=>rfl
 |_ :: _,0=>rfl
 |x :: L,i+1=>congrArg (f x :: ·) (qt f L i)
structure Ap (P0:List Pr) (B T C:Nat) (told left:List Pr):Prop where
 apt:FA (told.map (·.1))
 ne:∀x∈told,x.2≠0
 pos:∀x∈left,0<x.1
 bT:∀x∈told,x.1<=B
 bL:∀x∈left,x.1<=B
 sf:∀f,Add f->SF f told+SF f left=SF f P0
 le:gM told+gM left<=T
 few:told.length+left.length+(bK (told.map (·.1))*bK (left.map (·.1))).log2<=C
abbrev mu(told left:List Pr):Nat:=2*(bK (told.map (·.1))*bK (left.map (·.1)))+left.length
def Ap.start{P0:List Pr}{B:Nat}(hp:∀x∈P0,0<x.1/\x.1<=B):Ap P0 B (gM P0) (P0.length+(bK (P0.map (·.1))).log2) [] P0 :=
 ⟨⟨λ_ h=>(by cases h),Zp⟩,λ_ h=>(by cases h),λx h=>(hp x h).1,λ_ h=>(by cases h),λx h=>(hp x h).2,λf _=>by simp[SF],by simp[gM],by show 0+P0.length+(1*bK (P0.map (·.1))).log2<=_;rw[Vb,UR];exact QH _⟩
variable{P0:List Pr}{B T C:Nat}{told left:List Pr}{x y:Pr}
def vz(f:Nat->Int)(x:Pr):SF f [x]=x.2*f x.1:=by simp[SF]
def GY(x:Pr):gM [x]=x.2.natAbs*x.1.log2:=by simp[gM]
def Ap.pp(h:Ap P0 B T C told (left++[x])):0<bK (told.map (·.1))/\0<bK (left.map (·.1))/\0<x.1/\x.1<=B :=
 ⟨gW λq hq=>by have:=h.apt.1 q hq;lia,gW λq hq=>by obtain⟨z,hz,rfl⟩:=QU.mp hq;exact h.pos z (Rc _ hz),h.pos x (Q6 _ QK),h.bL x (Q6 _ QK)⟩
def Ap.drop(h:Ap P0 B T C told (left++[x]))(c : ¬ (1<x.1/\x.2≠0)):Ap P0 B T C told left/\mu told left<mu told (left++[x]):=by
 have ⟨p1,p2,p3,_⟩:=h.pp;refine⟨⟨h.apt,h.ne,λz hz=>h.pos z (Rc _ hz),h.bT,λz hz=>h.bL z (Rc _ hz),λf hf=>?_,?_,?_⟩,?_⟩
 .have e:=h.sf f hf;rw[lF,vz] at e
  have:x.2*f x.1=0:=by
   by_cases z:x.2=0
   .rw[z];simp
   .rw[show x.1=1 by lia,hf.one];simp
  lia
 .have:=h.le
  rw[gL] at this;lia
 .have f:=h.few;rw[QJ,du,QT] at f
  have:=Jy (RB p1 p2) (Rh (bK (told.map (·.1))) (TU (bK (left.map (·.1))) (by show 0<x.1*1;lia:0<bK ([x].map (·.1)))))
  lia
 .unfold mu;rw[QJ,du,QT];show _<2*(_*(bK (left.map (·.1))*(x.1*1)))+(left.length+1)
  have:=Rh (bK (told.map (·.1))) (TU (bK (left.map (·.1))) (by lia:0<x.1*1))
  lia
def Ap.keep(h:Ap P0 B T C told (left++[x]))(c1:1<x.1)(c2:x.2≠0)(hc:∀z∈told,Rv z.1 x.1<=1):Ap P0 B T C (told++[x]) left/\mu (told++[x]) left<mu told (left++[x]):=by
 have ⟨p1,p2,p3,p4⟩:=h.pp
 have cop:∀z∈told,SQ z.1 x.1:=λz hz=>by
  have:=hc z hz
  have g:0<Rv z.1 x.1:=Nat.gcd_pos_of_pos_right _ p3;show Rv z.1 x.1=1;lia
 refine⟨⟨⟨λq hq=>?_,?_⟩,λz hz=>?_,λz hz=>h.pos z (Rc _ hz),λz hz=>?_,λz hz=>h.bL z (Rc _ hz),λf hf=>?_,?_,?_⟩,?_⟩
 .rw[QJ] at hq;rcases Q8.mp hq with k|k
  .exact h.apt.1 q k
  .have:q=x.1:=by simpa using k
   lia
 .rw[QJ,List.pairwise_append];refine⟨h.apt.2,by simp,λa ha b hb=>?_⟩;obtain⟨z,hz,rfl⟩:=QU.mp ha
  have:b=x.1:=by simpa using hb
  rw[this];exact cop z hz
 .rcases Q8.mp hz with k|k
  .exact h.ne z k
  .have:z=x:=by simpa using k
   rw[this];exact c2
 .rcases Q8.mp hz with k|k
  .exact h.bT z k
  .have:z=x:=by simpa using k
   rw[this];exact p4
 .have e:=h.sf f hf;rw[lF,vz] at e;rw[lF,vz];lia
 .have:=h.le
  rw[gL] at this;rw[gL];lia
 .have f:=h.few;rw[QJ,du,QT] at f;rw[QJ,du,QT,RF,Se (bK ([x].map (·.1)))];lia
 .unfold mu;rw[QJ,du,QJ,du,QT]
  have:bK (told.map (·.1))*bK ([x].map (·.1))*bK (left.map (·.1))=bK (told.map (·.1))*(bK (left.map (·.1))*bK ([x].map (·.1))):=by
   rw[RF,Se (bK ([x].map (·.1)))]
  rw[this];show _<_+(left.length+1)
  lia
def Ap.split(h:Ap P0 B T C told (left++[x])){i:Nat}(hi:told[i]?=some y)(hg:1<Rv y.1 x.1) :
  Ap P0 B T C (told.eraseIdx i) (left++yw x y)/\mu (told.eraseIdx i) (left++yw x y)<mu told (left++[x]):=by
 have ⟨p1,p2,p3,p4⟩:=h.pp;have hy:=QI hi;have y2:2<=y.1:=h.apt.1 y.1 (So hy);have yB:=h.bT y hy;rw[Nat.gcd_comm] at hg;have hg2:2<=Rv x.1 y.1:=hg;have sub:(told.eraseIdx i).Sublist told:=List.eraseIdx_sublist _ _;have gl:Rv x.1 y.1<=x.1:=TM p3 (We _ _)
 have mem:∀z∈yw x y,0<z.1/\z.1<=B:=λz hz=>by
  have r1:=fU hg2 p3;have r2:=fU hg2 (by lia:0<y.1);have r3:=FK hg2 p3;have r4:=FK hg2 (by lia:0<y.1);unfold yw at hz;simp only[Q5,Ub,or_false] at hz;rcases hz with rfl|rfl|rfl
  .exact⟨r1,by show cf _ _<=_;lia⟩
  .exact⟨r2,by show cf _ _<=_;lia⟩
  .exact⟨by show 0<Rv _ _;lia,by show Rv _ _<=_;lia⟩
 have hv:2*(bK ((told.eraseIdx i).map (·.1))*bK ((left++yw x y).map (·.1)))<=bK (told.map (·.1))*bK ((left++[x]).map (·.1))/\2<=bK ((told.eraseIdx i).map (·.1))*bK ((left++yw x y).map (·.1)):=by
  have hi':(told.map (·.1))[i]?=some y.1:=by rw[QD,hi];rfl
  rw[jt hi',<- qt];generalize hP:bK ((told.map (·.1)).eraseIdx i)=P;have Pp:0<P:=RN λz=>by rw[jt hi',hP,z] at p1;simp at p1
  rw[QJ,du,QJ,du];generalize hL:bK (left.map (·.1))=L at p2;have hf:=PH p3 (by lia:0<y.1) hg2;show 2*(P*(L*(cf (Rv x.1 y.1) x.1*(cf (Rv x.1 y.1) y.1*(Rv x.1 y.1*1)))))<=y.1*P*(L*(x.1*1))/\2<=P*(L*(cf (Rv x.1 y.1) x.1*(cf (Rv x.1 y.1) y.1*(Rv x.1 y.1*1))));rw[T_,T_]
  have S1:2<=cf (Rv x.1 y.1) x.1*(cf (Rv x.1 y.1) y.1*Rv x.1 y.1):=by
   have r1:=fU hg2 p3;have r2:=fU hg2 (by lia:0<y.1)
   calc 2<=1*(1*Rv x.1 y.1):=by lia
    _<=_:=Rt r1 (Rt r2 (QH _))
  generalize cf (Rv x.1 y.1) x.1*(cf (Rv x.1 y.1) y.1*Rv x.1 y.1)=S at hf S1
  have q1:y.1*P*(L*x.1)=P*L*(x.1*y.1):=by
   rw[Se y.1 P,RF,RF,Tu y.1 L,Se y.1]
  rw[q1,<- RF P L S];have q2:=Rh (P*L) hf;have q3:1<=P*L:=RB Pp p2;have q4:=Rt q3 S1;rw[Tu] at q2;exact⟨q2,by lia⟩
 refine⟨⟨⟨λq hq=>h.apt.1 q ((sub.map _).subset hq),h.apt.2.sublist (sub.map _)⟩,λz hz=>h.ne z (sub.subset hz),λz hz=>?_,λz hz=>h.bT z (sub.subset hz),λz hz=>?_,λf hf=>?_,?_,?_⟩,?_⟩
 .rcases Q8.mp hz with k|k
  .exact h.pos z (Rc _ k)
  .exact(mem z k).1
 .rcases Q8.mp hz with k|k
  .exact h.bL z (Rc _ k)
  .exact(mem z k).2
 .have e:=h.sf f hf;rw[lF,vz,vA f hi] at e;rw[lF,NY hf p3 (by lia) hg2];lia
 .have e:=h.le;rw[gL,GY,oN hi] at e
  have:=GX p3 (by lia:0<y.1) hg2
  rw[gL];lia
 .have f:=h.few;have lt:=(QC.mp hi).1
  have:=Az (RN λz=>by rw[z] at hv;lia) hv.1
  rw[QT] at f ⊢;rw[YB,if_pos lt];show told.length-1+(left.length+3)+_<=C;have f':told.length+(left.length+1)+(bK (told.map (·.1))*bK ((left++[x]).map (·.1))).log2<=C:=f;lia
 .unfold mu;rw[QT,QT];show _+(left.length+3)<_+(left.length+1)
  lia
variable{N0 F Wt:List Nat}{a b:Nat}
end Pw
namespace Tr
def OP(a b c:Rat):a*(b*c)=b*(a*c):=by rw[<- Rr,<- Rr,Vh a b]
def mx{α:Type}(f:α->Rat):∀{l:List α},l≠[]->∃j∈l,∀h∈l,f h<=f j
 |[],h=>absurd rfl h
 |[a],_=>⟨a,QK,λh hh=>by rw[show h=a by simpa using hh];exact YC⟩
 |a :: b :: l,_=>by
  obtain⟨j,hj,k⟩:=mx f (l:=b :: l) (by simp);rcases Rat.le_total (a:=f a) (b:=f j) with z|z
  .refine⟨j,QL _ hj,λh hh=>?_⟩;rcases Q5.mp hh with e|e
   .rw[e];exact z
   .exact k h e
  .refine⟨a,QK,λh hh=>?_⟩;rcases Q5.mp hh with e|e
   .rw[e];exact YC
   .exact Rat.le_trans (k h e) z
def Ar{α:Type}{f:α->Rat}:∀{l:List α},(∀x∈l,0<=f x)->ls l f=0->∀x∈l,f x=0
 |a :: l,h,e,x,hx=>by
  have h1:=h a QK;have h2:0<=ls l f:=jH λy hy=>h y (QL _ hy)
  rw[a7] at e
  have e1:f a=0:=by
   refine Rat.le_antisymm ?_ h1
   have:=(Rat.add_le_add_left (c:=f a)).mpr h2
   rw[e,UA] at this;exact this
  rcases Q5.mp hx with z|z
  .rw[z];exact e1
  .rw[e1,WP] at e;exact Ar (λy hy=>h y (QL _ hy)) e x z
def Mq{α:Type}(l:List α)(f g:α->Rat):ls l (λx=>f x-g x)=ls l f-ls l g:=by
 have:ls l (λx=>f x-g x)=ls l (λx=>f x+(-1)*g x):=a9 λx _=>by rw[Zf,Rat.neg_mul,Tj]
 rw[this,Gc,uK,Zf,Rat.neg_mul,Tj]
section
variable{es:List (Nat×Nat)}{pc:Nat->Rat}
abbrev Qc(es:List (Nat×Nat))(pc u:Nat->Rat)(n:Nat):Prop:=∀j,j<n->ls ((QR es.length).filter λk=>tow es k == j) (λk=>pc k*u (fro es k))=ls ((QR es.length).filter λk=>fro es k == j) λk=>pc k*u (fro es k)
def Pn.app:∀{n m a b c:Nat},Pn es n a b->Pn es m b c->Pn es (n+m) a c
 |0,m,a,b,c,h,k=>by rw[UR,show a=b from h];exact k
 |n+1,m,a,b,c,⟨k,hk,e,p⟩,q=>by rw[Nat.succ_add];exact⟨k,hk,e,Pn.app p q⟩
def Pn.back(bk:∀k,k<es.length->∃m,Pn es m (tow es k) (fro es k)):∀{n a b:Nat},Pn es n a b->∃m,Pn es m b a
 |0,a,b,h=>⟨0,(show a=b from h).symm⟩
 |n+1,a,b,⟨k,hk,e,p⟩=>by
  obtain⟨m1,q1⟩:=Pn.back bk p;obtain⟨m2,q2⟩:=bk k hk;rw[e] at q2;exact⟨m1+m2,q1.app q2⟩
def Pn.lt{N:Nat}(ok:∀k,k<es.length->fro es k<N/\tow es k<N):∀{n a b:Nat},Pn es n a b->a<N->b<N
 |0,a,b,h,l=>by rw[<- show a=b from h];exact l
 |n+1,a,b,⟨k,hk,_,p⟩,_=>Pn.lt ok p (ok k hk).2
open Classical in
def Qn{n:Nat}(ok:∀k,k<es.length->fro es k<n/\tow es k<n)(pp:∀k,k<es.length->0<pc k)(bk:∀k,k<es.length->∃m,Pn es m (tow es k) (fro es k))
  (bu:Qc es pc u n) (bv:Qc es pc v n) (vp:∀h,h<n->0<v h) {a:Nat} (ha:a<n):∃c:Rat,∀b m,Pn es m a b->u b=c*v b:=by
 obtain⟨j,hj,top⟩:=mx (λh=>u h / v h) (l:=(QR n).filter λh=>decide (∃m,Pn es m a h)) (λz=>by
  have:a∈(QR n).filter λh=>decide (∃m,Pn es m a h):=Ri.mpr ⟨Rb.mpr ha,decide_eq_true ⟨0,rfl⟩⟩
  rw[z] at this;cases this)
 obtain⟨j1,j2⟩:=Ri.mp hj;have jn:=Rb.mp j1;obtain⟨mj,pj⟩:=of_decide_eq_true j2;have dv:∀h,h<n->u h / v h*v h=u h:=λh hh=>W_ λz=>by have:=vp h hh;rw[z] at this;exact absurd this XB
 refine⟨u j / v j,?_⟩
 have le:∀h m,Pn es m a h->u h<=u j / v j*v h:=λh m p=>by
  have hn:=p.lt ok ha
  have:=top h (Ri.mpr ⟨Rb.mpr hn,decide_eq_true ⟨m,p⟩⟩)
  have:=Rat.mul_le_mul_of_nonneg_right this (T6 (vp h hn))
  rw[dv h hn] at this;exact this
 generalize hc:u j / v j=c at le;have ej:u j=c*v j:=by rw[<- hc,dv j jn]
 have step:∀k,k<es.length->(∃m,Pn es m a (tow es k))->u (tow es k)=c*v (tow es k)->u (fro es k)=c*v (fro es k):=by
  intro k hk ⟨m,p⟩ e;have xn:=(ok k hk).2;have b1:=bu _ xn;have b2:=bv _ xn
  have o:ls ((QR es.length).filter λi=>fro es i == tow es k) (λi=>pc i*u (fro es i))=c*ls ((QR es.length).filter λi=>fro es i == tow es k) λi=>pc i*v (fro es i):=by
   rw[<- uK];refine a9 λi hi=>?_
   have:fro es i=tow es k:=by simpa using(Ri.mp hi).2
   rw[this,e,<- Rr,<- Rr,Vh (pc i) c]
  have z:ls ((QR es.length).filter λi=>tow es i == tow es k) (λi=>c*(pc i*v (fro es i))-pc i*u (fro es i))=0:=by
   rw[Mq,uK,b1,b2,<- o,Rat.sub_self]
  have ge:∀i∈(QR es.length).filter λi=>tow es i == tow es k,0<=c*(pc i*v (fro es i))-pc i*u (fro es i):=λi hi=>by
   obtain⟨i1,i2⟩:=Ri.mp hi;have il:=Rb.mp i1;have it:tow es i=tow es k:=by simpa using i2
   obtain⟨m2,q⟩:=bk i il;rw[it] at q
   have:=le _ _ (p.app q)
   have:=Rat.mul_le_mul_of_nonneg_left this (T6 (pp i il))
   rw[OP] at this;exact Rat.le_iff_sub_nonneg _ _ |>.mp this
  have:=Ar ge z k (Ri.mpr ⟨Rb.mpr hk,by simp⟩)
  have e2:c*(pc k*v (fro es k))=pc k*u (fro es k):=by
   have:=congrArg (· + pc k*u (fro es k)) this
   simpa[Rat.sub_add_cancel,WP] using this
  rw[OP] at e2;have pk:=pp k hk
  have:=congrArg ((pc k)⁻¹ * ·) e2
  simp only[<- Rr] at this;rw[Rat.inv_mul_cancel _ (λz=>by rw[z] at pk;exact absurd pk XB)] at this;simp only[Tj] at this;exact this.symm
 have all:∀m b,(∃k,Pn es k a b)->Pn es m b j->u b=c*v b:=by
  intro m
  induction m with
  |zero=>intro b _ h;rw[show b=j from h];exact ej
  |succ m ih =>
   intro b ⟨q,hq⟩ ⟨k,hk,e,p⟩;subst e;exact step k hk ⟨_,hq.snoc hk⟩ (ih _ ⟨_,hq.snoc hk⟩ p)
 intro b m p;obtain⟨m2,q⟩:=p.back bk;exact all _ b ⟨m,p⟩ (q.app pj)
end
end Tr
namespace Ev
open Bo Pw
abbrev vr(f:Nat->Int)(x:Rat):Int:=f x.num.natAbs-f x.den
def nump{x:Rat}(h:0<x):0<x.num.natAbs:=by
 have a:=Ug.mpr (T6 h);have b:x.num≠0:=λz=>by rw[Zae.mp z] at h;exact absurd h XB
 lia
def fE{f:Nat->Int}(hf:Add f){x y:Rat}(hx:0<x)(hy:0<y):vr f (x*y)=vr f x+vr f y:=by
 have e:(x*y).num*((x.den:Int)*y.den)=x.num*y.num*(x*y).den:=by
  have h:Q9 (x*y).num (x*y).den=Q9 (x.num*y.num) ((x.den:Int)*y.den):=by
   rw[RO,<- Ss,RO,RO]
  have d1:((x*y).den:Int)≠0:=by have:=(x*y).den_nz;lia
  have d2:(x.den:Int)*y.den≠0:=WG (by have:=x.den_nz;lia) (by have:=y.den_nz;lia);exact(Si d1 d2).mp h
 have e2:=congrArg Yb e;rw[RM,RM,RM,RM,Q2,Q2,Q2] at e2;have e3:=congrArg f e2;have px:=nump hx;have py:=nump hy;have pz:=nump (TB hx hy);have dx:=RN x.den_nz;have dy:=RN y.den_nz;have dz:=RN (x*y).den_nz;rw[hf.mul _ _ pz (RB dx dy),hf.mul _ _ dx dy,hf.mul _ _ (RB px py) dz,hf.mul _ _ px py] at e3;unfold vr;lia
def kI{f:Nat->Int}(hf:Add f):vr f 1=0:=by
 have:=fE hf (x:=1) (y:=1) (by decide) (by decide)
 rw[SR] at this;lia
def tZ{f:Nat->Int}(hf:Add f){x:Rat}(hx:0<x):∀k:Nat,0<x ^ k/\vr f (x ^ k)=(k:Int)*vr f x
 |0=>by rw[Vi,kI hf];exact⟨by decide,by simp⟩
 |k+1=>by
  obtain⟨a,b⟩:=tZ hf hx k;rw[UX,fE hf a hx,b];refine⟨TB a hx,?_⟩;show _=((k:Int)+1)*_;rw[Wr,Va]
def Ny{n N:Nat}{lot:Nat->Nat}{row d:Nat->Int}(lb:∀k,k<n->lot k<N)(dl:∀k k',k<n->k'<n->lot k=lot k'->d k=d k')
  (z:∀l,l<N->sm n (λk=>if lot k=l then row k else 0)=0):sm n (λk=>row k*d k)=0:=by
 classical
 let D:Nat->Int:=λl=>if h:∃k,k<n/\lot k=l then d h.choose else 0
 have hD:∀k,k<n->D (lot k)=d k:=λk hk=>by
  have h:∃k',k'<n/\lot k'=lot k:=⟨k,hk,rfl⟩
  show(if h:∃k',k'<n/\lot k'=lot k then d h.choose else 0)=d k;rw[dif_pos h];exact dl _ _ h.choose_spec.1 hk h.choose_spec.2
 have e:sm n (λk=>row k*d k)=sm n (λk=>sm N (λj=>D j*(if lot k=j then 1 else 0))*row k):=bY λk hk=>by
  rw[uk (lb k hk) λj _ nj=>by rw[if_neg λq=>nj q.symm,TZ],if_pos rfl,Z3,hD k hk,TK]
 rw[e,yN];refine fR λj hj=>?_
 have:sm n (λk=>(if lot k=j then 1 else 0)*row k)=sm n (λk=>if lot k=j then row k else 0):=bY λk _=>by
  split
  .exact Va _
  .exact TL _
 rw[this,z j hj,TZ]
def E_{f:Nat->Int}(hf:Add f){n S N:Nat}{W v w:Nat->Rat}{h:Nat->Nat->Nat}{lot:Nat->Nat}{row:Nat->Int}
  (pW:∀k,k<n->0<W k) (pv:∀k,k<n->0<v k) (hv:∀k,k<n->vr f (v k)=sm S λs=>vr f (w s)*(h k s:Int)) (lb:∀k,k<n->lot k<N)
  (pr:∀k k',k<n->k'<n->lot k=lot k'->W k*v k'=W k'*v k) (z:∀l,l<N->sm n (λk=>if lot k=l then row k else 0)=0) (st:∀s,s<S->sm n (λk=>(h k s:Int)*row k)=0) :
  sm n (λk=>row k*vr f (W k))=0:=by
 have e:sm n (λk=>row k*vr f (W k))=sm n (λk=>row k*(vr f (W k)-vr f (v k)))+sm n (λk=>sm S (λs=>vr f (w s)*(h k s:Int))*row k):=by
  rw[<- Bo.ul];refine bY λk hk=>?_
  rw[<- hv k hk,Yz,TK (vr f (v k))];lia
 rw[e,Ny lb (λk k' hk hk' l=>?_) z,yN,fR λs hs=>by rw[st s hs,TZ]]
 .rfl
 .have a:=fE hf (pW k hk) (pv k' hk');have b:=fE hf (pW k' hk') (pv k hk);rw[pr k k' hk hk' l] at a;lia
end Ev
namespace Dt
end Dt
namespace As
open PySem L2 Fr G1 Sm Vs G2 Ti
open PySem.W (Dat kqdOk)
abbrev Fine(es:List (Nat×Nat))(j:Nat):Prop:=∀x y,es[j]?=some (x,y)->Rch es y x
abbrev mL(K:Fg):Sp:=λvs H Q _=>∃(v:V) (ws:List Str) (ts:List Tn),vs=[v]/\Rz K H v (dV ws ts)/\ts.length<=100 /\
 (∀i x y,(aq ts)[i]?=some (x,y)->(∀j<i,Fine (aq ts) j)->¬ Rch (aq ts) y x->∀H',Same H H'->Q (.int (i:Int)) H')/\((∀j,Fine (aq ts) j)->∀H',Same H H'->Q .non H')
abbrev mq(K:Fg):TS:=(am (aW (iM K (ae (aD (fF K) [] E0 (ae (aa 0) ag)) ag)) (cx K 2 (aX (al 1) (aX (al 2) cy)))
 (aS (aR (ar pE (aD (yF K) [] E0 (ae (aa 0) (ae (ar (aE K) (aa 2) (tC (.int 1))) (ae (ar (aE K) (aa 2) (tC (.int 0))) ag)))) (tC .non)))
 (aG (aa 1))
 aV))
 (aG (tC .non)))
def zj{K:Fg}:ρ 3 (mL K) (mq K):=by
 fail "R";obtain⟨v,ws,ts,rfl,rv,hl,k1,k2⟩:=h;rw[L2.aP hN];walk_at "t";have eo:=bS ts;unfold mq;cbv;refine⟨v,ws,ts,rfl,rv,hl,λpe H1 A1=>?_⟩;obtain⟨xs,hpe,rx⟩:=A1.at_;have S1:=A1.same;have lx:xs.length=(aq ts).length:=by rw[rx.length,Qx]
 cbv;refine⟨pe,xs,rfl,SqL.of hpe,?_⟩;refine dG (xs:=xs) (λi σ H2=>∃u1 u2:Option V,σ=[some v,u1,u2]/\Same H1 H2/\∀j<i,Fine (aq ts) j) ⟨none,none,rfl,Same.refl _,λj hj=>absurd hj (SU _)⟩ (by rintro i σ H2 _ ⟨_,_,_,S,_⟩;exact SqL.of (S _ _ hpe)) ?_ ?_
 .rintro i z σ H2 T hz ⟨u1,u2,rfl,S2,dn⟩ nT;obtain⟨dd,g1,g2⟩:=rx.get hz;rw[QD] at g1;obtain⟨e,he,rfl⟩:=QG.mp g1;obtain⟨x,y⟩:=e;have oe:=eo _ (QI he);have S3:=ak nT (.tup [.int (i:Int),z]);obtain⟨pb,rfl,hpb⟩:=BC ((g2.same S2).same S3);refine bP (SqT.of aj) rfl ?_;cbv;generalize upd H2 T (.tup [.int (i:Int),.ref pb])=H3 at S3 hpb ⊢;have S13:=S2.trans S3;refine aF (SqT.of hpb) (v:=.int (y:Int)) rfl ?_;cbv;refine aF (SqT.of hpb) (v:=.int (x:Int)) rfl ?_;cbv;refine⟨v,ws,ts,y,x,rfl,(rv.same S1).same S13,hl,oe.2,oe.1,λr p H4 S4=>?_,λnr H4 S4=>?_⟩
  .cbv;refine bb (λz=>nomatch z) (λ_=>?_);cbv;refine⟨_,_,rfl,S13.trans S4,λj hj x' y' ge=>?_⟩;by_cases ji:j<i
   .exact dn j ji x' y' ge
   .have:j=i:=by lia
    rw[this,he] at ge;cases Q7 ge;exact r
  .cbv;refine bb (λ_=>?_) (λz=>absurd rfl z);cbv;exact k1 i x y he dn nr H4 (S1.trans (S13.trans S4))
 .rintro σ H2 ⟨u1,u2,rfl,S2,dn⟩;cbv;refine k2 (λj=>?_) H2 (S1.trans S2);by_cases jl:j<xs.length
  .exact dn j jl
  .intro x y ge;rw[RD (by lia)] at ge;cases ge
end As
namespace Pw
open PySem L2 Fr G1 Sm Vs G2 Rk Sz Sf Rw Ti
open PySem.W (Dat kqdOk)
def E8(m d:Nat):(m:Int).fmod (d:Int)=((m % d:Nat):Int):=by
 rw[WX _ (W5 d)];rfl
def E9(m d:Nat):(m:Int).fdiv (d:Int)=((m / d:Nat):Int):=by
 rw[WW _ (W5 d)];rfl
def Gv(a b:Nat):Gd.gd (a:Int) (b:Int)=((Rv a b:Nat):Int):=rfl
def Kz{d m:Nat}(hd:2<=d)(hm:0<m)(h:d∣m):bD d m=bD d (m / d)+1/\cf d m=cf d (m / d)/\0<m / d/\m / d<m:=by
 obtain⟨k,rfl⟩:=h;have hk:0<k:=Sx hm;have e:=xi hd hk;rw[XU k (by lia:0<d)];refine⟨dA hd hk,by show(tk d (d*k)).2=_;rw[e],hk,?_⟩
 have:=RC k hd
 lia
def Ky{d m:Nat}(h : ¬ d∣m):bD d m=0/\cf d m=m:=⟨jG h,congrArg VS (GZ h)⟩
abbrev Db(K:Fg):Sp:=λvs H Q _=>∃n d:Nat,vs=[.int (n:Int),.int (d:Int)]/\0<n/\2<=d/\d<2 ^ 9000/\∀(p:Addr) (H':Hp),Same H H'->Rz K H' (.ref p) (dI [(bD d n:Int),(cf d n:Int)])->Q (.ref p) H'
abbrev G6(K:Fg):TS:=(am (aw (tC (.int 0)) (al 2))
 (am (h_ (aR (ar fV (ar ID (aa 0) (aa 1)) (tC (.int 0))))
 (am (aw (ar D_ (aa 0) (aa 1)) (al 0))
 (aw (ar aZ (aa 2) (tC (.int 1))) (al 2))))
 (aG (bq (ae (aa 2) (ae (aa 0) ag))))))
def KZ{K:Fg}:ρ 3 (Db K) (G6 K):=by
 fail "R";obtain⟨n,d,rfl,n0,d2,dw,k⟩:=h;rw[L2.aP hN];walk_at "t";unfold G6;cbv
 refine iT (λσ H'=>H'=H/\∃m c:Nat,σ=[↥(m:Int),↥(d:Int),↥(c:Int)]/\0<m/\bD d n=c+bD d m/\cf d n=cf d m)
  (λσ _=>match σ with | [↥m,_,_]=>m.toNat|_=>0) ⟨rfl,n,0,rfl,n0,by lia,rfl⟩ ?_ ?_
 .rintro σ H' ⟨rfl,m,c,rfl,m0,e1,e2⟩;cbv;refine cK (by lia) ?_;cbv;rw[E8];refine bb (λz=>?_) (λz=>?_)
  .have dv:d∣m:=Nat.dvd_of_mod_eq_zero (by lia);obtain⟨f1,f2,f3,f4⟩:=Kz d2 m0 dv;cbv;refine cK ⟨by lia,by show d<_;exact dw⟩ ?_;rw[E9];cbv;exact⟨⟨rfl,m / d,c+1,rfl,f3,by lia,by rw[e2,f2]⟩,by show(((m / d:Nat):Int)).toNat<((m:Nat):Int).toNat;lia⟩
  .have dv : ¬ d∣m:=λy=>z (by rw[Nat.mod_eq_zero_of_dvd y];rfl)
   obtain⟨f1,f2⟩:=Ky dv;cbv;refine⟨aQ,λp np=>?_⟩
   have:=k p _ (ak np (.tup [.int (c:Int),.int (m:Int)]))
   rw[e1,e2,f1,f2] at this;exact this (.tup aj (RpL.ints [_,_]))
 .rintro σ H' R R' h ⟨w1,e1,w2,e2,i,j,e3,e4,c,sc,kk,ek,q⟩;exact⟨w1,e1,w2,e2,i,j,e3,e4,c,sc,kk,ek,h _ _ q⟩
abbrev jV(x:Pr):Dat:=dI [(x.1:Int),x.2]
abbrev rT(K:Fg):Sp:=λvs H Q _=>∃(u v:V) (x y:Pr),vs=[u,v]/\Rz K H u (jV x)/\Rz K H v (jV y)/\0<x.1/\0<y.1/\2<=Rv x.1 y.1/\x.1<2 ^ 8000/\y.1<2 ^ 8000/\x.2.natAbs<2 ^ 8000/\y.2.natAbs<2 ^ 8000 /\
 ∀(p:Addr) (H':Hp),AccZ K H p H' ((yw x y).map jV)->Q (.ref p) H'
def F2{d n:Nat}(hd:2<=d)(hn:0<n):bD d n<n:=by
 have e:=(gN hd n hn).1;have r:=fU hd hn;have l:bD d n<d ^ bD d n:=Nat.lt_pow_self (by lia)
 have:=Rh (d ^ bD d n) r
 lia
nonrec abbrev xu(K:Fg):TS:=(aG (bR (ae (bq (ae (ar (aE K) (aa 3) (tC (.int 1))) (ae (ar (aE K) (aa 0) (tC (.int 1))) ag))) (ae (bq (ae (ar (aE K) (aa 4) (tC (.int 1))) (ae (ar (aE K) (aa 1) (tC (.int 1))) ag))) (ae (bq (ae (aa 2) (ae (ar aZ (ar cO (ar (aE K) (aa 3) (tC (.int 0))) (ar (aE K) (aa 0) (tC (.int 1)))) (ar cO (ar (aE K) (aa 4) (tC (.int 0))) (ar (aE K) (aa 1) (tC (.int 1))))) ag))) ag)))))
nonrec abbrev xt(K:Fg):TS:=(am (aw (aD (Pw.Db K) [] E0 (ae (ar (aE K) (aa 0) (tC (.int 0))) (ae (aa 2) ag))) (al 3))
 (am (aw (aD (Pw.Db K) [] E0 (ae (ar (aE K) (aa 1) (tC (.int 0))) (ae (aa 2) ag))) (al 4))
 (xu K)))
abbrev qZ(K:Fg):TS:=(am (aw (aD oT [] E0 (ae (ar (aE K) (aa 0) (tC (.int 0))) (ae (ar (aE K) (aa 1) (tC (.int 0))) ag))) (al 2))
 (xt K))
def DJ{K:Fg}:ρ 5 (rT K) (qZ K):=by
 fail "R";obtain⟨u,v,x,y,rfl,ru,rv,x0,y0,g2,xb,yb,xe,ye,k⟩:=h;rw[L2.aP hN];walk_at "t";obtain⟨a,rfl,ha⟩:=bM ru;obtain⟨b,rfl,hb⟩:=bM rv;have p8:(2:Nat) ^ 8000<2 ^ 9000:=Tr.pw_lt (by decide);have p2:(2:Nat) ^ 8000<2 ^ 20000:=Tr.pw_lt (by decide);have ox:=F2 g2 x0;have oy:=F2 g2 y0;have gl:=TM x0 (We x.1 y.1);have k':=k;unfold yw at k';generalize hg:Rv x.1 y.1=g at *;generalize (2:Nat) ^ 8000=P8 at *;unfold qZ;cbv;refine aF (SqT.of ha) (v:=.int (x.1:Int)) rfl ?_;cbv;refine aF (SqT.of hb) (v:=.int (y.1:Int)) rfl ?_;cbv;refine⟨_,_,rfl,?_⟩;rw[Gv,hg];cbv;refine aF (SqT.of ha) (v:=.int (x.1:Int)) rfl ?_;cbv;refine⟨x.1,g,rfl,x0,g2,by lia,λp1 H1 S1 r1=>?_⟩;cbv;have hb1:=S1 _ _ hb;have ha1:=S1 _ _ ha;refine aF (SqT.of hb1) (v:=.int (y.1:Int)) rfl ?_;cbv;refine⟨y.1,g,rfl,y0,g2,by lia,λp3 H3 S3 r3=>?_⟩;have ha3:=S3 _ _ ha1;have hb3:=S3 _ _ hb1;obtain⟨_,q1,h1⟩:=bM (r1.same S3);cases q1;obtain⟨_,q3,h3⟩:=bM r3;cases q3;cbv;refine aF (SqT.of h1) (v:=.int (cf g x.1:Int)) rfl ?_;cbv;refine aF (SqT.of ha3) (v:=.int x.2) rfl ?_;cbv;refine⟨aQ,λq1 n1=>?_⟩;have T1:=ak n1 (.tup [.int (cf g x.1:Int),.int x.2]);have z1:Rz K (upd H3 q1 (.tup [.int (cf g x.1:Int),.int x.2])) (.ref q1) (jV (cf g x.1,x.2)):=.tup aj (RpL.ints [_,_]);generalize upd H3 q1 (.tup [.int (cf g x.1:Int),.int x.2])=H4 at T1 z1 ⊢;cbv;refine aF (SqT.of (T1 _ _ h3)) (v:=.int (cf g y.1:Int)) rfl ?_;cbv;refine aF (SqT.of (T1 _ _ hb3)) (v:=.int y.2) rfl ?_;cbv;refine⟨aQ,λq2 n2=>?_⟩;have T2:=ak n2 (.tup [.int (cf g y.1:Int),.int y.2]);have z2:Rz K (upd H4 q2 (.tup [.int (cf g y.1:Int),.int y.2])) (.ref q2) (jV (cf g y.1,y.2)):=.tup aj (RpL.ints [_,_]);generalize upd H4 q2 (.tup [.int (cf g y.1:Int),.int y.2])=H5 at T2 z2 ⊢;have T12:=T1.trans T2;cbv;refine aF (SqT.of (T12 _ _ h1)) (v:=.int (bD g x.1:Int)) rfl ?_;cbv;refine aF (SqT.of (T12 _ _ ha3)) (v:=.int x.2) rfl ?_;cbv;refine cK ⟨by show bD g x.1<_;lia,by lia⟩ ?_;cbv;refine aF (SqT.of (T12 _ _ h3)) (v:=.int (bD g y.1:Int)) rfl ?_;cbv;refine aF (SqT.of (T12 _ _ hb3)) (v:=.int y.2) rfl ?_;cbv;refine cK ⟨by show bD g y.1<_;lia,by lia⟩ ?_;cbv;refine⟨aQ,λq3 n3=>?_⟩;have T3:=ak n3 (.tup [.int (g:Int),.int (bD g x.1*x.2+bD g y.1*y.2)]);have z3:Rz K (upd H5 q3 (.tup [.int (g:Int),.int (bD g x.1*x.2+bD g y.1*y.2)])) (.ref q3) (jV (g,bD g x.1*x.2+bD g y.1*y.2)):=.tup aj (RpL.ints [_,_]);generalize upd H5 q3 (.tup [.int (g:Int),.int (bD g x.1*x.2+bD g y.1*y.2)])=H6 at T3 z3 ⊢;cbv;refine⟨fS,λl nl=>?_⟩;have T4:=ak nl (.lst [.ref q1,.ref q2,.ref q3]);have S06:=((S1.trans S3).trans T12).trans T3;exact k' l _ ⟨S06.trans T4,S06.free nl,_,aj,.cons (((z1.same T2).same T3).same T4) (.cons ((z2.same T3).same T4) (.cons (z3.same T4) .nil))⟩
abbrev rZ(K:Fg):Sp:=λvs H Q _=>∃(a:Addr) (xs:List V) (L:List Pr) (n:Nat),vs=[.ref a,.int (n:Int)]/\H a=some (.lst xs)/\RzL K H xs (L.map jV) /\
 (∀(i:Nat) (y:Pr) (H':Hp),Same H H'->L[i]?=some y->1<Rv y.1 n->Q (.int (i:Int)) H')/\∀H',Same H H'->(∀z∈L,Rv z.1 n<=1)->Q .non H'
abbrev rf(K:Fg):TS:=(am (aW (iM K (ae (aa 0) ag)) (cx K 2 (aX (al 2) (aX (al 3) cy)))
 (aS (aR (ar wN (aD oT [] E0 (ae (ar (aE K) (aa 3) (tC (.int 0))) (ae (aa 1) ag))) (tC (.int 1))))
 (aG (aa 2))
 aV))
 (aG (tC .non)))
def DM{K:Fg}:ρ 4 (rZ K) (rf K):=by
 fail "R";obtain⟨a,xs,L,n,rfl,ha,rx,k1,k2⟩:=h;rw[L2.aP hN];walk_at "t";unfold rf;cbv;refine⟨a,_,rfl,SqL.of ha,?_⟩;refine dG (xs:=xs) (λi σ H2=>∃u1 u2:Option V,σ=[⇑a,↥(n:Int),u1,u2]/\Same H H2/\∀j<i,∀z,L[j]?=some z->Rv z.1 n<=1) ⟨none,none,rfl,Same.refl _,λj hj=>absurd hj (SU _)⟩ (by rintro i σ H2 _ ⟨_,_,_,S,_⟩;exact SqL.of (S _ _ ha)) ?_ ?_
 .rintro i z σ H2 T hz ⟨u1,u2,rfl,S,d⟩ nT;obtain⟨dd,g1,g2⟩:=rx.get hz;rw[QD] at g1;obtain⟨y,hy,rfl⟩:=QG.mp g1;have S1:=ak nT (.tup [.int (i:Int),z]);have S2:=S.trans S1;obtain⟨b,rfl,hb⟩:=bM (g2.same S2);have hT:upd H2 T (.tup [.int (i:Int),.ref b]) T=some (.tup [.int (i:Int),.ref b]):=aj;generalize upd H2 T (.tup [.int (i:Int),.ref b])=H3 at S1 S2 hT hb ⊢;refine bP (SqT.of hT) rfl ?_;cbv;refine aF (SqT.of hb) (v:=.int (y.1:Int)) rfl ?_;cbv;refine⟨_,_,rfl,?_⟩;rw[Gv];cbv;refine bb (λc=>?_) (λc=>?_)
  .cbv;exact k1 i y H3 S2 hy (by lia)
  .cbv;refine⟨_,_,rfl,S2,λj hj z hz=>?_⟩;by_cases e:j=i
   .rw[e,hy] at hz;cases hz;lia
   .exact d j (by lia) z hz
 .rintro σ H2 ⟨u1,u2,rfl,S,d⟩;cbv;refine k2 H2 S λz hz=>?_
  obtain⟨j,hj⟩:=RA hz
  have:=(QC.mp hj).1
  exact d j (by rw[rx.length,Qx];exact this) z hj
def MK{K:Fg}{ds:List Dat}{d:Dat}{Q:VK}(A:AccZ K H0 l H (ds++[d]))
  (h:∀y H2,Rz K H2 y d->AccZ K H0 l H2 ds->(∀{m:Addr} {es:List Dat},m≠l->AccZ K H0 m H es->AccZ K H0 m H2 es)->Q y H2):IB (.ref l) [] H Q:=by
 obtain⟨xs,h1,h2⟩:=A.at_
 obtain⟨a,b,rfl,ra,rb⟩:∃a b,xs=a++[b]/\RzL K H a ds/\Rz K H b d:=by
  have ll:=h2.length;rw[QT] at ll;have hne:xs≠[]:=λz=>by rw[z] at ll;simp at ll
  refine⟨xs.dropLast,xs.getLast hne,(WI hne).symm,?_⟩;have e:=(WI hne).symm;rw[e] at h2;generalize xs.dropLast=a at h2;generalize xs.getLast hne=b at h2;clear e ll h1 A h hne
  induction a generalizing ds with
  |nil =>
   cases ds with
   |nil=>cases h2 with|cons r _=>exact⟨.nil,r⟩
   |cons e es=>cases h2 with|cons _ r=>cases es <;> cases r
  |cons x a ih =>
   cases ds with
   |nil=>cases h2 with|cons _ r=>cases a <;> cases r
   |cons e es=>cases h2 with|cons q r=>exact⟨.cons q (ih r).1,(ih r).2⟩
 refine⟨l,a++[b],b,rfl,rfl,h1,by rw[QT];show(a++[b])[a.length+1-1]? = _;simp,?_⟩;rw[List.dropLast_concat];exact h b _ (Rz.upd rb h1) ⟨A.aj,A.new,a,aj,RzL.upd ra h1⟩ λne B=>B.other ne A.new h1
def pC{K:Fg}{H:Hp}:∀{xs:List V} {ds:List Dat} (i:Nat),RzL K H xs ds->RzL K H (xs.eraseIdx i) (ds.eraseIdx i)
 |_,_,_,.nil=>.nil
 |_,_,0,.cons _ r=>r
 |_,_,i+1,.cons q r=>.cons q (pC i r)
def EM{K:Fg}{d:Dat}{i:Nat}{Q:VK}(A:AccZ K H0 l H ds)(hi:ds[i]?=some d)(n:ds.length<2 ^ 62)
  (h:∀y H2,Rz K H2 y d->AccZ K H0 l H2 (ds.eraseIdx i)->(∀{v:V} {e:Dat},Rz K H v e->Rz K H2 v e)->(∀{m:Addr} {es:List Dat},m≠l->AccZ K H0 m H es->AccZ K H0 m H2 es)->Q y H2):zu (.ref l) [.int (i:Int)] H Q:=by
 obtain⟨xs,h1,h2⟩:=A.at_;have li:=(QC.mp hi).1;have lx:=h2.length;obtain⟨y,hy⟩:∃y,xs[i]?=some y:=⟨_,Qy (by lia)⟩
 obtain⟨e,g1,g2⟩:=h2.get hy;rw[hi] at g1;cases g1;refine⟨l,xs,i,i,y,rfl,rfl,h1,by lia,by lia,?_,hy,h y _ (Rz.upd g2 h1) ⟨A.aj,A.new,_,aj,RzL.upd (pC i h2) h1⟩ (λq=>Rz.upd q h1) λne B=>B.other ne A.new h1⟩;unfold seqIndex?;simp;lia
def MU{K:Fg}{Q:VK}(A:AccZ K H0 l H ds)(hb:H b=some (.lst zs))(rz:RzL K H zs es)(n:ds.length+es.length<=sizeLine)
  (h:∀H2,AccZ K H0 l H2 (ds++es)->(∀{m:Addr} {fs:List Dat},m≠l->AccZ K H0 m H fs->AccZ K H0 m H2 fs)->Q .non H2):js (.ref l) [.ref b] H Q:=by
 obtain⟨xs,h1,h2⟩:=A.at_;exact⟨l,b,xs,zs,rfl,rfl,h1,hb,by rw[h2.length,rz.length];exact n,h _ ⟨A.aj,A.new,_,aj,RzL.upd (h2.append rz) h1⟩ λne B=>B.other ne A.new h1⟩
def Ct{c:TT}{tb:TS}{D:cq}{H:Hp}(Pv:Nat->St->Hp->Prop)(h0:Pv m σ H)
  (hs:∀m σ H,Pv m σ H->c σ H λb H1=>if b=true then tb {D with nx:=λσ' H'=>∃k,k<m/\Pv k σ' H',ct:=λσ' H'=>∃k,k<m/\Pv k σ' H',bk:=D.nx} σ H1 else D.nx σ H1)
  (mono:∀σ H Q Q',(∀b H1,Q b H1->Q' b H1)->c σ H Q->c σ H Q'):h_ c tb D σ H:=by
 refine⟨Pv,⟨m,h0⟩,λn σ H p=>mono σ H _ _ (λb H1 q=>?_) (hs n σ H p)⟩;cases b with
 |true=>exact⟨_,λσ' H' h=>h,q⟩
 |false=>exact q
abbrev mM(K:Fg):Sp:=λvs H Q _=>∃(a:Addr) (xs:List V) (P0:List Pr),vs=[.ref a]/\H a=some (.lst xs)/\RzL K H xs (P0.map jV)/\(∀x∈P0,0<x.1/\x.1<2 ^ 8000)/\gM P0<2 ^ 8000/\P0.length+(bK (P0.map (·.1))).log2<2 ^ 20 /\
 ∀(p:Addr) (H':Hp) (T:List Pr),AccZ K H p H' (T.map jV)->FA (T.map (·.1))->(∀x∈T,x.2≠0)->(∀f,Add f->SF f T=SF f P0)->T.length<2 ^ 20->Q (.ref p) H'
def qU:∀{L:List Pr} {x:Pr},x∈L->2<=x.1->x.2.natAbs<=gM L
 |y :: L,x,h,h2=>by
  show _<=y.2.natAbs*y.1.log2+gM L;rcases Q5.mp h with e|e
  .subst e
   have:1<=x.1.log2:=(YE (by lia)).mpr (by lia)
   have:=Rh x.2.natAbs this
   lia
  .have:=qU e h2
   lia
nonrec abbrev yk(K:Fg):TS:=(aS (aR (ar pE (aa 4) (tC .non)))
 (bz (cZ K "list" aO (aa 1) (ae (aa 3) ag)))
 (bz (cZ K "list" js (aa 2) (ae (aD (Pw.rT K) [] E0 (ae (aa 3) (ae (cZ K "list" zu (aa 1) (ae (aa 4) ag)) ag))) ag))))
nonrec abbrev yj(K:Fg):TS:=(aS (mB (aR (ar wN (ar (aE K) (aa 3) (tC (.int 0))) (tC (.int 1)))) (aR (ar wL (ar (aE K) (aa 3) (tC (.int 1))) (tC (.int 0)))))
 (am (aw (aD (Pw.rZ K) [] E0 (ae (aa 1) (ae (ar (aE K) (aa 3) (tC (.int 0))) ag))) (al 4))
 (yk K))
 aV)
abbrev rL(K:Fg):TS:=(am (aw (bR ag) (al 1))
 (am (aw (bo (dm K) (ae (aa 0) ag)) (al 2))
 (am (h_ (aR (ar wN (bo (bW K) (ae (aa 2) ag)) (tC (.int 0))))
 (am (aw (Hv K "list" IB (aa 2)) (al 3))
 (yj K)))
 (aG (aa 1)))))
def D4{K:Fg}:ρ 5 (mM K) (rL K):=by
 fail "R";obtain⟨a,xs,P0,rfl,ha,rx,pos,ht,hc,k⟩:=h;rw[L2.aP hN];walk_at "t";obtain⟨B,hB⟩:∃B,B+1=2 ^ 8000:=⟨2 ^ 8000-1,Nat.sub_add_cancel (Sd (by decide))⟩
 rw[<- hB] at pos ht;have s24:sizeLine=16777216:=by decide
 have lt8:∀{n:Nat},n<=B->n<2 ^ 8000:=λ{n} h=>by rw[<- hB];lia
 unfold rL;cbv;refine⟨by show 0<=sizeLine;exact RL _,λl nl=>?_⟩;have A1:AccZ K H l (upd H l (.lst [])) []:=AccZ.start (Same.refl _) nl;have ha1:=ak nl (.lst []) _ _ ha;have rx1:=rx.same (ak nl (.lst []));generalize upd H l (.lst [])=H1 at A1 ha1 rx1 ⊢;cbv;refine jM (SqL.of ha1) λm nm=>?_
 have Sm_:=ak nm (.lst xs);have lm:l≠m:=λz=>by obtain⟨_,h1,_⟩:=A1.at_;rw[z,nm] at h1;cases h1
 have A2:=A1.on Sm_;have A3:AccZ K H m (upd H1 m (.lst xs)) (P0.map jV):=⟨A2.same,A1.same.free nm,xs,aj,rx1.same Sm_⟩
 generalize upd H1 m (.lst xs)=H2 at A2 A3 ⊢;cbv
 refine Ct (λn σ H'=>∃(told left:List Pr) (u1 u2:Option V),n=mu told left/\σ=[⇑a,⇑l,⇑m,u1,u2]/\AccZ K H l H' (told.map jV)/\AccZ K H m H' (left.map jV)/\Ap P0 B (gM P0) (P0.length+(bK (P0.map (·.1))).log2) told left)
  ⟨[],P0,none,none,rfl,rfl,A2,A3,Ap.start λx hx=>⟨(pos x hx).1,by have:=(pos x hx).2;lia⟩⟩ ?_ ?_
 .rintro _ σ H3 ⟨told,left,u1,u2,rfl,rfl,AT,AL,ap⟩;have few:=ap.few;obtain⟨zs,hz,rz⟩:=AL.at_;have lz:zs.length=left.length:=by rw[rz.length,Qx]
  cbv;refine b7 (SqL.of hz) ?_;cbv;rw[lz];refine bb (λc=>?_) (λc=>?_)
  .rcases List.eq_nil_or_concat left with e|⟨L,x,e⟩
   .rw[e] at c;simp at c
   rw[List.concat_eq_append] at e;subst e;rw[QJ] at AL;have lf:told.length+(L.length+1)<2 ^ 20:=by rw[QT] at few;show told.length+(L.length+[x].length)<_;lia
   cbv;refine⟨AL.ty,MK (ds:=L.map jV) AL λy H4 ry AL4 b6=>?_⟩;have AT4:=b6 lm AT;obtain⟨b,rfl,hb⟩:=bM ry;cbv;refine aF (SqT.of hb) (v:=.int (x.1:Int)) rfl ?_;cbv;refine bb (λc1=>?_) (λc1=>?_)
   .cbv;refine aF (SqT.of hb) (v:=.int x.2) rfl ?_;cbv;refine eN (λc2=>?_) (λc2=>?_)
    .have x2:1<x.1:=by lia
     obtain⟨ys,hy,rY⟩:=AT4.at_;cbv;refine aF (SqT.of hb) (v:=.int (x.1:Int)) rfl ?_;cbv;refine⟨l,ys,told,x.1,rfl,hy,rY,λi y H5 S5 hi hg=>?_,λH5 S5 no=>?_⟩
     .have AT5:=AT4.on S5;have AL5:=AL4.on S5;have rx5:=ry.same S5;cbv;refine bb (λz=>nomatch z) (λ_=>?_);cbv;refine⟨AL5.ty,?_⟩;cbv;refine⟨AT5.ty,?_⟩;cbv;refine EM AT5 (d:=jV y) (i:=i) (by rw[QD,hi];rfl) (by rw[Qx];lia) λy' H6 ry' AT6 rz6 oth6=>?_
      have AL6:=oth6 (λz=>lm z.symm) AL5;have hyT:=QI hi;have y2:2<=y.1:=ap.apt.1 y.1 (So hyT);have yB:=ap.bT y hyT;have xB:=ap.bL x (Q6 _ QK);have le:=ap.le;have t1:=qU hyT y2;have t2:=qU (L:=L++[x]) (Q6 _ QK) (by lia:2<=x.1);have g2:2<=Rv x.1 y.1:=by rw[Nat.gcd_comm];exact hg
      cbv;refine⟨_,y',x,y,rfl,rz6 rx5,ry',by lia,by lia,g2,lt8 xB,lt8 yB,lt8 (by lia),lt8 (by lia),λp H7 A7=>?_⟩;obtain⟨zs7,h7,r7⟩:=A7.at_;cbv;have s1:=ap.split hi hg;have AL7:=AL6.on A7.same;refine MU AL7 h7 r7 (by rw[Qx,Qx];show L.length+3<=_;lia) λH8 AL8 oth8=>?_
      have AT8:=oth8 lm (AT6.on A7.same);cbv;exact⟨_,s1.2,told.eraseIdx i,L++yw x y,_,_,rfl,rfl,by rw[<- qt];exact AT8,by rw[QJ];exact AL8,s1.1⟩
     .have AT5:=AT4.on S5;have AL5:=AL4.on S5;cbv;refine bb (λ_=>?_) (λz=>absurd rfl z);cbv;refine⟨AT5.ty,?_⟩;cbv;refine bV AT5 (ry.same S5) (by rw[Qx];lia) λH6 AT6 rz6 _ oth6=>?_
      have AL6:=oth6 (λz=>lm z.symm) AL5;cbv;exact⟨_,(ap.keep x2 c2 no).2,told++[x],L,_,_,rfl,rfl,by rw[QJ];exact AT6,AL6,(ap.keep x2 c2 no).1⟩
    .cbv;have dr:=ap.drop λz=>z.2 c2
     exact⟨_,dr.2,told,L,_,_,rfl,rfl,AT4,AL4,dr.1⟩
   .cbv;have dr:=ap.drop λz=>c1 (by lia)
    exact⟨_,dr.2,told,L,_,_,rfl,rfl,AT4,AL4,dr.1⟩
  .have e:left=[]:=RS (by lia);subst e;cbv;exact k l H3 told AT ap.apt ap.ne (λf hf=>by have:=ap.sf f hf;simpa[SF] using this) (by lia)
 .rintro σ H' R R' h ⟨w1,e1,p,ys,e3,e4,i,j,e5,e6,kk,e7,q⟩;exact⟨w1,e1,p,ys,e3,e4,i,j,e5,e6,kk,e7,h _ _ q⟩
abbrev wl(w:Nat->Rat)(n:Nat):List (Nat×Nat):=(QR n).map λi=>((w i).num.natAbs,(w i).den)
def wV:∀{A B:List (Nat×Nat)} {R S:List Int},A.length=R.length->gI (A++B) (R++S)=gI A R++gI B S
 |[],_,[],_,_=>rfl
 |_ :: A,B,_ :: R,S,h=>by show _ :: _ :: gI (A++B) (R++S)=_;rw[wV (by simpa using h)];rfl
def qT:∀{A:List (Nat×Nat)} {R:List Int},A.length=R.length->(gI A R).length=2*R.length
 |[],[],_=>rfl
 |_ :: A,_ :: R,h=>by show(gI A R).length+2=2*(R.length+1);rw[qT (by simpa using h)];lia
abbrev C_(K:Fg):Sp:=λvs H Q _=>∃(a b:Addr) (xs:List V) (row:List Int) (w:Nat->Rat),vs=[.ref a,.ref b]/\H a=some (.lst xs)/\H b=some (.lst (row.map V.int))/\xs.length=row.length/\row.length<=100/\(∀i x,xs[i]?=some x->Tr.QV K H x (w i)/\0<(w i).num) /\
 ∀(p:Addr) (H':Hp),AccZ K H p H' ((gI (wl w row.length) row).map jV)->Q (.ref p) H'
nonrec abbrev G4 (K:Fg):TS:=(am (bz (cZ K "list" aO (aa 2) (ae (bq (ae (ar (aE K) (aa 3) (tC (.int 0))) (ae (aa 4) ag))) ag)))
 (bz (cZ K "list" aO (aa 2) (ae (bq (ae (ar (aE K) (aa 3) (tC (.int 1))) (ae (Hs (rU λi=>.int (-i)) (aa 4)) ag))) ag))))
abbrev G5(K:Fg):TS:=(am (aw (bR ag) (al 2))
 (am (aW (qj K .L .L (ae (aa 0) (ae (aa 1) ag))) (cx K 2 (aX (al 3) (aX (al 4) cy)))
 (G4 K))
 (aG (aa 2))))
def KY{K:Fg}:ρ 5 (C_ K) (G5 K):=by
 fail "R";obtain⟨a,b,xs,row,w,rfl,ha,hb,lx,l1,qx,k⟩:=h;rw[L2.aP hN];walk_at "t";unfold G5;cbv;refine⟨by show 0<=sizeLine;exact RL _,λl nl=>?_⟩;have A1:AccZ K H l (upd H l (.lst [])) []:=AccZ.start (Same.refl _) nl;generalize upd H l (.lst [])=H1 at A1 ⊢;cbv;refine⟨a,b,xs,_,rfl,SqL.of (A1.same _ _ ha),SqL.of (A1.same _ _ hb),?_⟩;refine tm (n:=row.length) lx (by rw[Qx]) (λi σ H2=>∃u1 u2:Option V,σ=[⇑a,⇑b,⇑l,u1,u2]/\AccZ K H l H2 ((gI (wl w i) (row.take i)).map jV)) ⟨none,none,rfl,A1⟩ (λi σ H2 _ ⟨_,_,_,A⟩=>⟨SqL.of (A.same _ _ ha),SqL.of (A.same _ _ hb)⟩) ?_ ?_
 .rintro i x y σ H2 T hx hy ⟨u1,u2,rfl,A2⟩ nT;rw[QD] at hy;obtain⟨e,he,rfl⟩:=QG.mp hy;have li:=(QC.mp he).1;obtain⟨q,wp⟩:=qx i x hx;have S3:=ak nT (.tup [x,.int e]);have A3:=A2.on S3;have hT:upd H2 T (.tup [x,.int e]) T=some (.tup [x,.int e]):=aj;generalize upd H2 T (.tup [x,.int e])=H3 at S3 A3 hT ⊢;refine bP (SqT.of hT) rfl ?_;have nn:((w i).num.natAbs:Int)=(w i).num:=by lia
  have lw:(wl w i).length=(row.take i).length:=by unfold wl;rw[Qx,Ra,Q3];lia
  have ll:=qT lw;rw[Q3] at ll
  have em:(gI (wl w (i+1)) (row.take (i+1))).map jV=(gI (wl w i) (row.take i)).map jV++[jV ((w i).num.natAbs,e)]++[jV ((w i).den,-e)]:=by
   rw[QX,he,show wl w (i+1)=wl w i++[((w i).num.natAbs,(w i).den)] by unfold wl;rw[Tc,QJ];rfl,wV lw,QJ,R_];rfl
  cbv;refine⟨A3.ty,?_⟩;cbv;obtain⟨p,rfl,hp⟩:=q.same A3.same;refine aF hp (v:=.int (w i).num) rfl ?_;cbv;refine⟨aQ,λt nt=>?_⟩;have S4:=ak nt (.tup [.int (w i).num,.int e])
  have z4:Rz K (upd H3 t (.tup [.int (w i).num,.int e])) (.ref t) (jV ((w i).num.natAbs,e)):=by
   show Rz K _ _ (dI [((w i).num.natAbs:Int),e]);rw[nn];exact .tup aj (RpL.ints [_,_])
  have A4:=A3.on S4;generalize upd H3 t (.tup [.int (w i).num,.int e])=H4 at S4 z4 A4 ⊢;cbv;refine bV A4 z4 (av (by rw[Qx,ll];lia)) λH5 A5 _ _ _=>?_
  cbv;refine⟨A5.ty,?_⟩;cbv;obtain⟨p',e',hp'⟩:=(qx i _ hx).1.same A5.same;cases e';refine aF hp' (v:=.int ((w i).den:Int)) rfl ?_;cbv;refine⟨aQ,λt' nt'=>?_⟩;have S6:=ak nt' (.tup [.int ((w i).den:Int),.int (-e)]);have z6:Rz K (upd H5 t' (.tup [.int ((w i).den:Int),.int (-e)])) (.ref t') (jV ((w i).den,-e)):=.tup aj (RpL.ints [_,_]);have A6:=A5.on S6;generalize upd H5 t' (.tup [.int ((w i).den:Int),.int (-e)])=H6 at S6 z6 A6 ⊢;cbv;refine bV A6 z6 (av (by rw[QT,Qx,ll];show _+1<=_;lia)) λH7 A7 _ _ _=>?_
  cbv;exact⟨_,_,rfl,by rw[em];exact A7⟩
 .rintro σ H2 ⟨u1,u2,rfl,A2⟩;cbv;rw[Sa] at A2;exact k l H2 A2
open PySem L2 Fr G1 Sm Vs G2 Rk Sz Sf Rw Ti Lo Lc Tr
def Jx{a b:Nat}(ha:0<a)(hb:0<b):(a*b).log2<=a.log2+b.log2+1:=by
 have:a*b<2 ^ (a.log2+b.log2+2):=by
  rw[show a.log2+b.log2+2=(a.log2+1)+(b.log2+1) by lia,SO];exact Wa Z1 Z1
 have:=(Yu (UT (RB ha hb))).mpr this
 lia
def vc{c M:Nat}:∀{L:List Pr},(∀x∈L,0<x.1/\x.1<2 ^ c/\x.2.natAbs<=M)->gM L<=L.length*(M*c)/\0<bK (L.map (·.1))/\(bK (L.map (·.1))).log2<=L.length*(c+1)
 |[],_=>⟨RL _,by decide,by show Nat.log2 1<=0*(c+1);rw[VT];decide⟩
 |x :: L,h=>by
  obtain⟨a,b,e⟩:=vc (c:=c) (M:=M) (L:=L) λy hy=>h y (QL _ hy)
  obtain⟨x0,xc,xm⟩:=h x QK;have l:x.1.log2<=c:=TJ ((Yu (by lia)).mpr xc);refine⟨?_,RB x0 b,?_⟩
  .show x.2.natAbs*x.1.log2+gM L<=(L.length+1)*(M*c);rw[Uu]
   have:=Rt xm l
   lia
  .show(x.1*bK (L.map (·.1))).log2<=(L.length+1)*(c+1);rw[Uu]
   have:=Jx x0 b
   lia
def wU{P:Nat×Nat->Prop}{M:Nat}{x:Pr}:∀{W:List (Nat×Nat)} {R:List Int},(∀w∈W,P w)->(∀c∈R,c.natAbs<=M)->x∈gI W R->(∃w,P w/\(x.1=w.1\/x.1=w.2))/\x.2.natAbs<=M
 |w :: W,e :: R,hW,hR,h=>by
  rcases Q5.mp h with q|q
  .rw[q];exact⟨⟨w,hW w QK,.inl rfl⟩,hR e QK⟩
  .rcases Q5.mp q with q|q
   .rw[q];exact⟨⟨w,hW w QK,.inr rfl⟩,by show(-e).natAbs<=M;rw[Int.natAbs_neg];exact hR e QK⟩
   .exact wU (λy hy=>hW y (QL _ hy)) (λy hy=>hR y (QL _ hy)) q
 |[],_,_,_,h=>by cases h
 |_ :: _,[],_,_,h=>by cases h
structure iS (w:Nat) (ts:List Tn):Prop where
 co:Kh w ts
 h8:(aH ts).length<=8
 l8:(cQ ts).length<=8
 wide:Wide w (aH ts)
 bnd:Cp 2 (aH ts)
 nn:∀r∈aH ts,∀c∈r,0<=c
 pa:cE ts
abbrev wW (ts:List Tn):List (Nat×Nat):=wl (Wt ts) (aH ts).length
abbrev mks(ts:List Tn):List (List Int):=(Ob (dC ts)).makers
abbrev hJ(ts:List Tn):Prop:=∀j,As.Fine (aq ts) j
abbrev yK(K:Fg):Sp:=λvs H Q _=>∃(v:V) (ws:List Str) (ts:List Tn) (w:Nat),vs=[v]/\Rz K H v (dV ws ts)/\iS w ts /\
 (∀(i x y:Nat) (p:Addr) (H':Hp),(aq ts)[i]?=some (x,y)->(∀j<i,As.Fine (aq ts) j)->¬ Rch (aq ts) y x->Same H H'->H p=none->H' p=some (.tup [.bl false,.int (i:Int)])->Q (.ref p) H') /\
 (∀(j:Nat) (m:List Int) (p r:Addr) (H':Hp),hJ ts->(mks ts)[j]?=some m->(∀i<j,∀m',(mks ts)[i]?=some m'->One (wW ts) m')->¬ One (wW ts) m->Same H H'->H p=none->H r=none->H' p=some (.tup [.bl false,.ref r])->H' r=some (.lst (m.map V.int))->Q (.ref p) H') /\
 ∀(p f:Addr) (xs:List V) (H':Hp),hJ ts->(∀m∈mks ts,One (wW ts) m)->Same H H'->H p=none->H f=none->H' p=some (.tup [.bl true,.ref f])->H' f=some (.lst xs)->xs.length=(aH ts).length->(∀i x,xs[i]?=some x->QV K H' x (Wt ts i))->Q (.ref p) H'
def J9(pa:cE ts)(t8:ts.length<=8)(h8:(aH ts).length<=8){h:Nat}(hh:h<(aH ts).length):Bq 3900 (Wt ts h):=by
 have p1:=jY pa;refine e_ pa t8 (NQ pa t8 h8 hh) (Sd p1) (QW p1 (by decide)) ?_;unfold MM;exact Rt (by lia) (QW (RB (by decide) p1) (by decide))
nonrec abbrev fO(ts:List Tn):List Nat:=a5 (aH ts).length (aq ts)
def AC(hw:Wide w (aH ts)){j:Nat}(hj:j<(aH ts).length)(q:Nat) :
  pt ((dC ts).getD j []) q=if q<w then pt ((aH ts).getD j []) q else pt ((Lk.reps (fO ts)).map λv=>if at_ (fO ts) j=v then 1 else 0) (q-w):=by
 rw[EK,Qz,QD,RG hj];show pt (_++_) q=_;rw[Lk.Lr,Nc hw hj]
def Ln{l:List Nat}{a:Nat}:pt (l.map λv=>if a=v then (1:Int) else 0) q=if l[q]?=some a then 1 else 0:=by
 unfold pt;rw[Qz,QD];cases l[q]? with
 |none=>rfl
 |some v =>
  show(if a=v then (1:Int) else 0)=_;by_cases c:a=v
  .rw[if_pos c,if_pos (by rw[c])]
  .rw[if_neg c,if_neg λz=>c (Q7 z).symm]
def gm(o:iS w ts){m:List Int}(hm:m∈mks ts):m.length=(aH ts).length/\(∀q,bE m (dC ts) q=0)/\∀c∈m,c.natAbs<2 ^ 800:=by
 have hw:=kW o.wide;have hb:=qc o.bnd;have G:=(Mk.Mi hw (by decide) hb (dC ts).length (QH _)).good m hm;refine⟨G.len.trans (gu ts),G.nought,λc hc=>Re (G.bnd c hc) (QW (by decide) ?_)⟩;have h8:=o.h8;refine Q0 (show bits 2 _<=bits 2 8 from ?_) (by decide);unfold bits;exact Nat.sub_le_sub_right (Rh _ (QW (by decide) (Q0 (Vd _ _) (by rw[gu];exact h8)))) 1
def KW(o:iS w ts)(af:hJ ts){m:List Int}(lm:m.length=(aH ts).length)(bm:∀c∈m,c.natAbs<=2 ^ 800) :
  (∀x∈gI (wW ts) m,0<x.1/\x.1<2 ^ 8000)/\gM (gI (wW ts) m)<2 ^ 8000/\(gI (wW ts) m).length+(bK ((gI (wW ts) m).map (·.1))).log2<2 ^ 20:=by
 have h8:=o.h8;have lw:(wW ts).length=m.length:=by unfold wW wl;rw[Qx,Ra,lm]
 have ll:=qT lw
 have all:∀x∈gI (wW ts) m,0<x.1/\x.1<2 ^ 3900/\x.2.natAbs<=2 ^ 800:=λx hx=>by
  obtain⟨⟨u,⟨a,b,c,d⟩,e⟩,f⟩:=wU (P:=λu=>0<u.1/\0<u.2/\u.1<2 ^ 3900/\u.2<2 ^ 3900) (M:=2 ^ 800) (λu hu=>by
   unfold wW wl at hu
   obtain⟨i,hi,rfl⟩:=QU.mp hu
   have li:=Rb.mp hi
   have wb:=J9 o.pa o.co.le o.h8 li
   have wp:=fI o.pa (λe he=>by obtain⟨j,hj⟩:=RA he;exact af j e.1 e.2 hj) li
   exact⟨by show 0<(Wt ts i).num.natAbs;lia,RN (Wt ts i).den_nz,wb.1,wb.2⟩) bm hx
  rcases e with e|e <;> rw[e]
  .exact⟨a,c,f⟩
  .exact⟨b,d,f⟩
 obtain⟨t1,t2,t3⟩:=vc all;have p1:(2:Nat) ^ 3900<2 ^ 8000:=pw_lt (by decide);have p2:16*(2 ^ 800*3900)<(2:Nat) ^ 8000:=Re (by decide:16*(2 ^ 800*3900)<2 ^ 820) (QW (by decide) (by decide));refine⟨λx hx=>⟨(all x hx).1,RW (all x hx).2.1 p1⟩,Q4 (Q0 t1 (RC _ (by lia))) p2,?_⟩
 have:=RC (3900+1) (by lia:(gI (wW ts) m).length<=16)
 lia
def Qq(o:iS w ts)(af:hJ ts){m:List Int}(hm:m∈mks ts) :
  (∀x∈gI (wW ts) m,0<x.1/\x.1<2 ^ 8000)/\gM (gI (wW ts) m)<2 ^ 8000/\(gI (wW ts) m).length+(bK ((gI (wW ts) m).map (·.1))).log2<2 ^ 20:=by
 obtain⟨lm,_,bm⟩:=gm o hm;exact KW o af lm λc hc=>TJ (bm c hc)
nonrec abbrev C1(K:Fg):TS:=(am (aW (ce K (aD (sg K) [] E0 (ae (aa 0) ag))) (al 3)
 (aS (aR (ar wN (bo (bW K) (ae (aD (Pw.mM K) [] E0 (ae (aD (Pw.C_ K) [] E0 (ae (aa 2) (ae (aa 3) ag))) ag)) ag)) (tC (.int 0))))
 (aG (bq (ae (tC (.bl false)) (ae (aa 3) ag))))
 aV))
 (aG (bq (ae (tC (.bl true)) (ae (aa 2) ag)))))
abbrev ya(K:Fg):TS:=(am (aw (aD (As.mL K) [] E0 (ae (aa 0) ag)) (al 1))
 (am (aS (aR (ar Lg (aa 1) (tC .non)))
 (aG (bq (ae (tC (.bl false)) (ae (aa 1) ag))))
 aV)
 (am (aw (aD (mE K) [] E0 (ae (aa 0) ag)) (al 2))
 (C1 K))))
def Il{K:Fg}:ρ 4 (yK K) (ya K):=by
 fail "R";obtain⟨v,ws,ts,w,rfl,rv,o,k1,k2,k3⟩:=h;rw[L2.aP hN];walk_at "t";have t8:=o.co.le;have h8:=o.h8;unfold ya;cbv;refine⟨v,ws,ts,rfl,rv,by lia,λi x y he fi nr H1 S1=>?_,λaf H1 S1=>?_⟩
 .cbv;refine eN (λ_=>?_) (λz=>nomatch z);cbv;refine⟨aQ,λp np=>?_⟩;exact k1 i x y p _ he fi nr (S1.trans (ak np _)) (S1.free np) aj
 .have af:hJ ts:=af;cbv;refine eN (λz=>absurd rfl z) (λ_=>?_);cbv;refine⟨v,ws,ts,rfl,rv.same S1,t8,h8,o.pa,λf H2 xs nf S2 hf lf qf=>?_⟩;have S02:=S1.trans S2;cbv;refine⟨v,ws,ts,w,rfl,rv.same S02,o.co,h8,o.l8,o.wide,o.bnd,λpl H3 S3 r3=>?_⟩;have S03:=S02.trans S3;obtain⟨_,ys,e,_,hpl,ry⟩:=r3.kU;cases e;have ly:ys.length=(mks ts).length:=by rw[ry.length,Qx];rfl
  cbv;refine⟨pl,rfl,⟨ys,SqL.of hpl⟩,?_⟩;refine a_ (xs:=ys) (λj σ H4=>∃u:Option V,σ=[some v,some .non,⇑f,u]/\Same H3 H4/\∀i<j,∀m',(mks ts)[i]?=some m'->One (wW ts) m') ⟨none,rfl,Same.refl _,λi hi=>absurd hi (SU _)⟩ (by rintro i σ H4 _ ⟨_,_,S4,_⟩;exact SqL.of (S4 _ _ hpl)) ?_ ?_
  .rintro j y σ H4 hy ⟨u,rfl,S4,dn⟩;obtain⟨dd,g1,g2⟩:=ry.get hy;rw[QD] at g1;obtain⟨m,hm,rfl⟩:=QG.mp g1;have hm':(mks ts)[j]?=some m:=hm;have mem:=QI hm';obtain⟨r,zs,rfl,nr,hr,rz⟩:=g2.kU;rw[RpL.ints_of rz] at hr;obtain⟨lm,_,bm⟩:=gm o mem;obtain⟨a1,a2,a3⟩:=Qq o af mem;have bk:∀e∈aq ts,Rch (aq ts) e.2 e.1:=λe he=>by obtain⟨j,hj⟩:=RA he;exact af j e.1 e.2 hj
   cbv;refine⟨f,r,xs,m,Wt ts,rfl,S4 _ _ (S3 _ _ hf),S4 _ _ hr,by lia,by lia,λi x hx=>⟨((qf i x hx).same S3).same S4,fI o.pa bk (by have:=(QC.mp hx).1;lia)⟩,λq H5 A5=>?_⟩;obtain⟨zs5,h5,r5⟩:=A5.at_;rw[show wl (Wt ts) m.length=wW ts by rw[lm];rfl] at r5;cbv;refine⟨q,zs5,_,rfl,h5,r5,a1,a2,a3,λt H6 T A6 ap ne sf lt=>?_⟩;obtain⟨zs6,h6,r6⟩:=A6.at_;have l6:zs6.length=T.length:=by rw[r6.length,Qx]
   have on:=z_ (W:=wW ts) (R:=m) ap ne sf;cbv;refine b7 (SqL.of h6) ?_;rw[l6];cbv;have S06:=S03.trans (S4.trans (A5.same.trans A6.same));refine bb (λc=>?_) (λc=>?_)
   .have no : ¬ One (wW ts) m:=λz=>by rw[on.mp z] at c;simp at c
    cbv;refine⟨aQ,λp np=>?_⟩;have S7:=ak np (.tup [.bl false,.ref r]);exact k2 j m p r _ af hm' dn no (S06.trans S7) (S06.free np) (S02.free nr) aj (S7 _ _ (A6.same _ _ (A5.same _ _ (S4 _ _ hr))))
   .have ye:One (wW ts) m:=on.mpr (RS (by lia));cbv;refine⟨_,rfl,S4.trans (A5.same.trans A6.same),λi hi m' h'=>?_⟩;by_cases ij:i=j
    .rw[ij,hm'] at h';cases h';exact ye
    .exact dn i (by lia) m' h'
  .rintro σ H4 ⟨u,rfl,S4,dn⟩;cbv;refine⟨aQ,λp np=>?_⟩;have S04:=S03.trans S4;have S7:=ak np (.tup [.bl true,.ref f]);refine k3 p f xs _ af (λm hm=>?_) (S04.trans S7) (S04.free np) (S1.free nf) aj (S7 _ _ (S4 _ _ (S3 _ _ hf))) lf λi x hx=>(((qf i x hx).same S3).same S4).same S7
   obtain⟨i,hi⟩:=RA hm
   have:=(QC.mp hi).1
   exact dn i (by lia) m hi
def FC{f:Nat->Int}:∀{A:List (Nat×Nat)} {R:List Int} (x:Nat×Nat) (e:Int),A.length=R.length->vs f (A++[x]) (R++[e])=vs f A R+e*(f x.1-f x.2)
 |[],[],x,e,_=>by show e*_+0=0+e*_;lia
 |a :: A,c :: R,x,e,h=>by show c*_+vs f (A++[x]) (R++[e])=c*_+vs f A R+_;rw[FC x e (by simpa using h)];lia
open Bo (sm bY)
open Cl Mk
def An(o:iS w ts){m:List Int}(hm:m∈mks ts) :
  (∀s,s<w->sm (aH ts).length (λk=>pt ((aH ts).getD k []) s*pt m k)=0)/\∀k,k<(aH ts).length->sm (aH ts).length (λi=>if at_ (fO ts) i=at_ (fO ts) k then pt m i else 0)=0:=by
 obtain⟨lm,z,_⟩:=gm o hm;have F:=bX (bS ts)
 have e:∀q,sm (aH ts).length (λj=>pt ((dC ts).getD j []) q*pt m j)=0:=λq=>by
  rw[<- z q,<- yQ,Mb.FH,gu]
 refine⟨λs hs=>?_,λk hk=>?_⟩
 .exact Eq.trans (bY λj hj=>by rw[AC o.wide hj,if_pos hs]) (e s)
 .have mv:at_ (fO ts) k∈Lk.reps (fO ts):=by
   have kl:k<(fO ts).length:=by rw[F.len];exact hk
   exact Lk.EG.mpr ⟨Q4 (F.le k hk) kl,F.fix k hk⟩
  obtain⟨l,hl⟩:=RA mv;refine Eq.trans (bY λj hj=>?_) (e (w+l));rw[AC o.wide hj,if_neg (show ¬ w+l<w by lia),show w+l-w=l by lia,Ln,hl];by_cases c:at_ (fO ts) j=at_ (fO ts) k
  .rw[if_pos c,if_pos (by rw[c]),Va]
  .rw[if_neg c,if_neg λz=>c (Q7 z).symm,TL]
end Pw
namespace Pw
open PySem L2 Fr G1 Sm Vs G2 Rk Sz Sf Rw Ti Lo Lc Tr
open Bo (sm bY fR)
abbrev pr:Nat->(Nat->Rat)->Rat
 |0,_=>1
 |n+1,f=>pr n f*f n
abbrev hv(w:Nat)(u:Nat->Rat)(r:List Int):Rat:=pr w λs=>u s ^ (pt r s).toNat
def zC{f:Nat->Rat}:∀{n:Nat},(∀s,s<n->0<f s)->0<pr n f
 |0,_=>by show(0:Rat)<1;decide
 |n+1,h=>TB (zC λs hs=>h s (by lia)) (h n (by lia))
def Kr{g:Nat->Int}(hg:Add g){f:Nat->Rat}:∀{n:Nat},(∀s,s<n->0<f s)->Ev.vr g (pr n f)=sm n λs=>Ev.vr g (f s)
 |0,_=>Ev.kI hg
 |n+1,h=>by
  show Ev.vr g (pr n f*f n)=_;rw[Ev.fE hg (zC λs hs=>h s (by lia)) (h n (by lia)),Kr hg λs hs=>h s (by lia)];rfl
def Na{u:Nat->Rat}(up:∀s,0<u s)(r:List Int):0<hv w u r:=zC λs _=>(Ev.tZ (f:=λ_=>0) ⟨λ_ _ _ _=>rfl⟩ (up s) _).1
abbrev Er(t:Tn):Rat:=Q9 t.q t.d
inductive Co (w:Nat) (u:Nat->Rat):List Tn->Prop
 |nil:Co w u []
 |cons (x y:Tn) (ts:List Tn):y.fr=x.to->y.to=x.fr->Er x*hv w u x.fr=Er y*hv w u y.fr->Co w u ts->Co w u (ts++[x,y])
def F_{α:Type}{F:α->Rat}{G:Nat->Rat}{l:List α}(h:∀k x,l[k]?=some x->G k=F x):ls (QR l.length) G=ls l F:=by
 unfold ls;congr 1;refine VO λi=>?_
 rw[QD,QD];by_cases c:i<l.length
 .rw[RG c,Qy c];exact congrArg some (h i _ (Qy c))
 .rw[RD (by rw[Ra];lia),RD (by lia)];rfl
def BV{r:List Int}(h:Co w u ts):ls ts (λt=>if t.to=r then Er t*hv w u t.fr else 0)=ls ts λt=>if t.fr=r then Er t*hv w u t.fr else 0:=by
 induction h with
 |nil=>rfl
 |cons x y ts e1 e2 e3 _ ih =>
  rw[p_,p_,ih];congr 1;rw[a7,a7,uJ,a7,a7,uJ,e2,e1,<- e1,<- e3,e1];rw[UA,UA,Rat.add_comm]
def ve{ts:List Tn}{k:Nat}{t:Tn}(h:ts[k]?=some t):fro (aq ts) k=ix (aH ts) t.fr/\tow (aq ts) k=ix (aH ts) t.to/\cP ts k=Er t:=by
 unfold fro tow cP;rw[Qz,h];unfold aq;rw[QD,h];exact⟨rfl,rfl,rfl⟩
def ET{x:List Int}(hx:x∈aH ts){j:Nat}(hj:j<(aH ts).length):ix (aH ts) x=j↔x=(aH ts).getD j []:=by
 constructor
 .intro e;rw[<- e,tf hx]
 .intro e;have a:=AN hx;have b:(aH ts)[j]?=some x:=by rw[e,Qz,Qy hj];rfl
  obtain⟨l1,e1⟩:=QC.mp a;obtain⟨l2,e2⟩:=QC.mp b;have i1:=XC (qm ts) _ l1;have i2:=XC (qm ts) _ l2;rw[e1] at i1;rw[e2] at i2;lia
def NL(h:Co w u ts):Qc (aq ts) (cP ts) (λh=>hv w u ((aH ts).getD h [])) (aH ts).length:=by
 intro j hj;have le:(aq ts).length=ts.length:=by unfold aq;rw[Qx]
 have mem:∀t∈ts,t.fr∈aH ts/\t.to∈aH ts:=λt ht=>dF (hs:=[]) ht
 rw[c7,c7,le];rw[F_ (F:=λt=>if t.to=(aH ts).getD j [] then Er t*hv w u t.fr else 0) λk t ht=>?_,F_ (F:=λt=>if t.fr=(aH ts).getD j [] then Er t*hv w u t.fr else 0) λk t ht=>?_]
 .exact BV h
 .obtain⟨e1,e2,e3⟩:=ve ht;have m:=mem t (QI ht);show(if (_ == j)=true then cP ts k*hv w u ((aH ts).getD (fro (aq ts) k) []) else 0)=_;rw[e1,e3,tf m.1];by_cases c:t.fr=(aH ts).getD j []
  .rw[if_pos c,if_pos (by rw[(ET m.1 hj).mpr c];simp)]
  .rw[if_neg c,if_neg λz=>c ((ET m.1 hj).mp (by simpa using z))]
 .obtain⟨e1,e2,e3⟩:=ve ht;have m:=mem t (QI ht);show(if (_ == j)=true then cP ts k*hv w u ((aH ts).getD (fro (aq ts) k) []) else 0)=_;rw[e1,e2,e3,tf m.1];by_cases c:t.to=(aH ts).getD j []
  .rw[if_pos c,if_pos (by rw[(ET m.2 hj).mpr c];simp)]
  .rw[if_neg c,if_neg λz=>c ((ET m.2 hj).mp (by simpa using z))]
def GV{f:Nat->Int}{w:Nat->Rat}{m:List Int}:∀n,n<=m.length->vs f (wl w n) (m.take n)=sm n λk=>pt m k*Ev.vr f (w k)
 |0,_=>rfl
 |n+1,h=>by
  have e:m[n]?=some m[n]:=Qy h;have lw:(wl w n).length=(m.take n).length:=by unfold wl;rw[Qx,Ra,Q3];lia
  rw[QX,e,show wl w (n+1)=wl w n++[((w n).num.natAbs,(w n).den)] by unfold wl;rw[Tc,QJ];rfl,show(some m[n]).toList=[m[n]] from rfl,FC _ _ lw,GV n (by lia)];show _+_=_+pt m n*_;rw[show pt m n=m[n] by unfold pt;rw[Qz,e];rfl];rfl
def Fa{u:Nat->Rat}(o:iS w ts)(af:hJ ts)(up:∀s,0<u s)(h:Co w u ts):∀m∈mks ts,One (wW ts) m:=by
 intro m hm p hp;obtain⟨lm,_,_⟩:=gm o hm;obtain⟨cs,cl⟩:=An o hm;have F:=bX (bS ts);have le:(aq ts).length=ts.length:=by unfold aq;rw[Qx]
 have bk:∀e∈aq ts,Rch (aq ts) e.2 e.1:=λe he=>by obtain⟨j,hj⟩:=RA he;exact af j e.1 e.2 hj
 have Wp:∀k,k<(aH ts).length->0<Wt ts k:=λk hk=>fY.mp (fI o.pa bk hk)
 have ok:=bS ts;have ok':∀k,k<(aq ts).length->fro (aq ts) k<(aH ts).length/\tow (aq ts) k<(aH ts).length:=λk hk=>ok _ (tt hk)
 have vv:∀k,0<hv w u ((aH ts).getD k []):=λk=>Na up _
 have key:vs (λn=>(bD p n:Int)) (wW ts) m=sm (aH ts).length λk=>pt m k*Ev.vr (λn=>(bD p n:Int)) (Wt ts k):=by
  have:=GV (f:=λn=>(bD p n:Int)) (w:=Wt ts) (m:=m) (aH ts).length (by lia)
  rw[QM (by lia)] at this;exact this
 rw[key];refine Ev.E_ hp.add (S:=w) (N:=(aH ts).length) (v:=λk=>hv w u ((aH ts).getD k [])) (w:=u) (h:=λk s=>(pt ((aH ts).getD k []) s).toNat) (lot:=at_ (fO ts)) Wp (λk _=>vv k) (λk hk=>?_) (λk hk=>Q4 (F.le k hk) hk) (λk k' hk hk' e=>?_) (λl hl=>?_) λs hs=>?_
 .show Ev.vr _ (pr w _)=_;rw[Kr hp.add λs _=>(Ev.tZ hp.add (up s) _).1];refine bY λs _=>?_
  rw[(Ev.tZ hp.add (up s) _).2,TK]
 .obtain⟨c,hc⟩:=Qn (u:=Wt ts) (v:=λk=>hv w u ((aH ts).getD k [])) ok' (λk hk=>FY o.pa (by lia)) (λk hk=>zm (bk _ (tt hk))) (λj hj=>PZ hj) (NL h) (λk _=>vv k) hk;obtain⟨n1,p1⟩:=zm (qD bk ((F.tied hk hk').mp e));rw[hc k 0 rfl,hc k' n1 p1,Rr,Rr,Vh (hv w u ((aH ts).getD k []))]
 .by_cases c:∃k,k<(aH ts).length/\at_ (fO ts) k=l
  .obtain⟨k,hk,rfl⟩:=c;exact cl k hk
  .exact fR λk hk=>if_neg λz=>c ⟨k,hk,z⟩
 .refine Eq.trans (bY λk hk=>?_) (cs s hs);show(((pt ((aH ts).getD k []) s).toNat:Nat):Int)*_=_
  have nn:0<=pt ((aH ts).getD k []) s:=by
   rw[Qz,Qy hk];show 0<=pt (aH ts)[k] s;unfold pt;rw[Qz];cases e:(aH ts)[k][s]? with
   |none=>exact Z8 0
   |some c=>exact o.nn _ (Ry hk) c (QI e)
  rw[show(((pt ((aH ts).getD k []) s).toNat:Nat):Int)=pt ((aH ts).getD k []) s by lia]
end Pw
namespace Pw
open PySem L2 Fr G1 Sm Vs G2 Rk Sz Sf Rw Ti Lo Lc Tr
open PySem.W (Dat kqdOk)
abbrev Fq(M:Nat)(x:Rat):Prop:=∃n d:Nat,0<n/\0<d/\x=Q9 n d/\n<=M/\d<=M
def Fq.low(h:Fq M x):0<x.num/\x.num.natAbs<=M/\x.den<=M:=by
 obtain⟨n,d,n0,d0,rfl,hn,hd⟩:=h;have dn:(d:Int)≠0:=by lia
 have e:(Q9 n d).num*(d:Int)=n*((Q9 n d).den:Int):=by
  have:=RO (Q9 (n:Int) (d:Int))
  exact(Si (by have:=(Q9 (n:Int) (d:Int)).den_nz;lia) dn).mp this
 have dp:0<(Q9 (n:Int) (d:Int)).den:=RN (Q9 (n:Int) (d:Int)).den_nz;have cp:=(Q9 (n:Int) (d:Int)).reduced;generalize hN:(Q9 (n:Int) (d:Int)).num=N at *;generalize hD:(Q9 (n:Int) (d:Int)).den=D at *
 have N0:0<N:=by
  by_cases z:0<N
  .exact z
  .have:=Int.mul_le_mul_of_nonneg_right (by lia:N<=0) (by lia:(0:Int)<=d)
   have:=Xq (by lia:(0:Int)<n) (by lia:(0:Int)<D)
   lia
 have e2:N.natAbs*d=n*D:=by
  have:=congrArg Yb e
  rwa [RM,RM,Q2,Q2,Q2] at this
 have q1:N.natAbs∣n:=SQ.dvd_of_dvd_mul_right cp ⟨d,e2.symm⟩;have q2:D∣d:=VW cp.symm ⟨n,by rw[e2,Se]⟩;exact⟨N0,Q0 (TM n0 q1) hn,Q0 (TM d0 q2) hd⟩
def Fq.mul(h:Fq M x)(k:Fq N y):Fq (M*N) (x*y):=by
 obtain⟨n,d,n0,d0,rfl,hn,hd⟩:=h;obtain⟨a,b,a0,b0,rfl,ha,hb⟩:=k;exact⟨n*a,d*b,RB n0 a0,RB d0 b0,by rw[Ss,Rs,Rs],Rt hn ha,Rt hd hb⟩
def Fq.pow{M:Nat}{x:Rat}(h:Fq M x):∀k,Fq (M ^ k) (x ^ k)
 |0=>⟨1,1,by decide,by decide,by rw[Vi];rfl,by simp,by simp⟩
 |k+1=>by rw[UX,SJ];exact(Fq.pow h k).mul h
def Fq.up{N:Nat}(h:Fq M x)(l:M<=N):Fq N x:=by
 obtain⟨n,d,n0,d0,e,hn,hd⟩:=h;exact⟨n,d,n0,d0,e,Q0 hn l,Q0 hd l⟩
def Fq.bits{c:Nat}(h:Fq M x)(l:M<2 ^ c):Bq c x:=⟨Q4 h.low.2.1 l,Q4 h.low.2.2 l⟩
abbrev gh(K:Fg):Sp:=λvs H Q _=>∃(v:V) (c:Addr) (x:Rat) (a b:Nat),vs=[v,.ref c]/\QV K H v x/\SqT K H c [.int (a:Int),.int (b:Int)]/\0<b/\a<=4/\b<=4/\Bq 3900 x/\∀(p:Addr) (H':Hp),Same H H'->Rz K H' (.ref p) (dQ (x*Q9 a b))->Q (.ref p) H'
abbrev sk(K:Fg):Sp:=λvs H Q _=>∃(a:Addr) (ns:List Int) (t:Int),vs=[.ref a,.int t]/\SqL K H a (ns.map V.int)/\0<=t/\∀(p:Addr) (H':Hp) (ws:List Str) (ts:List Tn) (u:Nat->Rat),Same H H'->oz ws ts->Co ws.length u ts->(∀s,0<u s)->Rz K H' (.ref p) (dV ws ts)->Q (.ref p) H'
abbrev dW(x:Nat×Nat):Dat:=dI [(x.1:Int),(x.2:Int)]
abbrev Od(W:List (Nat×Nat)):Prop:=∀x∈W,0<x.1/\0<x.2/\x.1<=4/\x.2<=4
abbrev uO(W:List (Nat×Nat))(s:Nat):Rat:=Q9 (W.getD s (1,1)).1 (W.getD s (1,1)).2
abbrev dE(x:List Int×List Int):Dat:=.tuple [dI x.1,dI x.2]
abbrev BR(u:Nat->Rat)(p:Rat)(t g:List Int)(j:Nat):Rat:=p*pr j λs=>u s ^ (pt t s).toNat*(u s)⁻¹ ^ (pt g s).toNat
def wA{W:List (Nat×Nat)}(wo:Od W)(s:Nat):Fq 4 (uO W s)/\Fq 4 (uO W s)⁻¹/\uO W s*(uO W s)⁻¹=1:=by
 have h:0<(W.getD s (1,1)).1/\0<(W.getD s (1,1)).2/\(W.getD s (1,1)).1<=4/\(W.getD s (1,1)).2<=4:=by
  rw[Qz];cases e:W[s]? with
  |none=>exact⟨by decide,by decide,by decide,by decide⟩
  |some x=>exact wo x (QI e)
 obtain⟨a,b,c,d⟩:=h;unfold uO;generalize (W.getD s (1,1)).1=m at *;generalize (W.getD s (1,1)).2=n at *;have e:(Q9 (m:Int) (n:Int))⁻¹=Q9 (n:Int) (m:Int):=Xa _ _;have F:Fq 4 (Q9 (m:Int) (n:Int)):=⟨m,n,a,b,rfl,c,d⟩
 refine⟨F,by rw[e];exact⟨n,m,b,a,rfl,d,c⟩,Zg _ λz=>?_⟩
 have:=F.low.1
 rw[z] at this;exact absurd this (by decide)
def mW{x y:Rat}(h:x*y=1):∀k:Nat,x ^ k*y ^ k=1
 |0=>by rw[Vi,Vi,SR]
 |k+1=>by
  rw[UX,UX,Rr,<- Rr x,Vh x (y ^ k),Rr (y ^ k),h,SR,mW h k]
def mU(x:Rat)(a:Nat):∀b:Nat,x ^ (a+b)=x ^ a*x ^ b
 |0=>by rw[Nat.add_zero,Vi,SR]
 |b+1=>by rw[<- Nat.add_assoc,UX,mU x a b,UX,Rr]
def PL{x y:Rat}(h:x*y=1)(fx:Fq 4 x)(fy:Fq 4 y){a b:Nat}(ha:a<=3)(hb:b<=3):Fq 64 (x ^ a*y ^ b):=by
 by_cases c:b<=a
 .obtain⟨k,rfl⟩:∃k,a=k+b:=⟨a-b,by lia⟩
  rw[mU,Rr,mW h,SR];exact(fx.pow k).up (Q0 (QW (by decide) (by lia:k<=3)) (by decide))
 .obtain⟨k,rfl⟩:∃k,b=a+k:=⟨b-a,by lia⟩
  rw[mU,<- Rr,mW h,Tj];exact(fy.pow k).up (Q0 (QW (by decide) (by lia:k<=3)) (by decide))
def J3{W:List (Nat×Nat)}(wo:Od W){P:Rat}(fp:Fq 6 P){t g:List Int}(ht:∀s,(pt t s).toNat<=3)(hg:∀s,(pt g s).toNat<=3):∀j,Fq (6*64 ^ j) (BR (uO W) P t g j)
 |0=>by
  show Fq (6*1) (P*1);rw[SR];exact fp
 |j+1=>by
  show Fq _ (P*(pr j _*_));rw[<- Rr,SJ,<- RF];exact(J3 wo fp ht hg j).mul (PL (wA wo j).2.2 (wA wo j).1 (wA wo j).2.1 (ht j) (hg j))
def Nz{W:List (Nat×Nat)}(wo:Od W)(P:Rat)(t g:List Int):∀w,P*hv w (uO W) t=BR (uO W) P t g w*hv w (uO W) g
 |0=>by show P*1=P*1*1;rw[SR,SR]
 |w+1=>by
  have ih:=Nz wo P t g w;show P*(hv w (uO W) t*uO W w ^ (pt t w).toNat)=P*((pr w λs=>uO W s ^ (pt t s).toNat*(uO W s)⁻¹ ^ (pt g s).toNat)*(uO W w ^ (pt t w).toNat*(uO W w)⁻¹ ^ (pt g w).toNat))*(hv w (uO W) g*uO W w ^ (pt g w).toNat);have e:=mW (wA wo w).2.2 (pt g w).toNat;generalize uO W w ^ (pt t w).toNat=A;generalize uO W w ^ (pt g w).toNat=B at e ⊢;generalize (uO W w)⁻¹ ^ (pt g w).toNat=C at e ⊢;have ih':P*hv w (uO W) t=P*(pr w λs=>uO W s ^ (pt t s).toNat*(uO W s)⁻¹ ^ (pt g s).toNat)*hv w (uO W) g:=ih;generalize (pr w λs=>uO W s ^ (pt t s).toNat*(uO W s)⁻¹ ^ (pt g s).toNat)=R at ih' ⊢;generalize hv w (uO W) t=X at ih' ⊢;generalize hv w (uO W) g=Y at ih' ⊢;rw[<- Rr,ih']
  calc P*R*Y*A=P*R*Y*A*(B*C):=by rw[e,SR]
   _=P*(R*(A*C))*(Y*B):=by
    simp only[Rr,Vh,OP]
structure RI (w:Nat) (u:Nat->Rat) (hs:List (List Int)) (ts:List Tn) (i:Nat) (R:List Tn):Prop where
 prs:Co w u R
 len:R.length<=6
 nd:(R.map b_).Nodup
 ok:∀t∈R,TurnOk hs t
 rev:∀t∈R,(t.to,t.fr)∈R.map b_
 src:∀t∈R,b_ t∈(ts.take i).map b_\/(t.to,t.fr)∈(ts.take i).map b_
 ne:0<i->R≠[]
def RI.start(w:Nat)(u:Nat->Rat)(hs:List (List Int))(ts:List Tn):RI w u hs ts 0 [] :=
 ⟨.nil,by decide,To,λ_ h=>(by cases h),λ_ h=>(by cases h),λ_ h=>(by cases h),λh=>absurd h (by decide)⟩
def t_{α:Type}{l:List α}{x:α}(h:x∈l.take i):x∈l.take (i+1):=by rw[QX];exact Rc _ h
def RI.skip(h:RI w u hs ts i R)(n:R≠[]):RI w u hs ts (i+1) R:=by
 refine⟨h.prs,h.len,h.nd,h.ok,h.rev,λt ht=>?_,λ_=>n⟩;rcases h.src t ht with z|z
 .obtain⟨x,hx,e⟩:=QU.mp z;exact .inl (QU.mpr ⟨x,t_ hx,e⟩)
 .obtain⟨x,hx,e⟩:=QU.mp z;exact .inr (QU.mpr ⟨x,t_ hx,e⟩)
def RI.add(h:RI w u hs ts i R)(ndT:(ts.map b_).Nodup){t:Tn}(ht:ts[i]?=some t)(no:(t.to,t.fr)∉R.map b_)(l5:R.length<5)
  (ex:b_ x=(t.fr,t.to)) (ey:b_ y=(t.to,t.fr)) (ox:TurnOk hs x) (oy:TurnOk hs y) (b:Er x*hv w u x.fr=Er y*hv w u y.fr):RI w u hs ts (i+1) (R++[x,y]):=by
 have x1:x.fr=t.fr:=congrArg Ws ex;have x2:x.to=t.to:=congrArg VS ex;have y1:y.fr=t.to:=congrArg Ws ey;have y2:y.to=t.fr:=congrArg VS ey;have ne:t.fr≠t.to:=by have:=ox.2.2.1;rwa [x1,x2] at this
 have no2:(t.fr,t.to)∉R.map b_:=λz=>by
  obtain⟨r,hr,er⟩:=QU.mp z
  have:=h.rev r hr
  rw[show r.to=t.to from congrArg VS er,show r.fr=t.fr from congrArg Ws er] at this;exact no this
 have me:(t.fr,t.to)∈(ts.take (i+1)).map b_:=by
  rw[QX,ht,QJ];exact Q6 _ (QK)
 refine⟨.cons x y R (by rw[y1,x2]) (by rw[y2,x1]) b h.prs,by rw[QT];show R.length+2<=6;lia,?_,λz hz=>?_,λz hz=>?_,λz hz=>?_,λ_ z=>by have:=congrArg Sr z;rw[QT] at this;simp at this⟩
 .rw[QJ,U5];refine⟨h.nd,?_,λp hp q hq e=>?_⟩
  .show[b_ x,b_ y].Nodup;rw[ex,ey];refine RH.mpr ⟨λz=>ne (congrArg Ws (QY.mp z)),by simp⟩
  .have hq':q∈[b_ x,b_ y]:=hq;rw[ex,ey] at hq';subst e;rcases Q5.mp hq' with z|z
   .rw[z] at hp;exact no2 hp
   .rw[QY.mp z] at hp;exact no hp
 .rcases Q8.mp hz with k|k
  .exact h.ok z k
  .rcases Q5.mp k with k|k
   .rw[k];exact ox
   .rw[QY.mp k];exact oy
 .rw[QJ];rcases Q8.mp hz with k|k
  .exact Rc _ (h.rev z k)
  .refine Q6 _ ?_;show _∈[b_ x,b_ y];rw[ex,ey];rcases Q5.mp k with k|k
   .rw[k,x1,x2];simp
   .rw[QY.mp k,y1,y2];simp
 .rcases Q8.mp hz with k|k
  .rcases (h.skip (λz=>by rw[z] at k;cases k)).src z k with q|q
   .exact .inl q
   .exact .inr q
  .rcases Q5.mp k with k|k
   .rw[k,ex];exact .inl me
   .rw[QY.mp k,y1,y2];exact .inr me
nonrec abbrev x_ (K:Fg):TS:=(am (bz (cZ K "list" aO (aa 5) (ae (bq (ae (ar aZ (tC (.int 1)) (ar aU (aa 3) (tC (.int 4)))) (ae (ar aZ (tC (.int 1)) (ar aU (ar cg (aa 3) (tC (.int 4))) (tC (.int 3)))) ag))) ag)))
 (aw (ar cg (aa 3) (tC (.int 12))) (al 3)))
nonrec abbrev x9(K:Fg):TS:=(aW (ck (ae (ar (aE K) (aa 9) (aa 12)) ag)) (al 6)
 (aw (aD (Pw.gh K) [] E0 (ae (aa 11) (ae (bq (ae (ar (aE K) (ar (bJ K) (aa 5) (aa 12)) (tC (.int 1))) (ae (ar (aE K) (ar (bJ K) (aa 5) (aa 12)) (tC (.int 0))) ag))) ag))) (al 11)))
nonrec abbrev x8(K:Fg):TS:=(am (aW (ck (ae (aa 4) ag)) (al 12)
 (am (aW (ck (ae (ar (aE K) (aa 8) (aa 12)) ag)) (al 6)
 (aw (aD (Pw.gh K) [] E0 (ae (aa 11) (ae (ar (bJ K) (aa 5) (aa 12)) ag))) (al 11)))
 (x9 K)))
 (am (bz (cZ K "list" aO (aa 7) (ae (bq (ae (aa 8) (ae (aa 9) (ae (aa 10) ag)))) ag)))
 (bz (cZ K "list" aO (aa 7) (ae (bq (ae (aa 9) (ae (aa 8) (ae (aa 11) ag)))) ag)))))
nonrec abbrev x6(K:Fg):TS:=(am (aw (aD (ib K) [] E0 (ae (ar aZ (tC (.int 1)) (ar aU (ar (aE K) (aa 10) (tC (.int 0))) (tC (.int 6)))) (ae (ar aZ (tC (.int 1)) (ar aU (ar (aE K) (aa 10) (tC (.int 1))) (tC (.int 5)))) ag))) (al 10))
 (am (aw (aa 10) (al 11))
 (x8 K)))
nonrec abbrev x5(K:Fg):TS:=(aS (mB (aR (ar (kx K true) (bq (ae (aa 9) (ae (aa 8) ag))) (fA (ce K (aa 7)) (bq (ae (ar (aE K) (aa 0) (tC (.int 0))) (ae (ar (aE K) (aa 0) (tC (.int 1))) ag)))))) (aR (ar wM (bo (bW K) (ae (aa 7) ag)) (tC (.int 5)))))
 (x6 K)
 aV)
nonrec abbrev x4(K:Fg):TS:=(am (aW (qk K (ar (aE K) (aa 2) (tC (.int 1)))) (cx K 3 (aX (al 8) (aX (al 9) (aX (al 10) cy))))
 (x5 K))
 (aG (bq (ae (ar (aE K) (aa 2) (tC (.int 0))) (ae (bo (cC K) (ae (aa 7) ag)) ag)))))
nonrec abbrev xZ(K:Fg):TS:=(am (aw (bo (bW K) (ae (ar (aE K) (aa 2) (tC (.int 0))) ag)) (al 4))
 (am (aw (bR ag) (al 5))
 (am (aW (ck (ae (aa 4) ag)) (al 6)
 (x_ K))
 (am (aw (bR ag) (al 7))
 (x4 K)))))
abbrev rJ(K:Fg):TS:=(am (aw (aD (yz K) [] E0 (ae (aa 0) (ae (aa 1) ag))) (al 2))
 (am (aw (aD dH [] E0 (ae (aD (c6 K) [] E0 (ae (aa 0) (ae (aa 1) ag))) (ae (tC (.int 2)) ag))) (al 3))
 (xZ K)))
def DY{K:Fg}:ρ 13 (sk K) (rJ K):=by
 fail "R";obtain⟨a,ns,t,rfl,hS,t0,k⟩:=h;rw[L2.aP hN];walk_at "t";unfold rJ;cbv;refine⟨a,ns,t,rfl,hS,t0,λp H1 ws ts S1 vo rv=>?_⟩;obtain⟨hs,po,hs8,tk⟩:=vo.turns;obtain⟨_,v1,v2,e0,hp,r1,r2⟩:=iO rv;cases e0;obtain⟨c1,ws1,rfl,hc1,rw1⟩:=r1.b5;obtain⟨c2,ts1,rfl,hc2,rt2⟩:=r2.b5;have lw1:ws1.length=ws.length:=by rw[rw1.length,Qx]
 have lt1:ts1.length=ts.length:=by rw[rt2.length,Qx]
 have w1:=vo.w1;have w5:=vo.w5;have t8:=tk.le;cbv;refine⟨a,ns,t,rfl,S1.seq hS,t0,?_⟩;cbv;refine⟨_,2,rfl,by decide,by decide,λc hc=>?_⟩;cbv;refine aF (SqT.of hp) (v:=.ref c1) rfl ?_;cbv;refine ik (SqT.of hc1) ?_;rw[lw1];cbv;refine⟨by show 0<=sizeLine;exact RL _,λl nl=>?_⟩;have A1:AccZ K H1 l (upd H1 l (.lst [])) (([]:List (Nat×Nat)).map dW):=AccZ.start (Same.refl _) nl;generalize upd H1 l (.lst [])=H2 at A1 ⊢;cbv;rw[RJ];refine aT (n:=ws.length) (λj σ H3=>∃(c:Int) (u6:Option V) (W:List (Nat×Nat)),σ=[⇑a,↥t,⇑p,↥c,↥(ws.length:Int),⇑l,u6,none,none,none,none,none,none]/\0<=c/\Od W/\W.length=j/\AccZ K H1 l H3 (W.map dW)) ⟨c,none,[],rfl,hc.1,λ_ h=>(by cases h),rfl,A1⟩ ?_ ?_
 .rintro j σ H3 hj ⟨c,u6,W,rfl,c0,wo,lW,A3⟩;rw[T0];cbv;refine⟨A3.ty,?_⟩;cbv;refine⟨aQ,λq nq=>?_⟩;have S4:=ak nq (.tup [.int (1+c % 4),.int (1+c / 4 % 3)])
  have z4:Rz K (upd H3 q (.tup [.int (1+c % 4),.int (1+c / 4 % 3)])) (.ref q) (dW ((1+c % 4).toNat,(1+c / 4 % 3).toNat)):=by
   show Rz K _ _ (dI [(((1+c % 4).toNat:Nat):Int),(((1+c / 4 % 3).toNat:Nat):Int)]);rw[show(((1+c % 4).toNat:Nat):Int)=1+c % 4 by lia,show(((1+c / 4 % 3).toNat:Nat):Int)=1+c / 4 % 3 by lia];exact .tup aj (RpL.ints [_,_])
  have A4:=A3.on S4;generalize upd H3 q (.tup [.int (1+c % 4),.int (1+c / 4 % 3)])=H4 at S4 z4 A4 ⊢;cbv;refine bV A4 z4 (av (by rw[Qx];lia)) λH5 A5 _ _ _=>?_
  cbv;refine⟨c / 12,_,W++[((1+c % 4).toNat,(1+c / 4 % 3).toNat)],rfl,by lia,λx hx=>?_,by rw[QT,lW];rfl,by rw[QJ];exact A5⟩;rcases Q8.mp hx with h|h
  .exact wo x h
  .rw[QY.mp h];exact⟨by show 0<(1+c % 4).toNat;lia,by show 0<(1+c / 4 % 3).toNat;lia,by show(1+c % 4).toNat<=4;lia,by show(1+c / 4 % 3).toNat<=4;lia⟩
 .rintro σ H3 ⟨c,u6,W,rfl,c0,wo,lW,A3⟩;obtain⟨xw,hl,rW⟩:=A3.at_;have S03:=S1.trans A3.same;cbv;refine⟨by show 0<=sizeLine;exact RL _,λr nr=>?_⟩;have B1:AccZ K H3 r (upd H3 r (.lst [])) (([]:List Tn).map dT):=AccZ.start (Same.refl _) nr;generalize upd H3 r (.lst [])=H4 at B1 ⊢;cbv;refine aF (SqT.of (B1.same _ _ (A3.same _ _ hp))) (v:=.ref c2) rfl ?_;cbv;have hc24:=B1.same _ _ (A3.same _ _ hc2);have up:∀s,0<uO W s:=λs=>fY.mp (wA wo s).1.low.1
  refine⟨c2,rfl,⟨_,SqT.of hc24⟩,?_⟩
  refine tq (xs:=ts1) (λi σ H5=>∃(R:List Tn) (u6 u8 u9 u10 u11 u12:Option V),σ=[⇑a,↥t,⇑p,↥c,↥(ws.length:Int),⇑l,u6,⇑r,u8,u9,u10,u11,u12]/\AccZ K H3 r H5 (R.map dT)/\RI ws.length (uO W) hs ts i R)
   ⟨[],u6,none,none,none,none,none,rfl,B1,RI.start _ _ _ _⟩ (by rintro i σ H5 _ ⟨R,_,_,_,_,_,_,_,B,_⟩;exact SqT.of (B.same _ _ (A3.same _ _ hc2))) ?_ ?_
  .rintro i x σ H5 hx ⟨R,u6,u8,u9,u10,u11,u12,rfl,B5,ri⟩;obtain⟨dd,g1,g2⟩:=rt2.get hx;rw[QD] at g1;obtain⟨tn,htn,rfl⟩:=QG.mp g1;have otn:=tk.ok tn (QI htn);have g5:=(g2.same A3.same).same B5.same;obtain⟨q,_,_,_,rfl,hq,q1,q2,q3⟩:=jU g5;obtain⟨b1,rfl,hb1⟩:=bM q1;obtain⟨b2,rfl,hb2⟩:=bM q2;obtain⟨b3,rfl,hb3⟩:=bM q3;refine bP (SqT.of hq) rfl ?_;cbv;refine⟨aQ,λT nT=>?_⟩;have S6:=ak nT (.tup [.ref b2,.ref b1]);have zT:Rz K (upd H5 T (.tup [.ref b2,.ref b1])) (.ref T) (dE (tn.to,tn.fr)):=.tup aj (.cons (q2.same S6) (.cons (q1.same S6) .nil));have B6:=B5.on S6;generalize upd H5 T (.tup [.ref b2,.ref b1])=H6 at S6 zT B6 ⊢;obtain⟨xr,hr,rR⟩:=B6.at_;have lR:xr.length=R.length:=by rw[rR.length,Qx]
   have R6:=ri.len;cbv;refine sX (SqL.of hr) ?_;refine df (xs:=xr) λD nD=>⟨λj H7=>AccZ K H6 D H7 ((R.take j).map λt=>dE (b_ t)),AccZ.start (Same.refl _) nD,λj H7 _ A=>SqL.of (A.same _ _ hr),?_,?_⟩
   .intro j y H7 hy A;have lj:=(QC.mp hy).1;obtain⟨d2,f1,f2⟩:=(rR.same A.same).get hy;rw[QD] at f1;obtain⟨t2,ht2,rfl⟩:=QG.mp f1;obtain⟨q',w1',w2',w3',rfl,hq',r1',r2',r3'⟩:=jU f2;cbv;refine aF (SqT.of hq') (v:=w1') rfl ?_;cbv;refine aF (SqT.of hq') (v:=w2') rfl ?_;cbv;refine⟨aQ,λT2 nT2=>?_⟩;have S8:=ak nT2 (.tup [w1',w2']);have z8:Rz K (upd H7 T2 (.tup [w1',w2'])) (.ref T2) (dE (b_ t2)):=.tup aj (.cons (r1'.same S8) (.cons (r2'.same S8) .nil));have A8:=A.on S8;generalize upd H7 T2 (.tup [w1',w2'])=H8 at z8 A8 ⊢;refine a6 lj ?_;refine A8.cA z8 (av (by rw[Qx,Q3];lia)) λH9 A9=>?_
    show AccZ K H6 D H9 ((R.take (j+1)).map λt=>dE (b_ t));rw[QX,ht2,QJ];exact A9
   intro H7 A7;rw[QM (by lia)] at A7;have S57:=S6.trans A7.same;have B7:=B6.on A7.same
   have okE:∀x,kqdOk 8 (dE x)=true:=λx=>by
    show kqdOk 8 (.tuple [dI x.1,dI x.2])=true;show([dI x.1,dI x.2].all (kqdOk 7))=true;rw[ZaB,ZaB,G1.jE,G1.jE];rfl
   have rT7:=zT.same A7.same;cbv;refine iZ rT7.rep A7.rep (λe he=>by obtain⟨b,_,rfl⟩:=QU.mp he;exact okE _) (okE _) (λnm=>?_) (λmm=>?_)
   .cbv;refine b7 (SqL.of (A7.same _ _ hr)) ?_;rw[lR];cbv;refine bb (λl5=>?_) (λl5=>?_)
    .have hb37:=S57 _ _ hb3;obtain⟨q0,d0,_,q10,d10⟩:=otn.2.2.2;cbv;refine aF (SqT.of hb37) (v:=.int tn.q) rfl ?_;cbv;refine aF (SqT.of hb37) (v:=.int tn.d) rfl ?_;cbv;refine⟨_,_,rfl,by lia,Q4 (by lia:(1+tn.q % 6).natAbs<=6) (Re (by decide:6<2 ^ 3) (QW (by decide) (by decide))),Q4 (by lia:(1+tn.d % 5).natAbs<=6) (Re (by decide:6<2 ^ 3) (QW (by decide) (by decide))),λpp pq pd H8 S8 L _ _ r8=>?_⟩;obtain⟨e1,e2⟩:=eK (by lia:1+tn.d % 5≠0) L;rw[e1,e2] at r8;have fP:Fq 6 (Q9 (1+tn.q % 6) (1+tn.d % 5)):=⟨(1+tn.q % 6).toNat,(1+tn.d % 5).toNat,by lia,by lia,by rw[show(((1+tn.q % 6).toNat:Nat):Int)=1+tn.q % 6 by lia,show(((1+tn.d % 5).toNat:Nat):Int)=1+tn.d % 5 by lia],by lia,by lia⟩
     generalize Q9 (1+tn.q % 6) (1+tn.d % 5)=P at r8 fP;have S58:=S57.trans S8;have of:=po.2 _ otn.1;have og:=po.2 _ otn.2.1
     have in3:∀{h:List Int},eQ ws.length h->∀s,0<=pt h s/\pt h s<=3:=λ{h} o s=>by
      unfold pt;rw[Qz];cases e:h[s]? with
      |none=>exact⟨by decide,by decide⟩
      |some c=>exact o.2 c (QI e)
     have b3t:∀s,(pt tn.fr s).toNat<=3:=λs=>by have:=in3 of s;lia
     have b3g:∀s,(pt tn.to s).toNat<=3:=λs=>by have:=in3 og s;lia
     have ix_:∀{h:List Int},eQ ws.length h->∀j,j<ws.length->(h.map V.int)[j]?=↥(pt h j):=λ{h} o j hj=>by
      have:=o.1
      unfold pt;rw[QD,Qy (by lia),Qz,Qy (by lia)];rfl
     have hl8:H8 l=some (.lst xw):=S58 _ _ (B5.same _ _ hl);have rW8:RzL K H8 xw (W.map dW):=((rW.same B5.same).same S58)
     have lxw:xw.length=ws.length:=by rw[rW.length,Qx,lW]
     have wAt:∀j,j<ws.length->∃q,xw[j]?=⇑q/\H8 q=some (.tup [.int ((W.getD j (1,1)).1:Int),.int ((W.getD j (1,1)).2:Int)])/\0<(W.getD j (1,1)).1/\0<(W.getD j (1,1)).2/\(W.getD j (1,1)).1<=4/\(W.getD j (1,1)).2<=4:=λj hj=>by
      obtain⟨y,hy⟩:∃y,xw[j]?=some y:=⟨_,Qy (by lia)⟩
      obtain⟨d,f1,f2⟩:=rW8.get hy;rw[QD,Qy (by lia)] at f1;cases f1;obtain⟨q,rfl,hq⟩:=bM f2;have e:W.getD j (1,1)=W[j]:=by rw[Qz,Qy (by lia)];rfl
      rw[e];exact⟨q,hy,hq,wo _ (Ry _)⟩
     have big:∀j,j<=5->∀k,k<=3->∀k',k'<=3->6*64 ^ j*4 ^ k*4 ^ k'<2 ^ 3900:=λj hj k hk k' hk' =>
      Q4 (Rt (Rt (Rh 6 (QW (by decide) hj)) (QW (by decide) hk)) (QW (by decide) hk')) (Re (by decide:6*64 ^ 5*4 ^ 3*4 ^ 3<2 ^ 60) (QW (by decide) (by decide)))
     cbv;rw[RJ];refine aT (n:=ws.length) (λj σ H9=>∃(v11:V) (u6 u12:Option V),σ=[⇑a,↥t,⇑p,↥c,↥(ws.length:Int),⇑l,u6,⇑r,⇑b1,⇑b2,⇑pp,some v11,u12]/\Same H8 H9/\Rz K H9 v11 (dQ (BR (uO W) P tn.fr tn.to j))) ⟨_,_,_,rfl,Same.refl _,by show Rz K H8 (.ref pp) (dQ (P*1));rw[SR];exact r8⟩ ?_ ?_
     .rintro j σ H9 hj ⟨v11,u6,u12,rfl,S9,q9⟩;rw[T0];obtain⟨qw,hxw,hqw,a0,b0,a4,b4⟩:=wAt j hj;have fB:=J3 wo fP b3t b3g j;have F4:=wA wo j;cbv;refine aF (SqT.of (S9 _ _ (S58 _ _ hb1))) (v:=.int (pt tn.fr j)) (aI (j:=j) (ix_ of j hj)) ?_;have i1:=in3 of j;have i2:=in3 og j;refine⟨_,rfl,by lia,by lia,?_⟩;refine aT (n:=(pt tn.fr j).toNat) (λk σ H10=>∃(v11:V) (u6:Option V),σ=[⇑a,↥t,⇑p,↥c,↥(ws.length:Int),⇑l,u6,⇑r,⇑b1,⇑b2,⇑pp,some v11,↥(j:Int)]/\Same H8 H10/\Rz K H10 v11 (dQ (BR (uO W) P tn.fr tn.to j*uO W j ^ k))) ⟨v11,u6,rfl,S9,by rw[Vi,SR];exact q9⟩ ?_ ?_
      .rintro k σ H10 hk ⟨v11,u6,rfl,S10,q10⟩;cbv;refine bU (SqL.of (S10 _ _ hl8)) (v:=.ref qw) (aI (j:=j) hxw) ?_;cbv;refine⟨v11,qw,_,_,_,rfl,QV.of q10,SqT.of (S10 _ _ hqw),b0,a4,b4,((fB.mul (F4.1.pow k)).bits (Q4 (TU _ (by decide:0<4 ^ 0)) (big j (by lia) k (by lia) 0 (by decide)))),λp' H11 S11 r11=>?_⟩;cbv;refine⟨_,_,rfl,S10.trans S11,?_⟩;rw[UX,<- Rr];exact r11
      .rintro σ H10 ⟨v11,u6,rfl,S10,q10⟩;cbv;refine aF (SqT.of (S10 _ _ (S58 _ _ hb2))) (v:=.int (pt tn.to j)) (aI (j:=j) (ix_ og j hj)) ?_;refine⟨_,rfl,by lia,by lia,?_⟩;refine aT (n:=(pt tn.to j).toNat) (λk σ H11=>∃(v11:V) (u6:Option V),σ=[⇑a,↥t,⇑p,↥c,↥(ws.length:Int),⇑l,u6,⇑r,⇑b1,⇑b2,⇑pp,some v11,↥(j:Int)]/\Same H8 H11/\Rz K H11 v11 (dQ (BR (uO W) P tn.fr tn.to j*uO W j ^ (pt tn.fr j).toNat*(uO W j)⁻¹ ^ k))) ⟨v11,u6,rfl,S10,by rw[Vi,SR];exact q10⟩ ?_ ?_
       .rintro k σ H11 hk ⟨v11,u6,rfl,S11,q11⟩;have hl11:=S11 _ _ hl8;have hq11:=S11 _ _ hqw;cbv;refine bU (SqL.of hl11) (v:=.ref qw) (aI (j:=j) hxw) ?_;cbv;refine aF (SqT.of hq11) (v:=.int ((W.getD j (1,1)).2:Int)) rfl ?_;cbv;refine bU (SqL.of hl11) (v:=.ref qw) (aI (j:=j) hxw) ?_;cbv;refine aF (SqT.of hq11) (v:=.int ((W.getD j (1,1)).1:Int)) rfl ?_;cbv;refine⟨aQ,λT' nT'=>?_⟩;have S12:=ak nT' (.tup [.int ((W.getD j (1,1)).2:Int),.int ((W.getD j (1,1)).1:Int)]);have h12:upd H11 T' (.tup [.int ((W.getD j (1,1)).2:Int),.int ((W.getD j (1,1)).1:Int)]) T'=some (.tup [.int ((W.getD j (1,1)).2:Int),.int ((W.getD j (1,1)).1:Int)]):=aj;generalize upd H11 T' (.tup [.int ((W.getD j (1,1)).2:Int),.int ((W.getD j (1,1)).1:Int)])=H12 at S12 h12 ⊢;cbv;refine⟨v11,T',_,_,_,rfl,QV.of (q11.same S12),SqT.of h12,a0,b4,a4,(((fB.mul (F4.1.pow _)).mul (F4.2.1.pow k)).bits (big j (by lia) _ (b3t j) k (by have:=b3g j;lia))),λp' H13 S13 r13=>?_⟩;cbv;refine⟨_,_,rfl,S11.trans (S12.trans S13),?_⟩;rw[UX,<- Rr,show(uO W j)⁻¹=Q9 ((W.getD j (1,1)).2:Int) ((W.getD j (1,1)).1:Int) from Xa _ _] at *;exact r13
       .rintro σ H11 ⟨v11,u6,rfl,S11,q11⟩;refine⟨v11,u6,↥(j:Int),rfl,S11,?_⟩
        have e:BR (uO W) P tn.fr tn.to (j+1)=BR (uO W) P tn.fr tn.to j*uO W j ^ (pt tn.fr j).toNat*(uO W j)⁻¹ ^ (pt tn.to j).toNat:=by
         show P*(pr j _*(_*_))=P*pr j _*_*_;rw[Rr,Rr]
        rw[e];exact q11
     .rintro σ H9 ⟨v11,u6,u12,rfl,S9,q9⟩;have fB:=(J3 wo fP b3t b3g ws.length).up (Rh 6 (QW (by decide) w5):_<=6*64 ^ 5);have S59:=S58.trans S9;have B9:=(B7.on S8).on S9
      have pOk:∀{x:Rat},Fq (6*64 ^ 5) x->gC x.num (x.den:Int):=λ{x} f=>by
       obtain⟨n0,nl,dl⟩:=f.low;have rl:=Iw x
       have:6*64 ^ 5=6442450944:=by decide
       exact⟨n0,rl.1,rl.2,by lia,by lia⟩
      have fP':=fP.up (by decide:6<=6*64 ^ 5)
      have ri':=ri.add tk.nd htn (x:=⟨tn.fr,tn.to,P.num,(P.den:Int)⟩) (y:=⟨tn.to,tn.fr,(BR (uO W) P tn.fr tn.to ws.length).num,((BR (uO W) P tn.fr tn.to ws.length).den:Int)⟩) (λz=>nm (by obtain⟨x,hx,e⟩:=QU.mp z;exact QU.mpr ⟨x,hx,by rw[e]⟩)) (by lia) rfl rfl ⟨otn.1,otn.2.1,otn.2.2.1,pOk fP'⟩ ⟨otn.2.1,otn.1,λz=>otn.2.2.1 z.symm,pOk fB⟩ (by
       show Q9 P.num (P.den:Int)*hv ws.length (uO W) tn.fr=Q9 _ _*hv ws.length (uO W) tn.to
       rw[gT,gT]
       exact Nz wo P tn.fr tn.to ws.length)
      cbv;refine⟨B9.ty,?_⟩;cbv;refine⟨fS,λX nX=>?_⟩;have S10:=ak nX (.tup [.ref b1,.ref b2,.ref pp]);have zX:Rz K (upd H9 X (.tup [.ref b1,.ref b2,.ref pp])) (.ref X) (dT ⟨tn.fr,tn.to,P.num,(P.den:Int)⟩):=.tup aj (.cons ((q1.same S59).same S10) (.cons ((q2.same S59).same S10) (.cons ((r8.same S9).same S10) .nil)));have B10:=B9.on S10;have q10:=q9.same S10;generalize upd H9 X (.tup [.ref b1,.ref b2,.ref pp])=H10 at S10 zX B10 q10 ⊢;have S510:=S59.trans S10;cbv;refine bV B10 zX (av (by rw[Qx];lia)) λH11 B11 rz11 _ _=>?_
      cbv;refine⟨B11.ty,?_⟩;cbv;refine⟨fS,λY nY=>?_⟩;have S12:=ak nY (.tup [.ref b2,.ref b1,v11]);have zY:Rz K (upd H11 Y (.tup [.ref b2,.ref b1,v11])) (.ref Y) (dT ⟨tn.to,tn.fr,(BR (uO W) P tn.fr tn.to ws.length).num,((BR (uO W) P tn.fr tn.to ws.length).den:Int)⟩):=.tup aj (.cons ((rz11 (q2.same S510)).same S12) (.cons ((rz11 (q1.same S510)).same S12) (.cons ((rz11 q10).same S12) .nil)));have B12:=B11.on S12;generalize upd H11 Y (.tup [.ref b2,.ref b1,v11])=H12 at S12 zY B12 ⊢;cbv;refine bV B12 zY (av (by rw[QT,Qx];show _+1<=_;lia)) λH13 B13 _ _ _=>?_
      cbv;refine⟨R++[_,_],_,_,_,_,_,_,rfl,?_,ri'⟩;rw[QJ];rw[R_] at B13;exact B13
    .cbv;exact⟨R,_,_,_,_,_,_,rfl,B7,ri.skip λz=>by rw[z] at l5;simp at l5⟩
   .cbv;exact⟨R,_,_,_,_,_,_,rfl,B7,ri.skip λz=>by rw[z] at mm;simp at mm⟩
  .rintro σ H5 ⟨R,u6,u8,u9,u10,u11,u12,rfl,B5,ri⟩;obtain⟨xr,hr,rR⟩:=B5.at_;have S05:=S03.trans B5.same;cbv;refine aF (SqT.of (B5.same _ _ (A3.same _ _ hp))) (v:=.ref c1) rfl ?_;cbv;refine eM (SqL.of hr) λd nd=>?_
   have S6:=ak nd (.tup xr);have z6:Rz K (upd H5 d (.tup xr)) (.ref d) (.tuple (R.map dT)):=.tup aj (rR.same S6);generalize upd H5 d (.tup xr)=H6 at S6 z6 ⊢;cbv;refine⟨aQ,λe ne=>?_⟩;have S7:=ak ne (.tup [.ref c1,.ref d]);have rc1:Rz K H6 (.ref c1) (.tuple (ws.map X5)):=((r1.same A3.same).same B5.same).same S6;have lt0:0<ts1.length:=by rw[lt1];exact Vn.mpr tk.ne
   refine k e _ ws R (uO W) (S05.trans (S6.trans S7)) ⟨vo.words,vo.w1,vo.w5,hs,po,hs8,ri.ne lt0,by have:=ri.len;lia,ri.nd,ri.ok⟩ ri.prs up (.tup aj (.cons (rc1.same S7) (.cons (z6.same S7) .nil)))
end Pw
namespace Gn
open Pw
open Ev (vr fE kI nump)
def Ai:∀{m:Nat} {n:Nat},0<m->0<n->(∀p,IsP p->bD p m=bD p n)->m=n:=by
 intro m
 induction m using Uq with
 |_ m ih =>
  intro n hm hn h;by_cases c:2<=m
  .obtain⟨p,hp,m',rfl⟩:=mV c;have m0:0<m':=Sx hm
   have pn:p∣n:=by
    refine Xc λz=>?_
    have:=h p hp
    rw[jG z,dA hp.1 m0] at this;lia
   obtain⟨n',rfl⟩:=pn;have n0:0<n':=Sx hn;have lt:m'<p*m':=by have:=RC m' hp.1;lia
   rw[ih m' lt m0 n0 λq hq=>by
    have:=h q hq
    rw[i4 hq _ _ (by have:=hp.1;lia) m0,i4 hq _ _ (by have:=hp.1;lia) n0] at this
    lia]
  .by_cases d:2<=n
   .obtain⟨p,hp,z⟩:=mV d
    have:=h p hp
    rw[show m=1 by lia,Jq hp.1] at this
    have:=Ku hp hn z
    lia
   .lia
def Kt{f:Nat->Int}(hf:Add f){a b:Nat}(ha:0<a)(hb:0<b):vr f (Q9 a b)=f a-f b:=by
 have hx:0<Q9 a b:=by
  rw[UB];exact TB (by exact_mod_cast ha) (UD.mpr (by exact_mod_cast hb))
 have e:(Q9 a b).num*(b:Int)=(a:Int)*(Q9 a b).den:=by
  have d1:((Q9 a b).den:Int)≠0:=by have:=(Q9 a b).den_nz;lia
  exact(Si d1 (by lia)).mp (RO _)
 have e2:=congrArg Yb e;rw[RM,RM,Q2,Q2,Q2] at e2;have e3:=congrArg f e2;rw[hf.mul _ _ (nump hx) hb,hf.mul _ _ ha (RN (Q9 a b).den_nz)] at e3;unfold vr;lia
def Le{x y:Rat}(hx:0<x)(hy:0<y)(h:∀p,IsP p->vr (λn=>(bD p n:Int)) x=vr (λn=>(bD p n:Int)) y):x=y:=by
 have dx:=RN x.den_nz;have dy:=RN y.den_nz
 have e:=Ai (RB (nump hx) dy) (RB (nump hy) dx) λp hp=>by
  have:(bD p x.num.natAbs:Int)-bD p x.den=bD p y.num.natAbs-bD p y.den:=h p hp
  rw[i4 hp _ _ (nump hx) dy,i4 hp _ _ (nump hy) dx];lia
 have nx:=Ug.mpr (T6 hx);have ny:=Ug.mpr (T6 hy)
 have e2:x.num*(y.den:Int)=y.num*(x.den:Int):=by
  have:=congrArg (λn:Nat=>(n:Int)) e
  simp only[Rs] at this;rw[show((x.num.natAbs:Nat):Int)=x.num by lia,show((y.num.natAbs:Nat):Int)=y.num by lia] at this;exact this
 rw[<- RO x,<- RO y];exact(Si (by lia) (by lia)).mpr e2
def Ks{f:Nat->Int}(hf:Add f){x:Rat}(hx:0<x):vr f x⁻¹ = - vr f x:=by
 have:=fE hf hx (UD.mpr hx)
 rw[Zg x (λz=>by rw[z] at hx;exact absurd hx XB),kI hf] at this;lia
abbrev pl(g:Nat->Rat):List Nat->Rat
 |[]=>1
 |k :: R=>g k*pl g R
def zG(g:Nat->Rat):∀A B,pl g (A++B)=pl g A*pl g B
 |[],B=>by show pl g B=1*pl g B;rw[Tj]
 |k :: A,B=>by show g k*pl g (A++B)=g k*pl g A*pl g B;rw[zG g A B,Rr]
def IS(g:Nat->Rat){A:List Nat}(h:A.Perm B):pl g A=pl g B:=by
 induction h with
 |nil=>rfl
 |cons k _ ih=>show g k*_=g k*_;rw[ih]
 |swap a b l=>show g b*(g a*_)=g a*(g b*_);rw[<- Rr,<- Rr,Vh (g a)]
 |trans _ _ i j=>exact i.trans j
def pH{g:Nat->Rat}:∀{R:List Nat},(∀k∈R,0<g k)->0<pl g R
 |[],_=>by show(0:Rat)<1;decide
 |k :: R,h=>TB (h k QK) (pH λj hj=>h j (QL _ hj))
abbrev fc:Nat->Nat
 |0=>1
 |n+1=>(n+1)*fc n
def Bp:∀n,0<fc n
 |0=>by decide
 |n+1=>RB (WN n) (Bp n)
abbrev fl(m:Nat):Nat->Nat
 |0=>1
 |k+1=>fl m k*(m-k)
def JV{m:Nat}:∀{k:Nat},k<=m->fl m k*fc (m-k)=fc m
 |0,_=>by show 1*fc m=fc m;rw[Vb]
 |k+1,h=>by
  have e:m-k=(m-(k+1))+1:=by lia
  have i:=JV (m:=m) (k:=k) (by lia);rw[e] at i;show fl m k*(m-k)*_=fc m;rw[<- i,RF,e];rfl
def Gy{m:Nat}:∀{k:Nat},k<=m->0<fl m k
 |0,_=>UC
 |k+1,h=>RB (Gy (by lia)) (by lia)
def JU{m B:Nat}(h:m<=B):∀k,fl m k<=B ^ k
 |0=>QH _
 |k+1=>by show fl m k*(m-k)<=B ^ k*B;exact Rt (JU h k) (by lia)
abbrev dn(m n:Nat):Nat:=fl m (m-n)
def Nm(m n:Nat):0<dn m n:=Gy (Zau _ _)
def No(m n:Nat):dn m n*fc n=fc m*dn n m:=by
 unfold dn;by_cases c:n<=m
 .have:=JV (Zau m n)
  rw[show m-(m-n)=n by lia] at this;rw[this,show n-m=0 by lia];show _=fc m*1;rw[T_]
 .have:=JV (Zau n m)
  rw[show n-(n-m)=m by lia] at this;rw[show m-n=0 by lia];show 1*fc n=_;rw[Vb,Se,this]
abbrev dp:List Nat->List Nat->Nat
 |m :: A,n :: B=>dn m n*dp A B
 |_,_=>1
abbrev fp:List Nat->Nat
 |[]=>1
 |m :: A=>fc m*fp A
def io:∀A,0<fp A
 |[]=>by decide
 |m :: A=>RB (Bp m) (io A)
def k8:∀A B,0<dp A B
 |[],_=>UC
 |_ :: _,[]=>UC
 |m :: A,n :: B=>RB (Nm m n) (k8 A B)
def JZ:∀{A B:List Nat},A.length=B.length->dp A B*fp B=fp A*dp B A
 |[],[],_=>rfl
 |m :: A,n :: B,h=>by
  show dn m n*dp A B*(fc n*fp B)=fc m*fp A*(dn n m*dp B A);have e:=JZ (A:=A) (B:=B) (RX h);have d:=No m n
  calc dn m n*dp A B*(fc n*fp B)=(dn m n*fc n)*(dp A B*fp B):=by simp only[Se,Tu,RF]
   _=(fc m*dn n m)*(fp A*dp B A):=by rw[d,e]
   _=_:=by simp only[Se,Tu,RF]
abbrev gn(g:Nat->Rat)(R:List Nat)(A B:List Nat):Rat:=pl g R*Q9 (fp A) (fp B)
def Nh{g:Nat->Rat}{R:List Nat}{A B:List Nat}{a b:Nat}(h:Q9 a b=pl g R)(l:A.length=B.length)(hb:0<b):Q9 ((a:Int)*dp A B) ((b:Int)*dp B A)=gn g R A B:=by
 unfold gn;rw[<- Ss,h];congr 1;have e:=JZ l;refine(Si (by have:=k8 B A;lia) (by have:=io B;lia)).mpr ?_
 have:=congrArg (λn:Nat=>(n:Int)) e
 simpa only[Rs] using this
def JQ{k:Nat}:gn g R A B*gn g [k] B C=gn g (R++[k]) A C:=by
 unfold gn;rw[zG]
 have e:Q9 (fp A) (fp B)*Q9 (fp B) (fp C)=Q9 (fp A) (fp C):=by
  have b:=io B;rw[Ss];refine(Si (WG (by lia) (by have:=io C;lia)) (by have:=io C;lia)).mpr ?_;rw[SA,TK (fp B:Int) (fp C:Int)]
 rw[<- e,Rr,Rr,<- Rr (Q9 _ _) (pl g [k]),Vh (Q9 _ _) (pl g [k]),Rr]
def Gr{A:List Nat}:gn g [] A A=1:=by
 unfold gn;show 1*_=1;rw[Tj];have a:=io A;rw[show(1:Rat)=Q9 1 1 from rfl];exact(Si (by lia) (by decide)).mpr (by lia)
end Gn
namespace Gn
open Pw
open Ev (vr fE kI nump)
abbrev AA:List Pr->Nat
 |[]=>1
 |x :: T=>x.1 ^ x.2.toNat*AA T
abbrev BB:List Pr->Nat
 |[]=>1
 |x :: T=>x.1 ^ (-x.2).toNat*BB T
def Ci:∀S T,AA (S++T)=AA S*AA T
 |[],T=>by show AA T=1*AA T;rw[Vb]
 |x :: S,T=>by show _*AA (S++T)=_*AA S*AA T;rw[Ci S T,RF]
def Ce:∀S T,BB (S++T)=BB S*BB T
 |[],T=>by show BB T=1*BB T;rw[Vb]
 |x :: S,T=>by show _*BB (S++T)=_*BB S*BB T;rw[Ce S T,RF]
def kg:∀{T:List Pr},(∀x∈T,0<x.1)->0<AA T/\0<BB T
 |[],_=>⟨UC,UC⟩
 |x :: T,h=>by
  obtain⟨a,b⟩:=kg (T:=T) λy hy=>h y (QL _ hy)
  have p:=h x QK;exact⟨RB (Sd p) a,RB (Sd p) b⟩
def Kk{f:Nat->Int}(hf:Add f):∀{T:List Pr},(∀x∈T,0<x.1)->f (AA T)-f (BB T)=SF f T
 |[],_=>by show f 1-f 1=0;lia
 |x :: T,h=>by
  have h':∀y∈T,0<y.1:=λy hy=>h y (QL _ hy)
  obtain⟨a,b⟩:=kg h';have p:=h x QK;have i:=Kk hf h';show f (_*AA T)-f (_*BB T)=x.2*f x.1+SF f T;rw[hf.mul _ _ (Sd p) a,hf.mul _ _ (Sd p) b,hf.pow p,hf.pow p]
  have e:((x.2.toNat:Nat):Int)*f x.1-(((-x.2).toNat:Nat):Int)*f x.1=x.2*f x.1:=by
   rw[<- YF,show((x.2.toNat:Nat):Int)-(((-x.2).toNat:Nat):Int)=x.2 by lia]
  lia
def tG{q:Nat}{g:Pr->Nat}:∀{T:List Pr},(∀x∈T,SQ q x.1)->SQ q (T.foldr (λx a=>x.1 ^ g x*a) 1)
 |[],_=>V0 q
 |x :: T,h=>V1 ((h x QK).pow_right _) (tG λy hy=>h y (QL _ hy))
def Ch:∀T,AA T=T.foldr (λx a=>x.1 ^ x.2.toNat*a) 1
 |[]=>rfl
 |x :: T=>by show _*AA T=_*_;rw[Ch T]
def Cd:∀T,BB T=T.foldr (λx a=>x.1 ^ (-x.2).toNat*a) 1
 |[]=>rfl
 |x :: T=>by show _*BB T=_*_;rw[Cd T]
def GP:∀{T:List Pr},(T.map (·.1)).Pairwise (λa b=>SQ a b)->SQ (AA T) (BB T)
 |[],_=>V0 1
 |x :: T,h=>by
  obtain⟨h1,h2⟩:=VB.mp h;have hx:∀y∈T,SQ x.1 y.1:=λy hy=>h1 _ (So hy)
  have ca:SQ x.1 (AA T):=by rw[Ch];exact tG hx
  have cb:SQ x.1 (BB T):=by rw[Cd];exact tG hx
  have i:=GP h2;show SQ (x.1 ^ x.2.toNat*AA T) (x.1 ^ (-x.2).toNat*BB T);refine SQ.mul_left (V1 ?_ (cb.pow_left _)) (V1 (ca.symm.pow_right _) i);by_cases c:0<=x.2
  .rw[show(-x.2).toNat=0 by lia,Vg];exact V0 _
  .rw[show x.2.toNat=0 by lia,Vg];exact Nat.coprime_one_left _
def Cf{T:List Pr}(h:∀x∈T,0<x.1)(i:Nat):AA (T.take i)<=AA T/\BB (T.take i)<=BB T:=by
 have e:=Ui i T;have d:=kg (T:=T.drop i) λx hx=>h x (U_ hx)
 constructor
 .rw[<- congrArg AA e,Ci];exact TU _ d.1
 .rw[<- congrArg BB e,Ce];exact TU _ d.2
def Qf{T:List Pr}(h:∀x∈T,0<x.1){i:Nat}{x:Pr}(hx:T[i]?=some x):AA (T.take (i+1))=AA (T.take i)*x.1 ^ x.2.toNat/\BB (T.take (i+1))=BB (T.take i)*x.1 ^ (-x.2).toNat/\x.1 ^ x.2.toNat<=AA T/\x.1 ^ (-x.2).toNat<=BB T:=by
 have e1:AA (T.take (i+1))=AA (T.take i)*x.1 ^ x.2.toNat:=by rw[QX,hx,Ci];show _*(_*1)=_;rw[T_]
 have e2:BB (T.take (i+1))=BB (T.take i)*x.1 ^ (-x.2).toNat:=by rw[QX,hx,Ce];show _*(_*1)=_;rw[T_]
 have p:=kg (T:=T.take i) λy hy=>h y (SN hy)
 have t:=Cf h (i+1);rw[e1,e2] at t;exact⟨e1,e2,Q0 (SB _ p.1) t.1,Q0 (SB _ p.2) t.2⟩
abbrev PP:List (Nat×Nat)->List Int->Nat
 |w :: W,e :: R=>w.1 ^ e.toNat*w.2 ^ (-e).toNat*PP W R
 |_,_=>1
abbrev QQ:List (Nat×Nat)->List Int->Nat
 |w :: W,e :: R=>w.2 ^ e.toNat*w.1 ^ (-e).toNat*QQ W R
 |_,_=>1
abbrev na:List Int->Nat
 |[]=>0
 |e :: R=>e.natAbs+na R
def FT{c a k j:Nat}(h:a<=c)(hk:k<=j)(hc:0<c):a ^ k<=c ^ j:=Q0 (UK h k) (QW hc hk)
def L_{c a b:Nat}(hc:0<c)(a0:0<a)(ac:a<=c)(b0:0<b)(bc:b<=c)(e:Int):0<a ^ e.toNat*b ^ (-e).toNat/\a ^ e.toNat*b ^ (-e).toNat<=c ^ e.natAbs/\∀f:Nat->Int,Pw.Add f->f (a ^ e.toNat*b ^ (-e).toNat)=(e.toNat:Int)*f a+((-e).toNat:Int)*f b:=by
 refine⟨RB (Sd a0) (Sd b0),?_,λf hf=>by rw[hf.mul _ _ (Sd a0) (Sd b0),hf.pow a0,hf.pow b0]⟩;rcases Int.le_total 0 e with z|z
 .rw[show(-e).toNat=0 by lia,Vg,T_];exact FT ac (by lia) hc
 .rw[show e.toNat=0 by lia,Vg,Vb];exact FT bc (by lia) hc
def GJ{c:Nat}(hc:0<c):∀{W:List (Nat×Nat)} {R:List Int},(∀w∈W,(0<w.1/\w.1<=c)/\0<w.2/\w.2<=c) ->
  (0<PP W R/\PP W R<=c ^ na R)/\(0<QQ W R/\QQ W R<=c ^ na R)/\∀f,Pw.Add f->f (PP W R)-f (QQ W R)=vs f W R
 |[],R,_=>by
  have:1<=c ^ na R:=Sd hc
  exact⟨⟨UC,this⟩,⟨UC,this⟩,λf _=>Int.sub_self _⟩
 |_ :: _,[],_=>⟨⟨UC,QH _⟩,⟨UC,QH _⟩,λf _=>Int.sub_self _⟩
 |w :: W,e :: R,h=>by
  obtain⟨⟨w1,b1⟩,w2,b2⟩:=h w QK;obtain⟨⟨p0,p1⟩,⟨q0,q1⟩,pq⟩:=GJ hc (W:=W) (R:=R) λy hy=>h y (QL _ hy)
  obtain⟨x0,x1,x2⟩:=L_ hc w1 b1 w2 b2 e;obtain⟨y0,y1,y2⟩:=L_ hc w2 b2 w1 b1 e;have ex:c ^ na (e :: R)=c ^ e.natAbs*c ^ na R:=SO ..;rw[ex];refine⟨⟨RB x0 p0,Rt x1 p1⟩,⟨RB y0 q0,Rt y1 q1⟩,λf hf=>?_⟩;show f (w.1 ^ e.toNat*w.2 ^ (-e).toNat*PP W R)-f (w.2 ^ e.toNat*w.1 ^ (-e).toNat*QQ W R)=e*(f w.1-f w.2)+vs f W R;rw[hf.mul _ _ x0 p0,hf.mul _ _ y0 q0,x2 f hf,y2 f hf,<- pq f hf,Yz];have a1:e*f w.1=(e.toNat:Int)*f w.1-((-e).toNat:Int)*f w.1:=by rw[<- YF,show((e.toNat:Nat):Int)-(((-e).toNat:Nat):Int)=e by lia]
  have a2:e*f w.2=(e.toNat:Int)*f w.2-((-e).toNat:Int)*f w.2:=by rw[<- YF,show((e.toNat:Nat):Int)-(((-e).toNat:Nat):Int)=e by lia]
  lia
def Qe{c:Nat}(hc:0<c){W:List (Nat×Nat)}(hW:∀w∈W,(0<w.1/\w.1<=c)/\0<w.2/\w.2<=c){T:List Pr}(ap:FA (T.map (·.1)))(sf:∀f,Pw.Add f->SF f T=SF f (gI W R)) :
  AA T<=c ^ na R/\BB T<=c ^ na R:=by
 obtain⟨⟨p0,p1⟩,⟨q0,q1⟩,pq⟩:=GJ hc (R:=R) hW;have tp:∀x∈T,0<x.1:=λx hx=>by have:=ap.1 _ (So hx);lia
 obtain⟨a0,b0⟩:=kg tp
 have e:AA T*QQ W R=BB T*PP W R:=Ai (RB a0 q0) (RB b0 p0) λp hp=>by
  have h1:=Kk hp.add tp;rw[sf _ hp.add,qM,<- pq _ hp.add] at h1;rw[i4 hp _ _ a0 q0,i4 hp _ _ b0 p0];have h1:(bD p (AA T):Int)-bD p (BB T)=bD p (PP W R)-bD p (QQ W R):=h1;lia
 have co:=GP ap.2;have d1:AA T∣PP W R:=co.dvd_of_dvd_mul_left ⟨_,e.symm⟩;have d2:BB T∣QQ W R:=co.symm.dvd_of_dvd_mul_left ⟨_,e⟩;exact⟨Q0 (TM p0 d1) p1,Q0 (TM q0 d2) q1⟩
def wX{f:Nat->Int}:∀{W:List (Nat×Nat)} {o:List Int} {a:Nat} {w:Nat×Nat} {x v:Int},W[a]?=some w->o[a]?=some x->vs f W (o.set a v)=vs f W o+(v-x)*(f w.1-f w.2)
 |[],_,_,_,_,_,h,_=>by simp at h
 |_ :: _,[],_,_,_,_,_,h=>by simp at h
 |u :: W,y :: o,0,w,x,v,h1,h2=>by
  simp at h1 h2;subst h1 h2;show v*_+vs f W o=y*_+vs f W o+(v-y)*_;rw[YF];lia
 |u :: W,y :: o,a+1,w,x,v,h1,h2=>by
  simp at h1 h2;show y*_+vs f W (o.set a v)=y*_+vs f W o+_;rw[wX h1 h2];lia
def Aj:∀{o:List Int} {a:Nat} {x v:Int},o[a]?=some x->(v-x).natAbs<=1->na (o.set a v)<=na o+1
 |[],_,_,_,h,_=>by simp at h
 |y :: o,0,x,v,h,k=>by
  simp at h;subst h;show v.natAbs+na o<=y.natAbs+na o+1;lia
 |y :: o,a+1,x,v,h,k=>by
  simp at h
  have:=Aj h k
  show y.natAbs+na (o.set a v)<=y.natAbs+na o+1;lia
abbrev bump(o:List Int)(e:Nat×Nat):List Int:=(o.set e.1 (o.getD e.1 0-1)).set e.2 ((o.set e.1 (o.getD e.1 0-1)).getD e.2 0+1)
abbrev kS(es:List (Nat×Nat))(n:Nat)(R:List Nat):List Int:=R.foldl (λo k=>bump o (es.getD k (0,0))) (Rm n 0)
def uF{R:List Nat}{k:Nat}:kS es n (R++[k])=bump (kS es n R) (es.getD k (0,0)):=by unfold kS;rw[SY];rfl
def Fj:(bump o e).length=o.length:=by unfold bump;rw[Vv,Vv]
def nB:(kS es n R).length=n:=by
 unfold kS;generalize hq:Rm n (0:Int)=q;have hl:q.length=n:=by rw[<- hq,Uh]
 clear hq
 induction R generalizing q with
 |nil=>exact hl
 |cons k R ih=>exact ih _ (Fj.trans hl)
def getD_at{o:List Int}{a:Nat}(h:a<o.length):o[a]?=some (o.getD a 0):=by rw[Qz,Qy h];rfl
def Fk{W:List (Nat×Nat)}{o:List Int}{e:Nat×Nat}{w u:Nat×Nat}(l:e.1<o.length)(l':e.2<o.length)(hw:W[e.1]?=some w)(hu:W[e.2]?=some u) :
  vs f W (bump o e)=vs f W o+((f u.1-f u.2)-(f w.1-f w.2))/\na (bump o e)<=na o+2:=by
 unfold bump;have g1:=getD_at l;have g2:=getD_at (o:=o.set e.1 (o.getD e.1 0-1)) (a:=e.2) (by rw[Vv];exact l');have a:=wX (f:=f) (v:=o.getD e.1 0-1) hw g1;have b:=wX (f:=f) (v:=(o.set e.1 (o.getD e.1 0-1)).getD e.2 0+1) hu g2;have c:=Aj (v:=o.getD e.1 0-1) g1 (by lia);have d:=Aj (v:=(o.set e.1 (o.getD e.1 0-1)).getD e.2 0+1) g2 (by lia);refine⟨?_,by lia⟩;rw[b,a,show o.getD e.1 0-1-o.getD e.1 0 = -1 by lia,show(o.set e.1 (o.getD e.1 0-1)).getD e.2 0+1-(o.set e.1 (o.getD e.1 0-1)).getD e.2 0=1 by lia,Va,U9,Va];lia
abbrev sW(es:List (Nat×Nat))(W:Nat->Rat)(k:Nat):Rat:=W (Tr.tow es k)*(W (Tr.fro es k))⁻¹
def Kq{n h:Nat}(hh:h<n):(wl W n)[h]?=some ((W h).num.natAbs,(W h).den):=by
 unfold wl;rw[QD,RG hh];rfl
def oU{α:Type}{P:List α->Prop}(h0:P [])(h1:∀l a,P l->P (l++[a]))(l:List α):P l:=by
 have:∀r:List α,P r.reverse:=λr=>by
  induction r with
  |nil=>exact h0
  |cons a r ih=>rw[Zs];exact h1 _ _ ih
 rw[<- List.reverse_reverse l];exact this _
def Ag{es:List (Nat×Nat)}{n:Nat}{W:Nat->Rat}(ok:∀k,k<es.length->Tr.fro es k<n/\Tr.tow es k<n)(wp:∀h,h<n->0<W h):∀{R:List Nat},(∀k∈R,k<es.length) ->
  (∀f,Pw.Add f->vs f (wl W n) (kS es n R)=vr f (pl (sW es W) R))/\na (kS es n R)<=2*R.length:=by
 intro R
 induction R using oU with
 |h0 =>
  intro _
  have z:∀(m:Nat) (f:Nat->Int) (U:List (Nat×Nat)),vs f U (Rm m 0)=0/\na (Rm m 0)=0:=by
   intro m f
   induction m with
   |zero=>intro U;cases U <;> exact⟨rfl,rfl⟩
   |succ m ih =>
    intro U;cases U with
    |nil=>exact⟨rfl,by show 0+na (Rm m 0)=0;rw[(ih []).2]⟩
    |cons u U=>exact⟨by show 0*_+vs f U (Rm m 0)=0;rw[(ih U).1,TL];rfl,by show 0+na (Rm m 0)=0;rw[(ih []).2]⟩
  exact⟨λf hf=>by show vs f _ (Rm n 0)=vr f 1;rw[(z n f _).1,kI hf],X3 (z n (λ_=>0) []).2⟩
 |h1 R k ih =>
  intro h;obtain⟨i1,i2⟩:=ih λj hj=>h j (Rc _ hj)
  have hk:=h k (Q6 _ (QY.mpr rfl));obtain⟨l1,l2⟩:=ok k hk;have b:=λf=>Fk (f:=f) (W:=wl W n) (o:=kS es n R) (e:=es.getD k (0,0)) (by rw[nB];exact l1) (by rw[nB];exact l2) (Kq l1) (Kq l2)
  rw[uF];refine⟨λf hf=>?_,by rw[QT,RY];have:=(b λ_=>0).2;lia⟩
  have gp:∀j∈R,0<sW es W j:=λj hj=>by
   obtain⟨a,c⟩:=ok j (h j (Rc _ hj));exact TB (wp _ c) (UD.mpr (wp _ a))
  rw[(b f).1,i1 f hf,zG];have kp:0<sW es W k:=TB (wp _ l2) (UD.mpr (wp _ l1));show _=vr f (pl (sW es W) R*(sW es W k*1));rw[SR,fE hf (pH gp) kp];show _=_+vr f (W (Tr.tow es k)*(W (Tr.fro es k))⁻¹);rw[fE hf (wp _ l2) (UD.mpr (wp _ l1)),Ks hf (wp _ l1)];show _+(vr f (W (Tr.tow es k))-vr f (W (Tr.fro es k)))=_;lia
def Qd{es:List (Nat×Nat)}{n:Nat}{W:Nat->Rat}(ok:∀k,k<es.length->Tr.fro es k<n/\Tr.tow es k<n)(wp:∀h,h<n->0<W h){R:List Nat}(hR:∀k∈R,k<es.length){T:List Pr}(ap:FA (T.map (·.1)))
  (sf:∀f,Pw.Add f->SF f T=SF f (gI (wl W n) (kS es n R))):Q9 (AA T) (BB T)=pl (sW es W) R:=by
 have tp:∀x∈T,0<x.1:=λx hx=>by have:=ap.1 _ (So hx);lia
 obtain⟨a0,b0⟩:=kg tp
 have gp:∀j∈R,0<sW es W j:=λj hj=>by
  obtain⟨a,c⟩:=ok j (hR j hj);exact TB (wp _ c) (UD.mpr (wp _ a))
 refine Le ?_ (pH gp) λp hp=>?_
 .rw[UB];exact TB (by exact_mod_cast a0) (UD.mpr (by exact_mod_cast b0))
 .rw[Kt hp.add a0 b0,Kk hp.add tp,sf _ hp.add,qM,(Ag ok wp hR).1 _ hp.add]
end Gn
namespace Gn
open PySem L2 Fr G1 Sm Vs G2 Rk Sz Sf Rw Ti Lo Lc Tr Pw
open PySem.W (Dat kqdOk)
def sQ{n m:Nat}(h:n<=2 ^ m)(k:m<20000):n<2 ^ 20000:=Q4 h (R5 (by decide) k)
def Bn{m:Nat}:∀{k:Nat},m<k->fl m k=0
 |k+1,h=>by
  show fl m k*(m-k)=0;by_cases c:m<k
  .rw[Bn c,VT]
  .rw[show m-k=0 by lia,Nat.mul_zero]
abbrev mK:Sp:=λvs H Q _=>∃(x b:Nat) (k:Int),vs=[.int (x:Int),.int k]/\-(2 ^ 62)<=k/\k<2 ^ 62/\x<2 ^ b/\b<1000/\b*k.toNat<19000/\Q (.int (fl x k.toNat:Int)) H
abbrev rH(K:Fg):TS:=(am (aw (tC (.int 1)) (al 2))
 (am (aW (ck (ae (aa 1) ag)) (al 3)
 (aw (ar cO (aa 2) (ar iF (aa 0) (aa 3))) (al 2)))
 (aG (aa 2))))
def DX{K:Fg}:ρ 4 mK (rH K):=by
 fail "R";obtain⟨x,b,k,rfl,k1,k2,xb,b1,bk,q⟩:=h;rw[L2.aP hN];walk_at "t";unfold rH;cbv;refine aT (λi σ H2=>∃u3:Option V,σ=[↥(x:Int),↥k,↥(fl x i:Int),u3]/\H2=H) ⟨none,rfl,rfl⟩ ?_ ?_
 .rintro i σ H2 hi ⟨u3,rfl,rfl⟩;have p1:fl x i<=2 ^ (b*i):=by rw[YD];exact JU (TJ xb) i
  have p2:b*i<=b*k.toNat:=Rh b (by lia)
  have b2:((x:Int)-(0+(i:Int))).natAbs<2 ^ 20000:=by
   have x1:x<2 ^ 1000:=Re xb (QW (by decide) (by lia));have x2:(2:Nat) ^ 62<2 ^ 1000:=R5 (by decide) (by decide);refine sQ (m:=1000) ?_ (by decide);generalize (2:Nat) ^ 1000=M at x1 x2;lia
  cbv;refine cK ⟨sQ (n:=((fl x i:Nat):Int).natAbs) (m:=b*i) (by rw[Q2];exact p1) (by lia),b2⟩ ?_;cbv;refine⟨some (.int (0+(i:Int))),?_,rfl⟩
  rw[show(fl x i:Int)*((x:Int)-(0+(i:Int)))=(fl x (i+1):Int) by
   show _=((fl x i*(x-i):Nat):Int)
   by_cases c:i<=x
   .rw[Rs,show((x-i:Nat):Int)=(x:Int)-(0+(i:Int)) by lia]
   .rw[Bn (by lia),VT];exact TL _]
  rfl
 .rintro σ H2 ⟨u3,rfl,rfl⟩;cbv;exact q
abbrev uf:Sp:=λvs H Q _=>∃(x:Nat) (k:Int),vs=[.int (x:Int),.int k]/\0<x/\-(2 ^ 62)<=k/\k<2 ^ 62/\x<2 ^ 20000/\x ^ k.toNat<2 ^ 20000/\Q (.int ((x ^ k.toNat:Nat):Int)) H
abbrev xC(K:Fg):TS:=(am (aw (tC (.int 1)) (al 2))
 (am (aW (ck (ae (aa 1) ag)) (al 3)
 (aw (ar cO (aa 2) (aa 0)) (al 2)))
 (aG (aa 2))))
def HZ{K:Fg}:ρ 4 uf (xC K):=by
 fail "R";obtain⟨x,k,rfl,x0,k1,k2,xb,pb,q⟩:=h;rw[L2.aP hN];walk_at "t";unfold xC;cbv;refine aT (λi σ H2=>∃u3:Option V,σ=[↥(x:Int),↥k,some (.int ((x ^ i:Nat):Int)),u3]/\H2=H) ⟨none,rfl,rfl⟩ ?_ ?_
 .rintro i σ H2 hi ⟨u3,rfl,rfl⟩;cbv;refine cK ⟨by rw[Q2];exact Q4 (QW x0 (TJ hi)) pb,by rw[Q2];exact xb⟩ ?_;cbv;exact⟨some (.int (0+(i:Int))),by rw[<- Rs,<- SJ];rfl,rfl⟩
 .rintro σ H2 ⟨u3,rfl,rfl⟩;cbv;exact q
abbrev yH(K:Fg):Sp:=λvs H Q _=>∃(a:Addr) (xs:List V) (P0:List Pr),vs=[.ref a]/\H a=some (.lst xs)/\RzL K H xs (P0.map jV)/\(∀x∈P0,0<x.1/\x.1<2 ^ 8000)/\gM P0<2 ^ 8000/\P0.length+(bK (P0.map (·.1))).log2<2 ^ 20 /\
 (∀T:List Pr,FA (T.map (·.1))->(∀f,Pw.Add f->SF f T=SF f P0)->AA T<2 ^ 15000/\BB T<2 ^ 15000) /\
 ∀(p:Addr) (H':Hp) (T:List Pr),Same H H'->FA (T.map (·.1))->(∀f,Pw.Add f->SF f T=SF f P0)->Rz K H' (.ref p) (dI [(AA T:Int),(BB T:Int)])->Q (.ref p) H'
nonrec abbrev CS(K:Fg):TS:=(am (aW (ce K (aD (Pw.mM K) [] E0 (ae (aa 0) ag))) (cx K 2 (aX (al 3) (aX (al 4) cy)))
 (am (aw (ar cO (aa 1) (aD Gn.uf [] E0 (ae (aa 3) (ae (aa 4) ag)))) (al 1))
 (aw (ar cO (aa 2) (aD Gn.uf [] E0 (ae (aa 3) (ae (Hs (rU λi=>.int (-i)) (aa 4)) ag)))) (al 2))))
 (aG (bq (ae (aa 1) (ae (aa 2) ag)))))
abbrev xJ(K:Fg):TS:=(am (aw (tC (.int 1)) (al 1))
 (am (aw (tC (.int 1)) (al 2))
 (CS K)))
def Ia{K:Fg}:ρ 5 (yH K) (xJ K):=by
 fail "R";obtain⟨a,xs,P0,rfl,ha,rx,pos,ht,hc,bd,k⟩:=h;rw[L2.aP hN];walk_at "t";unfold xJ;cbv;refine⟨a,xs,P0,rfl,ha,rx,pos,ht,hc,λp H1 T A1 ap ne sf lt=>?_⟩;obtain⟨b1,b2⟩:=bd T ap sf;obtain⟨ys,hp,ry⟩:=A1.at_;have S1:=A1.same;have tp:∀x∈T,2<=x.1:=λx hx=>ap.1 _ (So hx)
 have tp0:∀x∈T,0<x.1:=λx hx=>by have:=tp x hx;lia
 have p15:(2:Nat) ^ 15000<2 ^ 20000:=R5 (by decide) (by decide);have ly:ys.length=T.length:=by rw[ry.length,Qx]
 cbv;refine⟨p,rfl,⟨ys,SqL.of hp⟩,?_⟩;refine a_ (xs:=ys) (λi σ H2=>∃u3 u4:Option V,σ=[⇑a,some (.int (AA (T.take i):Int)),some (.int (BB (T.take i):Int)),u3,u4]/\Same H1 H2) ⟨none,none,rfl,Same.refl _⟩ (by rintro i σ H2 _ ⟨_,_,_,S2⟩;exact SqL.of (S2 _ _ hp)) ?_ ?_
 .rintro i y σ H2 hy ⟨u3,u4,rfl,S2⟩;obtain⟨dd,g1,g2⟩:=ry.get hy;rw[QD] at g1;obtain⟨x,hx,rfl⟩:=QG.mp g1;obtain⟨c,rfl,hcc⟩:=bM (g2.same S2);obtain⟨e1,e2,m1,m2⟩:=Qf tp0 hx;obtain⟨t1,t2⟩:=Cf tp0 i;have x2:=tp x (QI hx)
  have ex:∀{j n:Nat},x.1 ^ j<=n->n<2 ^ 15000->j<15000:=λ{j n} h1 h2=>by
   have:2 ^ j<2 ^ 15000:=Q4 (Q0 (UK x2 j) h1) h2
   exact(Nat.pow_lt_pow_iff_right (by decide)).mp this
  have j1:=ex m1 b1;have j2:=ex m2 b2
  have xb:x.1<2 ^ 20000:=by
   have ne0:=ne x (QI hx);refine RW ?_ p15;by_cases c:0<x.2
   .exact Q4 (Q0 (WH (by lia) _) m1) b1
   .exact Q4 (Q0 (WH (by lia) _) m2) b2
  generalize (2:Nat) ^ 15000=P15 at b1 b2 p15;have hcc:H2 c=some (.tup [.int (x.1:Int),.int x.2]):=hcc;refine bP (SqT.of hcc) rfl ?_;cbv;refine⟨x.1,x.2,rfl,by lia,by lia,by lia,xb,RW (Q4 m1 b1) p15,?_⟩;refine cK ⟨by rw[Q2];exact RW (Q4 t1 b1) p15,by rw[Q2];exact RW (Q4 m1 b1) p15⟩ ?_;cbv;refine⟨x.1,-x.2,rfl,by lia,by lia,by lia,xb,RW (Q4 m2 b2) p15,?_⟩;refine cK ⟨by rw[Q2];exact RW (Q4 t2 b2) p15,by rw[Q2];exact RW (Q4 m2 b2) p15⟩ ?_;cbv;rw[<- Rs,<- Rs,<- e1,<- e2];exact⟨_,_,rfl,S2⟩
 .rintro σ H2 ⟨u3,u4,rfl,S2⟩;rw[ly,QM (QH _)];cbv;refine⟨aQ,λq nq=>?_⟩;exact k q _ T (S1.trans (S2.trans (ak nq _))) ap sf (.tup aj (RpL.ints [_,_]))
open PySem L2 Fr G1 Sm Vs G2 Rk Sz Sf Rw Ti Lo Lc Tr Pw Dn Wd
abbrev hX(T:List Tp):List Nat->List Int->List Int
 |[],c=>c
 |k :: R,c=>hX T R (beh (T.getD k ([],[])) c)
abbrev ou(T:List Tp):List Nat->List Int->Prop
 |[],_=>True
 |k :: R,c=>k<T.length/\can (T.getD k ([],[])) c=true/\ou T R (beh (T.getD k ([],[])) c)
def gJ{T:List Tp}:∀{A B:List Nat} {c:List Int},hX T (A++B) c=hX T B (hX T A c)
 |[],_,_=>rfl
 |k :: A,B,c=>gJ (A:=A)
def eO{T:List Tp}:∀{A B:List Nat} {c:List Int},ou T (A++B) c↔ou T A c/\ou T B (hX T A c)
 |[],_,_=>⟨λh=>⟨trivial,h⟩,λh=>h.2⟩
 |k :: A,B,c=>by
  show _/\_/\ou T (A++B) _↔(_/\_/\_)/\ou T B (hX T A _);rw[eO (A:=A)];exact⟨(by rintro ⟨a,b,c,d⟩;exact ⟨⟨a,b,c⟩,d⟩),(by rintro ⟨⟨a,b,c⟩,d⟩;exact ⟨a,b,c,d⟩)⟩
def lQ{T:List Tp}:∀{R:List Nat} {c:List Int},(hX T R c).length=c.length
 |[],_=>rfl
 |k :: R,c=>by show(hX T R _).length=_;rw[lQ (R:=R),BS]
def vx{T:List Tp}:∀{R:List Nat} {c:List Int},ou T R c->∀k∈R,k<T.length
 |k :: R,c,h,j,hj=>by
  rcases Q5.mp hj with e|e
  .rw[e];exact h.1
  .exact vx h.2.2 j e
abbrev yy(K:Fg):Sp:=λvs H Q _=>∃(v u:V) (a:Addr) (ws:List Str) (ts:List Tn) (row:List Nat) (cs:List Int),vs=[v,.ref a,u]/\Rz K H v (dV ws ts)/\H a=some (.lst ((ni row).map V.int))/\Rz K H u (dI cs)/\Nn cs.length ts/\cs.length<=100/\ou (ts.map Dn.pr) row cs /\
 ∀(w:V) (H':Hp),Same H H'->Rz K H' w (dI (hX (ts.map Dn.pr) row cs))->Q w H'
nonrec abbrev CB(K:Fg):TS:=(am (aw (aD (mD K) [] E0 (ae (aa 0) (ae (aa 5) ag))) (al 6))
 (am (aS (gb (tB (aD (Wd.yM K) [] E0 (ae (aa 6) (ae (aa 3) ag)))))
 ia
 aV)
 (aw (aD (Wd.yL K) [] E0 (ae (aa 6) (ae (aa 3) ag))) (al 3))))
abbrev xk(K:Fg):TS:=(am (aw (bo (cC K) (ae (aa 2) ag)) (al 3))
 (am (aW (iM K (ae (aa 1) ag)) (cx K 2 (aX (al 4) (aX (al 5) cy)))
 (CB K))
 (aG (aa 3))))
def HS{K:Fg}:ρ 7 (yy K) (xk K):=by
 fail "R";obtain⟨v,u,a,ws,ts,row,cs,rfl,rv,ha,ru,nn,l100,wb,k⟩:=h;obtain⟨b,rfl,hb⟩:=bM ru;rw[L2.aP hN];walk_at "t";unfold xk;cbv;refine MA (SqT.of hb) ?_;cbv;refine⟨a,_,rfl,SqL.of ha,?_⟩;refine dG (xs:=(ni row).map V.int) (λi σ H2=>∃(w:V) (u4 u5 u6:Option V),σ=[some v,⇑a,⇑b,some w,u4,u5,u6]/\Same H H2/\Rz K H2 w (dI (hX (ts.map Dn.pr) (row.take i) cs))) ⟨_,none,none,none,rfl,Same.refl _,ru⟩ (by rintro i σ H2 _ ⟨_,_,_,_,_,S,_⟩;exact SqL.of (S _ _ ha)) ?_ ?_
 .rintro i y σ H2 T e1 ⟨w,u4,u5,u6,rfl,S2,rc⟩ nT;unfold ni at e1;rw[QD,QD] at e1;obtain⟨n',f0,rfl⟩:=QG.mp e1;obtain⟨n,f1,rfl⟩:=QG.mp f0;have li:i<row.length:=(QC.mp f1).1;have et:row.take (i+1)=row.take i++[n]:=by rw[QX,f1];rfl
  have w1:ou (ts.map Dn.pr) (row.take i++[n]) cs:=by
   rw[<- et]
   have:=Ui (i+1) row
   rw[<- this] at wb;exact(eO.mp wb).1
  obtain⟨n1,n2,_⟩:=(eO.mp w1).2;rw[Qx] at n1;obtain⟨t,ht⟩:∃t,ts[n]?=some t:=⟨_,Qy n1⟩
  rw[jP ht] at n2;obtain⟨lt1,lt2⟩:=nn t (QI ht);have lc:(hX (ts.map Dn.pr) (row.take i) cs).length=cs.length:=lQ;have S3:=S2.trans (ak nT (.tup [.int (i:Int),.int (n:Int)]));have rc3:=rc.same (ak nT (.tup [.int (i:Int),.int (n:Int)]));refine bP (SqT.of aj) rfl ?_;generalize upd H2 T (.tup [.int (i:Int),.int (n:Int)])=H3 at S3 rc3 ⊢;cbv;refine⟨v,n,ws,ts,t,rfl,rv.same S3,ht,λz rz=>?_⟩;cbv;refine⟨z,w,t,_,rfl,rz,rc3,by lia,λH4 S4=>?_⟩;rw[n2];cbv;refine⟨z,w,t,_,rfl,rz.same S4,rc3.same S4,by lia,by lia,by lia,λp H5 S5 rp=>?_⟩;cbv;refine⟨.ref p,_,_,_,rfl,S3.trans (S4.trans S5),?_⟩;rw[et,gJ];show Rz K H5 _ (dI (beh ((ts.map Dn.pr).getD n ([],[])) _));rw[jP ht];exact rp
 .rintro σ H2 ⟨w,u4,u5,u6,rfl,S2,rc⟩;rw[show((ni row).map V.int).length=row.length by unfold ni;rw[Qx,Qx],QM (QH _)] at rc;cbv;exact k w H2 S2 rc
abbrev Hz(K:Fg):Sp:=λvs H Q _=>∃(v:V) (ws:List Str) (ts:List Tn) (w:Nat),vs=[v]/\Rz K H v (dV ws ts)/\iS w ts/\hJ ts/\(∀m∈mks ts,One (wW ts) m) /\
 ∀(f:Addr) (xs:List V) (H':Hp),Same H H'->H f=none->H' f=some (.lst xs)->xs.length=(aH ts).length->(∀i x,xs[i]?=some x->QV K H' x (Wt ts i))->Q (.ref f) H'
abbrev Hm(K:Fg):TS:=(am (aw (aD (Pw.yK K) [] E0 (ae (aa 0) ag)) (al 1))
 (am (aS (gb (tB (ar (aE K) (aa 1) (tC (.int 0)))))
 ia
 aV)
 (aG (ar (aE K) (aa 1) (tC (.int 1))))))
def K7{K:Fg}:ρ 2 (Hz K) (Hm K):=by
 fail "R";obtain⟨v,ws,ts,w,rfl,rv,o,af,on,k⟩:=h;rw[L2.aP hN];walk_at "t";unfold Hm;cbv;refine⟨v,ws,ts,w,rfl,rv,o,λi x y p H' he _ nr=>absurd (af i x y he) nr,λj m p r H' _ hm _ no=>absurd (on m (QI hm)) no,λp f xs H' _ _ S np nf hp hf lf qf=>?_⟩;cbv;refine aF (SqT.of hp) (v:=.bl true) rfl ?_;cbv;refine aF (SqT.of hp) (v:=.ref f) rfl ?_;exact k f xs H' S nf hf lf qf
abbrev Hy(K:Fg):Sp:=λvs H Q _=>∃(v:V) (a:Addr) (ws:List Str) (ts:List Tn) (R:List Nat),vs=[v,.ref a,.int ((aH ts).length:Int)]/\Rz K H v (dV ws ts)/\ts.length<=100/\(aH ts).length<=100/\H a=some (.lst ((ni R).map V.int))/\(∀k∈R,k<ts.length) /\
 ∀(p:Addr) (H':Hp),Same H H'->H p=none->H' p=some (.lst ((kS (aq ts) (aH ts).length R).map V.int))->Q (.ref p) H'
nonrec abbrev Hk(K:Fg):TS:=(am (aw (ar (aE K) (ar (bJ K) (aa 3) (aa 5)) (tC (.int 1))) (al 7))
 (am (aw (ar iF (ar (bJ K) (aa 4) (aa 6)) (tC (.int 1))) (E5 (aa 4) (aa 6) Iy))
 (aw (ar aZ (ar (bJ K) (aa 4) (aa 7)) (tC (.int 1))) (E5 (aa 4) (aa 7) Iy))))
abbrev Hl(K:Fg):TS:=(am (aw (aD (fF K) [] E0 (ae (aa 0) ag)) (al 3))
 (am (aw (ar IA (bR (ae (tC (.int 0)) ag)) (aa 2)) (al 4))
 (am (aW (ce K (aa 1)) (al 5)
 (am (aw (ar (aE K) (ar (bJ K) (aa 3) (aa 5)) (tC (.int 0))) (al 6))
 (Hk K)))
 (aG (aa 4)))))
def K6{K:Fg}:ρ 8 (Hy K) (Hl K):=by
 fail "R";obtain⟨v,a,ws,ts,R,rfl,rv,t8,h8,ha,hR,k⟩:=h;rw[L2.aP hN];walk_at "t";unfold Hl;generalize hn:(aH ts).length=n at *;cbv;refine⟨v,ws,ts,rfl,rv,t8,λe H1 A1=>?_⟩;obtain⟨ys,he,ry⟩:=A1.at_;cbv;refine⟨gQ,λl0 n0=>?_⟩;have S2:=A1.same.trans (ak n0 (.lst [.int 0]));have T2:=ak n0 (.lst [.int 0]);have h0:upd H1 l0 (.lst [.int 0]) l0=some (.lst [.int 0]):=aj;generalize upd H1 l0 (.lst [.int 0])=H2 at S2 T2 h0 ⊢;cbv;refine Br.O2 h0 (by lia) λl nl=>?_
 have nl0:H l=none:=S2.free nl;have nl1:H1 l=none:=T2.free nl;have S3:=S2.trans (ak nl (.lst (Rm n (.int 0))));have T3:=T2.trans (ak nl (.lst (Rm n (.int 0))));have hl:upd H2 l (.lst (Rm n (.int 0))) l=some (.lst (Rm n (.int 0))):=aj;rw[show Rm n (V.int 0)=(kS (aq ts) n []).map V.int by unfold kS;exact(List.map_replicate ..).symm] at hl S3 T3 ⊢;generalize upd H2 l (.lst ((kS (aq ts) n []).map V.int))=H3 at S3 T3 hl ⊢;cbv;refine⟨a,rfl,⟨_,SqL.of (S3 _ _ ha)⟩,?_⟩;refine a_ (xs:=(ni R).map V.int) (λi σ H4=>∃u5 u6 u7:Option V,σ=[some v,⇑a,↥(n:Int),⇑e,⇑l,u5,u6,u7]/\Same H H4/\Same H1 H4/\H4 l=some (.lst ((kS (aq ts) n (R.take i)).map V.int))) ⟨none,none,none,rfl,S3,T3,hl⟩ (by rintro i σ H4 _ ⟨_,_,_,_,S4,_⟩;exact SqL.of (S4 _ _ ha)) ?_ ?_
 .rintro i y σ H4 e1 ⟨u5,u6,u7,rfl,S4,T4,h4⟩;unfold ni at e1;rw[QD,QD] at e1;obtain⟨n',f0,rfl⟩:=QG.mp e1;obtain⟨m,f1,rfl⟩:=QG.mp f0;have hm:=hR m (QI f1);have le:(aq ts).length=ts.length:=by unfold aq;rw[Qx]
  have hx:(aq ts)[m]?=some ((aq ts).getD m (0,0)):=by rw[Qz,Qy (by lia)];rfl
  have ok:=bS ts _ (QI hx);rw[hn] at ok;have et:R.take (i+1)=R.take i++[m]:=by rw[QX,f1];rfl
  obtain⟨u,eu,ru⟩:=ry.get' (i:=m) (d:=dP ((aq ts).getD m (0,0))) (by rw[QD,hx];rfl);generalize hq:(aq ts).getD m (0,0)=q at hx ok eu ru;obtain⟨c,rfl,hc⟩:=bM (ru.same T4);have hc:H4 c=some (.tup [.int (q.1:Int),.int (q.2:Int)]):=hc;have ol:∀R,(kS (aq ts) n R).length=n:=λR=>nB
  cbv;refine bU (SqL.of (T4 _ _ he)) (v:=.ref c) (aI eu) ?_;refine aF (SqT.of hc) (v:=.int (q.1:Int)) rfl ?_;cbv;refine bU (SqL.of (T4 _ _ he)) (v:=.ref c) (aI eu) ?_;refine aF (SqT.of hc) (v:=.int (q.2:Int)) rfl ?_;cbv;generalize hO:kS (aq ts) n (R.take i)=o at h4;have lo:o.length=n:=by rw[<- hO];exact ol _
  refine bU (SqL.of h4) (v:=.int (o.getD q.1 0)) (aI (by rw[QD,getD_at (by lia)];rfl)) ?_;cbv;refine Gi (wu (i:=4) rfl (wu (i:=6) rfl ?_));have st:∀{o:List Int} {j:Nat} {x:Int},j<o.length->Ck ((o.map V.int).length) (j:Int)=some j/\(o.map V.int).set j (.int x)=(o.set j x).map V.int:=λ{o j x} hj=>⟨by unfold Ck;rw[if_pos (by lia),if_pos (by rw[Qx];lia)];simp,by rw[List.map_set]⟩
  refine⟨l,_,_,q.1,rfl,rfl,h4,(st (x:=0) (by lia)).1,?_⟩;rw[(st (by lia)).2];have h5:upd H4 l (.lst ((o.set q.1 (o.getD q.1 0-1)).map V.int)) l=some (.lst ((o.set q.1 (o.getD q.1 0-1)).map V.int)):=aj;have up:∀{H0 H5:Hp} {ob:HO},Same H0 H5->H0 l=none->Same H0 (upd H5 l ob):=λ{H0 H5 ob} s n x o e=>by rw[aJ (ay e n)];exact s x o e
  have S5:=up (ob:=.lst ((o.set q.1 (o.getD q.1 0-1)).map V.int)) S4 nl0;have T5:=up (ob:=.lst ((o.set q.1 (o.getD q.1 0-1)).map V.int)) T4 nl1;generalize upd H4 l (.lst ((o.set q.1 (o.getD q.1 0-1)).map V.int))=H5 at h5 S5 T5 ⊢;have l1:(o.set q.1 (o.getD q.1 0-1)).length=n:=by rw[Vv];exact lo
  generalize hO1:o.set q.1 (o.getD q.1 0-1)=o1 at h5 l1;cbv;refine bU (SqL.of h5) (v:=.int (o1.getD q.2 0)) (aI (by rw[QD,getD_at (by lia)];rfl)) ?_;cbv;refine Gi (wu (i:=4) rfl (wu (i:=7) rfl ?_));refine⟨l,_,_,q.2,rfl,rfl,h5,(st (x:=0) (by lia)).1,?_⟩;rw[(st (by lia)).2];cbv;refine⟨_,_,_,rfl,up S5 nl0,up T5 nl1,?_⟩;rw[et,uF,hO,hq];unfold bump;rw[hO1];exact aj
 .rintro σ H4 ⟨u5,u6,u7,rfl,S4,T4,h4⟩;rw[show((ni R).map V.int).length=R.length by unfold ni;rw[Qx,Qx],QM (QH _)] at h4;cbv;exact k l H4 S4 nl0 h4
abbrev mJ(K:Fg):Sp:=λvs H Q _=>∃t b:Int,vs=[.int t,.int b]/\b≠0/\t.natAbs<2 ^ 13500/\b.natAbs<2 ^ 13500/\∀(p:Addr) (H':Hp),Same H H'->Rz K H' (.ref p) (dQ (Q9 t b))->Q (.ref p) H'
def Nk{K:Fg}{vs:List V}(h:gP K vs H Q E):mJ K vs H Q E:=by
 obtain⟨t,b,e,b0,ht,hb,k⟩:=h;have p:=@pw_lt 8000 13500 (by decide);exact⟨t,b,e,b0,RW ht p,RW hb p,k⟩
nonrec abbrev xY(K:Fg):TS:=(am (aw (aD oT [] E0 (ae (aa 0) (ae (aa 1) ag))) (al 2))
 (am (aS (aR (ar wM (aa 1) (tC (.int 0))))
 (aw (Hs (rU λi=>.int (-i)) (aa 2)) (al 2))
 aV)
 (aG (bq (ae (ar wa (aa 0) (aa 2)) (ae (ar wa (aa 1) (aa 2)) ag))))))
abbrev rF(K:Fg):TS:=(am (aS (Cj (gb (tB (aD i7 [] E0 (ae (aa 0) ag)))) (gb (tB (aD i7 [] E0 (ae (aa 1) ag)))))
 ia
 aV)
 (am (aS (aR (ar fV (aa 1) (tC (.int 0))))
 ia
 aV)
 (xY K)))
def DV{K:Fg}:ρ 3 (mJ K) (rF K):=by
 fail "R";obtain⟨t,b,rfl,b0,ht,hb,k⟩:=h;rw[L2.aP hN];walk_at "t";unfold rF;have gp:=Gd.uY (a:=t) b0
 have fin:∀d:Int,(d=Gd.gd t b/\0<b\/d = - Gd.gd t b/\b<0)->aG (bq (ae (ar wa (aa 0) (aa 2)) (ae (ar wa (aa 1) (aa 2)) ag))) (ends Q) [↥t,↥b,↥d] H:=by
  intro d hd;obtain⟨e1,e2⟩:=eK b0 (Gd.uL b0 hd);have dn:d≠0:=by clear ht hb;rcases hd with⟨z,_⟩|⟨z,_⟩ <;> lia
  cbv;refine⟨_,_,rfl,rfl,⟨dn,ht⟩,?_⟩;cbv;refine⟨_,_,rfl,rfl,⟨dn,hb⟩,?_⟩;cbv;refine⟨aQ,λp np=>?_⟩;show Q (.ref p) (upd H p (.tup [.int (t.fdiv d),.int (b.fdiv d)]));rw[e1,e2];exact k p _ (ak np _) (.tup aj (RpL.ints [_,_]))
 clear ht hb;cbv;refine⟨t,rfl,?_⟩;cbv;refine⟨b,rfl,?_⟩;cbv;refine bb (λz=>absurd z b0) (λ_=>?_);cbv;refine⟨t,b,rfl,?_⟩;cbv;refine bb (λc=>?_) (λc=>?_)
 .obtain h2:=fin _ (.inr ⟨rfl,c⟩);refine JM ?_;fail "1";refine wu (i:=2) rfl ?_;refine MJ ?_;refine sZ ?_;exact h2
 .exact fin _ (.inl ⟨rfl,by lia⟩)
def F8:∀{o:List Int} {c:Int},c∈o->c.natAbs<=na o
 |e :: o,c,h=>by
  show _<=e.natAbs+na o;rcases Q5.mp h with z|z
  .rw[z];lia
  .have:=F8 z;lia
def g7:∀{A B:List Nat} {m n:Nat},A.length=B.length->dp (A++[m]) (B++[n])=dp A B*dn m n
 |[],[],m,n,_=>by show dn m n*1=1*dn m n;lia
 |a :: A,b :: B,m,n,h=>by
  show dn a b*dp (A++[m]) (B++[n])=dn a b*dp A B*dn m n;rw[g7 (RX h),RF]
def J0{m n b e:Nat}(h:m<2 ^ b)(k:m-n<=e):dn m n<=2 ^ (b*e):=by
 unfold dn;refine Q0 (JU (TJ h) _) ?_;rw[<- YD];exact QW (by decide) (Rh b k)
structure Nr (b e:Nat) (cs ds:List Nat):Prop where
 len:cs.length=ds.length
 five:cs.length<=5
 bits:b<1000
 few:e<=1000
 lo:∀c∈cs,c<2 ^ b
 hi:∀c∈ds,c<2 ^ b
 near:∀(i:Nat) c d,cs[i]?=some c->ds[i]?=some d->c-d<=e/\d-c<=e
def Nr.symm(h:Nr b e cs ds):Nr b e ds cs:=⟨h.len.symm,by rw[<- h.len];exact h.five,h.bits,h.few,h.hi,h.lo,λi c d h1 h2=>(h.near i d c h2 h1).symm⟩
def Nr.dp{b e:Nat}{cs ds:List Nat}(h:Nr b e cs ds):∀i,i<=cs.length->dp (cs.take i) (ds.take i)<=2 ^ (i*(b*e))
 |0,_=>by show 1<=_;exact Sd (by decide)
 |i+1,hi=>by
  have e1:cs[i]?=some cs[i]:=Qy hi;have l2:i<ds.length:=by rw[<- h.len];exact hi
  have e2:ds[i]?=some ds[i]:=Qy l2;rw[QX,QX,e1,e2];show Gn.dp (cs.take i++[cs[i]]) (ds.take i++[ds[i]])<=_;rw[g7 (by rw[Q3,Q3,h.len]),Uu,SO];exact Rt (h.dp i (by lia)) (J0 (h.lo _ (Ry hi)) (h.near i _ _ e1 e2).1)
abbrev Wb(ts:List Tn):Prop:=∀h,h<(aH ts).length->(Wt ts h).num.natAbs<=2 ^ 512/\(Wt ts h).den<=2 ^ 512
abbrev spGb(K:Fg):Sp:=λvs H Q _=>∃(v u1 u2:V) (f a:Addr) (ws:List Str) (ts:List Tn) (w:Nat) (xs:List V) (R cs ds:List Nat) (b e:Nat),vs=[v,.ref f,.ref a,u1,u2]/\Rz K H v (dV ws ts)/\iS w ts/\hJ ts/\Wb ts/\H f=some (.lst xs)/\xs.length=(aH ts).length/\(∀i x,xs[i]?=some x->QV K H x (Wt ts i))/\H a=some (.lst ((ni R).map V.int))/\(∀k∈R,k<ts.length) /\
 Rz K H u1 (dI (ni cs))/\Rz K H u2 (dI (ni ds))/\Nr b e cs ds/\1024*R.length+5*(b*e)<=13000/\∀(p:Addr) (H':Hp),Same H H'->Rz K H' (.ref p) (dQ (gn (sW (aq ts) (Wt ts)) R cs ds))->Q (.ref p) H'
nonrec abbrev KG(K:Fg):TS:=(am (aw (ar cO (aa 6) (aD Gn.mK [] E0 (ae (aa 8) (ae (ar iF (aa 8) (aa 9)) ag)))) (al 6))
 (aw (ar cO (aa 7) (aD Gn.mK [] E0 (ae (aa 9) (ae (ar iF (aa 9) (aa 8)) ag)))) (al 7)))
nonrec abbrev KF(K:Fg):TS:=(am (aw (ar (aE K) (aa 5) (tC (.int 1))) (al 7))
 (am (aW (qj K .T .T (ae (aa 3) (ae (aa 4) ag))) (cx K 2 (aX (al 8) (aX (al 9) cy)))
 (KG K))
 (aG (aD (Gn.mJ K) [] E0 (ae (aa 6) (ae (aa 7) ag))))))
abbrev t_gb(K:Fg):TS:=(am (aw (aD (Gn.yH K) [] E0 (ae (aD (Pw.C_ K) [] E0 (ae (aa 1) (ae (aD (Gn.Hy K) [] E0 (ae (aa 0) (ae (aa 2) (ae (bo (bW K) (ae (aa 1) ag)) ag)))) ag))) ag)) (al 5))
 (am (aw (ar (aE K) (aa 5) (tC (.int 0))) (al 6))
 (KF K)))
def Ox{K:Fg}:ρ 10 (spGb K) (t_gb K):=by
 fail "R";obtain⟨v,u1,u2,f,a,ws,ts,w,xs,R,cs,ds,b,e,rfl,rv,o,af,wb,hf,lf,qf,ha,hR,r1,r2,nr,bd,k⟩:=h;obtain⟨a1,rfl,h1⟩:=bM r1;obtain⟨a2,rfl,h2⟩:=bM r2;rw[L2.aP hN];walk_at "t";have t8:=o.co.le;have h8:=o.h8;have bk:∀e∈aq ts,Rch (aq ts) e.2 e.1:=λe he=>by obtain⟨j,hj⟩:=RA he;exact af j e.1 e.2 hj
 have le:(aq ts).length=ts.length:=by unfold aq;rw[Qx]
 have Wp:∀k,k<(aH ts).length->0<Wt ts k:=λk hk=>fY.mp (fI o.pa bk hk)
 have ok:∀k,k<(aq ts).length->fro (aq ts) k<(aH ts).length/\tow (aq ts) k<(aH ts).length:=λk hk=>bS ts _ (tt hk)
 have hR':∀k∈R,k<(aq ts).length:=λk hk=>by have:=hR k hk;lia
 obtain⟨_,nb⟩:=Ag ok Wp hR';unfold t_gb;cbv;refine b7 (SqL.of hf) ?_;rw[lf];cbv;refine⟨v,a,ws,ts,R,rfl,rv,by lia,by lia,ha,hR,λq H1 S1 nq hq=>?_⟩;have ol:(kS (aq ts) (aH ts).length R).length=(aH ts).length:=nB;cbv;refine⟨f,q,xs,_,Wt ts,rfl,S1 _ _ hf,hq,by lia,by lia,λi x hx=>⟨(qf i x hx).same S1,fI o.pa bk (by have:=(QC.mp hx).1;lia)⟩,λq2 H2 A2=>?_⟩;obtain⟨zs,hz,rz⟩:=A2.at_;rw[ol] at rz;have on:∀c∈kS (aq ts) (aH ts).length R,c.natAbs<=2 ^ 800:=λc hc=>Q0 (by have:=F8 hc;lia:c.natAbs<=2 ^ 40) (QW (by decide) (by decide))
 obtain⟨c1,c2,c3⟩:=KW o af ol on
 have ab:∀T:List Pr,FA (T.map (·.1))->(∀f,Pw.Add f->SF f T=SF f (gI (wW ts) (kS (aq ts) (aH ts).length R)))->AA T<=2 ^ (1024*R.length)/\BB T<=2 ^ (1024*R.length):=λT ap sf=>by
  obtain⟨g1,g2⟩:=Qe (c:=2 ^ 512) (Sd (by decide)) (W:=wW ts) (λu hu=>by
   unfold wW wl at hu
   obtain⟨i,hi,rfl⟩:=QU.mp hu
   have li:=Rb.mp hi
   obtain⟨b1,b2⟩:=wb i li
   have wp:=fI o.pa bk li
   exact⟨⟨by show 0<(Wt ts i).num.natAbs;lia,b1⟩,RN (Wt ts i).den_nz,b2⟩) ap sf
  have m:(2 ^ 512) ^ na (kS (aq ts) (aH ts).length R)<=2 ^ (1024*R.length):=by
   rw[<- YD];exact QW (by decide) (by lia)
  exact⟨Q0 g1 m,Q0 g2 m⟩
 have S2:=S1.trans A2.same;cbv;refine⟨q2,zs,_,rfl,hz,rz,c1,c2,c3,λT ap sf=>?_,λp H3 T S3 ap sf rp=>?_⟩
 .have:=ab T ap sf
  have p:=R5 (a:=2) (by decide) (by lia:1024*R.length<15000);exact⟨Q4 this.1 p,Q4 this.2 p⟩
 have S3':=S2.trans S3;obtain⟨aA,aB⟩:=ab T ap sf;have pl_:=Qd ok Wp hR' ap sf;have tp:∀x∈T,0<x.1:=λx hx=>by have:=ap.1 _ (So hx);lia
 obtain⟨A0,B0⟩:=kg tp;generalize AA T=A at aA rp pl_ A0;generalize BB T=B at aB rp pl_ B0;clear ab c1 c2 c3 on;obtain⟨pp,e0,hp⟩:=bM rp;cases e0;have hp:H3 p=some (.tup [.int (A:Int),.int (B:Int)]):=hp;cbv;refine aF (SqT.of hp) (v:=.int (A:Int)) rfl ?_;cbv;refine aF (SqT.of hp) (v:=.int (B:Int)) rfl ?_;cbv;have l1:((ni cs).map V.int).length=cs.length:=by unfold ni;rw[Qx,Qx]
 have l2:((ni ds).map V.int).length=cs.length:=by unfold ni;rw[Qx,Qx,nr.len]
 refine⟨a1,a2,_,_,rfl,SqT.of (S3' _ _ h1),SqT.of (S3' _ _ h2),?_⟩;have five:=nr.five
 have big:∀i,i<=cs.length->1024*R.length+i*(b*e)<=13000:=λi hi=>by
  have:=RC (b*e) (by lia:i<=5)
  lia
 have tb:∀{x y:Nat} (i:Nat),i<=cs.length->x<=2 ^ (1024*R.length)->y<=2 ^ (i*(b*e))->x*y<2 ^ 13500:=λ{x y} i hi hx hy=>by
  refine Q4 (Rt hx hy) ?_;rw[<- SO];exact R5 (by decide) (by have:=big i hi;lia)
 have p135:(2:Nat) ^ 13500<2 ^ 20000:=R5 (by decide) (by decide);refine tm (n:=cs.length) l1 l2 (λi σ H4=>∃u8 u9:Option V,σ=[some v,⇑f,⇑a,⇑a1,⇑a2,⇑p,some (.int ((A*Gn.dp (cs.take i) (ds.take i):Nat):Int)),some (.int ((B*Gn.dp (ds.take i) (cs.take i):Nat):Int)),u8,u9]/\Same H H4) ⟨none,none,by show _=[_,_,_,_,_,_,some (V.int ((A*1:Nat):Int)),some (V.int ((B*1:Nat):Int)),_,_];rw[T_,T_];rfl,S3'⟩ (by rintro i σ H4 _ ⟨_,_,_,S4⟩;exact ⟨SqT.of (S4 _ _ h1),SqT.of (S4 _ _ h2)⟩) ?_ ?_
 .rintro i x y σ H4 T hx hy ⟨u8,u9,rfl,S4⟩ nT;unfold ni at hx hy;rw[QD,QD] at hx hy;obtain⟨_,f0,rfl⟩:=QG.mp hx;obtain⟨c,f1,rfl⟩:=QG.mp f0;obtain⟨_,f2,rfl⟩:=QG.mp hy;obtain⟨d,f3,rfl⟩:=QG.mp f2;obtain⟨n1,n2⟩:=nr.near i c d f1 f3;have li:i<cs.length:=(QC.mp f1).1;have c1:=nr.lo c (QI f1);have d1:=nr.hi d (QI f3);have bits:=nr.bits;have m1:=Rh b n1;have m2:=Rh b n2;have g:=big 1 (by lia);have et:cs.take (i+1)=cs.take i++[c]:=by rw[QX,f1];rfl
  have ed:ds.take (i+1)=ds.take i++[d]:=by rw[QX,f3];rfl
  have ll:(cs.take i).length=(ds.take i).length:=by rw[Q3,Q3,nr.len]
  have b1:=tb i (by lia) aA (nr.dp i (by lia));have b2:=tb i (by lia) aB (nr.symm.dp i (by rw[<- nr.len];lia));have sm:∀{x y:Nat},x<2 ^ b->x-y<=e->(Gn.dn x y)<2 ^ 20000:=λ{x y} hx hy=>Q4 (J0 hx hy) (R5 (by decide) (by lia))
  have s1:=sm c1 n1;have s2:=sm d1 n2;have few:=nr.few;have S5:=S4.trans (ak nT (.tup [.int (c:Int),.int (d:Int)]));refine bP (SqT.of aj) rfl ?_;generalize upd H4 T (.tup [.int (c:Int),.int (d:Int)])=H5 at S5 ⊢;cbv;refine⟨c,b,(c:Int)-d,rfl,by clear b1 b2 s1 s2;lia,by clear b1 b2 s1 s2;lia,c1,bits,?_,?_⟩
  .rw[show((c:Int)-d).toNat=c-d by lia];lia
  rw[show((c:Int)-d).toNat=c-d by lia];refine cK ⟨by rw[Q2];exact RW b1 p135,by rw[Q2];exact s1⟩ ?_;cbv;refine⟨d,b,(d:Int)-c,rfl,by clear b1 b2 s1 s2;lia,by clear b1 b2 s1 s2;lia,d1,bits,?_,?_⟩
  .rw[show((d:Int)-c).toNat=d-c by lia];lia
  rw[show((d:Int)-c).toNat=d-c by lia];refine cK ⟨by rw[Q2];exact RW b2 p135,by rw[Q2];exact s2⟩ ?_;cbv;rw[et,ed,g7 ll,g7 ll.symm,<- Rs,<- Rs,RF,RF];exact⟨_,_,rfl,S5⟩
 .rintro σ H4 ⟨u8,u9,rfl,S4⟩;rw[QM (QH _),QM (by rw[nr.len];exact QH _)];have d1:=nr.dp cs.length (QH _);have d2:=nr.symm.dp cs.length (by rw[<- nr.len];exact QH _);rw[QM (QH _),QM (by rw[nr.len];exact QH _)] at d1;rw[QM (by rw[nr.len];exact QH _),QM (QH _)] at d2;cbv;refine⟨_,_,rfl,by have:=RB B0 (k8 ds cs);lia,by rw[Q2];exact tb _ (QH _) aA d1,by rw[Q2];exact tb _ (QH _) aB d2,λp H5 S5 r=>?_⟩;rw[Rs,Rs,Nh pl_ nr.len B0] at r;exact k p H5 (S4.trans S5) r
abbrev ja(K:Fg):Sp:=λvs H Q _=>∃(v u:V) (a:Addr) (ws:List Str) (ts:List Tn) (w:Nat) (R cs ds:List Nat) (b e:Nat),vs=[v,.ref a,u]/\Rz K H v (dV ws ts)/\iS w ts/\hJ ts/\(∀m∈mks ts,One (wW ts) m)/\Wb ts/\H a=some (.lst ((ni R).map V.int))/\Rz K H u (dI (ni cs)) /\
 Nn cs.length ts/\ou (ts.map Dn.pr) R (ni cs)/\hX (ts.map Dn.pr) R (ni cs)=ni ds/\Nr b e cs ds/\1024*R.length+5*(b*e)<=13000/\∀(p:Addr) (H':Hp),Same H H'->Rz K H' (.ref p) (dQ (gn (sW (aq ts) (Wt ts)) R cs ds))->Q (.ref p) H'
abbrev xW(K:Fg):TS:=(am (aw (aD (Gn.Hz K) [] E0 (ae (aa 0) ag)) (al 3))
 (aG (aD (Gn.spGb K) [] E0 (ae (aa 0) (ae (aa 3) (ae (aa 1) (ae (aa 2) (ae (aD (Gn.yy K) [] E0 (ae (aa 0) (ae (aa 1) (ae (aa 2) ag)))) ag))))))))
def Ij{K:Fg}:ρ 4 (ja K) (xW K):=by
 fail "R";obtain⟨v,u,a,ws,ts,w,R,cs,ds,b,e,rfl,rv,o,af,on,wb,ha,ru,nn,wk,ee,nr,bd,k⟩:=h;rw[L2.aP hN];walk_at "t";have lc:(ni cs).length=cs.length:=by unfold ni;rw[Qx]
 have five:=nr.five;unfold xW;cbv;refine⟨v,ws,ts,w,rfl,rv,o,af,on,λf xs H1 S1 nf hf lf qf=>?_⟩;cbv;refine⟨v,u,a,ws,ts,R,ni cs,rfl,rv.same S1,S1 _ _ ha,ru.same S1,by rw[lc];exact nn,by lia,wk,λy H2 S2 ry=>?_⟩;rw[ee] at ry;cbv;have S12:=S1.trans S2;refine⟨v,u,y,f,a,ws,ts,w,xs,R,cs,ds,b,e,rfl,rv.same S12,o,af,wb,S2 _ _ hf,lf,λi x hx=>(qf i x hx).same S2,S12 _ _ ha,λk hk=>by have:=vx wk k hk;rwa [Qx] at this,ru.same S12,ry,nr,bd,λp H3 S3 r=>?_⟩;exact k p H3 (S12.trans S3) r
open PySem L2 Fr G1 Sm Vs G2 Rk Sz Sf Rw Ti Lo Lc Tr
abbrev gp(g:Nat->Nat):List Nat->Nat
 |[]=>1
 |k :: r=>g k*gp g r
abbrev gr(g:Nat->Nat):Nat->Nat
 |0=>1
 |n+1=>gr g n*g n
def uW{g:Nat->Nat}{n:Nat}:∀{ks:List Nat},n∈ks->gp g ks=g n*gp g (ks.erase n)
 |k :: r,h=>by
  by_cases c:k=n
  .subst c;rw[List.erase_cons_head];rfl
  .rw[List.erase_cons_tail (by simpa using c)]
   have:n∈r:=by rcases Q5.mp h with e|e;exact absurd e.symm c;exact e
   show g k*gp g r=g n*(g k*_);rw[uW this,Tu]
def A_{g:Nat->Nat}:∀{n:Nat} {ks:List Nat},ks.Nodup->(∀k∈ks,k<n)->gp g ks∣gr g n
 |0,[],_,_=>ZF _
 |0,k :: _,_,h=>absurd (h k QK) (SU _)
 |n+1,ks,nd,h=>by
  show _∣gr g n*g n;by_cases c:n∈ks
  .rw[uW c,Se];refine Nat.mul_dvd_mul (A_ (nd.erase n) λk hk=>?_) (ZF _);have h1:=h k (List.mem_of_mem_erase hk);have h2:k≠n:=(nd.mem_erase_iff.mp hk).1;lia
  .exact YZ (A_ nd λk hk=>by have h1:=h k hk;have:k≠n:=λz=>c (z ▸ hk);lia) (Xp _ _)
abbrev dk(ts:List Tn)(k:Nat):Nat:=match ts[k]? with
 |some t=>t.d.natAbs
 |none=>1
def uV{g:Nat->Nat}:∀{n:Nat},gr g (n+1)=g 0*gr (λk=>g (k+1)) n
 |0=>by show 1*g 0=g 0*1;lia
 |n+1=>by show gr g (n+1)*g (n+1)=g 0*(_*g (n+1));rw[uV,RF]
def Ng:∀ts:List Tn,gr (dk ts) ts.length=Pd ts
 |[]=>rfl
 |t :: ts=>by
  show gr (dk (t :: ts)) (ts.length+1)=t.d.natAbs*Pd ts;rw[uV,<- Ng ts];rfl
def LU(pa:cE ts){k:Nat}(hk:k<ts.length):Tr.Sml (dk ts k) (10 ^ 10) (cP ts k)/\0<dk ts k:=by
 obtain⟨t,ht⟩:∃t,ts[k]?=some t:=⟨_,Qy hk⟩
 obtain⟨q0,d0,_,ql,_⟩:=pa t (QI ht);have e:cP ts k=Q9 t.q t.d:=by unfold cP;rw[ht]
 have e':dk ts k=t.d.natAbs:=by unfold dk;rw[ht]
 have dn:((t.d:Int):Rat)≠0:=by
  intro z
  have:=Yg.mp (show((t.d:Int):Rat)=((0:Int):Rat) from z)
  lia
 rw[e,e'];refine⟨⟨t.q,?_,by lia⟩,by lia⟩;rw[show((t.d.natAbs:Nat):Int)=t.d by lia,UB,W_ dn]
def Ly{pc:Nat->Rat}:∀{ks:List Nat} {x:Rat},ks.foldl (λx k=>x*pc k) x=x*pq pc ks:=by
 intro ks;unfold pq
 induction ks with
 |nil=>intro x;show x=x*1;rw[SR]
 |cons k r ih =>
  intro x;show r.foldl _ (x*pc k)=x*r.foldl _ (1*pc k);rw[ih (x:=x*pc k),ih (x:=1*pc k),Tj,Rr]
def FR{ts:List Tn}(pa:cE ts):∀{ks:List Nat},(∀k∈ks,k<ts.length)->Tr.Sml (gp (dk ts) ks) ((10 ^ 10) ^ ks.length) (pq (cP ts) ks)
 |[],_=>Tr.Sml.one (QH _)
 |k :: r,h=>by
  have i:=FR pa (ks:=r) λj hj=>h j (QL _ hj)
  have e:pq (cP ts) (k :: r)=cP ts k*pq (cP ts) r:=by
   show r.foldl _ (1*cP ts k)=_;rw[Ly,Tj]
  rw[e,Ru,SJ,Se ((10 ^ 10) ^ r.length)];exact(LU pa (h k QK)).1.mul i
abbrev ME(ts:List Tn):Nat:=(10 ^ 10) ^ 7*Pd ts
def Eg(pa:cE ts){ks:List Nat}(hk:∀k∈ks,k<ts.length)(nd:ks.Nodup)(l7:ks.length<=7):Tr.Sml (Pd ts) (ME ts) (pq (cP ts) ks):=by
 obtain⟨c,hc⟩:=A_ (g:=dk ts) nd hk;rw[Ng] at hc;have p:=jY pa;rw[hc] at p;have c0:0<gp (dk ts) ks:=RN λz=>by rw[z,VT] at p;lia
 have:=(FR pa hk).up (E:=c) (N:=ME ts) (by
  unfold ME
  rw[hc]
  exact Rt (QW (by decide) l7) (SB _ c0))
 rw[hc];exact this
def tY{es:List (Nat×Nat)}{ts:List Tn}{r:Nat}(pa:cE ts):∀{l:List (List Nat)},(∀q∈l,(∀k∈q,k<ts.length)/\q.Nodup/\q.length<=7)->Tr.Sml (Pd ts) (l.length*ME ts) (ls l (wq es ts r))
 |[],_=>Tr.Sml.zero _ _
 |q :: l,h=>by
  obtain⟨a,b,c⟩:=h q QK
  have h1:Tr.Sml (Pd ts) (ME ts) (wq es ts r q):=by
   unfold wq;split
   .exact Eg pa a b c
   .exact Tr.Sml.zero _ _
  rw[a7,Ru,Uu,X2];exact h1.add (tY pa λx hx=>h x (QL _ hx))
def F6{f:Nat->Nat}:∀{l:List Nat},(l.map f).Nodup->l.Nodup
 |[],_=>To
 |a :: l,h=>by
  obtain⟨h1,h2⟩:=RH.mp h;exact RH.mpr ⟨λz=>h1 (So z),F6 h2⟩
def Fp(pa:cE ts)(t8:ts.length<=8)(h8:(aH ts).length<=8){h:Nat}(hh:h<(aH ts).length):(Wt ts h).num.natAbs<=2 ^ 512/\(Wt ts h).den<=2 ^ 512:=by
 have ok:=bS ts;have F:=bX ok;have le:(aq ts).length=ts.length:=by unfold aq;rw[Qx]
 have s:Tr.Sml (Pd ts) (900*ME ts) (Wt ts h):=by
  unfold Wt;generalize a5 (aH ts).length (aq ts)=f at F;have nd:=cu f (Lo.at_ f h);have hr:h∈aM f (Lo.at_ f h):=bi.mpr ⟨by rw[F.len];exact hh,rfl⟩;have ndo:(b6 (aM f (Lo.at_ f h)) h).Nodup:=nd.filter _;have few:=uw (es:=aq ts) (by lia) ndo (b6 (aM f (Lo.at_ f h)) h).length;rw[Sa] at few;have lo:=mY nd hr;have l8:(aM f (Lo.at_ f h)).length<=8:=Q0 fW (by rw[F.len];exact h8);rw[<- J_ nd hr (eG F ok _)]
  have s:=tY (es:=aq ts) (r:=h) pa (l:=pk (aq ts) (b6 (aM f (Lo.at_ f h)) h)) λq hq=>by
   obtain⟨a,ha,ks,e1,e2,e3⟩:=uv hq;rw[QY.mp ha,Um] at e1
   have:=congrArg Sr e2
   rw[Qx] at this;rw[e1];exact⟨λk hk=>by have:=e3 k hk;lia,F6 (f:=fro (aq ts)) (by rw[e2];exact ndo),by lia⟩
  obtain⟨m,e,l⟩:=s;exact⟨m,e,Q0 l (RC _ few)⟩
 have p1:=jY pa;have pl:=Q0 (Kc pa) (QW (by decide) t8);obtain⟨b1,b2⟩:=s.bits p1;have z1:(10 ^ 10) ^ 8<=2 ^ 512:=by decide
 have z2:900*((10 ^ 10) ^ 7*(10 ^ 10) ^ 8)<=2 ^ 512:=by decide
 exact⟨Q0 b1 (Q0 (Rh _ (Rh _ pl)) z2),Q0 b2 (Q0 pl z1)⟩
open Bo (sm bY fR uk)
abbrev cU(w:Nat)(c:Int)(k:Nat):List Int:=(QR w).map λj=>if j+1=k then c else 0
abbrev hls(w:Nat)(c:Int)(n:Nat):List (List Int):=(QR n).map (cU w c)
abbrev rng(n:Nat)(x:Bool):List (Nat×Nat):=(QR n).map (λk=>(k,(k+1) % n))++if x then [(1,0)] else []
structure ZL (w:Nat) (c:Int) (n:Nat) (x:Bool) (ts:List Tn):Prop where
 c1:1<=c
 c3:c<=3
 n2:2<=n
 nw:n<=w+1
 w5:w<=5
 xn:x=true->2<n
 eq:ts.map b_=(rng n x).map (iU (hls w c n))
 pc:∀t∈ts,gC t.q t.d
def uy{w:Nat}{s:Nat}(hs:s<w):pt (cU w c k) s=if s+1=k then c else 0:=by
 unfold pt cU;rw[Qz,QD,RG hs];rfl
def im{n k:Nat}(h:k<n):(hls w c n).getD k []=cU w c k:=by
 unfold hls;rw[Qz,QD,RG h];rfl
def s_:(hls w c n).length=n:=by unfold hls;rw[Qx,Ra]
def IU{w:Nat}{c:Int}(c1:1<=c){j k:Nat}(hj:j<=w)(hk:k<=w)(e:cU w c j=cU w c k):j=k:=by
 rcases ZC j k with l|l|l
 .have:=congrArg (λr=>pt r (k-1)) e
  simp only[uy (show k-1<w by lia)] at this;rw[if_neg (by lia),if_pos (by lia)] at this;lia
 .exact l
 .have:=congrArg (λr=>pt r (j-1)) e
  simp only[uy (show j-1<w by lia)] at this;rw[if_pos (by lia),if_neg (by lia)] at this;lia
def Nb{w:Nat}{c:Int}(c1:1<=c){n:Nat}(nw:n<=w+1):(hls w c n).Nodup :=
 nodup_map_on Wc λa ha b hb e=>IU c1 (by have:=Rb.mp ha;lia) (by have:=Rb.mp hb;lia) e
def y9{n:Nat}{x:Bool}(n2:2<=n)(n6:n<=6)(xn:x=true->2<n):(rng n x).Nodup/\(rng n x).length<=8/\rng n x≠[]/\∀p∈rng n x,lG n p:=by
 have h:n=2\/n=3\/n=4\/n=5\/n=6:=by lia
 unfold lG;cases x with
 |false=>rcases h with rfl|rfl|rfl|rfl|rfl <;> decide
 |true =>
  have:=xn rfl
  rcases h with rfl|rfl|rfl|rfl|rfl
  .lia
  all_goals decide
def ZL.turns(h:ZL w c n x ts):vB w (hls w c n)/\(hls w c n).length<=8/\tR (hls w c n) ts:=by
 have nw:=h.nw;have w5:=h.w5;obtain⟨a,b,d,e⟩:=y9 h.n2 (by lia) h.xn;have nd:=Nb h.c1 nw;refine⟨⟨nd,λr hr=>?_⟩,by rw[s_];lia,Good.turns ⟨a,b,h.eq,by rw[s_];exact e,h.pc⟩ nd d⟩;unfold hls at hr;obtain⟨k,_,rfl⟩:=QU.mp hr;refine⟨by unfold cU;rw[Qx,Ra],λy hy=>?_⟩;unfold cU at hy;obtain⟨j,_,rfl⟩:=QU.mp hy
 have:=h.c1
 have:=h.c3
 split <;> lia
def ZL.at_(h:ZL w c n x ts){i j:Nat}(e:(i,j)∈rng n x):∃t∈ts,t.fr=cU w c i/\t.to=cU w c j:=by
 have o:=(y9 h.n2 (by have:=h.nw;have:=h.w5;lia) h.xn).2.2.2 _ e;have m:iU (hls w c n) (i,j)∈ts.map b_:=by rw[h.eq];exact So e
 obtain⟨t,ht,q⟩:=QU.mp m;unfold iU b_ at q;rw[im o.1,im o.2.1] at q;exact⟨t,ht,congrArg Ws q,congrArg VS q⟩
def ZL.F3(h:ZL w c n x ts){t:Tn}(ht:t∈ts):∃i j,i<n/\j<n/\t.fr=cU w c i/\t.to=cU w c j:=by
 have m:b_ t∈(rng n x).map (iU (hls w c n)):=by rw[<- h.eq];exact So ht
 obtain⟨⟨i,j⟩,hp,q⟩:=QU.mp m;have o:=(y9 h.n2 (by have:=h.nw;have:=h.w5;lia) h.xn).2.2.2 _ hp;unfold iU b_ at q;rw[im o.1,im o.2.1] at q;exact⟨i,j,o.1,o.2.1,(congrArg Ws q).symm,(congrArg VS q).symm⟩
def jq(h:Rch es a b)(k:Rch es b d):Rch es a d:=by
 induction k with
 |refl=>exact h
 |step _ e ih=>exact .step ih e
def ZL.all(h:ZL w c n x ts):hJ ts:=by
 have edge:∀{i j:Nat},(i,j)∈rng n x->Rch (aq ts) (ix (aH ts) (cU w c i)) (ix (aH ts) (cU w c j)):=λ{i j} e=>by
  obtain⟨t,ht,e1,e2⟩:=h.at_ e;refine .step .refl ?_;unfold aq;exact QU.mpr ⟨t,ht,by rw[e1,e2]⟩
 have up:∀d i,i+d<n->Rch (aq ts) (ix (aH ts) (cU w c i)) (ix (aH ts) (cU w c (i+d))):=by
  intro d
  induction d with
  |zero=>intro i _;exact .refl
  |succ d ih =>
   intro i hi;refine jq (ih i (by lia)) (edge ?_);unfold rng;refine Rc _ (QU.mpr ⟨i+d,Rb.mpr (by lia),?_⟩);rw[Nat.mod_eq_of_lt (by lia)];rfl
 have wrap:Rch (aq ts) (ix (aH ts) (cU w c (n-1))) (ix (aH ts) (cU w c 0)):=edge (by
  unfold rng
  have:=h.n2
  refine Rc _ (QU.mpr ⟨n-1,Rb.mpr (by lia),?_⟩)
  rw[show n-1+1=n by lia,Nat.mod_self])
 intro j a b e;unfold aq at e;rw[QD] at e;obtain⟨t,ht,e⟩:=QG.mp e;cases e;obtain⟨i,k,hi,hk,e1,e2⟩:=h.F3 (QI ht);rw[e1,e2];have a1:=up (n-1-k) k (by lia);rw[show k+(n-1-k)=n-1 by lia] at a1;have a2:=up i 0 (by lia);rw[UR] at a2;exact jq a1 (jq wrap a2)
def ZL.one(h:ZL w c n x ts)(o:iS w ts):∀m∈mks ts,One (wW ts) m:=by
 intro m hm p hp;obtain⟨cs,cl⟩:=An o hm;obtain⟨lm,_,_⟩:=gm o hm;have c1:=h.c1;have nw:=h.nw
 have cls:∀i,i<(aH ts).length->∃k,k<n/\(aH ts).getD i []=cU w c k:=λi hi=>by
  have sub:∀y∈aH ts,y∈hls w c n:=uT ts [] (λt ht=>by
   obtain⟨a,b,ha,hb,e1,e2⟩:=h.F3 ht
   unfold hls
   exact⟨QU.mpr ⟨a,Rb.mpr ha,e1.symm⟩,QU.mpr ⟨b,Rb.mpr hb,e2.symm⟩⟩) λx h=>by cases h
  have:=sub _ (Ry hi)
  unfold hls at this;obtain⟨k,hk,e⟩:=QU.mp this;exact⟨k,Rb.mp hk,by rw[Qz,Qy hi];exact e.symm⟩
 have inj:∀i j,i<(aH ts).length->j<(aH ts).length->(aH ts).getD i []=(aH ts).getD j []->i=j:=λi j hi hj e=>by
  rw[Qz,Qy hi,Qz,Qy hj] at e;exact(UL (qm ts)).mp e
 have big:∀i,i<(aH ts).length->∀k,0<k->k<n->(aH ts).getD i []=cU w c k->pt m i=0:=λi hi k k0 hk e=>by
  have s:=cs (k-1) (by lia);rw[uk hi λj hj ne=>?_,e,uy (by lia),if_pos (by lia)] at s
  .rcases Sq.mp s with z|z
   .lia
   .exact z
  .obtain⟨k',hk',e'⟩:=cls j hj;rw[e',uy (by lia),if_neg λz=>ne (inj j i hj hi (by rw[e,e'];congr 1;lia)),TL]
 have all:∀i,i<(aH ts).length->pt m i=0:=λi hi=>by
  obtain⟨k,hk,e⟩:=cls i hi;by_cases z:k=0
  .have s:=cl i hi;rw[uk hi λj hj ne=>?_,if_pos rfl] at s
   .exact s
   .obtain⟨k',hk',e'⟩:=cls j hj
    have:k'≠0:=λy=>ne (inj j i hj hi (by rw[e,e',z,y]))
    rw[big j hj k' (by lia) hk' e'];split <;> rfl
  .exact big i hi k (by lia) hk e
 have:=GV (f:=λn=>(bD p n:Int)) (w:=Wt ts) (m:=m) (aH ts).length (by lia)
 rw[QM (by lia)] at this;show vs _ (wl (Wt ts) (aH ts).length) m=0;rw[this];exact fR λk hk=>by rw[all k hk,TL]
end Gn
namespace Gn
open PySem L2 Fr G1 Sm Vs G2 Rk Sz Sf Rw Ti Lo Lc Tr Pw
open PySem.W (Dat kqdOk)
structure Qm (ws:List Str) (ts:List Tn):Prop where
 vo:oz ws ts
 af:hJ ts
 on:∀m∈mks ts,One (wW ts) m
abbrev Ot(K:Fg):Sp:=λvs H Q _=>∃(a:Addr) (ns:List Int) (t:Int),vs=[.ref a,.int t]/\SqL K H a (ns.map V.int)/\0<=t/\∀(p:Addr) (H':Hp) (ws:List Str) (ts:List Tn),Same H H'->Qm ws ts->Rz K H' (.ref p) (dV ws ts)->Q (.ref p) H'
abbrev yx(K:Fg):Sp:=λvs H Q _=>∃(a:Addr) (ns:List Int) (t:Int),vs=[.ref a,.int t]/\SqL K H a (ns.map V.int)/\0<=t/\∀(p:Addr) (H':Hp) (ws:List Str) (ts:List Tn) (c:Int) (n:Nat) (x:Bool),Same H H'->oz ws ts->ZL ws.length c n x ts->Rz K H' (.ref p) (dV ws ts)->Q (.ref p) H'
abbrev HC(K:Fg):Sp:=Ot K
def JW(vo:oz ws ts):iS ws.length ts/\0<(aH ts).length:=by
 have ho:=PF vo;obtain⟨hs,po,h8,tk⟩:=vo.turns;have sub:∀x∈aH ts,x∈hs:=uT ts [] (λt ht=>⟨(tk.ok t ht).1,(tk.ok t ht).2.1⟩) λx h=>by cases h
 refine⟨⟨PV vo,ho.h8,ho.l8,ho.wide,ho.bnd,λr hr c hc=>((po.2 r (sub r hr)).2 c hc).1,λt ht=>(tk.ok t ht).2.2.2⟩,?_⟩;cases ts with
 |nil=>exact absurd rfl tk.ne
 |cons t ts=>exact X8 (dF (hs:=[]) (QK (a:=t) (l:=ts))).1
def Ee(h:Co w u ts):∀t∈ts,∃s∈ts,s.fr=t.to/\s.to=t.fr:=by
 induction h with
 |nil=>intro t h;cases h
 |cons x y R e1 e2 _ _ ih =>
  intro t ht;rcases Q8.mp ht with z|z
  .obtain⟨s,hs,q⟩:=ih t z;exact⟨s,Rc _ hs,q⟩
  .rcases Q5.mp z with z|z
   .rw[z];exact⟨y,by simp,e1,e2⟩
   .rw[QY.mp z];exact⟨x,by simp,e2.symm,e1.symm⟩
def IM(h:Co w u ts):hJ ts:=by
 intro j x y e;unfold aq at e;rw[QD] at e;obtain⟨t,ht,e⟩:=QG.mp e;cases e;obtain⟨s,hs,e1,e2⟩:=Ee h t (QI ht);refine .step .refl ?_;unfold aq;refine QU.mpr ⟨s,hs,?_⟩;rw[e1,e2]
nonrec abbrev CA(K:Fg):TS:=(am (aw (bo (cC K) (ae (fA (ck (ae (aa 3) ag)) (ar (rI CMul λi j=>.int (i*j)) (bo IE (ae (ar fV (aa 0) (ar iF (aa 7) (tC (.int 1)))) ag)) (ar aZ (tC (.int 1)) (ar aU (ar cg (aa 3) (tC (.int 25))) (tC (.int 3)))))) ag)) (al 7))
 (bz (cZ K "list" aO (aa 5) (ae (aa 7) ag))))
nonrec abbrev Cz (K:Fg):TS:=(bz (cZ K "list" aO (aa 8) (ae (bq (ae (ar (bJ K) (aa 5) (aa 6)) (ae (ar (bJ K) (aa 5) (ar aU (ar aZ (aa 6) (tC (.int 1))) (aa 4))) (ae (aD (i9 K) [] E0 (ae (ar cg (aa 9) (tC (.int 7))) (ae (ar aZ (tC (.int 1)) (ar aU (aa 9) (tC (.int 2)))) ag))) ag)))) ag)))
nonrec abbrev Cy (K:Fg):TS:=(bz (cZ K "list" aO (aa 8) (ae (bq (ae (ar (bJ K) (aa 5) (tC (.int 1))) (ae (ar (bJ K) (aa 5) (tC (.int 0))) (ae (aD (i9 K) [] E0 (ae (aD (c6 K) [] E0 (ae (aa 0) (ae (ar aZ (aa 1) (tC (.int 7))) ag))) (ae (tC (.int 1)) ag))) ag)))) ag)))
nonrec abbrev Cw(K:Fg):TS:=(am (aS (mB (aR (ar wN (aa 4) (tC (.int 2)))) (aR (ar fV (ar aU (ar cg (aa 2) (tC (.int 75))) (tC (.int 2))) (tC (.int 1)))))
 (Cy K)
 aV)
 (aG (bq (ae (aD (gg K) [] E0 (ae (ar cg (aa 2) (tC (.int 150))) (ae (aa 3) ag))) (ae (bo (cC K) (ae (aa 8) ag)) ag)))))
nonrec abbrev Cv(K:Fg):TS:=(am (aw (bR ag) (al 8))
 (am (aW (ck (ae (aa 4) ag)) (al 6)
 (am (aw (aD (c6 K) [] E0 (ae (aa 0) (ae (ar aZ (ar aZ (aa 1) (tC (.int 1))) (aa 6)) ag))) (al 9))
 (Cz K)))
 (Cw K)))
nonrec abbrev Cu(K:Fg):TS:=(am (aw (ar aZ (tC (.int 1)) (ar aU (aa 2) (tC (.int 5)))) (al 3))
 (am (aw (ar aZ (tC (.int 2)) (ar aU (ar cg (aa 2) (tC (.int 5))) (aa 3))) (al 4))
 (am (aw (bR ag) (al 5))
 (am (aW (ck (ae (aa 4) ag)) (al 6)
 (CA K))
 (Cv K)))))
abbrev xj(K:Fg):TS:=(am (aw (aD dH [] E0 (ae (aD (c6 K) [] E0 (ae (aa 0) (ae (aa 1) ag))) (ae (tC (.int 3)) ag))) (al 2))
 (Cu K))
def IT:(cU w c k).length=w:=by unfold cU;rw[Qx,Ra]
def HR{K:Fg}:ρ 10 (yx K) (xj K):=by
 fail "R";obtain⟨a,ns,t,rfl,hS,t0,k⟩:=h;rw[L2.aP hN];walk_at "t";unfold xj;cbv;refine⟨a,ns,t,rfl,hS,t0,?_⟩;cbv;refine⟨_,_,rfl,by decide,by decide,λm mx=>?_⟩;have m0:0<=m:=mx.1;cbv;refine⟨by decide,λD nD=>?_⟩;have A1:AccZ K H D (upd H D (.lst [])) []:=AccZ.start (Same.refl _) nD;generalize upd H D (.lst [])=H1 at A1 ⊢;obtain⟨w,hw⟩:∃w:Nat,1+m % 5=(w:Int):=⟨(1+m % 5).toNat,by lia⟩
 obtain⟨n,hn⟩:∃n:Nat,2+m / 5 % (1+m % 5)=(n:Int):=⟨(2+m / 5 % (1+m % 5)).toNat,by have:=Sv (m / 5) (by lia:1+m % 5≠0);lia⟩
 have w1:1<=w:=by lia
 have w5:w<=5:=by lia
 have n2:2<=n:=by have:=Sv (m / 5) (by lia:1+m % 5≠0);lia
 have nw:n<=w+1:=by have:=Sj (m / 5) (by lia:0<1+m % 5);lia
 obtain⟨c,hc⟩:∃c:Int,1+m / 25 % 3=c:=⟨_,rfl⟩
 have c1:1<=c:=by lia
 have c3:c<=3:=by lia
 rw[hn,hw];cbv;rw[RJ];refine aT (λi σ H2=>∃u6 u7:Option V,σ=[⇑a,↥t,↥m,↥(w:Int),↥(n:Int),⇑D,u6,u7,none,none]/\AccZ K H D H2 ((hls w c i).map dI)) ⟨none,none,rfl,A1⟩ ?_ ?_
 .rintro i σ H2 hi ⟨u6,u7,rfl,A2⟩;cbv;rw[RJ];refine c_ λDl nD=>⟨λj H4=>AccZ K H2 Dl H4 ((cU j c i).map Rn),AccZ.start (Same.refl _) nD,?_,?_⟩
  .intro j H4 hj B
   have put:∀x:Int,x=(if j+1=i then c else 0)->oB Dl w j (λj H4=>AccZ K H2 Dl H4 ((cU j c i).map Rn)) (.int x) H4:=by
    intro x ex;refine a6 hj (B.cA (.int x) (av ?_) λH5 B5=>?_)
    .rw[Qx,IT];lia
    .show AccZ K H2 Dl H5 ((cU (j+1) c i).map Rn);unfold cU;rw[Tc,QJ,QJ,VD,VD,<- ex];exact B5
   cbv;refine put _ ?_;by_cases z:j+1=i
   .rw[if_pos (by rw[decide_eq_true (by lia)]),if_pos z,Va,hc]
   .rw[if_neg (by rw[decide_eq_false (by lia)];decide),if_neg z,TL]
  .intro H4 B;have eB:=AccZ.ints B;have hl:(hls w c (i+1)).map dI=(hls w c i).map dI++[dI (cU w c i)]:=by unfold hls;rw[Tc,QJ,QJ];rfl
   cbv;refine eM (SqL.of eB) λq nq=>?_
   have S5:=B.same.trans (ak nq (.tup ((cU w c i).map V.int)));have r5:Rz K (upd H4 q (.tup ((cU w c i).map V.int))) (.ref q) (dI (cU w c i)):=.tup aj (RpL.ints _);generalize upd H4 q (.tup ((cU w c i).map V.int))=H5 at S5 r5 ⊢;have A5:=A2.on S5;cbv;refine⟨A5.ty,?_⟩;cbv;refine bV A5 r5 (av (by rw[Qx,s_];lia)) λH6 A6 _ _ _=>?_
   cbv;exact⟨_,_,rfl,by rw[hl];exact A6⟩
 .rintro σ H2 ⟨u6,u7,rfl,A2⟩;obtain⟨zs,hz,rz⟩:=A2.at_;have S2:=A2.same;cbv;refine⟨by decide,λl nl=>?_⟩;have A3:AccZ K H2 l (upd H2 l (.lst [])) []:=AccZ.start (Same.refl _) nl;generalize upd H2 l (.lst [])=H3 at A3 ⊢
  have at_:∀{H5:Hp} {j:Nat},Same H2 H5->j<n->∃y,zs[j]?=some y/\Rz K H5 y (dI (cU w c j)):=λ{H5 j} S hj=>by
   obtain⟨y,e,r⟩:=rz.get' (i:=j) (d:=dI (cU w c j)) (by unfold hls;rw[QD,QD,RG hj];rfl);exact⟨y,e,r.same S⟩
  cbv;rw[RJ];refine aT (λi σ H4=>∃(ts:List Tn) (u6 u9:Option V),σ=[⇑a,↥t,↥m,↥(w:Int),↥(n:Int),⇑D,u6,u7,⇑l,u9]/\AccZ K H2 l H4 (ts.map dT)/\ts.map b_=((QR i).map λk=>(k,(k+1) % n)).map (iU (hls w c n))/\∀t∈ts,gC t.q t.d) ⟨[],_,none,rfl,A3,rfl,λt h=>by cases h⟩ ?_ ?_
  .rintro i σ H4 hi ⟨ts,u6,u9,rfl,A4,em,pc⟩;have lt:ts.length=i:=by have:=congrArg Sr em;rw[Qx,Qx,Qx,Ra] at this;exact this
   have S4:=A4.same;obtain⟨y1,e1,_⟩:=at_ S4 hi;have lm:(i+1) % n<n:=Zas _ (by lia);obtain⟨y2,e2,_⟩:=at_ S4 lm;have em2:(0+(i:Int)+1) % (n:Int)=(((i+1) % n:Nat):Int):=by rw[Int.natCast_emod];congr 1;lia
   cbv;refine⟨a,ns,_,rfl,(S2.trans S4).seq hS,by lia,?_⟩;generalize cellOf ns (t+1+(0+(i:Int)))=c2;cbv;refine⟨A4.ty,?_⟩;cbv;refine bU (SqL.of (S4 _ _ hz)) (v:=y1) (by rw[T0];exact aI e1) ?_;cbv;rw[em2];refine bU (SqL.of (S4 _ _ hz)) (v:=y2) (aI e2) ?_;cbv;refine⟨_,_,rfl,λpa pq pd H5 S5 ok5 r5=>?_⟩;cbv;refine⟨fS,λz nz=>?_⟩;have S6:=ak nz (.tup [y1,y2,.ref pa]);have S26:=S4.trans (S5.trans S6);obtain⟨_,e1',g1⟩:=at_ S26 hi;obtain⟨_,e2',g2⟩:=at_ S26 lm;cases e1.symm.trans e1';cases e2.symm.trans e2';have r6:Rz K (upd H5 z (.tup [y1,y2,.ref pa])) (.ref z) (dT ⟨cU w c i,cU w c ((i+1) % n),pq,pd⟩):=.tup aj (.cons g1 (.cons g2 (.cons (r5.same S6) .nil)));cbv;refine bV (A4.on (S5.trans S6)) r6 (av (by rw[Qx];lia)) λH7 A7 _ _ _=>?_
   cbv;refine⟨ts++[_],_,_,rfl,by rw[QJ];exact A7,?_,cr pc ok5⟩;rw[QJ,em,Tc,QJ,QJ];show _++[(cU w c i,cU w c ((i+1) % n))]=_++[iU (hls w c n) (i,(i+1) % n)]
   unfold iU;rw[im hi,im lm]
  .rintro σ H4 ⟨ts,u6,u9,rfl,A4,em,pc⟩;have lt:ts.length=n:=by have:=congrArg Sr em;rw[Qx,Qx,Qx,Ra] at this;exact this
   have S4:=A4.same
   have fin:∀{u6 u9:Option V} {H5:Hp} {ts:List Tn} {x:Bool},ZL w c n x ts->AccZ K H2 l H5 (ts.map dT)->aG (bq (ae (aD (gg K) [] E0 (ae (ar cg (aa 2) (tC (.int 150))) (ae (aa 3) ag))) (ae (bo (cC K) (ae (aa 8) ag)) ag))) (ends Q) [⇑a,↥t,↥m,↥(w:Int),↥(n:Int),⇑D,u6,u7,⇑l,u9] H5:=by
    intro u6 u9 H5 ts x Z A5;obtain⟨ys,hl,ry⟩:=A5.at_;have S5:=A5.same;cbv;refine⟨_,_,rfl,by lia,by lia,by lia,λpw H6 ws S6 ow lw r6=>?_⟩;cbv;refine eM (SqL.of (S6 _ _ hl)) λp np=>?_
    have S7:=ak np (.tup ys);cbv;refine⟨aQ,λr nr=>?_⟩;have S8:=ak nr (.tup [.ref pw,.ref p]);have r7:Rz K (upd H6 p (.tup ys)) (.ref p) (.tuple (ts.map dT)):=.tup aj ((ry.same S6).same S7);have lw':ws.length=w:=by lia
    obtain⟨t1,t2,t3⟩:=Z.turns;have vo:oz ws ts:=⟨ow,by lia,by lia,_,by rw[lw'];exact t1,t2,t3⟩
    exact k r _ ws ts c n x (S2.trans (S5.trans (S6.trans (S7.trans S8)))) vo (by rw[lw'];exact Z) (.tup aj (.cons ((r6.same S7).same S8) (.cons (r7.same S8) .nil)))
   have Z0:ZL w c n false ts:=⟨c1,c3,n2,nw,w5,(λz=>by cases z),(by rw[em];unfold rng;rw[if_neg (by decide),Tx]),pc⟩
   cbv;refine bb (λc2=>?_) (λc2=>?_)
   .cbv;refine bb (λc4=>?_) (λc4=>?_)
    .have n3:2<n:=by lia
     obtain⟨y1,e1,_⟩:=at_ S4 (show 1<n by lia);obtain⟨y2,e2,_⟩:=at_ S4 (show 0<n by lia);cbv;refine⟨A4.ty,?_⟩;cbv;refine bU (SqL.of (S4 _ _ hz)) (v:=y1) (aI (j:=1) e1) ?_;cbv;refine bU (SqL.of (S4 _ _ hz)) (v:=y2) (aI (j:=0) e2) ?_;cbv;refine⟨a,ns,_,rfl,(S2.trans S4).seq hS,by lia,?_⟩;cbv;refine⟨_,_,rfl,λpa pq pd H5 S5 ok5 r5=>?_⟩;cbv;refine⟨fS,λz nz=>?_⟩;have S6:=ak nz (.tup [y1,y2,.ref pa]);have S26:=S4.trans (S5.trans S6);obtain⟨_,e1',g1⟩:=at_ S26 (show 1<n by lia);obtain⟨_,e2',g2⟩:=at_ S26 (show 0<n by lia);cases e1.symm.trans e1';cases e2.symm.trans e2';have r6:Rz K (upd H5 z (.tup [y1,y2,.ref pa])) (.ref z) (dT ⟨cU w c 1,cU w c 0,pq,pd⟩):=.tup aj (.cons g1 (.cons g2 (.cons (r5.same S6) .nil)));cbv;refine bV (A4.on (S5.trans S6)) r6 (av (by rw[Qx];lia)) λH7 A7 _ _ _=>?_
     refine fin (ts:=ts++[⟨cU w c 1,cU w c 0,pq,pd⟩]) (x:=true) ⟨c1,c3,n2,nw,w5,λ_=>n3,?_,cr pc ok5⟩ (by rw[QJ];exact A7);rw[QJ,em];unfold rng;rw[if_pos rfl,QJ (f:=iU (hls w c n))];show _++[(cU w c 1,cU w c 0)]=_++[iU (hls w c n) (1,0)]
     unfold iU;rw[im (by lia),im (by lia)]
    .exact fin Z0 A4
   .exact fin Z0 A4
abbrev Hr(K:Fg):TS:=(am (aS (aR (ar fV (ar aU (aD (c6 K) [] E0 (ae (aa 0) (ae (aa 1) ag))) (tC (.int 2))) (tC (.int 1))))
 (aG (aD (Pw.sk K) [] E0 (ae (aa 0) (ae (aa 1) ag))))
 aV)
 (aG (aD (Gn.yx K) [] E0 (ae (aa 0) (ae (aa 1) ag)))))
def Lb{K:Fg}:ρ 2 (HC K) (Hr K):=by
 fail "R";obtain⟨a,ns,t,rfl,hS,t0,k⟩:=h;rw[L2.aP hN];walk_at "t";unfold Hr;cbv;refine⟨a,ns,t,rfl,hS,t0,?_⟩;cbv;refine bb (λ_=>?_) (λ_=>?_)
 .cbv;refine⟨a,ns,t,rfl,hS,t0,λp H' ws ts u S vo pr up r=>?_⟩;have af:=IM pr;exact k p H' ws ts S ⟨vo,af,Fa (JW vo).1 af up pr⟩ r
 .cbv;exact⟨a,ns,t,rfl,hS,t0,λp H' ws ts c n x S vo Z r=>k p H' ws ts S ⟨vo,Z.all,Z.one (JW vo).1⟩ r⟩
open PySem L2 Fr G1 Sm Vs G2 Rk Sz Sf Rw Ti Lo Lc Tr Pw Dn Wd
abbrev oS(K:Fg):Sp:=λvs H Q _=>∃t b:Int,vs=[.int t,.int b]/\0<b/\t.natAbs<2 ^ 13500/\b.natAbs<2 ^ 13500/\∀(p:Addr) (q d:Int) (H':Hp),Same H H'->Gd.Low t b q d->q.natAbs<=t.natAbs->d.natAbs<=b.natAbs->Rz K H' (.ref p) (dI [q,d])->Q (.ref p) H'
def OQ{K:Fg}{vs:List V}(h:ib K vs H Q E):oS K vs H Q E:=by
 obtain⟨t,b,e,b0,ht,hb,k⟩:=h;have p:=@pw_lt 8000 13500 (by decide);exact⟨t,b,e,b0,RW ht p,RW hb p,k⟩
abbrev xM(K:Fg):TS:=(am (aw (aD oT [] E0 (ae (aa 0) (ae (aa 1) ag))) (al 2))
 (aG (bq (ae (ar wa (aa 0) (aa 2)) (ae (ar wa (aa 1) (aa 2)) ag)))))
def Ie{K:Fg}:ρ 3 (oS K) (xM K):=by
 fail "R";obtain⟨t,b,rfl,b0,ht,hb,k⟩:=h;rw[L2.aP hN];walk_at "t";unfold xM;have nb:b≠0:=by clear ht hb;lia
 have gp:=Gd.uY (a:=t) nb;have gn:Gd.gd t b≠0:=by clear ht hb;lia
 have L:=Gd.uL (t:=t) (b:=b) (d:=Gd.gd t b) nb (.inl ⟨rfl,b0⟩);have M:=Gd.sU (t:=t) (b:=b) (d:=Gd.gd t b) nb (.inl ⟨rfl,b0⟩);cbv;refine⟨t,b,rfl,?_⟩;cbv;refine cK ⟨gn,ht⟩ ?_;cbv;refine cK ⟨gn,hb⟩ ?_;clear ht hb;cbv;refine⟨aQ,λp np=>?_⟩;exact k p _ _ _ (ak np _) L M.1 M.2 (.tup aj (RpL.ints [_,_]))
abbrev iY(K:Fg):Sp:=λvs H Q _=>∃(a1 a2:Addr) (a b c d:Int),vs=[.ref a1,.ref a2]/\SqT K H a1 [.int a,.int b]/\SqT K H a2 [.int c,.int d]/\0<b*d/\oF a c/\oF b d/\(a*c).natAbs<2 ^ 13500/\(b*d).natAbs<2 ^ 13500/\∀(p:Addr) (H':Hp),Same H H'->Rz K H' (.ref p) (dQ (Q9 (a*c) (b*d)))->Q (.ref p) H'
abbrev lZ(K:Fg):TS:=(aG (aD (Gn.oS K) [] E0 (ae (ar cO (ar (aE K) (aa 0) (tC (.int 0))) (ar (aE K) (aa 1) (tC (.int 0)))) (ae (ar cO (ar (aE K) (aa 0) (tC (.int 1))) (ar (aE K) (aa 1) (tC (.int 1)))) ag))))
def zc{K:Fg}:ρ 2 (iY K) (lZ K):=by
 fail "R";obtain⟨a1,a2,a,b,c,d,rfl,h1,h2,bd,m1,m2,n1,n2,k⟩:=h;rw[L2.aP hN];walk_at "t";unfold lZ;cbv;refine aF h1 (v:=.int a) rfl ?_;cbv;refine aF h2 (v:=.int c) rfl ?_;refine cK m1 ?_;cbv;refine aF h1 (v:=.int b) rfl ?_;cbv;refine aF h2 (v:=.int d) rfl ?_;refine cK m2 ?_;clear m1 m2;cbv;refine⟨_,_,rfl,bd,n1,n2,λp q d H' S L _ _ r=>?_⟩;obtain⟨e1,e2⟩:=eK (by clear n1 n2;lia) L;rw[e1,e2] at r;exact k p H' S r
def G3{K:Fg}{vs:List V}(h:gh K vs H Q E):iY K vs H Q E:=by
 obtain⟨v,c,x,a,b,rfl,rv,hc,b0,a4,b4,bx,k⟩:=h;obtain⟨d,rfl,hd⟩:=rv;have sm4:∀n:Nat,n<=4->((n:Int)).natAbs<2 ^ 3900:=λn h=>Q4 (by lia:((n:Int)).natAbs<=4) (Re (by decide:4<2 ^ 3) (QW (by decide) (by decide)))
 have p:=@pw_lt 7800 13500 (by decide);refine⟨d,c,_,_,_,_,rfl,hd,hc,Xq (by have:=x.den_nz;lia) (by lia),⟨Bq.w bx.1,Bq.w (sm4 a a4)⟩,⟨Bq.w bx.d,Bq.w (sm4 b b4)⟩,RW (Bq.mul bx.1 (sm4 a a4)) p,RW (Bq.mul bx.d (sm4 b b4)) p,λq H' S r=>k q H' S ?_⟩
 rwa [<- Ss,RO] at r
abbrev iX(K:Fg):Sp:=λvs H Q _=>∃(v u:V) (x y:Rat),vs=[v,u]/\QV K H v x/\QV K H u y/\oF x.num y.num/\oF x.den y.den/\(x.num*y.num).natAbs<2 ^ 13500/\((x.den:Int)*y.den).natAbs<2 ^ 13500/\∀(p:Addr) (H':Hp),Same H H'->Rz K H' (.ref p) (dQ (x*y))->Q (.ref p) H'
def G0{K:Fg}{vs:List V}(h:iX K vs H Q E):iY K vs H Q E:=by
 obtain⟨v,u,x,y,rfl,⟨a,rfl,ha⟩,⟨b,rfl,hb⟩,m1,m2,n1,n2,k⟩:=h;refine⟨a,b,_,_,_,_,rfl,ha,hb,Xq (by have:=x.den_nz;lia) (by have:=y.den_nz;lia),m1,m2,n1,n2,λq H' S r=>k q H' S ?_⟩
 rwa [<- Ss,RO,RO] at r
abbrev ri(m:Nat):Nat->Nat
 |0=>1
 |i+1=>ri m i*(m+1+i)
def KU{m:Nat}:∀i,ri m i*fc m=fc (m+i)
 |0=>by show 1*fc m=fc m;rw[Vb]
 |i+1=>by
  show ri m i*(m+1+i)*fc m=(m+i+1)*fc (m+i);rw[<- KU i,Nat.mul_right_comm,Se,show m+1+i=m+i+1 by lia]
def Ow(m n:Nat):ri m (n-m)=dn n m:=by
 by_cases c:m<=n
 .have e:=KU (m:=m) (n-m);have d:=No n m;rw[show m+(n-m)=n by lia] at e;rw[show dn m n=1 by unfold dn;rw[show m-n=0 by lia];rfl,T_,<- e] at d;exact(Nat.eq_of_mul_eq_mul_right (Bp m) d).symm
 .unfold dn;rw[show n-m=0 by lia];rfl
def KS{m b:Nat}:∀{i:Nat},m+i<2 ^ b->ri m i<=2 ^ (b*i)
 |0,_=>QH _
 |i+1,h=>by
  show ri m i*(m+1+i)<=_;rw[ZI,SO];exact Rt (KS (by lia)) (by lia)
abbrev Dd:Sp:=λvs H Q _=>∃m n b:Nat,vs=[.int (m:Int),.int (n:Int)]/\n<2 ^ b/\b<1000/\b*(n-m)<19000/\Q (.int (dn n m:Int)) H
abbrev Hq(K:Fg):TS:=(am (aw (tC (.int 1)) (al 2))
 (am (aW (JO (ae (ar aZ (aa 0) (tC (.int 1))) (ae (ar aZ (aa 1) (tC (.int 1))) ag))) (al 3)
 (aw (ar cO (aa 2) (aa 3)) (al 2)))
 (aG (aa 2))))
def La{K:Fg}:ρ 4 Dd (Hq K):=by
 fail "R";obtain⟨m,n,b,rfl,nb,b1,bk,q⟩:=h;rw[L2.aP hN];walk_at "t";unfold Hq;cbv;refine MF ?_;cbv;refine⟨_,_,rfl,?_⟩;rw[show((n:Int)+1-((m:Int)+1)).toNat=n-m by lia];refine aT (λi σ H2=>∃u3:Option V,σ=[↥(m:Int),↥(n:Int),↥(ri m i:Int),u3]/\H2=H) ⟨none,rfl,rfl⟩ ?_ ?_
 .rintro i σ H2 hi ⟨u3,rfl,rfl⟩;have p1:ri m i<=2 ^ (b*i):=KS (by lia);have p2:b*i<=b*(n-m):=Rh b (by lia);cbv;refine cK ⟨sQ (n:=((ri m i:Nat):Int).natAbs) (m:=b*i) (by rw[Q2];exact p1) (by lia),sQ (n:=((m:Int)+1+(i:Int)).natAbs) (m:=b) (by lia) (by lia)⟩ ?_;cbv;refine⟨some (.int ((m:Int)+1+(i:Int))),?_,rfl⟩
  rw[show(ri m i:Int)*((m:Int)+1+(i:Int))=(ri m (i+1):Int) by
   show _=((ri m i*(m+1+i):Nat):Int)
   rw[Rs];rfl]
  rfl
 .rintro σ H2 ⟨u3,rfl,rfl⟩;rw[Ow];cbv;exact q
def PR{x y:Rat}(hy:0<y):Q9 (x.num*(y.den:Int)) ((x.den:Int)*y.num)=x*y⁻¹:=by
 rw[<- Ss,RO,<- Xa,RO]
abbrev si(K:Fg):Sp:=λvs H Q _=>∃(v u:V) (f:Addr) (ws:List Str) (ts:List Tn) (t:Tn) (w:Nat) (xs:List V) (k:Nat) (cs ds:List Nat) (b e:Nat),vs=[v,.ref f,.int (k:Int),u]/\Rz K H v (dV ws ts)/\iS w ts/\hJ ts/\Wb ts/\H f=some (.lst xs)/\xs.length=(aH ts).length/\(∀i x,xs[i]?=some x->QV K H x (Wt ts i))/\ts[k]?=some t /\
 Rz K H u (dI (ni cs))/\t.fr.length=cs.length/\t.to.length=cs.length/\beh (Dn.pr t) (ni cs)=ni ds/\Nr b e cs ds/\1024+5*(b*e)<=13000/\∀(p:Addr) (H':Hp),Same H H'->Rz K H' (.ref p) (dQ (gn (sW (aq ts) (Wt ts)) [k] cs ds))->Q (.ref p) H'
nonrec abbrev xQ(K:Fg):TS:=(am (aW (qj K .T .T (ae (aa 3) (ae (aD (e9 K) [] E0 (ae (ar (aE K) (ar (aE K) (aa 0) (tC (.int 1))) (aa 2)) (ae (aa 3) ag))) ag))) (cx K 2 (aX (al 9) (aX (al 10) cy)))
 (am (aw (ar cO (aa 7) (aD Gn.Dd [] E0 (ae (aa 10) (ae (aa 9) ag)))) (al 7))
 (aw (ar cO (aa 8) (aD Gn.Dd [] E0 (ae (aa 9) (ae (aa 10) ag)))) (al 8))))
 (aG (aD (Gn.oS K) [] E0 (ae (aa 7) (ae (aa 8) ag)))))
nonrec abbrev xP(K:Fg):TS:=(am (C4 5 6 (ae (ar (bJ K) (aa 1) (ar (aE K) (ar (bJ K) (aa 4) (aa 2)) (tC (.int 0)))) (ae (ar (bJ K) (aa 1) (ar (aE K) (ar (bJ K) (aa 4) (aa 2)) (tC (.int 1)))) ag)))
 (am (aw (ar cO (ar (aE K) (aa 6) (tC (.int 0))) (ar (aE K) (aa 5) (tC (.int 1)))) (al 7))
 (am (aw (ar cO (ar (aE K) (aa 6) (tC (.int 1))) (ar (aE K) (aa 5) (tC (.int 0)))) (al 8))
 (xQ K))))
abbrev rA(K:Fg):TS:=(am (aw (aD (fF K) [] E0 (ae (aa 0) ag)) (al 4))
 (xP K))
def DQ{K:Fg}:ρ 11 (si K) (rA K):=by
 fail "R";obtain⟨v,u,f,ws,ts,t,w,xs,k0,cs,ds,b,e,rfl,rv,o,af,wb,hf,lf,qf,ht,ru,l1,l2,eb,nr,bd,k⟩:=h;obtain⟨v0,v1,v2,rfl,hv,_,r2⟩:=iO rv;obtain⟨vb,ys,rfl,hvb,ry⟩:=r2.b5;obtain⟨a1,rfl,h1⟩:=bM ru;rw[L2.aP hN];walk_at "t";have t8:=o.co.le;have h8:=o.h8;have bk:∀e∈aq ts,Rch (aq ts) e.2 e.1:=λe he=>by obtain⟨j,hj⟩:=RA he;exact af j e.1 e.2 hj
 have le:(aq ts).length=ts.length:=by unfold aq;rw[Qx]
 have kt:k0<ts.length:=(QC.mp ht).1;have Wp:∀k,k<(aH ts).length->0<Wt ts k:=λk hk=>fY.mp (fI o.pa bk hk)
 obtain⟨o1,o2⟩:=bS ts _ (tt (es:=aq ts) (k:=k0) (by lia));have hx:(aq ts)[k0]?=some (fro (aq ts) k0,tow (aq ts) k0):=by unfold fro tow;rw[Qz,Qy (by lia)];rfl
 obtain⟨yt,et,rt⟩:=ry.get' (i:=k0) (d:=dT t) (by rw[QD,ht];rfl);unfold rA;cbv;refine⟨.ref v0,ws,ts,rfl,rv,by lia,λe1 H1 A1=>?_⟩;obtain⟨zs,he,rz⟩:=A1.at_;have S1:=A1.same;obtain⟨_,ez,rq⟩:=rz.get' (i:=k0) (d:=dP (fro (aq ts) k0,tow (aq ts) k0)) (by rw[QD,hx];rfl);obtain⟨ec,rfl,hec⟩:=bM rq;have hec:H1 ec=some (.tup [.int (fro (aq ts) k0:Int),.int (tow (aq ts) k0:Int)]):=hec;have q1:∃x,xs[fro (aq ts) k0]?=some x:=⟨_,Qy (by lia)⟩
 have q2:∃x,xs[tow (aq ts) k0]?=some x:=⟨_,Qy (by lia)⟩
 obtain⟨x1,ex1⟩:=q1;obtain⟨x2,ex2⟩:=q2;obtain⟨g1,rfl,s1⟩:=(qf _ _ ex1).same S1;obtain⟨g2,rfl,s2⟩:=(qf _ _ ex2).same S1;have W1:=Wp _ o1;have W2:=Wp _ o2;have b1:=wb _ o1;have b2:=wb _ o2;have P1:=fI o.pa bk o1;have P2:=fI o.pa bk o2;have dw:=PR (x:=Wt ts (tow (aq ts) k0)) W1;have eW:pl (sW (aq ts) (Wt ts)) [k0]=Wt ts (tow (aq ts) k0)*(Wt ts (fro (aq ts) k0))⁻¹:=by show sW _ _ _*1=_;rw[SR];rfl
 have D1:=RN (Wt ts (fro (aq ts) k0)).den_nz;have D2:=RN (Wt ts (tow (aq ts) k0)).den_nz;cbv;refine bU (SqL.of he) (v:=.ref ec) (aI ez) ?_;cbv;refine aF (SqT.of hec) (v:=.int (fro (aq ts) k0:Int)) rfl ?_;refine bU (SqL.of (S1 _ _ hf)) (v:=.ref g1) (aI ex1) ?_;cbv;refine bU (SqL.of he) (v:=.ref ec) (aI ez) ?_;cbv;refine aF (SqT.of hec) (v:=.int (tow (aq ts) k0:Int)) rfl ?_;refine bU (SqL.of (S1 _ _ hf)) (v:=.ref g2) (aI ex2) ?_;cbv;generalize Wt ts (fro (aq ts) k0)=X at *;generalize Wt ts (tow (aq ts) k0)=Y at *;obtain⟨A,hA⟩:∃A:Nat,Y.num*(X.den:Int)=(A:Int):=⟨Y.num.natAbs*X.den,by rw[Rs];congr 1;lia⟩
 obtain⟨B,hB⟩:∃B:Nat,(Y.den:Int)*X.num=(B:Int):=⟨Y.den*X.num.natAbs,by rw[Rs];congr 1;lia⟩
 have iU:(2:Nat) ^ 512*2 ^ 512=2 ^ 1024:=by rw[<- SO]
 have aA:A<=2 ^ 1024:=by
  have:=congrArg Yb hA
  rw[RM,Q2,Q2] at this;rw[<- this,<- iU];exact Rt b2.1 b1.2
 have aB:B<=2 ^ 1024:=by
  have:=congrArg Yb hB
  rw[RM,Q2,Q2] at this;rw[<- this,<- iU];exact Rt b2.2 b1.1
 have B0:0<B:=by have:=Xq (by lia:(0:Int)<Y.den) P1;lia
 have dAB:Q9 A B=pl (sW (aq ts) (Wt ts)) [k0]:=by rw[<- hA,<- hB,dw,eW]
 have c20:∀{x:Int},x.natAbs<=2 ^ 512->x.natAbs<2 ^ 20000:=λh=>sQ h (by decide)
 refine⟨_,_,rfl,?_⟩;cbv;refine aF s2 (v:=.int Y.num) rfl ?_;cbv;refine aF s1 (v:=.int (X.den:Int)) rfl ?_;refine cK ⟨c20 b2.1,c20 (by rw[Q2];exact b1.2)⟩ ?_;rw[hA];cbv;refine aF s2 (v:=.int (Y.den:Int)) rfl ?_;cbv;refine aF s1 (v:=.int X.num) rfl ?_;refine cK ⟨c20 (by rw[Q2];exact b2.2),c20 b1.1⟩ ?_;rw[hB];clear c20 iU;cbv;refine aF (SqT.of (S1 _ _ hv)) (v:=.ref vb) rfl ?_;cbv;refine aF (SqT.of (S1 _ _ hvb)) (v:=yt) (aI et) ?_;cbv;have lc:(ni cs).length=cs.length:=by unfold ni;rw[Qx]
 have five:=nr.five;refine⟨yt,.ref a1,t,ni cs,rfl,rt.same S1,ru.same S1,by lia,by lia,by lia,λpb H2 S2 rb=>?_⟩;rw[eb] at rb;obtain⟨_,e0,h2⟩:=bM rb;cases e0;have S12:=S1.trans S2;cbv;refine⟨a1,pb,_,_,rfl,SqT.of (S12 _ _ h1),SqT.of h2,?_⟩;have l3:((ni cs).map V.int).length=cs.length:=by rw[Qx,lc]
 have l4:((ni ds).map V.int).length=cs.length:=by unfold ni;rw[Qx,Qx,nr.len]
 have big:∀i,i<=cs.length->1024+i*(b*e)<=13000:=λi hi=>by
  have:=RC (b*e) (by lia:i<=5)
  lia
 have tb:∀{x y:Nat} (i:Nat),i<=cs.length->x<=2 ^ 1024->y<=2 ^ (i*(b*e))->x*y<2 ^ 13500:=λ{x y} i hi hx hy=>by
  refine Q4 (Rt hx hy) ?_;rw[<- SO];exact R5 (by decide) (by have:=big i hi;lia)
 have p135:(2:Nat) ^ 13500<2 ^ 20000:=R5 (by decide) (by decide);clear b1 b2 dw;refine tm (n:=cs.length) l3 l4 (λi σ H4=>∃u9 u10:Option V,σ=[⇑v0,⇑f,↥(k0:Int),⇑a1,⇑e1,⇑g1,⇑g2,some (.int ((A*Gn.dp (cs.take i) (ds.take i):Nat):Int)),some (.int ((B*Gn.dp (ds.take i) (cs.take i):Nat):Int)),u9,u10]/\Same H2 H4) ⟨none,none,by show _=[_,_,_,_,_,_,_,some (V.int ((A*1:Nat):Int)),some (V.int ((B*1:Nat):Int)),_,_];rw[T_,T_];rfl,Same.refl _⟩ (by rintro i σ H4 _ ⟨_,_,_,S4⟩;exact ⟨SqT.of (S4 _ _ (S12 _ _ h1)),SqT.of (S4 _ _ h2)⟩) ?_ ?_
 .rintro i x y σ H4 T hx hy ⟨u9,u10,rfl,S4⟩ nT;unfold ni at hx hy;rw[QD,QD] at hx hy;obtain⟨_,f0,rfl⟩:=QG.mp hx;obtain⟨c,f1,rfl⟩:=QG.mp f0;obtain⟨_,f2,rfl⟩:=QG.mp hy;obtain⟨d,f3,rfl⟩:=QG.mp f2;obtain⟨n1,n2⟩:=nr.near i c d f1 f3;have li:i<cs.length:=(QC.mp f1).1;have c1:=nr.lo c (QI f1);have d1:=nr.hi d (QI f3);have bits:=nr.bits;have m1:=Rh b n1;have m2:=Rh b n2;have g:=big 1 (by lia);have et:cs.take (i+1)=cs.take i++[c]:=by rw[QX,f1];rfl
  have ed:ds.take (i+1)=ds.take i++[d]:=by rw[QX,f3];rfl
  have ll:(cs.take i).length=(ds.take i).length:=by rw[Q3,Q3,nr.len]
  have b1:=tb i (by lia) aA (nr.dp i (by lia));have b2:=tb i (by lia) aB (nr.symm.dp i (by rw[<- nr.len];lia));have sm:∀{x y:Nat},x<2 ^ b->x-y<=e->(Gn.dn x y)<2 ^ 20000:=λ{x y} hx hy=>Q4 (J0 hx hy) (R5 (by decide) (by lia))
  have s1:=sm c1 n1;have s2:=sm d1 n2;have S5:=S4.trans (ak nT (.tup [.int (c:Int),.int (d:Int)]));refine bP (SqT.of aj) rfl ?_;generalize upd H4 T (.tup [.int (c:Int),.int (d:Int)])=H5 at S5 ⊢;cbv;refine⟨d,c,b,rfl,c1,bits,by lia,?_⟩;refine cK ⟨by rw[Q2];exact RW b1 p135,by rw[Q2];exact s1⟩ ?_;cbv;refine⟨c,d,b,rfl,d1,bits,by lia,?_⟩;refine cK ⟨by rw[Q2];exact RW b2 p135,by rw[Q2];exact s2⟩ ?_;cbv;rw[et,ed,g7 ll,g7 ll.symm,<- Rs,<- Rs,RF,RF];exact⟨_,_,rfl,S5⟩
 .rintro σ H4 ⟨u9,u10,rfl,S4⟩;rw[QM (QH _),QM (by rw[nr.len];exact QH _)];have d1:=nr.dp cs.length (QH _);have d2:=nr.symm.dp cs.length (by rw[<- nr.len];exact QH _);rw[QM (QH _),QM (by rw[nr.len];exact QH _)] at d1;rw[QM (by rw[nr.len];exact QH _),QM (QH _)] at d2;have bp:=RB B0 (k8 ds cs);cbv;refine⟨_,_,rfl,by lia,by rw[Q2];exact tb _ (QH _) aA d1,by rw[Q2];exact tb _ (QH _) aB d2,λp q d H5 S5 L _ _ r=>?_⟩;obtain⟨e1,e2⟩:=eK (by lia) L;rw[e1,e2,Rs,Rs,Nh dAB nr.len B0] at r;exact k p H5 (S12.trans (S4.trans S5)) r
def bA:(ni l).length=l.length:=by unfold ni;rw[Qx]
def pX{a b:List Nat}:ni (a++b)=ni a++ni b:=by unfold ni;rw[QJ]
def ic{l:List Nat}{i k:Nat}(h:l[i]?=some k):((ni l).map V.int)[i]?=↥(k:Int):=by unfold ni;rw[QD,QD,h];rfl
def zL{F:List Nat}{cell:Int}(h:0<F.length):∃j k:Nat,cell % (F.length:Int)=(j:Int)/\F[j]?=some k/\k∈F:=by
 have a:=Sv cell (show(F.length:Int)≠0 by lia);have b:=Sj cell (show(0:Int)<F.length by lia);have l:(cell % (F.length:Int)).toNat<F.length:=by lia
 exact⟨(cell % (F.length:Int)).toNat,F[(cell % (F.length:Int)).toNat],by lia,Qy l,Ry l⟩
def Fn(xs:List V)(y:V):om (xs++[y]) (-1)=some y:=by
 unfold om Ck;rw[if_neg (by decide),if_pos (by rw[QT,RY];lia)];show(xs++[y])[_]?=some y;rw[show(-1+(((xs++[y]).length:Nat):Int)).toNat=xs.length by rw[QT,RY];lia,R4 (QH _),X7];rfl
abbrev yI(K:Fg):Sp:=λvs H Q _=>∃(v w:V) (a:Addr) (ws:List Str) (ts:List Tn) (cs cells:List Int),vs=[v,w,.ref a]/\Rz K H v (dV ws ts)/\Rz K H w (dI cs)/\H a=some (.lst (cells.map V.int))/\cells.length<=63/\Nn cs.length ts/\cs.length<=100/\ts.length<=100 /\
 ∀(p:Addr) (H':Hp) (R:List Nat),Same H H'->H p=none->H' p=some (.lst ((ni R).map V.int))->ou (ts.map Dn.pr) R cs->R.length<=cells.length->Q (.ref p) H'
nonrec abbrev CV (K:Fg):TS:=(am (bz (cZ K "list" aO (aa 3) (ae (ar (bJ K) (aa 5) (ar aU (aa 4) (bo (bW K) (ae (aa 5) ag)))) ag)))
 (aw (aD (e9 K) [] E0 (ae (ar (aE K) (ar (aE K) (aa 0) (tC (.int 1))) (ar (bJ K) (aa 3) (Hs (rU λi=>.int (-i)) (tC (.int 1))))) (ae (aa 1) ag))) (al 1)))
nonrec abbrev CU(K:Fg):TS:=(am (aw (d8 (ck (ae (bo (bW K) (ae (ar (aE K) (aa 0) (tC (.int 1))) ag)) ag)) 1 (al 0) (tB (aD (Dc K) [] E0 (ae (ar (aE K) (ar (aE K) (aa 1) (tC (.int 1))) (aa 0)) (ae (aa 2) ag)))) (aa 0)) (al 5))
 (aS (aR (ar wN (bo (bW K) (ae (aa 5) ag)) (tC (.int 0))))
 (CV K)
 aV))
abbrev xL(K:Fg):TS:=(am (aw (bR ag) (al 3))
 (am (aW (ce K (aa 2)) (al 4)
 (CU K))
 (aG (aa 3))))
def Ic{K:Fg}:ρ 6 (yI K) (xL K):=by
 fail "R";obtain⟨v,w,a,ws,ts,cs,cells,rfl,rv,rw_,ha,l63,nn,lc,lt,k⟩:=h;obtain⟨b,v1,v2,rfl,hb,_,r2⟩:=iO rv;obtain⟨e,xs,rfl,he,rx⟩:=r2.b5;have lx:xs.length=ts.length:=by rw[rx.length,Qx]
 rw[L2.aP hN];walk_at "t";unfold xL;cbv;refine⟨by decide,λO nO=>?_⟩;have A0:AccZ K H O (upd H O (.lst [])) ((ni []).map Rn):=AccZ.start (Same.refl _) nO;generalize upd H O (.lst [])=H0 at A0 ⊢;cbv;refine f7 (SqL.of (A0.same _ _ ha)) ?_;refine a_ (xs:=cells.map V.int) (λi σ H2=>∃(R:List Nat) (w1:V) (u4 u5:Option V),σ=[⇑b,some w1,⇑a,⇑O,u4,u5]/\AccZ K H O H2 ((ni R).map Rn)/\Rz K H2 w1 (dI (hX (ts.map Dn.pr) R cs))/\ou (ts.map Dn.pr) R cs/\R.length<=i) ⟨[],w,none,none,rfl,A0,rw_.same A0.same,trivial,QH _⟩ (by rintro i σ H2 _ ⟨_,_,_,_,_,A,_⟩;exact SqL.of (A.same _ _ ha)) ?_ ?_
 .clear A0;rintro i x σ H2 hx ⟨R,w1,u4,u5,rfl,A,rw1,wk,lR⟩;have li:=(QC.mp hx).1;rw[Qx] at li;rw[QD] at hx;obtain⟨cell,hcell,rfl⟩:=QG.mp hx
  have cn:∀k (hk:k<ts.length),(ts.map Dn.pr).getD k ([],[])=Dn.pr ts[k]:=λk hk=>by
   rw[Qz,QD,Qy hk];rfl
  have look:∀k (hk:k<ts.length) (H3:Hp),Same H2 H3->∃u,om xs ((k:Nat):Int)=some u/\Rz K H3 u (dT ts[k]):=λk hk H3 S3=>by
   obtain⟨u,eu,ru⟩:=rx.get' (i:=k) (d:=dT ts[k]) (by rw[QD,Qy hk];rfl);exact⟨u,aI eu,ru.same (A.same.trans S3)⟩
  have lw:(hX (ts.map Dn.pr) R cs).length=cs.length:=lQ;generalize hC:hX (ts.map Dn.pr) R cs=c at rw1 lw;cbv;refine aF (SqT.of (A.same _ _ hb)) (v:=.ref e) rfl ?_;cbv;refine ik (SqT.of (A.same _ _ he)) ?_;rw[lx];cbv;refine⟨_,rfl,by lia,by lia,?_⟩;rw[RJ];refine tH (n:=ts.length) λD nD=>⟨λm H3=>AccZ K H2 D H3 ((ni ((QR m).filter λk=>can ((ts.map Dn.pr).getD k ([],[])) c)).map Rn),by simpa[ni] using AccZ.start (Same.refl _) nD,?_,?_⟩
  .intro m H3 hm B us hu;obtain⟨u0,rfl⟩:∃u,us=[u]:=SV.mp hu;obtain⟨u,au,ru⟩:=look m hm H3 B.same;obtain⟨tl,_⟩:=nn ts[m] (Ry hm);have lf:((QR m).filter λk=>can ((ts.map Dn.pr).getD k ([],[])) c).length<=m:=Q0 (Sc _ _) (by rw[Ra];exact QH _);have er:((QR (m+1)).filter λk=>can ((ts.map Dn.pr).getD k ([],[])) c)=((QR m).filter λk=>can ((ts.map Dn.pr).getD k ([],[])) c)++[m].filter λk=>can ((ts.map Dn.pr).getD k ([],[])) c:=by rw[Tc,TH]
   rw[T0];cbv;refine⟨⟨[↥(m:Int)],rfl,rfl⟩,?_⟩;cbv;refine aF (SqT.of ((A.on B.same).same _ _ hb)) (v:=.ref e) rfl ?_;cbv;refine aF (SqT.of ((A.on B.same).same _ _ he)) au ?_;cbv;refine⟨u,w1,ts[m],c,rfl,ru,rw1.same B.same,by lia,λH4 S4=>?_⟩;have B4:=B.on S4;cbv;cases ec:can (Dn.pr ts[m]) c with
   |true =>
    cbv;refine a6 hm ?_;refine B4.cA (.int (m:Int)) (av (by rw[Qx,bA];lia)) λH5 B5=>?_
    show AccZ K H2 D H5 ((ni ((QR (m+1)).filter λk=>can ((ts.map Dn.pr).getD k ([],[])) c)).map Rn);rw[er,Sb (by rw[cn m hm];exact ec),pX,QJ];exact B5
   |false =>
    cbv;refine fe hm ?_;show AccZ K H2 D H4 ((ni ((QR (m+1)).filter λk=>can ((ts.map Dn.pr).getD k ([],[])) c)).map Rn);rw[er,RU (by rw[cn m hm,ec];exact Rj)];simpa using B4
  .intro H3 B;generalize hF:(QR ts.length).filter (λk=>can ((ts.map Dn.pr).getD k ([],[])) c)=F at B;have hD:=AccZ.ints B;have A3:=A.on B.same;have hO:=AccZ.ints A3;cbv;refine b7 (SqL.of hD) ?_;rw[Qx,bA];cbv;refine bb (λep=>?_) (λep=>?_)
   .have pos:0<F.length:=by lia
    obtain⟨j,kk,ej,fj,mk⟩:=zL (cell:=cell) pos;rw[<- hF,Ri,Rb] at mk;obtain⟨mk1,mk2⟩:=mk;obtain⟨tl1,tl2⟩:=nn ts[kk] (Ry mk1);cbv;refine⟨A3.ty,?_⟩;cbv;refine b7 (SqL.of hD) ?_;rw[Qx,bA];cbv;refine bU (SqL.of hD) (v:=.int (kk:Int)) (by rw[ej];exact aI (ic fj)) ?_;cbv;refine bV A3 (.int (kk:Int)) (av (by rw[Qx,bA];lia)) λH4 A4 S4 _ _=>?_
    have A4:AccZ K H O H4 ((ni (R++[kk])).map Rn):=by rw[pX,QJ];exact A4
    have rw4:=S4 (rw1.same B.same);have hO4:=AccZ.ints A4;obtain⟨u,eu,ru⟩:=rx.get' (i:=kk) (d:=dT ts[kk]) (by rw[QD,Qy mk1];rfl)
    have lst:om ((ni (R++[kk])).map V.int) (-1)=↥(kk:Int):=by
     rw[pX,QJ];exact Fn _ _
    cbv;refine aF (SqT.of (A4.same _ _ hb)) (v:=.ref e) rfl ?_;cbv;refine bU (SqL.of hO4) (v:=.int (kk:Int)) lst ?_;refine aF (SqT.of (A4.same _ _ he)) (v:=u) (aI eu) ?_;cbv;refine⟨u,w1,ts[kk],c,rfl,ru.same A4.same,rw4,by lia,by lia,by lia,λp H5 S5 rp=>?_⟩;cbv;refine⟨R++[kk],.ref p,_,_,rfl,A4.on S5,?_,eO.mpr ⟨wk,by rw[Qx];exact mk1,by rw[hC];exact mk2,trivial⟩,by rw[QT,RY];lia⟩;rw[gJ,hC];show Rz K H5 _ (dI (beh ((ts.map Dn.pr).getD kk ([],[])) c));rw[cn kk mk1];exact rp
   .cbv;exact⟨R,w1,_,_,rfl,A3,by rw[hC];exact rw1.same B.same,wk,by lia⟩
 .rintro σ H2 ⟨R,w1,u4,u5,rfl,A,rw1,wk,lR⟩;rw[Qx] at lR;cbv;exact k O H2 R A.same A.new (AccZ.ints A) wk lR
abbrev Hx(K:Fg):Sp:=λvs H Q _=>∃(v w:V) (r a:Addr) (ws:List Str) (ts:List Tn) (cs cells:List Int) (R0:List Nat),vs=[v,w,.ref r,.ref a]/\Rz K H v (dV ws ts)/\Rz K H w (dI cs)/\H r=some (.lst ((ni R0).map V.int))/\(∀k∈R0,k<ts.length)/\R0.length<=63/\H a=some (.lst (cells.map V.int))/\cells.length<=63/\Nn cs.length ts/\cs.length<=100/\ts.length<=100 /\
 ∀(p:Addr) (H':Hp) (R L:List Nat),Same H H'->H p=none->H' p=some (.lst ((ni R).map V.int))->ou (ts.map Dn.pr) R cs->(R++L).Perm R0->Q (.ref p) H'
def Bt:∀{L:List Nat} {j k:Nat},L[j]?=some k->L.Perm (k :: L.eraseIdx j)
 |[],_,_,h=>by simp at h
 |x :: L,0,k,h=>by simp at h;subst h;exact VR _
 |x :: L,j+1,k,h=>((Bt (L:=L) (j:=j) (by simpa using h)).cons x).trans (Zar _ _ _)
def u_:∀{L:List Nat} {k:Nat},k∈L->∃j:Nat,L[j]?=some k/\∀m:Nat,m<j->L[m]?≠some k
 |x :: L,k,h=>by
  by_cases c:x=k
  .exact⟨0,by rw[c];rfl,λm hm=>absurd hm (SU _)⟩
  .obtain⟨j,a,b⟩:=u_ (L:=L) (k:=k) (by rcases Q5.mp h with z|z;exact absurd z.symm c;exact z);refine⟨j+1,a,λm hm=>?_⟩;cases m with
   |zero=>exact λz=>c (Q7 z)
   |succ m=>exact b m (by lia)
nonrec abbrev Hg (K:Fg):TS:=(am (bz (cZ K "list" (zt K) (aa 4) (ae (aa 8) ag)))
 (am (bz (cZ K "list" aO (aa 5) (ae (aa 8) ag)))
 (aw (aD (e9 K) [] E0 (ae (ar (aE K) (ar (aE K) (aa 0) (tC (.int 1))) (aa 8)) (ae (aa 1) ag))) (al 1))))
nonrec abbrev Hf(K:Fg):TS:=(am (aw (d8 (ce K (aa 4)) 1 (al 0) (tB (aD (Dc K) [] E0 (ae (ar (aE K) (ar (aE K) (aa 1) (tC (.int 1))) (aa 0)) (ae (aa 2) ag)))) (aa 0)) (al 7))
 (aS (aR (ar wN (bo (bW K) (ae (aa 7) ag)) (tC (.int 0))))
 (am (aw (ar (bJ K) (aa 7) (ar aU (aa 6) (bo (bW K) (ae (aa 7) ag)))) (al 8))
 (Hg K))
 aV))
abbrev Hh(K:Fg):TS:=(am (aw (bo (dm K) (ae (aa 2) ag)) (al 4))
 (am (aw (bR ag) (al 5))
 (am (aW (ce K (aa 3)) (al 6)
 (Hf K))
 (aG (aa 5)))))
def K3{K:Fg}:ρ 9 (Hx K) (Hh K):=by
 fail "R";obtain⟨v,w,r,a,ws,ts,cs,cells,R0,rfl,rv,rw_,hr,hR,l0,ha,l63,nn,lc,lt,k⟩:=h;obtain⟨b,v1,v2,rfl,hb,_,r2⟩:=iO rv;obtain⟨e,xs,rfl,he,rx⟩:=r2.b5;have lx:xs.length=ts.length:=by rw[rx.length,Qx]
 rw[L2.aP hN];walk_at "t";unfold Hh;cbv;refine jM (SqL.of hr) λl1 n1=>?_
 have A1:AccZ K H l1 (upd H l1 (.lst ((ni R0).map V.int))) ((ni R0).map Rn):=⟨ak n1 _,n1,_,aj,RpL.ints _⟩
 generalize upd H l1 (.lst ((ni R0).map V.int))=H1 at A1 ⊢;cbv;refine⟨by decide,λl2 n2=>?_⟩;have ne:l1≠l2:=by obtain⟨_,h1,_⟩:=A1.at_;exact ay h1 n2
 have A2:AccZ K H l2 (upd H1 l2 (.lst [])) ((ni []).map Rn):=AccZ.start A1.same n2;replace A1:=A1.on (ak n2 (.lst []));generalize upd H1 l2 (.lst [])=H2 at A1 A2 ⊢;cbv;refine f7 (SqL.of (A1.same _ _ ha)) ?_;refine a_ (xs:=cells.map V.int) (λi σ H3=>∃(R L:List Nat) (w1:V) (u6 u7 u8:Option V),σ=[⇑b,some w1,⇑r,⇑a,⇑l1,⇑l2,u6,u7,u8]/\AccZ K H l1 H3 ((ni L).map Rn)/\AccZ K H l2 H3 ((ni R).map Rn)/\Rz K H3 w1 (dI (hX (ts.map Dn.pr) R cs))/\ou (ts.map Dn.pr) R cs/\(R++L).Perm R0) ⟨[],R0,w,none,none,none,rfl,A1,A2,rw_.same A1.same,trivial,VR _⟩ (by rintro i σ H3 _ ⟨_,_,_,_,_,_,_,A,_⟩;exact SqL.of (A.same _ _ ha)) ?_ ?_
 .clear A1 A2;rintro i x σ H3 hx ⟨R,L,w1,u6,u7,u8,rfl,A1,A2,rw1,wk,pm⟩;rw[QD] at hx;obtain⟨cell,hcell,rfl⟩:=QG.mp hx
  have cn:∀k (hk:k<ts.length),(ts.map Dn.pr).getD k ([],[])=Dn.pr ts[k]:=λk hk=>by
   rw[Qz,QD,Qy hk];rfl
  have hl:∀k∈L,k<ts.length:=λk hk=>hR k (pm.mem_iff.mp (Q6 _ hk))
  have pl:=pm.length_eq;rw[QT] at pl;have lw:(hX (ts.map Dn.pr) R cs).length=cs.length:=lQ;generalize hC:hX (ts.map Dn.pr) R cs=c at rw1 lw;have hL:=AccZ.ints A1;cbv;refine⟨l1,rfl,⟨_,SqL.of hL⟩,?_⟩;refine k9 (xs:=(ni L).map V.int) λD nD=>⟨λm H4=>AccZ K H3 D H4 ((ni ((L.take m).filter λk=>can ((ts.map Dn.pr).getD k ([],[])) c)).map Rn),by simpa[ni] using AccZ.start (Same.refl _) nD,λm H4 _ B=>SqL.of (B.same _ _ hL),?_,?_⟩
  .intro m x H4 hx B us hu;obtain⟨u0,rfl⟩:∃u,us=[u]:=SV.mp hu;have lm:=(QC.mp hx).1;unfold ni at hx;rw[QD,QD] at hx;obtain⟨_,f0,rfl⟩:=QG.mp hx;obtain⟨kk,f1,rfl⟩:=QG.mp f0;have hk:=hl kk (QI f1);obtain⟨u,eu,ru⟩:=rx.get' (i:=kk) (d:=dT ts[kk]) (by rw[QD,Qy hk];rfl);have S4:=A1.same.trans B.same;obtain⟨tl,_⟩:=nn ts[kk] (Ry hk);have lf:((L.take m).filter λk=>can ((ts.map Dn.pr).getD k ([],[])) c).length<=63:=Q0 (Sc _ _) (by rw[Q3];lia);have er:((L.take (m+1)).filter λk=>can ((ts.map Dn.pr).getD k ([],[])) c)=((L.take m).filter λk=>can ((ts.map Dn.pr).getD k ([],[])) c)++[kk].filter λk=>can ((ts.map Dn.pr).getD k ([],[])) c:=by rw[QX,f1,TH];rfl
   cbv;refine⟨⟨[↥(kk:Int)],rfl,rfl⟩,?_⟩;cbv;refine aF (SqT.of (S4 _ _ hb)) (v:=.ref e) rfl ?_;cbv;refine aF (SqT.of (S4 _ _ he)) (v:=u) (aI eu) ?_;cbv;refine⟨u,w1,ts[kk],c,rfl,ru.same S4,rw1.same B.same,by lia,λH5 S5=>?_⟩;have B5:=B.on S5;cbv;cases ec:can (Dn.pr ts[kk]) c with
   |true =>
    cbv;refine a6 lm ?_;refine B5.cA (.int (kk:Int)) (av (by rw[Qx,bA];lia)) λH6 B6=>?_
    show AccZ K H3 D H6 ((ni ((L.take (m+1)).filter λk=>can ((ts.map Dn.pr).getD k ([],[])) c)).map Rn);rw[er,Sb (by rw[cn kk hk];exact ec),pX,QJ];exact B6
   |false =>
    cbv;refine fe lm ?_;show AccZ K H3 D H5 ((ni ((L.take (m+1)).filter λk=>can ((ts.map Dn.pr).getD k ([],[])) c)).map Rn);rw[er,RU (by rw[cn kk hk,ec];exact Rj)];simpa using B5
  .intro H4 B;rw[Qx,bA,QM (QH _)] at B;generalize hF:L.filter (λk=>can ((ts.map Dn.pr).getD k ([],[])) c)=F at B;have hD:=AccZ.ints B;replace A1:=A1.on B.same;replace A2:=A2.on B.same;replace hL:=B.same _ _ hL;cbv;refine b7 (SqL.of hD) ?_;rw[Qx,bA];cbv;refine bb (λep=>?_) (λep=>?_)
   .have pos:0<F.length:=by lia
    obtain⟨j,kk,ej,fj,mk⟩:=zL (cell:=cell) pos;rw[<- hF,Ri] at mk;obtain⟨mk1,mk2⟩:=mk;have hk:=hl kk mk1;obtain⟨tl1,tl2⟩:=nn ts[kk] (Ry hk);obtain⟨q,q1,q2⟩:=u_ mk1;cbv;refine b7 (SqL.of hD) ?_;rw[Qx,bA];cbv;refine bU (SqL.of hD) (v:=.int (kk:Int)) (by rw[ej];exact aI (ic fj)) ?_;cbv;refine⟨A1.ty,?_⟩;cbv;have dj:∀m:Nat,((ni L).map Rn)[m]? = (L[m]?).map λ(x:Nat)=>Rn (x:Int):=λm=>by unfold ni;rw[QD,QD,Option.map_map];rfl
    refine⟨l1,_,_,(ni L).map Rn,.int (kk:Int),q,rfl,rfl,hL,RepL.ints _,.int _,λd hd=>?_,rfl,by rw[dj,q1];rfl,λm hm z=>?_,?_⟩
    .obtain⟨y,_,rfl⟩:=QU.mp hd;rfl
    .rw[dj] at z;obtain⟨y,z1,z2⟩:=QG.mp z;injection z2 with z3
     exact q2 m hm (by rw[z1,show y=kk by lia])
    have ee:((ni L).map V.int).eraseIdx q=(ni (L.eraseIdx q)).map V.int:=by unfold ni;rw[qt,qt]
    rw[ee];have A3:AccZ K H l1 (upd H4 l1 (.lst ((ni (L.eraseIdx q)).map V.int))) ((ni (L.eraseIdx q)).map Rn):=⟨A1.aj,A1.new,_,aj,RpL.ints _⟩
    have A4:=A2.other (o:=.lst ((ni (L.eraseIdx q)).map V.int)) ne.symm A1.new hL;have rw3:Rz K (upd H4 l1 (.lst ((ni (L.eraseIdx q)).map V.int))) w1 (dI c):=Rz.upd (rw1.same B.same) hL;generalize upd H4 l1 (.lst ((ni (L.eraseIdx q)).map V.int))=H5 at A3 A4 rw3 ⊢;cbv;refine⟨A4.ty,?_⟩;cbv;refine bV A4 (.int (kk:Int)) (av (by rw[Qx,bA];lia)) λH6 A6 S6 _ O6=>?_
    have A6:AccZ K H l2 H6 ((ni (R++[kk])).map Rn):=by rw[pX,QJ];exact A6
    have A7:=O6 ne A3;have rw4:=S6 rw3;obtain⟨u,eu,ru⟩:=rx.get' (i:=kk) (d:=dT ts[kk]) (by rw[QD,Qy hk];rfl);cbv;refine aF (SqT.of (A6.same _ _ hb)) (v:=.ref e) rfl ?_;cbv;refine aF (SqT.of (A6.same _ _ he)) (v:=u) (aI eu) ?_;cbv;refine⟨u,w1,ts[kk],c,rfl,ru.same A6.same,rw4,by lia,by lia,by lia,λp H7 S7 rp=>?_⟩;cbv;refine⟨R++[kk],L.eraseIdx q,.ref p,_,_,_,rfl,A7.on S7,A6.on S7,?_,eO.mpr ⟨wk,by rw[Qx];exact hk,by rw[hC];exact mk2,trivial⟩,?_⟩
    .rw[gJ,hC];show Rz K H7 _ (dI (beh ((ts.map Dn.pr).getD kk ([],[])) c));rw[cn kk hk];exact rp
    .rw[R_];exact((Bt q1).symm.append_left R).trans pm
   .cbv;exact⟨R,L,w1,_,_,_,rfl,A1,A2,by rw[hC];exact rw1.same B.same,wk,pm⟩
 .rintro σ H3 ⟨R,L,w1,u6,u7,u8,rfl,A1,A2,rw1,wk,pm⟩;cbv;exact k l2 H3 R L A2.same A2.new (AccZ.ints A2) wk pm
abbrev yC(K:Fg):Sp:=λvs H Q _=>∃(a:Addr) (ns:List Int) (t:Int) (w:Nat),vs=[.ref a,.int t,.int (w:Int)]/\SqL K H a (ns.map V.int)/\0<=t/\w<=5/\∀(p:Addr) (H':Hp) (cs:List Nat),Same H H'->cs.length=w->(∀c∈cs,c<10 ^ 40)->Rz K H' (.ref p) (dI (ni cs))->Q (.ref p) H'
def EC:∀{cs:List Int},(∀c∈cs,0<=c)->∃ns:List Nat,ni ns=cs
 |[],_=>⟨[],rfl⟩
 |c :: cs,h=>by
  obtain⟨ns,e⟩:=EC (cs:=cs) λx hx=>h x (QL _ hx)
  have:=h c QK
  refine⟨c.toNat :: ns,?_⟩;show((c.toNat:Nat):Int) :: ni ns=_;rw[e,show((c.toNat:Nat):Int)=c by lia]
nonrec abbrev CL(K:Fg):TS:=(aw (bo (cC K) (ae (fA (qk K (aa 4)) (ar aZ (ar (rI CMul λi j=>.int (i*j)) (ar aU (aa 0) (ar sE (tC (.int 10)) (tC (.int 10)))) (ar sE (tC (.int 10)) (tC (.int 29)))) (ar aU (aD (c6 K) [] E0 (ae (aa 1) (ae (ar aZ (aa 2) (tC (.int 1))) ag))) (ar sE (tC (.int 10)) (tC (.int 20)))))) ag)) (al 4))
nonrec abbrev CK(K:Fg):TS:=(am (aw (aD (so K) [] E0 (ae (aD (c6 K) [] E0 (ae (aa 0) (ae (ar aZ (aa 1) (tC (.int 1))) ag))) (ae (aa 2) (ae (aa 3) ag)))) (al 4))
 (am (aS (aR (ar wN (aa 3) (tC (.int 100))))
 (CL K)
 aV)
 (aG (aa 4))))
abbrev xx(K:Fg):TS:=(am (aw (ar (bJ K) (bR (ae (tC (.int 4)) (ae (tC (.int 12)) (ae (tC (.int 100)) (ae (ar sE (tC (.int 10)) (tC (.int 39))) ag))))) (ar aU (aD (c6 K) [] E0 (ae (aa 0) (ae (aa 1) ag))) (tC (.int 4)))) (al 3))
 (CK K))
def HW{K:Fg}:ρ 5 (yC K) (xx K):=by
 fail "R";obtain⟨a,ns,t,w,rfl,hS,t0,w5,k⟩:=h;rw[L2.aP hN];walk_at "t";unfold xx;cbv;refine⟨HG,λl nl=>?_⟩;have S1:=ak nl (.lst [.int 4,.int 12,.int 100,.int (10 ^ Sy 39)]);have hl:upd H l (.lst [.int 4,.int 12,.int 100,.int (10 ^ Sy 39)]) l=some (.lst [.int 4,.int 12,.int 100,.int (10 ^ Sy 39)]):=aj;generalize upd H l (.lst [.int 4,.int 12,.int 100,.int (10 ^ Sy 39)])=H1 at S1 hl ⊢;cbv;refine⟨a,ns,t,rfl,S1.seq hS,t0,?_⟩;generalize cellOf ns t=c0
 have big:∃z:Int,om [V.int 4,.int 12,.int 100,.int (10 ^ Sy 39)] (c0 % 4)=↥z/\0<z/\z<=10 ^ 39:=by
  rcases (by lia:c0 % 4=0\/c0 % 4=1\/c0 % 4=2\/c0 % 4=3) with e|e|e|e <;> rw[e]
  .exact⟨4,rfl,by decide,by decide⟩
  .exact⟨12,rfl,by decide,by decide⟩
  .exact⟨100,rfl,by decide,by decide⟩
  .exact⟨10 ^ 39,rfl,by decide,by decide⟩
 obtain⟨z,ez,z0,z1⟩:=big;cbv;refine bU (SqL.of hl) ez ?_;cbv;refine⟨a,ns,t+1,rfl,S1.seq hS,by lia,?_⟩;generalize hc1:cellOf ns (t+1)=c1;cbv;refine⟨c1,z,w,rfl,w5,z0,Q4 (by lia:z.natAbs<=10 ^ 39) (Re (by decide:10 ^ 39<2 ^ 130) (QW (by decide) (by decide))),λp H2 cs S2 lc bc rp=>?_⟩;have S12:=S1.trans S2;cbv;refine bb (λc=>?_) (λc=>?_)
 .obtain⟨q,e0,hq⟩:=bM rp;cases e0
  have g:∀x:Int,0<=x % 10 ^ Sy 10*10 ^ Sy 29+c1 % 10 ^ Sy 20/\x % 10 ^ Sy 10*10 ^ Sy 29+c1 % 10 ^ Sy 20<10 ^ 40:=λx=>by
   have e1:(10:Int) ^ Sy 10=10000000000:=by decide
   have e2:(10:Int) ^ Sy 29=100000000000000000000000000000:=by decide
   have e3:(10:Int) ^ Sy 20=100000000000000000000:=by decide
   have e4:(10:Int) ^ 40=10000000000000000000000000000000000000000:=by decide
   rw[e1,e2,e3,e4];lia
  cbv;refine⟨p,rfl,⟨_,SqT.of hq⟩,?_⟩;refine vm (xs:=cs.map V.int) λD nD=>⟨λj H3=>AccZ K H2 D H3 (((cs.take j).map λx=>x % 10 ^ Sy 10*10 ^ Sy 29+c1 % 10 ^ Sy 20).map Rn),by simpa using AccZ.start (Same.refl _) nD,λj H3 _ A=>SqT.of (A.same _ _ hq),?_,?_⟩
  .intro j x H3 hx A;have lj:=(QC.mp hx).1;rw[QD] at hx;obtain⟨y,hy,rfl⟩:=QG.mp hx;cbv;refine cK (by decide) ?_;cbv;refine cK (.inl (by rw[show(10:Int) ^ Sy 10=10000000000 by decide];lia)) ?_;cbv;refine⟨a,ns,t+1,rfl,(S12.trans A.same).seq hS,by lia,?_⟩;rw[hc1];cbv;refine cK (by decide) ?_;cbv;refine a6 lj ?_;refine A.cA (.int _) (av (by rw[Qx,Qx,Q3];lia)) λH4 A4=>?_
   show AccZ K H2 D H4 (((cs.take (j+1)).map λx=>x % 10 ^ Sy 10*10 ^ Sy 29+c1 % 10 ^ Sy 20).map Rn);rw[QX,hy,QJ,QJ];exact A4
  .intro H3 A;rw[Qx,QM (QH _)] at A
   obtain⟨ms,e⟩:=EC (cs:=cs.map λx=>x % 10 ^ Sy 10*10 ^ Sy 29+c1 % 10 ^ Sy 20) λx hx=>by
    obtain⟨y,_,rfl⟩:=QU.mp hx;exact(g y).1
   have lm:ms.length=w:=by have:=congrArg Sr e;rw[bA,Qx] at this;lia
   have bm:∀m∈ms,m<10 ^ 40:=λm hm=>by
    have:(m:Int)∈ni ms:=by unfold ni;exact QU.mpr ⟨m,hm,rfl⟩
    rw[e] at this;obtain⟨y,_,ey⟩:=QU.mp this
    have:=(g y).2
    rw[ey] at this
    exact_mod_cast this
   rw[<- e] at A;cbv;refine eM (SqL.of (AccZ.ints A)) λq nq=>?_
   cbv;exact k q _ ms (S12.trans (A.same.trans (ak nq _))) lm bm (.tup aj (RpL.ints _))
 .cbv;obtain⟨ms,e⟩:=EC λx hx=>(bc x hx).1
  rw[<- e] at rp lc bc;refine k p H2 ms S12 (by rw[bA] at lc;exact lc) (λy hy=>?_) rp
  have:=(bc (y:Int) (by unfold ni;exact QU.mpr ⟨y,hy,rfl⟩)).2
  have e4:(10:Int) ^ 39=1000000000000000000000000000000000000000:=by decide
  have e5:(10:Nat) ^ 40=10000000000000000000000000000000000000000:=by decide
  lia
abbrev P9(w:Nat)(ts:List Tn):Prop:=∀t∈ts,(t.fr.length=w/\t.to.length=w)/\∀j,(0<=pt t.fr j/\pt t.fr j<=3)/\0<=pt t.to j/\pt t.to j<=3
def Mf{cs:List Nat}{j:Nat}(h:j<cs.length):pt (ni cs) j=(cs[j]:Int):=by
 unfold pt ni;rw[Qz,QD,Qy h];rfl
def Nx(h:Dn.can t c=true){j:Nat}(l1:j<t.1.length)(l2:j<c.length):pt t.1 j<=pt c j:=by
 unfold Dn.can at h
 have:=V_.mp h (t.1[j],c[j]) (List.mem_iff_getElem?.mpr ⟨j,by rw[Uk];exact⟨Qy l1,Qy l2⟩⟩)
 unfold pt;rw[Qz,Qy l1,Qz,Qy l2];simpa using this
def uE(s3:P9 w ts){k:Nat}{t:Tn}(ht:ts[k]?=some t){cs:List Nat}(lc:cs.length=w)(hc:Dn.can (Dn.pr t) (ni cs)=true) :
  ∃ds:List Nat,Dn.beh (Dn.pr t) (ni cs)=ni ds/\ds.length=w/\∀(j c d:Nat),cs[j]?=some c->ds[j]?=some d->c-d<=3/\d-c<=3:=by
 obtain⟨⟨l1,l2⟩,b⟩:=s3 t (QI ht);have ln:(ni cs).length=w:=by rw[bA];exact lc
 have nn:∀x∈Dn.beh (Dn.pr t) (ni cs),0<=x:=λx hx=>by
  unfold Dn.beh at hx;obtain⟨j,hj,rfl⟩:=QU.mp hx;have hj:=Rb.mp hj
  have:=Nx hc (j:=j) (by show j<t.fr.length;lia) hj
  have b0:=(b j).2.1;show 0<=pt (ni cs) j-pt t.fr j+pt t.to j
  have:pt t.fr j<=pt (ni cs) j:=this
  lia
 obtain⟨ds,e⟩:=EC nn;have ld:ds.length=w:=by have:=congrArg Sr e;rw[bA,BS,ln] at this;exact this
 refine⟨ds,e.symm,ld,λj c d h1 h2=>?_⟩;obtain⟨g1,g2⟩:=QC.mp h1;obtain⟨g3,g4⟩:=QC.mp h2;have p1:=Mf g1;have p2:=Mf g3;rw[g2] at p1;rw[g4] at p2
 have q:pt (ni ds) j=pt (ni cs) j-pt t.fr j+pt t.to j:=by
  rw[e];unfold Dn.beh;show pt ((QR (ni cs).length).map _) j=_
  conv=>lhs;unfold pt
  rw[Qz,QD,RG (by lia)];rfl
 have:=b j
 lia
def Fo(s3:P9 w ts){cs:List Nat}(lc:cs.length=w):∀{R:List Nat},ou (ts.map Dn.pr) R (ni cs) ->
  ∃ds:List Nat,hX (ts.map Dn.pr) R (ni cs)=ni ds/\ds.length=w/\∀(j c d:Nat),cs[j]?=some c->ds[j]?=some d->c-d<=3*R.length/\d-c<=3*R.length:=by
 intro R
 induction R using oU with
 |h0=>exact λ_=>⟨cs,rfl,lc,λj c d h1 h2=>by cases h1.symm.trans h2;lia⟩
 |h1 R k ih =>
  intro h;obtain⟨a,b1,b2,_⟩:=eO.mp h;obtain⟨ds,e,ld,n⟩:=ih a;rw[Qx] at b1;obtain⟨t,ht⟩:∃t,ts[k]?=some t:=⟨_,Qy b1⟩
  rw[jP ht,e] at b2;obtain⟨es,e2,le,m⟩:=uE s3 ht ld b2;refine⟨es,?_,le,λj c d h1 h2=>?_⟩
  .rw[gJ,e];show Dn.beh ((ts.map Dn.pr).getD k ([],[])) _=_;rw[jP ht,e2]
  .obtain⟨y,hy⟩:∃y,ds[j]?=some y:=⟨_,Qy (by have:=(QC.mp h1).1;lia)⟩
   have:=n j c y h1 hy
   have:=m j y d hy h2
   rw[QT,RY];lia
def Cs{T:List Tp}{w:Nat}{A:List Nat}(h:A.Perm B):∀c:List Int,c.length=w->hX T A c=hX T B c:=by
 have be:∀(t u:Tp) (c:List Int),Dn.beh t (Dn.beh u c)=Dn.beh u (Dn.beh t c):=λt u c=>by
  have g:∀(t u:Tp),Dn.beh t (Dn.beh u c)=(QR c.length).map λk=>pt c k-pt u.1 k+pt u.2 k-pt t.1 k+pt t.2 k:=λt u=>by
   show(QR (Dn.beh u c).length).map _=_;rw[BS];refine Su λk hk=>?_
   have:pt (Dn.beh u c) k=pt c k-pt u.1 k+pt u.2 k:=by
    conv=>lhs;unfold pt Dn.beh
    rw[Qz,QD,RG (Rb.mp hk)];rfl
   rw[this]
  rw[g,g];exact Su λk _=>by lia
 induction h with
 |nil=>intro c _;rfl
 |cons k _ ih=>intro c hc;exact ih _ (by rw[BS];exact hc)
 |swap a b l=>intro c _;show hX T l (Dn.beh _ (Dn.beh _ c))=hX T l (Dn.beh _ (Dn.beh _ c));rw[be]
 |trans _ _ i j=>intro c hc;exact(i c hc).trans (j c hc)
abbrev Bl(n:Nat)(x:Rat):Prop:=x.num.natAbs<=2 ^ n/\x.den<=2 ^ n
def Bl.of{n a b:Nat}(ha:a<=2 ^ n)(hb:b<=2 ^ n)(b0:0<b):Bl n (Q9 a b):=by
 have L:=Gd.uL (t:=(a:Int)) (b:=(b:Int)) (d:=Gd.gd a b) (by lia) (.inl ⟨rfl,by lia⟩);have M:=Gd.sU (t:=(a:Int)) (b:=(b:Int)) (d:=Gd.gd a b) (by lia) (.inl ⟨rfl,by lia⟩);obtain⟨e1,e2⟩:=eK (by lia) L;rw[e1,e2,Q2] at M;rw[Q2,Q2] at M;exact⟨Q0 M.1 ha,Q0 M.2 hb⟩
def Bl.mul(hx:Bl m x)(hy:Bl n y)(x0:0<x)(y0:0<y):Bl (m+n) (x*y):=by
 have e:x*y=Q9 ((x.num.natAbs*y.num.natAbs:Nat):Int) ((x.den*y.den:Nat):Int):=by
  have a:=Ug.mpr (T6 x0);have b:=Ug.mpr (T6 y0);rw[Rs,Rs,<- Ss,show((x.num.natAbs:Nat):Int)=x.num by lia,show((y.num.natAbs:Nat):Int)=y.num by lia,RO,RO]
 rw[e];refine Bl.of ?_ ?_ (RB (RN x.den_nz) (RN y.den_nz))
 .rw[SO];exact Rt hx.1 hy.1
 .rw[SO];exact Rt hx.2 hy.2
def Bl.inv(hx:Bl m x)(x0:0<x):Bl m x⁻¹:=by
 have a:=Ev.nump x0;have n:=Ug.mpr (T6 x0);have e:x⁻¹=Q9 (x.den:Int) ((x.num.natAbs:Nat):Int):=by rw[show((x.num.natAbs:Nat):Int)=x.num by lia,<- Xa,RO]
 rw[e];exact Bl.of hx.2 hx.1 a
def Bl.up{n:Nat}(h:Bl m x)(l:m<=n):Bl n x:=⟨Q0 h.1 (QW (by decide) l),Q0 h.2 (QW (by decide) l)⟩
def Lz{g:Nat->Rat}{c:Nat}:∀{R:List Nat},(∀k∈R,0<g k/\Bl c (g k))->Bl (c*R.length) (pl g R)
 |[],_=>⟨by show(1:Int).natAbs<=_;exact Sd (by decide),by show 1<=_;exact Sd (by decide)⟩
 |k :: R,h=>by
  obtain⟨a,b⟩:=h k QK;have i:=Lz (R:=R) λj hj=>h j (QL _ hj)
  exact(b.mul i a (pH λj hj=>(h j (QL _ hj)).1)).up (by rw[Ru,ZI];lia)
def Ni{g:Nat->Rat}{R:List Nat}(h:∀k∈R,0<g k/\Bl c (g k))(nr:Nr b e cs ds):0<gn g R cs ds/\Bl (c*R.length+5*(b*e)) (gn g R cs ds):=by
 have p:=pH λk hk=>(h k hk).1
 have f1:=io cs;have f2:=io ds
 have q:0<Q9 (fp cs) (fp ds):=by
  rw[UB];exact TB (by exact_mod_cast f1) (UD.mpr (by exact_mod_cast f2))
 have d:Q9 (fp cs) (fp ds)=Q9 (Gn.dp cs ds) (Gn.dp ds cs):=by
  refine(Si (by lia) (by have:=k8 ds cs;lia)).mpr ?_
  have:=congrArg (λn:Nat=>(n:Int)) (JZ nr.len)
  simp only[Rs] at this;exact this.symm
 refine⟨TB p q,(Lz h).mul ?_ p q⟩;rw[d];have d1:=nr.dp cs.length (QH _);have d2:=nr.symm.dp cs.length (by rw[<- nr.len];exact QH _);rw[QM (QH _),QM (by rw[nr.len];exact QH _)] at d1;rw[QM (by rw[nr.len];exact QH _),QM (QH _)] at d2;have le:=QW (n:=2) (by decide) (RC (b*e) nr.five);exact Bl.of (Q0 d1 le) (Q0 d2 le) (k8 _ _)
open Tr Ti Vs G1
end Gn
namespace K88
open PySem L2 Fr G1 Sm Vs G2 Rk Sz Sf Rw Ti Lo Lc Tr Pw Dn Wd Gn
open PySem.W (Dat kqdOk)
open K88H
structure Cn (K:Fg) (mg:Str->Option QF) (nq oq:Addr):Prop where
 NOUGHT:mg "NOUGHT"=⇑nq
 ONE:mg "ONE"=⇑oq
 zero:∀H:Hp,SqT K H nq [.int 0,.int 1]
 one:∀H:Hp,SqT K H oq [.int 1,.int 1]
abbrev yD(K:Fg):Sp:=λvs H Q _=>∃i:Int,vs=[.int i,.int i]/\Q (.bl true) H
def Jz{K:Fg}{vs:List V}{x y:Str}(h:yD K vs H Q E):vs.length=[x,y].length:=by
 obtain⟨a,rfl,_⟩:=h;rfl
nonrec abbrev G8 (K:Fg):TS:=(am (aS (tB (bo (dq K) (ae (aa 1) (ae (tC (.ty "str")) ag))))
 (aG (gf (bo (dq K) (ae (aa 0) (ae (tC (.ty "str")) ag))) (ar fV (aa 0) (aa 1))))
 aV)
 (aG (gf (ar pE (aa 1) (tC .non)) (ar pE (aa 0) (tC .non)))))
nonrec abbrev G7 (K:Fg):TS:=(am (aS (tB (bo (dq K) (ae (aa 1) (ae (tC (.ty "int")) ag))))
 (aG (gf (bo (dq K) (ae (aa 0) (ae (tC (.ty "int")) ag))) (gf (yl (bo (dq K) (ae (aa 0) (ae (tC (.ty "bool")) ag)))) (ar fV (aa 0) (aa 1)))))
 aV)
 (G8 K))
abbrev G9 (K:Fg):TS:=(am (aS (Cj (tB (bo (dq K) (ae (aa 1) (ae (tC (.ty "tuple")) ag)))) (tB (bo (dq K) (ae (aa 1) (ae (tC (.ty "list")) ag)))))
 ia
 aV)
 (am (aS (tB (bo (dq K) (ae (aa 1) (ae (tC (.ty "bool")) ag))))
 (aG (gf (bo (dq K) (ae (aa 0) (ae (tC (.ty "bool")) ag))) (ar fV (aa 0) (aa 1))))
 aV)
 (G7 K)))
def K0{K:Fg}:ρ 3 (yD K) (G9 K):=by
 fail "R";obtain⟨i,rfl,k⟩:=h;rw[L2.aP hN];walk_at "t";unfold G9;cbv;refine ww (.int i) nH ?_;cbv;refine ww (.int i) qd ?_;cbv;refine ww (.int i) ii ?_;cbv;refine ww (.int i) jL ?_;cbv;refine ww (.int i) jL ?_;cbv;refine ww (.int i) ii ?_;cbv;rw[decide_eq_true rfl];exact k
abbrev oR(K:Fg):Sp:=λvs H Q _=>∃(v1 v2:V) (x:Rat),vs=[v1,v2]/\QV K H v1 x/\QV K H v2 x/\Q (.bl true) H
def JA{K:Fg}{vs:List V}{x y:Str}(h:oR K vs H Q E):vs.length=[x,y].length:=by
 obtain⟨a,b,c,rfl,_⟩:=h;rfl
nonrec abbrev Hc(K:Fg):TS:=(am (aW (ck (ae (bo (bW K) (ae (aa 1) ag)) ag)) (al 2)
 (aS (gb (tB (aD (K88.yD K) [] E0 (ae (ar (Oc K) (aa 0) (aa 2)) (ae (ar (Oc K) (aa 1) (aa 2)) ag)))))
 (aG (tC (.bl false)))
 aV))
 (aG (tC (.bl true))))
nonrec abbrev Hb (K:Fg):TS:=(am (aS (Cj (aR (ar wL (bo (sF K) (ae (aa 0) (ae (tC (.ty "tuple")) ag))) (bo (sF K) (ae (aa 1) (ae (tC (.ty "tuple")) ag))))) (aR (ar wL (bo (sF K) (ae (aa 0) (ae (tC (.ty "list")) ag))) (bo (sF K) (ae (aa 1) (ae (tC (.ty "list")) ag))))))
 (aG (tC (.bl false)))
 aV)
 (am (aS (aR (ar wL (bo (bW K) (ae (aa 0) ag)) (bo (bW K) (ae (aa 1) ag))))
 (aG (tC (.bl false)))
 aV)
 (Hc K)))
nonrec abbrev Ha (K:Fg):TS:=(am (aS (tB (bo (dq K) (ae (aa 1) (ae (tC (.ty "str")) ag))))
 (aG (gf (bo (dq K) (ae (aa 0) (ae (tC (.ty "str")) ag))) (ar fV (aa 0) (aa 1))))
 aV)
 (aG (gf (ar pE (aa 1) (tC .non)) (ar pE (aa 0) (tC .non)))))
nonrec abbrev G_ (K:Fg):TS:=(am (aS (tB (bo (dq K) (ae (aa 1) (ae (tC (.ty "int")) ag))))
 (aG (gf (bo (dq K) (ae (aa 0) (ae (tC (.ty "int")) ag))) (gf (yl (bo (dq K) (ae (aa 0) (ae (tC (.ty "bool")) ag)))) (ar fV (aa 0) (aa 1)))))
 aV)
 (Ha K))
abbrev Hd (K:Fg):TS:=(am (aS (Cj (tB (bo (sF K) (ae (aa 1) (ae (tC (.ty "tuple")) ag)))) (tB (bo (sF K) (ae (aa 1) (ae (tC (.ty "list")) ag)))))
 (Hb K)
 aV)
 (am (aS (tB (bo (dq K) (ae (aa 1) (ae (tC (.ty "bool")) ag))))
 (aG (gf (bo (dq K) (ae (aa 0) (ae (tC (.ty "bool")) ag))) (ar fV (aa 0) (aa 1))))
 aV)
 (G_ K)))
def K1{K:Fg}:ρ 3 (oR K) (Hd K):=by
 fail "R";obtain⟨v1,v2,x,rfl,qv,qw,k⟩:=h;obtain⟨a,rfl,ha⟩:=qv;obtain⟨b,rfl,hb⟩:=qw;rw[L2.aP hN];walk_at "t";unfold Hd;cbv;refine⟨b,_,_,_,rfl,hb,cJ,?_⟩;cbv;refine⟨a,_,_,_,rfl,ha,cJ,?_⟩;cbv;refine⟨b,_,_,_,rfl,hb,cJ,?_⟩;cbv;refine eN (λz=>absurd rfl z) (λ_=>?_);cbv;refine⟨a,_,_,_,rfl,ha,fH,?_⟩;cbv;refine⟨b,_,_,_,rfl,hb,fH,?_⟩;cbv;refine eN (λz=>absurd rfl z) (λ_=>?_);cbv;refine ik ha ?_;cbv;refine ik hb ?_;cbv;refine eN (λz=>absurd rfl z) (λ_=>?_);cbv;refine ik hb ?_;refine⟨2,rfl,by decide,by decide,?_⟩;refine aT (n:=2) (λm σ H2=>∃u2:Option V,σ=[⇑a,⇑b,u2]/\H2=H) ⟨none,rfl,rfl⟩ ?_ ?_
 .rintro m σ H2 hm ⟨u2,rfl,rfl⟩;rw[T0]
  obtain⟨i,ei⟩:∃i:Int,([.int x.num,.int (x.den:Int)]:List V)[m]?=↥i:=by
   match m,hm with
   |0,_=>exact⟨_,rfl⟩
   |1,_=>exact⟨_,rfl⟩
  cbv;refine Gh ha (v:=.int i) (aI ei) ?_;cbv;refine Gh hb (v:=.int i) (aI ei) ?_;cbv;refine⟨i,rfl,?_⟩;cbv;exact⟨_,rfl,rfl⟩
 .rintro σ H2 ⟨u2,rfl,rfl⟩;cbv;exact k
nonrec abbrev KE(K:Fg):TS:=(am (aS (gb (tB (aD (K88.oR K) [] E0 (ae (aD (Gn.ja K) [] E0 (ae (aa 1) (ae (bR (ae (aa 8) ag)) (ae (aa 7) ag)))) (ae (aa 9) ag)))))
 (aG (tC (.bl false)))
 aV)
 (am (aw (aD (Gn.iX K) [] E0 (ae (aa 6) (ae (aa 9) ag))) (al 6))
 (aw (aD (e9 K) [] E0 (ae (ar (aE K) (ar (aE K) (aa 1) (tC (.int 1))) (aa 8)) (ae (aa 7) ag))) (al 7))))
nonrec abbrev KD(K:Fg):TS:=(am (aw (aD (Gn.Hx K) [] E0 (ae (aa 1) (ae (aa 2) (ae (aa 4) (ae (Kl (D8 K) (aa 0) (oO (tC (.int 40))) (oO (tC (.int 51)))) ag))))) (al 11))
 (aG (Ht (ar wM (bo (bW K) (ae (aa 11) ag)) (bo (bW K) (ae (aa 4) ag))) (aD (K88.oR K) [] E0 (ae (aD (Gn.ja K) [] E0 (ae (aa 1) (ae (aa 11) (ae (aa 2) ag)))) (ae (aa 6) ag))))))
nonrec abbrev KC(K:Fg):TS:=(am (aW (ck (ae (tC (.int 2)) ag)) (al 8)
 (aS (Cj (gb (tB (aD (K88.oR K) [] E0 (ae (aD (Gn.ja K) [] E0 (ae (aa 1) (ae (aa 10) (ae (aa 2) ag)))) (ae (aa 6) ag))))) (aR (ar (IC K) (aa 10) (aa 4))))
 (aG (tC (.bl false)))
 aV))
 (KD K))
nonrec abbrev KB(K:Fg):TS:=(am (aW (ce K (aa 4)) (al 8)
 (am (aw (aD (Gn.si K) [] E0 (ae (aa 1) (ae (aa 5) (ae (aa 8) (ae (aa 7) ag))))) (al 9))
 (KE K)))
 (am (aw (bo (dm K) (ae (aa 4) ag)) (al 10))
 (KC K)))
nonrec abbrev KA(K:Fg):TS:=(am (aS (gb (tB (aD (K88.oR K) [] E0 (ae (aD (Gn.ja K) [] E0 (ae (aa 1) (ae (bR ag) (ae (aa 2) ag)))) (ae (bq (ae (tC (.int 1)) (ae (tC (.int 1)) ag))) ag)))))
 (aG (tC (.bl false)))
 aV)
 (KB K))
abbrev He(K:Fg):TS:=(am (aw (aD (Gn.yI K) [] E0 (ae (aa 1) (ae (aa 2) (ae (Kl (D8 K) (aa 0) (oO (tC (.int 19))) (oO (aa 3))) ag)))) (al 4))
 (am (aw (aD (mE K) [] E0 (ae (aa 1) ag)) (al 5))
 (am (aw (bq (ae (tC (.int 1)) (ae (tC (.int 1)) ag))) (al 6))
 (am (aw (aa 2) (al 7))
 (KA K)))))
nonrec abbrev Hi(K:Fg):TS:=(am (aw (aD (Gn.yC K) [] E0 (ae (aa 0) (ae (tC (.int 16)) (ae (bo (bW K) (ae (ar (aE K) (aa 1) (tC (.int 0))) ag)) ag)))) (al 2))
 (am (aw (tC (.int 30)) (al 3))
 (am (aS (aR (ar wN (bo (Lh K) (ae (aa 2) ag)) (tC (.int 100))))
 (aw (tC (.int 22)) (al 3))
 aV)
 (He K))))
abbrev Hj(K:Fg):TS:=(am (aw (aD (Gn.HC K) [] E0 (ae (aa 0) (ae (tC (.int 0)) ag))) (al 1))
 (Hi K))
def BE(ns:List Int){lo hi:Nat}:∃cells:List Int,kH (ns.map V.int) (some (lo:Int)) (some (hi:Int))=cells.map V.int/\cells.length<=hi-lo/\cells.length<=ns.length:=by
 refine⟨(ns.drop (HT.sIx (ns.map V.int).length 0 (some (lo:Int)))).take (HT.sIx (ns.map V.int).length (ns.map V.int).length (some (hi:Int))-HT.sIx (ns.map V.int).length 0 (some (lo:Int))),?_,?_,?_⟩
 .unfold kH;rw[List.map_take,Zaz]
 .rw[Q3,Sw,Qx];rw[HT.yZ,HT.yZ];lia
 .rw[Q3,Sw];lia
structure Al (ws:List Str) (ts:List Tn) (cs:List Nat) (L b:Nat):Prop where
 ev:Qm ws ts
 lc:cs.length=ws.length
 b1:b<1000
 l1:3*L<=1000
 all:(1024+15*b)*L<=13000
 bnd:∀c∈cs,c+3*L<2 ^ b
def Qg(vo:oz ws ts):P9 ws.length ts:=by
 obtain⟨hs,po,_,tk⟩:=vo.turns;intro t ht;obtain⟨a,b⟩:=po.2 _ (tk.ok t ht).1;obtain⟨c,d⟩:=po.2 _ (tk.ok t ht).2.1
 have g:∀{r:List Int},(∀x∈r,0<=x/\x<=3)->∀j,0<=pt r j/\pt r j<=3:=λ{r} h j=>by
  unfold pt;rw[Qz];cases e:r[j]? with
  |none=>exact⟨Z8 0,by decide⟩
  |some x=>exact h x (QI e)
 exact⟨⟨a,c⟩,λj=>⟨g b j,g d j⟩⟩
def Al.near(A:Al ws ts cs L b)(hw:ou (ts.map Dn.pr) R (ni cs))(hl:R.length<=L):∃ds,hX (ts.map Dn.pr) R (ni cs)=ni ds/\Nr b (3*R.length) cs ds:=by
 obtain⟨ds,e,ld,n⟩:=Fo (Qg A.ev.vo) A.lc hw;have w5:=A.ev.vo.w5;have l1:=A.l1;have lc:=A.lc;refine⟨ds,e,by lia,by lia,A.b1,by lia,λc hc=>Q4 (by lia) (A.bnd c hc),λd hd=>?_,n⟩;obtain⟨j,hj⟩:=RA hd;have lj:=(QC.mp hj).1;have hc:cs[j]?=some cs[j]:=Qy (by lia)
 have:=n j _ d hc hj
 have:=A.bnd cs[j] (Ry _)
 lia
def Me(l:List Int):kqdOk 8 (.list (l.map Rn))=true:=by
 show(l.map Rn).all (kqdOk 7)=true;rw[V_];intro x hx;obtain⟨t,_,rfl⟩:=QU.mp hx;rfl
def K2{K:Fg}{Q:VK}{ns:List Int}(A:Al ws ts cs L b)(hS:SqL K H a (ns.map V.int))(l63:ns.length<=63)(rv:Rz K H (.ref p) (dV ws ts))(rc:Rz K H (.ref pc) (dI (ni cs)))(k:∀H',Q (.bl true) H') :
  He K (ends Q) [⇑a,⇑p,⇑pc,some (.int ((19+L:Nat):Int)),none,none,none,none,none,none,none,none] H:=by
 have vo:=A.ev.vo;obtain⟨o,n0⟩:=JW vo;have af:=A.ev.af;have on:=A.ev.on;have t8:=o.co.le;have h8:=o.h8;have w5:=vo.w5;have lc:=A.lc;have bk:∀e∈aq ts,Rch (aq ts) e.2 e.1:=λe he=>by obtain⟨j,hj⟩:=RA he;exact af j e.1 e.2 hj
 have le:(aq ts).length=ts.length:=by unfold aq;rw[Qx]
 have Wp:∀k,k<(aH ts).length->0<Wt ts k:=λk hk=>fY.mp (fI o.pa bk hk)
 have wb:Wb ts:=λh hh=>Fp o.pa t8 h8 hh
 have s3:=Qg vo;have nn:Nn ws.length ts:=λt ht=>(s3 t ht).1
 have gB:∀k,k<ts.length->0<sW (aq ts) (Wt ts) k/\Bl 1024 (sW (aq ts) (Wt ts) k):=λk hk=>by
  obtain⟨o1,o2⟩:=bS ts _ (tt (es:=aq ts) (k:=k) (by lia));exact⟨TB (Wp _ o2) (UD.mpr (Wp _ o1)),(show Bl 512 _ from wb _ o2).mul ((show Bl 512 _ from wb _ o1).inv (Wp _ o1)) (Wp _ o2) (UD.mpr (Wp _ o1))⟩
 have lim:∀{m:Nat},m<=L->1024*m+5*(b*(3*m))<=13000:=λ{m} h=>by
  have a1:=Rh (1024+15*b) h;have a2:=A.all
  have e:1024*m+5*(b*(3*m))=(1024+15*b)*m:=by
   rw[Nat.add_mul,RF 15,show 5*(b*(3*m))=15*(b*m) by rw[Tu b];lia]
  lia
 have nc:(ni cs).length=cs.length:=Gn.bA;have nn':Nn (ni cs).length ts:=by rw[nc,lc];exact nn
 unfold He;obtain⟨cells,ec,l1,l2⟩:=BE ns (lo:=19) (hi:=19+L);cbv;refine⟨a,_,rfl,hS,λt nt=>?_⟩;have ec:kH (ns.map V.int) (some 19) (some ((19+L:Nat):Int))=cells.map V.int:=ec;rw[ec];have S1:=ak nt (.lst (cells.map V.int));have ht:upd H t (.lst (cells.map V.int)) t=some (.lst (cells.map V.int)):=aj;generalize upd H t (.lst (cells.map V.int))=H1 at S1 ht ⊢;cbv;refine⟨.ref p,.ref pc,t,ws,ts,ni cs,cells,rfl,rv.same S1,rc.same S1,ht,by lia,nn',by lia,by lia,λr H2 R S2 nr hr wk lR=>?_⟩;have S12:=S1.trans S2;have lR:R.length<=L:=by lia
 cbv;refine⟨.ref p,ws,ts,rfl,rv.same S12,by lia,by lia,o.pa,λf H3 xs nf S3 hf lf qf=>?_⟩;have S13:=S12.trans S3;cbv;refine⟨aQ,λd nd=>?_⟩;have S14:=S13.trans (ak nd (.tup [.int 1,.int 1]));have S34:=S3.trans (ak nd (.tup [.int 1,.int 1]));have hf4:=(ak nd (.tup [.int 1,.int 1])) _ _ hf;have qf4:∀i x,xs[i]?=some x->QV K (upd H3 d (.tup [.int 1,.int 1])) x (Wt ts i):=λi x hx=>(qf i x hx).same (ak nd _)
 have rd4:Rz K (upd H3 d (.tup [.int 1,.int 1])) (.ref d) (dQ 1):=.tup aj (RpL.ints [1,1]);generalize upd H3 d (.tup [.int 1,.int 1])=H4 at S14 S34 hf4 qf4 rd4 ⊢;cbv;refine⟨by decide,λe ne=>?_⟩;have S45:=ak ne (.lst []);have he:upd H4 e (.lst []) e=some (.lst []):=aj;generalize upd H4 e (.lst [])=H5 at S45 he ⊢;have S15:=S14.trans S45
 have N0:Nr b 0 cs cs:=by
  obtain⟨ds,e1,e2⟩:=A.near (R:=[]) trivial (RL _)
  have:ds=cs:=by
   have e1:ni cs=ni ds:=e1;unfold ni at e1;exact(VC (λx y h=>by lia)).mp e1.symm
  rwa [this] at e2
 cbv;refine⟨.ref p,.ref pc,e,ws,ts,ws.length,[],cs,cs,b,0,rfl,rv.same S15,o,af,on,wb,he,rc.same S15,by rw[lc];exact nn,trivial,rfl,N0,by simp,λg H6 S6 rg=>?_⟩;rw[Gr] at rg;cbv;refine⟨aQ,λd2 nd2=>?_⟩;have S67:=ak nd2 (.tup [.int 1,.int 1]);have rd7:Rz K (upd H6 d2 (.tup [.int 1,.int 1])) (.ref d2) (dQ 1):=.tup aj (RpL.ints [1,1]);generalize upd H6 d2 (.tup [.int 1,.int 1])=H7 at S67 rd7 ⊢;have S47:=S45.trans (S6.trans S67);cbv;refine⟨_,_,1,rfl,.of (rg.same S67),.of rd7,?_⟩;cbv;have S27:=S34.trans S47;have hr7:=S27 _ _ hr;have S17:=S12.trans S27;have rv7:=rv.same S17;have rc7:=rc.same S17;obtain⟨v1,v2,v3,e0,hv,_,r2⟩:=iO rv7;cases e0;obtain⟨vb,ys,rfl,hvb,ry⟩:=r2.b5;have gd:∀{k:Nat} {t:Tn},ts[k]?=some t->(ts.map Dn.pr).getD k ([],[])=Dn.pr t:=λh=>jP h
 refine⟨r,rfl,⟨_,SqL.of hr7⟩,?_⟩;refine a_ (xs:=(ni R).map V.int) (λi σ H8=>∃(ds:List Nat) (due here:V) (u8 u9:Option V),σ=[⇑a,⇑p,⇑pc,some (.int ((19+L:Nat):Int)),⇑r,⇑f,some due,some here,u8,u9,none,none]/\Same H7 H8/\hX (ts.map Dn.pr) (R.take i) (ni cs)=ni ds/\Nr b (3*(R.take i).length) cs ds/\Rz K H8 here (dI (ni ds))/\Rz K H8 due (dQ (gn (sW (aq ts) (Wt ts)) (R.take i) cs ds))) ⟨cs,.ref d,.ref pc,none,none,rfl,Same.refl _,rfl,N0,rc7,by rw[List.take_zero,Gr];exact rd4.same S47⟩ (by rintro i σ H8 _ ⟨_,_,_,_,_,_,S8,_⟩;exact SqL.of (S8 _ _ hr7)) ?_ ?_
 .rintro i x σ H8 hx ⟨ds,due,here,u8,u9,rfl,S8,ew,nr8,rh,rd8⟩;unfold ni at hx;rw[QD,QD] at hx;obtain⟨_,f0,rfl⟩:=QG.mp hx;obtain⟨kk,f1,rfl⟩:=QG.mp f0;have li:=(QC.mp f1).1;have lt:(R.take i).length=i:=by rw[Q3];lia
  have et:R.take (i+1)=R.take i++[kk]:=by rw[QX,f1];rfl
  have wk1:ou (ts.map Dn.pr) (R.take i++[kk]) (ni cs):=by
   rw[<- et]
   have:=Ui (i+1) R
   rw[<- this] at wk;exact(eO.mp wk).1
  obtain⟨wk2,wk3,wk4,_⟩:=eO.mp wk1;rw[Qx] at wk3;obtain⟨t,ht⟩:∃t,ts[kk]?=some t:=⟨_,Qy wk3⟩
  obtain⟨tl1,tl2⟩:=(s3 t (QI ht)).1;obtain⟨es,e1,ns1⟩:=A.near wk1 (by rw[QT,lt,RY];lia);have ld:=nr8.len;have ee:Dn.beh (Dn.pr t) (ni ds)=ni es:=by rw[gJ,ew] at e1;rw[<- gd ht];exact e1
  have wk4:Dn.can (Dn.pr t) (ni ds)=true:=by rw[<- gd ht,<- ew];exact wk4
  have one:Nr b 3 ds es:=by
   obtain⟨es',e2,le2,n3⟩:=uE s3 ht (by lia) wk4
   have:es'=es:=by
    rw[ee] at e2;unfold ni at e2;exact(VC (λx y h=>by lia)).mp e2.symm
   subst this;exact⟨by rw[<- ns1.len];lia,by rw[<- ld];lia,A.b1,by lia,nr8.hi,ns1.hi,n3⟩
  have S18:=S17.trans S8;have wkO:ou (ts.map Dn.pr) [kk] (ni ds):=⟨by rw[Qx];exact wk3,by rw[gd ht];exact wk4,trivial⟩
  have l1':=lim (m:=1) (by lia);have b15:1024+5*(b*3)<=13000:=by lia
  cbv;refine⟨.ref p,here,f,ws,ts,t,ws.length,xs,kk,ds,es,b,3,rfl,rv.same S18,o,af,wb,S8 _ _ (S47 _ _ hf4),lf,λi x hx=>((qf4 i x hx).same S47).same S8,ht,rh,by lia,by lia,ee,one,b15,λg9 H9 S9 r9=>?_⟩;cbv;refine⟨gQ,λl nl=>?_⟩;have Sl:=ak nl (.lst [.int (kk:Int)]);have hl:upd H9 l (.lst [.int (kk:Int)]) l=some (.lst ((ni [kk]).map V.int)):=aj;generalize upd H9 l (.lst [.int (kk:Int)])=H10 at Sl hl ⊢;have S8t:=S9.trans Sl;cbv;refine⟨.ref p,here,l,ws,ts,ws.length,[kk],ds,es,b,3,rfl,(rv.same S18).same S8t,o,af,on,wb,hl,rh.same S8t,by rw[<- ld,lc];exact nn,wkO,by show Dn.beh ((ts.map Dn.pr).getD kk ([],[])) (ni ds)=_;rw[gd ht];exact ee,one,by simpa using b15,λq H11 S11 rq=>?_⟩;have S8u:=S8t.trans S11;cbv;refine⟨_,_,_,rfl,.of rq,.of ((r9.same Sl).same S11),?_⟩;cbv;have bx:=Ni (g:=sW (aq ts) (Wt ts)) (R:=R.take i) (λk hk=>gB k (by have:=vx wk2 k hk;rwa [Qx] at this)) nr8;have by_:=Ni (g:=sW (aq ts) (Wt ts)) (R:=[kk]) (λk hk=>by rw[QY.mp hk];exact gB kk wk3) one;rw[lt] at bx;have l2':=lim (m:=i+1) (by lia)
  have sum:1024*i+5*(b*(3*i))+(1024*[kk].length+5*(b*3))<=13000:=by
   have e5:b*(3*(i+1))=b*(3*i)+b*3:=by rw[ZI,Nat.mul_add]
   have e6:[kk].length=1:=rfl;lia
  obtain⟨bx0,bx1,bx2⟩:=bx;obtain⟨by0,by1,by2⟩:=by_;have mul:∀{m n x y:Nat},m+n<=13000->x<=2 ^ m->y<=2 ^ n->x<2 ^ 20000/\y<2 ^ 20000/\x*y<2 ^ 13500:=λ{m n x y} h hx hy=>⟨sQ hx (by lia),sQ hy (by lia),Q4 (Rt hx hy) (by rw[<- SO];exact R5 (by decide) (by lia))⟩
  obtain⟨m1,m2,m3⟩:=mul sum bx1 by1;obtain⟨m4,m5,m6⟩:=mul sum bx2 by2;clear mul bx1 by1 bx2 by2;refine⟨_,_,_,_,rfl,.of (rd8.same S8u),.of ((r9.same Sl).same S11),⟨m1,m2⟩,⟨by rw[Q2];exact m4,by rw[Q2];exact m5⟩,by rw[RM];exact m3,by rw[<- Rs,Q2];exact m6,λq2 H12 S12' r12=>?_⟩;clear m1 m2 m3 m4 m5 m6;rw[JQ] at r12;have S8v:=S8u.trans S12';have S7v:=S8.trans S8v;obtain⟨yt,et2,rt⟩:=ry.get' (i:=kk) (d:=dT t) (by rw[QD,ht];rfl);cbv;refine aF (SqT.of (S7v _ _ hv)) (v:=.ref vb) rfl ?_;cbv;refine aF (SqT.of (S7v _ _ hvb)) (v:=yt) (aI et2) ?_;cbv;refine⟨yt,here,t,ni ds,rfl,rt.same S7v,rh.same S8v,by rw[Gn.bA];lia,by rw[Gn.bA];lia,by rw[Gn.bA];lia,λq3 H13 S13' r13=>?_⟩;rw[ee] at r13;cbv;refine⟨es,_,_,_,_,rfl,S7v.trans S13',?_,?_,r13,?_⟩
  .rw[et];exact e1
  .rw[et];exact ns1
  .rw[et];exact r12.same S13'
 .rintro σ H8 ⟨ds,due,here,u8,u9,rfl,S8,ew,nr8,rh,rd8⟩;rw[show((ni R).map V.int).length=R.length by rw[Qx,Gn.bA],QM (QH _)] at ew nr8 rd8;have S18:=S17.trans S8;cbv;refine jM (SqL.of (S8 _ _ hr7)) λl nl=>?_
  have Sl:=ak nl (.lst ((ni R).map V.int));have hl:upd H8 l (.lst ((ni R).map V.int)) l=some (.lst ((ni R).map V.int)):=aj;generalize upd H8 l (.lst ((ni R).map V.int))=H9 at Sl hl ⊢;have S19:=S18.trans Sl
  have gain:∀{H10:Hp} {l:Addr} {R':List Nat} {Q':VK},Same H9 H10->H10 l=some (.lst ((ni R').map V.int))->ou (ts.map Dn.pr) R' (ni cs)->R'.Perm R->(∀(q:Addr) (H':Hp),Same H10 H'->Rz K H' (.ref q) (dQ (gn (sW (aq ts) (Wt ts)) R cs ds))->Q' (.ref q) H')->∀E',Gn.ja K [.ref p,.ref l,.ref pc] H10 Q' E':=λ{H10 l R' Q'} S h wk' pm kq E'=>by
   have lp:=pm.length_eq;have ew':hX (ts.map Dn.pr) R' (ni cs)=ni ds:=by rw[Cs (w:=cs.length) pm (ni cs) nc];exact ew
   refine⟨.ref p,.ref pc,l,ws,ts,ws.length,R',cs,ds,b,3*R.length,rfl,(rv.same S19).same S,o,af,on,wb,h,(rc.same S19).same S,by rw[lc];exact nn,wk',ew',nr8,by rw[lp];exact lim lR,λq H' S' r=>kq q H' S' ?_⟩;unfold gn at r ⊢
   rwa [IS _ pm] at r
  cbv;refine aT (n:=2) (λi σ H10=>∃u8:Option V,σ=[⇑a,⇑p,⇑pc,some (.int ((19+L:Nat):Int)),⇑r,⇑f,some due,some here,u8,u9,⇑l,none]/\Same H9 H10) ⟨_,rfl,Same.refl _⟩ ?_ ?_
  .rintro i σ H10 hi ⟨u8,rfl,S10⟩;cbv;refine gain S10 (S10 _ _ hl) wk (VR _) (λq H11 S11 rq=>?_) _;cbv;refine⟨_,_,_,rfl,.of rq,.of (((rd8.same Sl).same S10).same S11),?_⟩;cbv;refine Pb (d:=.list ((ni R).map Rn)) (e:=.list ((ni R).map Rn)) (.lst (SqL.of (S11 _ _ (S10 _ _ hl))) (RepL.ints _)) (.lst (SqL.of (S11 _ _ (S10 _ _ (Sl _ _ (S8 _ _ hr7))))) (RepL.ints _)) ?_ ?_ (λz=>absurd rfl z) (λ_=>?_)
   .exact Me _
   .exact Me _
   .cbv;exact⟨_,rfl,S10.trans S11⟩
  .rintro σ H10 ⟨u8,rfl,S10⟩;obtain⟨cells2,ec2,l3,l4⟩:=BE ns (lo:=40) (hi:=51);have S1a:=S19.trans S10;cbv;refine⟨a,_,rfl,S1a.seq hS,λt2 nt2=>?_⟩;have ec2:kH (ns.map V.int) (some 40) (some 51)=cells2.map V.int:=ec2;rw[ec2];have St:=ak nt2 (.lst (cells2.map V.int));have ht2:upd H10 t2 (.lst (cells2.map V.int)) t2=some (.lst (cells2.map V.int)):=aj;generalize upd H10 t2 (.lst (cells2.map V.int))=H11 at St ht2 ⊢;have S1b:=S1a.trans St;have S9b:=S10.trans St;cbv;refine⟨.ref p,.ref pc,r,t2,ws,ts,ni cs,cells2,R,rfl,rv.same S1b,rc.same S1b,S9b _ _ (Sl _ _ (S8 _ _ hr7)),λk hk=>by have:=vx wk k hk;rwa [Qx] at this,by lia,ht2,by lia,nn',by lia,by lia,λq H12 R' L' S12' nq hq wk' pm=>?_⟩;have pl:=pm.length_eq;rw[QT] at pl;have S9c:=S9b.trans S12';cbv;refine b7 (SqL.of hq) ?_;rw[Qx,Gn.bA];cbv;refine b7 (SqL.of (S9c _ _ (Sl _ _ (S8 _ _ hr7)))) ?_;rw[Qx,Gn.bA];cbv;refine bb (λc=>k _) (λc=>?_)
   .have e0:L'=[]:=RS (by lia);rw[e0,Tx] at pm;cbv;refine gain S9c hq wk' pm (λq2 H13 S13' r13=>?_) _;cbv;exact⟨_,_,_,rfl,.of r13,.of (((rd8.same Sl).same S9c).same S13'),k _⟩
def K5{K:Fg} {vs:List V}    (h:spLaw K vs H Q E):Hj K (ends Q) (L2.start ["_law_script","_law_vessel_here","_law_count_here","_law_most","_law_row_here","_law_weights","_law_due","_law_here","_law_k","_law_step","_law_handed","_law_other"] vs) H:=by
 obtain⟨a,ns,rfl,hS,l63,k⟩:=h;rw[show L2.start ["_law_script","_law_vessel_here","_law_count_here","_law_most","_law_row_here","_law_weights","_law_due","_law_here","_law_k","_law_step","_law_handed","_law_other"] [.ref a]=[⇑a,none,none,none,none,none,none,none,none,none,none,none] from rfl];unfold Hj;cbv;refine⟨a,ns,0,rfl,hS,by decide,λp H1 ws ts S1 ev rv=>?_⟩;have vo:=ev.vo;obtain⟨v1,v2,v3,e0,hv,r1,_⟩:=iO rv;cases e0;obtain⟨vw,xs,rfl,hvw,rx⟩:=r1.b5;have lw:xs.length=ws.length:=by rw[rx.length,Qx]
 have w1:=vo.w1;have w5:=vo.w5;cbv;refine aF (SqT.of hv) (v:=.ref vw) rfl ?_;cbv;refine ik (SqT.of hvw) ?_;rw[lw];cbv;refine⟨a,ns,16,ws.length,rfl,S1.seq hS,by decide,w5,λpc H2 cs S2 lc bc rc=>?_⟩;obtain⟨c0,e0,hc⟩:=bM rc;cases e0;have S12:=S1.trans S2;cbv;refine⟨pc,ni cs,rfl,SqT.of hc,λz=>?_,λm hm mx=>?_⟩
 .have:=congrArg Sr z
  rw[Gn.bA] at this;simp at this;rw[this] at lc;simp at lc;lia
 cbv;have t40:(10:Nat) ^ 40=10000000000000000000000000000000000000000:=by decide
 have t134:(2:Nat) ^ 134=21778071482940061661655974875633165533184:=by decide
 refine bb (λc=>?_) (λc=>?_)
 .refine JM (Qj (sZ ?_));exact K2 (L:=3) (b:=134) ⟨ev,lc,by decide,by decide,by decide,λc hc=>by have:=bc c hc;lia⟩ (S12.seq hS) l63 (rv.same S2) rc k
 .exact K2 (L:=11) (b:=8) ⟨ev,lc,by decide,by decide,by decide,λx hx=>by
   have:=mx (x:Int) (by unfold ni;exact QU.mpr ⟨x,hx,rfl⟩)
   lia⟩ (S12.seq hS) l63 (rv.same S2) rc k
def Dp:aC ["value"] ["value"] (ao (top 8)):=by walk_at "s"
def fT:aC ["one","two","rest"] ["one","two"] (ao (top 9)):=by walk_at "s"
def sD:aC ["top","bottom","divisor"] ["top","bottom"] (ao (top 10)):=by walk_at "s"
def HK:aC ["one","two"] ["one","two"] (ao (top 11)):=by walk_at "s"
def Dq:aC ["one","two"] ["one","two"] (ao (top 12)):=by walk_at "s"
def ku:aC ["row","place","number"] ["row"] (ao (top 14)):=by walk_at "s"
def su:aC ["size","own"] ["size","own"] (ao (top 15)):=by walk_at "s"
def oY:aC ["size"] ["size"] (ao (top 16)):=by walk_at "s"
def gS:aC ["row","divisor","number"] ["row"] (ao (top 17)):=by walk_at "s"
def yY:aC ["row","place","divisor"] ["row"] (ao (top 18)):=by walk_at "s"
def vX:aC ["row","stairs","stair","place"] ["row","stairs"] (ao (top 19)):=by walk_at "s"
def yW:aC ["rows","stairs","free","makers","units","place","row","rest"] ["rows"] (ao (top 20)):=by walk_at "s"
def iA:aC ["rows"] ["rows"] (ao (top 21)):=by walk_at "s"
def sC:aC ["turnings","found","turning"] ["turnings"] (ao (top 24)):=by walk_at "s"
def Dw:aC ["vessel"] ["vessel"] (ao (top 25)):=by walk_at "s"
def mO:aC ["vessel","number","turnings"] ["vessel","number"] (ao (top 26)):=by walk_at "s"
def jg:aC ["vessel","numbers","number","heap"] ["vessel"] (ao (top 28)):=by walk_at "s"
def o4:aC ["things","thing"] ["things","thing"] (ao (top 29)):=by walk_at "s"
def HL:aC ["vessel","firsts","one","two","lesser","greater"] ["vessel"] (ao (top 30)):=by walk_at "s"
def mT:aC ["vessel","number"] ["vessel","number"] (ao (top 31)):=by walk_at "s"
def HJ:aC ["vessel","one","two","ends","roads","come_to","place","here","number","end"] ["vessel","one","two"] (ao (top 32)):=by walk_at "s"
def jj:aC ["vessel","number","end"] ["vessel"] (ao (top 33)):=by walk_at "s"
def o5:aC ["number","told_lots"] ["number","told_lots"] (ao (top 35)):=by walk_at "s"
def pA:aC ["vessel","told_lots"] ["vessel"] (ao (top 36)):=by walk_at "s"
def oZ:aC ["number","divisor","often"] ["number","divisor"] (ao (top 38)):=by walk_at "s"
def Dr:aC ["one","two","divisor","first","second"] ["one","two"] (ao (top 39)):=by walk_at "s"
def eA:aC ["powers","number","place","power"] ["powers","number"] (ao (top 40)):=by walk_at "s"
def Dx:aC ["powers","told","left","power","place"] ["powers"] (ao (top 41)):=by walk_at "s"
def yX:aC ["number","often","product","again"] ["number","often"] (ao (top 42)):=by walk_at "s"
def mP:aC ["powers","top","bottom","number","often"] ["powers"] (ao (top 43)):=by walk_at "s"
def iz:aC ["ends","heap"] ["ends","heap"] (ao (top 46)):=by walk_at "s"
def Du:aC ["ends","some","told","heap","longer","pick"] ["ends","some"] (ao (top 47)):=by walk_at "s"
def vV:aC ["ends","pick","heap","steps","number","start","here","step"] ["ends","pick","heap"] (ao (top 48)):=by walk_at "s"
def je:aC ["turnings","pick","product","number"] ["turnings","pick"] (ao (top 49)):=by walk_at "s"
def km:aC ["turnings","ends","lot","heap","weight","pick"] ["turnings","ends","lot","heap"] (ao (top 50)):=by walk_at "s"
def jd:aC ["vessel","ends","weights","lot","heap"] ["vessel"] (ao (top 51)):=by walk_at "s"
def vW:aC ["pieces","taken","product","less"] ["pieces","taken"] (ao (top 53)):=by walk_at "s"
def kw:aC ["turning","count"] ["turning","count"] (ao (top 54)):=by walk_at "s"
def jm:aC ["turning","count"] ["turning","count"] (ao (top 55)):=by walk_at "s"
def yV:aC ["vessel","row","count","here","at","number","turning"] ["vessel","row","count"] (ao (top 56)):=by walk_at "s"
def iy:aC ["weights","row","powers","weight","often"] ["weights","row"] (ao (top 58)):=by walk_at "s"
def HN:aC ["vessel","astray","weights","row"] ["vessel"] (ao (top 59)):=by walk_at "s"
def jk:aC ["vessel","told"] ["vessel"] (ao (top 60)):=by walk_at "s"
def iE:aC ["vessel","row","size","ends","often","number","one","two"] ["vessel","row","size"] (ao (top 61)):=by walk_at "s"
def jh:aC ["vessel","weights","row","ahead","behind","product","top","bottom","one","two"] ["vessel","weights","row","ahead","behind"] (ao (top 62)):=by walk_at "s"
def HM:aC ["vessel","row","count","weights"] ["vessel","row","count"] (ao (top 63)):=by walk_at "s"
def ko:aC ["_law_script","_law_k"] ["_law_script","_law_k"] (ao (top 65)):=by walk_at "s"
def o_:aC ["_law_cell","_law_place","_law_number"] ["_law_cell","_law_place"] (ao (top 66)):=by walk_at "s"
def kn:aC ["_law_one","_law_two"] ["_law_one","_law_two"] (ao (top 67)):=by walk_at "s"
def mR:aC ["_law_top","_law_bottom","_law_by"] ["_law_top","_law_bottom"] (ao (top 68)):=by walk_at "s"
def o7:aC ["_law_number","_law_many","_law_letters","_law_found","_law_k","_law_first"] ["_law_number","_law_many"] (ao (top 69)):=by walk_at "s"
def sy:aC ["_law_cell","_law_k","_law_many","_law_top","_law_plain","_law_number","_law_found","_law_j"] ["_law_cell","_law_k","_law_many","_law_top","_law_plain"] (ao (top 70)):=by walk_at "s"
def sv:aC ["_law_script","_law_at","_law_many","_law_size","_law_top","_law_plain","_law_found","_law_k","_law_heap_here"] ["_law_script","_law_at","_law_many","_law_size","_law_top","_law_plain"] (ao (top 71)):=by walk_at "s"
def o9:aC ["_law_script","_law_at","_law_size","_law_kind","_law_plain","_law_found","_law_k","_law_after","_law_cell","_law_one","_law_step","_law_chosen","_law_two"] ["_law_script","_law_at","_law_size","_law_kind","_law_plain"] (ao (top 72)):=by walk_at "s"
def sw:aC ["_law_cell","_law_kind"] ["_law_cell","_law_kind"] (ao (top 73)):=by walk_at "s"
def mQ:aC ["_law_script","_law_at","_law_number","_law_many","_law_top","_law_plain","_law_pool_here","_law_pairs_here","_law_rows","_law_k","_law_cell","_law_one","_law_two"] ["_law_script","_law_at"] (ao (top 74)):=by walk_at "s"
def pf:aC ["_law_vessel_here","_law_found","_law_take","_law_give","_law_pace_here","_law_heap_here"] ["_law_vessel_here"] (ao (top 75)):=by walk_at "s"
def sB:aC ["_law_vessel_here","_law_told"] ["_law_vessel_here"] (ao (top 76)):=by walk_at "s"
def o8:aC ["_law_one","_law_two"] ["_law_one","_law_two"] (ao (top 78)):=by walk_at "s"
def gi:aC ["_law_script","_law_at","_law_vessel_here","_law_number","_law_many","_law_weights","_law_k","_law_rows","_law_take","_law_give","_law_pace_here","_law_back","_law_stuff"] ["_law_script","_law_at"] (ao (top 79)):=by walk_at "s"
def iB:aC ["_law_script","_law_at","_law_number","_law_many","_law_size","_law_piles","_law_k","_law_heap_here","_law_rows","_law_cell"] ["_law_script","_law_at"] (ao (top 80)):=by walk_at "s"
def jf:aC ["_law_script","_law_at"] ["_law_script","_law_at"] (ao (top 81)):=by walk_at "s"
def pi:aC ["_law_cell","_law_many","_law_size","_law_found","_law_number","_law_k"] ["_law_cell","_law_many","_law_size"] (ao (top 82)):=by walk_at "s"
def vU:aC ["_law_turning","_law_count_here"] ["_law_turning","_law_count_here"] (ao (top 83)):=by walk_at "s"
def mS:aC ["_law_turning","_law_count_here"] ["_law_turning","_law_count_here"] (ao (top 84)):=by walk_at "s"
def kr:aC ["_law_low","_law_high","_law_found","_law_number"] ["_law_low","_law_high"] (ao (top 85)):=by walk_at "s"
def sA:aC ["_law_vessel_here","_law_weights","_law_k","_law_count_here","_law_ends_here","_law_one","_law_two","_law_top","_law_bottom","_law_here","_law_there"] ["_law_vessel_here","_law_weights","_law_k","_law_count_here"] (ao (top 86)):=by walk_at "s"
def gR:aC ["_law_script","_law_at","_law_many","_law_size","_law_count_here"] ["_law_script","_law_at","_law_many"] (ao (top 87)):=by walk_at "s"
def di:aC ["_law_found","_law_due","_law_k"] ["_law_found","_law_due"] (ao (top 88)):=by walk_at "s"
def vT:aC ["_law_vessel_here","_law_count_here","_law_cells","_law_found","_law_cell","_law_can_here"] ["_law_vessel_here","_law_count_here","_law_cells"] (ao (top 89)):=by walk_at "s"
def iC:aC ["_law_vessel_here","_law_count_here","_law_row_here","_law_cells","_law_left","_law_found","_law_cell","_law_can_here","_law_k"] ["_law_vessel_here","_law_count_here","_law_row_here","_law_cells"] (ao (top 90)):=by walk_at "s"
def FJ:aC ["_law_script","_law_vessel_here","_law_count_here","_law_most","_law_row_here","_law_weights","_law_due","_law_here","_law_k","_law_step","_law_handed","_law_other"] ["_law_script"] (ao (top 91)):=by walk_at "s"
section
variable(P:Rx)(w:RQ)(K:Fg)(mg:Str->Option QF)(base:Heap)(k:Nat)
nonrec abbrev oD:=FnC P w K mg base bg k "whole" ["value"] i7
nonrec abbrev bn:=FnC P w K mg base bg k "greatest_divisor" ["one","two"] oT
nonrec abbrev lP:=FnC P w K mg base bg k "fraction" ["top","bottom"] (Gn.mJ K)
nonrec abbrev GM:=FnC P w K mg base bg k "plus" ["one","two"] (rX K)
nonrec abbrev B_:=FnC P w K mg base bg k "times" ["one","two"] (mF K)
nonrec abbrev cF:=FnC P w K mg base bg k "first_place" ["row"] (jb K)
nonrec abbrev lH:=FnC P w K mg base bg k "unit_row" ["size","own"] (rQ K)
nonrec abbrev j3:=FnC P w K mg base bg k "unit_rows" ["size"] (rP K)
nonrec abbrev dX:=FnC P w K mg base bg k "common_divisor" ["row"] (HA K)
nonrec abbrev oE:=FnC P w K mg base bg k "lowest" ["row"] (ug K)
nonrec abbrev qQ:=FnC P w K mg base bg k "cleared" ["row","stairs"] (HB K)
nonrec abbrev vE:=FnC P w K mg base bg k "sifted" ["rows"] (yE K)
nonrec abbrev eT:=FnC P w K mg base bg k "nought_makers" ["rows"] (mI K)
nonrec abbrev lO:=FnC P w K mg base bg k "heaps_of" ["turnings"] (i_ K)
nonrec abbrev kf:=FnC P w K mg base bg k "heaps" ["vessel"] (dh K)
nonrec abbrev iq:=FnC P w K mg base bg k "turning_at" ["vessel","number"] (Rw.mD K)
nonrec abbrev bN:=FnC P w K mg base bg k "heap_numbers" ["vessel"] (fF K)
nonrec abbrev j5:=FnC P w K mg base bg k "places_of" ["things","thing"] (mG K)
nonrec abbrev Cc:=FnC P w K mg base bg k "lots" ["vessel"] (uh K)
nonrec abbrev iw:=FnC P w K mg base bg k "check_heap" ["vessel","number"] (ui K)
nonrec abbrev GL:=FnC P w K mg base bg k "road" ["vessel","one","two"] (yF K)
nonrec abbrev fM:=FnC P w K mg base bg k "first_astray" ["vessel"] (As.mL K)
nonrec abbrev j6:=FnC P w K mg base bg k "lot_marks" ["number","told_lots"] (sd K)
nonrec abbrev kc:=FnC P w K mg base bg k "lack_rows" ["vessel"] (sg K)
nonrec abbrev j4:=FnC P w K mg base bg k "taken_out" ["number","divisor"] (Pw.Db K)
nonrec abbrev Ca:=FnC P w K mg base bg k "split" ["one","two"] (Pw.rT K)
nonrec abbrev cD:=FnC P w K mg base bg k "place_with_divisor" ["powers","number"] (Pw.rZ K)
nonrec abbrev tV:=FnC P w K mg base bg k "apart" ["powers"] (Pw.mM K)
nonrec abbrev vF:=FnC P w K mg base bg k "raised" ["number","often"] Gn.uf
nonrec abbrev ir:=FnC P w K mg base bg k "multiplied" ["powers"] (Gn.yH K)
nonrec abbrev eS:=FnC P w K mg base bg k "turnings_from" ["ends","heap"] (yJ K)
nonrec abbrev Cb:=FnC P w K mg base bg k "picks" ["ends","some"] (r_ K)
nonrec abbrev qO:=FnC P w K mg base bg k "is_tree" ["ends","pick","heap"] (yA K)
nonrec abbrev fJ:=FnC P w K mg base bg k "pace_product" ["turnings","pick"] (Tr.yG K)
nonrec abbrev gD:=FnC P w K mg base bg k "tree_weight" ["turnings","ends","lot","heap"] (rS K)
nonrec abbrev cY:=FnC P w K mg base bg k "tree_weights" ["vessel"] (mE K)
nonrec abbrev qP:=FnC P w K mg base bg k "falling" ["pieces","taken"] Gn.mK
nonrec abbrev gH:=FnC P w K mg base bg k "can_be_made" ["turning","count"] (Wd.yM K)
nonrec abbrev fQ:=FnC P w K mg base bg k "count_behind" ["turning","count"] (Wd.yL K)
nonrec abbrev vD:=FnC P w K mg base bg k "walked" ["vessel","row","count"] (Gn.yy K)
nonrec abbrev cN:=FnC P w K mg base bg k "weight_powers" ["weights","row"] (Pw.C_ K)
nonrec abbrev GO:=FnC P w K mg base bg k "even" ["vessel"] (Pw.yK K)
nonrec abbrev fN:=FnC P w K mg base bg k "even_weights" ["vessel"] (Gn.Hz K)
nonrec abbrev eY:=FnC P w K mg base bg k "heaps_come_to" ["vessel","row","size"] (Gn.Hy K)
nonrec abbrev fL:=FnC P w K mg base bg k "gain_between" ["vessel","weights","row","ahead","behind"] (Gn.spGb K)
nonrec abbrev GN:=FnC P w K mg base bg k "gain" ["vessel","row","count"] (Gn.ja K)
nonrec abbrev bj:=FnC P w K mg base bg k "_law_cell_at" ["_law_script","_law_k"] (c6 K)
nonrec abbrev bZ:=FnC P w K mg base bg k "_law_mixed" ["_law_cell","_law_place"] dH
nonrec abbrev gE:=FnC P w K mg base bg k "_law_divisor" ["_law_one","_law_two"] oT
nonrec abbrev eX:=FnC P w K mg base bg k "_law_lowest" ["_law_top","_law_bottom"] (Gn.oS K)
nonrec abbrev f_:=FnC P w K mg base bg k "_law_words" ["_law_number","_law_many"] (gg K)
nonrec abbrev lK:=FnC P w K mg base bg k "_law_heap" ["_law_cell","_law_k","_law_many","_law_top","_law_plain"] (sj K)
nonrec abbrev lI:=FnC P w K mg base bg k "_law_pool" ["_law_script","_law_at","_law_many","_law_size","_law_top","_law_plain"] (rV K)
nonrec abbrev j7:=FnC P w K mg base bg k "_law_pairs" ["_law_script","_law_at","_law_size","_law_kind","_law_plain"] (mH K)
nonrec abbrev hE:=FnC P w K mg base bg k "_law_pace" ["_law_cell","_law_kind"] (i9 K)
nonrec abbrev iu:=FnC P w K mg base bg k "_law_vessel" ["_law_script","_law_at"] (yz K)
nonrec abbrev j9:=FnC P w K mg base bg k "_law_heaps" ["_law_vessel_here"] (dh K)
nonrec abbrev lN:=FnC P w K mg base bg k "_law_ends" ["_law_vessel_here"] (fF K)
nonrec abbrev tU:=FnC P w K mg base bg k "_law_times" ["_law_one","_law_two"] (Gn.iY K)
nonrec abbrev dg:=FnC P w K mg base bg k "_law_even_vessel" ["_law_script","_law_at"] (Pw.sk K)
nonrec abbrev eU:=FnC P w K mg base bg k "_law_zero_lack" ["_law_script","_law_at"] (Gn.yx K)
nonrec abbrev fK:=FnC P w K mg base bg k "_law_balanced" ["_law_script","_law_at"] (Gn.HC K)
nonrec abbrev j_:=FnC P w K mg base bg k "_law_count" ["_law_cell","_law_many","_law_size"] (Dn.so K)
nonrec abbrev kb:=FnC P w K mg base bg k "_law_can" ["_law_turning","_law_count_here"] (Dn.Dc K)
nonrec abbrev cz:=FnC P w K mg base bg k "_law_behind" ["_law_turning","_law_count_here"] (Dn.e9 K)
nonrec abbrev gF:=FnC P w K mg base bg k "_law_between" ["_law_low","_law_high"] Gn.Dd
nonrec abbrev lM:=FnC P w K mg base bg k "_law_gain" ["_law_vessel_here","_law_weights","_law_k","_law_count_here"] (Gn.si K)
nonrec abbrev dU:=FnC P w K mg base bg k "_law_some_count" ["_law_script","_law_at","_law_many"] (Gn.yC K)
nonrec abbrev qN:=FnC P w K mg base bg k "_law_row" ["_law_vessel_here","_law_count_here","_law_cells"] (Gn.yI K)
nonrec abbrev eV:=FnC P w K mg base bg k "_law_other_row" ["_law_vessel_here","_law_count_here","_law_row_here","_law_cells"] (Gn.Hx K)
end
section
variable{P:Rx}{w:RQ}{K:Fg}{mg:Str->Option QF}{base:Heap}
seal PE PS PSs PA PT
local macro_rules | `(tactic| walk_at "l")=>`(tactic| (intro h;repeat (first|(obtain⟨e,_⟩:=h;cases e;exact rfl)|obtain⟨_,h⟩:=h)))
seal fD eR IxR Of Og PI PG Km PW PO PC binaryOp compareOp unaryOp
set_option hygiene false in
local macro_rules | `(tactic| fail "t")=>`(tactic| first|((with_reducible show PE _ _ _);fail "e")|((with_reducible show PA _ _ _);fail "a")|((with_reducible show PS _ _ _);fail "s")|((with_reducible show PSs _ _ _);fail "S")|((with_reducible show PT _ _ _);fail "b")|((with_reducible show PW _ _ _);fail "w")|((with_reducible show PG _ _ _);fail "g")|((with_reducible show Km _ _ _);fail "G")|((with_reducible show PI _ _ _ _);fail "i")|((with_reducible show PO _ _ _);fail "o")|((with_reducible show PC _ _ _ _ _);fail "C")|((with_reducible show N2 _ _ _ _ _);fail "P")|skip)
set_option hygiene false in
local macro_rules | `(tactic| fail "e")=>`(tactic| first|exact pv _|exact LQ|exact jw rfl B.tuple vq rfl|exact jw rfl B.list tJ rfl|exact jw rfl B.bool J5 rfl|exact jw rfl B.int GH rfl|exact jw rfl B.str NE rfl|exact LK|exact OI|exact El|exact zQ rfl G.ONE rfl|exact zQ rfl G.NOUGHT rfl|exact Em|exact LH|((first|refine OG (by fail "p") ?_ ?_|refine OH (by fail "x") ?_ ?_ (λ_ _=>rfl)|refine Ja (by fail "q") ?_ ?_ (F5 _)|((with_reducible show PE _ _ (aD _ _ _ _));refine Ep (by assumption) hr rfl ?_)|refine LG ?_|refine ff (by fail "c") rfl B.isinstance oj ?_|refine LS ?_ ?_|refine LJ ?_|refine ff (by fail "c") rfl B.len NI ?_|refine ff (by fail "c") rfl B.abs NK ?_|refine OE (by fail "r") ?_|refine Ek ?_ ?_ ?_|refine Qu (.of (by kernel_rfl!)) (of_decide_eq_true (by kernel_rfl!)) rfl ?_ (λ_ _ _ _ _=>?_)|refine jv (by fail "y") rfl B.list tJ ?_|refine Qs (.of (by kernel_rfl!)) rfl ?_ (λ_ _ _ _ _=>?_) (λ_ _ _ _ _=>?_)|refine LL ?_|refine zR Tk PySem.F.slot_list_append PySem.F.type_list_append pZ ?_ ?_|refine Ej (by fail "r") ?_ ?_ ?_|refine I_ hu1 ?_ ?_ (λ_ _=>rfl)|refine Qt (.of (by kernel_rfl!)) rfl ?_ (λ_ _ _ _ _=>?_) (λ_ _ _ _ _=>?_) (λ_ _ _ _ _=>?_)|refine pI rfl rfl B.list rfl B.range ?_|refine ff (by fail "c") rfl B.min NG ?_|refine ff (by fail "c") rfl B.max NH ?_|refine wc rfl rfl B.sorted rfl B.set ?_|refine I0 ?_ rfl rfl (by simp) (by decide)|refine En hu1 ?_ ?_ ⟨rfl,rfl,rfl,rfl⟩|refine LR Tk Ym Yn Mh ?_|refine zR Tk PySem.F.slot_list_extend PySem.F.type_list_extend Am ?_ ?_|refine zR Tk Ym Yn ED ?_ ?_|refine ff (by fail "c") rfl B.all NJ ?_|refine jv (by fail "y") rfl B.tuple vq ?_|refine jv (by fail "y") rfl B.int GH ?_|refine zR Tk PySem.F.slot_list_index PySem.F.type_list_index (EE hu) ?_ ?_|refine zR Tk PySem.F.slot_list_remove PySem.F.type_list_remove (Ak hu) ?_ ?_|refine OF ?_ ?_|refine LI ?_)<;>fail "t"))
set_option hygiene false in
local macro_rules | `(tactic| fail "a")=>`(tactic| first|exact LW|((first|refine Jd ?_ ?_)<;>fail "t"))
set_option hygiene false in
local macro_rules | `(tactic| fail "s")=>`(tactic| first|((first|refine Ls nd rfl (by walk_at "o") ?_|refine Lu ?_|refine OD ?_ ?_ ?_|refine Lw hpo rfl ?_ ?_ ?_|refine Lv rfl nd rfl rfl (by decide) rfl rfl ?_ rfl|refine Ec hpo ?_ ?_|refine IK ?_|refine IL hu1 ?_ ?_ ?_ rfl|refine Qp nd rfl rfl (.of (by kernel_rfl!)) rfl ?_ (λ_ _ _ _ _=>?_) (λ_ _ _ _ _=>?_) (λ_ _ _ _ _=>?_)|((with_reducible first|show PS _ (.Assign [.Tuple _ _ _] _ _) _|show PS _ (.Assign [.Subscript _ _ _] _ _) _);refine Lx ?_ ?_))<;>fail "t"))
set_option hygiene false in
local macro_rules | `(tactic| fail "S")=>`(tactic| first|exact IJ|exact zA|((first|refine II ?_|refine Eb ?_ ?_)<;>fail "t"))
set_option hygiene false in
local macro_rules | `(tactic| fail "b")=>`(tactic| first|((first|refine zy (by fail "q") ?_ ?_ (F5 _)|refine zy (by fail "q") ?_ ?_ (by with_unfolding_all rfl)|((with_reducible show PT _ (.BoolOp _ _ _) _);refine PW.pt ?_)|refine Lp ?_|refine Ea (by fail "q") (by fail "q") ?_ ?_ ?_|refine Lq ?_ (by with_unfolding_all rfl)|refine Lm ?_)<;>fail "t"))
set_option hygiene false in
local macro_rules | `(tactic| fail "w")=>`(tactic| first|((first|refine pw_or ?_ ?_|refine pw_or1 ?_|refine pw_and ?_ ?_|refine pw_and1 ?_)<;>fail "t"))
set_option hygiene false in
local macro_rules | `(tactic| fail "g")=>`(tactic| first|exact zP (by first|exact nd|exact of_decide_eq_true (by kernel_rfl!)) rfl (by walk_at "o")|((first|refine LC rfl ?_|refine LD ?_ ?_ yR)<;>fail "t"))
set_option hygiene false in
local macro_rules | `(tactic| fail "G")=>`(tactic| first|exact IZ|((first|refine Ei ?_ ?_)<;>fail "t"))
set_option hygiene false in
local macro_rules | `(tactic| fail "i")=>`(tactic| first|((first|refine zO rfl B.range ?_|refine IY rfl B.enumerate ?_|refine LA rfl B.zip ?_|refine IW rfl B.zip ?_|refine zM rfl B.range ?_|refine IX ?_|refine LB ?_)<;>fail "t"))
set_option hygiene false in
local macro_rules | `(tactic| fail "o")=>`(tactic| first|exact IR|((first|refine IQ ?_)<;>fail "t"))
set_option hygiene false in
local macro_rules | `(tactic| fail "C")=>`(tactic| first|((first|refine zS hu1 ?_ ?_)<;>fail "t"))
set_option hygiene false in
local macro_rules | `(tactic| fail "P")=>`(tactic| first|exact IP|((first|refine Eh ?_ ?_ ?_)<;>fail "t"))
set_option hygiene false in
local macro_rules | `(tactic| fail "c")=>`(tactic| first|exact Ff|exact BP|exact qC|exact Fi|exact(BL rfl)|exact(BN rfl)|exact BO|exact(Fh rfl)|exact(BM rfl))
set_option hygiene false in
local macro_rules | `(tactic| fail "p")=>`(tactic| first|exact Jh|exact Es|exact L8|exact Jg|exact Et|exact LY|exact L7|exact LZ|exact L4|exact L3|exact we|exact Ji|exact Je|exact L0)
set_option hygiene false in
local macro_rules | `(tactic| fail "q")=>`(tactic| first|exact OO|exact L5|exact OK|exact OL|exact OM|exact(L6 hu)|exact ON|exact Jf|exact(zZ hu)|exact(L1 hu))
set_option hygiene false in
local macro_rules | `(tactic| fail "r")=>`(tactic| first|exact Kv|exact HF|exact KP)
set_option hygiene false in
local macro_rules | `(tactic| fail "x")=>`(tactic| first|exact M4|exact Gk|exact AM|exact Gm)
set_option hygiene false in
local macro_rules | `(tactic| fail "y")=>`(tactic| first|exact qB|exact(wH rfl)|exact(tI rfl)|exact n_|exact BQ)
set_option hygiene false in
local macro_rules | `(tactic| exists $s:term,$t:term,$r:term)=>`(tactic| (refine F.okN $s (λ_ _ _ _=>by walk_at "l") λf cdv A outer s H vs Q E nd hr hu hu1 hpo own h=>⟨$t,?_,$r⟩;fail "t"))
def Eu(F:aN K mg "whole" (top 8) ["value"]) (B:bQ mg)  : oD P w K mg base 1:=by
 exists Dp,FF K,(by obtain⟨i,rfl,k⟩:=h;exact DC k)
def fX(F:aN K mg "greatest_divisor" (top 9) ["one","two"]) (B:bQ mg)  : bn P w K mg base 1:=by
 exists fT,KI,(by obtain⟨a,b,rfl,k⟩:=h;exact K8 a b H _ k)
def sN(F:aN K mg "fraction" (top 10) ["top","bottom"]) (B:bQ mg) (se:bn P w K mg base 1) (c_whole:oD P w K mg base 1):lP P w K mg base 2:=by
 exists sD,Gn.rF K,(Gn.DV rfl h)
def Jl(F:aN K mg "plus" (top 11) ["one","two"]) (B:bQ mg) (Fx:FnC P w K mg base bg 2 "fraction" ["top","bottom"] (gP K)):GM P w K mg base 3:=by
 exists HK,re K,(DL rfl h)
def Ew(F:aN K mg "times" (top 12) ["one","two"]) (B:bQ mg) (Fx:FnC P w K mg base bg 2 "fraction" ["top","bottom"] (gP K)):B_ P w K mg base 3:=by
 exists Dq,l9 K,(zd rfl h)
def kC(F:aN K mg "first_place" (top 14) ["row"]) (B:bQ mg)  : cF P w K mg base 1:=by
 exists ku,rG K,(DW rfl h)
def sG(F:aN K mg "unit_row" (top 15) ["size","own"]) (B:bQ mg)  : lH P w K mg base 1:=by
 exists su,qW K,(DF rfl h)
def pK(F:aN K mg "unit_rows" (top 16) ["size"]) (B:bQ mg) (c_unit_row:lH P w K mg base 1):j3 P w K mg base 2:=by
 exists oY,qV K,(DE rfl h)
def gZ(F:aN K mg "common_divisor" (top 17) ["row"]) (B:bQ mg) (se:bn P w K mg base 1):dX P w K mg base 2:=by
 exists gS,Hn K,(K9 rfl h)
def Af(F:aN K mg "lowest" (top 18) ["row"]) (B:bQ mg) (xy:cF P w K mg base 2) (c_common_divisor:dX P w K mg base 2):oE P w K mg base 3:=by
 exists yY,xN K,(Ig rfl h)
def wn(F:aN K mg "cleared" (top 19) ["row","stairs"]) (B:bQ mg) (xy:cF P w K mg base 3) (c_lowest:oE P w K mg base 3):qQ P w K mg base 4:=by
 exists vX,yg K,(Ip rfl h)
def Ac(F:aN K mg "sifted" (top 20) ["rows"]) (B:bQ mg) (c_unit_rows:j3 P w K mg base 4) (c_cleared:qQ P w K mg base 4) (xy:cF P w K mg base 4) (c_lowest:oE P w K mg base 4):vE P w K mg base 5:=by
 exists yW,xz K,(HX rfl h)
def iI(F:aN K mg "nought_makers" (top 21) ["rows"]) (B:bQ mg) (c_sifted:vE P w K mg base 5):eT P w K mg base 6:=by
 exists iA,mf K,(zg rfl h)
def sM(F:aN K mg "heaps_of" (top 24) ["turnings"]) (B:bQ mg)  : lO P w K mg base 1:=by
 exists sC,i5 K,(vY rfl h)
def EA(F:aN K mg "heaps" (top 25) ["vessel"]) (B:bQ mg) (c_heaps_of:lO P w K mg base 1):kf P w K mg base 2:=by
 exists Dw,rD K,(DT rfl h)
def m8(F:aN K mg "turning_at" (top 26) ["vessel","number"]) (B:bQ mg) (c_whole:oD P w K mg base 1):iq P w K mg base 2:=by
 exists mO,Rw.lY K,(Rw.zb rfl h)
def jA(F:aN K mg "heap_numbers" (top 28) ["vessel"]) (B:bQ mg) (c_heaps:kf P w K mg base 2):bN P w K mg base 3:=by
 exists jg,xT K,(Ii rfl h)
def pM(F:aN K mg "places_of" (top 29) ["things","thing"]) (B:bQ mg)  : j5 P w K mg base 1:=by
 exists o4,l_ K,(ze rfl h)
def Jm(F:aN K mg "lots" (top 30) ["vessel"]) (B:bQ mg) (sn:bN P w K mg base 3) (c_places_of:j5 P w K mg base 3) (c_heaps:kf P w K mg base 3):Cc P w K mg base 4:=by
 exists HL,xO K,(Ih rfl h)
def nA(F:aN K mg "check_heap" (top 31) ["vessel","number"]) (B:bQ mg) (c_whole:oD P w K mg base 2) (c_heaps:kf P w K mg base 2):iw P w K mg base 3:=by
 exists mT,yh K,(Iq rfl h)
def Jk(F:aN K mg "road" (top 32) ["vessel","one","two"]) (B:bQ mg) (c_check_heap:iw P w K mg base 3) (sn:bN P w K mg base 3):GL P w K mg base 4:=by
 exists HJ,xA K,(HY rfl h)
def jC(F:aN K mg "first_astray" (top 33) ["vessel"]) (B:bQ mg) (sn:bN P w K mg base 4) (c_road:GL P w K mg base 4):fM P w K mg base 5:=by
 exists jj,As.mq K,(As.zj rfl h)
def pN(F:aN K mg "lot_marks" (top 35) ["number","told_lots"]) (B:bQ mg)  : j6 P w K mg base 1:=by
 exists o5,rn K,(DP rfl h)
def pU(F:aN K mg "lack_rows" (top 36) ["vessel"]) (B:bQ mg) (c_lots:Cc P w K mg base 6) (c_nought_makers:eT P w K mg base 6) (c_lot_marks:j6 P w K mg base 6) (c_heaps:kf P w K mg base 6):kc P w K mg base 7:=by
 exists pA,rC K,(DS rfl h)
def pL(F:aN K mg "taken_out" (top 38) ["number","divisor"]) (B:bQ mg)  : j4 P w K mg base 1:=by
 exists oZ,Pw.G6 K,(Pw.KZ rfl h)
def Ex(F:aN K mg "split" (top 39) ["one","two"]) (B:bQ mg) (se:bn P w K mg base 1) (c_taken_out:j4 P w K mg base 1):Ca P w K mg base 2:=by
 exists Dr,Pw.qZ K,(Pw.DJ rfl h)
def eI(F:aN K mg "place_with_divisor" (top 40) ["powers","number"]) (B:bQ mg) (se:bn P w K mg base 1):cD P w K mg base 2:=by
 exists eA,Pw.rf K,(Pw.DM rfl h)
def EB(F:aN K mg "apart" (top 41) ["powers"]) (B:bQ mg) (Dv:cD P w K mg base 2) (c_split:Ca P w K mg base 2):tV P w K mg base 3:=by
 exists Dx,Pw.rL K,(Pw.D4 rfl h)
def Ae(F:aN K mg "raised" (top 42) ["number","often"]) (B:bQ mg)  : vF P w K mg base 1:=by
 exists yX,Gn.xC K,(Gn.HZ rfl h)
def m9(F:aN K mg "multiplied" (top 43) ["powers"]) (B:bQ mg) (c_apart:tV P w K mg base 3) (c_raised:vF P w K mg base 3):ir P w K mg base 4:=by
 exists mP,Gn.xJ K,(Gn.Ia rfl h)
def iH(F:aN K mg "turnings_from" (top 46) ["ends","heap"]) (B:bQ mg)  : eS P w K mg base 1:=by
 exists iz,xX K,(Ik rfl h)
def Ez(F:aN K mg "picks" (top 47) ["ends","some"]) (B:bQ mg) (c_turnings_from:eS P w K mg base 1):Cb P w K mg base 2:=by
 exists Du,rj K,(DN rfl h)
def wj(F:aN K mg "is_tree" (top 48) ["ends","pick","heap"]) (B:bQ mg)  : qO P w K mg base 1:=by
 exists vV,xq K,(HV rfl h)
def jy(G:Cn K mg nq oq) (F:aN K mg "pace_product" (top 49) ["turnings","pick"]) (B:bQ mg) (c_times:B_ P w K mg base 3):fJ P w K mg base 4:=by
 exists je,xI K oq,(H_ G.one rfl h)
def ky(G:Cn K mg nq oq) (F:aN K mg "tree_weight" (top 50) ["turnings","ends","lot","heap"]) (B:bQ mg) (c_picks:Cb P w K mg base 4) (c_is_tree:qO P w K mg base 4) (c_plus:GM P w K mg base 4) (c_pace_product:fJ P w K mg base 4):gD P w K mg base 5:=by
 exists km,qY K nq,(DH G.zero rfl h)
def jx(F:aN K mg "tree_weights" (top 51) ["vessel"]) (B:bQ mg) (sn:bN P w K mg base 5) (c_lots:Cc P w K mg base 5) (c_tree_weight:gD P w K mg base 5):cY P w K mg base 6:=by
 exists jd,qX K,(DG rfl h)
 refine LP (M:=["vessel","ends","weights","lot","#heap"]) (.of (by kernel_rfl!)) nd rfl ?_ (λ_ _ _ _ _=>?_) <;> fail "t"
def wm(F:aN K mg "falling" (top 53) ["pieces","taken"]) (B:bQ mg)  : qP P w K mg base 1:=by
 exists vW,Gn.rH K,(Gn.DX rfl h)
def kD(F:aN K mg "can_be_made" (top 54) ["turning","count"]) (B:bQ mg)  : gH P w K mg base 1:=by
 exists kw,Wd.yi K,(Wd.Iu rfl h)
def jF(F:aN K mg "count_behind" (top 55) ["turning","count"]) (B:bQ mg)  : fQ P w K mg base 1:=by
 exists jm,Wd.yf K,(Wd.Io rfl h)
def Ab(F:aN K mg "walked" (top 56) ["vessel","row","count"]) (B:bQ mg) (c_turning_at:iq P w K mg base 2) (c_count_behind:fQ P w K mg base 2) (c_can_be_made:gH P w K mg base 2):vD P w K mg base 3:=by
 exists yV,Gn.xk K,(Gn.HS rfl h)
def iG(F:aN K mg "weight_powers" (top 58) ["weights","row"]) (B:bQ mg)  : cN P w K mg base 1:=by
 exists iy,Pw.G5 K,(Pw.KY rfl h)
def Jo(F:aN K mg "even" (top 59) ["vessel"]) (B:bQ mg) (c_first_astray:fM P w K mg base 7) (Ds:cY P w K mg base 7) (c_lack_rows:kc P w K mg base 7) (c_apart:tV P w K mg base 7) (zo:cN P w K mg base 7):GO P w K mg base 8:=by
 exists HN,Pw.ya K,(Pw.Il rfl h)
def jD(F:aN K mg "even_weights" (top 60) ["vessel"]) (B:bQ mg) (c_even:GO P w K mg base 8):fN P w K mg base 9:=by
 exists jk,Gn.Hm K,(Gn.K7 rfl h)
def iL(F:aN K mg "heaps_come_to" (top 61) ["vessel","row","size"]) (B:bQ mg) (sn:bN P w K mg base 3):eY P w K mg base 4:=by
 exists iE,Gn.Hl K,(Gn.K6 rfl h)
def jB(F:aN K mg "gain_between" (top 62) ["vessel","weights","row","ahead","behind"]) (B:bQ mg) (c_multiplied:ir P w K mg base 4) (Fx:lP P w K mg base 4) (zo:cN P w K mg base 4) (c_heaps_come_to:eY P w K mg base 4) (c_falling:qP P w K mg base 4):fL P w K mg base 5:=by
 exists jh,Gn.t_gb K,(Gn.Ox rfl h)
def Jn(F:aN K mg "gain" (top 63) ["vessel","row","count"]) (B:bQ mg) (c_even_weights:fN P w K mg base 9) (c_gain_between:fL P w K mg base 9) (c_walked:vD P w K mg base 9):GN P w K mg base 10:=by
 exists HM,Gn.xW K,(Gn.Ij rfl h)
def kA(F:aN K mg "_law_cell_at" (top 65) ["_law_script","_law_k"]) (B:bQ mg)  : bj P w K mg base 1:=by
 exists ko,KJ K,(by obtain⟨a,ns,k,rfl,hS,h0,q⟩:=h;exact Ir hS h0 q)
def pR(F:aN K mg "_law_mixed" (top 66) ["_law_cell","_law_place"]) (B:bQ mg)  : bZ P w K mg base 1:=by
 exists o_,xK K,(Ib rfl h)
def kz(F:aN K mg "_law_divisor" (top 67) ["_law_one","_law_two"]) (B:bQ mg)  : gE P w K mg base 1:=by
 exists kn,yc K,(Im rfl h)
def nh(F:aN K mg "_law_lowest" (top 68) ["_law_top","_law_bottom"]) (B:bQ mg) (c_law_divisor:gE P w K mg base 1):eX P w K mg base 2:=by
 exists mR,Gn.xM K,(Gn.Ie rfl h)
def pO(F:aN K mg "_law_words" (top 69) ["_law_number","_law_many"]) (B:bQ mg)  : f_ P w K mg base 1:=by
 exists o7,lX K,(y_ rfl h)
def sJ(F:aN K mg "_law_heap" (top 70) ["_law_cell","_law_k","_law_many","_law_top","_law_plain"]) (B:bQ mg) (vt:bZ P w K mg base 1):lK P w K mg base 2:=by
 exists sy,rE K,(DU rfl h)
def sH(F:aN K mg "_law_pool" (top 71) ["_law_script","_law_at","_law_many","_law_size","_law_top","_law_plain"]) (B:bQ mg) (c_law_heap:lK P w K mg base 2) (ip:bj P w K mg base 2):lI P w K mg base 3:=by
 exists sv,q_ K,(DK rfl h)
def pQ(F:aN K mg "_law_pairs" (top 72) ["_law_script","_law_at","_law_size","_law_kind","_law_plain"]) (B:bQ mg) (ip:bj P w K mg base 1) (vt:bZ P w K mg base 1):j7 P w K mg base 2:=by
 exists o9,ma K,(zf rfl h)
def sI(F:aN K mg "_law_pace" (top 73) ["_law_cell","_law_kind"]) (B:bQ mg) (xv:FnC P w K mg base bg 2 "_law_lowest" ["_law_top","_law_bottom"] (ib K)):hE P w K mg base 3:=by
 exists sw,rm K,(DO rfl h)
def m_(F:aN K mg "_law_vessel" (top 74) ["_law_script","_law_at"]) (B:bQ mg) (vt:bZ P w K mg base 3) (c_law_pool:lI P w K mg base 3) (c_law_pairs:j7 P w K mg base 3) (ip:bj P w K mg base 3) (c_law_words:f_ P w K mg base 3) (c_law_pace:hE P w K mg base 3):iu P w K mg base 4:=by
 exists mQ,xl K,(HU rfl h)
def pS(F:aN K mg "_law_heaps" (top 75) ["_law_vessel_here"]) (B:bQ mg)  : j9 P w K mg base 1:=by
 exists pf,mi K,(zh rfl h)
def sL(F:aN K mg "_law_ends" (top 76) ["_law_vessel_here"]) (B:bQ mg) (c_law_heaps:j9 P w K mg base 1):lN P w K mg base 2:=by
 exists sB,rB K,(DR rfl h)
def pP(F:aN K mg "_law_times" (top 78) ["_law_one","_law_two"]) (B:bQ mg) (xv:eX P w K mg base 2):tU P w K mg base 3:=by
 exists o8,Gn.lZ K,(Gn.zc rfl h)
def gk(F:aN K mg "_law_even_vessel" (top 79) ["_law_script","_law_at"]) (B:bQ mg) (c_law_vessel:iu P w K mg base 4) (vt:bZ P w K mg base 4) (ip:bj P w K mg base 4) (xv:FnC P w K mg base bg 4 "_law_lowest" ["_law_top","_law_bottom"] (ib K)) (c_law_times:FnC P w K mg base bg 4 "_law_times" ["_law_one","_law_two"] (Pw.gh K)):dg P w K mg base 5:=by
 exists gi,Pw.rJ K,(Pw.DY rfl h)
def iJ(F:aN K mg "_law_zero_lack" (top 80) ["_law_script","_law_at"]) (B:bQ mg) (vt:bZ P w K mg base 3) (ip:bj P w K mg base 3) (c_law_words:f_ P w K mg base 3) (c_law_pace:hE P w K mg base 3):eU P w K mg base 4:=by
 exists iB,Gn.xj K,(Gn.HR rfl h)
def jz(F:aN K mg "_law_balanced" (top 81) ["_law_script","_law_at"]) (B:bQ mg) (c_law_zero_lack:eU P w K mg base 5) (c_law_even_vessel:dg P w K mg base 5) (ip:bj P w K mg base 5):fK P w K mg base 6:=by
 exists jf,Gn.Hr K,(Gn.Lb rfl h)
def pT(F:aN K mg "_law_count" (top 82) ["_law_cell","_law_many","_law_size"]) (B:bQ mg) (vt:bZ P w K mg base 1):j_ P w K mg base 2:=by
 exists pi,Dn.rK K,(Dn.DZ rfl h)
def wg(F:aN K mg "_law_can" (top 83) ["_law_turning","_law_count_here"]) (B:bQ mg)  : kb P w K mg base 1:=by
 exists vU,Dn.Ho K,(Dn.K_ rfl h)
def nu(F:aN K mg "_law_behind" (top 84) ["_law_turning","_law_count_here"]) (B:bQ mg)  : cz P w K mg base 1:=by
 exists mS,Dn.mn K,(Dn.zi rfl h)
def kB(F:aN K mg "_law_between" (top 85) ["_law_low","_law_high"]) (B:bQ mg)  : gF P w K mg base 1:=by
 exists kr,Gn.Hq K,(Gn.La rfl h)
def sK(F:aN K mg "_law_gain" (top 86) ["_law_vessel_here","_law_weights","_law_k","_law_count_here"]) (B:bQ mg) (c_law_ends:lN P w K mg base 2) (xv:eX P w K mg base 2) (xa:cz P w K mg base 2) (c_law_between:gF P w K mg base 2):lM P w K mg base 3:=by
 exists sA,Gn.rA K,(Gn.DQ rfl h)
def gY(F:aN K mg "_law_some_count" (top 87) ["_law_script","_law_at","_law_many"]) (B:bQ mg) (c_law_count:j_ P w K mg base 2) (ip:bj P w K mg base 2):dU P w K mg base 3:=by
 exists gR,Gn.xx K,(Gn.HW rfl h)
def Ey(F:aN K mg "_law_same" (top 88) ["_law_found","_law_due"]) (B:bQ mg):FnC P w K mg base bg 1 "_law_same" ["_law_found","_law_due"] (yD K):=by
 refine F.ok di (λvs H Q E h=>Jz h) (λf cdv A outer s H vs Q E hr h=>?_);have nd:=di.nd;have hpo:=λ{M A env}=>@Wz M A env
 have hu:=hr.units;refine⟨G9 K,?_,(K0 rfl h)⟩;fail "t"
def Ma(F:aN K mg "_law_same" (top 88) ["_law_found","_law_due"]) (B:bQ mg) (c_law_same:FnC P w K mg base bg 1 "_law_same" ["_law_found","_law_due"] (yD K)):FnC P w K mg base bg 2 "_law_same" ["_law_found","_law_due"] (oR K):=by
 refine F.ok di (λvs H Q E h=>JA h) (λf cdv A outer s H vs Q E hr h=>?_);have nd:=di.nd;have hpo:=λ{M A env}=>@Wz M A env
 have hu:=hr.units;refine⟨Hd K,?_,(K1 rfl h)⟩;fail "t"
def wf(F:aN K mg "_law_row" (top 89) ["_law_vessel_here","_law_count_here","_law_cells"]) (B:bQ mg) (xa:cz P w K mg base 1) (c_law_can:kb P w K mg base 1):qN P w K mg base 2:=by
 exists vT,Gn.xL K,(Gn.Ic rfl h)
def iK(F:aN K mg "_law_other_row" (top 90) ["_law_vessel_here","_law_count_here","_law_row_here","_law_cells"]) (B:bQ mg) (xa:cz P w K mg base 1) (c_law_can:kb P w K mg base 1):eV P w K mg base 2:=by
 exists iC,Gn.Hh K,(Gn.K3 rfl h)
 refine FM (i:=7) ["_law_k"] ["_law_vessel_here","_law_count_here","_law_row_here","_law_cells","_law_left","_law_found","_law_cell","_law_can_here","#_law_k"] nd rfl rfl (.of (by kernel_rfl!)) rfl ?_ (λ_ _ _ _ _=>?_) (λ_ _ _ _ _=>?_) (λ_ _ _ _ _=>?_) <;> fail "t"
def Mc(F:Fun K "law" "law" (top 91) f fd) (B:bQ mg) (c_law_balanced:fK P w K mg base 10) (c_law_some_count:dU P w K mg base 10) (c_law_row:qN P w K mg base 10) (Ds:cY P w K mg base 10) (c_law_other_row:eV P w K mg base 10) (c_law_same:FnC P w K mg base bg 10 "_law_same" ["_law_found","_law_due"] (K88.oR K)) (c_law_gain:lM P w K mg base 10) (c_law_times:FnC P w K mg base bg 10 "_law_times" ["_law_one","_law_two"] (Gn.iX K)) (xa:cz P w K mg base 10) (c_gain:GN P w K mg base 10):FnOk P w K mg base bg 11 f fd ["_law_script"] (spLaw K):=by
 refine F.ok FJ (λvs H Q E h=>?_) (λcdv A outer s H vs Q E hr h=>?_)
 .obtain⟨a,ns,rfl,_⟩:=h;rfl
 have nd:=FJ.nd;have hu:=hr.units;have hu1:=PD hr;have hpo:=λ{M A env}=>@Wz M A env
 refine⟨Hj K,?_,(K5 h)⟩;fail "t"
end
def lC{G:QF->QF->QF->Option Addr->QF->QF->Ud}{ps:List Str}(e:ps.length=1)(h:∀(a b c:QF) (d:Option Addr) (x y u0:QF),bindArgs (G a b c d x y) ⟨[u0],[]⟩=pure (ps.zip [u0]))(a b c:QF)(d:Option Addr)(x y:QF)(us:List QF)(hl:us.length=ps.length):bindArgs (G a b c d x y) ⟨us,[]⟩=pure (ps.zip us):=by
 have e0:us.length=1:=hl.trans e;obtain⟨u0,us,rfl⟩:=QZ e0;cases RS (RX e0);exact h a b c d x y u0
def dZ{G:QF->QF->QF->Option Addr->QF->QF->Ud}{ps:List Str}(e:ps.length=2)(h:∀(a b c:QF) (d:Option Addr) (x y u0 u1:QF),bindArgs (G a b c d x y) ⟨[u0,u1],[]⟩=pure (ps.zip [u0,u1]))(a b c:QF)(d:Option Addr)(x y:QF)(us:List QF)(hl:us.length=ps.length):bindArgs (G a b c d x y) ⟨us,[]⟩=pure (ps.zip us):=by
 have e0:us.length=2:=hl.trans e;obtain⟨u0,us,rfl⟩:=QZ e0;have e1:us.length=1:=RX e0;obtain⟨u1,us,rfl⟩:=QZ e1;cases RS (RX e1);exact h a b c d x y u0 u1
def GF{G:QF->QF->QF->Option Addr->QF->QF->Ud}{ps:List Str}(e:ps.length=3)(h:∀(a b c:QF) (d:Option Addr) (x y u0 u1 u2:QF),bindArgs (G a b c d x y) ⟨[u0,u1,u2],[]⟩=pure (ps.zip [u0,u1,u2]))(a b c:QF)(d:Option Addr)(x y:QF)(us:List QF)(hl:us.length=ps.length):bindArgs (G a b c d x y) ⟨us,[]⟩=pure (ps.zip us):=by
 have e0:us.length=3:=hl.trans e;obtain⟨u0,us,rfl⟩:=QZ e0;have e1:us.length=2:=RX e0;obtain⟨u1,us,rfl⟩:=QZ e1;have e2:us.length=1:=RX e1;obtain⟨u2,us,rfl⟩:=QZ e2;cases RS (RX e2);exact h a b c d x y u0 u1 u2
def PY{G:QF->QF->QF->Option Addr->QF->QF->Ud}{ps:List Str}(e:ps.length=4)(h:∀(a b c:QF) (d:Option Addr) (x y u0 u1 u2 u3:QF),bindArgs (G a b c d x y) ⟨[u0,u1,u2,u3],[]⟩=pure (ps.zip [u0,u1,u2,u3]))(a b c:QF)(d:Option Addr)(x y:QF)(us:List QF)(hl:us.length=ps.length):bindArgs (G a b c d x y) ⟨us,[]⟩=pure (ps.zip us):=by
 have e0:us.length=4:=hl.trans e;obtain⟨u0,us,rfl⟩:=QZ e0;have e1:us.length=3:=RX e0;obtain⟨u1,us,rfl⟩:=QZ e1;have e2:us.length=2:=RX e1;obtain⟨u2,us,rfl⟩:=QZ e2;have e3:us.length=1:=RX e2;obtain⟨u3,us,rfl⟩:=QZ e3;cases RS (RX e3);exact h a b c d x y u0 u1 u2 u3
def PX{G:QF->QF->QF->Option Addr->QF->QF->Ud}{ps:List Str}(e:ps.length=5)(h:∀(a b c:QF) (d:Option Addr) (x y u0 u1 u2 u3 u4:QF),bindArgs (G a b c d x y) ⟨[u0,u1,u2,u3,u4],[]⟩=pure (ps.zip [u0,u1,u2,u3,u4]))(a b c:QF)(d:Option Addr)(x y:QF)(us:List QF)(hl:us.length=ps.length):bindArgs (G a b c d x y) ⟨us,[]⟩=pure (ps.zip us):=by
 have e0:us.length=5:=hl.trans e;obtain⟨u0,us,rfl⟩:=QZ e0;have e1:us.length=4:=RX e0;obtain⟨u1,us,rfl⟩:=QZ e1;have e2:us.length=3:=RX e1;obtain⟨u2,us,rfl⟩:=QZ e2;have e3:us.length=2:=RX e2;obtain⟨u3,us,rfl⟩:=QZ e3;have e4:us.length=1:=RX e3;obtain⟨u4,us,rfl⟩:=QZ e4;cases RS (RX e4);exact h a b c d x y u0 u1 u2 u3 u4
def Qv{G:QF->QF->QF->Option Addr->QF->QF->Ud}{ps:List Str}(e:ps.length=6)(h:∀(a b c:QF) (d:Option Addr) (x y u0 u1 u2 u3 u4 u5:QF),bindArgs (G a b c d x y) ⟨[u0,u1,u2,u3,u4,u5],[]⟩=pure (ps.zip [u0,u1,u2,u3,u4,u5]))(a b c:QF)(d:Option Addr)(x y:QF)(us:List QF)(hl:us.length=ps.length):bindArgs (G a b c d x y) ⟨us,[]⟩=pure (ps.zip us):=by
 have e0:us.length=6:=hl.trans e;obtain⟨u0,us,rfl⟩:=QZ e0;have e1:us.length=5:=RX e0;obtain⟨u1,us,rfl⟩:=QZ e1;have e2:us.length=4:=RX e1;obtain⟨u2,us,rfl⟩:=QZ e2;have e3:us.length=3:=RX e2;obtain⟨u3,us,rfl⟩:=QZ e3;have e4:us.length=2:=RX e3;obtain⟨u4,us,rfl⟩:=QZ e4;have e5:us.length=1:=RX e4;obtain⟨u5,us,rfl⟩:=QZ e5;cases RS (RX e5);exact h a b c d x y u0 u1 u2 u3 u4 u5
def FnAt{K:Fg}{st:Stmt}{ps:List Str}(X:K.In h)(G:h.Ns mainGlobals mg)(p:Kg K n st)(hb:∀(kV doc pm:QF) (an:Option Addr) (cdv ct:QF) (us:List QF),us.length=ps.length->bindArgs (Tl n n (cX st) (cm st) (ao st) .none kV doc pm an cdv ct) ⟨us,[]⟩=pure (ps.zip us)):aN K mg n st ps:=by
 obtain⟨_,_,_,_,_,_,_,_,_,_,a,l,c,k⟩:=p;exact E6 X G a l c k hb
nonrec abbrev Pg:=PySem.Challenge.rw_vesselhall_k88_gains_hang_on_the_ends_al.prog
def fin:PySem.Challenge.rw_vesselhall_k88_gains_hang_on_the_ends_al.Holds:=by
 refine K88H.headed ?_;intro w K h mg fa X G hfa P0 P20 P40 P60 Z tn0 tn1 to0 to1 nq oq nqd oqd nqn oqn nqs oqs hcnN hcnL hcnO hcnM;obtain⟨p0,p1,p2,p3,p4,p5,p6,p7,p8,p9,p10,p11,p12,p13,p14,p15,p16,p17,p18,p19,_⟩:=P0;obtain⟨p20,p21,p22,p23,p24,p25,p26,p27,p28,p29,p30,p31,p32,p33,p34,p35,p36,p37,p38,p39,_⟩:=P20;obtain⟨p40,p41,p42,p43,p44,p45,p46,p47,p48,p49,p50,p51,p52,p53,p54,p55,p56,p57,p58,p59,_⟩:=P40;obtain⟨p60,p61,p62,p63,p64,p65,p66,p67,p68,p69,p70,p71,_⟩:=P60;obtain⟨z0,z1,z2,z3,z4,z5,z6,z7,z8,z9,z10,z11,z12,z13,z14,z15,z16,z17,z18,z19,z20,z21,_⟩:=Z;obtain⟨_,_,an,_,_,kV,dc,pm,cd,ct,aL,lL,cL,kL⟩:=p71;cases hfa.symm.trans (Xv X G aL);have zn:=λ{n:Str}=>PySem.W.mg_none_of (n:=n) X G
 have B:bQ mg:=⟨zn z0,zn z1,zn z2,zn z3,zn z4,zn z5,zn z6,zn z7,zn z8,zn z9,zn z10,zn z11,zn z12,zn z13,zn z14,zn z15,zn z16,zn z17,zn z18,zn z19,zn z20,zn z21⟩
 refine⟨Tl "law" "law" (cX (top 91)) (cm (top 91)) (ao (top 91)) .none kV dc pm an cd ct,λs v=>.of_eq rfl,λbase _ _=>?_⟩;have gG:=G;have G:Cn K mg nq oq:=⟨Xv X G hcnN,Xv X G hcnO,λH=>.inr ⟨_,_,_,hcnL,rfl,rfl,aQ,.cons ⟨_,rfl⟩ (.cons ⟨_,rfl⟩ .nil)⟩,λH=>.inr ⟨_,_,_,hcnM,rfl,rfl,aQ,.cons ⟨_,rfl⟩ (.cons ⟨_,rfl⟩ .nil)⟩⟩
 have c_whole:=Eu (P:=Pg) (w:=w) (base:=base) (FnAt X gG p0 (lC rfl λ_ _ _ _ _ _ _=>rfl)) B;have se:=fX (P:=Pg) (w:=w) (base:=base) (FnAt X gG p1 (dZ rfl λ_ _ _ _ _ _ _ _=>rfl)) B;have xy:=kC (P:=Pg) (w:=w) (base:=base) (FnAt X gG p5 (lC rfl λ_ _ _ _ _ _ _=>rfl)) B;have c_unit_row:=sG (P:=Pg) (w:=w) (base:=base) (FnAt X gG p6 (dZ rfl λ_ _ _ _ _ _ _ _=>rfl)) B;have c_heaps_of:=sM (P:=Pg) (w:=w) (base:=base) (FnAt X gG p13 (lC rfl λ_ _ _ _ _ _ _=>rfl)) B;have c_places_of:=pM (P:=Pg) (w:=w) (base:=base) (FnAt X gG p17 (dZ rfl λ_ _ _ _ _ _ _ _=>rfl)) B;have c_lot_marks:=pN (P:=Pg) (w:=w) (base:=base) (FnAt X gG p22 (dZ rfl λ_ _ _ _ _ _ _ _=>rfl)) B;have c_taken_out:=pL (P:=Pg) (w:=w) (base:=base) (FnAt X gG p24 (dZ rfl λ_ _ _ _ _ _ _ _=>rfl)) B;have c_raised:=Ae (P:=Pg) (w:=w) (base:=base) (FnAt X gG p28 (dZ rfl λ_ _ _ _ _ _ _ _=>rfl)) B;have c_turnings_from:=iH (P:=Pg) (w:=w) (base:=base) (FnAt X gG p30 (dZ rfl λ_ _ _ _ _ _ _ _=>rfl)) B;have c_is_tree:=wj (P:=Pg) (w:=w) (base:=base) (FnAt X gG p32 (GF rfl λ_ _ _ _ _ _ _ _ _=>rfl)) B;have c_falling:=wm (P:=Pg) (w:=w) (base:=base) (FnAt X gG p36 (dZ rfl λ_ _ _ _ _ _ _ _=>rfl)) B;have c_can_be_made:=kD (P:=Pg) (w:=w) (base:=base) (FnAt X gG p37 (dZ rfl λ_ _ _ _ _ _ _ _=>rfl)) B;have c_count_behind:=jF (P:=Pg) (w:=w) (base:=base) (FnAt X gG p38 (dZ rfl λ_ _ _ _ _ _ _ _=>rfl)) B;have zo:=iG (P:=Pg) (w:=w) (base:=base) (FnAt X gG p40 (dZ rfl λ_ _ _ _ _ _ _ _=>rfl)) B;have ip:=kA (P:=Pg) (w:=w) (base:=base) (FnAt X gG p46 (dZ rfl λ_ _ _ _ _ _ _ _=>rfl)) B;have vt:=pR (P:=Pg) (w:=w) (base:=base) (FnAt X gG p47 (dZ rfl λ_ _ _ _ _ _ _ _=>rfl)) B;have c_law_divisor:=kz (P:=Pg) (w:=w) (base:=base) (FnAt X gG p48 (dZ rfl λ_ _ _ _ _ _ _ _=>rfl)) B;have c_law_words:=pO (P:=Pg) (w:=w) (base:=base) (FnAt X gG p50 (dZ rfl λ_ _ _ _ _ _ _ _=>rfl)) B;have c_law_heaps:=pS (P:=Pg) (w:=w) (base:=base) (FnAt X gG p56 (lC rfl λ_ _ _ _ _ _ _=>rfl)) B;have c_law_can:=wg (P:=Pg) (w:=w) (base:=base) (FnAt X gG p63 (dZ rfl λ_ _ _ _ _ _ _ _=>rfl)) B;have xa:=nu (P:=Pg) (w:=w) (base:=base) (FnAt X gG p64 (dZ rfl λ_ _ _ _ _ _ _ _=>rfl)) B;have c_law_between:=kB (P:=Pg) (w:=w) (base:=base) (FnAt X gG p65 (dZ rfl λ_ _ _ _ _ _ _ _=>rfl)) B;have Fx:=sN (FnAt X gG p2 (dZ rfl λ_ _ _ _ _ _ _ _=>rfl)) B se c_whole;have c_fractionQ:=Fx.imp (sp':=gP K) λ_ _ _ _ z=>Gn.Nk z
 have c_unit_rows:=pK (FnAt X gG p7 (lC rfl λ_ _ _ _ _ _ _=>rfl)) B c_unit_row;have c_common_divisor:=gZ (FnAt X gG p8 (lC rfl λ_ _ _ _ _ _ _=>rfl)) B se;have c_heaps:=EA (FnAt X gG p14 (lC rfl λ_ _ _ _ _ _ _=>rfl)) B c_heaps_of;have c_turning_at:=m8 (FnAt X gG p15 (dZ rfl λ_ _ _ _ _ _ _ _=>rfl)) B c_whole;have c_split:=Ex (FnAt X gG p25 (dZ rfl λ_ _ _ _ _ _ _ _=>rfl)) B se c_taken_out;have Dv:=eI (FnAt X gG p26 (dZ rfl λ_ _ _ _ _ _ _ _=>rfl)) B se;have c_picks:=Ez (FnAt X gG p31 (dZ rfl λ_ _ _ _ _ _ _ _=>rfl)) B c_turnings_from;have xv:=nh (FnAt X gG p49 (dZ rfl λ_ _ _ _ _ _ _ _=>rfl)) B c_law_divisor;have c_law_lowestQ:=xv.imp (sp':=ib K) λ_ _ _ _ z=>Gn.OQ z
 have c_law_heap:=sJ (FnAt X gG p51 (PX rfl λ_ _ _ _ _ _ _ _ _ _ _=>rfl)) B vt;have c_law_pairs:=pQ (FnAt X gG p53 (PX rfl λ_ _ _ _ _ _ _ _ _ _ _=>rfl)) B ip vt;have c_law_ends:=sL (FnAt X gG p57 (lC rfl λ_ _ _ _ _ _ _=>rfl)) B c_law_heaps;have c_law_count:=pT (FnAt X gG p62 (GF rfl λ_ _ _ _ _ _ _ _ _=>rfl)) B vt;have c_law_same:=Ma (P:=Pg) (w:=w) (base:=base) (FnAt X gG p68 (dZ rfl λ_ _ _ _ _ _ _ _=>rfl)) B (Ey (FnAt X gG p68 (dZ rfl λ_ _ _ _ _ _ _ _=>rfl)) B);have c_law_row:=wf (FnAt X gG p69 (GF rfl λ_ _ _ _ _ _ _ _ _=>rfl)) B xa c_law_can;have c_law_other_row:=iK (FnAt X gG p70 (PY rfl λ_ _ _ _ _ _ _ _ _ _=>rfl)) B xa c_law_can;have c_plus:=Jl (FnAt X gG p3 (dZ rfl λ_ _ _ _ _ _ _ _=>rfl)) B c_fractionQ;have c_times:=Ew (FnAt X gG p4 (dZ rfl λ_ _ _ _ _ _ _ _=>rfl)) B c_fractionQ;have c_lowest:=Af (FnAt X gG p9 (lC rfl λ_ _ _ _ _ _ _=>rfl)) B (xy.mono (by decide:1<=2)) c_common_divisor;have sn:=jA (FnAt X gG p16 (lC rfl λ_ _ _ _ _ _ _=>rfl)) B c_heaps;have c_check_heap:=nA (FnAt X gG p19 (dZ rfl λ_ _ _ _ _ _ _ _=>rfl)) B (c_whole.mono (by decide:1<=2)) c_heaps;have c_apart:=EB (FnAt X gG p27 (lC rfl λ_ _ _ _ _ _ _=>rfl)) B Dv c_split;have c_walked:=Ab (FnAt X gG p39 (GF rfl λ_ _ _ _ _ _ _ _ _=>rfl)) B c_turning_at (c_count_behind.mono (by decide:1<=2)) (c_can_be_made.mono (by decide:1<=2));have c_law_pool:=sH (FnAt X gG p52 (Qv rfl λ_ _ _ _ _ _ _ _ _ _ _ _=>rfl)) B c_law_heap (ip.mono (by decide:1<=2));have c_law_pace:=sI (FnAt X gG p54 (dZ rfl λ_ _ _ _ _ _ _ _=>rfl)) B c_law_lowestQ;have c_law_times:=pP (FnAt X gG p58 (dZ rfl λ_ _ _ _ _ _ _ _=>rfl)) B xv;have c_law_timesG:=c_law_times.imp (sp':=Pw.gh K) λ_ _ _ _ z=>Gn.G3 z
 have c_law_timesX:=c_law_times.imp (sp':=Gn.iX K) λ_ _ _ _ z=>Gn.G0 z
 have c_law_gain:=sK (FnAt X gG p66 (PY rfl λ_ _ _ _ _ _ _ _ _ _=>rfl)) B c_law_ends xv (xa.mono (by decide:1<=2)) (c_law_between.mono (by decide:1<=2));have c_law_some_count:=gY (FnAt X gG p67 (GF rfl λ_ _ _ _ _ _ _ _ _=>rfl)) B c_law_count (ip.mono (by decide:1<=2));have c_cleared:=wn (FnAt X gG p10 (dZ rfl λ_ _ _ _ _ _ _ _=>rfl)) B (xy.mono (by decide:1<=3)) c_lowest;have c_lots:=Jm (FnAt X gG p18 (lC rfl λ_ _ _ _ _ _ _=>rfl)) B sn (c_places_of.mono (by decide:1<=3)) (c_heaps.mono (by decide:2<=3));have c_road:=Jk (FnAt X gG p20 (GF rfl λ_ _ _ _ _ _ _ _ _=>rfl)) B c_check_heap sn;have c_multiplied:=m9 (FnAt X gG p29 (lC rfl λ_ _ _ _ _ _ _=>rfl)) B c_apart (c_raised.mono (by decide:1<=3));have c_pace_product:=jy G (FnAt X gG p33 (dZ rfl λ_ _ _ _ _ _ _ _=>rfl)) B c_times;have c_heaps_come_to:=iL (FnAt X gG p43 (GF rfl λ_ _ _ _ _ _ _ _ _=>rfl)) B sn;have c_law_vessel:=m_ (FnAt X gG p55 (dZ rfl λ_ _ _ _ _ _ _ _=>rfl)) B (vt.mono (by decide:1<=3)) c_law_pool (c_law_pairs.mono (by decide:2<=3)) (ip.mono (by decide:1<=3)) (c_law_words.mono (by decide:1<=3)) c_law_pace;have c_law_zero_lack:=iJ (FnAt X gG p60 (dZ rfl λ_ _ _ _ _ _ _ _=>rfl)) B (vt.mono (by decide:1<=3)) (ip.mono (by decide:1<=3)) (c_law_words.mono (by decide:1<=3)) c_law_pace;have c_sifted:=Ac (FnAt X gG p11 (lC rfl λ_ _ _ _ _ _ _=>rfl)) B (c_unit_rows.mono (by decide:2<=4)) c_cleared (xy.mono (by decide:1<=4)) (c_lowest.mono (by decide:3<=4));have c_first_astray:=jC (FnAt X gG p21 (lC rfl λ_ _ _ _ _ _ _=>rfl)) B (sn.mono (by decide:3<=4)) c_road;have c_tree_weight:=ky G (FnAt X gG p34 (PY rfl λ_ _ _ _ _ _ _ _ _ _=>rfl)) B (c_picks.mono (by decide:2<=4)) (c_is_tree.mono (by decide:1<=4)) (c_plus.mono (by decide:3<=4)) c_pace_product;have c_gain_between:=jB (FnAt X gG p44 (PX rfl λ_ _ _ _ _ _ _ _ _ _ _=>rfl)) B c_multiplied (Fx.mono (by decide:2<=4)) (zo.mono (by decide:1<=4)) c_heaps_come_to (c_falling.mono (by decide:1<=4));have c_law_even_vessel:=gk (FnAt X gG p59 (dZ rfl λ_ _ _ _ _ _ _ _=>rfl)) B c_law_vessel (vt.mono (by decide:1<=4)) (ip.mono (by decide:1<=4)) (c_law_lowestQ.mono (by decide:2<=4)) (c_law_timesG.mono (by decide:3<=4));have c_nought_makers:=iI (FnAt X gG p12 (lC rfl λ_ _ _ _ _ _ _=>rfl)) B c_sifted;have Ds:=jx (FnAt X gG p35 (lC rfl λ_ _ _ _ _ _ _=>rfl)) B (sn.mono (by decide:3<=5)) (c_lots.mono (by decide:4<=5)) c_tree_weight;have c_law_balanced:=jz (FnAt X gG p61 (dZ rfl λ_ _ _ _ _ _ _ _=>rfl)) B (c_law_zero_lack.mono (by decide:4<=5)) c_law_even_vessel (ip.mono (by decide:1<=5));have c_lack_rows:=pU (FnAt X gG p23 (lC rfl λ_ _ _ _ _ _ _=>rfl)) B (c_lots.mono (by decide:4<=6)) c_nought_makers (c_lot_marks.mono (by decide:1<=6)) (c_heaps.mono (by decide:2<=6));have c_even:=Jo (FnAt X gG p41 (lC rfl λ_ _ _ _ _ _ _=>rfl)) B (c_first_astray.mono (by decide:5<=7)) (Ds.mono (by decide:6<=7)) c_lack_rows (c_apart.mono (by decide:3<=7)) (zo.mono (by decide:1<=7));have c_even_weights:=jD (FnAt X gG p42 (lC rfl λ_ _ _ _ _ _ _=>rfl)) B c_even;have c_gain:=Jn (FnAt X gG p45 (GF rfl λ_ _ _ _ _ _ _ _ _=>rfl)) B c_even_weights (c_gain_between.mono (by decide:5<=9)) (c_walked.mono (by decide:3<=9));exact Mc (P:=Pg) (w:=w) (base:=base) (Gw (st:=top 91) lL cL kL) B (c_law_balanced.mono (by decide:6<=10)) (c_law_some_count.mono (by decide:3<=10)) (c_law_row.mono (by decide:2<=10)) (Ds.mono (by decide:6<=10)) (c_law_other_row.mono (by decide:2<=10)) (c_law_same.mono (by decide:2<=10)) (c_law_gain.mono (by decide:3<=10)) (c_law_timesX.mono (by decide:3<=10)) (xa.mono (by decide:1<=10)) c_gain
end K88
theorem PySem.Challenge.cw_vesselhall_k88_gains_hang_on_the_ends_al_holds : PySem.Challenge.rw_vesselhall_k88_gains_hang_on_the_ends_al.Holds := by
 exact K88.fin
#print axioms PySem.Challenge.cw_vesselhall_k88_gains_hang_on_the_ends_al_holds

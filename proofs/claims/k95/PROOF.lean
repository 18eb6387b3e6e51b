import PyProof.Rows.All
import Wide.All
import Wide.FinOn
import Lean
import KE.KDictList
import KE.KEqDat
import KE.KIntText
import KE.KIsAll
import KE.KRevSl
import KE.KSortAsk
import KE.KDictSum
import PySem.Challenge.RW_vesselhall_k95_whole_texts_walks_and_wei
set_option compiler.extract_closed false
set_option genSizeOf false
set_option Elab.async false
set_option linter.all false
set_option maxRecDepth 100000
set_option maxHeartbeats 0
local macro_rules | `(∅)=>`(by lia)
local macro_rules | `(abbrev $i $s:optDeclSig $v:declVal)=>`(noncomputable def $i $s $v:declVal)
local macro_rules | `(nonrec def $i $s:optDeclSig $v:declVal)=>`(noncomputable abbrev $i $s $v:declVal)
local macro_rules | `(def $i $b*:$t $v:declVal)=>`(theorem $i $b*:$t $v:declVal)
local macro_rules | `(⇑$x)=>`(some (.ref $x))
local macro_rules | `(↥$x)=>`(some (.int $x))
local macro_rules | `(tactic| get_elem_tactic_extensible)=>`(tactic| omega)
local macro_rules | `(tactic| walk_at "o") => `(tactic| first|exact Or.inl rfl|exact Or.inr rfl)
local macro_rules | `(tactic| walk_at "s") => `(tactic| exact ⟨rfl,rfl,rfl,by decide +kernel,rfl,by decide +kernel,by decide +kernel⟩)
open PySem.Challenge renaming pw_vesselhall_k95_whole_texts_walks_and_wei->PW95
open List renaming length_map->SJ,getD_eq_getElem?_getD->SK,getElem?_eq_some_iff->SL,mem_of_getElem?->SM,getElem?_eq_getElem->SN,getElem?_map->SO,map_append->SV,take_of_length_le->SX,mem_cons_of_mem->S_,length_take->Ta,mem_cons_self->Tb,take_add_one->Tc,mem_map->Te,mem_singleton->Tf,exists_cons_of_length_eq_add_one->Tk,length_append->To,replicate->Tq,size_toArray->Tt,mem_cons->Tu,mem_append->Tv,range->TC,length_range->TD,mem_append_right->TJ,getElem?_eq_none->TL,map_cons->TN,getElem?_range->TR,getElem?_append_left->TU,getElem?_append_right->TV,getElem?_of_mem->T2,length_eq_zero_iff->Uf,mem_filter->Ui,getElem?_zipWith->Uj,nodup_cons->Um,length_replicate->Up,length_drop->Us,append_assoc->Ut,mem_range->Uu,length_cons->Ux,not_mem_nil->UA,mem_append_left->UB,zipWith->UD,length_filter_le->UH,map_map->UV,zip->UZ,sum_cons->U2,length_eq_one_iff->U6,drop_of_length_le->U7,all_eq_true->U8,getElem_mem->U9,pairwise_iff_getElem->Va,eq_nil_of_length_eq_zero->Vf,nodup_nil->Vj,filterMap_cons->Vx,length_zipWith->Vz,length_pos_iff->VA,getElem?_zip_eq_some->VD,take_length->VF,filter_append->VG,getElem?_take_of_lt->VH,mem_iff_getElem->VO,foldl_append->VS,filter_cons_of_pos->VT,filter_cons_of_neg->VU,lookup_cons->V4,mem_filterMap->V6,mem_iff_getElem?->V_,findIdx?_eq_some_iff_getElem->Wb,of_mem_zip->Wg,length->Wi,mem_of_mem_drop->Wl,replicate_succ->Wx,map_congr_left->Wy,map_eq_nil_iff->Wz,exists_cons_of_length_pos->WE,getElem?_replicate_of_lt->WG,getElem?_set_self->WJ,getElem?_drop->WO,append_nil->WT,find?_cons->WU,range_succ->WW,getElem?_toArray->WZ,take_append_drop->W0,ext_getElem?->W1,getElem?_set_ne->W7,range'->Xb,mem_of_mem_take->Xc,map_nil->Xi,filter_cons->Xj,any_cons->Xr,length_erase_of_mem->Xs,length_zip->Xy,pairwise_cons->XB,take->XE,getElem?_cons_succ->XF,flatten_cons->XR,length_pos_of_mem->XV,pairwise_lt_range->XW,flatten_replicate_singleton->XY,singleton_append->X0,forall_mem_cons->Yi,mem_erase_of_ne->Yj,take_append_of_le_length->Yl,getLast?_eq_some_getLast->Ym,dropLast_concat_getLast->Ys,drop_zero->YH,map_replicate->YQ,drop_eq_getElem_cons->YR,findIdx?_eq_none_iff->YT,getLastD_eq_getLast?->YU,any_eq_false->YY,pairwise_map->Y4,all_cons->Y9,Pairwise->Y_,map_drop->Zg,getElem_inj->Zj,any_eq_true->Zu,drop_eq_nil_of_le->ZN,all_map->ZO,nil_append->ZP,length_set->ZR,forIn_cons->ZU,length_singleton->ZZ,take_left->Zaq,drop_left->Zar,set->Zas,drop->Zav,flatMap_append->ZaD,map_take->ZaM,foldl->ZaW,getElem?_take->Za0,map_inj_right->Za1,map_singleton->Za2,mem_replicate->Za5,take_sublist->Zbb,mem_range'_1->Zbg,cons_append->Zbv,map_id->ZbQ,foldl_cons->ZbU,length_nil->ZbW,drop_drop->Zcb
open PySem renaming wpAny_bind->SQ,Value->SW,Shared->SZ,wpAny_pure->Td,strLen_append->TF,importedModules->TY,Program->T9,Around->Ud,World->Uk,wpAny_newObj_type->Uy,SetTable->Uz,treeTable->UK,wpAny_callSpecial?_slot->UL,World->UU,wpAny_truthy_bool->Vc,OsState->Vh,wpAny_holding->Vi,wpAny_Call_Name_kw->Vp,wpAny_field->Vq,wpAny_call_entry->Vr,wpAny_mono->Vu,sizeLine_eq->VJ,wpAny_typeNameOfWhole_keyiter->VM,wpAny_seqItems->VN,wpAny_passesOwn->Wf,FuncData->Wj,Reads->Wk,wpAny_setState_of->Wm,mem_of_lookup->Ww,wpAny_getItem_str_slice->WC,wpAny_forIn_list->WD,wpAny_pyIter_tuple->WL,call_meets->WN,wpAny_setField->Xa,Builtin->Xe,typeIs_str->Xz,wpAny_setField_rec->XA,wpAny_pyIter_list->XO,wpAny_pyIter_enum->XX,wpAny_isInstance->X7,wpAny_execs_nil->Yn,codeAny_mono->Yw,wpAny_letOwnedTupleGo_enum->YK,wpAny_dictEntries->Y0,wpAny_standAt->Y6,PyData->Za,wpAny_comprehension_free->Zb,wpAny_attempt->Zd,DictEntry->Zl,NameKind->Zm,Shared->Zz,meets_dict_get_default->ZG,wpAny_dictEpoch->ZV,codeAny_builtin->ZW,wpAny_loadPart'->ZX,wpAny_isOneOf_keyiter->Z3,wpAny_isSame_ref_self->Z5,toDigits_len_ge->Z6,ReadsAll->Zad,isSubtype_stop->Zaf,wpAny_newTuple->Zah,OsState->Zat,wpAny_Tuple_spliced->Zax,hashStr->ZaG,wpAny_handled->ZaH,call->ZaR,wpAny_rule->ZaU,IsPart->ZaV,tupleKind_room_in1->ZaX,BindsTo->Zba,seqIndex_neg->Zbc,call_meetsIn->Zbf,Result->ZbB,seqIndex_of->ZbM,wpAny_of_eq->ZbN,wpAny_throw->ZbO,Keyword->Zb3,GenState->Zb7,intText?->Zcc
open Nat renaming le_refl->SR,lt_of_lt_of_le->Ts,pow_le_pow_right->TM,le_trans->TQ,ne_of_lt->T0,zero_le->T1,lt_of_le_of_lt->T8,lt_or_ge->Uw,lt_trans->UC,pow_lt_pow_right->U0,lt_trichotomy->Vd,not_lt_zero->Vn,add_sub_cancel_left->VV,pow_succ->VY,lt_irrefl->V1,lt_of_le_of_ne->V8,lt_succ_of_lt->W3,mul_comm->Xh,lt_succ_self->Xk,succ_pos->Xl,pow_le_pow_left->Xq,zero_add->XM,le_mul_of_pos_left->XU,min_le_right->X3,min_eq_right->X5,div_eq_of_lt->X8,mul_lt_mul''->X9,le_succ->Ye,min_eq_left->Yq,ne_of_gt->Yv,isDigit_of_mem_toDigits->Yy,add_zero->YA,eq_zero_or_pos->YM,div_eq_of_eq_mul_right->YN,mul_le_mul->YO,lt_succ_iff_lt_or_eq->Ze,mul_assoc->Zf,succ_le_succ->Zy,le_of_lt->ZB,mod_lt->ZJ,two_pow_pos->ZY,div_lt_iff_lt_mul->Z8,add_mul_div_right->Z9,mul_le_mul_right->Zao,add_le_add_left->Zay,not_lt->ZaY,le_of_eq->Zbe,sub_self->Zbk,le_succ_of_le->Zbp,sub_zero->Zbt,succ_ne_self->ZbH,two_mul->ZbP,Coprime->ZbS,strongRecOn->ZbY,div_add_mod->Zb0,add_lt_add->Zcd,gcd->Zco
open Option renaming map_eq_some_iff->SU,map_some->Yo,isSome_iff_exists->Y7,getD_some->Zv,isSome->ZaI,getD_none->ZbC,toList->Zcm
open PySem.Heap renaming get?_push_of_some->SY,get?_push_size->Tx,lt_size->Tz,get?_update_self->VE,size_push->VL,get?_update_other->VW,SameBut->Xg,get?_push_cases->Yh,ExtBut->Zae
open Bool renaming false_ne_true->Th,false_eq_true->TZ,and_eq_true->U5,not_true->WY,and_eq_true_iff->W5,eq_iff_iff->Xw,and_false->YG,eq_false_iff->YZ,noConfusion->Zq,not_false->Zak,false_and->Zb8,or_false->Zcg,true_and->Zch
open PySem.W renaming kitCls->Tj,kitOne->TK,view->Ug,kia_one->U1,boot_heap->Vg,fnOf->Vv,nsIn->VX,mg_of->V2,kqd_lay->Wh,recOk->Wp,keepIn->WA,xlAt->WI,codeIn->W_,openSeen->Xf,kHook->Yc,methodObj->YW,openGood->Zh,cellsFrom_some->ZC,instObj->ZQ,kqd_eqv->ZS,lookIn->Zac,recFacts_of->Zaw,LeftO->ZaE,WalkO->ZaF,boot_drawn->ZaO,holds_open->ZaP,Frag->Za7,kitx_list->Za9,kitx_dict->Za_,boot_toks->Zbw,plainGet->ZbA,kqd_layL->ZbD,OpenLaw->ZbV,kqd_any->ZbX,SharedT->Zb2,XL->Zb6,findIn->Zb9,xl_of->Zce
open Int renaming mul_assoc->TB,mul_left_comm->TX,mul_zero->T_,mul_eq_zero->Ub,mul_comm->Uc,toNat_natCast->Ul,eq_of_mul_eq_mul_left->Uo,emod_lt_of_pos->UF,natAbs_mul->UM,toNat->UO,zero_mul->UT,mul_add->UY,emod_nonneg->U3,neg_one_mul->U4,zero_add->U_,pos_of_mul_pos_right->Vk,neg_mul->VB,le_refl->VC,add_zero->VZ,mul_neg->V3,mul_pos->Wn,mul_fdiv_cancel'->Wo,mul_fdiv_cancel_left->Wu,mul_le_mul_of_nonneg_right->WF,mul_le_mul_of_nonneg_left->WH,mul_nonneg->Xd,dvd_trans->Xv,eq_ofNat_of_zero_le->XI,nonneg_of_mul_nonneg_right->X_,mul_sub->Yk,gcd_eq_natAbs_gcd_natAbs->Yt,lt_or_le->Yz,mul_neg_of_pos_of_neg->YV,gcd_dvd_right->Y2,neg_dvd->Y3,add_mul->Y5,gcd_dvd_left->Zs,gcd_mul_left->Zt,fmod_nonneg_of_pos->ZI,fdiv->Zaj,one_mul->Zan,natAbs_neg->Zap,toNat_of_nonneg->ZaC,fmod_lt_of_pos->ZaZ,sub_eq_add_neg->Za3,ofNat_dvd_left->Za4,fmod->Zbi,fmod_def->Zbj,emod_eq_of_lt->Zbo,sub_zero->Zbq,neg_zero->Zbr,le_of_lt->Zbs,natAbs_sub_le->Zbu,mul_one->ZbL,sub_mul->ZbR,natCast_add->Zb1,gcd->Zb4
open Option.some renaming inj->TH
open PySem.W.Dat renaming int->TW,str->UI,bool->Vw,bool->Zr
open PySem.Value renaming ref->Ua,none->UR,type->W6,int->YB,str->Zi,bool->ZA,isStrOf->Zcf
open PySem.Str renaming empty->Ue,length_append->Ur,join->Vl,empty_append->V5,ofString->WM,append_assoc->ZbJ,length->Zb_
open PyProof.Rows renaming callWith_type1->Uh,slot_tuple_getitem->Wv,callWith_builtin1->WB,toString_length_le->XZ,assignInOrder_cons->YD,AllBare->YX,intBits_le->Zp,subscriptTail_builtinR->ZE,IntsAre->ZF,FormattedValue_plain->Zai
open PySem.Builtin.Str renaming strSliceIndices->Uq,strKind->We
open Array renaming length_toList->Uv,all_eq_true_iff_forall_mem->UE,getElem?_toList->UG,getElem?_eq_getElem->UQ,getElem?_eq_some_iff->UX,getElem?_setIfInBounds->WX,mem_toList_iff->W8,forIn_toList->XC,getElem?_eq_none->XT,getD->YJ,toArray_toList->Zag,toList_append->ZaB,append_empty->ZaN,mk->Zb5
open Nat.succ renaming inj->UJ
open PySem.Builtin.SmallTypes renaming nextOf->UP,ownedTupleHandOut->Xp,iterAll->YI
open PySem.Calls renaming spliced_cons->US,spliced_nil->VP,callWith_builtin->XQ,evalArgs_plain->Yd,Name_function_global->YC
open PySem.F renaming slot_tuple_iterator_next->UW,slot_dict_keyiterator_next->Vm,slot_dict_get->V9,called_set->WP,slot_str_split->WQ,plainAttrs_str->WR,args_tuple_iterator_next_1->WV,entry_tuple_iterator_next->W2,args_str_split_2->Xu,args_dict_get_3->XD,entry_str_split->XH,plainAttrs_list->XJ,entry_dict_get->XS,args_dict_keyiterator_next_1->X6,entry_dict_keyiterator_next->Yg,slot_str_rpartition->Yx,slot_str_partition->YL,args_tuple_add_2->Y8,entry_tuple_add->Zn,plainAttrs_dict->Zo,slot_tuple_add->ZD,type_dict_get->Z0,slot_enumerate_next->Z7,slot_tuple_hash->Zbl,slot_dict_iter->ZbE
open Classical renaming byContradiction->Vb,choose_spec->Wa,choose->Xn
open PySem.StrLaws renaming partsFrom->Ve,strSub_toList->X2,partsBetween_eq->Zx,glued_eq_join->Z_,last_spec->Zbm,sub_whole->Zbn,occ_head->ZbI,occBody->ZbZ
open PySem.SeqAt renaming EqAt->Vo,readOf->ZL
open List.cons renaming inj->Vt
open PySem.Heap.SameBut renaming update->Vy
open PySem.PyData renaming strOk->VI,eqv->ZH,depthAll->ZT,int->Za6
open PySem.SetTable.probe renaming go->VQ
open PySem.SetTable renaming insertAt->VR,advance->Xm,sameMemory->ZaA,fill->ZaJ,tooFull->ZbG,probe->Zca,slot->Zcj,laid->Zck
open PySem.Paired renaming length->V0
open PySem.Obj renaming data_mapFields->V7,isFreed_of_fields->X1,mapSeq->X4,cls_mapFields->Y1,putSet->ZK
open PySem.Builtin.Slice renaming slicePlaces->Wc,sliceAdjust->Xo,sliceApplied->YE
open PySem.Builtin.Tuple renaming tupleExact->Wr,tupleItemsOf->YF,tupleHashOf->YS
open PySem.Builtin.List renaming listTooLong->Ws
open False renaming elim->WK
open Prod renaming ext->WS
open Prod.mk renaming inj->W4
open True renaming intro->W9
open ForInStep renaming yield->Xx
open PyProof.Rows.F renaming plain_set_update_loop->XG,entry_set_update_loop->Zw
open Ne renaming symm->XN
open Rat renaming divInt->Yb
open PySem.PassesOwn renaming never->Yp
open PySem.Builtin.Frozenset renaming updateFrom->Yr
open Sum renaming inl->Yu,inr->Zau
open PySem.NameKind renaming cell->Zc,free->Zci
open PySem.Data renaming cell->Zk,fields->Zab,seq->Zcp
open Iff renaming rfl->ZM
open PySem.Builtin.Int renaming intTooBig->Z1,intBits->Zaz
open PySem.Builtin.Dict renaming showsAll->Z2
open List.Pairwise renaming sublist->Z4,nil->Zbd
open PySem.W.KIN renaming signs_num->Zaa,signs_num->ZaK
open PyProof.Rows.Reads renaming keeps->Zal
open PySem.Around renaming under_plainId->Zam
open PySem.W.Dat.tuple renaming inj->ZaL
open PySem.W.Hook renaming keeps->ZaQ,says->Za8,obs->Zbx,val->Zby,of->ZbT
open PySem.SeqAt.EqAt renaming int_str->ZaS,str_int->ZaT
open PySem.Txt renaming join->Zbh,slice->Zcn
open PySem.W.XL renaming keeps->Zbz
open PySem.IsiPair renaming tupleOfB->ZbF
open Sum.inr renaming inj->ZbK
open Int.ofNat renaming inj->Zcl
nonrec abbrev Fg := Za7
local macro_rules | `(tactic| walk_at "t")=>`(tactic| simp only[List.map,Wi,Tq,Zbv,ZP,XM,Nat.reduceAdd,Nat.reduceSub])
def ex2{α:Type}{us:List α}(h:us.length=2):∃a b,us=[a,b]:=by
 match us,h with
 |[a,b],_=>exact⟨a,b,rfl⟩
namespace HdT
open PySem PySem.W
abbrev IC:BT->Nat->List Obj->BT
 |T,_,[]=>T
 |T,n,o :: os=>IC (T.ins n o) (n+1) os
abbrev oG:BT->Nat->List Obj->Bool
 |_,_,[]=>true
 |T,n,o :: os=>match ((T.ins n o).get n).isSome with
  |true=>oG (T.ins n o) (n+1) os
  |false=>false
def yX:∀(os:List Obj) (T:BT) (n:Nat) (life:Life),oG T n os=true->absHeap (IC T n os) (n+Wi os) life=⟨(absHeap T n life).objs++os.toArray,life⟩
 |[],T,n,life,_=>by
  show absHeap T n life=_;rw[show([]:List Obj).toArray = #[] from rfl,ZaN];rfl
 |o :: os,T,n,life,h=>by
  unfold oG at h;split at h
  .rename_i e;have ih:=yX os (T.ins n o) (n+1) life h;rw[absHeap_ins e] at ih;show absHeap (IC (T.ins n o) (n+1) os) (n+(Wi os+1)) life=_;rw[show n+(Wi os+1)=n+1+(Wi os) by lia,ih];show Heap.mk ((absHeap T n life).objs.push o++os.toArray) life=Heap.mk ((absHeap T n life).objs++(o :: os).toArray) life;congr 1;simp
  .cases h
abbrev G9(tb:String->Option Xe)(p:T9)(w:Uk)(n₀:Nat)(ann:Option SW):Nat->Zb2->Thread->Option Zb2
 |0,_,_=>none
 |n+1,s,t=>match through t with
  |true=>some s
  |false=>match PySem.W.Fast.tw6613529449190102663 n₀ ann t with
   |false=>none
   |true=>match PySem.W.Fast.tw10156331382660048174 (PySem.W.Fast.tw11892475500146522536 tb) p w s t with
    |some (s',t')=>G9 tb p w n₀ ann n s' t'
    |none=>none
def Dm{tb:String->Option Xe}{p:T9}{w:Uk}{n₀:Nat}{ann:Option SW}:∀{n:Nat} {s r:Zb2} {t:Thread},G9 tb p w n₀ ann n s t=some r->topRun tb p w n₀ ann n s.abs t=some r.abs
 |0,_,_,_,h=>by cases h
 |n+1,s,r,t,h=>by
  unfold G9 at h;rw[<-PySem.W.Fast.te6613529449190102663,<-PySem.W.Fast.te10156331382660048174,<-PySem.W.Fast.te11892475500146522536] at h;unfold topRun;cases he:through t with
  |true=>rw[he] at h;cases h;rfl
  |false =>
   rw[he] at h;cases hk:stepOk n₀ ann t with
   |false=>rw[hk] at h;cases h
   |true =>
    rw[hk] at h;cases hs:stepT (denote tb) p w s t with
    |none=>rw[hs] at h;cases h
    |some x=>obtain⟨s₂,t₂⟩:=x;rw[hs] at h;rw[stepT_spec hs];exact Dm h
abbrev CJ (P:Params) (os:Zat):Zb2:=⟨IC .nil 0 (Vg P).objs.toList,(Vg P).objs.toList.length,(Vg P).life,Zb5 [],ZaO,Zbw,os⟩
def Ah{os:Zat}(h:oG .nil 0 (Vg P).objs.toList=true):(CJ P os).abs=⟨Vg P,Zb5 [],ZaO,Zbw,os⟩:=by
 have e:=yX (Vg P).objs.toList .nil 0 (Vg P).life h;rw[XM] at e;unfold Zb2.abs CJ;simp only;rw[e];congr 1
abbrev ends (tb:String->Option Xe) (mods:List Str) (p:T9) (w:Uk) (N:Nat) (os:Zat):Option SZ :=
 match (Vg w.params).isNs mainGlobals with
 |true=>(G9 tb p w (Vg w.params).objs.size ((Vg w.params).nsMap mainGlobals "__annotations__") N (CJ w.params os) (topStub p)).bind λr =>
   match staticsOk mods (Vg w.params) r.abs.heap && namesBound p r.abs.heap && gensDone r.abs && laidKept (Vg w.params) r.abs.heap with
   |true=>some r.abs
   |false=>none
 |false=>none
def Mv{p:T9}{w:Uk}{os:Zat}{r:SZ}(g:oG .nil 0 (Vg w.params).objs.toList=true)(h:ends treeTable (importedModules p.main.body) p w N os=some r):topFrom treeTable p w N ⟨Vg w.params,Zb5 [],ZaO,Zbw,os⟩=some r:=by
 unfold ends at h;unfold topFrom;cases hi:(Vg w.params).isNs mainGlobals with
 |false=>rw[hi] at h;cases h
 |true =>
  rw[hi] at h;simp only at h ⊢;obtain⟨x,hx,hr⟩:=Option.bind_eq_some_iff.mp h
  have:=Dm hx
  rw[Ah g] at this;show(topRun treeTable p w (Vg w.params).objs.size ((Vg w.params).nsMap mainGlobals "__annotations__") N ⟨Vg w.params,Zb5 [],ZaO,Zbw,os⟩ (topStub p)).bind _=_;rw[this];exact hr
def left{α:Type}{Yf:SZ->α}{Ya:Uk->α}
  (e:opening p=plainProg p.main.scope.names) (hN:Nat.ble 600 N=true) (f:∀s,fenceModules? p s=some s) (g:∀w:Uk,oG .nil 0 (Vg w.params).objs.toList=true)
  (h:∀w os,(ends treeTable (importedModules p.main.body) p w N os).map (λs=>(openSeen q loose (importedModules p.main.body) Xt true s,Yf s))=some (openGood q loose,Ya w)):LeftO p q loose Xt Yf Ya N:=λw=>by
 obtain⟨s,hs,hv⟩:=SU.mp (boot_open e hN f w);unfold openEnds;rw[hs];obtain⟨heap,gens,drawn,toks,os⟩:=s;obtain⟨h1,h2⟩:=W4 hv;obtain⟨h2,h3⟩:=W4 h2;obtain⟨h3,h4⟩:=W4 h3;subst h1 h2 h3 h4;obtain⟨r,hr,hv⟩:=SU.mp (h w os);show(topFrom treeTable p w N _).map _=_;rw[Mv (g w) hr];exact congrArg some hv
def cut4{α β γ δ ε ζ η θ ι:Type}{o:Option SZ}{F:SZ->α×β×γ×δ×ε×ζ×η×θ×ι}{a:α}{b:β}{c:γ}{d:δ}{e:ε}{f:ζ}{g:η}{h:θ}{i:ι}(h1:o.map (λs=>((F s).1,(F s).2.1))=some (a,b))(h2:o.map (λs=>(F s).2.2.1)=some c)(h3:o.map (λs=>((F s).2.2.2.1,(F s).2.2.2.2.1))=some (d,e))
  (h4:o.map (λs=>((F s).2.2.2.2.2.1,(F s).2.2.2.2.2.2.1,(F s).2.2.2.2.2.2.2.1,(F s).2.2.2.2.2.2.2.2))=some (f,g,h,i)):o.map F=some (a,b,c,d,e,f,g,h,i):=by
 cases o with
 |none=>cases h1
 |some s =>
  have k1:=W4 (TH h1);have k3:=W4 (TH h3);have k4:=W4 (TH h4);have k5:=W4 k4.2;have k6:=W4 k5.2;exact congrArg some (WS k1.1 (WS k1.2 (WS (TH h2) (WS k3.1 (WS k3.2 (WS k4.1 (WS k5.1 (WS k6.1 k6.2))))))))
end HdT
namespace K95H
open PySem
nonrec def ν:List Nat:=[1,2,3,4,5,6,7,8,9,11,12,13,14,15,17,18,19,20,21,22,23,24,25,26,27,28,29,30,31,32,34,35,36,37,38,39,40,41,42,43,45,46,47,48,49,50,51,52,53,54,55,56,58,59,60,61,62,63,64,65,67,68,69,70,71,72,73,74,76,78,79,80,82,83,84,86,87,88,89,90,91,92,93,94,95,96,97,98,99,100,101,102,103,104,105,106]
abbrev qv:PySem.Program:=Ug PW95 ν
abbrev _root_.PySem.W.Fast.tw2795410296970684392:PySem.Program:=PW95
def _root_.PySem.W.Fast.te2795410296970684392:PW95=PySem.W.Fast.tw2795410296970684392:=rfl
def said(h:PySem.Challenge.rw_vesselhall_k95_whole_texts_walks_and_wei.row.Holds):PySem.Challenge.rw_vesselhall_k95_whole_texts_walks_and_wei.Holds:=by
 w_on;o_law;exact h
def booted{α:Type}{Yf:Zz->α}{Ya:UU->α}(h:∀w os,(HdT.ends UK (TY PW95.main.body) PW95 w 9114 os).map (λs=>(Xf q loose (TY PW95.main.body) Xt true s,Yf s))=some (Zh q loose,Ya w)):ZaE PW95 q loose Xt Yf Ya 9114 :=
 HdT.left (by kernel_rfl) (by decide) (λs=>by kernel_rfl) (λw=>by kernel_rfl) h
local macro_rules | `(tactic| o_head $H)=>`(tactic| refine ZaP (q:=K95H.qv) (loose:=["PIECES_WRITTEN"]) (Xt:=λs=>WI K95H.qv [] s && Wp [] s) (XP:=Zb6 K95H.qv []) (Yf:=Zbx $H) (Ya:=Zby $H) (YP:=Za8 $H) (N:=9114) ?_ (ZbT $H) (ZaQ $H) (λs e=>Zce s (W5.mp e).1) Zbz (by rfl) (by rfl) (by rfl) (λs e=>Zaw (W5.mp e).2) (by rfl) (by first|assumption|decide +kernel) (by decide +kernel) ⟨rfl,rfl,rfl,rfl,rfl,by decide +kernel⟩ ?_ ?_)
open PySem.W PyProof.Rows in
def pre(hL:∀(α:Type) (Yf:Zz->α) (Ya:UU->α),ZaE PW95 qv ["PIECES_WRITTEN"] (λs=>WI qv [] s && Wp [] s) Yf Ya 9114) (hP:PySem.Challenge.rw_vesselhall_k95_whole_texts_walks_and_wei.row.toRowW.promised) (hC:∀(YP:UU->PySem.Heap->Prop) (d:DefRec),ZaF qv ["PIECES_WRITTEN"] (Zb6 qv []) YP PySem.Challenge.rw_vesselhall_k95_whole_texts_walks_and_wei.row.toRowW d [] (λf vs=>ZaR f vs)):PySem.Challenge.rw_vesselhall_k95_whole_texts_walks_and_wei.row.Holds:=by
 w_on;k_head
 .exact hL _ _ _
 .exact hP
 .exact hC _ _
abbrev asl:List Nat:=[2,3,15,22,23,24,25,28,35,36,37,40,47,48,49,52,59,60,61,64,71,72,73,76,83,84,85,88,95,96,97,100,107,109,110,112,113,114,115,116,119,126,128,129,131,132,133,134,135,138,140,141,143,144,145,147,148,150,151,152,154,155,157,158,159,161,162,164,165,166,168,169,171,172,173,174,177,178,179,182,183,184,187,188,189,192,193,194,197,198,199,201,202,204,205,206,208,209,211,212,213,215,216,218,219,220,223,224,225,228,229,230,231,233,234,236,237,238,241,242,243,245,246,248,249,250,252,253,255,256,257,260,261,262,265,266,267,269,270,272,273,274,276,277,279,280,281,283,284,286,287,288,291,292,293,296,297,298,300,301,303,304,305,308,309,310,313,314,315,318,319,320,323,324,325,327,328,330,331,332,335,336,337,340,341,342,344,345,347,348,349,351,352,354,355,356,359,360,361,364,365,366,368,369,371,372,373,376,377,378,381,382,383,385,386,388,389,390,392,393,395,396,397,400,401,402,405,406,407,410,411,412,415,416,417,420,421,422,425,426,427,430,431,432,435,436,437,440,441,442,444,445,447,448,449,452,453,454,457,458,459,461,462,464,465,466,468,469,471,472,473,475,476,478,479,480,482,483,485,486,487,489,490,492,493,494,496,497,499,500,501,503,504,506,507,508,510,511,513,514,515,517,518,520,521,522,524,525,527,528,529,532,533,534,536,537,539,540,541,543,544,546,547,548,550,551,553,554,555,557,558,560,561,562,564,565,567,568,569,571,572,574,575,576,579,580,581,584,585,586,589,590,591,593,594,596,597,598,601,602,603,606,607,608,610,611,613,614,615,618,619]
def asl_ok(P:PySem.Params):asl=(pre.heap_1 P).map (·.1):=by kernel_rfl
nonrec def bK (w:UU) (s:Zz):=Xf (Ug PW95 ν) ["PIECES_WRITTEN"] (TY PW95.main.body) (λs=>WI (Ug PW95 ν) [] s && Wp [] s) true s
open PySem.W PyProof.Rows in
def C7(w:UU) (os:Vh):(HdT.ends UK (TY PW95.main.body) PW95 (w.withFollow "special-get-raises" false) 9114 os).map (λs=>((bK w s).1,(bK w s).2.1))=some (expectedOf (Ug PW95 ν),bltViewBooted):=by
 unfold bK;rw[PySem.W.Fast.te4187177175401517315,PySem.W.Fast.te5923862056798008813,PySem.W.Fast.te14364793385576792824,PySem.W.Fast.te2795410296970684392];kernel_rfl
open PySem.W PyProof.Rows in
def C4(w:UU) (os:Vh):(HdT.ends UK (TY PW95.main.body) PW95 (w.withFollow "special-get-raises" false) 9114 os).map (λs=>(bK w s).2.2.1)=some true:=by
 unfold bK;rw[PySem.W.Fast.te4187177175401517315,PySem.W.Fast.te5923862056798008813,PySem.W.Fast.te14364793385576792824,PySem.W.Fast.te2795410296970684392];kernel_rfl
open PySem.W PyProof.Rows in
def C3(w:UU) (os:Vh):(HdT.ends UK (TY PW95.main.body) PW95 (w.withFollow "special-get-raises" false) 9114 os).map (λs=>((bK w s).2.2.2.1,(bK w s).2.2.2.2.1))=some (true,pinGoodD (drecsOf (Ug PW95 ν))):=by
 unfold bK;rw[PySem.W.Fast.te4187177175401517315,PySem.W.Fast.te5923862056798008813,PySem.W.Fast.te14364793385576792824,PySem.W.Fast.te2795410296970684392];kernel_rfl
open PySem.W PyProof.Rows in
def C1(w:UU) (os:Vh):(HdT.ends UK (TY PW95.main.body) PW95 (w.withFollow "special-get-raises" false) 9114 os).map (λs=>((bK w s).2.2.2.2.2.1,(bK w s).2.2.2.2.2.2.1,(bK w s).2.2.2.2.2.2.2.1,(bK w s).2.2.2.2.2.2.2.2))=some (plainGoodE (Ug PW95 ν) (looseW (Ug PW95 ν) ["PIECES_WRITTEN"]),plainGoodD (Ug PW95 ν) ["PIECES_WRITTEN"],wideGood (Ug PW95 ν),clsGoodW (Ug PW95 ν) ["PIECES_WRITTEN"]):=by
 unfold bK;rw[PySem.W.Fast.te4187177175401517315,PySem.W.Fast.te5923862056798008813,PySem.W.Fast.te14364793385576792824,PySem.W.Fast.te2795410296970684392];kernel_rfl
def seenfalse(w:UU) (os:Vh):(HdT.ends UK (TY PW95.main.body) PW95 (w.withFollow "special-get-raises" false) 9114 os).map (λs=>Xf (Ug PW95 ν) ["PIECES_WRITTEN"] (TY PW95.main.body) (λs=>WI (Ug PW95 ν) [] s && Wp [] s) true s)=some (Zh (Ug PW95 ν) ["PIECES_WRITTEN"]):=HdT.cut4 (F:=λs=>bK w s) (C7 w os) (C4 w os) (C3 w os) (C1 w os)
def hookfalse(w:UU) (os:Vh):(HdT.ends UK (TY PW95.main.body) PW95 (w.withFollow "special-get-raises" false) 9114 os).map (λs=>asl.map s.heap.get?)=some ((pre.heap_1 (w.withFollow "special-get-raises" false).params).map λp=>some p.2):=by
 unfold asl;rw[PySem.W.Fast.te5923862056798008813,PySem.W.Fast.te14364793385576792824,PySem.W.Fast.te2795410296970684392];kernel_rfl
nonrec def cj (w:UU) (s:Zz):=Xf (Ug PW95 ν) ["PIECES_WRITTEN"] (TY PW95.main.body) (λs=>WI (Ug PW95 ν) [] s && Wp [] s) true s
open PySem.W PyProof.Rows in
def G3(w:UU) (os:Vh):(HdT.ends UK (TY PW95.main.body) PW95 (w.withFollow "special-get-raises" true) 9114 os).map (λs=>((cj w s).1,(cj w s).2.1))=some (expectedOf (Ug PW95 ν),bltViewBooted):=by
 unfold cj;rw[PySem.W.Fast.te4187177175401517315,PySem.W.Fast.te5923862056798008813,PySem.W.Fast.te14364793385576792824,PySem.W.Fast.te2795410296970684392];kernel_rfl
open PySem.W PyProof.Rows in
def G0(w:UU) (os:Vh):(HdT.ends UK (TY PW95.main.body) PW95 (w.withFollow "special-get-raises" true) 9114 os).map (λs=>(cj w s).2.2.1)=some true:=by
 unfold cj;rw[PySem.W.Fast.te4187177175401517315,PySem.W.Fast.te5923862056798008813,PySem.W.Fast.te14364793385576792824,PySem.W.Fast.te2795410296970684392];kernel_rfl
open PySem.W PyProof.Rows in
def GZ(w:UU) (os:Vh):(HdT.ends UK (TY PW95.main.body) PW95 (w.withFollow "special-get-raises" true) 9114 os).map (λs=>((cj w s).2.2.2.1,(cj w s).2.2.2.2.1))=some (true,pinGoodD (drecsOf (Ug PW95 ν))):=by
 unfold cj;rw[PySem.W.Fast.te4187177175401517315,PySem.W.Fast.te5923862056798008813,PySem.W.Fast.te14364793385576792824,PySem.W.Fast.te2795410296970684392];kernel_rfl
open PySem.W PyProof.Rows in
def GY(w:UU) (os:Vh):(HdT.ends UK (TY PW95.main.body) PW95 (w.withFollow "special-get-raises" true) 9114 os).map (λs=>((cj w s).2.2.2.2.2.1,(cj w s).2.2.2.2.2.2.1,(cj w s).2.2.2.2.2.2.2.1,(cj w s).2.2.2.2.2.2.2.2))=some (plainGoodE (Ug PW95 ν) (looseW (Ug PW95 ν) ["PIECES_WRITTEN"]),plainGoodD (Ug PW95 ν) ["PIECES_WRITTEN"],wideGood (Ug PW95 ν),clsGoodW (Ug PW95 ν) ["PIECES_WRITTEN"]):=by
 unfold cj;rw[PySem.W.Fast.te4187177175401517315,PySem.W.Fast.te5923862056798008813,PySem.W.Fast.te14364793385576792824,PySem.W.Fast.te2795410296970684392];kernel_rfl
def seentrue(w:UU) (os:Vh):(HdT.ends UK (TY PW95.main.body) PW95 (w.withFollow "special-get-raises" true) 9114 os).map (λs=>Xf (Ug PW95 ν) ["PIECES_WRITTEN"] (TY PW95.main.body) (λs=>WI (Ug PW95 ν) [] s && Wp [] s) true s)=some (Zh (Ug PW95 ν) ["PIECES_WRITTEN"]):=HdT.cut4 (F:=λs=>cj w s) (G3 w os) (G0 w os) (GZ w os) (GY w os)
def hooktrue(w:UU) (os:Vh):(HdT.ends UK (TY PW95.main.body) PW95 (w.withFollow "special-get-raises" true) 9114 os).map (λs=>asl.map s.heap.get?)=some ((pre.heap_1 (w.withFollow "special-get-raises" true).params).map λp=>some p.2):=by
 unfold asl;rw[PySem.W.Fast.te5923862056798008813,PySem.W.Fast.te14364793385576792824,PySem.W.Fast.te2795410296970684392];kernel_rfl
def hooks:ZaE PW95 qv ["PIECES_WRITTEN"] (λs=>WI qv [] s && Wp [] s) (λs=>asl.map s.heap.get?) (λw=>(pre.heap_1 w.params).map λp=>some p.2) 9114 :=
 booted (PySem.W.byRow2 "special-get-raises" (λw=>λos=>by
  obtain⟨s,e,a⟩:=SU.mp (seenfalse w os)
  have b:=hookfalse w os
  rw[e] at b ⊢
  exact congrArg some (WS a (TH b))) (λw=>λos=>by
  obtain⟨s,e,a⟩:=SU.mp (seentrue w os)
  have b:=hooktrue w os
  rw[e] at b ⊢
  exact congrArg some (WS a (TH b))))
end K95H
namespace L2
open PySem PySem.Spec PyProof.Rows
nonrec def Key:=Sum Int Str
abbrev Ba:Key->SW->Bool
 |.inl k,v=>SW.isInt k v
 |.inr x,v=>Zcf x v
abbrev Q6(w:Uk):Key->Int
 |.inl k=>hashInt k
 |.inr x=>hashStr w x
def bC:∀{k:Key} {v:SW},Ba k v=true->(∃i t,k=Yu i/\v=YB i t)\/(∃x t,k=Zau x/\v=Zi x t)
 |.inl i,v,h=>by
  obtain⟨t,e⟩:=SW.isInt_shape (k:=i) (v:=v) h;exact .inl ⟨i,t,rfl,e⟩
 |.inr x,v,h=>by
  obtain⟨t,e⟩:=SW.isStrOf_shape (x:=x) (v:=v) h;exact .inr ⟨x,t,rfl,e⟩
def EO(i:Int)(t:Tok):Ba (.inl i) (.int i t)=true:=by simp[Ba,SW.isInt]
def EN(x:Str)(t:Tok):Ba (.inr x) (.str x t)=true:=by simp[Ba,Zcf]
def OH(a b:Int):decide ((Yu a:Key)=Yu b)=(a == b):=by
 by_cases e:a=b
 .subst e;simp
 .have h : ¬ (Yu a:Key)=Yu b:=λq=>e (Yu.inj q)
  rw[decide_eq_false h];exact(beq_eq_false_iff_ne.mpr e).symm
def OE(a b:Str):decide ((Zau a:Key)=Zau b)=decide (a=b):=by
 by_cases e:a=b
 .subst e;simp
 .have h : ¬ (Zau a:Key)=Zau b:=λq=>e (ZbK q)
  rw[decide_eq_false h,decide_eq_false e]
def OG(a:Int)(b:Str):decide ((Yu a:Key)=Zau b)=false:=decide_eq_false (λq=>nomatch q)
def OF(a:Str)(b:Int):decide ((Zau a:Key)=Yu b)=false:=decide_eq_false (λq=>nomatch q)
abbrev bO(prog:T9)(w:Uk):PySem.KeyKind prog w Key where
 is:=Ba
 hash:=Q6 w
 inj:=λv a b ha hb=>by
  rcases bC ha with⟨i,t,rfl,rfl⟩|⟨x,t,rfl,rfl⟩
  .rcases bC hb with⟨j,u,rfl,e⟩|⟨y,u,rfl,e⟩
   .injection e with e1 _;rw[e1]
   .exact nomatch e
  .rcases bC hb with⟨j,u,rfl,e⟩|⟨y,u,rfl,e⟩
   .exact nomatch e
   .injection e with e1 _;rw[e1]
 byValue:=λk v h=>by
  rcases bC h with⟨i,t,rfl,rfl⟩|⟨x,t,rfl,rfl⟩ <;> rfl
 pyHash:=λhv h=>by
  rcases bC hv with⟨i,t,rfl,rfl⟩|⟨x,t,rfl,rfl⟩
  .exact wpAny_pyHash_int h
  .exact wpAny_pyHash_str h
 eqBool:=λhu hv h=>by
  rcases bC hu with⟨i,t,rfl,rfl⟩|⟨x,t,rfl,rfl⟩
  .rcases bC hv with⟨j,u,rfl,rfl⟩|⟨y,u,rfl,rfl⟩
   .rw[OH] at h;exact wpAny_eqBool_int h
   .rw[OG] at h;exact ZaS i t y u _ _ _ _ h
  .rcases bC hv with⟨j,u,rfl,rfl⟩|⟨y,u,rfl,rfl⟩
   .rw[OF] at h;exact ZaT x t j u _ _ _ _ h
   .rw[OE] at h;exact wpAny_eqBool_str h
 «strs»:=λk x t v h=>by
  rcases bC h with⟨i,u,rfl,e⟩|⟨y,u,rfl,e⟩
  .exact nomatch e
  .injection e with e1 _
   subst e1;cases v <;> rfl
def xj(prog:T9)(w:Uk)(i:Int)(t:Tok):(bO prog w).is (.inl i) (.int i t)=true:=EO i t
def b9(prog:T9)(w:Uk)(x:Str)(t:Tok):(bO prog w).is (.inr x) (.str x t)=true:=EN x t
inductive V where
 |non|bl (b:Bool)|int (i:Int)|str (x:Str)|byt (b:Array UInt8)|flt (b:UInt64)|ref (a:Addr)|ty (n:String)
 deriving DecidableEq
abbrev RelV:V->SW->Prop
 |.non,u=>u=UR
 |.bl b,u=>u=ZA b
 |.int i,u=>∃t,u=YB i t
 |.str x,u=>∃t,u=Zi x t
 |.byt b,u=>∃t,u=SW.bytes b t
 |.flt b,u=>∃t,u=SW.float b t
 |.ref a,u=>u=Ua a
 |.ty n,u=>u=W6 n
nonrec def Vals:List V->List SW->Prop:=Paired RelV
def Vals.length(r:Vals xs us):xs.length=us.length:=V0 r
def Vals.get:∀{xs:List V} {us:List SW} {i:Nat} {x:V},Vals xs us->xs[i]?=some x->∃u,us[i]?=some u/\RelV x u
 |_,_,_,_,.nil,e=>by simp at e
 |_,_,0,_,.cons r _,e=>by simp at e;subst e;exact⟨_,rfl,r⟩
 |_,_,i+1,x,.cons _ t,e=>by
  obtain⟨u,h1,h2⟩:=Vals.get (i:=i) (x:=x) t (by simpa using e);exact⟨u,by simpa using h1,h2⟩
def Vals.set{x:V}{u:SW}(r:RelV x u):∀{xs:List V} {us:List SW} (i:Nat),Vals xs us->Vals (xs.set i x) (us.set i u)
 |_,_,_,.nil=>.nil
 |_,_,0,.cons _ t=>.cons r t
 |_,_,i+1,.cons q t=>.cons q (Vals.set r i t)
def Vals.append:∀{xs ys:List V} {us ws:List SW},Vals xs us->Vals ys ws->Vals (xs++ys) (us++ws)
 |_,_,_,_,.nil,s=>s
 |_,_,_,_,.cons r t,s=>.cons r (Vals.append t s)
def Vals.take:∀{xs:List V} {us:List SW} (n:Nat),Vals xs us->Vals (xs.take n) (us.take n)
 |_,_,0,_=>.nil
 |_,_,_+1,.nil=>.nil
 |_,_,n+1,.cons r t=>.cons r (Vals.take n t)
def Vals.drop:∀{xs:List V} {us:List SW} (n:Nat),Vals xs us->Vals (xs.drop n) (us.drop n)
 |_,_,0,r=>r
 |_,_,_+1,.nil=>.nil
 |_,_,n+1,.cons _ t=>Vals.drop n t
abbrev RelO:Option V->Option SW->Prop
 |some v,some u=>RelV v u
 |none,none=>True
 |_,_=>False
abbrev KV{κ:Type}:List (κ×V)->List (κ×SW)->Prop:=Paired λ(p:κ×V) (q:κ×SW)=>p.1=q.1/\RelV p.2 q.2
abbrev kV:Key->V
 |.inl i=>.int i
 |.inr x=>.str x
inductive HO where
 |lst (xs:List V)
 |tup (xs:List V)
 |dK (dk:List (Key×V))|dT (dk:List (List Key×V))
 |set (S:Int->Bool) (n:Nat)
 |ins (C dx:Addr) (fs:List (Str×V))
 |own (x:Addr)
 |xd (fs:List (Str×V))
 |met (f x:Addr)
 |rng (lo hi:Int)
 |frz (o:Obj) (u:HO)
 |tbl (ps:Array SW)
 |ext (φ:Heap->Prop)
nonrec def Hp:=Addr->Option HO
abbrev upd(H:Hp)(a:Addr)(o:HO):Hp:=λb=>if b=a then some o else H b
def ag:upd H a o a=some o:=by unfold upd;rw[if_pos rfl]
def aJ{a b:Addr}(h:b≠a):upd H a o b=H b:=by unfold upd;rw[if_neg h]
def Ke:upd (upd H a o) a u=upd H a u:=by
 funext b;unfold upd;split <;> rfl
def Ib{H:Hp}{o u:HO}(h:H a=some o)(h':H b=some u)(d:o≠u):a≠b:=by
 intro e;subst e;rw[h] at h';exact d (TH h')
def ar{H:Hp}{o:HO}(h:H a=some o)(h':H b=none):a≠b:=by
 intro e;subst e;rw[h] at h';cases h'
abbrev TupD (h:Heap) (a:Addr) (items:Array SW):Prop:=∃o,h.get? a=some o/\(o.cls=.type "tuple"/\∃n,o.data=.seq items n)/\o.dict=none
def TupD.tup{h:Heap}{a:Addr}{items:Array SW}(t:TupD h a items):IsTup h a items:=let ⟨o,e,c,_⟩:=t;⟨o,e,c⟩
def TupD.lt(t:TupD h a items):a<h.objs.size:=t.tup.lt
def TupD.new(h:Heap) (items:Array SW):TupD (h.push {cls:=.type "tuple",data:=.seq items}) h.objs.size items:=⟨_,Tx _ rfl,⟨rfl,_,rfl⟩,rfl⟩
section
variable(P:T9)(w:Uk)
abbrev cv(H:Hp)(h:Heap)(a:Addr):HO->Prop
 |.lst xs=>Wi xs<=sizeLine/\∃(ab:List SW) (n:Nat),Vals xs ab/\h.get? a=some {cls:=.type "list",data:=.seq ab.toArray n}
 |.tup xs=>Wi xs<=sizeLine/\∃ab:List SW,Vals xs ab/\TupD h a ab.toArray
 |.dK dk=>dk.length<=sizeLine/\(a == sysModules)=false/\∃vs,KV dk vs/\h.DictOf (bO P w) a vs
 |.dT dk=>dk.length<=sizeLine/\(a == sysModules)=false/\∃xs:List (List Key×Addr×SW),
   Paired (λ(p:List Key×V) (q:List Key×Addr×SW)=>p.1=q.1/\H q.2.1=some (.tup (p.1.map kV))/\RelV p.2 q.2.2) dk xs /\
   ∃o es ep,h.get? a=some o/\o.ExactDict/\o.data=.dict es ep/\es.toList=xs.map (entryOfKey (tupleKind (bO P w)))/\(xs.map (·.1)).Nodup
 |.set S n=>h.SetOf (intKind P w) a S n
 |.ins C dx fs=>H dx=some (.own a)/\fs.length<=1000/\dx≠a/\h.get? a=some (ZQ C dx) /\
   ∃mA,h.Ns1 dx mA/\(∀f,RelO (fs.lookup f) (mA f))/\PySem.Within mA (fs.map (·.1))
 |.own _=>∃o,h.get? a=some o
 |.xd fs=>∃mA,h.Ns1 a mA/\∀f,RelO (fs.lookup f) (mA f)
 |.rng lo hi=>∃t u v,h.get? a=some {cls:=.type "range",data:=.fields #[.int lo t,.int hi u,.int 1 v]}
 |.frz o u=>h.get? a=some o/\cv H h a u
 |.tbl ps=>h.get? a=some {cls:=.none,data:=.fields ps}
 |.met f x=>h.get? a=some (YW (.ref f) (.ref x))
 |.ext φ=>φ h/\(∃o,h.get? a=some o)/\∀h1 h2:Heap,φ h1->(∀o,h1.get? a=some o->h2.get? a=some o)->φ h2
abbrev HOk(H:Hp)(h:Heap):Prop:=∀a o,H a=some o->cv P w H h a o
end
section
variable{P:T9}{w:Uk}{H H':Hp}{h h':Heap}{a:Addr}{o:HO}
def cv.lt(x:cv P w H h a o):a<h.objs.size:=by
 cases o with
 |lst xs=>obtain⟨_,_,_,_,e⟩:=x;exact Tz e
 |tup xs=>obtain⟨_,_,_,p⟩:=x;exact p.lt
 |dK dk=>obtain⟨_,_,_,_,o,_,_,e,_⟩:=x;exact Tz e
 |dT dk=>obtain⟨_,_,_,_,o,_,_,e,_⟩:=x;exact Tz e
 |set S n=>obtain⟨o,_,_,_,e,_⟩:=x;exact Tz e
 |ins C dx fs=>obtain⟨_,_,_,e,_⟩:=x;exact Tz e
 |own y=>obtain⟨_,e⟩:=x;exact Tz e
 |xd fs=>obtain⟨_,⟨_,_,_,e,_⟩,_⟩:=x;exact Tz e
 |rng lo hi=>obtain⟨_,_,_,e⟩:=x;exact Tz e
 |frz ob u=>obtain⟨e,_⟩:=x;exact Tz e
 |tbl ps=>exact Tz (show h.get? a=some _ from x)
 |met f y=>exact Tz (show h.get? a=some _ from x)
 |ext φ=>obtain⟨_,⟨_,e⟩,_⟩:=x;exact Tz e
def Paired.mapP{α β:Type}{F G:α->β->Prop}:∀{l₁:List α} {l₂:List β},Paired F l₁ l₂->(∀a b,F a b->G a b)->Paired G l₁ l₂
 |_,_,.nil,_=>.nil
 |_,_,.cons r t,f=>.cons (f _ _ r) (Paired.mapP t f)
def cv.stay(x:cv P w H h a o)(k:∀b u,(b=a\/H b=some (.own a))->h.get? b=some u->h'.get? b=some u)
  (ho:∀b,H b=some (.own a)->H' b=some (.own a)) (ht:∀b xs,H b=some (.tup xs)->H' b=some (.tup xs)):cv P w H' h' a o:=by
 induction o with
 |lst xs=>obtain⟨z,ab,n,r,e⟩:=x;exact⟨z,ab,n,r,k _ _ (.inl rfl) e⟩
 |tup xs=>obtain⟨z,ab,r,ob,e,c⟩:=x;exact⟨z,ab,r,ob,k _ _ (.inl rfl) e,c⟩
 |dK dk=>obtain⟨z,y,vs,r,ob,es,ep,e,c⟩:=x;exact⟨z,y,vs,r,ob,es,ep,k _ _ (.inl rfl) e,c⟩
 |dT dk =>
  obtain⟨z,y,xs,r,ob,es,ep,e,c⟩:=x;exact⟨z,y,xs,Paired.mapP r λp q z=>⟨z.1,ht _ _ z.2.1,z.2.2⟩,ob,es,ep,k _ _ (.inl rfl) e,c⟩
 |set S n=>obtain⟨ob,es,ep,t,e,c⟩:=x;exact⟨ob,es,ep,t,k _ _ (.inl rfl) e,c⟩
 |ins C dx fs =>
  obtain⟨d,z,ne,e,mA,⟨od,es,ep,e2,c⟩,r⟩:=x;exact⟨ho _ d,z,ne,k _ _ (.inl rfl) e,mA,⟨od,es,ep,k _ _ (.inr d) e2,c⟩,r⟩
 |own y=>obtain⟨ob,e⟩:=x;exact⟨ob,k _ _ (.inl rfl) e⟩
 |xd fs=>obtain⟨mA,⟨od,es,ep,e,c⟩,r⟩:=x;exact⟨mA,⟨od,es,ep,k _ _ (.inl rfl) e,c⟩,r⟩
 |rng lo hi=>obtain⟨t,u,v,e⟩:=x;exact⟨t,u,v,k _ _ (.inl rfl) e⟩
 |frz ob u ih=>obtain⟨e,q⟩:=x;exact⟨k _ _ (.inl rfl) e,ih q⟩
 |tbl ps =>
  have e:h.get? a=some {cls:=.none,data:=.fields ps}:=x;show h'.get? a=some {cls:=.none,data:=.fields ps};exact k a _ (.inl rfl) e
 |met f y =>
  have e:h.get? a=some (YW (.ref f) (.ref y)):=x;show h'.get? a=some (YW (.ref f) (.ref y));exact k a _ (.inl rfl) e
 |ext φ=>obtain⟨p,⟨o,e⟩,st⟩:=x;exact⟨st _ _ p λo q=>k _ _ (.inl rfl) q,⟨o,k _ _ (.inl rfl) e⟩,st⟩
def HOk.lt(x:HOk P w H h)(e:H a=some o):a<h.objs.size:=(x a o e).lt
def HOk.fresh(x:HOk P w H h)(e:h.objs.size<=a):H a=none:=by
 cases q:H a with
 |none=>rfl
 |some u=>exact absurd (Ts (x.lt q) e) (V1 _)
def HOk.kept(x:HOk P w H h)(k:∀b u,h.get? b=some u->h'.get? b=some u):HOk P w H h':=λa o e =>
 (x a o e).stay (λb u _ q=>k b u q) (λ_ q=>q) λ_ _ q=>q
def HOk.laid(x:HOk P w H h)(k:∀b u,h.get? b=some u->h'.get? b=some u)(hp:h.objs.size<=a)(new:cv P w (upd H a o) h' a o):HOk P w (upd H a o) h':=λb u e=>by
 have hn:=x.fresh hp;by_cases hb:b=a
 .subst hb;rw[ag] at e;cases e;exact new
 .rw[aJ hb] at e;exact(x b u e).stay (λc v _ q=>k c v q) (λc q=>by rw[aJ (ar q hn)];exact q) λc xs q=>by rw[aJ (ar q hn)];exact q
end
abbrev Rd(H:Hp)(a:Addr)(u:HO):Prop:=H a=some u\/∃o,H a=some (.frz o u)
def Rd.ok(r:Rd H a u)(x:HOk P w H h):cv P w H h a u:=by
 rcases r with r|⟨o,r⟩
 .exact x a u r
 .obtain⟨_,q⟩:=x a _ r;exact q
abbrev Qc:Option HO->Prop
 |some (.lst _)=>True
 |some (.dK _)=>True
 |some (.dT _)=>True
 |some (.set _ _)=>True
 |some (.ins _ _ _)=>True
 |some (.ext _)=>True
 |_=>False
section
variable{P:T9}{w:Uk}{H:Hp}{h h':Heap}{x e:Addr}{o':HO}
def HOk.write(ok:HOk P w H h)(mu:Qc (H x))(he:e=x\/H e=some (.own x))(k:∀b u,b≠e->h.get? b=some u->h'.get? b=some u)(heo:∃u,h'.get? e=some u)
  (new:cv P w (upd H x o') h' x o'):HOk P w (upd H x o') h':=λb u q=>by
 have nown:∀c y,H c=some (.own y)->c≠x:=λc y r z=>by subst z;rw[r] at mu;exact mu
 have ntup:∀c xs,H c=some (.tup xs)->c≠x:=λc xs r z=>by subst z;rw[r] at mu;exact mu
 by_cases hb:b=x
 .subst hb;rw[ag] at q;cases q;exact new
 .rw[aJ hb] at q;by_cases hbe:b=e
  .have q':H b=some (.own x):=by
    rcases he with z|z
    .exact absurd (hbe.trans z) hb
    .rw[hbe];exact z
   rw[q] at q';cases q';obtain⟨v,hv⟩:=heo;exact⟨v,by rw[hbe];exact hv⟩
  .refine(ok b u q).stay (λc v hc r=>k c v ?_ r) (λc r=>by rw[aJ (nown c b r)];exact r) λc xs r=>by rw[aJ (ntup c xs r)];exact r
   rcases hc with rfl|hc
   .exact hbe
   .rintro rfl;rcases he with z|z
    .exact nown c b hc z
    .rw[hc] at z;cases z;exact hb rfl
end
structure Un (fs ex:List Addr) (H H':Hp) (h h':Heap):Prop where
 keep:∀b o,h.get? b=some o->H b=none->b∉fs->b∉ex->h'.get? b=some o
 slot:∀b o,h.get? b=some o->H b=none->b∈fs->b∉ex->∃sl,h'.get? b=some {o with slots:=sl}
 free:∀b o,h.get? b=some o->H b=none->b∉ex->H' b=none
 there:∀b o,h.get? b=some o->b∉ex->∃o',h'.get? b=some o'
 tups:∀b xs,H b=some (.tup xs)->H' b=some (.tup xs)
 frzs:∀b o u,H b=some (.frz o u)->H' b=some (.frz o u)
 tbls:∀b ps,H b=some (.tbl ps)->∃more,H' b=some (.tbl (ps++more))
section
variable{fs fs' ex ex':List Addr}{H H1 H2:Hp}{h h1 h2 h':Heap}{a x e:Addr}{o:HO}
def Un.any(u:Un fs ex H H1 h h1){b:Addr}{ob:Obj}(q:h.get? b=some ob)(n:H b=none)(hx:b∉ex):∃sl,h1.get? b=some {ob with slots:=sl}:=by
 by_cases hb:b∈fs
 .exact u.slot b ob q n hb hx
 .exact⟨ob.slots,u.keep b ob q n hb hx⟩
def Un.kept(k:∀b u,h.get? b=some u->h'.get? b=some u):Un fs ex H H h h' :=
 ⟨λb ob q _ _ _=>k b ob q,λb ob q _ _ _=>⟨ob.slots,k b ob q⟩,λ_ _ _ n _=>n,λb ob q _=>⟨ob,k b ob q⟩,λ_ _ q=>q,λ_ _ _ q=>q,λ_ ps q=>⟨#[],by rw[q];simp⟩⟩
def Un.refl:Un fs ex H H h h:=Un.kept λ_ _ q=>q
def Un.laid(k:∀b u,h.get? b=some u->h'.get? b=some u)(hp:h.objs.size<=a)(hn:H a=none):Un fs ex H (upd H a o) h h' where
 keep:=λb u q _ _ _=>k b u q
 slot:=λb u q _ _ _=>⟨u.slots,k b u q⟩
 free:=λb u q n _=>by rw[aJ (T0 (Ts (Tz q) hp))];exact n
 there:=λb u q _=>⟨u,k b u q⟩
 tups:=λb xs q=>by rw[aJ (ar q hn)];exact q
 frzs:=λb u xs q=>by rw[aJ (ar q hn)];exact q
 tbls:=λb ps q=>⟨#[],by rw[aJ (ar q hn),q];simp⟩
def Un.write(mu:Qc (H x))(he:e=x\/H e=some (.own x))(k:∀b u,b≠e->h.get? b=some u->h'.get? b=some u)(heo:∃u,h'.get? e=some u):Un fs ex H (upd H x o) h h':=by
 have hx:∀b,H b=none->b≠x:=λb n z=>by subst z;rw[n] at mu;exact mu
 have hb:∀b,H b=none->b≠e:=λb n z=>by
  subst z;rcases he with r|r
  .exact hx b n r
  .rw[n] at r;cases r
 have hm:∀b u,H b=some u->¬ Qc (some u)->b≠x:=λb u q nm z=>by subst z;rw[q] at mu;exact nm mu
 refine⟨λb u q n _ _=>k b u (hb b n) q,λb u q n _ _=>⟨u.slots,k b u (hb b n) q⟩,λb u q n _=>by rw[aJ (hx b n)];exact n,λb u q _=>?_,
  λb xs q=>by rw[aJ (hm b _ q λz=>z)];exact q,λb u xs q=>by rw[aJ (hm b _ q λz=>z)];exact q,λb ps q=>⟨#[],by rw[aJ (hm b _ q λz=>z),q];simp⟩⟩
 by_cases hbe:b=e
 .subst hbe;exact heo
 .exact⟨u,k b u hbe q⟩
end
abbrev Ql(h:Heap)(H:Hp):List Addr:=(TC h.objs.size).filter λa=>(H a).isSome
abbrev qU(h:Heap)(H:Hp):Heap:=PySem.W.hideAll h (Ql h H)
def Fh(h:Heap)(H:Hp):(qU h H).objs.size=h.objs.size:=PySem.W.hideAll_size _ _
def IA{h:Heap}{H:Hp}{b:Addr}{o:Obj}(e:h.get? b=some o)(n:H b=none):(qU h H).get? b=some o :=
 PySem.W.hideAll_get _ e λhm=>by
  have q:(H b).isSome=true:=(Ui.mp hm).2;rw[n] at q;simp at q
def LJ{b:Addr}{o:Obj}(e:(qU h H).get? b=some o):h.get? b=some o/\H b=none:=by
 have e':h.get? b=some o:=PySem.W.of_hideAll (Ql h H) e;refine⟨e',?_⟩;cases q:H b with
 |none=>rfl
 |some x =>
  have hm:b∈Ql h H:=Ui.mpr ⟨Uu.mpr (Tz e'),by simp[q]⟩;have z:(qU h H).get? b=none:=PySem.W.hideAll_none (Ql h H) hm;rw[z] at e;cases e
structure Mod (K:Fg) (mg:Str->Option SW) (base:Heap):Prop where
 kin:K.In base
 glob:base.Ns mainGlobals mg
 blt:∃mb,base.Ns builtinsNs mb/\∀x:Str,x≠"__name__"->mb x=bootBuiltins x
 nolimit:base.NoLimit
structure Cx where
 prog:T9
 w:Uk
 K:Fg
 mg:Str->Option SW
 base:Heap
 A:Ud
 N:List Str
 s₀:SZ
 H₀:Hp
 env:Env
 outer:List Env
 stack:List Env
 ex:List Addr
 fn:Str->Bool
 calm:Bool
 pn:List (Addr×Obj)
 xe:SW->SZ->Prop
abbrev Bu(l:List Env):List Addr:=l.filterMap (·.frame)
nonrec def Cx.fs(X:Cx):List Addr:=Bu X.outer
abbrev Qo(sc:Scope)(x:Str):Prop:=sc.names.lookup x=some .local\/sc.names.lookup x=some .cell\/sc.names.lookup x=some .free
abbrev Loc(sc:Scope)(x:Str):Prop:=sc.names.lookup x=some .local\/sc.names.lookup x=some .cell
abbrev Look(env:Env)(h:Heap)(m:Str->Option SW)(x:Str)(u:SW):Prop :=
 (env.kindOf x=some .local/\m x=some u)\/((env.kindOf x=some .cell\/env.kindOf x=some .free)/\∃c,env.cells.lookup x=some c/\h.IsCell c (some u))
structure Cx.Ok (X:Cx):Prop where
 mod:Mod X.K X.mg X.base
 kind:X.env.scope.kind=.function
 glob:X.env.globals=mainGlobals
 blt:X.env.builtins=builtinsNs
 above:X.s₀.heap.objs.size<=X.env.locals
 inj:∀x y c,X.env.cells.lookup x=some c->X.env.cells.lookup y=some c->x=y
 has:∀x,(X.env.kindOf x=some .cell\/X.env.kindOf x=some .free)->∃c,X.env.cells.lookup x=some c
 cab:∀x c,X.fn x=true->X.env.cells.lookup x=some c->X.s₀.heap.objs.size<=c
 hd:X.calm=true->X.A.handled=none
 frames:X.A.frames=some X.stack
 stk:X.stack=X.outer\/(X.stack=X.env :: X.outer/\X.env.frame=some X.env.locals)
 exf:∀b∈X.ex,b≠X.env.locals/\∀x c,X.env.cells.lookup x=some c->c≠b
 bs:∀b o,X.base.get? b=some o->X.s₀.heap.get? b=some o/\X.H₀ b=none
 bsz:X.base.objs.size<=X.s₀.heap.objs.size
 noex:∀b o,X.base.get? b=some o->b∉X.ex
 exfs:∀b∈X.ex,b∉X.fs
 funs:X.s₀.heap.FunFrames X.base X.outer
 frf:∀b∈X.fs,X.H₀ b=none
structure Inv (X:Cx) (ξ:List (Addr×Obj)) (σ:List (Option V)) (H:Hp) (s:SZ):Prop where
 ok:X.Ok
 os:s.os=X.s₀.os
 bare:YX s.gens
 base:Un X.fs X.ex X.H₀ H X.s₀.heap s.heap
 loc:∃m,s.heap.Ns X.env.locals m/\∀(i:Nat) (x:Str) (v:V),X.N[i]?=some x->σ[i]?=some (some v)->Qo X.env.scope x->∃u,RelV v u/\Look X.env s.heap m x u
 cell:∀x c,X.env.cells.lookup x=some c->∃v,s.heap.IsCell c v
 free:H X.env.locals=none
 freeC:∀x c,X.env.cells.lookup x=some c->H c=none
 pin:∀p∈X.pn++ξ,s.heap.get? p.1=some p.2/\H p.1=none/\p.1≠X.env.locals/\p.1∉X.fs/\∀v,p.2.data≠.cell v
 hok:HOk X.prog X.w H s.heap
 len:Wi σ=X.N.length
section
variable{X:Cx}{ξ:List (Addr×Obj)}{σ:List (Option V)}{H H':Hp}{s:SZ}{h':Heap}
def Cx.Ok.nofr(ok:X.Ok){b:Addr}{o:Obj}(e:X.base.get? b=some o):b∉X.fs:=λhb=>by
 have:=(ok.funs.mem hb).1
 rw[e] at this;cases this
def Inv.bs(I:Inv X ξ σ H s):∀b o,X.base.get? b=some o->s.heap.get? b=some o/\H b=none:=λb o e =>
 ⟨I.base.keep b o (I.ok.bs b o e).1 (I.ok.bs b o e).2 (I.ok.nofr e) (I.ok.noex b o e),I.base.free b o (I.ok.bs b o e).1 (I.ok.bs b o e).2 (I.ok.noex b o e)⟩
def Inv.bk(I:Inv X ξ σ H s):∀b o,X.base.get? b=some o->s.heap.get? b=some o:=λb o e=>(I.bs b o e).1
def Inv.mod(I:Inv X ξ σ H s):Mod X.K X.mg X.base:=I.ok.mod
def Inv.kIn(I:Inv X ξ σ H s):X.K.In s.heap:=I.ok.mod.kin.keeps I.bk
def Inv.lt(I:Inv X ξ σ H s):X.env.locals<s.heap.objs.size:=let ⟨_,hn,_⟩:=I.loc;hn.lt
def Inv.sz(I:Inv X ξ σ H s):X.s₀.heap.objs.size<=s.heap.objs.size:=TQ I.ok.above (ZB I.lt)
def Inv.nofs(I:Inv X ξ σ H s){a:Addr}(h:s.heap.objs.size<=a):a∉X.fs:=λhb=>by
 obtain⟨_,o,ho,_⟩:=I.ok.funs.mem hb;exact absurd (Ts (Tz ho) (TQ I.sz h)) (V1 _)
def Inv.cne(I:Inv X ξ σ H s):∀x c,X.env.cells.lookup x=some c->c≠X.env.locals:=λx c e z=>by
 obtain⟨v,o,ho,hd⟩:=I.cell x c e;obtain⟨m,⟨o',es,ep,ho',hd',_⟩,_⟩:=I.loc;rw[z,ho'] at ho;cases ho;rw[hd'] at hd;cases hd
def Inv.funs(I:Inv X ξ σ H s):s.heap.FunFrames X.base X.outer:=by
 have all:∀(l:List Env),(∀b∈Bu l,b∈X.fs)->X.s₀.heap.FunFrames X.base l->s.heap.FunFrames X.base l:=by
  intro l
  induction l with
  |nil=>intro _ _;trivial
  |cons env r ih =>
   intro hs hl;obtain⟨hk,⟨L,o,hf,hn,ho,hd⟩,hr⟩:=hl;have hL:L∈X.fs:=hs L (by unfold Bu;rw[Vx,hf];exact Tb);obtain⟨sl,e⟩:=I.base.slot L o ho (I.ok.frf L hL) hL λz=>I.ok.exfs L z hL
   exact⟨hk,⟨L,_,hf,hn,e,hd⟩,ih (λb hb=>hs b (by unfold Bu;rw[Vx,hf];exact S_ _ hb)) hr⟩
 exact all X.outer (λ_ hb=>hb) I.ok.funs
def Inv.stack(I:Inv X ξ σ H s):s.heap.FunFrames X.base X.stack:=by
 rcases I.ok.stk with e|⟨e,hf⟩
 .rw[e];exact I.funs
 .rw[e];obtain⟨m,hn,_⟩:=I.loc;refine .cons (by rw[I.ok.kind];decide) hf hn ?_ I.funs;exact Heap.get?_none_of_le (TQ I.ok.bsz I.ok.above)
def Inv.CG(I:Inv X ξ σ H s):∀b∈Bu X.stack,b∈X.env.locals :: X.fs:=λb hb=>by
 rcases I.ok.stk with e|⟨e,hf⟩
 .rw[e] at hb;exact S_ _ hb
 .rw[e] at hb;unfold Bu at hb;rw[Vx,hf] at hb;exact hb
def Inv.CH(I:Inv X ξ σ H s):∀b∈Bu X.stack,H b=none:=λb hb=>by
 rcases Tu.mp (I.CG b hb) with e|hb
 .rw[e];exact I.free
 .obtain⟨_,o,ho,_⟩:=I.ok.funs.mem hb;exact I.base.free b o ho (I.ok.frf b hb) λz=>I.ok.exfs b z hb
def Inv.step{g':Array Zb7}{t':Nat}{d':Drawn}{ch:List Addr}(I:Inv X ξ σ H s)
  (hch:∀b∈ch,(b∈X.ex\/X.s₀.heap.objs.size<=b)/\b≠X.env.locals/\(∀x c,X.env.cells.lookup x=some c->c≠b)/\∀p∈X.pn++ξ,p.1≠b)
  (keep:∀b o,b≠X.env.locals->b∉X.fs->b∉ch->s.heap.get? b=some o->H b=none->h'.get? b=some o)
  (slot:∀b o,b≠X.env.locals->b∈X.fs->b∉ch->s.heap.get? b=some o->H b=none->∃sl,h'.get? b=some {o with slots:=sl}) (free:∀b o,b∉ch->s.heap.get? b=some o->H b=none->H' b=none)
  (there:∀b o,b∉ch->s.heap.get? b=some o->∃o',h'.get? b=some o')
  (tups:∀b xs,H b=some (.tup xs)->H' b=some (.tup xs)) (frzs:∀b o u,H b=some (.frz o u)->H' b=some (.frz o u)) (tbls:∀b ps,H b=some (.tbl ps)->∃more,H' b=some (.tbl (ps++more)))
  (ns:∀m,s.heap.Ns X.env.locals m->h'.Ns X.env.locals m) (hok:HOk X.prog X.w H' h') (hg:YX g') :
  Inv X ξ σ H' {s with heap:=h',gens:=g',drawn:=d',toks:=t'}:=by
 have neL:∀b o,X.s₀.heap.get? b=some o->b≠X.env.locals:=λb o e=>T0 (Ts (Tz e) I.ok.above)
 have neC:∀b o,X.s₀.heap.get? b=some o->b∉X.ex->b∉ch:=λb o e hx hb=>by
  rcases (hch b hb).1 with z|z
  .exact hx z
  .exact absurd (Ts (Tz e) z) (V1 _)
 have cellK:∀x c,X.env.cells.lookup x=some c->∀v,s.heap.IsCell c v->h'.IsCell c v:=λx c e v ⟨o,ho,hd⟩=>by
  have nch:c∉ch:=λz=>(hch c z).2.2.1 x c e rfl
  by_cases hc:c∈X.fs
  .obtain⟨sl,q⟩:=slot c o (I.cne x c e) hc nch ho (I.freeC x c e);exact⟨_,q,hd⟩
  .exact⟨o,keep c o (I.cne x c e) hc nch ho (I.freeC x c e),hd⟩
 refine⟨I.ok,I.os,hg,⟨λb o e n hb hx=>?_,λb o e n hb hx=>?_,λb o e n hx=>?_,λb o e hx=>?_,λb xs e=>tups b xs (I.base.tups b xs e),λb o xs e=>frzs b o xs (I.base.frzs b o xs e),λb ps e=>?_⟩,?_,λx c e=>?_,?_,λx c e=>?_,λp hp=>?_,hok,I.len⟩
 .exact keep b o (neL b o e) hb (neC b o e hx) (I.base.keep b o e n hb hx) (I.base.free b o e n hx)
 .obtain⟨sl,e1⟩:=I.base.slot b o e n hb hx;obtain⟨sl',e2⟩:=slot b _ (neL b o e) hb (neC b o e hx) e1 (I.base.free b o e n hx);exact⟨sl',e2⟩
 .obtain⟨o',e1⟩:=I.base.there b o e hx;exact free b o' (neC b o e hx) e1 (I.base.free b o e n hx)
 .obtain⟨o',e1⟩:=I.base.there b o e hx;exact there b o' (neC b o e hx) e1
 .obtain⟨m1,e1⟩:=I.base.tbls b ps e;obtain⟨m2,e2⟩:=tbls b _ e1;exact⟨m1++m2,by rw[e2,Array.append_assoc]⟩
 .obtain⟨m,hn,hl⟩:=I.loc;refine⟨m,ns m hn,λi x v e1 e2 e3=>?_⟩;obtain⟨u,r,l⟩:=hl i x v e1 e2 e3;refine⟨u,r,?_⟩;rcases l with l|⟨k,c,e,z⟩
  .exact .inl l
  .exact .inr ⟨k,c,e,cellK x c e _ z⟩
 .obtain⟨v,z⟩:=I.cell x c e;exact⟨v,cellK x c e v z⟩
 .obtain⟨m,⟨o,_,_,ho,_⟩,_⟩:=I.loc;exact free _ o (λz=>(hch _ z).2.1 rfl) ho I.free
 .obtain⟨v,o,ho,hd⟩:=I.cell x c e;exact free c o (λz=>(hch c z).2.2.1 x c e rfl) ho (I.freeC x c e)
 .obtain⟨e,n,ne,nf,d⟩:=I.pin p hp;have nch:p.1∉ch:=λz=>(hch p.1 z).2.2.2 p hp rfl
  exact⟨keep p.1 p.2 ne nf nch e n,free p.1 p.2 nch e n,ne,nf,d⟩
def Inv.un{t':Nat}(I:Inv X ξ σ H s)(u:Un X.fs [] H H' s.heap h')(hok:HOk X.prog X.w H' h'):Inv X ξ σ H' {s with heap:=h',toks:=t'}:=by
 obtain⟨m,⟨o,es,ep,ho,r⟩,_⟩:=id I.loc;obtain⟨sl,hL⟩:=u.any ho I.free (by simp)
 exact I.step (g':=s.gens) (d':=s.drawn) (ch:=[]) (λ_ z=>nomatch z) (λb o _ hb _ e n=>u.keep b o e n hb (by simp)) (λb o _ hb _ e n=>u.slot b o e n hb (by simp)) (λb o _ e n=>u.free b o e n (by simp)) (λb o _ e=>u.there b o e (by simp)) u.tups u.frzs u.tbls (λm' hm=>by
  obtain⟨o',es',ep',ho',r'⟩:=hm
  rw[ho] at ho';cases ho'
  exact⟨_,es',ep',hL,r'⟩) hok I.bare
def Inv.call{t':Nat}{d':Drawn}(I:Inv X ξ σ H s)(u:Un (Bu X.stack) ch H H' s.heap h')(hok:HOk X.prog X.w H' h')(hg:YX g')
  (hch:∀b∈ch,(b∈X.ex\/X.s₀.heap.objs.size<=b)/\b≠X.env.locals/\(∀x c,X.env.cells.lookup x=some c->c≠b)/\∀p∈X.pn++ξ,p.1≠b) :
  Inv X ξ σ H' {s with heap:=h',gens:=g',drawn:=d',toks:=t'}:=by
 obtain⟨m,⟨o,es,ep,ho,r⟩,_⟩:=id I.loc;obtain⟨sl,hL⟩:=u.any ho I.free λz=>(hch _ z).2.1 rfl
 exact I.step (ch:=ch) hch (λb o hL hb hc e n=>u.keep b o e n (λz=>(Tu.mp (I.CG b z)).elim hL hb) hc) (λb o _ _ hc e n=>u.any e n hc) (λb o hc e n=>u.free b o e n hc) (λb o hc e=>u.there b o e hc) u.tups u.frzs u.tbls (λm' hm=>by
  obtain⟨o',es',ep',ho',r'⟩:=hm
  rw[ho] at ho';cases ho'
  exact⟨_,es',ep',hL,r'⟩) hok hg
def Inv.turned{t':Nat}{it:Addr}(I:Inv X ξ σ H s)(k:∀b o,b≠it->s.heap.get? b=some o->h'.get? b=some o)(hn:H it=none)(hL:it≠X.env.locals)
  (h1:it∈X.ex\/X.s₀.heap.objs.size<=it) (h2:∀x c,X.env.cells.lookup x=some c->c≠it) (h3:∀p∈X.pn++ξ,p.1≠it):Inv X ξ σ H {s with heap:=h',toks:=t'}:=by
 have nit:∀b u,H b=some u->b≠it:=λb u e z=>by rw[z,hn] at e;cases e
 refine I.step (g':=s.gens) (d':=s.drawn) (ch:=[it]) (λb hb=>?_) (λb o _ _ hc e _=>k b o (λz=>hc (by simp[z])) e) (λb o _ _ hc e _=>⟨o.slots,k b o (λz=>hc (by simp[z])) e⟩) (λ_ _ _ _ n=>n)
  (λb o hc e=>⟨o,k b o (λz=>hc (by simp[z])) e⟩) (λ_ _ e=>e) (λ_ _ _ e=>e) (λb ps e=>⟨#[],by rw[e];simp⟩) (λm hm=>?_) (λb u e=>?_) I.bare
 .have e:b=it:=by simpa using hb
  subst e;exact⟨h1,hL,h2,h3⟩
 .obtain⟨o,es,ep,ho,r⟩:=hm;exact⟨o,es,ep,k _ o (XN hL) ho,r⟩
 .refine(I.hok b u e).stay (λc v hc q=>k c v ?_ q) (λ_ q=>q) λ_ _ q=>q
  rcases hc with z|z
  .rw[z];exact nit b u e
  .exact nit c _ z
def Inv.tok(I:Inv X ξ σ H s)(t:Nat):Inv X ξ σ H {s with toks:=t}:=I.un (h':=s.heap) (t':=t) Un.refl I.hok
def Inv.kept{t':Nat}(I:Inv X ξ σ H s)(k:∀b u,s.heap.get? b=some u->h'.get? b=some u):Inv X ξ σ H {s with heap:=h',toks:=t'}:=I.un (Un.kept k) (I.hok.kept k)
def Inv.laid{a:Addr}{t':Nat}(I:Inv X ξ σ H s)(k:∀b u,s.heap.get? b=some u->h'.get? b=some u)(hp:s.heap.objs.size<=a)(new:cv X.prog X.w (upd H a o) h' a o) :
  Inv X ξ σ (upd H a o) {s with heap:=h',toks:=t'}:=I.un (Un.laid k hp (I.hok.fresh hp)) (I.hok.laid k hp new)
def Inv.write{e:Addr}{t':Nat}(I:Inv X ξ σ H s)(mu:Qc (H x))(he:e=x\/H e=some (.own x))(k:∀b u,b≠e->s.heap.get? b=some u->h'.get? b=some u)(heo:∃u,h'.get? e=some u)
  (new:cv X.prog X.w (upd H x o) h' x o):Inv X ξ σ (upd H x o) {s with heap:=h',toks:=t'}:=I.un (Un.write mu he k heo) (I.hok.write mu he k heo new)
def Inv.D6{pins':List (Addr×Obj)}(I:Inv X ξ σ H s)(h:∀p∈pins',s.heap.get? p.1=some p.2/\H p.1=none/\p.1≠X.env.locals/\p.1∉X.fs/\∀v,p.2.data≠.cell v):Inv X pins' σ H s :=
 ⟨I.ok,I.os,I.bare,I.base,I.loc,I.cell,I.free,I.freeC,λp hp=>(Tv.mp hp).elim (λz=>I.pin p (UB _ z)) (h p),I.hok,I.len⟩
def qH{N:List Str}(hN:N.Nodup){i j:Nat}{x:Str}(a:N[i]?=some x)(b:N[j]?=some x):i=j:=by
 obtain⟨h1,e1⟩:=SL.mp a;obtain⟨h2,e2⟩:=SL.mp b;exact(Zj hN).mp (e1.trans e2.symm)
def sw{i:Nat}{x:Str}{Q:Unit->SZ->Prop}(I:Inv X ξ σ H s)(hN:X.N.Nodup)(hi:X.N[i]?=some x)(hx:Loc X.env.scope x)(r:RelV v u)
  (h:∀s',Inv X ξ (σ.set i (some v)) H s'->(∃a,Xg a s.heap s'.heap/\(a=X.env.locals\/X.env.cells.lookup x=some a))->Q () s') (hf:X.fn x=true\/X.env.scope.names.lookup x=some .local:=by first|exact .inl rfl|exact .inr rfl|assumption):wpAny M A (storeName X.env x u) Q E s:=by
 obtain⟨m,hn,hl⟩:=id I.loc;have hcls:(X.env.scope.kind == .class || (X.env.scope.kind == .module && X.env.locals != X.env.globals))=false:=by rw[I.ok.kind];rfl
 have hiσ:i<Wi σ:=by rw[I.len];exact(SL.mp hi).1
 have cne:=I.cne
 have tracked:∀{a:Addr} {h':Heap},(∃o,s.heap.get? a=some o/\H a=none)->Xg a s.heap h'->HOk X.prog X.w H h':=λ{a h'} ha hs b ob e=>by
  obtain⟨_,_,hfree⟩:=ha;refine(I.hok b ob e).stay (λc w' hc q=>(hs.2 c ?_).trans q) (λ_ q=>q) λ_ _ q=>q
  rintro rfl;rcases hc with rfl|hc
  .rw[hfree] at e;cases e
  .rw[hfree] at hc;cases hc
 rcases hx with hk|hk
 .refine wpAny_storeName_local hk hn (λh' hn' hs=>?_) hcls;obtain⟨oL,_,_,hoL,_⟩:=id hn;refine h _ ⟨I.ok,I.os,I.bare,⟨λb o e n hb hx=>?_,λb o e n hb hx=>?_,I.base.free,λb o e hx=>?_,I.base.tups,I.base.frzs,I.base.tbls⟩,⟨_,hn',λj y v' e1 e2 e3=>?_⟩,λy c e=>?_,I.free,I.freeC,λp hp=>?_,tracked ⟨oL,hoL,I.free⟩ hs,by simpa using I.len⟩ ⟨_,hs,.inl rfl⟩
  .exact(hs.2 b (T0 (Ts (Tz e) I.ok.above))).trans (I.base.keep b o e n hb hx)
  .obtain⟨sl,e1⟩:=I.base.slot b o e n hb hx;exact⟨sl,(hs.2 b (T0 (Ts (Tz e) I.ok.above))).trans e1⟩
  .obtain⟨o',e1⟩:=I.base.there b o e hx;exact⟨o',(hs.2 b (T0 (Ts (Tz e) I.ok.above))).trans e1⟩
  .by_cases hj:j=i
   .subst hj;rw[hi] at e1;cases e1;rw[WJ hiσ] at e2;cases e2;exact⟨u,r,.inl ⟨hk,by simp⟩⟩
   .rw[W7 (XN hj)] at e2;obtain⟨u',r',q⟩:=hl j y v' e1 e2 e3;refine⟨u',r',?_⟩;rcases q with⟨k,e⟩|⟨k,c,e,z⟩
    .refine .inl ⟨k,?_⟩
     have:y≠x:=λe=>hj (qH hN e1 (e ▸ hi))
     simp[this,e]
    .exact .inr ⟨k,c,e,z.sameBut hs (cne y c e)⟩
  .obtain⟨w',z⟩:=I.cell y c e;exact⟨w',z.sameBut hs (cne y c e)⟩
  .obtain⟨e,n,ne,nf,d⟩:=I.pin p hp;exact⟨(hs.2 p.1 ne).trans e,n,ne,nf,d⟩
 .have hfn:X.fn x=true:=by
   rcases hf with z|z
   .exact z
   .rw[z] at hk;cases hk
  obtain⟨c,hc⟩:=I.ok.has x (.inl hk);obtain⟨w',z⟩:=I.cell x c hc;refine wpAny_storeName_cell I.ok.kind hk hc z (λh' hc' hs=>?_);obtain⟨oc,hoc,hocd⟩:=id z;refine h {s with heap:=h'} ⟨I.ok,I.os,I.bare,⟨λb o e n hb hx=>?_,λb o e n hb hx=>?_,I.base.free,λb o e hx=>?_,I.base.tups,I.base.frzs,I.base.tbls⟩,⟨m,hn.sameBut hs (XN (cne x c hc)),λj y v' e1 e2 e3=>?_⟩,λy c' e=>?_,I.free,I.freeC,λp hp=>?_,tracked ⟨oc,hoc,I.freeC x c hc⟩ hs,by simpa using I.len⟩ ⟨c,hs,.inr hc⟩
  .exact(hs.2 b (T0 (Ts (Tz e) (I.ok.cab x c hfn hc)))).trans (I.base.keep b o e n hb hx)
  .obtain⟨sl,e1⟩:=I.base.slot b o e n hb hx;exact⟨sl,(hs.2 b (T0 (Ts (Tz e) (I.ok.cab x c hfn hc)))).trans e1⟩
  .obtain⟨o',e1⟩:=I.base.there b o e hx;exact⟨o',(hs.2 b (T0 (Ts (Tz e) (I.ok.cab x c hfn hc)))).trans e1⟩
  .by_cases hj:j=i
   .subst hj;rw[hi] at e1;cases e1;rw[WJ hiσ] at e2;cases e2;exact⟨u,r,.inr ⟨.inl hk,c,hc,hc'⟩⟩
   .rw[W7 (XN hj)] at e2;obtain⟨u',r',q⟩:=hl j y v' e1 e2 e3;refine⟨u',r',?_⟩;rcases q with q|⟨k,c',e,z'⟩
    .exact .inl q
    .refine .inr ⟨k,c',e,z'.sameBut hs ?_⟩;rintro rfl;exact hj (qH hN e1 (I.ok.inj _ _ _ e hc ▸ hi))
  .by_cases hcc:c'=c
   .subst hcc;exact⟨_,hc'⟩
   .obtain⟨w2,z2⟩:=I.cell y c' e;exact⟨w2,z2.sameBut hs hcc⟩
  .obtain⟨e,n,ne,nf,d⟩:=I.pin p hp;refine⟨(hs.2 p.1 ?_).trans e,n,ne,nf,d⟩;intro q;rw[q,hoc] at e;have q':oc=p.2:=TH e;exact d w' (by rw[<- q'];exact hocd)
def j3{i:Nat}{x:Str}{Q:Unit->SZ->Prop}(I:Inv X ξ σ H s)(hN:X.N.Nodup)(hi:X.N[i]?=some x)(hx:Loc X.env.scope x)(r:RelV v u)
  (h:∀s',Inv X ξ (σ.set i (some v)) H s'->Q () s') (hf:X.fn x=true\/X.env.scope.names.lookup x=some .local:=by first|exact .inl rfl|exact .inr rfl|assumption):wpAny M A (storeName X.env x u) Q E s :=
 sw I hN hi hx r (λs' I' _=>h s' I') hf
def Inv.call'{s':SZ}(I:Inv X ξ σ H s)(ho:s'.os=s.os)(u:Un (Bu X.stack) ch H H' s.heap s'.heap)(hok:HOk X.prog X.w H' s'.heap)(hg:YX s'.gens)
  (hch:∀b∈ch,(b∈X.ex\/X.s₀.heap.objs.size<=b)/\b≠X.env.locals/\(∀x c,X.env.cells.lookup x=some c->c≠b)/\∀p∈X.pn++ξ,p.1≠b):Inv X ξ σ H' s':=by
 obtain⟨h',g',d',t',o'⟩:=s';have e:o'=s.os:=ho;subst e;exact I.call (g':=g') (t':=t') (d':=d') u hok hg hch
end
nonrec def XK:=SW->Option Addr->Hp->Prop
nonrec def St:=List (Option V)
nonrec def VK:=V->Hp->Prop
nonrec def TE:=St->Hp->VK->Prop
nonrec def TT:=St->Hp->(Bool->Hp->Prop)->Prop
nonrec def TA:=St->Hp->(List V->Hp->Prop)->Prop
structure ca where
 nx:St->Hp->Prop
 rt:VK
 bk:St->Hp->Prop:=λ_ _=>False
 ct:St->Hp->Prop:=λ_ _=>False
nonrec def TS:=ca->St->Hp->Prop
abbrev EP(X:Cx)(ξ:List (Addr×Obj))(σ:St)(Q:VK)(u:SW)(s':SZ):Prop:=∃v H',Inv X ξ σ H' s'/\RelV v u/\Q v H'
abbrev TP(X:Cx)(ξ:List (Addr×Obj))(σ:St)(Q:Bool->Hp->Prop)(b:Bool)(s':SZ):Prop:=∃H',Inv X ξ σ H' s'/\Q b H'
abbrev AP(X:Cx)(ξ:List (Addr×Obj))(σ:St)(Q:List V->Hp->Prop)(us:List SW)(s':SZ):Prop:=∃vs H',Inv X ξ σ H' s'/\Vals vs us/\Q vs H'
abbrev SP(X:Cx)(ξ:List (Addr×Obj))(D:ca)(f:Flow)(s':SZ):Prop :=
 match f with
 |.next=>∃σ' H',Inv X ξ σ' H' s'/\D.nx σ' H'
 |.brk=>∃σ' H',Inv X ξ σ' H' s'/\D.bk σ' H'
 |.cont=>∃σ' H',Inv X ξ σ' H' s'/\D.ct σ' H'
 |.ret u=>∃v σ' H',Inv X ξ σ' H' s'/\RelV v u/\D.rt v H'
abbrev PE(X:Cx)(e:Expr)(t:TE):Prop :=
 ∀(ξ:List (Addr×Obj)) (s:SZ) (σ:St) (H:Hp) (Q:VK),Inv X ξ σ H s->t σ H Q->wpAny (model X.prog X.w) X.A (eval e X.env) (EP X ξ σ Q) X.xe s
abbrev PT(X:Cx)(e:Expr)(t:TT):Prop :=
 ∀(ξ:List (Addr×Obj)) (s:SZ) (σ:St) (H:Hp) (Q:Bool->Hp->Prop),Inv X ξ σ H s->t σ H Q->wpAny (model X.prog X.w) X.A (isTrue e X.env (eval e X.env)) (TP X ξ σ Q) X.xe s
abbrev PW(X:Cx)(e:Expr)(t:TT):Prop :=
 ∀(whole:Sem SW) (ξ:List (Addr×Obj)) (s:SZ) (σ:St) (H:Hp) (Q:Bool->Hp->Prop),Inv X ξ σ H s->t σ H Q->wpAny (model X.prog X.w) X.A (isTrue e X.env whole) (TP X ξ σ Q) X.xe s
def PW.pt(h:PW X e t):PT X e t:=h _
abbrev PA(X:Cx)(es:List Expr)(t:TA):Prop :=
 ∀(pos:Pos) (ξ:List (Addr×Obj)) (s:SZ) (σ:St) (H:Hp) (Q:List V->Hp->Prop),Inv X ξ σ H s->t σ H Q->wpAny (model X.prog X.w) X.A (spliced (backTo pos (starEach es X.env))) (AP X ξ σ Q) X.xe s
abbrev PS(X:Cx)(st:Stmt)(t:TS):Prop :=
 ∀(ξ:List (Addr×Obj)) (s:SZ) (σ:St) (H:Hp) (D:ca),Inv X ξ σ H s->t D σ H->wpAny (model X.prog X.w) X.A (exec st X.env) (SP X ξ D) X.xe s
abbrev PSs(X:Cx)(st:List Stmt)(t:TS):Prop :=
 ∀(ξ:List (Addr×Obj)) (s:SZ) (σ:St) (H:Hp) (D:ca),Inv X ξ σ H s->t D σ H->wpAny (model X.prog X.w) X.A (execs st X.env) (SP X ξ D) X.xe s
def bg{α:Type}{t:Sem α}{Q Q':α->SZ->Prop}(h:wpAny M A t Q E s)(hQ:∀a s,Q a s->Q' a s):wpAny M A t Q' E s:=Vu h hQ λ_ _ x=>x
section
variable{X:Cx}
abbrev aa(i:Nat):TE:=λσ H Q=>∃v,σ[i]?=some (some v)/\Q v H
abbrev tC(v:V):TE:=λ_ H Q=>Q v H
def N1{i:Nat} {x:Str} {pos:Pos} (hN:X.N[i]?=some x) (hv:Qo X.env.scope x) (hd:(x == ("__debug__":Str))=false:=by decide) (hcd:(x == ("__classdict__":Str))=false:=by decide):PE X (.Name x pos) (aa i):=by
 intro ξ s σ H Q I h;obtain⟨v,e,h⟩:=h;obtain⟨m,hn,hl⟩:=I.loc;obtain⟨u,r,l⟩:=hl i x v hN e hv;have fin:EP X ξ σ Q u s:=⟨v,H,I,r,h⟩
 rcases l with⟨hk,hm⟩|⟨hk,c,hc,hcell⟩
 .exact wpAny_Name (wpAny_loadName_local I.ok.kind hk hn hm fin) hd
 .rcases hk with hk|hk
  .exact wpAny_Name (wpAny_loadName_cell I.ok.kind hk hc hcell fin) hd
  .exact wpAny_Name (wpAny_loadName_free I.ok.kind hk hc hcell fin hcd) hd
def N_{i j pos}:PE X (.Constant (.int i) j pos) (tC (.int i)):=λ_ _ _ H _ I h=>wpAny_Constant_int ⟨.int i,H,I.tok _,⟨_,rfl⟩,h⟩
def Ea{b j pos}:PE X (.Constant (.bool b) j pos) (tC (.bl b)):=λ_ _ _ H _ I h=>Constant_bool ⟨.bl b,H,I,rfl,h⟩
def tG{j pos}:PE X (.Constant .none j pos) (tC .non):=λ_ _ _ H _ I h=>Constant_none ⟨.non,H,I,rfl,h⟩
def N3{x j pos}:PE X (.Constant (.str x) j pos) (tC (.str x)):=λ_ _ _ H _ I h=>Calls.Constant_str ⟨.str x,H,I.tok _,⟨_,rfl⟩,h⟩
abbrev Gl(X:Cx)(x:Str):Prop:=X.env.kindOf x=some .globalImplicit
def xo{H:Hp}{u:SW}{pos:Pos}{Q:SW->SZ->Prop}(I:Inv X ξ σ H s)(hg:Gl X x)(hm:X.mg x=some u)(h:Q u s)
  (hd:(x == ("__debug__":Str))=false:=by decide):wpAny (model X.prog X.w) X.A (eval (.Name x pos) X.env) Q E s :=
 YC I.ok.kind hg (Calls.loadGlobal_global (by rw[I.ok.glob];exact I.mod.glob.keeps I.bk) hm h) hd
def dD{H:Hp}{u:SW}{pos:Pos}{Q:SW->SZ->Prop}(I:Inv X ξ σ H s)(hg:Gl X x)(hm:X.mg x=none)(hv:bootBuiltins x=some u)(h:Q u s)
  (hn:x≠"__name__":=by decide) (hd:(x == ("__debug__":Str))=false:=by decide):wpAny (model X.prog X.w) X.A (eval (.Name x pos) X.env) Q E s:=by
 obtain⟨mb,h1,h2⟩:=I.mod.blt;exact YC I.ok.kind hg (Calls.loadGlobal_builtin (by rw[I.ok.glob];exact I.mod.glob.keeps I.bk) hm (by rw[I.ok.blt];exact h1.keeps I.bk) ((h2 x hn).trans hv) h) hd
def D_{u:SW} {pos:Pos} (hg:Gl X x) (hm:X.mg x=some u) (r:RelV v u) (hd:(x == ("__debug__":Str))=false:=by decide):PE X (.Name x pos) (tC v) :=
 λ_ _ _ H _ I h=>xo I hg hm ⟨v,H,I,r,h⟩ hd
def aY{u:SW} {pos:Pos} (hg:Gl X x) (hm:X.mg x=none) (hv:bootBuiltins x=some u) (r:RelV v u) (hn:x≠"__name__":=by decide) (hd:(x == ("__debug__":Str))=false:=by decide):PE X (.Name x pos) (tC v) :=
 λ_ _ _ H _ I h=>dD I hg hm hv ⟨v,H,I,r,h⟩ hn hd
variable{a b:Expr}{ta tb:TE}{pos:Pos}
abbrev tB(t:TE):TT:=λσ H Q=>t σ H λx H1=>∃c,x=.bl c/\Q c H1
def eU(h:PE X e t)(he:∀whole,isTrue e X.env whole=(do let v <- whole;standAt e.pos;holding [v] (truthy v)):=by intro _;rfl):PT X e (tB t):=by
 intro ξ s σ H Q I hw;refine isTrue_plain (bg (h ξ s σ H _ I hw) λv s1 ω=>?_) (he _);obtain⟨x,H1,I1,r1,q1⟩:=ω;obtain⟨d,rfl,q⟩:=q1;cases r1;exact Vc ⟨H1,I1,q⟩
variable{tA tB':TT}{rest:List Expr}
abbrev pR(t u:TT):TT:=λσ H Q=>t σ H λc H1=>if c=true then u σ H1 Q else Q false H1
abbrev Ac(t u:TT):TT:=λσ H Q=>t σ H λc H1=>if c=true then Q true H1 else u σ H1 Q
abbrev dN(t:TT):TT:=λσ H Q=>t σ H λc H1=>Q (!c) H1
def pw_and1(ha:PT X a tA):PW X (.BoolOp .And [a] pos) tA:=by
 intro wh ξ s σ H Q I h;refine isTrue_and (bg (ha ξ s σ H Q I h) λc s1 e=>?_);cases c with
 |true=>exact isTrue_and_nil e
 |false=>exact e
def pw_or1(ha:PT X a tA):PW X (.BoolOp .Or [a] pos) tA:=by
 intro wh ξ s σ H Q I h;refine isTrue_or (bg (ha ξ s σ H Q I h) λc s1 e=>?_);cases c with
 |false=>exact isTrue_or_nil e
 |true=>exact e
def pw_and(ha:PT X a tA)(hb:PW X (.BoolOp .And (b :: rest) pos) tB'):PW X (.BoolOp .And (a :: b :: rest) pos) (pR tA tB'):=by
 intro wh ξ s σ H Q I h;refine isTrue_and (bg (ha ξ s σ H _ I h) λc s1 ω=>?_);obtain⟨H1,I1,q1⟩:=ω;cases c with
 |true=>exact hb wh ξ s1 σ H1 Q I1 q1
 |false=>exact⟨H1,I1,q1⟩
def pw_or(ha:PT X a tA)(hb:PW X (.BoolOp .Or (b :: rest) pos) tB'):PW X (.BoolOp .Or (a :: b :: rest) pos) (Ac tA tB'):=by
 intro wh ξ s σ H Q I h;refine isTrue_or (bg (ha ξ s σ H _ I h) λc s1 ω=>?_);obtain⟨H1,I1,q1⟩:=ω;cases c with
 |true=>exact⟨H1,I1,q1⟩
 |false=>exact hb wh ξ s1 σ H1 Q I1 q1
def Jx(ha:PT X a tA):PT X (.UnaryOp .Not a pos) (dN tA):=by
 intro ξ s σ H Q I h;exact isTrue_not (ha ξ s σ H (λc H1=>Q (!c) H1) I h)
abbrev mY(ta tb:TE):TE:=λσ H Q=>ta σ H λx H1=>∃c,x=.bl c/\if c=true then tb σ H1 Q else Q (.bl false) H1
abbrev CB(ta tb:TE):TE:=λσ H Q=>ta σ H λx H1=>∃c,x=.bl c/\if c=true then Q (.bl true) H1 else tb σ H1 Q
abbrev Ae(ta:TE):TE:=λσ H Q=>ta σ H λx H1=>∃c,x=.bl c/\Q (.bl (!c)) H1
def ia{op}(h:PE X a t):PE X (.BoolOp op [a] pos) t:=λξ s σ H Q I hw=>BoolOp_one (h ξ s σ H Q I hw)
def fJ(ha:PE X a ta)(hb:PE X (.BoolOp .And (b :: rest) pos) tb):PE X (.BoolOp .And (a :: b :: rest) pos) (mY ta tb):=by
 intro ξ s σ H Q I h;refine BoolOp_and (bg (ha ξ s σ H _ I h) λv s1 ω=>?_);obtain⟨x,H1,I1,r1,q1⟩:=ω;obtain⟨c,rfl,q1⟩:=q1;cases r1;refine Vc ?_;cases c with
 |true=>exact hb ξ s1 σ H1 Q I1 q1
 |false=>exact⟨.bl false,H1,I1,rfl,q1⟩
def QN(ha:PE X a ta)(hb:PE X (.BoolOp .Or (b :: rest) pos) tb):PE X (.BoolOp .Or (a :: b :: rest) pos) (CB ta tb):=by
 intro ξ s σ H Q I h;refine BoolOp_or (bg (ha ξ s σ H _ I h) λv s1 ω=>?_);obtain⟨x,H1,I1,r1,q1⟩:=ω;obtain⟨c,rfl,q1⟩:=q1;cases r1;refine Vc ?_;cases c with
 |false=>exact hb ξ s1 σ H1 Q I1 q1
 |true=>exact⟨.bl true,H1,I1,rfl,q1⟩
def D9(ha:PE X a ta):PE X (.UnaryOp .Not a pos) (Ae ta):=by
 intro ξ s σ H Q I h;refine UnaryOp_ (bg (ha ξ s σ H _ I h) λv s1 ω=>?_);obtain⟨x,H1,I1,r1,q1⟩:=ω;obtain⟨c,rfl,q1⟩:=q1;cases r1;exact not_of (Vc ⟨.bl (!c),H1,I1,rfl,q1⟩)
abbrev M_(t:TT)(ta tb:TE):TE:=λσ H Q=>t σ H λc H1=>if c=true then ta σ H1 Q else tb σ H1 Q
def HK(hc:PT X c tA)(ha:PE X a ta)(hb:PE X b tb):PE X (.IfExp c a b pos) (M_ tA ta tb):=by
 intro ξ s σ H Q I h;refine wpAny_IfExp (bg (hc ξ s σ H _ I h) λd s1 ω=>?_);obtain⟨H1,I1,q1⟩:=ω;cases d with
 |true=>exact ha ξ s1 σ H1 Q I1 q1
 |false=>exact hb ξ s1 σ H1 Q I1 q1
end
abbrev SqL(K:Fg)(H:Hp)(a:Addr)(xs:List V):Prop :=
 Rd H a (.lst xs) \/
  ∃(o:Obj) (ab:Array SW) (n:Nat),K.lookup a=some o/\o.cls=.type "list"/\o.dict=none/\o.data=.seq ab n/\ab.size<=sizeLine/\Vals xs ab.toList
abbrev SqT(K:Fg)(H:Hp)(a:Addr)(xs:List V):Prop :=
 Rd H a (.tup xs) \/
  ∃(o:Obj) (ab:Array SW) (n:Nat),K.lookup a=some o/\o.cls=.type "tuple"/\o.data=.seq ab n/\ab.size<=sizeLine/\Vals xs ab.toList
abbrev R6:SW->Option V
 |.none=>some .non
 |.bool b=>some (.bl b)
 |.int i _=>↥i
 |.str x _=>some (.str x)
 |.bytes b _=>some (.byt b)
 |.float b _=>some (.flt b)
 |.ref a=>⇑a
 |.type n=>some (.ty n)
 |_=>none
def RelV.abs(r:RelV x u):R6 u=some x:=by
 cases x with
 |non=>cases r;rfl
 |bl _=>cases r;rfl
 |int _=>obtain⟨t,rfl⟩:=r;rfl
 |str _=>obtain⟨t,rfl⟩:=r;rfl
 |byt _=>obtain⟨t,rfl⟩:=r;rfl
 |flt _=>obtain⟨t,rfl⟩:=r;rfl
 |ref _=>cases r;rfl
 |ty _=>cases r;rfl
def RelV.inj(r:RelV x u)(q:RelV y u):x=y:=TH (r.abs.symm.trans q.abs)
def Vals.inj:∀{xs ys:List V} {us:List SW},Vals xs us->Vals ys us->xs=ys
 |_,_,_,.nil,.nil=>rfl
 |_,_,_,.cons r t,.cons r' t'=>by rw[r.inj r',Vals.inj t t']
section
variable{X:Cx}{ξ:List (Addr×Obj)}{σ:St}{H:Hp}{s:SZ}{a:Addr}{xs ys:List V}
def SqL.of{K:Fg}(h:H a=some (.lst xs)):SqL K H a xs:=.inl (.inl h)
def SqT.of{K:Fg}(h:H a=some (.tup xs)):SqT K H a xs:=.inl (.inl h)
def Inv.list(I:Inv X ξ σ H s)(h:SqL X.K H a xs):∃ab:List SW,Vals xs ab/\PlainL s.heap a ab.toArray/\xs.length<=sizeLine:=by
 rcases h with h|⟨o,ab,n,hk,hc,hd,hs,hz,r⟩
 .obtain⟨z,ab,n,r,e⟩:=h.ok I.hok;exact⟨ab,r,⟨_,n,e,rfl,rfl,rfl⟩,z⟩
 .refine⟨ab.toList,r,⟨o,n,I.kIn a o hk,hc,hd,by simpa using hs⟩,?_⟩;have e:=r.length;simp only[Uv] at e;lia
def Inv.tuple(I:Inv X ξ σ H s)(h:SqT X.K H a xs):∃ab:List SW,Vals xs ab/\IsTup s.heap a ab.toArray/\xs.length<=sizeLine:=by
 rcases h with h|⟨o,ab,n,hk,hc,hs,hz,r⟩
 .obtain⟨z,ab,r,p⟩:=h.ok I.hok;exact⟨ab,r,p.tup,z⟩
 .refine⟨ab.toList,r,⟨o,I.kIn a o hk,hc,n,by simpa using hs⟩,?_⟩;have e:=r.length;simp only[Uv] at e;lia
def Inv.qN(I:Inv X ξ σ H s)(h:SqL X.K H a xs)(h':SqL X.K H a ys):xs=ys:=by
 obtain⟨ab,r,⟨o,n,e,_,_,d⟩,_⟩:=I.list h;obtain⟨its',r',⟨o',n',e',_,_,d'⟩,_⟩:=I.list h';rw[e] at e';cases e';rw[d] at d';injection d' with d1 _
 have:ab=its':=by simpa using congrArg Array.toList d1
 subst this;exact r.inj r'
def Inv.kq(I:Inv X ξ σ H s)(h:SqT X.K H a xs)(h':SqT X.K H a ys):xs=ys:=by
 obtain⟨ab,r,⟨o,e,_,n,d⟩,_⟩:=I.tuple h;obtain⟨its',r',⟨o',e',_,n',d'⟩,_⟩:=I.tuple h';rw[e] at e';cases e';rw[d] at d';injection d' with d1 _
 have:ab=its':=by simpa using congrArg Array.toList d1
 subst this;exact r.inj r'
end
nonrec def Cx.wish(X:Cx)(E:SW->SZ->Prop):Cx:={X with xe:=E}
nonrec def Cx.nox(X:Cx):Cx:=X.wish λ_ _=>False
def Cx.Ok.wish{X:Cx}(ok:X.Ok)(E:SW->SZ->Prop):(X.wish E).Ok :=
 ⟨ok.mod,ok.kind,ok.glob,ok.blt,ok.above,ok.inj,ok.has,ok.cab,ok.hd,ok.frames,ok.stk,ok.exf,ok.bs,ok.bsz,ok.noex,ok.exfs,ok.funs,ok.frf⟩
def Cx.Ok.jv{X:Cx}(ok:(X.wish E).Ok):X.Ok :=
 ⟨ok.mod,ok.kind,ok.glob,ok.blt,ok.above,ok.inj,ok.has,ok.cab,ok.hd,ok.frames,ok.stk,ok.exf,ok.bs,ok.bsz,ok.noex,ok.exfs,ok.funs,ok.frf⟩
section
variable{X:Cx}{ξ:List (Addr×Obj)}{σ:St}{H:Hp}{s:SZ}{E:SW->SZ->Prop}
def Inv.wish(I:Inv X ξ σ H s)(E:SW->SZ->Prop):Inv (X.wish E) ξ σ H s:=⟨I.ok.wish E,I.os,I.bare,I.base,I.loc,I.cell,I.free,I.freeC,I.pin,I.hok,I.len⟩
def Inv.jv(I:Inv (X.wish E) ξ σ H s):Inv X ξ σ H s:=⟨I.ok.jv,I.os,I.bare,I.base,I.loc,I.cell,I.free,I.freeC,I.pin,I.hok,I.len⟩
def SP.jv{D:ca}(h:SP (X.wish E) ξ D f s'):SP X ξ D f s':=by
 cases f with
 |next=>obtain⟨σ',H',I,q⟩:=h;exact⟨σ',H',I.jv,q⟩
 |brk=>obtain⟨σ',H',I,q⟩:=h;exact⟨σ',H',I.jv,q⟩
 |cont=>obtain⟨σ',H',I,q⟩:=h;exact⟨σ',H',I.jv,q⟩
 |ret u=>obtain⟨v,σ',H',I,r,q⟩:=h;exact⟨v,σ',H',I.jv,r,q⟩
def PSs.nox{st:List Stmt}(h:PSs X.nox st t):PSs X st t:=λξ s σ H D I hw =>
 Vu (h ξ s σ H D (I.wish _) hw) (λ_ _ q=>q.jv) λ_ _ z=>WK z
end
section
variable{X:Cx}{st:Stmt}{rest:List Stmt}{t u:TS}{e:Expr}{te:TE}{pos:Pos}
abbrev aP:TS:=λD σ H=>D.nx σ H
abbrev ak(t u:TS):TS:=λD σ H=>t {D with nx:=u D} σ H
def cT:PSs X [] aP:=λ_ _ σ H _ I h=>Yn ⟨σ,H,I,h⟩
def b6(h1:PS X st t)(h2:PSs X rest u):PSs X (st :: rest) (ak t u):=by
 intro ξ s σ H D I h;refine wpAny_execs_cons (bg (h1 ξ s σ H {D with nx:=u D} I h) λf s1 q=>?_);cases f with
 |next =>
  obtain⟨σ',H',I',q⟩:=q;exact h2 ξ s1 σ' H' D I' q
 |ret v=>exact q
 |brk=>exact q
 |cont=>exact q
def cm(h1:PS X st t):PSs X [st] t:=by
 intro ξ s σ H D I h;refine wpAny_execs_cons (bg (h1 ξ s σ H D I h) λf s1 q=>?_);cases f with
 |next=>exact Yn q
 |ret v=>exact q
 |brk=>exact q
 |cont=>exact q
def Inv.quiet{H:Hp}(I:Inv X ξ σ H s):interactive X.env=false:=by simp[interactive,I.ok.kind]
abbrev bV(te:TE):TS:=λD σ H=>te σ H λ_ H1=>D.nx σ H1
def Lg(he:PE X e te)(hs:swapsWith e none pos.line X.env=pure false:=by rfl):PS X (.Expr e pos) (bV te):=by
 intro ξ s σ H D I h;exact wpAny_Expr_any (bg (he ξ s σ H _ I h) (by rintro v s1 ⟨x,H1,I1,r1,q1⟩;exact ⟨σ,H1,I1,q1⟩)) I.quiet hs
abbrev aC(te:TE):TS:=λD σ H=>te σ H D.rt
def d9(he:PE X e te):PS X (.Return (some e) pos) (aC te):=by
 intro ξ s σ H D I h;exact wpAny_Return_some (bg (he ξ s σ H _ I h) (by rintro v s1 ⟨x,H1,I1,r1,q1⟩;exact ⟨x,σ,H1,I1,r1,q1⟩))
abbrev aM(c:TT)(t u:TS):TS:=λD σ H=>c σ H λb H1=>if b=true then t D σ H1 else u D σ H1
def jO(hc:PT X c tc)(ha:PSs X a t)(hb:PSs X b u):PS X (.If c a b pos) (aM tc t u):=by
 intro ξ s σ H D I h;refine wpAny_If (bg (hc ξ s σ H _ I h) λd s1 ω=>?_);obtain⟨H1,I1,q1⟩:=ω;cases d with
 |true=>exact ha ξ s1 σ H1 D I1 q1
 |false=>exact hb ξ s1 σ H1 D I1 q1
abbrev cW:TS:=λ_ _ _=>False
def tE:PSs X sts cW:=λ_ _ _ _ _ _ h=>h.elim
end
nonrec def TG:=V->St->Hp->(St->Hp->Prop)->Prop
nonrec def Jc:=List V->St->Hp->(St->Hp->Prop)->Prop
abbrev PG(X:Cx)(target:Expr)(t:TG):Prop :=
 ∀(ξ:List (Addr×Obj)) (s:SZ) (σ:St) (H:Hp) (v:V) (u:SW) (Q:St->Hp->Prop),Inv X ξ σ H s->RelV v u->t v σ H Q ->
  wpAny (model X.prog X.w) X.A (assign target X.env u) (λ_ s'=>∃σ' H',Inv X ξ σ' H' s'/\Q σ' H') X.xe s
abbrev MY(X:Cx)(ts:List Expr)(t:Jc):Prop :=
 ∀(ξ:List (Addr×Obj)) (s:SZ) (σ:St) (H:Hp) (vs:List V) (us:List SW) (Q:St->Hp->Prop),Inv X ξ σ H s->Vals vs us->t vs σ H Q ->
  wpAny (model X.prog X.w) X.A (assignInOrder ((assignEach ts X.env).map (·.2)) us) (λ_ s'=>∃σ' H',Inv X ξ σ' H' s'/\Q σ' H') X.xe s
nonrec def Jb:=V->V->V->Hp->(Hp->Prop)->Prop
abbrev Qb(X:Cx)(t:Jb):Prop :=
 ∀(ξ:List (Addr×Obj)) (s:SZ) (σ:St) (H:Hp) (o i v:V) (ov iv u:SW) (Q:Hp->Prop),Inv X ξ σ H s->RelV o ov->RelV i iv->RelV v u->t o i v H Q ->
  wpAny (model X.prog X.w) X.A (setItem ov iv u) (λ_ s'=>∃H',Inv X ξ σ H' s'/\Q H') X.xe s
section
variable{X:Cx}{pos:Pos}
abbrev aj(i:Nat):TG:=λv σ H Q=>Q (σ.set i (some v)) H
def wM{i:Nat}{x:Str}(hN:X.N.Nodup)(hi:X.N[i]?=some x)(hx:Loc X.env.scope x)(hf:X.fn x=true\/X.env.scope.names.lookup x=some .local:=by first|exact .inl rfl|exact .inr rfl|assumption):PG X (.Name x pos) (aj i):=by
 intro ξ s σ H v u Q I r h;exact wpAny_assign_Name (j3 I hN hi hx r (λs' I'=>⟨_,H,I',h⟩) hf)
abbrev b4:Jc:=λvs σ H Q=>vs=[]/\Q σ H
abbrev aR(t:TG)(u:Jc):Jc:=λvs σ H Q=>∃v r,vs=v :: r/\t v σ H λσ' H'=>u r σ' H' Q
def Lq:MY X [] b4:=by
 intro ξ s σ H vs us Q I r h;obtain⟨e,h⟩:=h;subst e;cases r;exact assignInOrder_nil ⟨σ,H,I,h⟩
def HH(h1:PG X e t)(h2:MY X es u)
  (hs:(assignEach (e :: es) X.env).map (·.2)=assign e X.env :: (assignEach es X.env).map (·.2):=by rfl):MY X (e :: es) (aR t u):=by
 intro ξ s σ H vs us Q I r h;obtain⟨v,vr,e1,h⟩:=h;subst e1;cases r with
 |cons r rr =>
  rw[hs];refine YD (bg (h1 ξ s σ H _ _ _ I r h) λ_ s1 ω=>?_);obtain⟨σ1,H1,I1,q1⟩:=ω;exact h2 ξ s1 σ1 H1 _ _ Q I1 rr q1
abbrev bZ(K:Fg)(n:Nat)(t:Jc):TG:=λv σ H Q=>∃a xs,v=.ref a/\SqT K H a xs/\xs.length=n/\t xs σ H Q
def NY{n:Nat}(hc:X.calm=true)(h:MY X es t)
  (hn:(assignEach es X.env).length=n:=by rfl) (hst:(assignEach es X.env).findIdx? (·.1)=none:=by rfl):PG X (.Tuple es k pos) (bZ X.K n t):=by
 intro ξ s σ H v u Q I r hw;obtain⟨a,xs,e1,hq,hl,hw⟩:=hw;subst e1;cases r;obtain⟨ab,rv,ht,hz⟩:=I.tuple hq;refine assign_Tuple_tuple (I.ok.hd hc) ht (by simp[hn,<- hl,rv.length]) hst λh' hx=>?_
 have I1:Inv X ξ σ H {s with heap:=h'}:=I.kept (t':=s.toks) λb o e=>hx b o (T0 (Tz e)) e
 exact h ξ _ σ H xs _ Q I1 (by simpa using rv) hw
abbrev IG(to ti:TE)(t:Jb):TG:=λv σ H Q=>to σ H λo H1=>ti σ H1 λi H2=>t o i v H2 λH3=>Q σ H3
def NZ(ho:PE X o to)(hi:PE X i ti)(hs:Qb X t)
  (ha:∀v,assign (.Subscript o i pos) X.env v=(do
   let ov <- holding [v] (eval o X.env)
   let iv <- holding [v,ov] (eval i X.env)
   standAt pos
   holding [v,ov,iv] (setItem ov iv v)
   release [v,ov,iv] []):=by intro _;rfl):PG X (.Subscript o i pos) (IG to ti t):=by
 intro ξ s σ H v u Q I r h;rw[ha];refine SQ (Vi (bg (ho ξ s σ H _ I h) λov s1 ω=>?_));obtain⟨x,H1,I1,r1,q1⟩:=ω;refine SQ (Vi (bg (hi ξ s1 σ H1 _ I1 q1) λiv s2 ω=>?_));obtain⟨y,H2,I2,r2,q2⟩:=ω;refine SQ (Y6 (SQ (Vi (bg (hs ξ s2 σ H2 x y v ov iv u _ I2 r1 r2 r q2) λ_ s3 ω=>?_))));obtain⟨H3,I3,q3⟩:=ω;exact wpAny_release ⟨σ,H3,I3,q3⟩
abbrev aA(te:TE)(g:TG):TS:=λD σ H=>te σ H λx H1=>g x σ H1 D.nx
def NS(he:PE X e te)(hg:PG X tg g)(hs:swapsWithSole [tg] e pos.line X.env=pure false:=by rfl)(hw:swappedStores [tg] e X.env=pure none:=by rfl)
  (h1:(assignEach [tg] X.env).map (·.2)=[assign tg X.env]:=by rfl):PS X (.Assign [tg] e pos) (aA te g):=by
 intro ξ s σ H D I h;refine wpAny_Assign_stores (bg (he ξ s σ H _ I h) λv s1 ω=>?_) hs hw;obtain⟨x,H1,I1,r1,q1⟩:=ω;rw[h1];exact bg (hg ξ s1 σ H1 x v _ I1 r1 q1) λ_ s2 q=>q
def NM{i:Nat}{x:Str}(hN:X.N.Nodup)(hi:X.N[i]?=some x)(hx:Loc X.env.scope x)(he:PE X e te)(hs:swapsWith e (some (.Name x pos')) pos.line X.env=pure false:=by rfl)(hf:X.fn x=true\/X.env.scope.names.lookup x=some .local:=by first|exact .inl rfl|exact .inr rfl|assumption) :
  PS X (.Assign [.Name x pos'] e pos) (aA te (aj i)):=by
 intro ξ s σ H D I h;refine wpAny_Assign_Name (bg (he ξ s σ H _ I h) λv s1 ω=>?_) hs;obtain⟨y,H1,I1,r1,q1⟩:=ω;exact j3 I1 hN hi hx r1 (λs2 I2=>⟨_,H1,I2,q1⟩) hf
abbrev M9(i j:Nat)(ta:TA):TS:=λD σ H=>ta σ H λvs H1=>∃v w,vs=[v,w]/\D.nx ((σ.set i (some v)).set j (some w)) H1
def NO{i j:Nat}{x y:Str}{a b:Expr}{ta:TA}{pt:Pos}{kt k2 pt2}(hc:X.calm=true)(hN:X.N.Nodup)(hi:X.N[i]?=some x)(hj:X.N[j]?=some y)(hij:i≠j)
  (hx:X.env.scope.names.lookup x=some .local) (hy:X.env.scope.names.lookup y=some .local) (ha:PA X [a,b] ta)
  (hw:swappedStores [.Tuple [.Name x px,.Name y py] kt pt] (.Tuple [a,b] k2 pt2) X.env=pure (some [x,y]))
  (hs:swapsWithSole [.Tuple [.Name x px,.Name y py] kt pt] (.Tuple [a,b] k2 pt2) pos.line X.env=pure false:=by rfl) :
  PS X (.Assign [.Tuple [.Name x px,.Name y py] kt pt] (.Tuple [a,b] k2 pt2) pos) (M9 i j ta):=by
 intro ξ s σ H D I h;rw[exec_Assign_arm];refine SQ (Y6 ?_);rw[hs];refine SQ (Td ?_);rw[if_neg (by decide)];refine SQ (Tuple_ (bg (ha _ ξ s σ H _ I h) λus s1 ω=>?_));obtain⟨vs,H1,I1,r1,q1⟩:=ω;obtain⟨v,w,e1,q1⟩:=q1;subst e1
 obtain⟨u1,u2,rfl,rv,rw'⟩:∃u1 u2,us=[u1,u2]/\RelV v u1/\RelV w u2:=by
  cases r1 with
  |cons p q =>
   cases q with
   |cons p' q' =>
    cases q';exact⟨_,_,rfl,p,p'⟩
 refine Uy ?_ (by show 2<=sizeLine;decide);have I2:Inv X ξ σ H1 {s1 with heap:=s1.heap.push {cls:=.type "tuple",data:=.seq [u1,u2].toArray}}:=I1.kept (t':=s1.toks) λb o e=>SY _ e
 rw[hw];refine SQ (Td ?_);show wpAny (model X.prog X.w) X.A (do rule "assign.swapped-stores";let items <- unpackItems (.ref s1.heap.objs.size) 2 none;assignInOrder [λv=>bindName X.env y v,λv=>bindName X.env x v] items.reverse;pure Flow.next) _ _ _;refine SQ (ZaU (SQ (unpackItems_tuple (items:=#[u1,u2]) (I.ok.hd hc) (IsTup.new s1.heap _) λh' hx'=>?_)));have I3:=I2.kept (h':=h') (t':=s1.toks) λb o e=>hx' b o (T0 (Tz e)) e
 show wpAny _ _ (assignInOrder [λv=>bindName X.env y v,λv=>bindName X.env x v] [u2,u1] >>= λ_=>pure Flow.next) _ _ _;refine SQ (YD (wpAny_bindName (j3 I3 hN hj (.inl hy) rw' (λs2 I4=>?_) (.inr hy))));refine YD (wpAny_bindName (j3 I4 hN hi (.inl hx) rv (λs3 I5=>assignInOrder_nil (Td ?_)) (.inr hx)));rw[List.set_comm _ _ (XN hij)] at I5;exact⟨_,H1,I5,q1⟩
end
section
variable{X:Cx}{pos:Pos}
abbrev kG(c:TT)(tb:TS):TS:=λD σ H=>∃W:Nat->St->Hp->Prop,(∃m,W m σ H)/\∀m σ H,W m σ H ->
 c σ H λb H1=>if b=true then ∃N:St->Hp->Prop,(∀σ' H',N σ' H'->∃m',m'<m/\W m' σ' H')/\tb {D with nx:=N,ct:=N,bk:=D.nx} σ H1 else D.nx σ H1
def HD(hp:PassesOwn (model X.prog X.w) X.A X.env X.xe)(hc:PT X c tc)(hb:PSs X body tb):PS X (.While c body [] pos) (kG tc tb):=by
 intro ξ s σ H D I h;obtain⟨W,⟨m0,w0⟩,turn⟩:=h;refine wpAny_While (codeAny_whileLoop (λn s'=>∃σ' H',Inv X ξ σ' H' s'/\W n σ' H') ?_ m0 ⟨σ,H,I,w0⟩);rintro n s1 ⟨σ1,H1,I1,w1⟩;refine Wf hp (bg (hc ξ s1 σ1 H1 _ I1 (turn n σ1 H1 w1)) λb s2 ω=>?_);obtain⟨H2,I2,q2⟩:=ω;cases b with
 |true =>
  obtain⟨N,hN,q2⟩:=q2;rw[if_pos rfl];refine Wf hp (bg (hb ξ s2 σ1 H2 _ I2 q2) λf s3 q3=>?_);cases f with
  |next =>
   obtain⟨σ3,H3,I3,n3⟩:=q3;obtain⟨m',hm,w3⟩:=hN σ3 H3 n3;exact⟨m',hm,σ3,H3,I3,w3⟩
  |cont =>
   obtain⟨σ3,H3,I3,n3⟩:=q3;obtain⟨m',hm,w3⟩:=hN σ3 H3 n3;exact⟨m',hm,σ3,H3,I3,w3⟩
  |brk=>exact q3
  |ret v=>exact q3
 |false =>
  rw[if_neg Th];exact Yn ⟨σ1,H2,I2,q2⟩
end
structure It where
 go:Nat->Hp->Prop
 yld:Nat->Hp->V->Hp->Prop
 stop:Nat->Hp->Prop
abbrev jq(X:Cx)(ξ:List (Addr×Obj))(H:Hp)(b:Addr):Prop :=
 H b=none/\b≠X.env.locals/\b∉X.fs/\(b∈X.ex\/X.s₀.heap.objs.size<=b)/\(∀x c,X.env.cells.lookup x=some c->c≠b)/\∀p∈X.pn++ξ,p.1≠b
def Inv.fpOk{H H':Hp}{b:Addr}(I:Inv X ξ σ H s)(hb:s.heap.objs.size<=b)(hn:H' b=none):jq X ξ H' b:=by
 refine⟨hn,Yv (Ts I.lt hb),I.nofs hb,.inr (TQ I.sz hb),λx c e z=>?_,λp hp z=>?_⟩
 .obtain⟨v,q⟩:=I.cell x c e;exact absurd (Ts q.lt (by rw[z];exact hb)) (V1 _)
 .exact absurd (Ts (Tz (I.pin p hp).1) (by rw[z];exact hb)) (V1 _)
structure rN (P:T9) (w:Uk) (K:Fg) (tg:Expr) (J:It) (fp:List Addr) (it:Addr) (tn:Nat->Heap->Prop):Prop where
 mem:it∈fp
 obj:∀i h,tn i h->∀b∈fp,∃o,h.get? b=some o/\∀v,o.data≠.cell v
 keep:∀i h h',tn i h->(∀b∈fp,∀o,h.get? b=some o->h'.get? b=some o)->tn i h'
 item:∀(X:Cx),X.prog=P->X.w=w->X.K=K->X.calm=true->∀(i:Nat) (ξ:List (Addr×Obj)) (s:SZ) (σ:St) (H:Hp) (E:SW->SZ->Prop),Inv X ξ σ H s->(∀b∈fp,jq X ξ H b)->tn i s.heap->J.go i H ->
  wpAny (model P w) X.A (pyNext (.ref it)) (λr s1=>∃u,r=some u /\
   wpAny (model P w) X.A (letOwnedTupleGo tg (.ref it) u) (λ_ s2=>∃x H',Inv X ξ σ H' s2/\RelV x u/\J.yld i H x H'/\tn (i+1) s2.heap/\∀b∈fp,H' b=none) E s1) E s
 done:∀(X:Cx),X.prog=P->X.w=w->X.K=K->X.calm=true->∀(i:Nat) (ξ:List (Addr×Obj)) (s:SZ) (σ:St) (H:Hp) (E:SW->SZ->Prop),Inv X ξ σ H s->(∀b∈fp,jq X ξ H b)->tn i s.heap->J.stop i H ->
  wpAny (model P w) X.A (pyNext (.ref it)) (λr s1=>r=none/\Inv X ξ σ H s1) E s
 self:∀(A:Ud) (i:Nat) (s:SZ) (Q:SW->SZ->Prop) (E:SW->SZ->Prop),tn i s.heap->Q (.ref it) s->wpAny (model P w) A (pyIter (.ref it)) Q E s
nonrec def TI:=St->Hp->(It->Hp->Prop)->Prop
abbrev R8(X:Cx)(ξ:List (Addr×Obj))(σ:St)(tg:Expr)(R:It->Hp->Prop)(itv:SW)(s2:SZ):Prop :=
 ∃(it:Addr) (fp:List Addr) (tn:Nat->Heap->Prop) (J:It) (H':Hp),itv=.ref it/\Inv X ξ σ H' s2/\rN X.prog X.w X.K tg J fp it tn/\tn 0 s2.heap/\(∀b∈fp,jq X ξ H' b)/\R J H'
abbrev PI(X:Cx)(tg iter:Expr)(wi:TI):Prop :=
 ∀(ξ:List (Addr×Obj)) (s:SZ) (σ:St) (H:Hp) (R:It->Hp->Prop),Inv X ξ σ H s->wi σ H R ->
  wpAny (model X.prog X.w) X.A (eval iter X.env) (λv s1=>wpAny (model X.prog X.w) X.A (pyIter v) (R8 X ξ σ tg R) X.xe s1) X.xe s
def ID{E:SW->SZ->Prop} {s:SZ}  {it:Addr}  {o:Obj}   {Q:Unit->SZ->Prop} (ho:s.heap.get? it=some o) (hc:o.cls=.type n) (hd:o.data=.fields vs)
    (hn:["enumerate", "zip", "dict_itemiterator", "dict_reverseitemiterator", "odict_iterator", "itertools.zip_longest", "itertools.pairwise"].contains n=false) (hQ:Q () s):wpAny M A (letOwnedTupleGo tg (.ref it) u) Q E s := by
  unfold letOwnedTupleGo
  cases tg <;> first
    |exact Td hQ
    | (cases u <;> first
        |exact Td hQ
        | (refine SQ (wpAny_load ho ?_)
           rw[hc, hd]
           show wpAny M A (if (["enumerate", "zip", "dict_itemiterator", "dict_reverseitemiterator", "odict_iterator", "itertools.zip_longest", "itertools.pairwise"].contains n && vs[0]? == some (rawInt _))=true then _ else _) Q E s
           rw[if_neg (by intro h; rw[hn, Zb8] at h; cases h)]
           exact Td hQ))
abbrev uT(K:Fg)(a:Addr):It :=
 ⟨λi H=>∃xs x,SqL K H a xs/\xs[i]?=some x,λi H x H'=>H'=H/\∀xs,SqL K H a xs->xs[i]?=some x,λi H=>∃xs,SqL K H a xs/\xs.length<=i⟩
abbrev vf(K:Fg)(a:Addr):It :=
 ⟨λi H=>∃xs x,SqT K H a xs/\xs[i]?=some x,λi H x H'=>H'=H/\∀xs,SqT K H a xs->xs[i]?=some x,λi H=>∃xs,SqT K H a xs/\xs.length<=i⟩
abbrev rT(lo:Int)(n:Nat):It:=⟨λi _=>i<n,λi H x H'=>H'=H/\x=.int (lo+i),λi _=>n<=i⟩
def r9{K:Fg}(a it:Addr):rN P w K tg (uT K a) [it] it (λi h=>h.IsListIter it a i) where
 mem:=by simp
 obj:=λi h st b hb=>by
  have e:b=it:=by simpa using hb
  subst e;obtain⟨o,e,c,d⟩:=st;exact⟨o,e,λv z=>by rw[d] at z;cases z⟩
 keep:=λi h h' st k=>st.at λo e=>k it (by simp) o e
 item:=by
  intro X hP hw hK hc i ξ s σ H E I hf st hg;subst hP hw hK;obtain⟨xs,x,hq,hx⟩:=hg;obtain⟨ab,rv,p,hz⟩:=I.list hq;obtain⟨u,hu,ru⟩:=rv.get hx;obtain⟨f0,f1,f2,f3,f4,f5⟩:=hf it (by simp);refine wpAny_pyNext_list_item st p.isList (x:=u) (by simpa using hu) λh' st' sb=>?_
  have I1:Inv X ξ σ H {s with heap:=h'}:=I.turned (t':=s.toks) (λb o hb e=>(sb.2 b hb).trans e) f0 f1 f3 f4 f5;obtain⟨o,e,c,d⟩:=id st';exact⟨u,rfl,ID (s:={s with heap:=h'}) e c d (by decide) ⟨x,H,I1,ru,⟨rfl,λys hy=>by rw[I.qN hy hq];exact hx⟩,st',λb hb=>(hf b hb).1⟩⟩
 done:=by
  intro X hP hw hK hc i ξ s σ H E I hf st hg;subst hP hw hK;obtain⟨xs,hq,hx⟩:=hg;obtain⟨ab,rv,p,hz⟩:=I.list hq;obtain⟨f0,f1,f2,f3,f4,f5⟩:=hf it (by simp);have hl:=rv.length;exact wpAny_pyNext_list_end (I.ok.hd hc) st p.isList (by simp;lia) λh' eb=>⟨rfl,I.turned (t':=s.toks) (λb o hb e=>eb b o hb e) f0 f1 f3 f4 f5⟩
 self:=λ_ _ _ _ _ st h=>wpAny_pyIter_listiter st h
def nY{K:Fg}(a it:Addr):rN P w K tg (vf K a) [it] it (λi h=>h.IsTupleIter it a i) where
 mem:=by simp
 obj:=λi h st b hb=>by
  have e:b=it:=by simpa using hb
  subst e;obtain⟨o,e,c,d⟩:=st;exact⟨o,e,λv z=>by rw[d] at z;cases z⟩
 keep:=λi h h' st k=>st.at λo e=>k it (by simp) o e
 item:=by
  intro X hP hw hK hc i ξ s σ H E I hf st hg;subst hP hw hK;obtain⟨xs,x,hq,hx⟩:=hg;obtain⟨ab,rv,p,hz⟩:=I.tuple hq;obtain⟨u,hu,ru⟩:=rv.get hx;obtain⟨f0,f1,f2,f3,f4,f5⟩:=hf it (by simp);refine wpAny_pyNext_tuple_item st (show s.heap.IsTuple a ab.toArray from p) (x:=u) (by simpa using hu) λh' st' sb=>?_
  have I1:Inv X ξ σ H {s with heap:=h'}:=I.turned (t':=s.toks) (λb o hb e=>(sb.2 b hb).trans e) f0 f1 f3 f4 f5;obtain⟨o,e,c,d⟩:=id st';exact⟨u,rfl,ID (s:={s with heap:=h'}) e c d (by decide) ⟨x,H,I1,ru,⟨rfl,λys hy=>by rw[I.kq hy hq];exact hx⟩,st',λb hb=>(hf b hb).1⟩⟩
 done:=by
  intro X hP hw hK hc i ξ s σ H E I hf st hg;subst hP hw hK;obtain⟨xs,hq,hx⟩:=hg;obtain⟨ab,rv,p,hz⟩:=I.tuple hq;obtain⟨f0,f1,f2,f3,f4,f5⟩:=hf it (by simp);have hl:=rv.length;exact wpAny_pyNext_tuple_end (I.ok.hd hc) st (show s.heap.IsTuple a ab.toArray from p) (by simp;lia) λh' eb=>⟨rfl,I.turned (t':=s.toks) (λb o hb e=>eb b o hb e) f0 f1 f3 f4 f5⟩
 self:=λ_ _ _ _ _ st h=>wpAny_pyIter_tupleiter st h
def zI{K:Fg}(it:Addr)(lo:Int)(n:Nat):rN P w K tg (rT lo n) [it] it (λi h=>IsRangeIter h it (lo+(i:Nat)*1) ((n:Int)-(i:Nat)) 1) where
 mem:=by simp
 obj:=λi h st b hb=>by
  have e:b=it:=by simpa using hb
  subst e
  exact⟨_,st,λv z=>by
   have z':Zab _=Zk v:=z
   cases z'⟩
 keep:=λi h h' st k=>k it (by simp) _ st
 item:=by
  intro X hP hw hK hc i ξ s σ H E I hf st hg;subst hP hw hK;obtain⟨f0,f1,f2,f3,f4,f5⟩:=hf it (by simp);have W:=Walks.range (prog:=X.prog) (w:=X.w) (I.ok.hd hc) it lo 1 n;refine W.item i s _ _ hg st λv h' tk hv st' kk=>?_
  obtain⟨t,rfl⟩:=hv;have I1:Inv X ξ σ H {s with heap:=h',toks:=tk}:=I.turned (λb o hb e=>kk b o (by simpa using hb) e) f0 f1 f3 f4 f5;refine⟨_,rfl,ID (s:={s with heap:=h',toks:=tk}) (n:="range_iterator") st' rfl rfl (by decide) ⟨.int (lo+i),H,I1,⟨t,?_⟩,⟨rfl,rfl⟩,st',λb hb=>(hf b hb).1⟩⟩;rw[ZbL]
 done:=by
  intro X hP hw hK hc i ξ s σ H E I hf st hg;subst hP hw hK;obtain⟨f0,f1,f2,f3,f4,f5⟩:=hf it (by simp);exact wpAny_pyNext_range_end (I.ok.hd hc) st (by have:n<=i:=hg;lia) λh' eb=>⟨rfl,I.turned (t':=s.toks) (λb o hb e=>eb b o hb e) f0 f1 f3 f4 f5⟩
 self:=λ_ _ _ _ _ st h=>wpAny_pyIter_rangeiter st h
section
variable{X:Cx}{tg:Expr}
abbrev dB(K:Fg)(tl:TE):TI:=λσ H R=>tl σ H λx H1=>∃a,x=.ref a/\(∃xs,SqL K H1 a xs)/\R (uT K a) H1
abbrev gi(K:Fg)(tl:TE):TI:=λσ H R=>tl σ H λx H1=>∃a,x=.ref a/\(∃xs,SqT K H1 a xs)/\R (vf K a) H1
def Ln(hl:PE X l tl):PI X tg l (dB X.K tl):=by
 intro ξ s σ H R I h;refine bg (hl ξ s σ H _ I h) λv s1 ω=>?_;obtain⟨x,H1,I1,r1,q1⟩:=ω
 obtain⟨a,e,⟨xs,hq⟩,q⟩:=q1;subst e;cases r1;obtain⟨ab,rv,p,hz⟩:=I1.list hq;refine XO p.isList ?_;refine⟨s1.heap.objs.size,[s1.heap.objs.size],_,_,H1,rfl,I1.kept (t':=s1.toks) λb o e=>SY _ e,r9 a _,⟨_,Tx _ rfl,rfl,rfl⟩,λb hb=>?_,q⟩;have e:b=s1.heap.objs.size:=by simpa using hb
 subst e;exact I1.fpOk (SR _) (I1.hok.fresh (SR _))
def NV(hl:PE X l tl):PI X tg l (gi X.K tl):=by
 intro ξ s σ H R I h;refine bg (hl ξ s σ H _ I h) λv s1 ω=>?_;obtain⟨x,H1,I1,r1,q1⟩:=ω
 obtain⟨a,e,⟨xs,hq⟩,q⟩:=q1;subst e;cases r1;obtain⟨ab,rv,p,hz⟩:=I1.tuple hq;refine WL (show s1.heap.IsTuple a ab.toArray from p) ?_;refine⟨s1.heap.objs.size,[s1.heap.objs.size],_,_,H1,rfl,I1.kept (t':=s1.toks) λb o e=>SY _ e,nY a _,⟨_,Tx _ rfl,rfl,rfl⟩,λb hb=>?_,q⟩;have e:b=s1.heap.objs.size:=by simpa using hb
 subst e;exact I1.fpOk (SR _) (I1.hok.fresh (SR _))
def yr{H:Hp}{R:It->Hp->Prop}{lo hi:Int}{t u v:Tok}{tk:Nat}(I:Inv X ξ σ H s)(h1 : -(2 ^ 62)<=lo)(h2:lo<2 ^ 62)(h3 : -(2 ^ 62)<=hi)(h4:hi<2 ^ 62)
  (q:R (rT lo (hi-lo).toNat) H):wpAny (model X.prog X.w) X.A (pyIter (.ref s.heap.objs.size)) (R8 X ξ σ tg R) E {s with heap:=s.heap.push {cls:=.type "range",data:=.fields #[.int lo t,.int hi u,.int 1 v]},toks:=tk}:=by
 refine wpAny_pyIter_range (IsRange.new ..) (small_one h1 h2 h3 h4) ?_;have I1:Inv X ξ σ H {s with heap:=s.heap.push {cls:=.type "range",data:=.fields #[.int lo t,.int hi u,.int 1 v]},toks:=tk}:=I.kept λb o e=>SY _ e
 refine⟨(s.heap.push {cls:=.type "range",data:=.fields #[.int lo t,.int hi u,.int 1 v]}).objs.size,[(s.heap.push {cls:=.type "range",data:=.fields #[.int lo t,.int hi u,.int 1 v]}).objs.size],_,_,H,rfl,
  I1.kept (t':=tk) λb o e=>SY _ e,zI _ lo (hi-lo).toNat,?_,λb hb=>?_,q⟩
 .have e1:lo+((0:Nat):Int)*1=lo:=by simp
  have e2:(((hi-lo).toNat:Nat):Int)-((0:Nat):Int)=Xe.Range.rangeSize lo hi 1:=by rw[rangeSize_one];split <;> lia
  show IsRangeIter _ _ (lo+((0:Nat):Int)*1) ((((hi-lo).toNat:Nat):Int)-((0:Nat):Int)) 1;rw[e1,e2];exact Tx _ rfl
 .have e:b=(s.heap.push {cls:=.type "range",data:=.fields #[.int lo t,.int hi u,.int 1 v]}).objs.size:=by simpa using hb
  subst e;exact I1.fpOk (SR _) (I1.hok.fresh (SR _))
abbrev fe(ta:TA):TI:=λσ H R=>ta σ H λvs H1=>∃j:Int,vs=[.int j]/\-(2 ^ 62)<=j/\j<2 ^ 62/\R (rT 0 j.toNat) H1
abbrev Mn(ta:TA):TI:=λσ H R=>ta σ H λvs H1=>∃i j:Int,vs=[.int i,.int j]/\(-(2 ^ 62)<=i/\i<2 ^ 62/\-(2 ^ 62)<=j/\j<2 ^ 62)/\R (rT i (j-i).toNat) H1
def tF{a:Expr} {ta:TA} {p pos:Pos} (hg:Gl X "range") (hm:X.mg "range"=none) (ha:PA X [a] ta) (hs:starEach [a] X.env=[(false,eval a X.env)]:=by rfl):PI X tg (.Call (.Name "range" p) [a] [] pos) (fe ta):=by
 intro ξ s σ H R I h;refine Call_ (dD I hg hm boot_range (Uh (bg (ha pos ξ s σ H _ I h) λus s1 ω=>?_) hs rfl));obtain⟨vs,H1,I1,r1,q1⟩:=ω;obtain⟨j,e,q1,q2,q⟩:=q1;subst e;cases r1 with
 |cons r rr =>
  cases rr;obtain⟨t,rfl⟩:=r;exact call_range_1 (yr I1 ∅ ∅ q1 q2 (by simpa using q))
def D8{a b:Expr} {ta:TA} {p pos:Pos} (hg:Gl X "range") (hm:X.mg "range"=none) (ha:PA X [a,b] ta) (hs:starEach [a,b] X.env=[(false,eval a X.env),(false,eval b X.env)]:=by rfl) (hs2:starEach [b] X.env=[(false,eval b X.env)]:=by rfl) :
  PI X tg (.Call (.Name "range" p) [a,b] [] pos) (Mn ta):=by
 intro ξ s σ H R I h;refine Call_ (dD I hg hm boot_range (Uh (bg (ha pos ξ s σ H _ I h) λus s1 ω=>?_) (by rw[hs,hs2]) (by rw[hs2];rfl)));obtain⟨vs,H1,I1,r1,q1⟩:=ω;obtain⟨i,j,e,⟨q1,q2,q3,q4⟩,q⟩:=q1;subst e;cases r1 with
 |cons r rr =>
  cases rr with
  |cons r' rr =>
   cases rr;obtain⟨t,rfl⟩:=r;obtain⟨t',rfl⟩:=r';exact call_range_2 (yr I1 q1 q2 q3 q4 q)
abbrev bS(wi:TI)(g:TG)(tb:TS):TS:=λD σ H=>wi σ H λJ H1=>∃W:Nat->Nat->St->Hp->Prop,(∃m,W 0 m σ H1)/\∀i m σ H,W i m σ H ->
 (J.stop i H/\D.nx σ H)\/(J.go i H/\∃N:St->Hp->Prop,(∀σ' H',N σ' H'->∃m',m'<m/\W (i+1) m' σ' H')/\∀x H',J.yld i H x H'->g x σ H' λσ2 H2=>tb {D with nx:=N,ct:=N,bk:=D.nx} σ2 H2)
abbrev yE(fp:List Addr)(h:Heap):List (Addr×Obj):=fp.filterMap λb=>(h.get? b).map λo=>(b,o)
def df{fp:List Addr}{h:Heap}{b:Addr}{o:Obj}(hb:b∈fp)(e:h.get? b=some o):(b,o)∈yE fp h:=V6.mpr ⟨b,hb,by rw[e];rfl⟩
def Et{fp:List Addr}{p:Addr×Obj}(hp:p∈yE fp h):p.1∈fp/\h.get? p.1=some p.2:=by
 obtain⟨b,hb,e⟩:=V6.mp hp;cases q:h.get? b with
 |none=>rw[q] at e;cases e
 |some o =>
  rw[q] at e;have e':(b,o)=p:=TH e;subst e';exact⟨hb,q⟩
def Inv.pinned{H:Hp}{fp:List Addr}(I:Inv X ξ σ H s)(hf:∀b∈fp,jq X ξ H b)(ho:∀b∈fp,∃o,s.heap.get? b=some o/\∀v,o.data≠.cell v):Inv X (ξ++yE fp s.heap) σ H s :=
 I.D6 λp hp=>(Tv.mp hp).elim (λz=>I.pin p (TJ _ z)) λz=>by
  obtain⟨hb,e⟩:=Et z;obtain⟨f0,f1,f2,_⟩:=hf p.1 hb;obtain⟨o,e',d⟩:=ho p.1 hb;rw[e] at e';cases e';exact⟨e,f0,f1,f2,d⟩
def Inv.g5{ξ pl:List (Addr×Obj)}{H:Hp}(I:Inv X (ξ++pl) σ H s):Inv X ξ σ H s:=I.D6 λp hp=>I.pin p (TJ _ (UB _ hp))
def Jy{iter:Expr}{pos:Pos}(hp:PassesOwn (model X.prog X.w) X.A X.env X.xe)(hc:X.calm=true)(hi:PI X tg iter wi)(hg:PG X tg g)(hb:PSs X body tb)
  (hs:∀x,foldedSetIterable iter X.env x=pure x:=by intro _;rfl):PS X (.For tg iter body [] pos) (bS wi g tb):=by
 intro ξ s σ H D I h;refine wpAny_For (bg (hi ξ s σ H _ I h) λv s1 h1=>bg h1 λitv s2 h2=>?_) hs;obtain⟨it,fp,tn,J,H2,e,I2,T,st2,f2,W,⟨m0,w0⟩,turn⟩:=h2;subst e;have stat:∀{H':Hp},(∀b∈fp,H' b=none)->∀b∈fp,jq X ξ H' b:=λhn b hb=>⟨hn b hb,(f2 b hb).2⟩
 refine codeAny_forLoop_any (λn s'=>∃i σ' H',Inv X ξ σ' H' s'/\tn i s'.heap/\(∀b∈fp,H' b=none)/\W i n σ' H') ?_ m0 ⟨0,σ,H2,I2,st2,λb hb=>(f2 b hb).1,w0⟩;rintro n s3 ⟨i,σ3,H3,I3,st3,fr3,w3⟩;rcases turn i n σ3 H3 w3 with⟨stop,qn⟩|⟨go,N,hN,step⟩
 .refine Wf hp (bg (T.done X rfl rfl rfl hc i ξ s3 σ3 H3 X.xe I3 (stat fr3) st3 stop) λr s4 ω=>?_);obtain⟨hr,I4⟩:=ω;subst hr;exact Yn ⟨σ3,H3,I4,qn⟩
 .refine Wf hp (bg (T.item X rfl rfl rfl hc i ξ s3 σ3 H3 X.xe I3 (stat fr3) st3 go) λr s4 ω=>?_);obtain⟨u,hr,h4⟩:=ω;subst hr;refine Wf hp (bg h4 λ_ s5 ω=>?_);obtain⟨x,H5,I5,r5,y5,st5,fr5⟩:=ω;have I5':=I5.pinned (stat fr5) (T.obj _ _ st5);refine Wf hp (bg (hg _ s5 σ3 H5 x u _ I5' r5 (step x H5 y5)) λ_ s6 ω=>?_);obtain⟨σ6,H6,I6,q6⟩:=ω;refine Wf hp (bg (hb _ s6 σ6 H6 _ I6 q6) λf s7 q7=>?_)
  have again:∀{σ7:St} {H7:Hp},Inv X (ξ++yE fp s5.heap) σ7 H7 s7->N σ7 H7->∃m,m<n/\∃i σ' H',Inv X ξ σ' H' s7/\tn i s7.heap/\(∀b∈fp,H' b=none)/\W i m σ' H':=λ{σ7 H7} I7 n7=>by
   obtain⟨m',hm,w7⟩:=hN σ7 H7 n7;refine⟨m',hm,i+1,σ7,H7,I7.g5,T.keep _ _ _ st5 λb hb o e=>(I7.pin (b,o) (TJ _ (TJ _ (df hb e)))).1,λb hb=>?_,w7⟩;obtain⟨o,e,d⟩:=T.obj _ _ st5 b hb;exact(I7.pin (b,o) (TJ _ (TJ _ (df hb e)))).2.1
  cases f with
  |next=>obtain⟨σ7,H7,I7,n7⟩:=q7;exact again I7 n7
  |cont=>obtain⟨σ7,H7,I7,n7⟩:=q7;exact again I7 n7
  |brk=>obtain⟨σ7,H7,I7,q7⟩:=q7;exact⟨σ7,H7,I7.g5,q7⟩
  |ret v=>obtain⟨x7,σ7,H7,I7,r7,q7⟩:=q7;exact⟨x7,σ7,H7,I7.g5,r7,q7⟩
end
def II{K:Fg}{xs:List V}{g:TG}{tb:TS}{D:ca}{H:Hp}(Pv:Nat->St->Hp->Prop)(h0:Pv 0 σ H)(hl:∀i σ H,i<=Wi xs->Pv i σ H->SqL K H a xs)
  (hs:∀i x σ H,xs[i]?=some x->Pv i σ H->g x σ H λσ2 H2=>tb {D with nx:=Pv (i+1),ct:=Pv (i+1),bk:=D.nx} σ2 H2) (hd:∀σ H,Pv (Wi xs) σ H->D.nx σ H) :
  ∃W:Nat->Nat->St->Hp->Prop,(∃m,W 0 m σ H)/\∀i m σ H,W i m σ H ->
   ((uT K a).stop i H/\D.nx σ H)\/((uT K a).go i H/\∃N:St->Hp->Prop,(∀σ' H',N σ' H'->∃m',m'<m/\W (i+1) m' σ' H')/\∀x H',(uT K a).yld i H x H'->g x σ H' λσ2 H2=>tb {D with nx:=N,ct:=N,bk:=D.nx} σ2 H2):=by
 refine⟨λi m σ H=>m=Wi xs-i/\i<=(Wi xs)/\Pv i σ H,⟨xs.length,by simp,T1 _,h0⟩,?_⟩;rintro i m σ H ⟨rfl,hi,p⟩;have q:=hl i σ H hi p;by_cases vt:i<Wi xs
 .refine .inr ⟨⟨xs,xs[i],q,by simp[vt]⟩,Pv (i+1),λσ' H' p'=>⟨(Wi xs)-(i+1),∅,rfl,vt,p'⟩,λx H' y=>?_⟩;obtain⟨e,y⟩:=y;subst e;exact hs i x σ _ (y xs q) p
 .have e:i=Wi xs:=by lia
  subst e;exact .inl ⟨⟨xs,q,SR _⟩,hd σ H p⟩
def Ms{K:Fg}{xs:List V}{g:TG}{tb:TS}{D:ca}{H:Hp}(Pv:Nat->St->Hp->Prop)(h0:Pv 0 σ H)(hl:∀i σ H,i<=Wi xs->Pv i σ H->SqT K H a xs)
  (hs:∀i x σ H,xs[i]?=some x->Pv i σ H->g x σ H λσ2 H2=>tb {D with nx:=Pv (i+1),ct:=Pv (i+1),bk:=D.nx} σ2 H2) (hd:∀σ H,Pv (Wi xs) σ H->D.nx σ H) :
  ∃W:Nat->Nat->St->Hp->Prop,(∃m,W 0 m σ H)/\∀i m σ H,W i m σ H ->
   ((vf K a).stop i H/\D.nx σ H)\/((vf K a).go i H/\∃N:St->Hp->Prop,(∀σ' H',N σ' H'->∃m',m'<m/\W (i+1) m' σ' H')/\∀x H',(vf K a).yld i H x H'->g x σ H' λσ2 H2=>tb {D with nx:=N,ct:=N,bk:=D.nx} σ2 H2):=by
 refine⟨λi m σ H=>m=Wi xs-i/\i<=(Wi xs)/\Pv i σ H,⟨xs.length,by simp,T1 _,h0⟩,?_⟩;rintro i m σ H ⟨rfl,hi,p⟩;have q:=hl i σ H hi p;by_cases vt:i<Wi xs
 .refine .inr ⟨⟨xs,xs[i],q,by simp[vt]⟩,Pv (i+1),λσ' H' p'=>⟨(Wi xs)-(i+1),∅,rfl,vt,p'⟩,λx H' y=>?_⟩;obtain⟨e,y⟩:=y;subst e;exact hs i x σ _ (y xs q) p
 .have e:i=Wi xs:=by lia
  subst e;exact .inl ⟨⟨xs,q,SR _⟩,hd σ H p⟩
def Fw{lo:Int}{n:Nat}{g:TG}{tb:TS}{D:ca}{H:Hp}(Pv:Nat->St->Hp->Prop)(h0:Pv 0 σ H)
  (hs:∀i σ H,i<n->Pv i σ H->g (.int (lo+i)) σ H λσ2 H2=>tb {D with nx:=Pv (i+1),ct:=Pv (i+1),bk:=D.nx} σ2 H2) (hd:∀σ H,Pv n σ H->D.nx σ H) :
  ∃W:Nat->Nat->St->Hp->Prop,(∃m,W 0 m σ H)/\∀i m σ H,W i m σ H ->
   ((rT lo n).stop i H/\D.nx σ H)\/((rT lo n).go i H/\∃N:St->Hp->Prop,(∀σ' H',N σ' H'->∃m',m'<m/\W (i+1) m' σ' H')/\∀x H',(rT lo n).yld i H x H'->g x σ H' λσ2 H2=>tb {D with nx:=N,ct:=N,bk:=D.nx} σ2 H2):=by
 refine⟨λi m σ H=>m=n-i/\i<=n/\Pv i σ H,⟨n,by simp,T1 _,h0⟩,?_⟩;rintro i m σ H ⟨rfl,hi,p⟩;by_cases vt:i<n
 .refine .inr ⟨vt,Pv (i+1),λσ' H' p'=>⟨n-(i+1),∅,rfl,vt,p'⟩,λx H' y=>?_⟩;obtain⟨e,y⟩:=y;subst e y;exact hs i σ _ vt p
 .have e:i=n:=by lia
  subst e;exact .inl ⟨SR _,hd σ H p⟩
def xV{c:TT}{tb:TS}{D:ca}{H:Hp}(Pv:St->Hp->Prop)(μ:St->Hp->Nat)(h0:Pv σ H)
  (hs:∀σ H,Pv σ H->c σ H λb H1=>if b=true then tb {D with nx:=λσ' H'=>Pv σ' H'/\μ σ' H'<μ σ H,ct:=λσ' H'=>Pv σ' H'/\μ σ' H'<μ σ H,bk:=D.nx} σ H1 else D.nx σ H1)
  (mono:∀σ H Q Q',(∀b H1,Q b H1->Q' b H1)->c σ H Q->c σ H Q'):kG c tb D σ H:=by
 refine⟨λm σ H=>m=μ σ H/\Pv σ H,⟨_,rfl,h0⟩,?_⟩;rintro m σ H ⟨rfl,p⟩;refine mono σ H _ _ (λb H1 q=>?_) (hs σ H p);cases b with
 |true=>exact⟨_,(by rintro σ' H' ⟨p',l⟩;exact ⟨_,l,rfl,p'⟩),q⟩
 |false=>exact q
nonrec def R2:=V->V->Hp->VK->Prop
abbrev fh(X:Cx)(f:SW->SW->Sem SW)(r:R2):Prop :=
 ∀(ξ:List (Addr×Obj)) (s:SZ) (σ:St) (H:Hp) (x y:V) (v u:SW) (Q:VK),Inv X ξ σ H s->RelV x v->RelV y u->r x y H Q ->
  wpAny (model X.prog X.w) X.A (f v u) (EP X ξ σ Q) X.xe s
abbrev Qq(X:Cx)(f:SW->Sem SW)(r:V->Hp->VK->Prop):Prop :=
 ∀(ξ:List (Addr×Obj)) (s:SZ) (σ:St) (H:Hp) (x:V) (v:SW) (Q:VK),Inv X ξ σ H s->RelV x v->r x H Q ->
  wpAny (model X.prog X.w) X.A (f v) (EP X ξ σ Q) X.xe s
abbrev fT(X:Cx)(f:SW)(r:List V->Hp->VK->Prop):Prop :=
 ∀(ξ:List (Addr×Obj)) (s:SZ) (σ:St) (H:Hp) (xs:List V) (us:List SW) (Q:VK),Inv X ξ σ H s->Vals xs us->r xs H Q ->
  wpAny (model X.prog X.w) X.A (call f us) (EP X ξ σ Q) X.xe s
abbrev ao(r:R2)(ta tb:TE):TE:=λσ H Q=>ta σ H λx H1=>tb σ H1 λy H2=>r x y H2 Q
abbrev Cz(r:V->Hp->VK->Prop)(ta:TE):TE:=λσ H Q=>ta σ H λx H1=>r x H1 Q
abbrev rI(C:Int->Int->Prop)(g:Int->Int->V):R2:=λx y H Q=>∃i j,x=.int i/\y=.int j/\C i j/\Q (g i j) H
abbrev wG(g:Int->Int->V):R2:=λx y H Q=>∃i j,x=.int i/\y=.int j/\Q (g i j) H
abbrev rU(g:Int->V):V->Hp->VK->Prop:=λx H Q=>∃i,x=.int i/\Q (g i) H
section
variable{X:Cx}{a b c:Expr}{ta tb tc:TE}{pos:Pos}
def MD(ha:PE X a ta)(hb:PE X b tb){H:Hp}{R:V->V->Hp->Prop}(I:Inv X ξ σ H s)
  (h:ta σ H λx H1=>tb σ H1 λy H2=>R x y H2)  {f:SW->SW->Sem SW}
  (hf:∀v u s2 x y H2,Inv X ξ σ H2 s2->RelV x v->RelV y u->R x y H2->wpAny (model X.prog X.w) X.A (f v u) Q X.xe s2) :
  wpAny (model X.prog X.w) X.A (eval a X.env) (λv s₁=>wpAny (model X.prog X.w) X.A (eval b X.env) (λu s₂=>wpAny (model X.prog X.w) X.A (f v u) Q X.xe s₂) X.xe s₁) X.xe s:=by
 refine bg (ha ξ s σ H _ I h) λv s1 ω=>?_;obtain⟨x,H1,I1,r1,q1⟩:=ω
 refine bg (hb ξ s1 σ H1 _ I1 q1) λu s2 ω=>?_;obtain⟨y,H2,I2,r2,q2⟩:=ω
 exact hf v u s2 x y H2 I2 r1 r2 q2
def QP(ho:fh X (binaryOp op) r)(ha:PE X a ta)(hb:PE X b tb):PE X (.BinOp a op b pos) (ao r ta tb):=by
 intro ξ s σ H Q I h;exact wpAny_BinOp (MD ha hb I h λv u s2 x y H2 I2 rx ry q=>ho ξ s2 σ H2 x y v u Q I2 rx ry q)
def QM(ho:Qq X (unaryOp op) r)(ha:PE X a ta):PE X (.UnaryOp op a pos) (Cz r ta):=by
 intro ξ s σ H Q I h;exact UnaryOp_ (bg (ha ξ s σ H _ I h) (by rintro v s1 ⟨x,H1,I1,r1,q1⟩;exact ho ξ s1 σ H1 x v Q I1 r1 q1))
def LF{f:SW->SW->Sem SW}{C:Int->Int->Prop}{g:Int->Int->Int}
  (rule:∀(i j:Int) (t u:Tok) (s:SZ) (Q:SW->SZ->Prop) (E:SW->SZ->Prop),C i j->Q (.int (g i j) s.toks) {s with toks:=s.toks+1}->wpAny (model X.prog X.w) X.A (f (.int i t) (.int j u)) Q E s) :
  fh X f (rI C λi j=>.int (g i j)):=by
 intro ξ s σ H x y v u Q I rx ry h;obtain⟨i,j,rfl,rfl,hc,q⟩:=h;obtain⟨t,rfl⟩:=rx;obtain⟨t',rfl⟩:=ry;exact rule i j t t' s _ _ hc ⟨.int (g i j),H,I.tok _,⟨_,rfl⟩,q⟩
def Oi{f:SW->SW->Sem SW}{g:Int->Int->Int}
  (rule:∀(i j:Int) (t u:Tok) (s:SZ) (Q:SW->SZ->Prop) (E:SW->SZ->Prop),Q (.int (g i j) s.toks) {s with toks:=s.toks+1}->wpAny (model X.prog X.w) X.A (f (.int i t) (.int j u)) Q E s) :
  fh X f (wG λi j=>.int (g i j)):=by
 intro ξ s σ H x y v u Q I rx ry h;obtain⟨i,j,rfl,rfl,q⟩:=h;obtain⟨t,rfl⟩:=rx;obtain⟨t',rfl⟩:=ry;exact rule i j t t' s _ _ ⟨.int (g i j),H,I.tok _,⟨_,rfl⟩,q⟩
def HV{f:SW->SW->Sem SW}{g:Int->Int->Bool}
  (rule:∀(i j:Int) (t u:Tok) (s:SZ) (Q:SW->SZ->Prop) (E:SW->SZ->Prop),Q (.bool (g i j)) s->wpAny (model X.prog X.w) X.A (f (.int i t) (.int j u)) Q E s) :
  fh X f (wG λi j=>.bl (g i j)):=by
 intro ξ s σ H x y v u Q I rx ry h;obtain⟨i,j,rfl,rfl,q⟩:=h;obtain⟨t,rfl⟩:=rx;obtain⟨t',rfl⟩:=ry;exact rule i j t t' s _ _ ⟨.bl (g i j),H,I,rfl,q⟩
abbrev MS(i j:Int):Prop:=0<j/\j<1073741824
abbrev Qi(i j:Int):Prop:=0<=j/\j<=1000000/\i.natAbs<2 ^ 64
abbrev CMul(i j:Int):Prop:=(-(2 ^ 64)<i/\i<2 ^ 64)\/(-(2 ^ 64)<j/\j<2 ^ 64)
def CMul.ok(h:CMul i j):IntMulOk i j:=by
 rcases h with⟨h1,h2⟩|⟨h1,h2⟩
 .exact .of_left (intBits_le_64 h1 h2)
 .exact .of_right (intBits_le_64 h1 h2)
def Oh:fh X (binaryOp .Add) (wG λi j=>.int (i+j)):=Oi λ_ _ _ _ _ _ _ q=>add_int q
def Oa:fh X (binaryOp .Sub) (wG λi j=>.int (i-j)):=Oi λ_ _ _ _ _ _ _ q=>sub_int q
def Od:fh X (binaryOp .Mult) (rI CMul λi j=>.int (i*j)):=LF λ_ _ _ _ _ _ _ hc q=>mul_int q hc.ok
def LC:fh X (binaryOp .FloorDiv) (rI MS λi j=>.int (i / j)):=LF λi j _ _ _ _ _ hc q=>by
 have h1:(0:Int)<j:=hc.1;have h2:j<1073741824:=hc.2;exact floordiv_int ∅ (by rw[Int.fdiv_eq_ediv_of_nonneg i ∅];exact q) (.inl (PyProof.noPylong_small ∅))
def Oe:fh X (binaryOp .Mod) (rI (λ_ j=>0<j) λi j=>.int (i % j)):=LF λi j _ _ _ _ _ hc q=>by
 have h1:(0:Int)<j:=hc;exact mod_int' ∅ (by rw[Int.fmod_eq_emod_of_nonneg i ∅];exact q)
def LB:fh X (binaryOp .Mod) (rI (λ_ j=>j≠0) λi j=>.int (i.fmod j)):=LF λ_ _ _ _ _ _ _ hc q=>mod_int' hc q
def Oc:fh X (binaryOp .Pow) (rI Qi λi j=>.int (i ^ j.toNat)):=LF λ_ _ _ _ _ _ _ hc q=>pow_int_small hc.1 hc.2.1 hc.2.2 q
def Sr{f:SW->Sem SW}{g:Int->Int}
  (rule:∀(i:Int) (t:Tok) (s:SZ) (Q:SW->SZ->Prop) (E:SW->SZ->Prop),Q (.int (g i) s.toks) {s with toks:=s.toks+1}->wpAny (model X.prog X.w) X.A (f (.int i t)) Q E s) :
  Qq X f (rU λi=>.int (g i)):=by
 intro ξ s σ H x v Q I rx h;obtain⟨i,rfl,q⟩:=h;obtain⟨t,rfl⟩:=rx;exact rule i t s _ _ ⟨.int (g i),H,I.tok _,⟨_,rfl⟩,q⟩
def M4:Qq X (unaryOp .USub) (rU λi=>.int (-i)):=Sr λ_ _ _ _ _ q=>neg_int q
end
abbrev Nm:V->V->Bool
 |.non,.non=>true|.non,.int _=>true|.int _,.non=>true|.non,.bl _=>true|.bl _,.non=>true|.non,.str _=>true|.str _,.non=>true
 |.int _,.int _=>true|.bl _,.bl _=>true|.str _,.str _=>true|.byt _,.byt _=>true
 |.int _,.str _=>true|.str _,.int _=>true|.bl _,.str _=>true|.str _,.bl _=>true
 |_,_=>false
abbrev fu:R2:=λx y H Q=>Nm x y=true/\Q (.bl (decide (x=y))) H
abbrev yu:R2:=λx y H Q=>Nm x y=true/\Q (.bl (!decide (x=y))) H
def FI:decide (V.int i=V.int j)=(i == j):=by
 rw[Xw];simp
def JZ:decide (V.bl i=V.bl j)=(i == j):=by
 rw[Xw];simp
def FH:decide (V.str i=V.str j)=(i == j):=by
 rw[Xw];simp
def FJ:decide (V.byt i=V.byt j)=(i.toList == j.toList):=by
 rw[Xw];cases i;cases j;simp
section
variable{X:Cx}{a b c:Expr}{ta tb tc:TE}{pos:Pos}
def a9{H:Hp}{Q:VK}{k':Bool}(I:Inv X ξ σ H s)(q:Q (.bl k) H)(e:k=k'):EP X ξ σ Q (.bool k') s:=by
 subst e;exact⟨.bl k,H,I,rfl,q⟩
def wQ:fh X (compareOp .Eq) fu:=by
 intro ξ s σ H x y v u Q I rx ry h;obtain⟨hs,q⟩:=h;cases x with
 |non =>
  cases rx;cases y with
  |non=>cases ry;exact PySem.EqNone.eq_none_none (a9 I q (by simp))
  |bl j=>cases ry;exact PySem.EqNone.eq_none_bool (a9 I q (by simp))
  |int j=>obtain⟨t',rfl⟩:=ry;exact PySem.EqNone.eq_none_int (a9 I q (by simp))
  |str j=>obtain⟨t',rfl⟩:=ry;exact PySem.EqNone.eq_none_str (a9 I q (by simp))
  |_=>exact absurd (show false=true from hs) Th
 |bl i =>
  cases rx;cases y with
  |non=>cases ry;exact PySem.EqNone.eq_bool_none (a9 I q (by simp))
  |bl j=>cases ry;exact eq_bool (a9 I q JZ)
  |str j=>obtain⟨t',rfl⟩:=ry;exact PySem.EqMixed.eq_bool_str (a9 I q (by simp))
  |_=>exact absurd (show false=true from hs) Th
 |int i =>
  obtain⟨t,rfl⟩:=rx;cases y with
  |non=>cases ry;exact PySem.EqNone.eq_int_none (a9 I q (by simp))
  |int j=>obtain⟨t',rfl⟩:=ry;exact eq_int (a9 I q FI)
  |str j=>obtain⟨t',rfl⟩:=ry;exact PySem.EqMixed.eq_int_str (a9 I q (by simp))
  |_=>exact absurd (show false=true from hs) Th
 |str i =>
  obtain⟨t,rfl⟩:=rx;cases y with
  |non=>cases ry;exact PySem.EqNone.eq_str_none (a9 I q (by simp))
  |bl j=>cases ry;exact PySem.EqMixed.eq_str_bool (a9 I q (by simp))
  |int j=>obtain⟨t',rfl⟩:=ry;exact PySem.EqMixed.eq_str_int (a9 I q (by simp))
  |str j=>obtain⟨t',rfl⟩:=ry;exact eq_str (a9 I q FH)
  |_=>exact absurd (show false=true from hs) Th
 |byt i =>
  obtain⟨t,rfl⟩:=rx;cases y with
  |byt j=>obtain⟨t',rfl⟩:=ry;exact PySem.W.eq_bytes (a9 I q FJ)
  |_=>exact absurd (show false=true from hs) Th
 |_=>cases y <;> exact absurd (show false=true from hs) Th
def HS:fh X (compareOp .NotEq) yu:=by
 intro ξ s σ H x y v u Q I rx ry h;obtain⟨hs,q⟩:=h;cases x with
 |non =>
  cases rx;cases y with
  |non=>cases ry;exact PySem.EqNone.ne_none_none (a9 I q (by simp))
  |bl j=>cases ry;exact PySem.EqNone.ne_none_bool (a9 I q (by simp))
  |int j=>obtain⟨t',rfl⟩:=ry;exact PySem.EqNone.ne_none_int (a9 I q (by simp))
  |str j=>obtain⟨t',rfl⟩:=ry;exact PySem.EqNone.ne_none_str (a9 I q (by simp))
  |_=>exact absurd (show false=true from hs) Th
 |bl i =>
  cases rx;cases y with
  |non=>cases ry;exact PySem.EqNone.ne_bool_none (a9 I q (by simp))
  |bl j=>cases ry;exact ne_bool (a9 I q (congrArg not JZ))
  |str j=>obtain⟨t',rfl⟩:=ry;exact PySem.EqMixed.ne_bool_str (a9 I q (by simp))
  |_=>exact absurd (show false=true from hs) Th
 |int i =>
  obtain⟨t,rfl⟩:=rx;cases y with
  |non=>cases ry;exact PySem.EqNone.ne_int_none (a9 I q (by simp))
  |int j=>obtain⟨t',rfl⟩:=ry;exact ne_int (a9 I q (congrArg not FI))
  |str j=>obtain⟨t',rfl⟩:=ry;exact PySem.EqMixed.ne_int_str (a9 I q (by simp))
  |_=>exact absurd (show false=true from hs) Th
 |str i =>
  obtain⟨t,rfl⟩:=rx;cases y with
  |non=>cases ry;exact PySem.EqNone.ne_str_none (a9 I q (by simp))
  |bl j=>cases ry;exact PySem.EqMixed.ne_str_bool (a9 I q (by simp))
  |int j=>obtain⟨t',rfl⟩:=ry;exact PySem.EqMixed.ne_str_int (a9 I q (by simp))
  |str j=>obtain⟨t',rfl⟩:=ry;exact ne_str (a9 I q (congrArg not FH))
  |_=>exact absurd (show false=true from hs) Th
 |byt i =>
  obtain⟨t,rfl⟩:=rx;cases y with
  |byt j=>obtain⟨t',rfl⟩:=ry;exact PySem.W.ne_bytes (a9 I q (congrArg not FJ))
  |_=>exact absurd (show false=true from hs) Th
 |_=>cases y <;> exact absurd (show false=true from hs) Th
def QU:fh X (compareOp .Lt) (wG λi j=>.bl (decide (i<j))):=HV λ_ _ _ _ _ _ _ q=>lt_int q
def QV:fh X (compareOp .LtE) (wG λi j=>.bl (decide (i<=j))):=HV λ_ _ _ _ _ _ _ q=>le_int q
def QW:fh X (compareOp .Gt) (wG λi j=>.bl (decide (j<i))):=HV λ_ _ _ _ _ _ _ q=>gt_int q
def QX:fh X (compareOp .GtE) (wG λi j=>.bl (decide (j<=i))):=HV λ_ _ _ _ _ _ _ q=>ge_int q
def tK:fh X (compareOp .Is) (λx y H Q=>y=.non/\Q (.bl (decide (x=.non))) H):=by
 intro ξ s σ H x y v u Q I rx ry h;obtain⟨rfl,q⟩:=h;cases ry;refine is_none_gen (a9 I q ?_)
 cases x <;> first
  |(cases rx;rfl)
  |(obtain⟨t,rfl⟩:=rx;rfl)
def Lz:fh X (compareOp .IsNot) (λx y H Q=>y=.non/\Q (.bl (!decide (x=.non))) H):=by
 intro ξ s σ H x y v u Q I rx ry h;obtain⟨rfl,q⟩:=h;cases ry;refine isnot_none_gen (a9 I q ?_)
 cases x <;> first
  |(cases rx;rfl)
  |(obtain⟨t,rfl⟩:=rx;rfl)
def di(b:Expr){op:CmpOp}(h:op≠.In:=by decide)(h2:op≠.NotIn:=by decide):behindInMarks op b=false:=by
 have e1:(op == CmpOp.In)=false:=by cases op <;> first|rfl|exact absurd rfl h
 have e2:(op == CmpOp.NotIn)=false:=by cases op <;> first|rfl|exact absurd rfl h2
 cases b <;> simp[behindInMarks,e1,e2]
def cU(ho:fh X (compareOp op) r)(ha:PE X a ta)(hb:PE X b tb)(hm:behindInMarks op b=false):PE X (.Compare a [op] [b] pos) (ao r ta tb):=by
 intro ξ s σ H Q I h;exact wpAny_Compare1 (MD ha hb I h λv u s2 x y H2 I2 rx ry q=>ho ξ s2 σ H2 x y v u Q I2 rx ry q) hm
abbrev aO(t:TE):TT:=λσ H Q=>t σ H λx H'=>∃k,x=.bl k/\Q k H'
def lv(ho:fh X (compareOp op) r)(ha:PE X a ta)(hb:PE X b tb)(hm:behindInMarks op b=false):PT X (.Compare a [op] [b] pos) (aO (ao r ta tb)):=by
 intro ξ s σ H Q I h
 refine wpAny_isTrue_Compare1 (bg (ha ξ s σ H _ I h) λv s1 ⟨x,H1,I1,r1,q1⟩=>bg (hb ξ s1 σ H1 _ I1 q1) λu s2 ⟨y,H2,I2,r2,q2⟩ =>
  bg (ho ξ s2 σ H2 x y v u _ I2 r1 r2 q2) λc s3 ⟨z,H3,I3,r3,k,e,q3⟩=>?_) hm
 subst e;cases r3;exact Vc ⟨H3,I3,q3⟩
abbrev gj(r r':R2)(ta tb tc:TE):TE:=λσ H Q=>ta σ H λx H1=>tb σ H1 λy H2=>r x y H2 λz H3=>∃k,z=.bl k /\
 (if k=true then tc σ H3 λw' H4=>r' y w' H4 Q else Q (.bl false) H3)
def HP(ho:fh X (compareOp op) r)(ho':fh X (compareOp op') r')(ha:PE X a ta)(hb:PE X b tb)(hc:PE X c tc)
  (hm:lastMarks [op,op'] [b,c]=false:=by with_unfolding_all rfl):PE X (.Compare a [op,op'] [b,c] pos) (gj r r' ta tb tc):=by
 intro ξ s σ H Q I h
 refine Compare_chain (bg (ha ξ s σ H _ I h) λv s1 ⟨x,H1,I1,r1,q1⟩=>chain_link (bg (hb ξ s1 σ H1 _ I1 q1) λu s2 ⟨y,H2,I2,r2,q2⟩ =>
  bg (ho ξ s2 σ H2 x y v u _ I2 r1 r2 q2) λd s3 ⟨z,H3,I3,r3,k,e,q3⟩=>?_)) hm
 subst e;cases r3;refine Vc ?_;cases k with
 |false=>exact ite_ff ⟨.bl false,H3,I3,rfl,q3⟩
 |true=>exact ite_tt (chain_last (bg (hc ξ s3 σ H3 _ I3 q3) (by rintro w' s4 ⟨z',H4,I4,r4,q4⟩;exact ho' ξ s4 σ H4 y z' u w' Q I4 r2 r4 q4)))
def HB(ho:fh X (compareOp op) r)(ho':fh X (compareOp op') r')(ha:PE X a ta)(hb:PE X b tb)(hc:PE X c tc)
  (hm:lastMarks [op,op'] [b,c]=false:=by with_unfolding_all rfl):PT X (.Compare a [op,op'] [b,c] pos) (aO (gj r r' ta tb tc)):=by
 intro ξ s σ H Q I h
 refine isTrue_chain (bg (ha ξ s σ H _ I h) λv s1 ⟨x,H1,I1,r1,q1⟩=>test_link (bg (hb ξ s1 σ H1 _ I1 q1) λu s2 ⟨y,H2,I2,r2,q2⟩ =>
  bg (ho ξ s2 σ H2 x y v u _ I2 r1 r2 q2) λd s3 ⟨z,H3,I3,r3,k,e,q3⟩=>?_)) hm
 subst e;cases r3;refine Vc ?_;cases k with
 |false =>
  obtain⟨k',e',q'⟩:=q3;cases e';exact ite_ff ⟨H3,I3,q'⟩
 |true =>
  refine ite_tt (test_last (bg (hc ξ s3 σ H3 _ I3 q3) λw' s4 ⟨z',H4,I4,r4,q4⟩=>bg (ho' ξ s4 σ H4 y z' u w' _ I4 r2 r4 q4) λd' s5 ω=>?_));obtain⟨z2,H5,I5,r5,k2,e2,q5⟩:=ω;subst e2;cases r5;exact Vc ⟨H5,I5,q5⟩
def oD:(sizeLine:Nat)<2 ^ 63:=by rw[VJ];decide
def AK:fh X (binaryOp .Add) (λx y H Q=>∃i j,x=.str i/\y=.str j/\i.length+j.length<=sizeLine/\Q (.str (i++j)) H):=by
 intro ξ s σ H x y v u Q I rx ry h;obtain⟨i,j,rfl,rfl,hz,q⟩:=h;obtain⟨t,rfl⟩:=rx;obtain⟨t',rfl⟩:=ry;exact add_str (λt' tk=>⟨.str (i++j),H,I.tok _,⟨_,rfl⟩,q⟩) hz
def vals1{x:V}{us:List SW}(r:Vals [x] us):∃u,us=[u]/\RelV x u:=by
 cases r with
 |cons r1 r2=>cases r2;exact⟨_,rfl,r1⟩
def vals2{x y:V}{us:List SW}(r:Vals [x,y] us):∃u w',us=[u,w']/\RelV x u/\RelV y w':=by
 cases r with
 |cons r1 r2 =>
  cases r2 with
  |cons r3 r4=>cases r4;exact⟨_,_,rfl,r1,r3⟩
def IY:fT X (.builtin "abs") (λxs H Q=>∃i,xs=[.int i]/\Q (.int (if i<0 then -i else i)) H):=by
 intro ξ s σ H xs us Q I r h;obtain⟨i,rfl,q⟩:=h;obtain⟨u,rfl,t,rfl⟩:=vals1 r;exact call_abs_int λu tk=>⟨.int (if i<0 then -i else i),H,I.tok _,⟨_,rfl⟩,q⟩
def F3:fT X (.type "int") (λxs H Q=>(∃i,xs=[.int i]/\Q (.int i) H)\/∃k,xs=[.bl k]/\Q (.int (if k then 1 else 0)) H):=by
 intro ξ s σ H xs us Q I r h;rcases h with⟨i,rfl,q⟩|⟨k,rfl,q⟩
 .obtain⟨u,rfl,t,rfl⟩:=vals1 r;exact call_int_int ⟨.int i,H,I,⟨_,rfl⟩,q⟩
 .obtain⟨u,rfl,r1⟩:=vals1 r;cases r1;exact call_int_bool ⟨.int (if k then 1 else 0),H,I.tok _,⟨_,rfl⟩,q⟩
end
structure ObjM (h:Heap) (x dx C:Addr) (mA:Str->Option SW):Prop where
 obj:h.get? x=some (ZQ C dx)
 ns:h.Ns1 dx mA
 ne:dx≠x
def EE{h:Heap}(n:h.Ns1 dx mA):∃od,h.get? dx=some od/\∀name,Zac name od=some (mA name):=by
 obtain⟨o,es,ep,ho,hd,hk,_,hm⟩:=n;refine⟨o,ho,λname=>?_⟩;have e:=hm name;unfold nsFind findBy at e;rw[<- Array.find?_toList] at e;unfold Zac;rw[hd];dsimp only;split
 .rename_i y q;rw[q] at e;exact congrArg some e
 .rename_i q;rw[q] at e
  have a:es.toList.any (·.refKey)=false:=by
   rw[YY];intro y hy;obtain⟨z,t,hkey⟩:=hk y (W8.mp hy);simp[Zl.refKey,hkey]
  have a' : ¬ es.toList.any (·.refKey)=true:=by rw[a];exact Th
  rw[if_neg a'];exact congrArg some e
def ObjM.look(I:ObjM h x dx C mA):∃od,PySem.W.InstAt h x (ZQ C dx) C (some od)/\∀name,Zac name od=some (mA name) :=
 let ⟨od,ho,hl⟩:=EE I.ns
 ⟨od,⟨I.obj,rfl,rfl,ho⟩,hl⟩
section
variable{P:T9}{w:Uk}{H H':Hp}{h h':Heap}{a C dx:Addr}{fs fs':List (Str×V)}
def Mj(hok:HOk P w H h)(e:H a=some (.ins C dx fs)):∃mA,ObjM h a dx C mA/\(∀f,RelO (fs.lookup f) (mA f))/\PySem.Within mA (fs.map (·.1))/\fs.length<=1000/\H dx=some (.own a):=by
 obtain⟨d,z,ne,ob,mA,n,r,q⟩:=(show cv P w H h a (.ins C dx fs) from hok a _ e)
 exact⟨mA,⟨ob,n,ne⟩,r,q,z,d⟩
end
structure Cls (K:Fg) (C:Addr):Prop where
 pg:ZbA K C Ue=true
 hd:PySem.W.hasDictIn K C=true
 po:PySem.W.plainOver K C=true
 sa:Zb9 K (.ref C) "__setattr__"=some (some (.builtin "object.__setattr__"))
def Cls.get{K:Fg}(c:Cls K C)(f:Str):ZbA K C f=true:=c.pg
section
variable{X:Cx}{ξ:List (Addr×Obj)}{σ:St}{H:Hp}{s:SZ}{A:Ud}{E:SW->SZ->Prop}{Q:SW->SZ->Prop}{c:SW}{b:Bool}
inductive TyOf (K:Fg) (H:Hp):V->SW->Prop where
 |non:TyOf K H .non (.type "NoneType")
 |bl (x:Bool):TyOf K H (.bl x) (.type "bool")
 |int (i:Int):TyOf K H (.int i) (.type "int")
 |str (x:Str):TyOf K H (.str x) (.type "str")
 |flt (x:UInt64):TyOf K H (.flt x) (.type "float")
 |lst {a:Addr} {xs:List V} (e:H a=some (.lst xs)):TyOf K H (.ref a) (.type "list")
 |frz {a:Addr} {o:Obj} {xs:List V} (e:H a=some (.frz o (.lst xs))):TyOf K H (.ref a) (.type "list")
 |tup {a:Addr} {xs:List V} (e:H a=some (.tup xs)):TyOf K H (.ref a) (.type "tuple")
 |dK {a:Addr} {dk:List (Key×V)} (e:H a=some (.dK dk)):TyOf K H (.ref a) (.type "dict")
 |dT {a:Addr} {dk:List (List Key×V)} (e:H a=some (.dT dk)):TyOf K H (.ref a) (.type "dict")
 |ins {a C dx:Addr} {fs:List (Str×V)} (e:H a=some (.ins C dx fs)) (cl:Cls K C) (ha:Zb9 K (.ref C) "__class__"=some (some (.builtin "object.__class__")))
   (hn:PySem.W.specialIn K (.builtin "object.__class__") "__get__"=some (some (.builtin "getset_descriptor.__get__"))) (htk:PySem.W.takesIn K (.builtin "object.__class__")=some true)
   (hm:PySem.W.mroIn K C (.type "object")=some true):TyOf K H (.ref a) (.ref C)
def E5(I:Inv X ξ σ H s)(rx:RelV x u)(ty:TyOf X.K H x t)(e:TK X.K t c=some b)(h:∀tk,Q (.bool b) {s with toks:=tk}) :
  wpAny (model X.prog X.w) A (call (.builtin "isinstance") [u,c]) Q E s:=by
 cases ty with
 |non=>cases (show u=UR from rx);exact U1 PySem.W.kitx_none I.kIn W9 e (λz=>nomatch z) h
 |bl y=>cases (show u=ZA y from rx);exact U1 PySem.W.kitx_bool I.kIn W9 e (λz=>nomatch z) h
 |int i=>obtain⟨t,q⟩:=(show ∃t,u=YB i t from rx);cases q;exact U1 PySem.W.kitx_int I.kIn W9 e (λz=>nomatch z) h
 |str y=>obtain⟨t,q⟩:=(show ∃t,u=Zi y t from rx);cases q;exact U1 PySem.W.kitx_str I.kIn W9 e (λz=>nomatch z) h
 |flt y=>obtain⟨t,q⟩:=(show ∃t,u=SW.float y t from rx);cases q;exact U1 PySem.W.kitx_float I.kIn W9 e (λz=>nomatch z) h
 |@lst a xs ea =>
  cases (show u=Ua a from rx);obtain⟨_,_,n,_,h1⟩:=(show cv X.prog X.w H s.heap a (.lst xs) from I.hok a _ ea)
  exact U1 Za9 I.kIn ⟨_,h1,rfl⟩ e (λz=>nomatch z) h
 |@frz a ob xs ea =>
  cases (show u=Ua a from rx);obtain⟨_,_,_,n,_,h1⟩:=(show cv X.prog X.w H s.heap a (.frz ob (.lst xs)) from I.hok a _ ea)
  exact U1 Za9 I.kIn ⟨_,h1,rfl⟩ e (λz=>nomatch z) h
 |@tup a xs ea =>
  cases (show u=Ua a from rx);obtain⟨_,_,_,p⟩:=(show cv X.prog X.w H s.heap a (.tup xs) from I.hok a _ ea)
  obtain⟨o,h1,⟨h2,_⟩,_⟩:=p;exact U1 PySem.W.kitx_tuple I.kIn ⟨o,h1,h2⟩ e (λz=>nomatch z) h
 |@dK a dk ea =>
  cases (show u=Ua a from rx);obtain⟨_,_,vs,_,p⟩:=(show cv X.prog X.w H s.heap a (.dK dk) from I.hok a _ ea)
  obtain⟨o,es,ep,h1,h2,_⟩:=p;exact U1 Za_ I.kIn ⟨o,h1,h2.1⟩ e (λz=>nomatch z) h
 |@dT a dk ea =>
  cases (show u=Ua a from rx);obtain⟨_,_,xs,_,o,es,ep,h1,h2,_⟩:=(show cv X.prog X.w H s.heap a (.dT dk) from I.hok a _ ea)
  exact U1 Za_ I.kIn ⟨o,h1,h2.1⟩ e (λz=>nomatch z) h
 |@ins a C dx fs ea cl ha hn htk hm =>
  cases (show u=Ua a from rx);obtain⟨mA,O,_⟩:=Mj I.hok ea;obtain⟨od,J,_⟩:=O.look;exact U1 (PySem.W.kitx_own (cl.get _) cl.hd ha hn htk hm) I.kIn J e (λz=>nomatch z) h
end
structure Room (k:Nat) (A:Ud):Prop where
 hd:A.handled=none
 dp:A.depth+3*k+5<recursionLimit
 un:A.units+16*k+200<cLine
def Room.mono{j:Nat}(r:Room k A)(h:j<=k):Room j A:=⟨r.hd,by have:=r.dp;lia,by have:=r.un;lia⟩
def Room.deeper{k:Nat}(r:Room (k+1) A)(env:Env):Room k (A.deeper env) :=
 ⟨r.hd,by have:=r.dp;show A.depth+1+3*k+5<_;lia,by have:=r.un;show A.units+3+16*k+200<_;lia⟩
def Room.depth(r:Room k A):A.depth<recursionLimit:=by have:=r.dp;lia
def Room.units(r:Room k A):A.units+64<cLine:=by have:=r.un;lia
abbrev ae:TA:=λ_ H Q=>Q [] H
abbrev ac(ta:TE)(tr:TA):TA:=λσ H Q=>ta σ H λx H1=>tr σ H1 λxs H2=>Q (x :: xs) H2
section
variable{X:Cx}{e:Expr}{es:List Expr}{te:TE}{t:TA}{pos:Pos}
def bu:PA X [] ae:=λ_ _ _ _ H Q I h=>VP ⟨[],H,I,.nil,h⟩
def aD(ha:PE X e te)(hr:PA X es t)(hs:starEach (e :: es) X.env=(false,eval e X.env) :: starEach es X.env:=by rfl):PA X (e :: es) (ac te t):=by
 intro pos ξ s σ H Q I h;rw[hs];show wpAny _ _ (spliced ((false,eval e X.env) :: backTo pos (starEach es X.env))) _ _ s;refine US (bg (ha ξ s σ H _ I h) λu s1 ω=>?_);obtain⟨x,H1,I1,r1,q1⟩:=ω;exact bg (hr pos ξ s1 σ H1 _ I1 q1) (by rintro us s2 ⟨xs,H2,I2,r2,q2⟩;exact ⟨x :: xs,H2,I2,.cons r1 r2,q2⟩)
abbrev cP(t:TA):TE:=λσ H Q=>t σ H λxs H1=>Wi xs<=sizeLine/\∀p,H1 p=none->Q (.ref p) (upd H1 p (.tup xs))
abbrev cS(t:TA):TE:=λσ H Q=>t σ H λxs H1=>Wi xs<=sizeLine/\∀p,H1 p=none->Q (.ref p) (upd H1 p (.lst xs))
def N2{x1}(h:PA X es t):PE X (.Tuple es x1 pos) (cP t):=by
 intro ξ s σ H Q I hq;refine Zax (bg (h pos ξ s σ H _ I hq) λus s1 ⟨xs,H1,I1,r,z,q⟩=>⟨by rw[<- r.length];exact z,?_⟩);have hf:H1 s1.heap.objs.size=none:=I1.hok.fresh (SR _);refine⟨.ref s1.heap.objs.size,upd H1 s1.heap.objs.size (.tup xs),I1.laid (t':=s1.toks) (λb u e=>SY _ e) (SR _) ?_,rfl,q _ hf⟩;exact⟨z,us,r,TupD.new _ _⟩
def N4(h:PA X es t):PE X (.List es pos) (cS t):=by
 intro ξ s σ H Q I hq;refine wpAny_List_spliced (bg (h pos ξ s σ H _ I hq) λus s1 ⟨xs,H1,I1,r,z,q⟩=>⟨by rw[<- r.length];exact z,?_⟩);have hf:H1 s1.heap.objs.size=none:=I1.hok.fresh (SR _);refine⟨.ref s1.heap.objs.size,upd H1 s1.heap.objs.size (.lst xs),I1.laid (t':=s1.toks) (λb u e=>SY _ e) (SR _) ?_,rfl,q _ hf⟩;exact⟨z,us,0,r,Tx _ rfl⟩
end
nonrec def Sp:=List V->Hp->VK->XK->Prop
nonrec def vd:=List Env->Hp->SZ->XK->SW->SZ->Prop
structure Jf (P:T9) (w:Uk) (K:Fg) (mg:Str->Option SW) (base:Heap) (A:Ud) (outer:List Env) (s:SZ) (H:Hp):Prop where
 frames:A.frames=some outer
 mod:Mod K mg base
 bs:∀b o,base.get? b=some o->s.heap.get? b=some o/\H b=none
 bsz:base.objs.size<=s.heap.objs.size
 funs:s.heap.FunFrames base outer
 frf:∀b∈Bu outer,H b=none
 hok:HOk P w H s.heap
 bare:YX s.gens
abbrev CE(outer:List Env)(P:T9)(w:Uk)(H:Hp)(s:SZ)(Q:VK)(u:SW)(s':SZ):Prop :=
 ∃v H',s'.os=s.os/\YX s'.gens/\Un (Bu outer) [] H H' s.heap s'.heap/\HOk P w H' s'.heap/\RelV v u/\Q v H'
abbrev CR(CX:vd)(outer:List Env)(P:T9)(w:Uk)(H:Hp)(s:SZ)(Q:VK)(E:XK)(r:ZbB)(s':SZ):Prop :=
 match r with
 |.ok (.ret u)=>CE outer P w H s Q u s'
 |.ok _=>False
 |.error e=>CX outer H s E e s'
structure FnOk (P:T9) (w:Uk) (K:Fg) (mg:Str->Option SW) (base:Heap) (CX:vd) (k:Nat) (f:Addr) (fd:Wj) (ps:List Str) (sp:Sp):Prop where
 len:∀vs H Q E,sp vs H Q E->Wi vs=Wi ps
 run:∀(A:Ud) (outer:List Env) (s:SZ) (H:Hp) (args:Args) (us:List SW) (vs:List V) (Q:VK) (E:XK),Room k A->Jf P w K mg base A outer s H->Zba s fd args (ps.zip us)->Vals vs us->sp vs H Q E ->
  codeAny (model P w) A (.call (.ref f) args) (CR CX outer P w H s Q E) s
def FnOk.mono{K:Fg}{CX:vd}{k:Nat}(F:FnOk P w K mg base CX j f fd ps sp)(h:j<=k) :
  FnOk P w K mg base CX k f fd ps sp:=⟨F.len,λA outer s H args us vs Q E hr=>F.run A outer s H args us vs Q E (hr.mono h)⟩
section
variable{X:Cx}{ξ:List (Addr×Obj)}{σ:St}{H:Hp}{s s':SZ}
def Inv.env0(I:Inv X ξ σ H s):Jf X.prog X.w X.K X.mg X.base X.A X.stack s H :=
 ⟨I.ok.frames,I.ok.mod,I.bs,TQ I.ok.bsz I.sz,I.stack,I.CH,I.hok,I.bare⟩
def Inv.after(I:Inv X ξ σ H s)(h:CE X.stack X.prog X.w H s Q u s'):EP X ξ σ Q u s':=by
 obtain⟨v,H',os,bare,un,hok,r,q⟩:=h;obtain⟨hh,g,d,t,os'⟩:=s';obtain rfl:os'=s.os:=os;exact⟨v,H',I.call (h':=hh) (g':=g) (d':=d) (t':=t) (ch:=[]) un hok bare (λb z=>absurd z (by simp)),r,q⟩
end
abbrev aw(sp:Sp)(ff:List V)(E:XK)(t:TA):TE:=λσ H Q=>t σ H λvs H1=>sp (vs++ff) H1 Q E
abbrev Binds(K:Fg)(fd:Wj)(ps:List Str)(ds:List SW):Prop :=
 ∀(s:SZ) (us:List SW),K.In s.heap->(us++ds).length=Wi ps->Zba s fd ⟨us,[]⟩ (ps.zip (us++ds))
def Binds.all{K:Fg}{ps:List Str}(h:∀us:List SW,Wi us=Wi ps->bindArgs fd ⟨us,[]⟩=pure (ps.zip us)):Binds K fd ps []:=λs us _ hl=>by
 rw[WT] at hl ⊢;exact .of_eq (h us hl)
abbrev rO(CX:vd)(X:Cx)(E:XK):Prop:=∀(ξ:List (Addr×Obj)) (σ:St) (H:Hp) (s:SZ) (e:SW) (s':SZ),Inv X ξ σ H s->CX X.stack H s E e s'->X.xe e s'
section
variable{X:Cx}{CX:vd}{k:Nat}{f C:Addr}{fd:Wj}{ps:List Str}{sp:Sp}{ff:List V}{ds:List SW}{E:XK}{x m:Str}{p pos apos:Pos}{e o:Expr}{es:List Expr}{ta:TE}{t:TA}
def Np{H:Hp}(F:FnOk X.prog X.w X.K X.mg X.base CX k f fd ps sp)(hr:Room k X.A)(hb:Binds X.K fd ps ds)(hd:Vals ff ds)(hx:rO CX X E)
  (I:Inv X ξ σ H s) (r:Vals vs us) (h:sp (vs++ff) H Q E):wpAny (model X.prog X.w) X.A (call (.ref f) us) (EP X ξ σ Q) X.xe s:=by
 have r2:Vals (vs++ff) (us++ds):=r.append hd;have hl:(us++ds).length=Wi ps:=by rw[<- r2.length];exact F.len _ _ _ _ h
 refine wpAny_call (Yw (F.run X.A X.stack s H ⟨us,[]⟩ (us++ds) (vs++ff) Q E hr I.env0 (hb s us I.kIn hl) r2 h) λr s' hq=>?_);cases r with
 |error e=>exact hx ξ σ H s e s' I hq
 |ok fl =>
  cases fl with
  |ret u=>exact I.after hq
  |next=>exact WK hq
  |brk=>exact WK hq
  |cont=>exact WK hq
def Lx(F:FnOk X.prog X.w X.K X.mg X.base CX k f fd ps sp)(hr:Room k X.A)(hg:Gl X x)(hm:X.mg x=⇑f)(hk:WA X.K (.ref f)=true)(hb:Binds X.K fd ps ds)(hd:Vals ff ds)(hx:rO CX X E)
  (ha:PA X (e :: es) t) (hdb:(x == ("__debug__":Str))=false:=by decide) (he:starEach (e :: es) X.env=(false,eval e X.env) :: starEach es X.env:=by rfl) (hpl:(backTo pos (starEach es X.env)).any (·.1)=false:=by rfl) :
  PE X (.Call (.Name x p) (e :: es) [] pos) (aw sp ff E t):=by
 intro ξ s σ H Q I h;refine Vp (xo I hg hm ?_ hdb);refine PySem.W.callWith_K (h₀:=X.base) I.ok.mod.kin hk (bg (ha pos ξ s σ H _ I h) λus s1 ⟨vs,H1,I1,r,q⟩=>⟨I1.kIn,?_⟩) he hpl;exact Np F hr hb hd hx I1 r q
end
structure aq (N P:List Str) (sc:Scope):Prop where
 kind:sc.kind=.function
 co:sc.isCoroutine=false
 gen:sc.isGenerator=false
 nd:N.Nodup
 pre:N.take (Wi P)=P
 par:∀x∈P,sc.names.lookup x=some .local\/sc.names.lookup x=some .cell
 nofree:∀y∈sc.names,y.2≠.free
def uL{kindOf:Str->Option Zm}{x:Str}:∀{binds:List (Str×SW)} {m:Str->Option SW},(∀v,(x,v)∉binds)->bindL kindOf binds m x=m x
 |[],_,_=>rfl
 |(n,v) :: r,m,h=>by
  unfold bindL;rw[uL λw hw=>h w (S_ _ hw)];split
  .have:x≠n:=by rintro rfl;exact h v Tb
   simp[this]
  .rfl
def uN{kindOf:Str->Option Zm}{x:Str}:∀{binds:List (Str×SW)} {m:Str->Option SW},(∀v,(x,v)∉binds)->bindC kindOf binds m x=m x
 |[],_,_=>rfl
 |(n,v) :: r,m,h=>by
  unfold bindC;rw[uN λw hw=>h w (S_ _ hw)];split
  .rfl
  .have:x≠n:=by rintro rfl;exact h v Tb
   simp[this]
def uM{kindOf:Str->Option Zm}{x:Str}{v:SW}:∀{P:List Str} {vs:List SW} {i:Nat} {m:Str->Option SW},P.Nodup->P[i]?=some x->vs[i]?=some v->kindOf x=some .local ->
  bindL kindOf (P.zip vs) m x=some v
 |[],_,_,_,_,h,_,_=>by simp at h
 |_ :: _,[],_,_,_,_,h,_=>by simp at h
 |p :: P,w :: vs,0,m,nd,h1,h2,hk=>by
  simp at h1 h2;subst h1;subst h2;show bindL kindOf ((p,w) :: P.zip vs) m p=_;unfold bindL;rw[uL λv hv=>(Um.mp nd).1 (Wg hv).1,if_pos hk];simp
 |p :: P,w :: vs,i+1,m,nd,h1,h2,hk=>by
  show bindL kindOf ((p,w) :: P.zip vs) m x=_;unfold bindL;exact uM (i:=i) (Um.mp nd).2 (by simpa using h1) (by simpa using h2) hk
def uO{kindOf:Str->Option Zm}{x:Str}{v:SW}:∀{P:List Str} {vs:List SW} {i:Nat} {m:Str->Option SW},P.Nodup->P[i]?=some x->vs[i]?=some v->kindOf x≠some .local ->
  bindC kindOf (P.zip vs) m x=some v
 |[],_,_,_,_,h,_,_=>by simp at h
 |_ :: _,[],_,_,_,_,h,_=>by simp at h
 |p :: P,w :: vs,0,m,nd,h1,h2,hk=>by
  simp at h1 h2;subst h1;subst h2;show bindC kindOf ((p,w) :: P.zip vs) m p=_;unfold bindC;rw[uN λv hv=>(Um.mp nd).1 (Wg hv).1,if_neg hk];simp
 |p :: P,w :: vs,i+1,m,nd,h1,h2,hk=>by
  show bindC kindOf ((p,w) :: P.zip vs) m x=_;unfold bindC;exact uO (i:=i) (Um.mp nd).2 (by simpa using h1) (by simpa using h2) hk
abbrev start(N:List Str)(vs:List V):St:=vs.map some++Tq (Wi N-Wi vs) none
abbrev rk(CX:vd)(P:T9)(w:Uk)(K:Fg)(mg:Str->Option SW)(base:Heap)(N:List Str)(qual:Str)(scope:Scope)(f:Addr)(cd:SW)(A:Ud)(outer:List Env)(s:SZ)(H:Hp)(E:XK):Cx where
 prog:=P
 w:=w
 K:=K
 mg:=mg
 base:=base
 A:=A.deeper (envOfC qual scope s.heap.objs.size f cd)
 N:=N
 s₀:=s
 H₀:=H
 env:=envOfC qual scope s.heap.objs.size f cd
 outer:=outer
 stack:=envOfC qual scope s.heap.objs.size f cd :: outer
 ex:=[]
 calm:=true
 fn:=λ_=>true
 pn:=[]
 xe:=λe s'=>wpAny (model P w) (A.deeper (envOfC qual scope s.heap.objs.size f cd)) (leaving (envOfC qual scope s.heap.objs.size f cd) e) (λ_ s''=>CX outer H s E e s'') (λe' s''=>CX outer H s E e' s'') s'
def zt{sc:Scope}(h:sc.names.lookup x=some .cell):∃c,(cellsFrom n sc.names []).lookup x=some c:=by
 have q:=ZC sc.names n [] (.inl h);exact Y7.mp q
def E7{CX:vd}{K:Fg}{A:Ud}{vs:List V}
  (S:aq N ps scope) (hd:A.handled=none) (e0:Jf P w K mg base A outer s H) (hl:Wi vs=Wi ps) (r:Vals vs us)
  (x:InCallC s s.heap.objs.size (bindL (envOfC qual scope s.heap.objs.size f cd).kindOf (ps.zip us) λ_=>none) (cellsFrom (s.heap.objs.size+1) scope.names []) (bindC (envOfC qual scope s.heap.objs.size f cd).kindOf (ps.zip us) λ_=>none) s1) :
  Inv (rk CX P w K mg base N qual scope f cd A outer s H E) [] (start N vs) H s1:=by
 have hpl:Wi ps<=N.length:=by have:=congrArg Wi S.pre;rw[Ta] at this;lia
 obtain⟨h1,tk,rfl,hk⟩:=x.done;have noA:∀b:Addr,b∉(rk CX P w K mg base N qual scope f cd A outer s H E).ex:=λb z=>absurd (show b∈([]:List Addr) from z) (by simp)
 refine⟨⟨e0.mod,S.kind,rfl,rfl,SR _,λy z c h1 h2=>?_,λy hy=>?_,λy c _ h=>?_,λ_=>hd,Ud.frames_deeper e0.frames,.inr ⟨rfl,rfl⟩,λb z=>absurd z (noA b),e0.bs,e0.bsz,λb _ _=>noA b,λb z=>absurd z (noA b),e0.funs,e0.frf⟩,
  rfl,e0.bare,Un.kept hk,⟨_,x.toInCall.ns,λi y v h1 h2 h3=>?_⟩,λy c h=>⟨_,x.cell y c h⟩,e0.hok.fresh (SR _),λy c h=>?_,λp hp=>absurd (show p∈([]:List (Addr×Obj)) from hp) (by simp),e0.hok.kept hk,?_⟩
 .exact name_of_addr x.apart (Ww h1) (Ww h2)
 .have hy:scope.names.lookup y=some .cell\/scope.names.lookup y=some .free:=hy;rcases hy with hy|hy
  .exact zt hy
  .exact absurd rfl (S.nofree _ (Ww hy))
 .exact ZB (x.above y c (Ww h))
 .have hi:i<Wi vs:=by
   unfold start at h2;by_cases hi:i<Wi vs
   .exact hi
   .rw[TV (by simpa using hi)] at h2;rw[List.getElem?_replicate] at h2;split at h2 <;> cases h2
  have ha:vs[i]?=some v:=by
   unfold start at h2;rw[TU (by simpa using hi),SO] at h2;cases e:vs[i]? with
   |none=>rw[e] at h2;cases h2
   |some a=>rw[e] at h2;cases h2;rfl
  obtain⟨u,hu,rv⟩:=r.get ha
  have hp:ps[i]?=some y:=by
   rw[<- S.pre,VH ∅];exact h1
  have ndP:ps.Nodup:=by rw[<- S.pre];exact S.nd.sublist (Zbb _ _)
  refine⟨u,rv,?_⟩;rcases S.par y (SM hp) with k|k
  .exact .inl ⟨k,uM ndP hp hu k⟩
  .obtain⟨c,e⟩:=zt (n:=s.heap.objs.size+1) k;refine .inr ⟨.inl k,c,e,?_⟩;have q:=x.cell y c e;rw[uO ndP hp hu (by show scope.names.lookup y≠_;rw[k];decide)] at q;exact q
 .exact e0.hok.fresh (ZB (x.above y c (Ww h)))
 .unfold start;show _=N.length;rw[To,SJ,Up];lia
def RX{CX:vd}{K:Fg}{dV kV oc:SW}{od:Option Addr}
  {osl:Array (Option SW)}  {sp:Sp} (lk:K.lookup f=some ⟨oc,od,.func (Vv name qual params body scope dV kV doc pm an cdv ct),osl⟩) (hcd:W_ K cdv qual=true) (S:aq N ps scope)
  (len:∀vs H Q E,sp vs H Q E->Wi vs=Wi ps)
  (hbody:∀(A:Ud) (outer:List Env) (s:SZ) (H:Hp) (vs:List V) (Q:VK) (E:XK),Room k (A.deeper (envOfC qual scope s.heap.objs.size f cdv))->sp vs H Q E ->
   ∃t,PSs (rk CX P w K mg base N qual scope f cdv A outer s H E) body t/\t {nx:=λ_ H'=>Q .non H',rt:=Q} (start N vs) H) :
  FnOk P w K mg base CX (k+1) f (Vv name qual params body scope dV kV doc pm an cdv ct) ps sp:=by
 refine⟨len,λA outer s H args us vs Q E hr e0 hb r hsp=>?_⟩;have hl:=len _ _ _ _ hsp;have KX:K.In s.heap:=e0.mod.kin.keeps λb o e=>(e0.bs b o e).1
 have lim:s.heap.NoLimit:=e0.mod.nolimit.keeps λb o e=>(e0.bs b o e).1
 have hkind:∀y∈ps.zip us,scope.names.lookup y.1=some .local\/(scope.names.lookup y.1=some .cell/\((cellsFrom (s.heap.objs.size+1) scope.names []).lookup y.1).isSome=true):=λ⟨n,v⟩ hy=>by
  rcases S.par n (Wg hy).1 with q|q
  .exact .inl q
  .exact .inr ⟨q,ZC _ _ _ (.inl q)⟩
 refine codeAny_call_function hr.depth (KX _ _ lk) rfl S.co S.gen rfl (PySem.W.codeRec_of KX hcd) (hb _ _ _ _ ?_);refine wpAny_newFunctionEnv_cells S.kind hkind λenv he s1 x=>?_
 subst he;refine⟨lim.keeps x.toInCall.keep,codeAny_func ?_⟩;obtain⟨t,ht,hq⟩:=hbody A outer s H vs Q E (hr.deeper _) hsp;have I:Inv (rk CX P w K mg base N qual scope f cdv A outer s H E) [] (start N vs) H s1:=E7 S hr.hd e0 hl r x;refine Vu (ht [] s1 (start N vs) H _ I hq) (λfl s' hs=>?_) λe s' hs=>hs
 have fin:∀{σ':St} {H':Hp} {v:V} {u:SW},Inv (rk CX P w K mg base N qual scope f cdv A outer s H E) [] σ' H' s'->RelV v u->Q v H'->CE outer P w H s Q u s' :=
  λ{σ' H' v u} J rv q=>⟨v,H',J.os,J.bare,J.base,J.hok,rv,q⟩
 cases fl with
 |ret u =>
  obtain⟨v,σ',H',J,rv,q⟩:=hs;exact fin J rv q
 |next =>
  obtain⟨σ',H',J,q⟩:=hs;exact fin (v:=V.non) (u:=UR) J rfl q
 |brk =>
  obtain⟨_,_,_,q⟩:=hs;exact WK q
 |cont =>
  obtain⟨_,_,_,q⟩:=hs;exact WK q
section
variable{X:Cx}{x:Str}{p pos:Pos}{e:Expr}{es:List Expr}{t:TA}{id T:String}{r:List V->Hp->VK->Prop}
abbrev aX(r:List V->Hp->VK->Prop)(t:TA):TE:=λσ H Q=>t σ H λvs H1=>r vs H1 Q
def aG(hc:fT X (.builtin id) r) (hg:Gl X x) (hm:X.mg x=none) (hv:bootBuiltins x=some (.builtin id)) (ha:PA X (e :: es) t) (hn:x≠"__name__":=by decide) (hdb:(x == ("__debug__":Str))=false:=by decide)
  (he:starEach (e :: es) X.env=(false,eval e X.env) :: starEach es X.env:=by rfl) (hpl:(backTo pos (starEach es X.env)).any (·.1)=false:=by rfl):PE X (.Call (.Name x p) (e :: es) [] pos) (aX r t):=by
 intro ξ s σ H Q I h;refine Vp (dD I hg hm hv ?_ hn hdb);exact WB (bg (ha pos ξ s σ H _ I h) (by rintro us s1 ⟨vs,H1,I1,r1,q1⟩;exact hc ξ s1 σ H1 vs us Q I1 r1 q1)) he hpl
def ic(hc:fT X (.type T) r) (hg:Gl X x) (hm:X.mg x=none) (hv:bootBuiltins x=some (.type T)) (ha:PA X (e :: es) t) (hn:x≠"__name__":=by decide) (hdb:(x == ("__debug__":Str))=false:=by decide)
  (he:starEach (e :: es) X.env=(false,eval e X.env) :: starEach es X.env:=by rfl) (hpl:(backTo pos (starEach es X.env)).any (·.1)=false:=by rfl):PE X (.Call (.Name x p) (e :: es) [] pos) (aX r t):=by
 intro ξ s σ H Q I h;refine Vp (dD I hg hm hv ?_ hn hdb);exact Uh (bg (ha pos ξ s σ H _ I h) (by rintro us s1 ⟨vs,H1,I1,r1,q1⟩;exact hc ξ s1 σ H1 vs us Q I1 r1 q1)) he hpl
end
end L2
namespace HT
open PySem PyProof.Rows
section
variable{prog:T9}{w:Uk}{A:Ud}{E:SW->SZ->Prop}{s:SZ}
def MB{vs ws:List SW}{Q:SW->SZ->Prop}(ht:IsTup s.heap t vs.toArray)(hb:IsTup s.heap b ws.toArray)(hv:vs≠[])
  (h1:ws=[]->Q (.ref t) s) (h2:ws≠[]->Q (.ref s.heap.objs.size) {s with heap:=s.heap.push {cls:=.type "tuple",data:=.seq (vs++ws).toArray}})
  (hsz:Wi vs+Wi ws<=sizeLine):wpAny (model prog w) A (binaryOp .Add (.ref t) (.ref b)) Q E s:=by
 obtain⟨⟨cls,dd,data,sl⟩,ho,hc,n,hd⟩:=id ht;obtain⟨⟨cls2,dd2,data2,sl2⟩,ho2,hc2,n2,hd2⟩:=id hb;simp only at hc hd hc2 hd2;subst hc hd hc2 hd2;have e:vs.toArray++ws.toArray=(vs++ws).toArray:=by simp
 by_cases hw:ws=[]
 .exact concat_meets ⟨_,ho,rfl⟩ ⟨_,ho2,rfl⟩ noFill_tuple_add seq_tuple_add ZD Zn (Y8 _ _)
   (tuple_addW1 t b vs.toArray ws.toArray n n2 dd dd2 sl sl2 (by simpa using hv) (by simp[hw])) ⟨ho,ho2,h1 hw⟩
 .refine concat_meets ⟨_,ho,rfl⟩ ⟨_,ho2,rfl⟩ noFill_tuple_add seq_tuple_add ZD Zn (Y8 _ _)
   (tuple_addW2 t b vs.toArray ws.toArray n n2 dd dd2 sl sl2 (by simpa using hv) (by simpa using hw) (by rw[Tt,Tt];exact hsz)) ⟨ho,ho2,?_⟩
  rw[e];exact h2 hw
abbrev sIx(n d:Nat):Option Int->Nat
 |none=>d
 |some v=>if v<0 then (v+(n:Int)).toNat else min v.toNat n
def No(n d:Nat)(hd:d<=n)(o:Option Int):sIx n d o<=n:=by
 cases o with
 |none=>exact hd
 |some v =>
  show(if v<0 then (v+(n:Int)).toNat else min v.toNat n)<=n;by_cases hv:v<0
  .rw[if_pos hv];lia
  .rw[if_neg hv];exact X3 _ _
def FV(v:Int)(n d:Nat):(if v<0 then max (v+(n:Int)) 0 else min v (n:Int))=((sIx n d (some v):Nat):Int):=by
 show(if v<0 then max (v+(n:Int)) 0 else min v (n:Int))=(((if v<0 then (v+(n:Int)).toNat else min v.toNat n):Nat):Int)
 by_cases hv:v<0
 .simp only[if_pos hv];lia
 .simp only[if_neg hv];lia
def Bl(lo hi:Option Int)(n:Nat):Xo lo hi 1 (n:Int)=(((sIx n 0 lo:Nat):Int),((sIx n n hi:Nat):Int)):=by
 have h1 : ¬ ((1:Int)<0):=by lia
 unfold Xo;simp only[h1,if_false];refine WS ?_ ?_
 .cases lo with
  |none=>rfl
  |some v=>exact FV v n 0
 .cases hi with
  |none=>rfl
  |some v=>exact FV v n n
def AJ(i j:Nat):Wc (i:Int) (j:Int) 1=j-i:=by
 unfold Wc;have h1:(1:Int) > 0:=by lia
 simp only[h1,if_true,Int.ediv_one];split <;> lia
def ot{Q:Option Int->SZ->Prop}(p:ZaV v o)(h:Q o s):wpAny (model prog w) A (Xe.Slice.slicePartIndex v) Q E s:=by
 cases p with
 |none=>exact slicePart_none h
 |int i t=>exact slicePart_int h
def jK{lo:Option Int}{Q:Int×Int×Nat->SZ->Prop}(hs:s.heap.IsSliceOf sl vl vu .none)(pl:ZaV vl lo)(pu:ZaV vu hi)
  (h:Q (((sIx n 0 lo:Nat):Int),1,sIx n n hi-sIx n 0 lo) s):wpAny (model prog w) A (YE (.ref sl) (pure (n:Int))) Q E s:=by
 obtain⟨os,hos,hcs,hds⟩:=id hs;unfold YE Xe.Slice.sliceFields;refine SQ (SQ (Vq hos hds (x:=vl) rfl (SQ (Vq hos hds (x:=vu) rfl (SQ (Vq hos hds (x:=.none) rfl (Td ?_)))))));refine SQ (slicePart_none ?_);show wpAny _ _ (if ((1:Int) == 0)=true then _ else _) _ _ s;rw[if_neg (by decide)];refine SQ (ot pl (SQ (ot pu (SQ (Td ?_)))));show wpAny _ _ (match Xo lo hi 1 (n:Int) with|(lo,hi)=>pure (lo,(1:Int),Wc lo hi 1)) _ _ s;rw[Bl lo hi n];show wpAny _ _ (pure (((sIx n 0 lo:Nat):Int),(1:Int),Wc ((sIx n 0 lo:Nat):Int) ((sIx n n hi:Nat):Int) 1)) _ _ s;rw[AJ];exact Td h
def HE(xs:Array SW)(i k:Nat):((TC k).filterMap λ(m:Nat)=>xs[((i:Int)+(m:Int)*1).toNat]?).toArray=((xs.toList.drop i).take k).toArray:=by
 have e:(λ(m:Nat)=>xs[((i:Int)+(m:Int)*1).toNat]?)=λm=>xs[i+m]?:=by
  funext m
  have:((i:Int)+(m:Int)*1).toNat=i+m:=by lia
  rw[this]
 rw[e]
 have:=pick_run xs i k
 rw[List.filterMap_map] at this;have e2:((λx=>xs[x]?)∘λx=>i+x)=λm=>xs[i+m]?:=rfl
 rw[e2] at this;rw[this]
def ji{lo:Option Int}{Q:SW->SZ->Prop}(ht:IsTup s.heap t items)(hs:s.heap.IsSliceOf sl vl vu .none)(pl:ZaV vl lo)(pu:ZaV vu hi)
  (hw : ¬ (sIx items.size 0 lo=0/\sIx items.size items.size hi=items.size))
  (h:Q (.ref s.heap.objs.size) {s with heap:=s.heap.push {cls:=.type "tuple",data:=.seq ((items.toList.drop (sIx items.size 0 lo)).take (sIx items.size items.size hi-sIx items.size 0 lo)).toArray}})
  (hsz:items.size<=sizeLine):wpAny (model prog w) A (getItem (.ref t) (.ref sl)) Q E s:=by
 have htake:sizeOk (.seq ((items.toList.drop (sIx items.size 0 lo)).take (sIx items.size items.size hi-sIx items.size 0 lo)).toArray):=by
  show((items.toList.drop (sIx items.size 0 lo)).take (sIx items.size items.size hi-sIx items.size 0 lo)).toArray.size<=sizeLine;rw[Tt,Ta,Us,Uv];lia
 have hj:sIx items.size items.size hi<=items.size:=No _ _ (SR _) hi;obtain⟨os,hos,hcs,hds⟩:=id hs;have hTs:s.TypeIs (.ref sl) "slice":=⟨os,hos,hcs⟩
 unfold getItem
 try with_reducible refine Vi ?_
 first|refine SQ (Td ?_)|skip
 refine SQ (wpAny_sequenceKey ht.typeIs (by decide) ?_)
 refine SQ (UL (name:=WM "__getitem__") ht.typeIs Wv
  (Vr Wv ht.typeIs entry_tuple_getitem ?_ (args_tuple_getitem _ _)))
 show wpAny _ _ (YF (.ref t) >>= _) _ _ s;refine SQ (tupleItemsOf_ ht ?_);refine SQ (wpAny_typeOf hTs ?_);rw[if_pos (by decide)];refine SQ (jK hs pl pu ?_)
 have hno : ¬ ((((sIx items.size 0 lo:Nat):Int) == 0 && (1:Int) == 1 && (sIx items.size items.size hi-sIx items.size 0 lo) == items.size)=true):=by
  intro q;rw[U5,U5] at q;have q1:((sIx items.size 0 lo:Nat):Int)=0:=eq_of_beq q.1.1;have q2:sIx items.size items.size hi-sIx items.size 0 lo=items.size:=eq_of_beq q.2;exact hw ⟨∅,∅⟩
 show wpAny _ _ (if (((sIx items.size 0 lo:Nat):Int) == 0 && (1:Int) == 1 && (sIx items.size items.size hi-sIx items.size 0 lo) == items.size)=true then _ else _) _ _ s;rw[if_neg hno,HE]
 first
  |exact SQ (m:=Wr _) (Uy (Td ⟨_,rfl,Td h⟩) htake)
  |exact SQ (m:=Wr _) (Uy (SQ (Td (Td ⟨_,rfl,Td h⟩))) htake)
  |exact SQ (SQ (m:=Wr _) (Uy (Td (Td ⟨_,rfl,Td h⟩)) htake))
  |exact SQ (SQ (m:=Wr _) (Uy (Td ⟨_,rfl,Td h⟩) htake))
end
end HT
namespace L2
open PySem PySem.Spec PyProof.Rows
nonrec def TO:=St->Hp->(Option Int->Hp->Prop)->Prop
abbrev PO(X:Cx)(e:Option Expr)(t:TO):Prop :=
 ∀(ξ:List (Addr×Obj)) (s:SZ) (σ:St) (H:Hp) (Q:Option Int->Hp->Prop),Inv X ξ σ H s->t σ H Q ->
  wpAny (model X.prog X.w) X.A (evalPart e X.env) (λu s'=>∃o H',Inv X ξ σ H' s'/\ZaV u o/\Q o H') X.xe s
abbrev fz:TO:=λ_ H Q=>Q none H
abbrev g6(t:TE):TO:=λσ H Q=>t σ H λx H1=>∃i,x=.int i/\Q (some i) H1
section
variable{X:Cx}{e:Expr}{te:TE}{lo hi:Option Expr}{tl th:TO}{pos p2:Pos}
def Lj:PO X none fz:=by
 intro ξ s σ H Q I h;rw[evalPart_none];exact Td ⟨none,H,I,.none,h⟩
def Li(h:PE X e te):PO X (some e) (g6 te):=by
 intro ξ s σ H Q I hw;rw[evalPart_some];refine bg (h ξ s σ H _ I hw) λu s1 ω=>?_;obtain⟨x,H1,I1,r1,q1⟩:=ω
 obtain⟨i,rfl,q⟩:=q1;obtain⟨t,rfl⟩:=r1;exact⟨some i,H1,I1,.int i t,q⟩
abbrev P8(X:Cx)(r:V->Option Int->Option Int->Hp->VK->Prop):Prop :=
 ∀(ξ:List (Addr×Obj)) (s:SZ) (σ:St) (H:Hp) (x:V) (v vl vu:SW) (lo hi:Option Int) (sl:Addr) (Q:VK),Inv X ξ σ H s->RelV x v->s.heap.IsSliceOf sl vl vu .none->ZaV vl lo->ZaV vu hi->r x lo hi H Q ->
  ∃T id,typeLookup (.type T) "__getitem__"=pure (some (.builtin id))/\s.TypeIs v T/\wpAny (model X.prog X.w) X.A (getItem v (.ref sl)) (EP X ξ σ Q) X.xe s
abbrev CA(r:V->Option Int->Option Int->Hp->VK->Prop)(te:TE)(tl th:TO):TE:=λσ H Q=>te σ H λx H1=>tl σ H1 λl H2=>th σ H2 λu H3=>r x l u H3 Q
def HJ(hr:P8 X r)(he:PE X e te)(hl:PO X lo tl)(hu:PO X hi th):PE X (.Subscript e (.Slice lo hi none p2) pos) (CA r te tl th):=by
 intro ξ s σ H Q I h;refine Subscript_ (bg (he ξ s σ H _ I h) λv s1 ω=>?_);obtain⟨x,H1,I1,r1,q1⟩:=ω;refine wpAny_Slice (bg (hl ξ s1 σ H1 _ I1 q1) λvl s2 ⟨l,H2,I2,pl,q2⟩=>bg (hu ξ s2 σ H2 _ I2 q2) λvu s3 ω=>?_);obtain⟨u,H3,I3,pu,q3⟩:=ω;rw[evalPart_none];refine Td ?_;have I4:Inv X ξ σ H3 {s3 with heap:=s3.heap.push {cls:=.type "slice",data:=.fields #[vl,vu,.none]}}:=I3.kept (t':=s3.toks) λb ob q=>SY _ q
 obtain⟨T,id,hT,ht,hg⟩:=hr ξ {s3 with heap:=s3.heap.push {cls:=.type "slice",data:=.fields #[vl,vu,.none]}} σ H3 x v vl vu l u s3.heap.objs.size Q I4 r1 (Heap.IsSliceOf.new ..) pl pu q3;show wpAny (model X.prog X.w) X.A (subscriptTail e (.Slice lo hi none p2) v (.ref s3.heap.objs.size)) (EP X ξ σ Q) X.xe {s3 with heap:=s3.heap.push {cls:=.type "slice",data:=.fields #[vl,vu,.none]}};exact tail_any (ops:=[.ref s3.heap.objs.size,v]) ht hT hg (by with_unfolding_all rfl)
abbrev eQ(xs:List V)(lo hi:Option Int):List V:=(xs.drop (HT.sIx (Wi xs) 0 lo)).take (HT.sIx (Wi xs) (Wi xs) hi-HT.sIx (Wi xs) 0 lo)
def mC(xs:List V)(lo hi:Option Int):(eQ xs lo hi).length<=Wi xs:=by
 unfold eQ;rw[Ta,Us];lia
abbrev K9(K:Fg):V->Option Int->Option Int->Hp->VK->Prop:=λx lo hi H Q=>∃a xs,x=.ref a/\SqT K H a xs /\
 ¬ (HT.sIx (Wi xs) 0 lo=0/\HT.sIx (Wi xs) (Wi xs) hi=Wi xs)/\∀p,H p=none->Q (.ref p) (upd H p (.tup (eQ xs lo hi)))
def Nj:P8 X (K9 X.K):=by
 intro ξ s σ H x v vl vu lo hi sl Q I rx hs pl pu h;obtain⟨a,xs,rfl,hx,hw,q⟩:=h;cases rx;obtain⟨ab,r,ht,hz⟩:=I.tuple hx;have hlen:ab.toArray.size=Wi xs:=by rw[Tt];exact r.length.symm
 refine⟨"tuple",_,Wv.lookup,ht.typeIs,?_⟩;refine HT.ji ht hs pl pu (by rw[hlen];exact hw) ?_ (by rw[hlen];exact hz);rw[hlen];refine⟨.ref s.heap.objs.size,_,I.laid (t':=s.toks) (o:=.tup (eQ xs lo hi)) (λb ob q=>SY _ q) (SR _) ?_,rfl,q _ (I.hok.fresh (SR _))⟩;exact⟨TQ (mC xs lo hi) hz,_,(r.drop (HT.sIx (Wi xs) 0 lo)).take (HT.sIx (Wi xs) (Wi xs) hi-HT.sIx (Wi xs) 0 lo),TupD.new _ _⟩
abbrev NI(K:Fg):R2:=λx y H Q=>∃a b xs ys,x=.ref a/\y=.ref b/\SqT K H a xs/\SqT K H b ys/\xs≠[]/\xs.length+ys.length<=sizeLine /\
 (ys=[]->Q (.ref a) H)/\(ys≠[]->∀p,H p=none->Q (.ref p) (upd H p (.tup (xs++ys))))
def Vals.xh(r:Vals xs us):us=[]↔xs=[]:=by
 cases r with
 |nil=>simp
 |cons _ _=>simp
def LD:fh X (binaryOp .Add) (NI X.K):=by
 intro ξ s σ H x y v u Q I rx ry h;obtain⟨a,b,xs,ys,rfl,rfl,ha,hb,hx,hz,q1,q2⟩:=h;cases rx;cases ry;obtain⟨ab,r1,p1,_⟩:=I.tuple ha;obtain⟨its2,r2,p2,_⟩:=I.tuple hb;refine HT.MB p1 p2 (λz=>hx (r1.xh.mp z)) (λz=>⟨.ref a,H,I,rfl,q1 (r2.xh.mp z)⟩) (λz=>?_) (by rw[<- r1.length,<- r2.length];exact hz);refine⟨.ref s.heap.objs.size,_,I.laid (t':=s.toks) (o:=.tup (xs++ys)) (λb ob q=>SY _ q) (SR _) ?_,rfl,q2 (λw=>z (r2.xh.mpr w)) _ (I.hok.fresh (SR _))⟩;exact⟨by rw[To];exact hz,_,r1.append r2,TupD.new _ _⟩
end
abbrev Bs(n:Nat)(i:Int):Option Nat:=if 0<=i then (if i<n then some i.toNat else none) else if -(n:Int)<=i then some (i+n).toNat else none
abbrev kh{α:Type}(xs:List α)(i:Int):Option α:=(Bs (Wi xs) i).bind λj=>xs[j]?
def E3{j:Nat}(h:Bs n i=some j):seqIndex? i n=some j/\j<n/\-(n:Int)<=i/\i<n:=by
 unfold Bs at h;by_cases h0:0<=i
 .rw[if_pos h0] at h;by_cases h1:i<n
  .rw[if_pos h1] at h;have e:i.toNat=j:=TH h;exact⟨by rw[ZbM h0 h1,e],∅,∅,h1⟩
  .rw[if_neg h1] at h;cases h
 .rw[if_neg h0] at h;by_cases h1 : -(n:Int)<=i
  .rw[if_pos h1] at h;have e:(i+n).toNat=j:=TH h;exact⟨by rw[Zbc ∅ h1,e],∅,h1,∅⟩
  .rw[if_neg h1] at h;cases h
def xL{α:Type}{xs:List α}{v:α}(h:kh xs i=some v):∃j,seqIndex? i (Wi xs)=some j/\xs[j]?=some v/\j<(Wi xs)/\-(Wi xs:Int)<=i/\i<Wi xs:=by
 unfold kh at h;cases e:Bs (Wi xs) i with
 |none=>rw[e] at h;cases h
 |some j =>
  rw[e] at h;obtain⟨h1,h2,h3,h4⟩:=E3 e;exact⟨j,h1,h,h2,h3,h4⟩
def ba{α:Type}{xs:List α}{j:Nat}{v:α}(h:xs[j]?=some v):kh xs (j:Int)=some v:=by
 have hj:j<Wi xs:=(SL.mp h).1
 have e:Bs (Wi xs) (j:Int)=some j:=by
  unfold Bs;rw[if_pos ∅,if_pos ∅];simp
 unfold kh;rw[e];exact h
def iF{α:Type}(xs:List α)(v:α):kh (xs++[v]) (-1)=some v:=by
 have hl:(xs++[v]).length=Wi xs+1:=by simp
 have e:Bs (xs++[v]).length (-1)=some (Wi xs):=by
  unfold Bs;rw[hl,if_neg (by decide),if_pos ∅];congr 1;lia
 unfold kh;rw[e];show(xs++[v])[Wi xs]?=some v;simp
abbrev MO(b:Expr):Prop:=∀o i,subscripted b false o i=operate [o,i] (getItem o i)
abbrev IxR(X:Cx)(r:R2):Prop :=
 ∀(value slice:Expr) (ξ:List (Addr×Obj)) (s:SZ) (σ:St) (H:Hp) (x y:V) (v u:SW) (Q:VK),Inv X ξ σ H s->RelV x v->RelV y u->r x y H Q ->
  subscripted slice false v u=operate [v,u] (getItem v u)->wpAny (model X.prog X.w) X.A (subscriptTail value slice v u) (EP X ξ σ Q) X.xe s
abbrev MZ(X:Cx)(id:String)(r:V->List V->Hp->VK->Prop):Prop :=
 ∀(ξ:List (Addr×Obj)) (s:SZ) (σ:St) (H:Hp) (x:V) (xs:List V) (v:SW) (us:List SW) (Q:VK),Inv X ξ σ H s->RelV x v->Vals xs us->r x xs H Q ->
  wpAny (model X.prog X.w) X.A (call (.builtin id) (v :: us)) (EP X ξ σ Q) X.xe s
section
variable{X:Cx}{a b:Expr}{ta tb:TE}{pos:Pos}
def IxR.or(h:IxR X r)(h':IxR X r'):IxR X (λx y H Q=>r x y H Q\/r' x y H Q):=by
 intro value slice ξ s σ H x y v u Q I rx ry q hs;rcases q with q|q
 .exact h value slice ξ s σ H x y v u Q I rx ry q hs
 .exact h' value slice ξ s σ H x y v u Q I rx ry q hs
def Ls(hr:IxR X r)(ha:PE X a ta)(hb:PE X b tb)(hs:MO b):PE X (.Subscript a b pos) (ao r ta tb):=by
 intro ξ s σ H Q I h;exact Subscript_ (MD ha hb I h λv u s2 x y H2 I2 rx ry q=>hr a b ξ s2 σ H2 x y v u Q I2 rx ry q (hs _ _))
abbrev cQ(K:Fg):R2:=λx y H Q=>∃p xs i v,x=.ref p/\y=.int i/\SqL K H p xs/\kh xs i=some v/\Q v H
abbrev aH(K:Fg):R2:=λx y H Q=>∃p xs i v,x=.ref p/\y=.int i/\SqT K H p xs/\kh xs i=some v/\Q v H
abbrev Hz:R2:=λx y H Q=>∃z i c,x=.str z/\y=.int i/\z.length<=sizeLine/\kh z.cps.toList i=some c/\Q (.str ⟨#[c]⟩) H
def EZ:IxR X (cQ X.K):=by
 intro value slice ξ s σ H x y v u Q I rx ry h hs;obtain⟨p,xs,i,z,rfl,rfl,hq,he,q⟩:=h;cases rx;obtain⟨t,rfl⟩:=ry;obtain⟨ab,r,pl,hz⟩:=I.list hq;obtain⟨j,h1,h2,h3,h4,h5⟩:=xL he;obtain⟨w,ew,rw'⟩:=r.get h2;have hl:=r.length;have hn:=oD;have fin:EP X ξ σ Q w s:=⟨z,H,I,rw',q⟩
 by_cases h0:0<=i
 .have hj:i.toNat=j:=by
   rw[ZbM h0 h5] at h1;exact TH h1
  exact item_listR pl.isList h0 ∅ (by rw[hj];simpa using ew) fin hs
 .have hj:(i+(ab.toArray.size:Int)).toNat=j:=by
   rw[Zbc ∅ h4] at h1;rw[Tt,<- hl];exact TH h1
  exact ZE (x:=w) pl.isList.typeIs slot_list_getitem.lookup
   (wpAny_getItem_list_neg (Q:=λr s'=>r=w/\EP X ξ σ Q r s') pl.isList ∅ (by rw[Tt] <;> lia) ∅ (by rw[hj];simpa using ew) ⟨rfl,fin⟩) hs
def JN:IxR X (aH X.K):=by
 intro value slice ξ s σ H x y v u Q I rx ry h hs;obtain⟨p,xs,i,z,rfl,rfl,hq,he,q⟩:=h;cases rx;obtain⟨t,rfl⟩:=ry;obtain⟨ab,r,pl,hz⟩:=I.tuple hq;obtain⟨j,h1,h2,h3,h4,h5⟩:=xL he;obtain⟨w,ew,rw'⟩:=r.get h2;have hl:=r.length;have hn:=oD;have fin:EP X ξ σ Q w s:=⟨z,H,I,rw',q⟩
 exact ZE (x:=w) pl.typeIs slot_tuple_getitem.lookup
  (getItem_tuple (j:=j) (Q:=λr s'=>r=w/\EP X ξ σ Q r s') pl ∅ ∅ (by rw[Tt,<- hl];exact h1) (by simpa using ew) ⟨rfl,fin⟩) hs
def JO:IxR X Hz:=by
 intro value slice ξ s σ H x y v u Q I rx ry h hs;obtain⟨z,i,c,rfl,rfl,hz,he,q⟩:=h;obtain⟨t,rfl⟩:=rx;obtain⟨t',rfl⟩:=ry;obtain⟨j,h1,h2,h3,h4,h5⟩:=xL he;have hl:z.cps.toList.length=z.length:=by simp[Zb_]
 rw[hl] at h1 h4 h5;have hn:=oD
 exact tail_any (Xz s z t) slot_str_getitem.lookup (getItem_str (c:=c) (by
  have e1:decide (i < -(2 ^ 63:Int))=false:=decide_eq_false ∅
  have e2:decide (i≥2 ^ 63)=false:=decide_eq_false ∅
  rw[e1,e2,Zcg]) (by rw[h1];simpa using h2) ⟨.str ⟨#[c]⟩,H,I.tok _,⟨_,rfl⟩,q⟩) hs
abbrev Lb(K:Fg):R2:=λx y H Q=>cQ K x y H Q\/aH K x y H Q\/Hz x y H Q
def JP:IxR X (Lb X.K):=EZ.or (JN.or JO)
def A_(ab:List SW) (n j:Nat) (u:SW):X4 (·.setIfInBounds j u) {cls:=.type "list",data:=.seq ab.toArray n} = {cls:=.type "list",data:=.seq (ab.set j u).toArray n}:=by
 simp[X4]
def Inv.lst{ξ:List (Addr×Obj)}{σ:St}{H:Hp}{s:SZ}{p:Addr}{xs:List V}(I:Inv X ξ σ H s)(h:H p=some (.lst xs)) :
  ∃(ab:List SW) (n:Nat),Vals xs ab/\s.heap.get? p=some {cls:=.type "list",data:=.seq ab.toArray n}/\xs.length<=sizeLine:=by
 obtain⟨z,ab,n,r,e⟩:=I.hok p _ h;exact⟨ab,n,r,e,z⟩
def Inv.Ox{H:Hp}{ab its':List SW}{f:Obj->Obj}(I:Inv X ξ σ H s)(h:H p=some (.lst xs))
  (ho:s.heap.get? p=some {cls:=.type "list",data:=.seq ab.toArray n}) (hf:f {cls:=.type "list",data:=.seq ab.toArray n} = {cls:=.type "list",data:=.seq its'.toArray n'}) (r:Vals ys its') (hz:Wi ys<=sizeLine) (t:Nat) :
  Inv X ξ σ (upd H p (.lst ys)) {s with heap:=s.heap.update p f,toks:=t}:=by
 have e:(s.heap.update p f).get? p=some {cls:=.type "list",data:=.seq its'.toArray n'}:=by
  rw[VE f ho (by rw[hf] <;> rfl),hf]
 refine I.write (x:=p) (e:=p) (by rw[h];trivial) (.inl rfl) (λb u hb q=>(VW _ _ (XN hb)).trans q) ⟨_,e⟩ ?_;exact⟨hz,its',n',r,e⟩
abbrev K_:V->V->V->Hp->(Hp->Prop)->Prop:=λo i v H Q=>∃p xs k j,o=.ref p/\i=.int k/\H p=some (.lst xs)/\Bs (Wi xs) k=some j/\Q (upd H p (.lst (xs.set j v)))
def C0:Qb X K_:=by
 intro ξ s σ H o i v ov iv u Q I ro ri rv h;obtain⟨p,xs,k,j,rfl,rfl,hp,hj,q⟩:=h;cases ro;obtain⟨t,rfl⟩:=ri;obtain⟨ab,n,r,ho,hz⟩:=I.lst hp;obtain⟨h1,h2,h3,h4⟩:=E3 hj;have hl:=r.length;have hn:=oD
 have I':Inv X ξ σ (upd H p (.lst (xs.set j v))) {s with heap:=s.heap.update p (X4 (·.setIfInBounds j u))} :=
  I.Ox hp ho (A_ ab n j u) (r.set rv j) (by rw[ZR];exact hz) s.toks
 by_cases h0:0<=k
 .have hk:k.toNat=j:=by
   rw[ZbM h0 h4] at h1;exact TH h1
  exact PySem.W.ki_setAt ho h0 ∅ (by rw[Tt,<- hl];exact h4) (by rw[hk];exact⟨_,I',q⟩)
 .have hk:(k+(ab.toArray.size:Int)).toNat=j:=by
   rw[Zbc ∅ h3] at h1;rw[Tt,<- hl];exact TH h1
  exact PySem.W.ki_setBack ho ∅ (by rw[Tt,<- hl];exact h3) ∅ (by rw[hk];exact⟨_,I',q⟩)
def sE(lo hi:Option Int)(n:Nat):(sliceBounds lo hi none n).1=((HT.sIx n 0 lo:Nat):Int)/\(sliceBounds lo hi none n).2.1=((HT.sIx n n hi:Nat):Int)/\(sliceBounds lo hi none n).2.2=1:=by
 refine⟨?_,?_,rfl⟩
 .cases lo with
  |none=>simp[sliceBounds,HT.sIx]
  |some i =>
   simp only[sliceBounds,HT.sIx,ZbC,show(1:Int) > 0 by decide,if_true];by_cases h:i<0
   .simp only[h,if_true] <;> lia
   .simp only[h,if_false] <;> lia
 .cases hi with
  |none=>simp[sliceBounds,HT.sIx]
  |some i =>
   simp only[sliceBounds,HT.sIx,ZbC,show(1:Int) > 0 by decide,if_true];by_cases h:i<0
   .simp only[h,if_true] <;> lia
   .simp only[h,if_false] <;> lia
def qh(ab:List SW)(lo hi:Option Int):slicePick ab.toArray lo hi none=((ab.drop (HT.sIx (Wi ab) 0 lo)).take (HT.sIx (Wi ab) (Wi ab) hi-HT.sIx (Wi ab) 0 lo)).toArray:=by
 obtain⟨h1,h2,h3⟩:=sE lo hi ab.toArray.size;unfold slicePick;rw[h1,h2,h3];simp only[sliceRange_one,pick_run,Tt] <;> rfl
abbrev tm(K:Fg):V->Option Int->Option Int->Hp->VK->Prop:=λx lo hi H Q=>∃a xs,x=.ref a/\SqL K H a xs/\∀p,H p=none->Q (.ref p) (upd H p (.lst (eQ xs lo hi)))
def Ky:P8 X (tm X.K):=by
 intro ξ s σ H x v vl vu lo hi sl Q I rx hs pl pu h;obtain⟨a,xs,rfl,hx,q⟩:=h;cases rx;obtain⟨ab,r,ht,hz⟩:=I.list hx;have hlen:=r.length;refine⟨"list",_,slot_list_getitem.lookup,ht.isList.typeIs,?_⟩;refine wpAny_getItem_list_slice ht.isList hs pl pu .none (by simp) ?_ (by rw[Tt] <;> lia);rw[qh,<- hlen];refine⟨.ref s.heap.objs.size,_,I.laid (t':=s.toks) (o:=.lst (eQ xs lo hi)) (λb ob q=>SY _ q) (SR _) ?_,rfl,q _ (I.hok.fresh (SR _))⟩;exact⟨TQ (mC xs lo hi) hz,_,0,(r.drop (HT.sIx (Wi xs) 0 lo)).take (HT.sIx (Wi xs) (Wi xs) hi-HT.sIx (Wi xs) 0 lo),Tx _ rfl⟩
abbrev nU:V->Bool
 |.non=>true
 |.bl _=>true
 |.int _=>true
 |.str _=>true
 |_=>false
abbrev Gi:V->V->Bool
 |.non,.non=>true
 |.bl a,.bl b=>a == b
 |.bl a,.int b=>(if a then 1 else 0) == b
 |.int a,.bl b=>a == (if b then 1 else 0)
 |.int a,.int b=>a == b
 |.str a,.str b=>a == b
 |_,_=>false
def Py(ry:RelV y u)(rx:RelV x v)(fy:nU y=true)(fx:nU x=true):Vo A s u v (Gi y x):=by
 cases y with
 |non =>
  cases ry;cases x with
  |non=>cases rx;exact Vo.same _
  |bl b=>cases rx;exact Vo.none_bool b
  |int b=>obtain⟨t,rfl⟩:=rx;exact Vo.none_int b t
  |str b=>obtain⟨t,rfl⟩:=rx;exact Vo.none_str b t
  |_=>exact absurd (show false=true from fx) Th
 |bl a =>
  cases ry;cases x with
  |non=>cases rx;exact Vo.bool_none a
  |bl b=>cases rx;exact Vo.bool_bool a b
  |int b=>obtain⟨t,rfl⟩:=rx;exact Vo.bool_int a b t
  |str b=>obtain⟨t,rfl⟩:=rx;exact Vo.bool_str a b t
  |_=>exact absurd (show false=true from fx) Th
 |int a =>
  obtain⟨t',rfl⟩:=ry;cases x with
  |non=>cases rx;exact Vo.int_none a t'
  |bl b=>cases rx;exact Vo.int_bool a t' b
  |int b=>obtain⟨t,rfl⟩:=rx;exact Vo.int_int a t' b t
  |str b=>obtain⟨t,rfl⟩:=rx;exact ZaS a t' b t
  |_=>exact absurd (show false=true from fx) Th
 |str a =>
  obtain⟨t',rfl⟩:=ry;cases x with
  |non=>cases rx;exact Vo.str_none a t'
  |bl b=>cases rx;exact Vo.str_bool a t' b
  |int b=>obtain⟨t,rfl⟩:=rx;exact ZaT a t' b t
  |str b=>obtain⟨t,rfl⟩:=rx;exact Vo.str_str a t' b t
  |_=>exact absurd (show false=true from fx) Th
 |_=>exact absurd (show false=true from fy) Th
abbrev IL(x:V)(u:SW):Bool:=match u with
 |.none=>Gi .non x
 |.bool b=>Gi (.bl b) x
 |.int i _=>Gi (.int i) x
 |.str z _=>Gi (.str z) x
 |_=>false
def JX(r:RelV y u)(f:nU y=true):IL x u=Gi y x:=by
 cases y with
 |non=>cases r;rfl
 |bl b=>cases r;rfl
 |int i=>obtain⟨t,rfl⟩:=r;rfl
 |str z=>obtain⟨t,rfl⟩:=r;rfl
 |_=>exact absurd (show false=true from f) Th
def xN{x:V}:∀{xs:List V} {us:List SW},Vals xs us->xs.all nU=true->us.any (IL x)=xs.any λy=>Gi y x
 |_,_,.nil,_=>rfl
 |y :: xs,u :: us,.cons r t,f=>by
  rw[Y9,U5] at f;rw[Xr,Xr,JX r f.1,xN t f.2]
def qJ{A:Ud}{s:SZ}{x:V}{v:SW}(rx:RelV x v)(fx:nU x=true):∀{xs:List V} {us:List SW},Vals xs us->xs.all nU=true->∀u∈us,Vo A s u v (IL x u)
 |_,_,.nil,_=>λu hu=>by cases hu
 |y :: xs,u :: us,.cons r t,f=>λu' hu=>by
  rw[Y9,U5] at f;rcases Tu.mp hu with rfl|hu
  .rw[JX r f.1];exact Py r rx f.1 fx
  .exact qJ rx fx t f.2 u' hu
abbrev Ph(x:V)(xs:List V):Bool:=xs.any λy=>Gi y x
abbrev QF(K:Fg)(dY:Bool):R2:=λx y H Q=>∃p xs,y=.ref p/\(SqL K H p xs\/SqT K H p xs)/\nU x=true/\xs.all nU=true/\Q (.bl (if dY then !Ph x xs else Ph x xs)) H
def Eh:fh X (compareOp .In) (QF X.K false):=by
 intro ξ s σ H x y v u Q I rx ry h;obtain⟨p,xs,rfl,hq,fx,fs,q⟩:=h;cases ry;rcases hq with hq|hq
 .obtain⟨ab,r,pl,hz⟩:=I.list hq;refine SeqAt.in_listAt (IL x) pl.isList (λw hw=>qJ rx fx r fs w (by simpa using hw)) ⟨.bl _,H,I,rfl,?_⟩;rw[show ab.toArray.any (IL x)=ab.any (IL x) by simp,xN r fs];exact q
 .obtain⟨ab,r,pl,hz⟩:=I.tuple hq;refine SeqAt.in_tupleAt (IL x) pl (λw hw=>qJ rx fx r fs w (by simpa using hw)) ⟨.bl _,H,I,rfl,?_⟩;rw[show ab.toArray.any (IL x)=ab.any (IL x) by simp,xN r fs];exact q
def dG:fT X (.builtin "len") (λxs H Q=>∃p ys,xs=[.ref p]/\(SqL X.K H p ys\/SqT X.K H p ys)/\Q (.int (Wi ys)) H):=by
 intro ξ s σ H xs us Q I r h;obtain⟨p,ys,rfl,hq,q⟩:=h;obtain⟨u,rfl,rx⟩:=vals1 r;cases rx;have hn:=oD;rcases hq with hq|hq
 .obtain⟨ab,r',pl,hz⟩:=I.list hq;have hlen:=r'.length;exact Calls.call_len_list pl.isList (by simp only[Tt] <;> lia) ⟨.int (Wi ys),H,I.tok _,⟨s.toks+1,by rw[Tt,hlen]⟩,q⟩
 .obtain⟨ab,r',pl,hz⟩:=I.tuple hq;have hlen:=r'.length;exact len_tuple pl (by simp only[Tt] <;> lia) ⟨.int (Wi ys),H,I.tok _,⟨s.toks+1,by rw[Tt,hlen]⟩,q⟩
def uI:fT X (.builtin "len") (λxs H Q=>∃z,xs=[.str z]/\z.length<=sizeLine/\Q (.int z.length) H):=by
 intro ξ s σ H xs us Q I r h;obtain⟨z,rfl,hz,q⟩:=h;obtain⟨u,rfl,t,rfl⟩:=vals1 r;have hn:=oD;exact len_str ∅ ⟨.int z.length,H,I.tok _,⟨_,rfl⟩,q⟩
def uH:fT X (.type "list") (λxs H Q=>∃p ys,xs=[.ref p]/\(SqL X.K H p ys\/SqT X.K H p ys)/\∀l,H l=none->Q (.ref l) (upd H l (.lst ys))):=by
 intro ξ s σ H xs us Q I r h;obtain⟨p,ys,rfl,hq,q⟩:=h;obtain⟨u,rfl,rx⟩:=vals1 r;cases rx
 have fin:∀(ab:List SW),Vals ys ab->Wi ys<=sizeLine->∀(h':Heap) (c':Nat),(∀b o',s.heap.get? b=some o'->h'.get? b=some o') ->
   h'.get? s.heap.objs.size=some {cls:=.type "list",dict:=none,data:=.seq ab.toArray c',slots:=#[]}->EP X ξ σ Q (.ref s.heap.objs.size) {s with heap:=h'}:=λab r' hz h' c' kp e =>
  ⟨.ref s.heap.objs.size,_,I.laid (t':=s.toks) kp (SR _) (show cv X.prog X.w _ h' _ (.lst ys) from⟨hz,ab,c',r',e⟩),rfl,q _ (I.hok.fresh (SR _))⟩
 rcases hq with hq|hq
 .obtain⟨ab,r',pl,hz⟩:=I.list hq;have hlen:=r'.length;obtain⟨o,ho,hc,n,hd⟩:=pl.isList;exact call_list_seq p (.inl rfl) ho hc hd (λh' c' kp e=>fin ab r' hz h' c' kp e) (by simp only[Tt] <;> lia)
 .obtain⟨ab,r',pl,hz⟩:=I.tuple hq;have hlen:=r'.length;obtain⟨o,ho,hc,n,hd⟩:=pl;exact call_list_seq p (.inr rfl) ho hc hd (λh' c' kp e=>fin ab r' hz h' c' kp e) (by simp only[Tt] <;> lia)
def rE:fT X (.type "tuple") (λxs H Q=>∃p ys,xs=[.ref p]/\((SqL X.K H p ys/\∀l,H l=none->Q (.ref l) (upd H l (.tup ys)))\/(SqT X.K H p ys/\Q (.ref p) H))):=by
 intro ξ s σ H xs us Q I r h;obtain⟨p,ys,rfl,h⟩:=h;obtain⟨u,rfl,rx⟩:=vals1 r;cases rx;rcases h with⟨hq,q⟩|⟨hq,q⟩
 .obtain⟨ab,r',pl,hz⟩:=I.list hq;have hlen:=r'.length;refine call_tuple_list pl.isList (λh' kp=>?_) (by simp only[Tt] <;> lia);have I1:Inv X ξ σ H {s with heap:=h'}:=I.kept (t':=s.toks) kp
  have I2:Inv X ξ σ (upd H h'.objs.size (.tup ys)) {s with heap:=h'.push {cls:=.type "tuple",data:=.seq ab.toArray}} :=
   I1.laid (t':=s.toks) (λb o e=>SY _ e) (SR _) (show cv X.prog X.w _ _ _ (.tup ys) from⟨hz,ab,r',TupD.new _ _⟩)
  exact⟨.ref h'.objs.size,_,I2,rfl,q _ (I1.hok.fresh (SR _))⟩
 .obtain⟨ab,r',pl,hz⟩:=I.tuple hq;exact call_tuple_same pl ⟨.ref p,H,I,rfl,q⟩
abbrev M6(K:Fg)(T:String)(x:V)(H:Hp):Prop:=match x with
 |.str _=>T = "str"
 |.int _=>T = "int"
 |.ref p=>(T = "list"/\∃xs,SqL K H p xs)\/(T = "tuple"/\∃o,K.lookup p=some o/\o.cls=.type "tuple"/\o.dict=none) \/
   (T = "dict"/\((∃dk,H p=some (.dK dk))\/∃dk,H p=some (.dT dk)))\/(T = "set"/\∃S n,H p=some (.set S n))
 |_=>False
def M5{H:Hp}(I:Inv X ξ σ H s)(r:RelV x v)(ty:M6 X.K T x H) :
  s.TypeIs v T/\∀a,v=.ref a->∃ob,s.heap.get? a=some ob/\ob.dict=none:=by
 cases x with
 |str z =>
  obtain⟨t,rfl⟩:=r;cases (show T = "str" from ty);exact⟨Xz s z t,λ_ e=>nomatch e⟩
 |int i =>
  obtain⟨t,rfl⟩:=r;cases (show T = "int" from ty);exact⟨typeIs_int s i t,λ_ e=>nomatch e⟩
 |ref p =>
  cases r;rcases ty with⟨rfl,xs,hq⟩|⟨rfl,o,hk,hc,hd⟩|⟨rfl,hk⟩|⟨rfl,S,n,hk⟩
  .obtain⟨ab,_,pl,_⟩:=I.list hq;refine⟨pl.isList.typeIs,λa e=>?_⟩;cases e;obtain⟨o,n,e,c,hd,_⟩:=pl;exact⟨o,e,hd⟩
  .refine⟨⟨o,I.kIn p o hk,hc⟩,λa e=>?_⟩;cases e;exact⟨o,I.kIn _ o hk,hd⟩
  .have z:∃o,s.heap.get? p=some o/\o.ExactDict:=by
    rcases hk with⟨dk,hk⟩|⟨dk,hk⟩
    .obtain⟨_,_,_,_,o,_,_,e,ex,_⟩:=I.hok p _ hk;exact⟨o,e,ex⟩
    .obtain⟨_,_,_,_,o,_,_,e,ex,_⟩:=I.hok p _ hk;exact⟨o,e,ex⟩
   obtain⟨o,e,ex⟩:=z;refine⟨⟨o,e,ex.1⟩,λa e2=>?_⟩;cases e2;exact⟨o,e,ex.2.1⟩
  .obtain⟨o,_,_,_,e,ex,_⟩:=I.hok p _ hk;refine⟨⟨o,e,ex.1⟩,λa e2=>?_⟩;cases e2;exact⟨o,e,ex.2.1⟩
 |_=>exact WK ty
abbrev eJ(K:Fg)(T:String)(r:V->List V->Hp->VK->Prop)(to:TE)(t:TA):TE:=λσ H Q=>to σ H λx H1=>M6 K T x H1/\t σ H1 λxs H2=>r x xs H2 Q
variable{o e:Expr}{es:List Expr}{to:TE}{t:TA}{name:Str}{apos cpos:Pos}{T id:String}{r:V->List V->Hp->VK->Prop}
def wN(pa:PlainAttrs T) (slot:Slot T name id) (hty:typeOf (.builtin id)=pure (.type "method_descriptor")) (hm:MZ X id r) (ho:PE X o to) (ha:PA X (e :: es) t)
  (hbase:attributeBase o name X.env (eval o X.env)=eval o X.env:=by rfl)
  (hfew:((backTo cpos (starEach (e :: es) X.env)).all (λx=>!x.1) && (backToKw cpos (keywordEach [] X.env)).all (λx=>x.1.isSome)
   && decide ((e :: es).length+([]:List Zb3).length+(if ([]:List Zb3).isEmpty then 0 else 1)<30))=true:=by rfl)
  (hline:(apos.endLine == cpos.line)=true:=by rfl) (hs:starEach (e :: es) X.env=(false,eval e X.env) :: starEach es X.env:=by rfl) (hplain:(backTo cpos (starEach es X.env)).any (·.1)=false:=by rfl) :
  PE X (.Call (.Attribute o name apos) (e :: es) [] cpos) (eJ X.K T r to t):=by
 intro ξ s σ H Q I h;refine wpAny_Call_method_late hbase hfew hline rfl (bg (ho ξ s σ H _ I h) λv s1 ω=>?_);obtain⟨x,H1,I1,r1,ty,q1⟩:=ω;obtain⟨h1,h2⟩:=M5 I1 r1 ty;refine⟨T,id,pa,slot,hty,h1,h2,?_⟩;have hA:=ha cpos ξ s1 σ H1 _ I1 q1;rw[hs] at hA ⊢;refine XQ (by show(false || (backTo cpos (starEach es X.env)).any (·.1))=false;rw[hplain] <;> rfl) (Yd ?_);exact bg hA (by rintro us s2 ⟨vs,H2,I2,r2,q2⟩;exact hm ξ s2 σ H2 x vs v us Q I2 r1 r2 q2)
end
abbrev So(X:Cx)(id:String)(r:V->List V->Hp->VK->Prop):Prop :=
 ∀(ξ:List (Addr×Obj)) (s:SZ) (σ:St) (H:Hp) (x:V) (xs:List V) (v:SW) (us:List SW) (Q:VK),Inv X ξ σ H s->RelV x v->Vals xs us->r x xs H Q ->
  wpAny (model X.prog X.w) X.A (call (.builtin id) (v :: us)) (EP X ξ σ Q) X.xe s
def Vals.one:∀{x:V} {us:List SW},Vals [x] us->∃u,us=[u]/\RelV x u
 |_,_,.cons r .nil=>⟨_,rfl,r⟩
def Vals.rep{xs:List V}{us:List SW}(h:Vals xs us):∀k:Nat,Vals (Tq k xs).flatten (Tq k us).flatten
 |0=>.nil
 |k+1=>by
  rw[Wx,Wx,XR,XR];exact Vals.append h (Vals.rep h k)
def foldl_rep(ab:List SW):∀(k:Nat) (acc:List SW),
  ZaW (λx1 x2=>x1++x2) acc.toArray (Tq k ab.toArray)=(acc++(Tq k ab).flatten).toArray
 |0,acc=>by simp
 |k+1,acc=>by
  have e:acc.toArray++ab.toArray=(acc++ab).toArray:=by simp
  have e2:(acc++ab)++(Tq k ab).flatten=acc++(Tq (k+1) ab).flatten:=by
   rw[Wx,XR,Ut]
  rw[<- e2,<- foldl_rep ab k (acc++ab),<- e,Wx,ZbU]
section
variable{X:Cx}{ξ:List (Addr×Obj)}{σ:St}{H:Hp}{s:SZ}{l b:Addr}{xs ys zs:List V}
def Inv.lset{ab its':List SW}{f:Array SW->Array SW}{t':Nat}(I:Inv X ξ σ H s)(hH:H l=some (.lst xs))
  (e:s.heap.get? l=some {cls:=.type "list",data:=.seq ab.toArray n}) (hf:f ab.toArray=its'.toArray) (hv:Vals ys its') (hz:Wi ys<=sizeLine) :
  Inv X ξ σ (upd H l (.lst ys)) {s with heap:=s.heap.update l (X4 f),toks:=t'}:=by
 have q:=PySem.IsL.update e f;rw[hf] at q;refine I.write (x:=l) (e:=l) (by rw[hH];exact trivial) (.inl rfl) (λb' u hb hu=>(VW s.heap (X4 f) (XN hb)).trans hu) ⟨_,q⟩ ?_;exact⟨hz,its',_,hv,q⟩
def Inv.lnew{t':Nat}(I:Inv X ξ σ H s)(hv:Vals ys ab)(hz:Wi ys<=sizeLine) :
  Inv X ξ σ (upd H s.heap.objs.size (.lst ys)) {s with heap:=s.heap.push {cls:=.type "list",data:=.seq ab.toArray},toks:=t'} :=
 I.laid (λ_ _ q=>SY _ q) (SR _) ⟨hz,ab,0,hv,Tx _ rfl⟩
def Inv.fresh(I:Inv X ξ σ H s):H s.heap.objs.size=none:=I.hok.fresh (SR _)
def Inv.lstM(I:Inv X ξ σ H s) (hH:H l=some (.lst xs)):Wi xs<=sizeLine/\∃(ab:List SW) (n:Nat),Vals xs ab/\xs.length=ab.length/\s.heap.get? l=some {cls:=.type "list",data:=.seq ab.toArray n}:=by
 obtain⟨z,ab,n,r,e⟩:=I.hok l _ hH;exact⟨z,ab,n,r,r.length,e⟩
def yL{n:Nat}(h:n<=sizeLine):Ws n=false:=by
 unfold Ws;exact decide_eq_false ∅
end
section
variable{X:Cx}
abbrev aS:V->List V->Hp->VK->Prop:=λx vs H Q=>∃l xs y,x=.ref l/\vs=[y]/\H l=some (.lst xs)/\xs.length<sizeLine/\Q .non (upd H l (.lst (xs++[y])))
def t9:So X "list.append" aS:=by
 intro ξ s σ H x vs v us Q I rx rv h;obtain⟨l,xs,y,rfl,rfl,hH,hz,q⟩:=h;cases rx;obtain⟨u,rfl,ru⟩:=rv.one;obtain⟨z,ab,n,r,hl,e⟩:=I.lstM hH;refine WN F.slot_list_append ⟨_,e,rfl⟩ F.entry_list_append (F.args_list_append_2 _ _) (PySem.list_append l ab.toArray n u (by rw[Tt];lia)) ⟨e,?_⟩;refine⟨.non,_,I.lset (its':=ab++[u]) hH e (by simp) (r.append (.cons ru .nil)) ?_,rfl,q⟩;rw[To,ZZ];lia
abbrev qw:V->List V->Hp->VK->Prop:=λx vs H Q=>∃l b xs zs,x=.ref l/\vs=[.ref b]/\H l=some (.lst xs)/\H b=some (.lst zs)/\xs.length+zs.length<=sizeLine/\Q .non (upd H l (.lst (xs++zs)))
def Ez:So X "list.extend" qw:=by
 intro ξ s σ H x vs v us Q I rx rv h;obtain⟨l,b,xs,zs,rfl,rfl,hH,hB,hz,q⟩:=h;cases rx;obtain⟨u,rfl,ru⟩:=rv.one;cases ru;obtain⟨z,ab,n,r,hl,e⟩:=I.lstM hH;obtain⟨z2,its2,n2,r2,hl2,e2⟩:=I.lstM hB;have hsz:ab.toArray.size+its2.toArray.size<=sizeLine:=by rw[Tt,Tt];lia
 have hlong : ¬ (!ab.toArray.isEmpty && Ws (ab.toArray.size+its2.toArray.size))=true:=by
  rw[yL hsz,YG];exact Th
 refine WN F.slot_list_extend ⟨_,e,rfl⟩ F.entry_list_extend (F.args_list_extend_2 _ _)
  (AutoSeq1.list_extend_list_list_0 l ab.toArray n b its2.toArray n2 hlong (by rw[Tt];lia) ∅) ⟨e,e2,?_⟩
 refine⟨.non,_,I.lset (its':=ab++its2) hH e (by simp) (r.append r2) ?_,rfl,q⟩;rw[To];lia
abbrev wI:R2:=λx y H Q=>∃l b xs zs,x=.ref l/\y=.ref b/\H l=some (.lst xs)/\H b=some (.lst zs)/\xs.length+zs.length<=sizeLine/\∀p,H p=none->Q (.ref p) (upd H p (.lst (xs++zs)))
def Og:fh X (binaryOp .Add) wI:=by
 intro ξ s σ H x y v u Q I rx ry h;obtain⟨l,b,xs,zs,rfl,rfl,hH,hB,hz,q⟩:=h;cases rx;cases ry;obtain⟨z,ab,n,r,hl,e⟩:=I.lstM hH;obtain⟨z2,its2,n2,r2,hl2,e2⟩:=I.lstM hB;refine PySem.P.add_list e e2 ?_ (by rw[Tt,Tt];lia);have ea:ab.toArray++its2.toArray=(ab++its2).toArray:=by simp
 rw[ea];exact⟨.ref _,_,I.lnew (t':=s.toks) (r.append r2) (by rw[To];lia),rfl,q _ I.fresh⟩
abbrev DR:R2:=λx y H Q=>∃l k xs,x=.ref l/\y=.int k/\H l=some (.lst xs)/\-(2 ^ 63)<=k/\k<2 ^ 63/\xs.length*k.toNat<=sizeLine /\
 ∀p,H p=none->Q (.ref p) (upd H p (.lst (Tq k.toNat xs).flatten))
def Ii{α:Type}(xs:List α)(k:Nat):(Tq k xs).flatten.length=k*Wi xs:=by
 induction k with
 |zero=>simp
 |succ k ih=>rw[Wx,XR,To,ih,Nat.succ_mul,Nat.add_comm]
def Ob:fh X (binaryOp .Mult) DR:=by
 intro ξ s σ H x y v u Q I rx ry h;obtain⟨l,k,xs,rfl,rfl,hH,h1,h2,hz,q⟩:=h;cases rx;obtain⟨t,rfl⟩:=ry;obtain⟨z,ab,n,r,hl,e⟩:=I.lstM hH;have hlen:ab.toArray.size*k.toNat<=sizeLine:=by rw[Tt,<- hl];exact hz
 have hcap : ¬ ab.toArray.size*k.toNat > (2 ^ 63-1) / 8:=by
  have:(sizeLine:Nat)<=(2 ^ 63-1) / 8:=by decide
  lia
 have hfit : ¬ (!Builtin.List.listFitsIndex k)=true:=by
  rw[fitsIndex_both h1 h2];exact Th
 have hlong : ¬ Ws (ab.toArray.size*k.toNat)=true:=by
  rw[yL hlen];exact Th
 have hnew:ZaW (λx1 x2=>x1++x2) #[] (Tq (if ab.toArray.isEmpty=true then 0 else k.toNat) ab.toArray)=(Tq k.toNat ab).flatten.toArray:=by
  have f0:∀m:Nat,ZaW (λx1 x2=>x1++x2) #[] (Tq m ab.toArray)=(Tq m ab).flatten.toArray:=λm=>by
   have:=foldl_rep ab m []
   rw[ZP] at this;exact this
  rw[f0];cases ab with
  |nil=>simp
  |cons a r'=>rw[if_neg (by simp)]
 refine wpAny_binaryOp_repeat_ref (T:="list") (U:="int") (by decide) ⟨_,e,rfl⟩ (λs'=>typeIs_int s' k t) noFill_list_mul F.fills_int_mul F.slot_int_rmul repeat_list F.slot_int_index.lookup
  (WN F.slot_int_rmul (typeIs_int s k t) F.entry_int_rmul (F.args_int_rmul_2 _ _) (int___rmul___int_list k t l ab.toArray n)
   ⟨e,rfl,⟨_,e,rfl⟩,WN F.slot_list_mul ⟨_,e,rfl⟩ F.entry_list_mul (F.args_list_mul_2 _ _) (AutoListH.list___mul___list_int_3 l ab.toArray n k t hfit hcap hlong) ⟨e,?_⟩⟩)
 rw[hnew];exact⟨.ref _,_,I.lnew (t':=s.toks) (r.rep k.toNat) (by rw[Ii,Xh];exact hz),rfl,q _ I.fresh⟩
end
end L2
namespace Att
open PySem PySem.W PySem.Calls PyProof.Rows
def l7:∀(ns:List Int) (vs:List SW),WellAll P h vs (ns.map WData.int)->ZF vs ns:=by
 intro ns
 induction ns with
 |nil =>
  intro vs w;rw[Xi] at w;cases w;exact .nil
 |cons n ns ih =>
  intro vs w;rw[TN] at w;cases w with
  |cons a b =>
   cases a;exact .cons _ _ (ih _ b)
def C_{l:OpenLaw}{n:Nat}(hn:l.most=some n)
  (hpre:l.row.toRowW.claim.pre args=true) (hwl:WellAll P h vals args) :
  ∃a vs ns,vals=[Ua a]/\args=[WData.list (ns.map WData.int)]/\h.get? a=some {cls:=.type "list",data:=.seq vs.toArray}/\ZF vs ns/\ns.length<=n:=by
 have hsh:WShape.hasAll [] args [.list .int]=true:=(pre_splitW hpre).1;have hc:l.pre.holds [] {args:=args}=true:=(pre_splitW hpre).2;obtain⟨d,r,rfl,h1,h2⟩:=hasAllW_cons hsh;obtain rfl:=hasAllW_nil h2;obtain⟨xs,rfl,h3⟩:=hasW_list h1;obtain⟨ns,rfl⟩:=items_int h3
 have hlen:ns.length<=n:=by
  unfold OpenLaw.pre at hc
  have h4:(WTm.not (.lt (.lit (.int (n:Int))) (.len (.arg 0)))).holds [] {args:=[.list (ns.map .int)]}=true:=by
   have h4:=(holds_andW hc).1;rw[hn] at h4;exact h4
  have h5:=condW_of h4 (w_not (w_lt w_lit (w_len_list (w_arg rfl))));rw[SJ] at h5;refine Nat.le_of_not_lt λq=>?_
  have q':(n:Int)<((ns.length:Nat):Int):=by lia
  first
   |(rw[decide_eq_true q'] at h5;exact absurd h5 (by decide))
   |(simp at h5;omega)
 cases hwl with
 |cons w1 w2 =>
  cases w2;cases w1 with
  |list ho hall=>exact⟨_,_,ns,rfl,rfl,ho,l7 ns _ hall,hlen⟩
def DZ(l:OpenLaw)(args:List WData):l.row.toRowW.claim.post args (.bool true) args=true :=
 postW_of (r:=l.row.toRowW) (X:=(true == true))
  (show WShape.has [] (.bool true) .bool=true by first|rfl|decide|simp[WShape.has,WShape.arms,WShape.armsAll])
  (show(WTm.eq .res (.lit (.bool true))).value [] {args:=args,res:=some (.bool true),after:=args}=some (.bool (true == true)) from w_eq_bool (w_res rfl) w_lit) rfl
def xK{l:OpenLaw}{n:Nat}{XP:(Str->Option SW)->Heap->Prop}{YP:Uk->Heap->Prop}{d:DefRec}
  (hn:l.most=some n) (hdf:d.params.defaults=[])
  (call:∀(w:Uk) (s₀ s₁:SZ) (mg mb:Str->Option SW) (fa:Addr) (o:Obj) (pm cd doc:SW) (a:Addr) (vs:List SW) (ns:List Int),
   Ground q loose [] XP w s₀ mg mb s₁.heap->YP w s₁.heap ->
   s₁.heap.get? fa=some o->o.data=.func (docDef d.name d.params d.body d.scope pm cd doc)->s₁.heap.CodeRec cd d.name->mg d.name=⇑fa ->
   s₁.heap.get? a=some {cls:=.type "list",data:=.seq vs.toArray}->ZF vs ns->Wi ns<=n->s₁.gens = #[] ->
   codeAny (model l.prog w) callerA (.call (.ref fa) ⟨[.ref a],[]⟩) (λr s'=>r=.ok (.ret (.bool true))/\OldK s₁.heap s'.heap/\s'.os=s₁.os/\YX s'.gens) s₁) :
  WalkO q loose XP YP l.row.toRowW d [] (λf vs=>ZaR f vs):=by
 intro w s₀ s₁ mg mb G Y fa o pm cd doc dV kV ho hd hcd hD hmg hg args vals as hpre hlay hrd hwl hlo;obtain rfl:dV=.none:=Dflts.none hD hdf;obtain rfl:kV=.none:=Dflts.noKw hD;obtain⟨a,vs,ns,rfl,rfl,hobj,hints,hlen⟩:=C_ hn hpre hwl;refine enter_call (Yw (call w s₀ s₁ mg mb fa o pm cd doc a vs ns G Y ho (fd_plain hd) hcd hmg hobj hints hlen hg) λr s' hq=>?_);obtain⟨rfl,h2,h3,h4⟩:=hq;exact⟨.inl ⟨.bool true,.bool true,[],rfl,λ_=>rfl,.bool true,DZ l _,λ_=>⟨Zbd,λ_ hm=>(nomatch hm)⟩⟩,h2,h3,h4⟩
end Att
namespace L2
open PySem PySem.Spec PyProof.Rows
def rY:∀{vs:List SW} {ns:List Int},ZF vs ns->Vals (ns.map V.int) vs
 |_,_,.nil=>.nil
 |_,_,.cons n t h=>.cons ⟨t,rfl⟩ (rY h)
abbrev MP(H:Hp):Prop:=∀b,H b=none\/∃o xs,H b=some (.frz o (.lst xs))
def Ik{K:Fg}{CX:vd}{a:Addr}{x:Str}{sp:Sp}{s₁:SZ}{vs:List SW}
  (KX:K.In s₁.heap) (hns:s₁.heap.Ns mainGlobals mg) (hb:s₁.heap.Ns builtinsNs mb) (hbb:∀x:Str,x≠"__name__"->mb x=bootBuiltins x) (hlim:s₁.heap.NoLimit) (hg:s₁.gens = #[])
  (ha:s₁.heap.get? a=some {cls:=.type "list",data:=.seq vs.toArray}) (hi:ZF vs ns) (hl:ns.length<=sizeLine) (hr:Room k callerA)
  (F:∀base:Heap,K.In base->base.Ns mainGlobals mg->FnOk P w K mg base CX k fa fd [x] sp) (hbind:∀(s:SZ) (u:SW),Zba s fd ⟨[u],[]⟩ [(x,u)])
  (hsp:∀H:Hp,MP H->SqL K H a (ns.map V.int)->sp [.ref a] H (λv _=>v=.bl true) λ_ _ _=>False)
  (hCX:∀H e s',CX [] H s₁ (λ_ _ _=>False) e s'->False) :
  codeAny (model P w) callerA (.call (.ref fa) ⟨[.ref a],[]⟩) (λr s'=>r=.ok (.ret (.bool true))/\OldK s₁.heap s'.heap/\s'.os=s₁.os/\YX s'.gens) s₁:=by
 have rv:=rY hi;have lenV:=hi.length
 have core:∀H:Hp,MP H->SqL K H a (ns.map V.int)->HOk P w H s₁.heap->(∀b,H b≠none->b=a)->(H a≠none->K.lookup a=none) ->
   codeAny (model P w) callerA (.call (.ref fa) ⟨[.ref a],[]⟩) (λr s'=>r=.ok (.ret (.bool true))/\OldK s₁.heap s'.heap/\s'.os=s₁.os/\YX s'.gens) s₁:=by
  intro H hO hS hok hA hK;have base_of:∀{b:Addr} {o:Obj},s₁.heap.get? b=some o->H b=none->(qU s₁.heap H).get? b=some o:=λe n=>IA e n
  have noA:∀{b:Addr} {o:Obj} {es:Array Zl} {ep:Nat},s₁.heap.get? b=some o->o.data=.dict es ep->H b=none:=λ{b o es ep} e d=>by
   cases q:H b with
   |none=>rfl
   |some u =>
    have e':b=a:=hA b (by rw[q];simp);subst e';rw[ha] at e;cases e;have d':Zcp vs.toArray _=Data.dict es ep:=d;cases d'
  have nsK:∀{b:Addr} {m:Str->Option SW},s₁.heap.Ns b m->(qU s₁.heap H).Ns b m:=λ{b m} ⟨o,es,ep,e,d,r⟩=>⟨o,es,ep,base_of e (noA e d),d,r⟩
  have hKb:K.In (qU s₁.heap H):=λb o e=>base_of (KX b o e) (by
   cases q:H b with
   |none=>rfl
   |some u =>
    have e':b=a:=hA b (by rw[q];simp)
    subst e'
    rw[hK (by rw[q];simp)] at e;cases e)
  have hM:Mod K mg (qU s₁.heap H):=⟨hKb,nsK hns,⟨mb,nsK hb,hbb⟩,let ⟨mc,h1,h2⟩:=hlim;⟨mc,nsK h1,h2⟩⟩
  have e0:Jf P w K mg (qU s₁.heap H) callerA [] s₁ H:=⟨rfl,hM,λb o e=>LJ e,Zbe (Fh _ _),trivial,λb hb=>absurd (show b∈([]:List Addr) from hb) (by simp),hok,.of_eq hg⟩
  refine Yw ((F _ hKb (nsK hns)).run callerA [] s₁ H ⟨[.ref a],[]⟩ [.ref a] [.ref a] _ _ hr e0 (hbind s₁ (.ref a)) (.cons rfl .nil) (hsp H hO hS)) λr s' h=>?_
  cases r with
  |error e=>exact(hCX H e s' h).elim
  |ok fl =>
   cases fl with
   |next=>exact WK h
   |brk=>exact WK h
   |cont=>exact WK h
   |ret u =>
    obtain⟨v,H',os,bare,un,hok',r',q⟩:=h;have q':v=.bl true:=q;subst q';obtain rfl:u=ZA true:=r';refine⟨rfl,OldK.of_keep λb o e=>?_,os,bare⟩;cases q:H b with
    |none=>exact un.keep b o e q (by intro z;exact absurd (show b∈([]:List Addr) from z) (by simp)) (by simp)
    |some u =>
     rcases hO b with z|⟨ob,xs,z⟩
     .rw[q] at z;cases z
     .have z2:=un.frzs b ob _ z;obtain⟨e1,_⟩:=hok b _ z;obtain⟨e2,_⟩:=hok' b _ z2;rw[e] at e1;cases e1;exact e2
 cases hk:K.lookup a with
 |some o =>
  have e:=KX a o hk;rw[ha] at e;cases e;refine core (λ_=>none) (λ_=>.inl rfl) (.inr ⟨_,vs.toArray,_,hk,rfl,rfl,rfl,by rw[Tt,lenV];exact hl,by simpa using rv⟩) (λb u z=>by have z':(none:Option HO)=some u:=z;cases z') (λb z=>absurd rfl z) λz=>absurd rfl z
 |none =>
  refine core (λb=>if b=a then some (.frz {cls:=.type "list",data:=.seq vs.toArray} (.lst (ns.map V.int))) else none) (λb=>?_) (.inl (.inr ⟨{cls:=.type "list",data:=.seq vs.toArray},if_pos rfl⟩)) (λb u z=>?_) (λb z=>?_) λ_=>hk
  .by_cases hb:b=a
   .exact .inr ⟨_,_,if_pos hb⟩
   .exact .inl (if_neg hb)
  .by_cases hb:b=a
   .have z':=(if_pos hb).symm.trans z;cases z';subst hb;exact⟨ha,by rw[SJ];exact hl,vs,_,rv,ha⟩
   .have z':=(if_neg hb).symm.trans z;cases z'
  .by_cases hb:b=a
   .exact hb
   .exact absurd (if_neg hb) z
def Kb{l:ZbV}{n:Nat}{XP:(Str->Option SW)->Heap->Prop}{YP:Uk->Heap->Prop}{d:DefRec}{K:Params->Za7}{CX:Uk->vd}{sp:Uk->Sp}{x:Str}
  (hn:l.most=some n) (hn2:n<=sizeLine) (hdf:d.params.defaults=[]) (hr:Room k callerA)
  (hY:∀(w:Uk) (h:Heap),YP w h->(K w.params).In h)
  (F:∀(w:Uk) (mg:Str->Option SW) (fa:Addr) (h:Heap),(K w.params).In h->h.Ns mainGlobals mg->mg d.name=⇑fa ->
   ∃fd:Wj,(∀(s:SZ) (u:SW),Zba s fd ⟨[u],[]⟩ [(x,u)]) /\
    ∀base:Heap,(K w.params).In base->base.Ns mainGlobals mg->FnOk l.prog w (K w.params) mg base (CX w) k fa fd [x] (sp w))
  (hsp:∀(w:Uk) (H:Hp) (a:Addr) (ns:List Int),Wi ns<=n->MP H->SqL (K w.params) H a (ns.map V.int)->sp w [.ref a] H (λv _=>v=.bl true) λ_ _ _=>False)
  (hCX:∀(w:Uk) (H:Hp) (s:SZ) (e:SW) (s':SZ),CX w [] H s (λ_ _ _=>False) e s'->False) :
  ZaF q loose XP YP l.row.toRowW d [] (λf vs=>ZaR f vs):=by
 refine Att.xK hn hdf λw s₀ s₁ mg mb fa o pm cd doc a vs ns G Y ho hd hcd hmg hobj hints hlen hg=>?_
 have KX:=hY w _ Y;obtain⟨fd,hb,hF⟩:=F w mg fa _ KX G.T.g hmg;exact Ik KX G.T.g G.T.b G.T.builtins G.T.nolimit hg hobj hints (TQ hlen hn2) hr hF hb (λH hO hS=>hsp w H a ns hlen hO hS) λH e s'=>hCX w H s₁ e s'
abbrev dZ(s:Stmt):Arguments:=match s with
 |.FunctionDef _ a _ _ _ _ _ _ _ _=>a
 |_=>{posonlyargs:=[],args:=[],vararg:=none,kwonlyargs:=[],kw_defaults:=[],kwarg:=none,defaults:=[]}
abbrev cF(s:Stmt):List Stmt:=match s with
 |.FunctionDef _ _ b _ _ _ _ _ _ _=>b
 |_=>[]
abbrev ai(s:Stmt):Scope:=match s with
 |.FunctionDef _ _ _ _ _ _ sc _ _ _=>sc
 |_=>{kind:=.function,names:=[],isGenerator:=false,isCoroutine:=false}
nonrec def bo:vd:=λ_ _ _ _ _ _=>False
nonrec def E0:XK:=λ_ _ _=>False
def QT:rO bo X E0:=λ_ _ _ _ _ _ _ h=>h.elim
structure Fun (K:Fg) (x qual:Str) (st:Stmt) (f:Addr) (fd:Wj):Prop where
 ex:∃(oc:SW) (od:Option Addr) (kV doc pm:SW) (an:Option Addr) (cdv ct:SW) (osl:Array (Option SW)),
  fd=Vv x qual (dZ st) (cF st) (ai st) .none kV doc pm an cdv ct/\K.lookup f=some ⟨oc,od,.func fd,osl⟩/\W_ K cdv qual=true
 kp:WA K (.ref f)=true
section
variable{P:T9}{w:Uk}{K:Fg}{mg:Str->Option SW}{base:Heap}
def Fun.ok{st:Stmt}{sp:Sp}(F:Fun K x qual st f fd)(S:aq N ps (ai st))(len:∀vs H Q E,sp vs H Q E->Wi vs=Wi ps)
  (hbody:∀(cdv:SW) (A:Ud) (outer:List Env) (s:SZ) (H:Hp) (vs:List V) (Q:VK) (E:XK),Room k (A.deeper (envOfC qual (ai st) s.heap.objs.size f cdv))->sp vs H Q E ->
   ∃t,PSs (rk bo P w K mg base N qual (ai st) f cdv A outer s H E).nox (cF st) t/\t {nx:=λ_ H'=>Q .non H',rt:=Q} (start N vs) H):FnOk P w K mg base bo (k+1) f fd ps sp:=by
 obtain⟨oc,od,kV,doc,pm,an,cdv,ct,osl,rfl,lk,hcd⟩:=F.ex;refine RX lk hcd S len λA outer s H vs Q E hr hsp=>?_
 obtain⟨t,h,q⟩:=hbody cdv A outer s H vs Q E hr hsp;exact⟨t,h.nox,q⟩
def Fun.binds{st:Stmt}{ps:List Str}(F:Fun K x qual st f fd)
  (h:∀(kV doc pm:SW) (an:Option Addr) (cdv ct:SW) (us:List SW),Wi us=Wi ps->bindArgs (Vv x qual (dZ st) (cF st) (ai st) .none kV doc pm an cdv ct) ⟨us,[]⟩=pure (ps.zip us)):Binds K fd ps []:=by
 obtain⟨oc,od,kV,doc,pm,an,cdv,ct,osl,rfl,lk,hcd⟩:=F.ex;exact .all (h kV doc pm an cdv ct)
def JT{st:Stmt}{oc:SW}{od:Option Addr}{osl:Array (Option SW)}{kV:SW}(l:K.lookup f=some ⟨oc,od,.func (Vv x qual (dZ st) (cF st) (ai st) .none kV doc pm an cdv ct),osl⟩)
  (c:W_ K cdv qual=true) (k:WA K (.ref f)=true):Fun K x qual st f (Vv x qual (dZ st) (cF st) (ai st) .none kV doc pm an cdv ct):=⟨⟨oc,od,kV,doc,pm,an,cdv,ct,osl,rfl,l,c⟩,k⟩
end
def RQ(hr:Room k A):A.units+1<cLine:=T8 (Zay (by decide:1<=64) _) hr.units
def am{n:Nat}(h:n<=1000):n<sizeLine:=T8 h (by decide)
section
variable{X:Cx}
def pv(i:Nat) {x:Str} {pos:Pos} (hN:X.N[i]?=some x:=by rfl) (hv:Qo X.env.scope x:=by first|exact Or.inl rfl|exact Or.inr (Or.inl rfl)|exact Or.inr (Or.inr rfl)) (hd:(x == ("__debug__":Str))=false:=by decide)
  (hcd:(x == ("__classdict__":Str))=false:=by decide):PE X (.Name x pos) (aa i):=N1 hN hv hd hcd
end
def E4{A B:Prop}(h:B):if false=true then A else B:=by
 rw[if_neg Th];exact h
def Bb{A B:Prop}(h:A):if true=true then A else B:=by
 rw[if_pos rfl];exact h
abbrev Same(H H':Hp):Prop:=∀b o,H b=some o->H' b=some o
def Same.refl(H:Hp):Same H H:=λ_ _ h=>h
def Same.trans(a:Same H H1)(b:Same H1 H2):Same H H2:=λc o h=>b c o (a c o h)
def Same.free(e:Same H H')(h:H' l=Option.none):H l=Option.none:=by
 cases q:H l with
 |none=>rfl
 |some o =>
  rw[e l o q] at h;cases h
def Same.seq{K:Fg}(e:Same H H')(h:SqL K H a xs):SqL K H' a xs:=by
 rcases h with(h|⟨o,h⟩)|h
 .exact .inl (.inl (e _ _ h))
 .exact .inl (.inr ⟨o,e _ _ h⟩)
 .exact .inr h
section
variable{κ:Type}[DecidableEq κ]
abbrev bU(dk:List (κ×V))(k:κ):Option V:=(dk.find? λkv=>decide (kv.1=k)).map (·.2)
abbrev c6(dk:List (κ×V))(k:κ)(v:V):List (κ×V) :=
 if (dk.any λkv=>decide (kv.1=k))=true then dk.map (λkv=>if kv.1=k then (kv.1,v) else kv) else dk++[(k,v)]
def ce{p:κ×V}{r:List (κ×V)}{k:κ}(e:p.1=k):bU (p :: r) k=some p.2:=by simp[bU,WU,e]
def cf{p:κ×V}{r:List (κ×V)}{k:κ}(e : ¬ p.1=k):bU (p :: r) k=bU r k:=by simp[bU,WU,e]
def jZ(k:κ):∀dk:List (κ×V),(dk.any λkv=>decide (kv.1=k))=(bU dk k).isSome
 |[]=>rfl
 |p :: r=>by
  rw[Xr];by_cases e:p.1=k
  .simp only[ce e,decide_eq_true e,Bool.true_or,Option.isSome_some]
  .rw[cf e,decide_eq_false e,Bool.false_or];exact jZ k r
def xW(k j:κ)(y:V):∀dk:List (κ×V),bU (dk.map λkv=>if kv.1=k then (kv.1,y) else kv) j=(bU dk j).map λx=>if j=k then y else x
 |[]=>rfl
 |p :: r=>by
  have ih:=xW k j y r;rw[TN];by_cases h:p.1=k
  .rw[if_pos h];by_cases e:p.1=j
   .rw[ce (p:=(p.1,y)) e,ce e,Yo,if_pos (e.symm.trans h)]
   .rw[cf (p:=(p.1,y)) e,cf e,ih]
  .rw[if_neg h];by_cases e:p.1=j
   .rw[ce (p:=p) e,ce e,Yo,if_neg (λz=>h (e.trans z))]
   .rw[cf (p:=p) e,cf e,ih]
def rZ(k j:κ)(y:V):∀dk:List (κ×V),bU dk k=none->bU (dk++[(k,y)]) j=if j=k then some y else bU dk j
 |[],_=>by
  by_cases e:k=j
  .rw[if_pos e.symm];exact ce (p:=(k,y)) e
  .rw[if_neg (λz=>e z.symm)];exact cf (p:=(k,y)) e
 |p :: r,hn=>by
  rw[Zbv];have hk : ¬ p.1=k:=λz=>by rw[ce z] at hn;cases hn
  rw[cf hk] at hn;have ih:=rZ k j y r hn;by_cases e:p.1=j
  .rw[ce e,ce e,if_neg (λz=>hk (e.trans z))]
  .rw[cf e,cf e,ih]
def oY(dk:List (κ×V))(k j:κ)(y:V):bU (c6 dk k y) j=if j=k then some y else bU dk j:=by
 unfold c6;by_cases a:(dk.any λkv=>decide (kv.1=k))=true
 .rw[if_pos a,xW];rw[jZ] at a;by_cases e:j=k
  .obtain⟨x,hx⟩:=Y7.mp a;rw[if_pos e,e,hx,Yo,if_pos rfl]
  .rw[if_neg e];cases bU dk j with
   |none=>rfl
   |some x=>rw[Yo,if_neg e]
 .rw[if_neg a];refine rZ k j y dk ?_;rw[jZ] at a;cases q:bU dk k with
  |none=>rfl
  |some x=>rw[q] at a;exact(a rfl).elim
def gQ(dk:List (κ×V))(k:κ)(v:V):(c6 dk k v).length<=Wi dk+1:=by
 unfold c6;split
 .rw[SJ];lia
 .rw[To,Ux,ZbW];lia
def RelO.E6(r:RelO o u):o.isSome=u.isSome:=by
 cases o with
 |none=>cases u with
  |none=>rfl
  |some _=>exact(show False from r).elim
 |some _=>cases u with
  |none=>exact(show False from r).elim
  |some _=>rfl
def RelO.getD(r:RelO o u)(rd:RelV d d'):RelV (o.getD d) (u.getD d'):=by
 cases o with
 |none=>cases u with
  |none=>exact rd
  |some _=>exact(show False from r).elim
 |some _=>cases u with
  |none=>exact(show False from r).elim
  |some _=>exact r
def KV.val{dk:List (κ×V)}{vs:List (κ×SW)}(r:KV dk vs)(k:κ):RelO (bU dk k) (valueAt vs k):=by
 unfold KV at r
 induction r with
 |nil=>exact W9
 |@cons p q ps qs h t ih =>
  obtain⟨h1,h2⟩:=h;by_cases e:p.1=k
  .have e':q.1=k:=h1.symm.trans e;have b:valueAt (q :: qs) k=some q.2:=by simp[valueAt,WU,e']
   rw[ce e,b];exact h2
  .have e' : ¬ q.1=k:=λz=>e (h1.trans z)
   have b:valueAt (q :: qs) k=valueAt qs k:=by simp[valueAt,WU,e']
   rw[cf e,b];exact ih
def KV.any{dk:List (κ×V)}{vs:List (κ×SW)}(r:KV dk vs)(k:κ):(dk.any λkv=>decide (kv.1=k))=vs.any λkv=>decide (kv.1=k):=by
 unfold KV at r
 induction r with
 |nil=>rfl
 |cons h t ih=>rw[Xr,Xr,ih,h.1]
def KV.repl{dk:List (κ×V)}{vs:List (κ×SW)}(r:KV dk vs)(k:κ)(ry:RelV y u) :
  KV (dk.map λkv=>if kv.1=k then (kv.1,y) else kv) (vs.map λkv=>if kv.1=k then (kv.1,u) else kv):=by
 unfold KV at r ⊢
 induction r with
 |nil=>exact .nil
 |@cons p q ps qs h t ih =>
  rw[TN,TN];refine .cons ?_ ih;obtain⟨h1,h2⟩:=h;by_cases e:p.1=k
  .rw[if_pos e,if_pos (h1.symm.trans e)];exact⟨h1,ry⟩
  .rw[if_neg e,if_neg (λz=>e (h1.trans z))];exact⟨h1,h2⟩
def KV.put{dk:List (κ×V)}{vs:List (κ×SW)}(r:KV dk vs)(k:κ)(ry:RelV y u):KV (c6 dk k y) (stored vs k u):=by
 unfold c6 stored;rw[r.any k];by_cases e:(vs.any λkv=>decide (kv.1=k))=true
 .rw[if_pos e,if_pos e];exact r.repl k ry
 .rw[if_neg e,if_neg e];exact Paired.snoc r ⟨rfl,ry⟩
def KV.length{dk:List (κ×V)}{vs:List (κ×SW)}(r:KV dk vs):Wi dk=Wi vs:=V0 r
end
def Iu(r:RelV (kV k) u):(bO P w).is k u=true:=by
 cases k with
 |inl i=>obtain⟨t,e⟩:=(show ∃t,u=YB i t from r);subst e;exact xj P w i t
 |inr x=>obtain⟨t,e⟩:=(show ∃t,u=Zi x t from r);subst e;exact b9 P w x t
def uq{P:T9}{w:Uk}:∀{ks:List Key} {us:List SW},Vals (ks.map kV) us->ItemsAre (bO P w) ks us
 |[],_,r=>by rw[Xi] at r;cases r;exact .nil
 |k :: ks,_,r=>by
  rw[TN] at r;cases r with
  |cons h t=>exact .cons (Iu h) (uq t)
nonrec def KT(H:Hp):List (List Key×V)->List (List Key×Addr×SW)->Prop:=Paired λp q=>p.1=q.1/\H q.2.1=some (.tup (p.1.map kV))/\RelV p.2 q.2.2
def KT.val(r:KT H dk xs)(k:List Key):RelO (bU dk k) ((atKey xs k).map (·.2)):=by
 induction r with
 |nil=>exact W9
 |@cons p q ps qs h t ih =>
  obtain⟨h1,_,h2⟩:=h;by_cases e:p.1=k
  .have e':q.1=k:=h1.symm.trans e;have b:atKey (q :: qs) k=some q.2:=by simp[atKey,WU,e']
   rw[ce e,b];exact h2
  .have e' : ¬ q.1=k:=λz=>e (h1.trans z)
   have b:atKey (q :: qs) k=atKey qs k:=by simp[atKey,WU,e']
   rw[cf e,b];exact ih
def KT.repl(r:KT H dk xs)(k:List Key)(ry:RelV y u) :
  KT H (dk.map λkv=>if kv.1=k then (kv.1,y) else kv) (xs.map (putAt k u)):=by
 induction r with
 |nil=>exact .nil
 |@cons p q ps qs h t ih =>
  rw[TN,TN];refine .cons ?_ ih;obtain⟨h1,h2,h3⟩:=h;unfold putAt;by_cases e:p.1=k
  .rw[if_pos e,if_pos (h1.symm.trans e)];exact⟨h1,h2,ry⟩
  .rw[if_neg e,if_neg (λz=>e (h1.trans z))];exact⟨h1,h2,h3⟩
def KT.put(r:KT H dk xs)(k:List Key)(hb:H b=some (.tup (k.map kV)))(ry:RelV y u) :
  KT H (c6 dk k y) (storedH xs k b u):=by
 have e:(dk.any λkv=>decide (kv.1=k))=(atKey xs k).isSome:=by
  rw[jZ,(r.val k).E6,Option.isSome_map]
 unfold c6 storedH;rw[e];by_cases q:(atKey xs k).isSome=true
 .rw[if_pos q,if_pos q];exact r.repl k ry
 .rw[if_neg q,if_neg q];exact Paired.snoc r ⟨rfl,hb,ry⟩
def KT.keeps{H':Hp}(r:KT H dk xs)(ht:∀b ys,H b=some (.tup ys)->H' b=some (.tup ys)):KT H' dk xs :=
 Paired.mapP r λ_ _ z=>⟨z.1,ht _ _ z.2.1,z.2.2⟩
section
variable{P:T9}{w:Uk}{H:Hp}{h:Heap}{a:Addr}
def Nt(ok:HOk P w H h)(e:Rd H a u):cv P w H h a u:=e.ok ok
def Mx(ok:HOk P w H h)(e:Rd H a (.dK dk)):dk.length<=sizeLine/\(a == sysModules)=false/\∃vs,KV dk vs/\h.DictOf (bO P w) a vs :=
 show cv P w H h a (.dK dk) from Nt ok e
def RZ(ok:HOk P w H h)(e:H a=some (.dK dk)):dk.length<=sizeLine/\(a == sysModules)=false/\∃vs,KV dk vs/\h.DictOf (bO P w) a vs:=Mx ok (.inl e)
def EM{ks:List Key}(ok:HOk P w H h)(e:H a=some (.tup (ks.map kV))):(tupleKind (bO P w)).is h ks a:=by
 obtain⟨_,ab,r,o,h1,⟨h2,n,h3⟩,_⟩:=(show cv P w H h a (.tup (ks.map kV)) from ok a _ e)
 exact⟨o,ab.toArray,n,h1,h2,h3,by simpa using uq r⟩
def Mw(ok:HOk P w H h)(e:Rd H a (.dT dk)):dk.length<=sizeLine/\(a == sysModules)=false /\
  ∃xs,KT H dk xs/\h.DictOfH (tupleKind (bO P w)) a xs:=by
 obtain⟨z,y,xs,r,o,es,ep,h1,h2,h3,h4,h5⟩:=(show cv P w H h a (.dT dk) from Nt ok e)
 refine⟨z,y,xs,r,o,es,ep,h1,h2,h3,h4,λx hx=>?_,h5⟩
 have all:∀{l:List (List Key×V)} {m:List (List Key×Addr×SW)},KT H l m->∀x∈m,(tupleKind (bO P w)).is h x.1 x.2.1:=by
  intro l m q
  induction q with
  |nil=>intro x hx;exact nomatch hx
  |@cons p q ps qs hq t ih =>
   intro x hx;rcases Tu.mp hx with e|hx
   .subst e;exact EM ok (by rw[<- hq.1];exact hq.2.1)
   .exact ih x hx
 exact all r x hx
def Pz(ok:HOk P w H h)(e:H a=some (.dT dk)):dk.length<=sizeLine/\(a == sysModules)=false /\
  ∃xs,KT H dk xs/\h.DictOfH (tupleKind (bO P w)) a xs:=Mw ok (.inl e)
end
abbrev DGet(H:Hp)(a:Addr)(y:V)(r:Option V):Prop :=
 (∃dk k,Rd H a (.dK dk)/\y=kV k/\r=bU dk k)\/∃dk k b,Rd H a (.dT dk)/\y=.ref b/\H b=some (.tup (k.map kV))/\r=bU dk k
abbrev DPut(H:Hp)(a:Addr)(y v:V)(H':Hp):Prop :=
 (∃dk k,H a=some (.dK dk)/\y=kV k/\dk.length<sizeLine/\H'=upd H a (.dK (c6 dk k v))) \/
 ∃dk k b,H a=some (.dT dk)/\y=.ref b/\H b=some (.tup (k.map kV))/\dk.length<sizeLine/\H'=upd H a (.dT (c6 dk k v))
def DGet.k{H:Hp}{k:Key}(e:H a=some (.dK dk)):DGet H a (kV k) (bU dk k):=.inl ⟨dk,k,.inl e,rfl,rfl⟩
def DPut.k{H:Hp}{k:Key}(e:H a=some (.dK dk))(hl:dk.length<sizeLine):DPut H a (kV k) v (upd H a (.dK (c6 dk k v))):=.inl ⟨dk,k,e,rfl,hl,rfl⟩
def DPut.t{H:Hp}{k:List Key}(e:H a=some (.dT dk))(eb:H b=some (.tup (k.map kV)))(hl:dk.length<sizeLine) :
  DPut H a (.ref b) v (upd H a (.dT (c6 dk k v))):=.inr ⟨dk,k,b,e,rfl,eb,hl,rfl⟩
section
variable{X:Cx}{ξ:List (Addr×Obj)}{σ:St}{H:Hp}{s:SZ}{a:Addr}{y v:V}{u r:SW}{o:Option V}{A:Ud}{E:SW->SZ->Prop}
def Inv.big(I:Inv X ξ σ H s):sysModules<s.heap.objs.size:=by
 have h:mainGlobals<s.heap.objs.size:=(I.mod.glob.keeps I.bk).lt;exact UC (by decide) h
def FN{t':Nat}(I:Inv X ξ σ H s)(mu:Qc (H a))(hs:Xg a s.heap h')(he:∃q,h'.get? a=some q)(new:cv X.prog X.w (upd H a ob) h' a ob) :
  Inv X ξ σ (upd H a ob) {s with heap:=h',toks:=t'} :=
 I.write (x:=a) (e:=a) mu (.inl rfl) (λb q hb z=>(hs.2 b hb).trans z) he new
def PB{h':Heap}{dk:List (Key×V)}(z:Wi dk<=sizeLine)(hd:(a == sysModules)=false)(rel:KV dk vs)(dd:h'.DictOf (bO P w) a vs) :
  cv P w H' h' a (.dK dk):=⟨z,hd,vs,rel,dd⟩
def FO{Q:Unit->SZ->Prop}(hu:A.units+1<cLine)(I:Inv X ξ σ H s)(g:DPut H a y v H')(ry:RelV y u)(rv:RelV v r)(h:∀s',Inv X ξ σ H' s'->Q () s') :
  wpAny (model X.prog X.w) A (setItem (.ref a) u r) Q E s:=by
 rcases g with⟨dk,k,e,ey,l,eH⟩|⟨dk,k,b,e,ey,eb,l,eH⟩
 .subst ey eH;obtain⟨z,hd,vs,rel,dd⟩:=RZ I.hok e;have hz:vs.length<=sizeLine:=by rw[<- rel.length];exact z
  have hl:(c6 dk k v).length<=sizeLine:=by have:=gQ dk k v;lia
  refine wpAny_setItem_pairs (hsz:=hz) (Iu ry) dd λh' dd' hs=>h _ ?_
  have he:∃q,h'.get? a=some q:=let ⟨q,_,_,hq,_⟩:=dd';⟨q,hq⟩
  exact FN I (by rw[e];exact W9) hs he (PB hl hd (rel.put k rv) dd')
 .subst ey eH;cases (show u=Ua b from ry);obtain⟨z,hd,xs,rel,dd⟩:=Pz I.hok e;have hz:Wi xs<=sizeLine:=by rw[<- V0 rel];exact z
  have hl:(c6 dk k v).length<=sizeLine:=by have:=gQ dk k v;lia
  refine wpAny_setItem_heap (hsz:=hz) (ZaX hu) (EM I.hok eb) dd λh' dd' hs=>h _ ?_
  obtain⟨q,es,ep,hq,h2,h3,h4,_,h5⟩:=dd';refine FN I (by rw[e];exact W9) hs ⟨q,hq⟩ ⟨hl,hd,_,(rel.put k eb rv).keeps λc ys ec=>?_,q,es,ep,hq,h2,h3,h4,h5⟩;rw[aJ (Ib ec e (λz=>nomatch z))];exact ec
end
abbrev Dj(td ty tv:TE):TS:=λD σ H=>tv σ H λv H1=>td σ H1 λx H2=>ty σ H2 λy H3=>∃a H4,x=.ref a/\DPut H3 a y v H4/\D.nx σ H4
section
variable{X:Cx}{o i e value:Expr}{pos pos' tpos:Pos}{td ty tv:TE}
def Lh(hu:X.A.units+1<cLine)(ho:PE X o td)(hi:PE X i ty)(hv:PE X value tv)(hs:swapsWith value (some (.Subscript o i pos')) pos.line X.env=pure false) :
  PS X (.Assign [.Subscript o i pos'] value pos) (Dj td ty tv):=by
 intro ξ s σ H D I h;refine wpAny_Assign_Subscript (bg (hv ξ s σ H _ I h) λr s1 ⟨v,H1,I1,rv,q1⟩=>bg (ho ξ s1 σ H1 _ I1 q1) λu s2 ⟨x,H2,I2,rx,q2⟩=>bg (hi ξ s2 σ H2 _ I2 q2) λiv s3 ω=>?_) hs;obtain⟨y,H3,I3,ry,a,H4,ex,g,q3⟩:=ω;subst ex;obtain rfl:u=Ua a:=rx;exact FO hu I3 g ry rv λs4 I4=>⟨σ,H4,I4,q3⟩
end
def IP(h:Heap) (hb:sysModules<h.objs.size):cv P w H (h.push {cls:=.type "dict",data:=.dict #[]}) h.objs.size (.dK []) :=
 ⟨T1 _,beq_eq_false_iff_ne.mpr (XN (T0 hb)),[],.nil,Heap.DictOf.new h⟩
def IM(h:Heap) (hb:sysModules<h.objs.size):cv P w H (h.push {cls:=.type "dict",data:=.dict #[]}) h.objs.size (.dT []) :=
 ⟨T1 _,beq_eq_false_iff_ne.mpr (XN (T0 hb)),[],.nil,_,#[],0,Tx _ rfl,⟨rfl,rfl,rfl⟩,rfl,rfl,Vj⟩
abbrev Jn:TE:=λ_ H Q=>∀p,H p=none->Q (.ref p) (upd H p (.dK []))
abbrev Jm:TE:=λ_ H Q=>∀p,H p=none->Q (.ref p) (upd H p (.dT []))
section
variable{X:Cx}{pos:Pos}
def HM:PE X (.Dict [] [] pos) Jn:=λξ s σ H Q I h =>
 wpAny_Dict_empty ⟨.ref s.heap.objs.size,_,I.laid (a:=s.heap.objs.size) (o:=.dK []) (t':=s.toks) (λ_ _ q=>SY _ q) (SR _) (IP s.heap I.big),rfl,h _ (I.hok.fresh (SR _))⟩
def HL:PE X (.Dict [] [] pos) Jm:=λξ s σ H Q I h =>
 wpAny_Dict_empty ⟨.ref s.heap.objs.size,_,I.laid (a:=s.heap.objs.size) (o:=.dT []) (t':=s.toks) (λ_ _ q=>SY _ q) (SR _) (IM s.heap I.big),rfl,h _ (I.hok.fresh (SR _))⟩
end
structure M2 (X:Cx) (o:Expr) (m:Str) (apos:Pos) (e f:Expr) (cpos:Pos):Prop where
 base:attributeBase o m X.env (eval o X.env)=eval o X.env
 few:((backTo cpos (starEach [e,f] X.env)).all (λx=>!x.1) && (backToKw cpos (keywordEach [] X.env)).all (λx=>x.1.isSome)
  && decide (([e,f]:List Expr).length+([]:List Zb3).length+(if ([]:List Zb3).isEmpty then 0 else 1)<30))=true
 line:(apos.endLine == cpos.line)=true
 trees:backTo cpos (starEach [e,f] X.env)=[(false,eval e X.env),(false,eval f X.env)]
abbrev Sq(H:Hp)(a:Addr):Prop:=(∃dk,Rd H a (.dK dk))\/∃dk,Rd H a (.dT dk)
def Pf{H:Hp}(I:Inv X ξ σ H s)(d:Sq H a) :
  s.TypeIs (.ref a) "dict"/\(∀b,Ua a=.ref b->∃ob,s.heap.get? b=some ob/\ob.dict=none)/\(a == sysModules)=false:=by
 rcases d with⟨dk,e⟩|⟨dk,e⟩
 .obtain⟨_,hd,vs,_,dd⟩:=Mx I.hok e;refine⟨dd.typeIs,λb q=>?_,hd⟩;cases q;obtain⟨ob,_,_,h1,h2,_⟩:=dd;exact⟨ob,h1,h2.2.1⟩
 .obtain⟨_,hd,xs,_,dd⟩:=Mw I.hok e;refine⟨dd.typeIs,λb q=>?_,hd⟩;cases q;obtain⟨ob,_,_,h1,h2,_⟩:=dd;exact⟨ob,h1,h2.2.1⟩
section
variable{X:Cx}{ξ:List (Addr×Obj)}{σ:St}{H:Hp}{s:SZ}{a:Addr}{y d:V}{u r:SW}{o:Option V}{A:Ud}{E:SW->SZ->Prop}
def PD{Q:SW->SZ->Prop}(hu:A.units+1<cLine)(I:Inv X ξ σ H s)(g:DGet H a y o)(ry:RelV y u)(rd:RelV d r)(h:∀w' s',Inv X ξ σ H s'->RelV (o.getD d) w'->Q w' s') :
  wpAny (model X.prog X.w) A (call (.builtin "dict.get") [.ref a,u,r]) Q E s:=by
 rcases g with⟨dk,k,e,ey,l⟩|⟨dk,k,b,e,ey,eb,l⟩
 .subst ey;obtain⟨z,hd,vs,rel,dd⟩:=Mx I.hok e;refine Zbf V9 dd.typeIs XS (XD _ _ _) (ZG (bO X.prog X.w) a (Iu ry) hd r) ⟨_,dd.mapOf,h _ _ (I.tok _) ?_⟩;rw[l];exact(rel.val k).getD rd
 .subst ey;cases (show u=Ua b from ry);obtain⟨z,hd,xs,rel,dd⟩:=Mw I.hok e;refine Zbf V9 dd.typeIs XS (XD _ _ _) (meetsH_dict_get_default (tupleKind (bO X.prog X.w)) a b hd r) ⟨ZaX hu,k,xs,EM I.hok eb,dd,h _ _ (I.tok _) ?_⟩;rw[l];exact(rel.val k).getD rd
end
abbrev Jo(td ty tx:TE):TE:=λσ H Q=>td σ H λx H1=>∃a,x=.ref a/\Sq H1 a/\ty σ H1 λy H2=>tx σ H2 λz H3=>∃o,DGet H3 a y o/\Q (o.getD z) H3
section
variable{X:Cx}{o e f:Expr}{apos cpos:Pos}{td ty tx:TE}
def HN(hu:X.A.units+1<cLine) (ho:PE X o td) (he:PE X e ty) (hf:PE X f tx) (m:M2 X o "get" apos e f cpos):PE X (.Call (.Attribute o "get" apos) [e,f] [] cpos) (Jo td ty tx):=by
 intro ξ s σ H Q I h;refine wpAny_Call_method m.base m.few m.line Zo V9 Z0 (bg (ho ξ s σ H _ I h) λu s1 ω=>?_);obtain⟨x,H1,I1,rx,a,ex,d,q1⟩:=ω;subst ex;obtain rfl:u=Ua a:=rx;obtain⟨t1,t2,_⟩:=Pf I1 d;refine⟨t1,t2,?_⟩;rw[m.trees]
 refine XQ rfl (Yd (US (bg (he ξ s1 σ H1 _ I1 q1) λiv s2 ⟨y,H2,I2,ry,q2⟩ =>
  US (bg (hf ξ s2 σ H2 _ I2 q2) λfv s3 ⟨z,H3,I3,rz,ov,g,q3⟩=>VP ?_))))
 exact PD hu I3 g ry rz λw' s4 I4 rw'=>⟨_,H3,I4,rw',q3⟩
end
open PySem PySem.W
abbrev Sj(K:Frag):List Str->Prop
 |[]=>True
 |n :: r=>nsIn K mainGlobals n=some none/\Sj K r
end L2
namespace K95H
open PySem PySem.Spec PyProof.Rows L2
abbrev top(i:Nat):Stmt:=PW95.main.body.getD i (.Pass ⟨0,0,0,0⟩)
abbrev spLaw(K:Fg):Sp:=λvs H Q _=>∃(a:Addr) (ns:List Int),vs=[.ref a]/\SqL K H a (ns.map V.int)/\ns.length<=63/\∀H',Q (.bl true) H'
abbrev MQ(K:Fg)(n:Str)(st:Stmt):Prop:=∃(f:Addr) (od an:Option Addr) (sl:Array (Option SW)) (oc kV dc pm cd ct:SW),VX K mainGlobals n=some (⇑f)/\K.lookup f=some ⟨oc,od,.func (Vv n n (dZ st) (cF st) (ai st) .none kV dc pm an cd ct),sl⟩/\W_ K cd n=true/\WA K (.ref f)=true
def fnIn{K:Fg}{st:Stmt}{od:Option Addr}{sl:Array (Option SW)}{oc kV:SW}(a:VX K mainGlobals n=some (⇑f))(l:K.lookup f=some ⟨oc,od,.func (Vv n n (dZ st) (cF st) (ai st) .none kV dc pm an cd ct),sl⟩)(c:W_ K cd n=true)(k:WA K (.ref f)=true):MQ K n st:=⟨f,od,an,sl,oc,kV,dc,pm,cd,ct,a,l,c,k⟩
local macro_rules | `(tactic| fail "f")=>`(tactic| (refine' fnIn ?a ?l ?c ?k;(case a=>k_is);(case l=>k_is);(case c=>k_is);(case k=>k_is)))
abbrev Ge(K:Fg):List (Str×Nat)->Prop
 |[]=>True
 |(n,i) :: r=>MQ K n (top i)/\Ge K r
local macro_rules | `(tactic| walk_at "all")=>`(tactic| repeat' first|exact trivial|(refine And.intro ?_ ?_)|k_is|k_exc|fail "f"|exact rfl|decide)
def walk{l:ZbV}{XP:(Str->Option SW)->Heap->Prop}{YP:Uk->Heap->Prop}{d:DefRec}{K:Params->Za7}(hn:l.most=some 63)(hdf:d.params.defaults=[])
  (hY:∀(w:Uk) (h:Heap),YP w h->(K w.params).In h)
  (F:∀(w:Uk) (mg:Str->Option SW) (fa:Addr) (h:Heap),(K w.params).In h->h.Ns mainGlobals mg->mg d.name=⇑fa ->
   ∃fd:Wj,(∀(s:SZ) (u:SW),Zba s fd ⟨[u],[]⟩ [("_law_script",u)])/\∀base:Heap,(K w.params).In base->base.Ns mainGlobals mg->FnOk l.prog w (K w.params) mg base bo 9 fa fd ["_law_script"] (spLaw (K w.params))) :
  ZaF q loose XP YP l.row.toRowW d [] (λf vs=>ZaR f vs) :=
 L2.Kb (n:=63) (k:=9) (x:="_law_script") (CX:=λ_=>bo) (sp:=λw=>spLaw (K w.params)) hn (by decide) hdf ⟨rfl,by decide,by decide⟩ hY F (λ_ _ a ns hl _ hS=>⟨a,ns,rfl,hS,hl,λ_=>rfl⟩) λ_ _ _ _ _ z=>z
open PySem.W in
def headed(hW:∀{w:Uk} {K:Fg} {h:Heap} {mg:Str->Option SW} {fa:Addr} (X:K.In h) (G:h.Ns mainGlobals mg) (hfa:mg "law"=⇑fa)
  (P0:Ge K [("whole",11),("greatest_divisor",12),("least_multiple",13),("fraction",14),("before",15),("is_word",23),("stuffs_of",24),("is_heap",25),("turnings_of",26),("check_turnings",27),("heaps_of",28),("made",29),("turning_at",30),("change",31),("changes",32),("stuff_text",35),("heap_text",36),("pace_text",37),("turning_text",38),("heap_guessed",39)]) (P20:Ge K [("number_guessed",40),("pace_guessed",41),("turning_read",42),("read",43),("column",45),("crossed",46),("first_place",47),("unit_row",48),("unit_rows",49),("opposite",50),("opposites",51),("common_divisor",52),("lowest",53),("cleared",54),("sifted",55),("nought_makers",56),("first_board",58),("short_line",59),("place_below_nought",60),("line_without",61)]) (P40:Ge K [("passed_on",62),("numbers_on",63),("settled",64),("balanced",65),("sets_of",67),("has_some",68),("is_drain",69),("is_trap",70),("lies_within",71),("least_of",72),("drains",73),("traps",74),("kept",76),("can_be_made",78),("count_behind",79),("walked",80),("sheltered",82),("keeping",83),("returning",84),("_law_cell_at",86)]) (P60:Ge K [("_law_mixed",87),("_law_divisor",88),("_law_lowest",89),("_law_words",90),("_law_heap",91),("_law_pool",92),("_law_pairs",93),("_law_pace",94),("_law_vessel",95),("_law_heap_text",96),("_law_texts",97),("_law_count",98),("_law_can",99),("_law_behind",100),("_law_some_count",101),("_law_same",102),("_law_worth",103),("_law_row",104),("_law_weights_hold",105),("law",106)]) (Z:Sj K ["len","abs","range","isinstance","int","bool","tuple","list","str","zip","set","all","any","min","max","sum","sorted","enumerate","reversed","dict","ord","divmod"])
  {tk0 tk1 tk2 tk3 tk4 tn0 tn1 tp0 tp1 tp2 tq0 tq1 tq2:Tok} {nq pD:Addr} {nqd:Option Addr} {nqn pDn:Nat} {nqs:Array (Option SW)} {ph0 ph1 ph2:Int}
  (hcn0:VX K mainGlobals "MOST_STUFFS"=some (some (.int 5 tk0)))
  (hcn1:VX K mainGlobals "MOST_SIGNS"=some (some (.int 8 tk1)))
  (hcn2:VX K mainGlobals "MOST_PIECES"=some (some (.int 3 tk2)))
  (hcn3:VX K mainGlobals "MOST_TURNINGS"=some (some (.int 8 tk3)))
  (hcn4:VX K mainGlobals "MOST_HEAPS"=some (some (.int 8 tk4)))
  (hcnN:VX K mainGlobals "NOUGHT"=some (⇑nq))
  (hcnL:K.lookup nq=some ⟨.type "tuple",nqd,.seq #[.int 0 tn0,.int 1 tn1] nqn,nqs⟩)
  (hpwN:VX K mainGlobals "PIECES_WRITTEN"=some (⇑pD))
  (hpwL:K.lookup pD=some ⟨.type "dict",none,.dict #[⟨ph0,.str "" tp0,.int 1 tq0⟩,⟨ph1,.str "2" tp1,.int 2 tq1⟩,⟨ph2,.str "3" tp2,.int 3 tq2⟩] pDn,#[]⟩)
  (hpw0:ph0=ZaG w "")
  (hpw1:ph1=ZaG w "2")
  (hpw2:ph2=ZaG w "3")
  (hpwS:(pD == PySem.sysModules)=false)
  ,∃fd:Wj,(∀(s:SZ) (v:SW),Zba s fd ⟨[v],[]⟩ [("_law_script",v)])/\∀base:Heap,K.In base->base.Ns mainGlobals mg->FnOk PySem.Challenge.rw_vesselhall_k95_whole_texts_walks_and_wei.prog w K mg base bo 9 fa fd ["_law_script"] (spLaw K)):PySem.Challenge.rw_vesselhall_k95_whole_texts_walks_and_wei.Holds:=by
 refine said ?_
 w_on
 refine ZaP (q:=qv) (loose:=["PIECES_WRITTEN"]) (Xt:=λs=>WI qv [] s && Wp [] s) (XP:=Zb6 qv []) (Yf:=Zbx (Yc pre.heap_1 asl asl_ok)) (Ya:=Zby (Yc pre.heap_1 asl asl_ok)) (YP:=Za8 (Yc pre.heap_1 asl asl_ok)) (N:=9114) hooks (ZbT (Yc pre.heap_1 asl asl_ok)) (ZaQ (Yc pre.heap_1 asl asl_ok)) (λs e=>Zce s (W5.mp e).1) Zbz (by rfl) (by rfl) (by rfl) (λs e=>Zaw (W5.mp e).2) (by rfl) (by first|assumption|decide +kernel) (by decide +kernel) ⟨rfl,rfl,rfl,rfl,rfl,by decide +kernel⟩ ?_ ?_
 .clear hW;w_witness2
 k_fill
 refine walk (l:=PySem.Challenge.rw_vesselhall_k95_whole_texts_walks_and_wei) rfl rfl (λw h Y=>PySem.W.kIn_of Y) ?F
 case F =>
  intro w mg fa h KX G hmg;refine' hW KX G hmg ?_ ?_ ?_ ?_ ?_ ?_ ?_ ?_ ?_ ?_ ?_ ?_ ?_ ?_ ?_ ?_ ?_ ?_
  all_goals try walk_at "all"
end K95H
namespace L2
open PySem PySem.Spec PyProof.Rows
section
variable{X:Cx}{a b c:Expr}{ta tb tc:TE}{pos:Pos}
abbrev Qj(_ j:Int):Prop:=j≠0/\j.natAbs<2 ^ 9000
def HU:fh X (binaryOp .FloorDiv) (rI Qj λi j=>.int (i.fdiv j)):=LF λi j _ _ _ _ _ hc q=>by
 have h0:j.natAbs≠0:=by have:=hc.1;lia
 exact floordiv_int hc.1 q (.inl (PyProof.noPylong_of_log2 ((Nat.log2_lt h0).mpr hc.2)))
abbrev xP(i j:Int):Prop:=i.natAbs<2 ^ 20000/\j.natAbs<2 ^ 20000
def xP.ok(h:xP i j):IntMulOk i j:=by
 have h1:=Zp h.1;have h2:=Zp h.2;unfold IntMulOk
 have e:Z1 ((Zaz i:Int)+(Zaz j:Int))=false:=by
  unfold Z1;refine decide_eq_false ?_
  have:(40000:Int)<=bitsLine:=by decide
  lia
 intro q;rw[e] at q;simp at q
def LA:fh X (binaryOp .Mult) (rI xP λi j=>.int (i*j)):=LF λ_ _ _ _ _ _ _ hc q=>mul_int q hc.ok
def aW:fT X (.builtin "isinstance") (λxs H Q=>∃x n t b,xs=[x,.ty n]/\TyOf X.K H x t/\TK X.K t (.type n)=some b/\Q (.bl b) H):=by
 intro ξ s σ H xs us Q I r h;obtain⟨x,n,t,b,rfl,ty,e,q⟩:=h;obtain⟨u,u',rfl,rx,ry⟩:=vals2 r;obtain rfl:u'=W6 n:=ry;exact E5 I rx ty e λtk=>⟨.bl b,H,I.tok tk,rfl,q⟩
end
structure FnC (P:T9) (w:Uk) (K:Fg) (mg:Str->Option SW) (base:Heap) (CX:vd) (k:Nat) (x:Str) (ps:List Str) (sp:Sp):Prop where
 ex:∃(f:Addr) (fd:Wj),FnOk P w K mg base CX k f fd ps sp/\mg x=⇑f/\WA K (.ref f)=true/\Binds K fd ps []
structure aE (K:Fg) (mg:Str->Option SW) (x:Str) (st:Stmt) (ps:List Str):Prop where
 ex:∃(f:Addr) (fd:Wj),Fun K x x st f fd/\mg x=⇑f/\Binds K fd ps []
section
variable{P:T9}{w:Uk}{K:Fg}{mg:Str->Option SW}{base:Heap}{CX:vd}
def IH{st:Stmt}{ps:List Str}{oc:SW}{od:Option Addr}{osl:Array (Option SW)}{kV:SW}(X:K.In h)(G:h.Ns mainGlobals mg)
  (a:VX K mainGlobals x=some (⇑f)) (l:K.lookup f=some ⟨oc,od,.func (Vv x x (dZ st) (cF st) (ai st) .none kV doc pm an cdv ct),osl⟩)
  (c:W_ K cdv x=true) (k:WA K (.ref f)=true)
  (hb:∀(kV doc pm:SW) (an:Option Addr) (cdv ct:SW) (us:List SW),Wi us=Wi ps->bindArgs (Vv x x (dZ st) (cF st) (ai st) .none kV doc pm an cdv ct) ⟨us,[]⟩=pure (ps.zip us)) :
  aE K mg x st ps:=by
 have F:=JT (K:=K) (x:=x) (qual:=x) (st:=st) l c k;exact⟨f,_,F,V2 X G a,F.binds hb⟩
def FnC.mono{k:Nat}(F:FnC P w K mg base CX j x ps sp)(h:j<=k):FnC P w K mg base CX k x ps sp :=
 let ⟨f,fd,G,r⟩:=F.ex
 ⟨f,fd,G.mono h,r⟩
def aE.ok{st:Stmt}{sp:Sp}(F:aE K mg x st ps)(S:aq N ps (ai st))(len:∀vs H Q E,sp vs H Q E->Wi vs=Wi ps)
  (hbody:∀(f:Addr) (cdv:SW) (A:Ud) (outer:List Env) (s:SZ) (H:Hp) (vs:List V) (Q:VK) (E:XK),Room k (A.deeper (envOfC x (ai st) s.heap.objs.size f cdv))->sp vs H Q E ->
   ∃t,PSs (rk bo P w K mg base N x (ai st) f cdv A outer s H E).nox (cF st) t/\t {nx:=λ_ H'=>Q .non H',rt:=Q} (start N vs) H):FnC P w K mg base bo (k+1) x ps sp:=by
 obtain⟨f,fd,G,hm,hb⟩:=F.ex;exact⟨f,fd,G.ok S len (hbody f),hm,G.kp,hb⟩
end
section
variable{X:Cx}{CX:vd}{k:Nat}{ps:List Str}{sp:Sp}{E:XK}{x:Str}{p pos:Pos}{e:Expr}{es:List Expr}{t:TA}
def HQ(F:FnC X.prog X.w X.K X.mg X.base CX k x ps sp)(hr:Room k X.A)(hg:Gl X x)(hx:rO CX X E)(ha:PA X (e :: es) t)
  (hdb:(x == ("__debug__":Str))=false:=by decide) (he:starEach (e :: es) X.env=(false,eval e X.env) :: starEach es X.env:=by rfl) (hpl:(backTo pos (starEach es X.env)).any (·.1)=false:=by rfl) :
  PE X (.Call (.Name x p) (e :: es) [] pos) (aw sp [] E t):=by
 obtain⟨f,fd,G,hm,kp,hb⟩:=F.ex;exact Lx G hr hg hm kp hb .nil hx ha hdb he hpl
def yH(F:FnC X.prog X.w X.K X.mg X.base bo k x ps sp)(hr:Room k X.A)(hg:Gl X x)(ha:PA X (e :: es) t)
  (hdb:(x == ("__debug__":Str))=false:=by decide) (he:starEach (e :: es) X.env=(false,eval e X.env) :: starEach es X.env:=by rfl) (hpl:(backTo pos (starEach es X.env)).any (·.1)=false:=by rfl) :
  PE X (.Call (.Name x p) (e :: es) [] pos) (aw sp [] E0 t):=HQ F hr hg QT ha hdb he hpl
end
def af{H:Hp}(h:H p=none)(o:HO):Same H (upd H p o):=λb u q=>by rw[aJ (ar q h)];exact q
def Same.seqT{K:Fg}(e:Same H H')(h:SqT K H a xs):SqT K H' a xs:=by
 rcases h with(h|⟨o,h⟩)|h
 .exact .inl (.inl (e _ _ h))
 .exact .inl (.inr ⟨o,e _ _ h⟩)
 .exact .inr h
structure bx (mg:Str->Option SW):Prop where
 len:mg "len"=none
 abs:mg "abs"=none
 range:mg "range"=none
 isinstance:mg "isinstance"=none
 int:mg "int"=none
 bool:mg "bool"=none
 tuple:mg "tuple"=none
 list:mg "list"=none
 str:mg "str"=none
 zip:mg "zip"=none
 set:mg "set"=none
 all:mg "all"=none
 any:mg "any"=none
 min:mg "min"=none
 max:mg "max"=none
 sum:mg "sum"=none
 sorted:mg "sorted"=none
 enumerate:mg "enumerate"=none
 reversed:mg "reversed"=none
 dict:mg "dict"=none
 ord:mg "ord"=none
 divmod:mg "divmod"=none
def uQ:bootBuiltins "len"=some (.builtin "len"):=by decide +kernel
def PY:bootBuiltins "abs"=some (.builtin "abs"):=by decide +kernel
def aB:bootBuiltins "isinstance"=some (.builtin "isinstance"):=by decide +kernel
def oP:bootBuiltins "int"=some (.type "int"):=by decide +kernel
def gW:bootBuiltins "bool"=some (.type "bool"):=by decide +kernel
def gg:bootBuiltins "tuple"=some (.type "tuple"):=by decide +kernel
def gU:bootBuiltins "list"=some (.type "list"):=by decide +kernel
def oO:bootBuiltins "str"=some (.type "str"):=by decide +kernel
def Pd{y z:Int}{A B:Prop}(h1:y≠z->A)(h2:y=z->B):if (!decide (V.int y=V.int z))=true then A else B:=by
 by_cases h:y=z
 .subst h;rw[decide_eq_true rfl];exact E4 (h2 rfl)
 .rw[decide_eq_false (λq=>h (V.int.inj q))];exact Bb (h1 h)
def Pe[Decidable c]{A B:Prop}(h1:c->A)(h2 : ¬ c->B):if decide c=true then A else B:=by
 by_cases h:c
 .rw[decide_eq_true h];exact Bb (h1 h)
 .rw[decide_eq_false h];exact E4 (h2 h)
nonrec def bG:R2:=wG λi j=>.int (i+j)
nonrec def nv:R2:=wG λi j=>.int (i-j)
nonrec def qu:R2:=rI xP λi j=>.int (i*j)
nonrec def d7:R2:=rI MS λi j=>.int (i / j)
nonrec def jN:R2:=rI Qj λi j=>.int (i.fdiv j)
nonrec def bp:R2:=rI (λ_ j=>0<j) λi j=>.int (i % j)
nonrec def NE:R2:=rI (λ_ j=>j≠0) λi j=>.int (i.fmod j)
nonrec def wE:R2:=rI Qi λi j=>.int (i ^ j.toNat)
nonrec def yw:R2:=wG λi j=>.bl (decide (i<j))
nonrec def Gh:R2:=wG λi j=>.bl (decide (i<=j))
nonrec def wH:R2:=wG λi j=>.bl (decide (j<i))
nonrec def Sw:R2:=wG λi j=>.bl (decide (j<=i))
nonrec def wF:R2:=λx y H Q=>y=.non/\Q (.bl (decide (x=.non))) H
nonrec def ND:R2:=λx y H Q=>y=.non/\Q (.bl (!decide (x=.non))) H
nonrec def gL:R2:=λx y H Q=>∃i j,x=.str i/\y=.str j/\i.length+j.length<=sizeLine/\Q (.str (i++j)) H
nonrec def NJ:List V->Hp->VK->Prop:=λxs H Q=>∃i,xs=[.int i]/\Q (.int (if i<0 then -i else i)) H
nonrec def bf(K:Fg):List V->Hp->VK->Prop:=λxs H Q=>∃p ys,xs=[.ref p]/\(SqL K H p ys\/SqT K H p ys)/\Q (.int (Wi ys)) H
nonrec def NG:List V->Hp->VK->Prop:=λxs H Q=>∃z,xs=[.str z]/\z.length<=sizeLine/\Q (.int z.length) H
nonrec def eL(K:Fg):List V->Hp->VK->Prop:=λxs H Q=>∃x n t b,xs=[x,.ty n]/\TyOf K H x t/\TK K t (.type n)=some b/\Q (.bl b) H
nonrec def Ld:List V->Hp->VK->Prop:=λxs H Q=>(∃i,xs=[.int i]/\Q (.int i) H)\/∃k,xs=[.bl k]/\Q (.int (if k then 1 else 0)) H
nonrec def bX(K:Fg):List V->Hp->VK->Prop:=λxs H Q=>∃p ys,xs=[.ref p]/\((SqL K H p ys/\∀l,H l=none->Q (.ref l) (upd H l (.tup ys)))\/(SqT K H p ys/\Q (.ref p) H))
nonrec def fG(K:Fg):List V->Hp->VK->Prop:=λxs H Q=>∃p ys,xs=[.ref p]/\(SqL K H p ys\/SqT K H p ys)/\∀l,H l=none->Q (.ref l) (upd H l (.lst ys))
def OC{K:Fg}:TK K (.type "int") (.type "int")=some true:=by rfl
def OD{K:Fg}:TK K (.type "int") (.type "bool")=some false:=by
 show Tj K (.type "int") (.type "bool")=some false;unfold Tj
 kernel_rfl
structure R9 (X:Cx):Prop where
 stk:X.stack=X.env :: X.outer
 frm:X.env.frame=some X.env.locals
 exs:X.ex=[]
section
variable{P:T9}{w:Uk}{K:Fg}{mg:Str->Option SW}{base:Heap}{x:Str}{st:Stmt}{N ps:List Str}{k:Nat}{sp:Sp}
def iW:1<=sizeLine:=by decide
def bF:2<=sizeLine:=by decide
def iV:3<=sizeLine:=by decide
def Kz:4<=sizeLine:=by decide
def aK{N:List Str}{n:Nat}(hN:Wi N=n)(vs:List V):L2.start N vs=vs.map some++Tq (n-Wi vs) none:=by
 subst hN;rfl
def aE.okN(F:aE K mg x st ps)(S:aq N ps (ai st))(len:∀vs H Q E,sp vs H Q E->Wi vs=Wi ps)
  (hbody:∀(f:Addr) (cdv:SW) (A:Ud) (outer:List Env) (s:SZ) (H:Hp) (vs:List V) (Q:VK) (E:XK),N.Nodup->Room k (A.deeper (envOfC x (ai st) s.heap.objs.size f cdv))->(A.deeper (envOfC x (ai st) s.heap.objs.size f cdv)).units+64<cLine->(A.deeper (envOfC x (ai st) s.heap.objs.size f cdv)).units+1<cLine->(∀{M:Model} {A:Ud} {env:Env},PassesOwn M A env λ_ _=>False)->R9 (rk bo P w K mg base N x (ai st) f cdv A outer s H E).nox->sp vs H Q E ->
   ∃t,PSs (rk bo P w K mg base N x (ai st) f cdv A outer s H E).nox (cF st) t/\t {nx:=λ_ H'=>Q .non H',rt:=Q} (start N vs) H):FnC P w K mg base bo (k+1) x ps sp :=
 F.ok S len λf cdv A outer s H vs Q E hr h=>hbody f cdv A outer s H vs Q E S.nd hr hr.units (T8 (Zay (by decide:1<=64) _) hr.units) Yp ⟨rfl,rfl,rfl⟩ h
end
open PySem PySem.Spec PyProof.Rows PySem.W Builtin Builtin.ObjectAttr Builtin.Getset_descriptor
open PySem PySem.Spec PyProof.Rows PySem.W
open PySem.W (Dat kqdP kqdPs kqdOk)
mutual
inductive Rep (K:Fg) (H:Hp):V->Dat->Prop
 |non:Rep K H .non .none
 |bl (b:Bool):Rep K H (.bl b) (.bool b)
 |int (i:Int):Rep K H (.int i) (.int i)
 |str (x:Str):Rep K H (.str x) (.str x)
 |tup {a:Addr} {xs:List V} {ds:List Dat}:SqT K H a xs->RepL K H xs ds->Rep K H (.ref a) (.tuple ds)
 |lst {a:Addr} {xs:List V} {ds:List Dat}:SqL K H a xs->RepL K H xs ds->Rep K H (.ref a) (.list ds)
inductive RepL (K:Fg) (H:Hp):List V->List Dat->Prop
 |nil:RepL K H [] []
 |cons {v:V} {d:Dat} {vs:List V} {ds:List Dat}:Rep K H v d->RepL K H vs ds->RepL K H (v :: vs) (d :: ds)
end
section
variable{K:Fg}{H H':Hp}
def RepL.length:∀{vs:List V} {ds:List Dat},RepL K H vs ds->Wi vs=Wi ds
 |_,_,.nil=>rfl
 |_,_,.cons _ r=>congrArg (· + 1) (RepL.length r)
def RepL.get:∀{vs:List V} {ds:List Dat} {i:Nat} {v:V},RepL K H vs ds->vs[i]?=some v->∃d,ds[i]?=some d/\Rep K H v d
 |_,_,_,_,.nil,e=>by simp at e
 |_,_,0,_,.cons h _,e=>by simp at e;subst e;exact⟨_,rfl,h⟩
 |_,_,i+1,v,.cons _ r,e=>by
  obtain⟨d,h1,h2⟩:=RepL.get (i:=i) (v:=v) r (by simpa using e);exact⟨d,by simpa using h1,h2⟩
end
section
variable{X:Cx}{ξ:List (Addr×Obj)}{σ:St}{H:Hp}{s:SZ}
mutual
def Rep.reads(I:Inv X ξ σ H s):∀{v:V} {d:Dat} {u:SW},Rep X.K H v d->RelV v u->∃as,Wk s.heap u (kqdP d) as
 |_,_,u,.non,r=>by
  cases (show u=UR from r);exact⟨_,Wk.none⟩
 |_,_,u,.bl b,r=>by
  cases (show u=ZA b from r);exact⟨_,Wk.bool b⟩
 |_,_,u,.int i,r=>by
  obtain⟨t,e⟩:=(show ∃t,u=YB i t from r)
  cases e;exact⟨_,Wk.int i t⟩
 |_,_,u,.str x,r=>by
  obtain⟨t,e⟩:=(show ∃t,u=Zi x t from r)
  cases e;exact⟨_,Wk.str x t⟩
 |_,_,u,@Rep.tup _ _ a xs ds h q,r=>by
  cases (show u=Ua a from r);obtain⟨ab,rv,⟨o,e,c,n,dd⟩,_⟩:=I.tuple h;obtain⟨as,p⟩:=RepL.reads I q rv;rw[kqdP];exact⟨_,Wk.tuple e c dd (by simpa using p)⟩
 |_,_,u,@Rep.lst _ _ a xs ds h q,r=>by
  cases (show u=Ua a from r);obtain⟨ab,rv,⟨o,n,e,c,_,dd⟩,_⟩:=I.list h;obtain⟨as,p⟩:=RepL.reads I q rv;rw[kqdP];exact⟨_,Wk.list e c dd (by simpa using p)⟩
def RepL.reads(I:Inv X ξ σ H s):∀{vs:List V} {ds:List Dat} {us:List SW},RepL X.K H vs ds->Vals vs us->∃as,Zad s.heap us (kqdPs ds) as
 |_,_,_,.nil,.nil=>by
  rw[kqdPs];exact⟨_,Zad.nil⟩
 |_,_,_,.cons h q,.cons r rr=>by
  obtain⟨as,p⟩:=Rep.reads I h r;obtain⟨bs,p'⟩:=RepL.reads I q rr;rw[kqdPs];exact⟨_,Zad.cons p p'⟩
end
open Classical in
def FB(hd:kqdOk 8 d=true)(he:kqdOk 8 e=true):ZH (kqdP d) (kqdP e)=decide (d=e):=by
 have q:=ZS 8 d e 8 hd he;by_cases z:d=e
 .rw[decide_eq_true z];exact q.mpr z
 .rw[decide_eq_false z];exact YZ.mpr λy=>z (q.mp y)
def sF(h:kqdOk 8 d=true):SeqAt.shaped (kqdP d)=true:=by
 have l:=Wh 8 d h;unfold SeqAt.shaped;rw[l.1,Zch];exact decide_eq_true (TQ l.2 (by decide))
open Classical in
abbrev Le(K:Fg):R2:=λx y H Q=>∃d e,Rep K H x d/\Rep K H y e/\kqdOk 8 d=true/\kqdOk 8 e=true/\Q (.bl (decide (d=e))) H
def Of(hu:X.A.units+64<cLine):fh X (compareOp .Eq) (Le X.K):=by
 intro ξ s σ H x y v u Q I rx ry h;obtain⟨d,e,hd,he,kd,ke,q⟩:=h;obtain⟨as,ra⟩:=Rep.reads I hd rx;obtain⟨bs,rb⟩:=Rep.reads I he ry;exact eq_dataH ra rb (sF kd) (sF ke) hu ⟨_,H,I,(by rw[FB kd ke];rfl),q⟩
open Classical in
def F9{ds:List Dat}(ha:∀e∈ds,kqdOk 8 e=true)(hd:kqdOk 8 d=true):((kqdPs ds).any λy=>ZH y (kqdP d))=decide (d∈ds):=by
 by_cases z:d∈ds
 .rw[decide_eq_true z];exact(ZbX ds d ha hd).mpr z
 .rw[decide_eq_false z];exact YZ.mpr λy=>z ((ZbX ds d ha hd).mp y)
open Classical in
abbrev HA(K:Fg)(dY:Bool):R2:=λx y H Q=>∃d ds,Rep K H x d/\Rep K H y (.list ds)/\(∀e∈ds,kqdOk 8 e=true)/\kqdOk 8 d=true/\Q (.bl (if dY then !decide (d∈ds) else decide (d∈ds))) H
def Ml{A:Ud}(hd:kqdOk 8 d=true)(hu:A.units+64<cLine):A.units+1+min (ZT (kqdPs ds)) (kqdP d).depth<cLine:=by
 have l:=(Wh 8 d hd).2
 have:=X3 (ZT (kqdPs ds)) (kqdP d).depth
 lia
def Ef(hu:X.A.units+64<cLine):fh X (compareOp .NotIn) (HA X.K true):=by
 intro ξ s σ H x y v u Q I rx ry h;obtain⟨d,ds,hd,he,ka,kd,q⟩:=h;obtain⟨as,ra⟩:=Rep.reads I hd rx;obtain⟨bs,rb⟩:=Rep.reads I he ry;rw[kqdP] at rb;exact SeqAt.notIn_list_reads rb ra (ZbD ka).1 (Wh 8 d kd).1 (Ml kd hu) ⟨_,H,I,(by rw[F9 ka kd];rfl),q⟩
end
abbrev aT(X:Cx)(ys M:List Str)(scope:Scope)(cl:List (Str×Addr))(C:Addr)(s:SZ)(H:Hp)(fp:List Addr)(ξ:List (Addr×Obj)):Cx where
 prog:=X.prog
 w:=X.w
 K:=X.K
 mg:=X.mg
 base:=X.base
 A:=X.A
 N:=ys++M
 s₀:=s
 H₀:=H
 env:=compEnvC scope cl C X.env
 outer:=X.stack
 stack:=X.stack
 ex:=fp
 fn:=λ_=>false
 calm:=X.calm
 pn:=X.pn++ξ
 xe:=λ_ _=>False
structure jD (X:Cx) (ys M:List Str) (scope:Scope) (cl:List (Str×Addr)):Prop where
 kind:scope.kind=.function
 nocell:∀y∈scope.names,y.2≠.cell
 names:∀y∈scope.names,y.2=.local->scope.names.lookup y.1=some .local
 own:∀y∈ys,scope.names.lookup y=some .local
 clos:closureFor scope X.env=pure cl
 nd:(ys++M).Nodup
 len:Wi M=X.N.length
 same:∀p∈M.zip X.N,p.1=p.2\/(relabel scope X.env).names.lookup p.1=none
 apart:∀y∈M,(relabel scope X.env).names.lookup y≠some .local
 cells:∀y c,cl.lookup y=some c->X.env.cells.lookup y=some c/\(X.env.scope.names.lookup y=some .cell\/X.env.scope.names.lookup y=some .free)
 has:∀y,((relabel scope X.env).names.lookup y=some .cell\/(relabel scope X.env).names.lookup y=some .free)->∃c,cl.lookup y=some c
section
variable{X:Cx}{ys M:List Str}{scope:Scope}{cl:List (Str×Addr)}{C:Addr}{s:SZ}{H:Hp}{fp:List Addr}{ξ:List (Addr×Obj)}{σ:St}
def Iw{h1:Heap}{tk:Nat}(I:Inv X ξ σ H s)(c:jD X ys M scope cl)(eC:C=s.heap.objs.size)(hns:h1.Ns C (λ_=>none))(hsb:Xg C (s.heap.push o) h1)
  (fk:∀b∈fp,jq X ξ H b/\∃o,s.heap.get? b=some o):Inv (aT X ys M scope cl C s H fp ξ) [] (Tq (Wi ys) none ++ σ) H {s with heap:=h1,toks:=tk}:=by
 have keep:∀b u,s.heap.get? b=some u->h1.get? b=some u:=λb u e=>hsb.extBut b u (by rw[eC];exact T0 (Tz e)) (SY _ e)
 have neC:∀b u,s.heap.get? b=some u->b≠C:=λb u e=>by rw[eC];exact T0 (Tz e)
 have out:∀{b:Addr},b≠X.env.locals->b∉X.fs->b∉Bu X.stack:=λh1 h2 z=>(Tu.mp (I.CG _ z)).elim h1 h2
 refine⟨⟨I.ok.mod,c.kind,I.ok.glob,I.ok.blt,by rw[eC];exact SR _,λy z a h1 h2=>I.ok.inj y z a (c.cells y a h1).1 (c.cells z a h2).1,c.has,λy a z _=>Zq z,I.ok.hd,I.ok.frames,.inl rfl,λb hb=>?_,I.bs,TQ I.ok.bsz I.sz,λb u e hb=>?_,λb hb=>?_,I.stack,I.CH⟩,
  rfl,I.bare,Un.kept keep,⟨_,hns,λi y v e1 e2 e3=>?_⟩,λy a e=>?_,I.hok.fresh (by rw[eC];exact SR _),λy a e=>I.freeC y a (c.cells y a e).1,λp hp=>?_,I.hok.kept keep,?_⟩
 .obtain⟨⟨_,_,_,_,f5,_⟩,u,e⟩:=fk b hb;exact⟨neC b u e,λy a q=>f5 y a (c.cells y a q).1⟩
 .obtain⟨⟨_,_,_,f4,_,_⟩,_⟩:=fk b hb;rcases f4 with z|z
  .exact I.ok.noex b u e z
  .exact absurd (Ts (Tz (I.ok.bs b u e).1) z) (V1 _)
 .obtain⟨⟨_,f2,f3,_,_,_⟩,_⟩:=fk b hb;exact out f2 f3
 .by_cases lt:i<Wi ys
  .have e2':(Tq (Wi ys) (none:Option V) ++ σ)[i]?=some (some v):=e2;rw[TU (by simpa using lt),WG lt] at e2';cases e2'
  .have e0:M[i-Wi ys]?=some y:=by
    have e1':(ys++M)[i]?=some y:=e1
    rwa [TV ∅] at e1'
   have e2':σ[i-Wi ys]?=some (some v):=by
    have e2':(Tq (Wi ys) (none:Option V) ++ σ)[i]?=some (some v):=e2
    rwa [TV (by simpa using lt),Up] at e2'
   have hy:y∈M:=SM e0
   have vis0:(relabel scope X.env).names.lookup y≠none:=by
    rcases e3 with z|z|z <;> (intro q;have q':=(show(relabel scope X.env).names.lookup y=some _ from z).symm.trans q;cases q')
   have e1':X.N[i-Wi ys]?=some y:=by
    have vt:i-Wi ys<X.N.length:=by rw[<- c.len];exact(SL.mp e0).1
    have hz:(y,X.N[i-Wi ys])∈M.zip X.N:=by
     refine SM (i:=i-Wi ys) ?_;rw[VD];exact⟨e0,SN vt⟩
    rcases c.same _ hz with q|q
    .rw[SN vt];exact congrArg some q.symm
    .exact absurd q vis0
   have e3':(relabel scope X.env).names.lookup y=some .cell\/(relabel scope X.env).names.lookup y=some .free:=by
    rcases e3 with z|z|z
    .exact absurd z (c.apart y hy)
    .exact .inl z
    .exact .inr z
   obtain⟨a,ea⟩:=c.has y e3';obtain⟨q1,q2⟩:=c.cells y a ea;obtain⟨m,_,hl⟩:=I.loc;have vis:Qo X.env.scope y:=.inr q2;obtain⟨u,ru,lu⟩:=hl (i-Wi ys) y v e1' e2' vis;refine⟨u,ru,.inr ⟨e3',a,ea,?_⟩⟩;rcases lu with⟨z,_⟩|⟨_,a',ea',⟨oc,hoc,hd⟩⟩
   .have z':X.env.scope.names.lookup y=some .local:=z;rcases q2 with q2|q2 <;> (rw[z'] at q2;cases q2)
   .rw[q1] at ea';cases ea';exact⟨oc,keep _ _ hoc,hd⟩
 .obtain⟨v,oc,hoc,hd⟩:=I.cell y a (c.cells y a e).1;exact⟨v,oc,keep _ _ hoc,hd⟩
 .have hp':p∈X.pn++ξ:=by simpa[aT] using hp
  obtain⟨q1,q2,q3,q4,q5⟩:=I.pin p hp';exact⟨keep _ _ q1,q2,neC _ _ q1,out q3 q4,q5⟩
 .show(Tq (Wi ys) none ++ σ).length=(ys++M).length;rw[To,To,Up,I.len,c.len]
def Bc(I:Inv X ξ σ H s)(fk:∀b∈fp,jq X ξ H b/\∃o,s.heap.get? b=some o)(I':Inv (aT X ys M scope cl C s H fp ξ) pins' σ' H' s1):Inv X ξ σ H' s1 :=
 I.call' (ch:=fp) I'.os I'.base I'.hok I'.bare λb hb=>let ⟨⟨_,f2,_,f4,f5,f6⟩,_⟩:=fk b hb;⟨f4,f2,f5,f6⟩
abbrev rP(J:It)(n:Nat)(g:TG)(te:TE)(σ:St)(Q:VK)(H1:Hp):Prop:=∀D,H1 D=none->∃W:Nat->Nat->Hp->Prop,(∃m,W 0 m (upd H1 D (.lst [])))/\∀i m H,W i m H ->
 (J.stop i H/\Q (.ref D) H)\/(J.go i H/\∀v H',J.yld i H v H'->∀us:St,us.length=n->g v (us ++ σ) H' λσ2 H2=>(∃us':St,us'.length=n/\σ2=us' ++ σ)/\te σ2 H2 λy H3=>∃xs,H3 D=some (.lst xs)/\xs.length<sizeLine/\∃m',m'<m/\W (i+1) m' (upd H3 D (.lst (xs++[y]))))
abbrev cC(wi:TI)(n:Nat)(g:TG)(te:TE):TE:=λσ H Q=>wi σ H λJ H1=>rP J n g te σ Q H1
abbrev cx(J:It)(te:TE)(σ:St)(Q:VK)(H1:Hp):Prop:=∀D,H1 D=none->∃W:Nat->Nat->Hp->Prop,(∃m,W 0 m (upd H1 D (.lst [])))/\∀i m H,W i m H ->
 (J.stop i H/\Q (.ref D) H)\/(J.go i H/\∀v H',J.yld i H v H'->te (some v :: σ) H' λy H2=>∃xs,H2 D=some (.lst xs)/\xs.length<sizeLine/\∃m',m'<m/\W (i+1) m' (upd H2 D (.lst (xs++[y]))))
abbrev bT(wi:TI)(te:TE):TE:=λσ H Q=>wi σ H λJ H1=>cx J te σ Q H1
def zr{σ:St}{Q:VK}(h:cx J te σ Q H1):rP J 1 (aj 0) te σ Q H1:=by
 intro D nD;obtain⟨W,h0,hs⟩:=h D nD;refine⟨W,h0,λi m H w=>?_⟩;rcases hs i m H w with q|⟨go,st⟩
 .exact .inl q
 .refine .inr ⟨go,λv H' y us hu=>?_⟩;obtain⟨u,rfl⟩:∃u,us=[u]:=U6.mp hu;exact⟨⟨[some v],rfl,rfl⟩,st v H' y⟩
abbrev Qg(J:It)(n:Nat)(g:TG)(tc:TT)(te:TE)(σ:St)(QQ:Addr->Hp->Prop)(H1:Hp):Prop:=∀D,H1 D=none->∃W:Nat->Nat->Hp->Prop,(∃m,W 0 m (upd H1 D (.lst [])))/\∀i m H,W i m H ->
 (J.stop i H/\QQ D H)\/(J.go i H/\∀v H',J.yld i H v H'->∀us:St,us.length=n->g v (us ++ σ) H' λσ2 H2=>(∃us':St,us'.length=n/\σ2=us' ++ σ)/\tc σ2 H2 λb H3 =>
  if b=true then te σ2 H3 λy H4=>∃xs,H4 D=some (.lst xs)/\xs.length<sizeLine/\∃m',m'<m/\W (i+1) m' (upd H4 D (.lst (xs++[y]))) else ∃m',m'<m/\W (i+1) m' H3)
nonrec def Gf(J:It)(n:Nat)(g:TG)(tc:TT)(te:TE)(σ:St)(Q:VK)(H1:Hp):Prop:=Qg J n g tc te σ (λD H=>Q (.ref D) H) H1
abbrev fA(wi:TI)(n:Nat)(g:TG)(tc:TT)(te:TE):TE:=λσ H Q=>wi σ H λJ H1=>Gf J n g tc te σ Q H1
nonrec def M8(ifs:List Expr)(env:Env):Sem Bool:=forIn ifs true λc r=>if r=true then (do let ok <- isTrue c env (eval c env);pure (Xx ok)) else pure (Xx r)
abbrev Qa(X:Cx)(ifs:List Expr)(tc:TT):Prop:=∀(ξ:List (Addr×Obj)) (s:SZ) (σ:St) (H:Hp) (Q:Bool->Hp->Prop),Inv X ξ σ H s->tc σ H Q->wpAny (model X.prog X.w) X.A (M8 ifs X.env) (λb s'=>∃H',Inv X ξ σ H' s'/\Q b H') X.xe s
nonrec def Kr:TT:=λ_ H Q=>Q true H
def DW{X:Cx}:Qa X [] Kr:=λ_ _ _ H _ I h=>wpAny_tests_nil ⟨H,I,h⟩
def DV{X:Cx}(h:PT X c tc):Qa X [c] tc:=λξ s σ H Q I q=>wpAny_tests_one (h ξ s σ H Q I q)
def FR{R:ZbB->SZ->Prop}{s:SZ}{iter:Expr}{scope:Scope}{pos:Pos}{acc:SW}(I:Nat->SZ->Prop)
  (turn:∀n s,I n s->wpAny (model prog w) A (pyNext it) (λr s1=>match r with
   |none=>R (.ok .next) s1
   |some v=>wpAny (model prog w) A (letOwnedTupleGo target it v) (λ_ s2=>wpAny (model prog w) A (assign target env v) (λ_ s3=>wpAny (model prog w) A (M8 ifs env) (λok s4 =>
     if ok=true then wpAny (model prog w) A (eval elt env) (λx s5=>wpAny (model prog w) A (call (.builtin "list.append") [acc,x]) (λ_ s6=>∃m,m<n/\I m s6) (λ_ _=>False) s5) (λ_ _=>False) s4
     else ∃m,m<n/\I m s4) (λ_ _=>False) s3) (λ_ _=>False) s2) (λ_ _=>False) s1) (λ_ _=>False) s) (n:Nat) (h:I n s) :
  codeAny (model prog w) A (.compLoop (.ListComp elt [⟨target,iter,ifs,0⟩] scope pos) 0 it acc env) R s:=by
 refine codeAny_loop rfl I (λk s1 hI=>?_) n h;have no:∀{α:Type} {t:Sem α} {P:α->SZ->Prop} {E:SW->SZ->Prop} {z:SZ},wpAny (model prog w) A t P (λ_ _=>False) z->wpAny (model prog w) A t P E z:=λq=>Vu q (λ_ _ z=>z) λ_ _ z=>z.elim
 show wpAny _ _ ((compTurn (.ListComp elt [⟨target,iter,ifs,0⟩] scope pos) 0 it acc env).onRaise _) _ _ s1;refine wpAny_noted ?_;rw[compTurn_list];refine SQ (Y6 (SQ (no (Vu (turn k s1 hI) (λr s2 h2=>?_) λ_ _ z=>z))));cases r with
 |none=>exact Td h2
 |some v =>
  refine SQ (no (Vu h2 (λ_ s3 h3=>?_) λ_ _ z=>z));refine SQ (no (Vu h3 (λ_ s4 h4=>?_) λ_ _ z=>z));refine SQ (no (Vu h4 (λok s5 h5=>?_) λ_ _ z=>z));cases ok with
  |true =>
   rw[if_pos rfl] at h5;refine SQ (SQ (no (Vu h5 (λx s6 h6=>?_) λ_ _ z=>z)));exact SQ (no (Vu h6 (λ_ s7 h7=>Td (Td ⟨rfl,h7⟩)) λ_ _ z=>z))
  |false =>
   rw[if_neg Th] at h5;exact Td ⟨rfl,h5⟩
def uC{iter:Expr}{pos:Pos}{E:SW->SZ->Prop}{QQ:Addr->Hp->Prop}{RR:SW->Addr->ZbB->SZ->Prop}(I:Inv X ξ σ H s)(c:jD X ys M scope cl)(hc:X.calm=true)
  (hg:∀C s₀ H₀ fp ξ,PG (aT X ys M scope cl C s₀ H₀ fp ξ) tg g) (ht:∀C s₀ H₀ fp ξ,Qa (aT X ys M scope cl C s₀ H₀ fp ξ) ifs tc) (he:∀C s₀ H₀ fp ξ,PE (aT X ys M scope cl C s₀ H₀ fp ξ) elt te) (T:rN X.prog X.w X.K tg J fp it tn) (st:tn 0 s.heap) (fk:∀b∈fp,jq X ξ H b)
  (h:Qg J (Wi ys) g tc te σ QQ H)
  (fin:∀D C H' s',s.heap.objs.size<=C->s'.heap.get? C≠none->(∃m,s'.heap.Ns C m)->H' C=none->Inv X ξ σ H' s'->QQ D H'->RR (.ref D) C (.ok .next) s') :
  wpAny (model X.prog X.w) X.A (newList []) (λacc s₃=>wpAny (model X.prog X.w) X.A (newFunctionEnv scope X.env.globals cl [] X.env.qual none .none (some X.env)) (λcenv s₄ =>
   codeAny (model X.prog X.w) X.A (.compStart (.ListComp elt [⟨tg,iter,ifs,0⟩] scope pos) 0 (.ref it) acc {cenv with scope:=relabel scope X.env}) (RR acc cenv.locals) s₄) E s₃) E s:=by
 refine Uy (wpAny_newFunctionEnv c.nocell (by intro y hy;simp at hy) (λh1 hns hsb=>?_) c.kind);dsimp only at hns hsb ⊢;have hf:H s.heap.objs.size=none:=I.hok.fresh (SR _)
 have I3:Inv X ξ σ (upd H s.heap.objs.size (.lst [])) {s with heap:=s.heap.push {cls:=.type "list",dict:=none,data:=.seq ([]:List SW).toArray}} :=
  I.laid (t':=s.toks) (λb u e=>SY _ e) (SR _) ⟨by decide,[],_,.nil,Tx _ rfl⟩
 have eD:∀b u,s.heap.get? b=some u->b≠s.heap.objs.size:=λb u e=>T0 (Tz e)
 have fk3:∀b∈fp,jq X ξ (upd H s.heap.objs.size (.lst [])) b/\∃o,(s.heap.push {cls:=.type "list",dict:=none,data:=.seq ([]:List SW).toArray}).get? b=some o:=λb hb=>by
  obtain⟨o,eo,_⟩:=T.obj 0 _ st b hb;obtain⟨f1,f2⟩:=fk b hb;exact⟨⟨by rw[aJ (eD b o eo)];exact f1,f2⟩,o,SY _ eo⟩
 have I4:=Iw (tk:=s.toks+([]:List (Str×SW)).length) I3 c rfl hns hsb fk3;obtain⟨W,⟨m0,w0⟩,turn⟩:=h _ hf
 have st4:tn 0 h1:=T.keep 0 _ _ st λb hb o e=>by
  have e2:=SY {cls:=.type "list",dict:=none,data:=.seq ([]:List SW).toArray} e;exact hsb.extBut b o (T0 (Tz e2)) (SY _ e2)
 have stat:∀{H':Hp},(∀b∈fp,H' b=none)->∀b∈fp,jq (aT X ys M scope cl (s.heap.push {cls:=.type "list",dict:=none,data:=.seq ([]:List SW).toArray}).objs.size {s with heap:=s.heap.push {cls:=.type "list",dict:=none,data:=.seq ([]:List SW).toArray}} (upd H s.heap.objs.size (.lst [])) fp ξ) [] H' b :=
  λhn b hb=>⟨hn b hb,(I4.ok.exf b hb).1,I4.ok.exfs b hb,.inl hb,(I4.ok.exf b hb).2,λp hp=>(fk3 b hb).1.2.2.2.2.2 p (by simpa[aT] using hp)⟩
 have loop:∀s4:SZ,s4 = {s with heap:=h1,toks:=s.toks+([]:List (Str×SW)).length} ->
   codeAny (model X.prog X.w) X.A (.compLoop (.ListComp elt [⟨tg,iter,ifs,0⟩] scope pos) 0 (.ref it) (.ref s.heap.objs.size) (compEnvC scope cl (s.heap.push {cls:=.type "list",dict:=none,data:=.seq ([]:List SW).toArray}).objs.size X.env))
    (RR (.ref s.heap.objs.size) (s.heap.push {cls:=.type "list",dict:=none,data:=.seq ([]:List SW).toArray}).objs.size) s4:=by
  rintro s4 rfl
  refine FR (λn s'=>∃(i:Nat) (us:St) (H':Hp),us.length=ys.length/\Inv (aT X ys M scope cl (s.heap.push {cls:=.type "list",dict:=none,data:=.seq ([]:List SW).toArray}).objs.size {s with heap:=s.heap.push {cls:=.type "list",dict:=none,data:=.seq ([]:List SW).toArray}} (upd H s.heap.objs.size (.lst [])) fp ξ) [] (us ++ σ) H' s'/\tn i s'.heap/\(∀b∈fp,H' b=none)/\W i n H')
   ?_ m0 ⟨0,_,_,Up,I4,st4,λb hb=>(fk3 b hb).1.1,w0⟩
  rintro n s5 ⟨i,us,H5,lu,I5,st5,fr5,w5⟩;rcases turn i n H5 w5 with⟨stop,q⟩|⟨go,step⟩
  .refine bg (T.done (aT X ys M scope cl _ _ _ _ _) rfl rfl rfl hc i [] s5 _ H5 _ I5 (stat fr5) st5 stop) λr s6 ω=>?_;obtain⟨er,I6⟩:=ω
   subst er;obtain⟨m,hn6,_⟩:=id I6.loc;obtain⟨o6,_,_,ho6,_⟩:=id hn6;exact fin _ _ H5 s6 (by rw[VL];exact Ye _) (λz=>by have z':=ho6.symm.trans z;cases z') ⟨m,hn6⟩ I6.free (Bc I3 fk3 I6) q
  .refine bg (T.item (aT X ys M scope cl _ _ _ _ _) rfl rfl rfl hc i [] s5 _ H5 _ I5 (stat fr5) st5 go) λr s6 ω=>?_;obtain⟨u,er,h6⟩:=ω
   subst er;refine bg h6 λ_ s7 ω=>?_;obtain⟨v',H7,I7,r7,y7,st7,fr7⟩:=ω
   have I7':=I7.pinned (stat fr7) (T.obj _ _ st7);refine Vu (hg _ _ _ _ _ _ s7 _ H7 v' u _ I7' r7 (step v' H7 y7 us lu)) (λ_ s8 ω=>?_) λ_ _ z=>z.elim;obtain⟨σ8,H8,I8,⟨us',lu',e8⟩,q8⟩:=ω
   refine Vu (ht _ _ _ _ _ _ s8 _ H8 _ I8 q8) (λok s9 ω=>?_) λ_ _ z=>z.elim;obtain⟨H9,I9,q9⟩:=ω
   subst e8;cases ok with
   |true =>
    rw[if_pos rfl] at q9 ⊢;refine Vu (he _ _ _ _ _ _ s9 _ H9 _ I9 q9) (λy s10 ω=>?_) λ_ _ z=>z.elim;obtain⟨yv,H10,I10,ry,xs,hxs,hlen,m',hm,w10⟩:=ω
    refine Vu (t9 (X:=aT X ys M scope cl _ _ _ _ _) _ s10 _ H10 (.ref s.heap.objs.size) [yv] (.ref s.heap.objs.size) [y] (λ_ H11=>H11=upd H10 s.heap.objs.size (.lst (xs++[yv]))) I10 rfl (.cons ry .nil) ⟨_,xs,yv,rfl,rfl,hxs,hlen,rfl⟩) (λ_ s11 ω=>?_) λ_ _ z=>z.elim;obtain⟨z,H11,I11,rz,q11⟩:=ω
    subst q11;refine⟨m',hm,i+1,us',_,lu',I11.g5 (ξ:=[]),T.keep _ _ _ st7 λb hb o e=>(I11.pin (b,o) (TJ _ (TJ _ (df hb e)))).1,λb hb=>?_,w10⟩;obtain⟨o,e,_⟩:=T.obj _ _ st7 b hb;exact(I11.pin (b,o) (TJ _ (TJ _ (df hb e)))).2.1
   |false =>
    rw[if_neg Th] at q9 ⊢;obtain⟨m',hm,w9⟩:=q9;refine⟨m',hm,i+1,us',_,lu',I9.g5 (ξ:=[]),T.keep _ _ _ st7 λb hb o e=>(I9.pin (b,o) (TJ _ (TJ _ (df hb e)))).1,λb hb=>?_,w9⟩;obtain⟨o,e,_⟩:=T.obj _ _ st7 b hb;exact(I9.pin (b,o) (TJ _ (TJ _ (df hb e)))).2.1
 exact codeAny_compStart_list (loop _ rfl) (T.self _ 0 _ _ _ st4 (loop _ rfl))
end
section
variable{X:Cx}{ys M:List Str}{x:Str}{scope:Scope}{cl:List (Str×Addr)}
def yG{iter:Expr}{pos:Pos}(c:jD X ys M scope cl)(hc:X.calm=true)(hi:PI X tg iter wi)(hg:∀C s₀ H₀ fp ξ,PG (aT X ys M scope cl C s₀ H₀ fp ξ) tg g)(ht:∀C s₀ H₀ fp ξ,Qa (aT X ys M scope cl C s₀ H₀ fp ξ) ifs tc)(he:∀C s₀ H₀ fp ξ,PE (aT X ys M scope cl C s₀ H₀ fp ξ) elt te)
  (hs:∀v,foldedSetIterable iter X.env v=pure v:=by intro _;rfl):PE X (.ListComp elt [⟨tg,iter,ifs,0⟩] scope pos) (fA wi (Wi ys) g tc te):=by
 intro ξ s σ H Q I h;rw[eval_ListComp];refine Zb (use:=none) rfl hs c.clos c.kind c.names (bg (hi ξ s σ H _ I h) λv s1 h1=>bg h1 λitv s2 h2=>?_);obtain⟨it,fp,tn,J,H2,rfl,I2,T,st2,fk2,h3⟩:=h2;refine uC (E:=X.xe) (QQ:=λD H'=>Q (.ref D) H') I2 c hc hg ht he T st2 fk2 h3 λD C H' s' hC hl ns fr I' q=>?_
 obtain⟨m,hn⟩:=ns;refine⟨m,hn,λh' hs'=>?_⟩;have sz:=I2.sz;exact⟨.ref D,H',I'.turned (t':=s'.toks) (λb o hb e=>(hs'.2 b hb).trans e) fr (I2.fpOk hC fr).2.1 (I2.fpOk hC fr).2.2.2.1 (I2.fpOk hC fr).2.2.2.2.1 (I2.fpOk hC fr).2.2.2.2.2,rfl,q⟩
def yB{iter:Expr}{pos sp:Pos}{i:Nat}{y:Str}(hy:X.N[i]?=some y)(ly:X.env.scope.names.lookup y=some .local)(c:jD X ys M scope cl)(hN:X.N.Nodup)(hc:X.calm=true)(hi:PI X tg iter wi)
  (hg:∀C s₀ H₀ fp ξ,PG (aT X ys M scope cl C s₀ H₀ fp ξ) tg g) (ht:∀C s₀ H₀ fp ξ,Qa (aT X ys M scope cl C s₀ H₀ fp ξ) ifs tc) (he:∀C s₀ H₀ fp ξ,PE (aT X ys M scope cl C s₀ H₀ fp ξ) elt te)
  (hsw:swapsWith (.ListComp elt [⟨tg,iter,ifs,0⟩] scope pos) (some (.Name y py)) sp.line X.env=pure true:=by rfl) (hs:∀v,foldedSetIterable iter X.env v=pure v:=by intro _;rfl) :
  PS X (.Assign [.Name y py] (.ListComp elt [⟨tg,iter,ifs,0⟩] scope pos) sp) (aA (fA wi (Wi ys) g tc te) (aj i)):=by
 intro ξ s σ H D I h;rw[exec_Assign_Name_used _ _ _ _ hsw];refine SQ (Y6 (SQ ?_));show wpAny _ X.A (do let _ <- comprehension (.ListComp elt [⟨tg,iter,ifs,0⟩] scope pos) scope X.env _ (newList []) false (eval iter X.env) (some (assign (.Name y py) X.env))) _ _ s;refine SQ (Vu (Zb (use:=some (assign (.Name y py) X.env)) (Q:=λ_ s'=>SP X ξ D .next s') rfl hs c.clos c.kind c.names (bg (hi ξ s σ H _ I h) λv s1 h1=>bg h1 λitv s2 h2=>?_)) (λ_ s' hq=>Td (Td hq)) λ_ _ z=>z);obtain⟨it,fp,tn,J,H2,rfl,I2,T,st2,fk2,h3⟩:=h2;refine uC (E:=X.xe) (QQ:=λDa H'=>D.nx (σ.set i (⇑Da)) H') I2 c hc hg ht he T st2 fk2 h3 λDa C H' s' hC hl ns fr I' q=>?_
 obtain⟨m,hn⟩:=ns;refine wpAny_assign_Name (sw I' hN hy (.inl ly) (v:=.ref Da) rfl (λs3 I3 ω=>?_) (.inr ly));obtain⟨a,hsa,ha⟩:=ω
 have nC:C≠a:=by
  rcases ha with z|z
  .rw[z];exact(I2.fpOk hC fr).2.1
  .exact λw'=>(I2.fpOk hC fr).2.2.2.2.1 y a z w'.symm
 refine⟨m,hn.sameBut hsa nC,λh' hs'=>⟨_,H',I3.turned (t':=s3.toks) (λb o hb e=>(hs'.2 b hb).trans e) fr (I2.fpOk hC fr).2.1 (I2.fpOk hC fr).2.2.2.1 (I2.fpOk hC fr).2.2.2.2.1 (I2.fpOk hC fr).2.2.2.2.2,q⟩⟩
def yF{iter:Expr}{pos:Pos}(c:jD X ys M scope cl)(hc:X.calm=true)(hi:PI X tg iter wi)(hg:∀C s₀ H₀ fp ξ,PG (aT X ys M scope cl C s₀ H₀ fp ξ) tg g)(he:∀C s₀ H₀ fp ξ,PE (aT X ys M scope cl C s₀ H₀ fp ξ) elt te)
  (hs:∀v,foldedSetIterable iter X.env v=pure v:=by intro _;rfl):PE X (.ListComp elt [⟨tg,iter,[],0⟩] scope pos) (cC wi (Wi ys) g te):=yG (tc:=Kr) c hc hi hg (λ_ _ _ _ _=>DW) he hs
def yA{iter:Expr}{pos sp:Pos}{i:Nat}{y:Str}(hy:X.N[i]?=some y)(ly:X.env.scope.names.lookup y=some .local)(c:jD X ys M scope cl)(hN:X.N.Nodup)(hc:X.calm=true)(hi:PI X tg iter wi)
  (hg:∀C s₀ H₀ fp ξ,PG (aT X ys M scope cl C s₀ H₀ fp ξ) tg g) (he:∀C s₀ H₀ fp ξ,PE (aT X ys M scope cl C s₀ H₀ fp ξ) elt te)
  (hsw:swapsWith (.ListComp elt [⟨tg,iter,[],0⟩] scope pos) (some (.Name y py)) sp.line X.env=pure true:=by rfl) (hs:∀v,foldedSetIterable iter X.env v=pure v:=by intro _;rfl) :
  PS X (.Assign [.Name y py] (.ListComp elt [⟨tg,iter,[],0⟩] scope pos) sp) (aA (cC wi (Wi ys) g te) (aj i)):=yB (tc:=Kr) hy ly c hN hc hi hg (λ_ _ _ _ _=>DW) he hsw hs
def JA(c:jD X [x] M scope cl)(C:Addr)(s₀:SZ)(H₀:Hp)(fp:List Addr)(ξ:List (Addr×Obj)):PG (aT X [x] M scope cl C s₀ H₀ fp ξ) (.Name x px) (aj 0):=by
 have hx:(relabel scope X.env).names.lookup x=some .local:=lookup_relabel_local (c.own x (by simp));exact wM (X:=aT X [x] M scope cl C s₀ H₀ fp ξ) (i:=0) c.nd rfl (.inl hx) (.inr hx)
end
abbrev Ha(scope sc:Scope):List (Str×Zm):=scope.names.map λ(n,k)=>if (k == .free && sc.kind == .function && sc.names.lookup n == some .cell) then (n,.cell) else (n,k)
abbrev eR(scope:Scope)(cells:List (Str×Addr)):List (Str×Addr):=((scope.names.filter λn=>n.2 == .free).map λn=>(n.1,(cells.lookup n.1).getD 0)).reverse
structure jX (sc:Scope) (N M ys:List Str) (scope:Scope):Prop where
 kind:scope.kind=.function
 nocell:∀y∈scope.names,y.2≠.cell
 names:∀y∈scope.names,y.2=.local->scope.names.lookup y.1=some .local
 own:∀y∈ys,scope.names.lookup y=some .local
 nd:(ys++M).Nodup
 len:Wi M=Wi N
 same:∀p∈M.zip N,p.1=p.2\/(Ha scope sc).lookup p.1=none
 apart:∀y∈M,(Ha scope sc).lookup y≠some .local
 free:∀n∈scope.names,n.2=.free->sc.names.lookup n.1=some .cell
def jy{g:Str->Addr}:∀{l:List (Str×Addr)} {y:Str},(∀n∈l,n.2=g n.1)->∀{c:Addr},l.lookup y=some c->c=g y/\∃n∈l,n.1=y
 |[],_,_,_,h=>by simp at h
 |(n,a) :: r,y,hg,c,h=>by
  by_cases e:y=n
  .subst e;rw[V4,beq_self_eq_true] at h;have h':a=c:=TH h;exact⟨by rw[<- h'];exact hg (y,a) Tb,_,Tb,rfl⟩
  .have e':(y == n)=false:=beq_eq_false_iff_ne.mpr e;rw[V4,e'] at h;obtain⟨h1,m,hm,h2⟩:=jy (λn hn=>hg n (S_ _ hn)) h;exact⟨h1,m,S_ _ hm,h2⟩
def xm{l:List (Str×Addr)}{y:Str}:(∃n∈l,n.1=y)->∃c,l.lookup y=some c:=by
 induction l with
 |nil=>rintro⟨n,hn,_⟩;cases hn
 |cons a r ih =>
  rintro⟨n,hn,e⟩;obtain⟨m,b⟩:=a;by_cases e':y=m
  .subst e';exact⟨b,by rw[V4,beq_self_eq_true]⟩
  .have e2:(y == m)=false:=beq_eq_false_iff_ne.mpr e';rw[V4,e2];refine ih ?_;rcases Tu.mp hn with z|z
   .rw[z] at e;exact absurd e.symm e'
   .exact⟨n,z,e⟩
def rD{n:Str×Addr}:n∈eR scope cells↔∃m∈scope.names,m.2=.free/\n=(m.1,(cells.lookup m.1).getD 0):=by
 unfold eR;rw[List.mem_reverse,Te];constructor
 .rintro⟨m,hm,rfl⟩;rw[Ui] at hm;exact⟨m,hm.1,beq_iff_eq.mp hm.2,rfl⟩
 .rintro⟨m,hm,hk,rfl⟩;exact⟨m,Ui.mpr ⟨hm,beq_iff_eq.mpr hk⟩,rfl⟩
def oN{env:Env}:∀(names:List (Str×Zm)) (acc:List (Str×Addr)),(∀n∈names,n.2=.free->∃c,env.cells.lookup n.1=some c) ->
  (forIn names acc λx r=>do
   let (name,kind):=x
   if kind == .free then do
    let c <- cellOf env name
    pure (Xx ((name,c) :: r))
   else pure (Xx r):Sem (List (Str×Addr)))=pure (((names.filter λn=>n.2 == .free).map λn=>(n.1,(env.cells.lookup n.1).getD 0)).reverse++acc)
 |[],acc,_=>rfl
 |(n,k) :: r,acc,h=>by
  have ih:=λacc=>oN r acc λm hm=>h m (S_ _ hm)
  rw[ZU];by_cases hk:k=.free
  .subst hk;obtain⟨c,hc⟩:=h (n,.free) Tb rfl;have e1:cellOf env n=pure c:=by unfold cellOf;rw[hc]
   simp only[beq_self_eq_true,if_true,e1,pure_bind,Xj,TN,List.reverse_cons,Ut,X0];rw[hc];exact ih _
  .have hb:(k == Zci)=false:=beq_eq_false_iff_ne.mpr hk;simp only[hb,TZ,if_false,pure_bind,Xj];exact ih _
def jX.sc{X:Cx}(c:jX X.env.scope X.N M ys scope)(ok:X.Ok):jD X ys M scope (eR scope X.env.cells):=by
 have hfc:∀n∈scope.names,n.2=.free->∃a,X.env.cells.lookup n.1=some a:=λn hn hk=>ok.has n.1 (.inl (c.free n hn hk))
 refine⟨c.kind,c.nocell,c.names,c.own,?_,c.nd,c.len,c.same,c.apart,λy a h=>?_,λy h=>?_⟩
 .have z:=oN (env:=X.env) scope.names [] hfc;rw[WT] at z;exact(congrArg (λm:Sem (List (Str×Addr))=>m >>= λcs=>pure cs) z).trans rfl
 .obtain⟨h1,n,hn,e⟩:=jy (g:=λz=>(X.env.cells.lookup z).getD 0) (λn hn=>by obtain⟨m,_,_,rfl⟩:=rD.mp hn;rfl) h;obtain⟨m,hm,hk,e2⟩:=rD.mp hn;have ey:m.1=y:=by rw[<- e,e2]
  obtain⟨a',ha'⟩:=hfc m hm hk;rw[ey] at ha';refine⟨?_,.inl (by rw[<- ey];exact c.free m hm hk)⟩;rw[h1,ha'];rfl
 .have hm:∃m∈scope.names,m.1=y/\m.2=.free:=by
   have go:∀names:List (Str×Zm),(∀z∈names,z.2≠.cell)->((names.map λ(n,k)=>if (k == .free && X.env.scope.kind == .function && X.env.kindOf n == some .cell) then (n,Zc) else (n,k)).lookup y=some .cell\/(names.map λ(n,k)=>if (k == .free && X.env.scope.kind == .function && X.env.kindOf n == some .cell) then (n,Zc) else (n,k)).lookup y=some .free)->∃m∈names,m.1=y/\m.2=.free:=by
    intro names
    induction names with
    |nil=>intro _ h;simp at h
    |cons a r ih =>
     intro nc h;obtain⟨n,k⟩:=a;by_cases e:y=n
     .subst e;refine⟨_,Tb,rfl,?_⟩;have nk:k≠.cell:=nc (y,k) Tb;by_cases hk:k=.free
      .exact hk
      .have hb:(k == Zci)=false:=beq_eq_false_iff_ne.mpr hk;simp only[TN,hb,Zb8,TZ,if_false,V4,beq_self_eq_true] at h;rcases h with z|z
       .exact absurd (TH z) nk
       .exact absurd (TH z) hk
     .have e':(y == n)=false:=beq_eq_false_iff_ne.mpr e
      have h':(r.map λ(n,k)=>if (k == .free && X.env.scope.kind == .function && X.env.kindOf n == some .cell) then (n,Zc) else (n,k)).lookup y=some .cell\/(r.map λ(n,k)=>if (k == .free && X.env.scope.kind == .function && X.env.kindOf n == some .cell) then (n,Zc) else (n,k)).lookup y=some .free:=by
       by_cases hb:(k == .free && X.env.scope.kind == .function && X.env.kindOf n == some .cell)=true
       .simpa only[TN,hb,if_true,V4,e'] using h
       .simpa only[TN,hb,TZ,if_false,V4,e'] using h
      obtain⟨m,hm,r1⟩:=ih (λz hz=>nc z (S_ _ hz)) h';exact⟨m,S_ _ hm,r1⟩
   exact go scope.names c.nocell h
  obtain⟨m,hm,e,hk⟩:=hm;exact xm ⟨_,rD.mpr ⟨m,hm,hk,rfl⟩,e⟩
section
variable{X:Cx}{x:Str}{ys M:List Str}{scope:Scope}
def N6{iter:Expr}{pos:Pos}(c:jX X.env.scope X.N M ys scope)(hc:X.calm=true)(hi:PI X tg iter wi)(hg:∀C s₀ H₀ fp ξ,PG (aT X ys M scope (eR scope X.env.cells) C s₀ H₀ fp ξ) tg g)(he:∀C s₀ H₀ fp ξ,PE (aT X ys M scope (eR scope X.env.cells) C s₀ H₀ fp ξ) elt te)
  (hs:∀v,foldedSetIterable iter X.env v=pure v:=by intro _;rfl):PE X (.ListComp elt [⟨tg,iter,[],0⟩] scope pos) (cC wi (Wi ys) g te):=λξ s σ H Q I h=>yF (c.sc I.ok) hc hi hg he hs ξ s σ H Q I h
def NQ{iter:Expr}{pos sp:Pos}{i:Nat}{y:Str}(hN:X.N.Nodup)(hy:X.N[i]?=some y)(ly:X.env.scope.names.lookup y=some .local)(c:jX X.env.scope X.N M ys scope)(hc:X.calm=true)(hi:PI X tg iter wi)
  (hg:∀C s₀ H₀ fp ξ,PG (aT X ys M scope (eR scope X.env.cells) C s₀ H₀ fp ξ) tg g) (he:∀C s₀ H₀ fp ξ,PE (aT X ys M scope (eR scope X.env.cells) C s₀ H₀ fp ξ) elt te)
  (hsw:swapsWith (.ListComp elt [⟨tg,iter,[],0⟩] scope pos) (some (.Name y py)) sp.line X.env=pure true:=by rfl) (hs:∀v,foldedSetIterable iter X.env v=pure v:=by intro _;rfl) :
  PS X (.Assign [.Name y py] (.ListComp elt [⟨tg,iter,[],0⟩] scope pos) sp) (aA (cC wi (Wi ys) g te) (aj i)):=λξ s σ H D I h=>yA hy ly (c.sc I.ok) hN hc hi hg he hsw hs ξ s σ H D I h
def N8{elt iter:Expr}{px pos:Pos}{wi:TI}{te:TE}(c:jX X.env.scope X.N M [x] scope)(hN:X.N.Nodup)(hc:X.calm=true)(hi:PI X (.Name x px) iter wi)(he:∀C s₀ H₀ fp ξ,PE (aT X [x] M scope (eR scope X.env.cells) C s₀ H₀ fp ξ) elt te)
  (hs:∀v,foldedSetIterable iter X.env v=pure v:=by intro _;rfl):PE X (.ListComp elt [⟨.Name x px,iter,[],0⟩] scope pos) (bT wi te):=by
 intro ξ s σ H Q I h
 have hi':PI X (.Name x px) iter (λσ H R=>∃R',(∀J H1,R' J H1->R J H1)/\wi σ H R'):=by
  intro ξ s σ H R I ⟨R',hR,hw⟩;refine bg (hi ξ s σ H R' I hw) λv s1 h1=>bg h1 (by rintro itv s2 ⟨it,fp,tn,J,H',e,I',T,t0,fk,r⟩;exact ⟨it,fp,tn,J,H',e,I',T,t0,fk,hR J H' r⟩)
 exact yF (c.sc I.ok) hc hi' (λC s₀ H₀ fp ξ=>JA (c.sc I.ok) C s₀ H₀ fp ξ) he hs ξ s σ H Q I ⟨_,λJ H1 q=>zr q,h⟩
def QL{elt iter:Expr}{px pos py sp:Pos}{wi:TI}{te:TE}{i:Nat}{y:Str}(hN:X.N.Nodup)(hy:X.N[i]?=some y)(ly:X.env.scope.names.lookup y=some .local)(c:jX X.env.scope X.N M [x] scope)(hc:X.calm=true)(hi:PI X (.Name x px) iter wi)(he:∀C s₀ H₀ fp ξ,PE (aT X [x] M scope (eR scope X.env.cells) C s₀ H₀ fp ξ) elt te)
  (hsw:swapsWith (.ListComp elt [⟨.Name x px,iter,[],0⟩] scope pos) (some (.Name y py)) sp.line X.env=pure true:=by rfl) (hs:∀v,foldedSetIterable iter X.env v=pure v:=by intro _;rfl) :
  PS X (.Assign [.Name y py] (.ListComp elt [⟨.Name x px,iter,[],0⟩] scope pos) sp) (aA (bT wi te) (aj i)):=by
 intro ξ s σ H D I h
 have hi':PI X (.Name x px) iter (λσ H R=>∃R',(∀J H1,R' J H1->R J H1)/\wi σ H R'):=by
  intro ξ s σ H R I ⟨R',hR,hw⟩;refine bg (hi ξ s σ H R' I hw) λv s1 h1=>bg h1 (by rintro itv s2 ⟨it,fp,tn,J,H',e,I',T,t0,fk,r⟩;exact ⟨it,fp,tn,J,H',e,I',T,t0,fk,hR J H' r⟩)
 exact yA hy ly (c.sc I.ok) hN hc hi' (λC s₀ H₀ fp ξ=>JA (c.sc I.ok) C s₀ H₀ fp ξ) he hsw hs ξ s σ H D I ⟨_,λJ H1 q=>zr q,h⟩
end
abbrev MN(D:Addr)(Pv:Hp->Prop):VK:=λy H2=>∃xs,H2 D=some (.lst xs)/\xs.length<sizeLine/\Pv (upd H2 D (.lst (xs++[y])))
section
variable{K:Fg}{te:TE}{σ:St}{Q:VK}{H:Hp}
abbrev mK(D:Addr)(n i:Nat)(Pv:Nat->Hp->Prop):VK:=λy H2=>∃xs,H2 D=some (.lst xs)/\xs.length<sizeLine/\∃m',m'<n-i/\m'=n-(i+1)/\i+1<=n/\Pv (i+1) (upd H2 D (.lst (xs++[y])))
abbrev M0(te:TE)(σ:St)(v:V)(H:Hp)(D:Addr)(n i:Nat)(Pv:Nat->Hp->Prop):Prop:=te (some v :: σ) H (mK D n i Pv)
def aI{n i:Nat}{Pv:Nat->Hp->Prop}(hi:i<n)(h:MN D (Pv (i+1)) y H2):mK D n i Pv y H2:=by
 obtain⟨xs,h1,h2,h3⟩:=h;exact⟨xs,h1,h2,n-(i+1),∅,rfl,hi,h3⟩
def cG{lo:Int}{n:Nat}(h:∀D,H D=none->∃Pv:Nat->Hp->Prop,Pv 0 (upd H D (.lst []))/\(∀i H2,i<n->Pv i H2->M0 te σ (.int (lo+i)) H2 D n i Pv)/\∀H2,Pv n H2->Q (.ref D) H2):cx (rT lo n) te σ Q H:=by
 intro D nD;obtain⟨Pv,h0,hs,hd⟩:=h D nD;refine⟨λi m H=>m=n-i/\i<=n/\Pv i H,⟨n,by simp,T1 _,h0⟩,?_⟩;rintro i m H ⟨rfl,hi,p⟩;by_cases vt:i<n
 .refine .inr ⟨vt,λv H' y=>?_⟩;obtain⟨e,y⟩:=y;subst e y;exact hs i _ vt p
 .have e:i=n:=by lia
  subst e;exact .inl ⟨SR _,hd H p⟩
def dy{xs:List V}(h:∀D,H D=none->∃Pv:Nat->Hp->Prop,Pv 0 (upd H D (.lst []))/\(∀i H2,i<=Wi xs->Pv i H2->SqL K H2 a xs)/\(∀i x H2,xs[i]?=some x->Pv i H2->M0 te σ x H2 D (Wi xs) i Pv)/\∀H2,Pv (Wi xs) H2->Q (.ref D) H2):cx (uT K a) te σ Q H:=by
 intro D nD;obtain⟨Pv,h0,hl,hs,hd⟩:=h D nD;refine⟨λi m H=>m=Wi xs-i/\i<=(Wi xs)/\Pv i H,⟨xs.length,by simp,T1 _,h0⟩,?_⟩;rintro i m H ⟨rfl,hi,p⟩;have q:=hl i H hi p;by_cases vt:i<Wi xs
 .refine .inr ⟨⟨xs,xs[i],q,by simp[vt]⟩,λv H' y=>?_⟩;obtain⟨e,y⟩:=y;subst e;exact hs i v _ (y xs q) p
 .have e:i=Wi xs:=by lia
  subst e;exact .inl ⟨⟨xs,q,SR _⟩,hd H p⟩
def cN{xs:List V}(h:∀D,H D=none->∃Pv:Nat->Hp->Prop,Pv 0 (upd H D (.lst []))/\(∀i H2,i<=Wi xs->Pv i H2->SqT K H2 a xs)/\(∀i x H2,xs[i]?=some x->Pv i H2->M0 te σ x H2 D (Wi xs) i Pv)/\∀H2,Pv (Wi xs) H2->Q (.ref D) H2):cx (vf K a) te σ Q H:=by
 intro D nD;obtain⟨Pv,h0,hl,hs,hd⟩:=h D nD;refine⟨λi m H=>m=Wi xs-i/\i<=(Wi xs)/\Pv i H,⟨xs.length,by simp,T1 _,h0⟩,?_⟩;rintro i m H ⟨rfl,hi,p⟩;have q:=hl i H hi p;by_cases vt:i<Wi xs
 .refine .inr ⟨⟨xs,xs[i],q,by simp[vt]⟩,λv H' y=>?_⟩;obtain⟨e,y⟩:=y;subst e;exact hs i v _ (y xs q) p
 .have e:i=Wi xs:=by lia
  subst e;exact .inl ⟨⟨xs,q,SR _⟩,hd H p⟩
end
open PySem.W (Dat kqdOk)
section
variable{K:Fg}{σ:St}{H:Hp}{Q:VK}{D:ca}{ta tb tc te:TE}{t u:TS}{c:TT}{QB:Bool->Hp->Prop}{QA:List V->Hp->Prop}{QS:St->Hp->Prop}
def Rf(h:t {D with nx:=u D} σ H):ak t u D σ H:=h
def OU(h:D.nx σ H):aP D σ H:=h
def Me(h:te σ H λ_ H1=>D.nx σ H1):bV te D σ H:=h
def Rg(h:te σ H D.rt):aC te D σ H:=h
def RB(h:c σ H λb H1=>if b=true then t D σ H1 else u D σ H1):aM c t u D σ H:=h
def Pb{g:TG}(h:te σ H λx H1=>g x σ H1 D.nx):aA te g D σ H:=h
def EX{v:V}(h:QS (σ.set i (some v)) H):aj i v σ H QS:=h
def uk{i:Nat}{v:V}(e:σ[i]?=some (some v))(h:Q v H):aa i σ H Q:=⟨v,e,h⟩
def SB(h:Q v H):tC v σ H Q:=h
def OQ{r:R2}(h:ta σ H λx H1=>tb σ H1 λy H2=>r x y H2 Q):ao r ta tb σ H Q:=h
def Q9{r:V->Hp->VK->Prop}(h:ta σ H λx H1=>r x H1 Q):Cz r ta σ H Q:=h
def OO{g:Int->V}(h:Q (g i) H):rU g (.int i) H Q:=⟨i,rfl,h⟩
def Rh{g:Int->Int->V}(h:Q (g i j) H):wG g (.int i) (.int j) H Q:=⟨i,j,rfl,rfl,h⟩
def ul{C:Int->Int->Prop}{g:Int->Int->V}(hc:C i j)(h:Q (g i j) H):rI C g (.int i) (.int j) H Q:=⟨i,j,rfl,rfl,hc,h⟩
def RF{i j:Int}(h:Q (.bl (decide (i=j))) H):fu (.int i) (.int j) H Q:=⟨rfl,by
 have e:decide (V.int i=V.int j)=decide (i=j):=by
  by_cases z:i=j
  .subst z;simp
  .simp[z]
 rw[e];exact h⟩
def Rq{i j:Int}(h:Q (.bl (!decide (i=j))) H):yu (.int i) (.int j) H Q:=⟨rfl,by
 have e:decide (V.int i=V.int j)=decide (i=j):=by
  by_cases z:i=j
  .subst z;simp
  .simp[z]
 rw[e];exact h⟩
def RE{i j:Str}(h:Q (.bl (decide (i=j))) H):fu (.str i) (.str j) H Q:=⟨rfl,by
 have e:decide (V.str i=V.str j)=decide (i=j):=by
  by_cases z:i=j
  .subst z;simp
  .simp[z]
 rw[e];exact h⟩
def RH{i j:Bool}(h:Q (.bl (decide (i=j))) H):fu (.bl i) (.bl j) H Q:=⟨rfl,by
 have e:decide (V.bl i=V.bl j)=decide (i=j):=by
  by_cases z:i=j
  .subst z;simp
  .simp[z]
 rw[e];exact h⟩
def Rr{i j:Bool}(h:Q (.bl (!decide (i=j))) H):yu (.bl i) (.bl j) H Q:=⟨rfl,by
 have e:decide (V.bl i=V.bl j)=decide (i=j):=by
  by_cases z:i=j
  .subst z;simp
  .simp[z]
 rw[e];exact h⟩
def Rx{x:V}(h:Q (.bl (decide (x=.non))) H):wF x .non H Q:=⟨rfl,h⟩
def OS{x:V}(h:Q (.bl (!decide (x=.non))) H):ND x .non H Q:=⟨rfl,h⟩
def OI(h:te σ H λx H'=>∃k,x=.bl k/\QB k H'):aO te σ H QB:=h
def Rb(h:te σ H λx H'=>∃k,x=.bl k/\QB k H'):tB te σ H QB:=h
def RL{P:Bool->Prop}(h:P b):∃k,V.bl b=.bl k/\P k:=⟨b,rfl,h⟩
def OT(h:c σ H λb H1=>QB (!b) H1):dN c σ H QB:=h
def RM{c':TT}(h:c σ H λb H1=>if b=true then c' σ H1 QB else QB false H1):pR c c' σ H QB:=h
def Ro{c':TT}(h:c σ H λb H1=>if b=true then QB true H1 else c' σ H1 QB):Ac c c' σ H QB:=h
def Pc(h:ta σ H λx H1=>∃k,x=.bl k/\if k=true then tb σ H1 Q else Q (.bl false) H1):mY ta tb σ H Q:=h
def Rm(h:ta σ H λx H1=>∃k,x=.bl k/\if k=true then Q (.bl true) H1 else tb σ H1 Q):CB ta tb σ H Q:=h
def OR(h:ta σ H λx H1=>∃k,x=.bl k/\Q (.bl (!k)) H1):Ae ta σ H Q:=h
def RC(h:c σ H λb H1=>if b=true then ta σ H1 Q else tb σ H1 Q):M_ c ta tb σ H Q:=h
def Mh{r r':R2}(h:ta σ H λx H1=>tb σ H1 λy H2=>r x y H2 λz H3=>∃k,z=.bl k/\(if k=true then tc σ H3 λw' H4=>r' y w' H4 Q else Q (.bl false) H3)):gj r r' ta tb tc σ H Q:=h
def Io(h:QA [] H):ae σ H QA:=h
def O9{tr:TA}(h:ta σ H λx H1=>tr σ H1 λxs H2=>QA (x :: xs) H2):ac ta tr σ H QA:=h
def Pa{sp:Sp}{ff:List V}{ts:TA}(h:ts σ H λvs H1=>sp (vs++ff) H1 Q E):aw sp ff E ts σ H Q:=h
def RJ{r:List V->Hp->VK->Prop}{ts:TA}(h:ts σ H λvs H1=>r vs H1 Q):aX r ts σ H Q:=h
def Q_{ts:TA}(h:ts σ H λxs H1=>Wi xs<=sizeLine/\∀p,H1 p=none->Q (.ref p) (upd H1 p (.tup xs))):cP ts σ H Q:=h
def Rs{ts:TA}(h:ts σ H λxs H1=>Wi xs<=sizeLine/\∀p,H1 p=none->Q (.ref p) (upd H1 p (.lst xs))):cS ts σ H Q:=h
def Re{r:V->Option Int->Option Int->Hp->VK->Prop}{tl th:TO}(h:te σ H λx H1=>tl σ H1 λl H2=>th σ H2 λu H3=>r x l u H3 Q):CA r te tl th σ H Q:=h
def Im{QO:Option Int->Hp->Prop}(h:QO none H):fz σ H QO:=h
def OP{QO:Option Int->Hp->Prop}(h:te σ H λx H1=>∃i,x=.int i/\QO (some i) H1):g6 te σ H QO:=h
def Ry{P:Int->Prop}(h:P i):∃j,V.int i=.int j/\P j:=⟨i,rfl,h⟩
def aV[Decidable p]{A B:Prop}(h1:p->A)(h2 : ¬ p->B):if decide p=true then A else B:=Pe h1 h2
def be[Decidable p]{A B:Prop}(h1 : ¬ p->A)(h2:p->B):if (!decide p)=true then A else B:=by
 by_cases h:p
 .rw[decide_eq_true h];exact E4 (h2 h)
 .rw[decide_eq_false h];exact Bb (h1 h)
def L6{A B:Prop}(h:A):if (!false)=true then A else B:=Bb h
def L5{A B:Prop}(h:B):if (!true)=true then A else B:=E4 h
def L7{b:Bool}{A B:Prop}(e:b=true)(h:A):if b=true then A else B:=by rw[if_pos e];exact h
def L8{b:Bool}{A B:Prop}(e:b=false)(h:B):if b=true then A else B:=by rw[if_neg (by rw[e];exact Th)];exact h
abbrev Bw(J:It)(g:TG)(tb:TS)(D:ca)(σ:St)(H1:Hp):Prop:=∃W:Nat->Nat->St->Hp->Prop,(∃m,W 0 m σ H1)/\∀i m σ H,W i m σ H ->
 (J.stop i H/\D.nx σ H)\/(J.go i H/\∃N:St->Hp->Prop,(∀σ' H',N σ' H'->∃m',m'<m/\W (i+1) m' σ' H')/\∀x H',J.yld i H x H'->g x σ H' λσ2 H2=>tb {D with nx:=N,ct:=N,bk:=D.nx} σ2 H2)
def RD{wi:TI}{tb:TS}(h:wi σ H λJ H1=>Bw J g tb D σ H1):bS wi g tb D σ H:=h
def O_{wi:TI}(h:wi σ H λJ H1=>cx J te σ Q H1):bT wi te σ H Q:=h
def OL{ts:TA}{R:It->Hp->Prop}(h:ts σ H λvs H1=>∃j:Int,vs=[.int j]/\-(2 ^ 62)<=j/\j<2 ^ 62/\R (rT 0 j.toNat) H1):fe ts σ H R:=h
def OK{ts:TA}{R:It->Hp->Prop}(h:ts σ H λvs H1=>∃i j:Int,vs=[.int i,.int j]/\(-(2 ^ 62)<=i/\i<2 ^ 62/\-(2 ^ 62)<=j/\j<2 ^ 62)/\R (rT i (j-i).toNat) H1):Mn ts σ H R:=h
def Rj{tb:TS}{j:Int}(h0 : -(2 ^ 62)<=j/\j<2 ^ 62)(h:Bw (rT 0 j.toNat) g tb D σ H):∃i:Int,[V.int j]=[.int i]/\-(2 ^ 62)<=i/\i<2 ^ 62/\Bw (rT 0 i.toNat) g tb D σ H:=⟨j,rfl,h0.1,h0.2,h⟩
def Rl{j:Int}(h0 : -(2 ^ 62)<=j/\j<2 ^ 62)(h:cx (rT 0 j.toNat) te σ Q H):∃i:Int,[V.int j]=[.int i]/\-(2 ^ 62)<=i/\i<2 ^ 62/\cx (rT 0 i.toNat) te σ Q H:=⟨j,rfl,h0.1,h0.2,h⟩
def Ri{i j:Int}(h0 : -(2 ^ 62)<=i/\i<2 ^ 62/\-(2 ^ 62)<=j/\j<2 ^ 62)(h:cx (rT i (j-i).toNat) te σ Q H):∃i' j':Int,[V.int i,V.int j]=[.int i',.int j']/\(-(2 ^ 62)<=i'/\i'<2 ^ 62/\-(2 ^ 62)<=j'/\j'<2 ^ 62)/\cx (rT i' (j'-i').toNat) te σ Q H:=⟨i,j,rfl,h0,h⟩
def L_{R:It->Hp->Prop}(h:te σ H λx H1=>∃a,x=.ref a/\(∃xs,SqL K H1 a xs)/\R (uT K a) H1):dB K te σ H R:=h
def OY{R:It->Hp->Prop}(h:te σ H λx H1=>∃a,x=.ref a/\(∃xs,SqT K H1 a xs)/\R (vf K a) H1):gi K te σ H R:=h
def jS{tb:TS}(e:SqL K H a xs)(h:Bw (uT K a) g tb D σ H):∃b,V.ref a=.ref b/\(∃xs,SqL K H b xs)/\Bw (uT K b) g tb D σ H:=⟨a,rfl,⟨xs,e⟩,h⟩
def xr(e:SqL K H a xs)(h:cx (uT K a) te σ Q H):∃b,V.ref a=.ref b/\(∃xs,SqL K H b xs)/\cx (uT K b) te σ Q H:=⟨a,rfl,⟨xs,e⟩,h⟩
def OJ{tb:TS}(e:SqT K H a xs)(h:Bw (vf K a) g tb D σ H):∃b,V.ref a=.ref b/\(∃xs,SqT K H b xs)/\Bw (vf K b) g tb D σ H:=⟨a,rfl,⟨xs,e⟩,h⟩
def nR(e:SqT K H a xs)(h:cx (vf K a) te σ Q H):∃b,V.ref a=.ref b/\(∃xs,SqT K H b xs)/\cx (vf K b) te σ Q H:=⟨a,rfl,⟨xs,e⟩,h⟩
def cR{lo:Int}{n:Nat}{g:TG}{tb:TS}(Pv:Nat->St->Hp->Prop)(h0:Pv 0 σ H)
  (hs:∀i σ H,i<n->Pv i σ H->g (.int (lo+i)) σ H λσ2 H2=>tb {D with nx:=Pv (i+1),ct:=Pv (i+1),bk:=D.nx} σ2 H2) (hd:∀σ H,Pv n σ H->D.nx σ H):Bw (rT lo n) g tb D σ H:=Fw Pv h0 hs hd
def b7{xs:List V}{g:TG}{tb:TS}(Pv:Nat->St->Hp->Prop)(h0:Pv 0 σ H)(hl:∀i σ H,i<=Wi xs->Pv i σ H->SqL K H a xs)
  (hs:∀i x σ H,xs[i]?=some x->Pv i σ H->g x σ H λσ2 H2=>tb {D with nx:=Pv (i+1),ct:=Pv (i+1),bk:=D.nx} σ2 H2) (hd:∀σ H,Pv (Wi xs) σ H->D.nx σ H):Bw (uT K a) g tb D σ H:=II Pv h0 hl hs hd
def Fy{xs:List V}{g:TG}{tb:TS}(Pv:Nat->St->Hp->Prop)(h0:Pv 0 σ H)(hl:∀i σ H,i<=Wi xs->Pv i σ H->SqT K H a xs)
  (hs:∀i x σ H,xs[i]?=some x->Pv i σ H->g x σ H λσ2 H2=>tb {D with nx:=Pv (i+1),ct:=Pv (i+1),bk:=D.nx} σ2 H2) (hd:∀σ H,Pv (Wi xs) σ H->D.nx σ H):Bw (vf K a) g tb D σ H:=Ms Pv h0 hl hs hd
def O7{v:V}{D:Addr}(h:te (some v :: σ) H (mK D n i Pv)):M0 te σ v H D n i Pv:=h
def bv{n:Nat}{ts:Jc}(e:SqT K H a xs)(l:Wi xs=n)(h:ts xs σ H QS):bZ K n ts (.ref a) σ H QS:=⟨a,xs,rfl,e,l,h⟩
def Ma{tg:TG}{ts:Jc}(h:tg v σ H λσ' H'=>ts r σ' H' QS):aR tg ts (v :: r) σ H QS:=⟨v,r,rfl,h⟩
def O1(h:QS σ H):b4 [] σ H QS:=⟨rfl,h⟩
def bP(e:SqL K H p xs)(h:Q (.int (Wi xs)) H):bf K [.ref p] H Q:=⟨p,xs,rfl,.inl e,h⟩
def cY(e:SqT K H p xs)(h:Q (.int (Wi xs)) H):bf K [.ref p] H Q:=⟨p,xs,rfl,.inr e,h⟩
def OV{z:Str}(e:z.length<=sizeLine)(h:Q (.int z.length) H):NG [.str z] H Q:=⟨z,rfl,e,h⟩
def dm{v:V}(e:SqL K H p xs)(a:kh xs i=some v)(h:Q v H):cQ K (.ref p) (.int i) H Q:=⟨p,xs,i,v,rfl,rfl,e,a,h⟩
def aN{v:V}(e:SqT K H p xs)(a:kh xs i=some v)(h:Q v H):aH K (.ref p) (.int i) H Q:=⟨p,xs,i,v,rfl,rfl,e,a,h⟩
def Rv{z:Str}{c:Nat}(e:z.length<=sizeLine)(a:kh z.cps.toList i=some c)(h:Q (.str ⟨#[c]⟩) H):Hz (.str z) (.int i) H Q:=⟨z,i,c,rfl,rfl,e,a,h⟩
def dF(e:SqL K H p xs)(h:∀l,H l=none->Q (.ref l) (upd H l (.tup xs))):bX K [.ref p] H Q:=⟨p,xs,rfl,.inl ⟨e,h⟩⟩
def yQ(e:SqT K H p xs)(h:Q (.ref p) H):bX K [.ref p] H Q:=⟨p,xs,rfl,.inr ⟨e,h⟩⟩
def xt(e:SqL K H p xs)(h:∀l,H l=none->Q (.ref l) (upd H l (.lst xs))):fG K [.ref p] H Q:=⟨p,xs,rfl,.inl e,h⟩
def EU(e:SqT K H p xs)(h:∀l,H l=none->Q (.ref l) (upd H l (.lst xs))):fG K [.ref p] H Q:=⟨p,xs,rfl,.inr e,h⟩
def RK{r:V->List V->Hp->VK->Prop}{to:TE}{ts:TA}(h:to σ H λx H1=>M6 K T x H1/\ts σ H1 λxs H2=>r x xs H2 Q):eJ K T r to ts σ H Q:=h
def ER(e:H p=some (.lst xs)):M6 K "list" (.ref p) H:=.inl ⟨rfl,xs,SqL.of e⟩
def OX{b:Bool}(h:Q (.int (if b then 1 else 0)) H):Ld [.bl b] H Q:=.inr ⟨b,rfl,h⟩
def aF{b:Bool}(e:TyOf K H x ty)(k:TK K ty (.type n)=some b)(h:Q (.bl b) H):eL K [x,.ty n] H Q:=⟨x,n,ty,b,rfl,e,k,h⟩
def gt{i j:Str}(n:i.length+j.length<=sizeLine)(h:Q (.str (i++j)) H):gL (.str i) (.str j) H Q:=⟨i,j,rfl,rfl,n,h⟩
end
mutual
inductive Rp (K:Fg) (S:Addr->Prop) (H:Hp):V->Dat->Prop
 |non:Rp K S H .non .none
 |bl (b:Bool):Rp K S H (.bl b) (.bool b)
 |int (i:Int):Rp K S H (.int i) (.int i)
 |str (x:Str):Rp K S H (.str x) (.str x)
 |tup {a:Addr} {xs:List V} {ds:List Dat}:H a=some (.tup xs)->RpL K S H xs ds->Rp K S H (.ref a) (.tuple ds)
 |lst {a:Addr} {xs:List V} {ds:List Dat}:S a->H a=some (.lst xs)->RpL K S H xs ds->Rp K S H (.ref a) (.list ds)
inductive RpL (K:Fg) (S:Addr->Prop) (H:Hp):List V->List Dat->Prop
 |nil:RpL K S H [] []
 |cons {v:V} {d:Dat} {vs:List V} {ds:List Dat}:Rp K S H v d->RpL K S H vs ds->RpL K S H (v :: vs) (d :: ds)
end
structure Agr (S:Addr->Prop) (H H':Hp):Prop where
 tup:∀a xs,H a=some (.tup xs)->H' a=some (.tup xs)
 lst:∀a xs,S a->H a=some (.lst xs)->H' a=some (.lst xs)
section
variable{K:Fg}{S S':Addr->Prop}{H H':Hp}
def Agr.of_same(e:Same H H'):Agr S H H':=⟨λa xs h=>e _ _ h,λa xs _ h=>e _ _ h⟩
def Agr.eV(hl:H l=some (.lst ys))(ns : ¬ S l):Agr S H (upd H l o):=by
 refine⟨λa xs h=>?_,λa xs s h=>?_⟩
 .have ne:a≠l:=by
   rintro rfl;rw[hl] at h;cases h
  rw[aJ ne];exact h
 .have ne:a≠l:=by
   rintro rfl;exact ns s
  rw[aJ ne];exact h
mutual
def Rp.agr(e:Agr S H H'):∀{v:V} {d:Dat},Rp K S H v d->Rp K S H' v d
 |_,_,.non=>.non
 |_,_,.bl b=>.bl b
 |_,_,.int i=>.int i
 |_,_,.str x=>.str x
 |_,_,.tup h r=>.tup (e.tup _ _ h) (RpL.agr e r)
 |_,_,.lst s h r=>.lst s (e.lst _ _ s h) (RpL.agr e r)
def RpL.agr(e:Agr S H H'):∀{vs:List V} {ds:List Dat},RpL K S H vs ds->RpL K S H' vs ds
 |_,_,.nil=>.nil
 |_,_,.cons h r=>.cons (Rp.agr e h) (RpL.agr e r)
end
mutual
def Rp.mono(e:∀a,S a->S' a):∀{v:V} {d:Dat},Rp K S H v d->Rp K S' H v d
 |_,_,.non=>.non
 |_,_,.bl b=>.bl b
 |_,_,.int i=>.int i
 |_,_,.str x=>.str x
 |_,_,.tup h r=>.tup h (RpL.mono e r)
 |_,_,.lst s h r=>.lst (e _ s) h (RpL.mono e r)
def RpL.mono(e:∀a,S a->S' a):∀{vs:List V} {ds:List Dat},RpL K S H vs ds->RpL K S' H vs ds
 |_,_,.nil=>.nil
 |_,_,.cons h r=>.cons (Rp.mono e h) (RpL.mono e r)
end
mutual
def Rp.rep:∀{v:V} {d:Dat},Rp K S H v d->Rep K H v d
 |_,_,.non=>.non
 |_,_,.bl b=>.bl b
 |_,_,.int i=>.int i
 |_,_,.str x=>.str x
 |_,_,.tup h r=>.tup (SqT.of h) (RpL.rep r)
 |_,_,.lst _ h r=>.lst (SqL.of h) (RpL.rep r)
def RpL.rep:∀{vs:List V} {ds:List Dat},RpL K S H vs ds->RepL K H vs ds
 |_,_,.nil=>.nil
 |_,_,.cons h r=>.cons (Rp.rep h) (RpL.rep r)
end
def Rp.same(e:Same H H')(h:Rp K S H v d):Rp K S H' v d:=h.agr (Agr.of_same e)
def RpL.same(e:Same H H')(h:RpL K S H vs ds):RpL K S H' vs ds:=h.agr (Agr.of_same e)
def RpL.length:∀{vs:List V} {ds:List Dat},RpL K S H vs ds->Wi vs=Wi ds
 |_,_,.nil=>rfl
 |_,_,.cons _ r=>congrArg (· + 1) (RpL.length r)
def RpL.get:∀{vs:List V} {ds:List Dat} {i:Nat} {v:V},RpL K S H vs ds->vs[i]?=some v->∃d,ds[i]?=some d/\Rp K S H v d
 |_,_,_,_,.nil,e=>by simp at e
 |_,_,0,_,.cons h _,e=>by simp at e;subst e;exact⟨_,rfl,h⟩
 |_,_,i+1,v,.cons _ r,e=>by
  obtain⟨d,h1,h2⟩:=RpL.get (i:=i) (v:=v) r (by simpa using e);exact⟨d,by simpa using h1,h2⟩
def RpL.get':∀{vs:List V} {ds:List Dat} {i:Nat} {d:Dat},RpL K S H vs ds->ds[i]?=some d->∃v,vs[i]?=some v/\Rp K S H v d
 |_,_,_,_,.nil,e=>by simp at e
 |_,_,0,_,.cons h _,e=>by simp at e;subst e;exact⟨_,rfl,h⟩
 |_,_,i+1,v,.cons _ r,e=>by
  obtain⟨d,h1,h2⟩:=RpL.get' (i:=i) (d:=v) r (by simpa using e);exact⟨d,by simpa using h1,h2⟩
def RpL.append:∀{vs ws:List V} {ds es:List Dat},RpL K S H vs ds->RpL K S H ws es->RpL K S H (vs++ws) (ds++es)
 |_,_,_,_,.nil,s=>s
 |_,_,_,_,.cons h r,s=>.cons h (RpL.append r s)
def RpL.ints:∀ns:List Int,RpL K S H (ns.map V.int) (ns.map TW)
 |[]=>.nil
 |n :: ns=>.cons (.int n) (RpL.ints ns)
def RpL.strs:∀ns:List Str,RpL K S H (ns.map V.str) (ns.map UI)
 |[]=>.nil
 |n :: ns=>.cons (.str n) (RpL.strs ns)
def RpL.ints_of:∀{vs:List V} {ns:List Int},RpL K S H vs (ns.map TW)->vs=ns.map V.int
 |_,[],.nil=>rfl
 |_,n :: ns,.cons h r=>by cases h;rw[RpL.ints_of r];rfl
def RpL.vQ:∀{vs:List V} {ns:List Str},RpL K S H vs (ns.map UI)->vs=ns.map V.str
 |_,[],.nil=>rfl
 |_,n :: ns,.cons h r=>by cases h;rw[RpL.vQ r];rfl
def Rp.M7(h:Rp K S H v (.tuple ds)):∃a xs,v=.ref a/\SqT K H a xs/\RpL K S H xs ds:=by
 cases h with
 |tup h r=>exact⟨_,_,rfl,SqT.of h,r⟩
def Rp.bI(h:Rp K S H v (.tuple ds)):∃a xs,v=.ref a/\H a=some (.tup xs)/\RpL K S H xs ds:=by
 cases h with
 |tup h r=>exact⟨_,_,rfl,h,r⟩
def Rp.ua(h:Rp K S H v (.list ds)):∃a xs,v=.ref a/\S a/\H a=some (.lst xs)/\RpL K S H xs ds:=by
 cases h with
 |lst s h r=>exact⟨_,_,rfl,s,h,r⟩
end
abbrev F0:Addr->Prop:=λ_=>False
nonrec def Rz(K:Fg)(H:Hp):V->Dat->Prop:=Rp K F0 H
nonrec def RzL(K:Fg)(H:Hp):List V->List Dat->Prop:=RpL K F0 H
section
variable{K:Fg}{S:Addr->Prop}{H H':Hp}
def RpL.z(h:RzL K H vs ds):RpL K S H vs ds:=h.mono λ_ z=>z.elim
def Rz.upd(h:Rz K H v d)(hl:H l=some (.lst ys)):Rz K (L2.upd H l o) v d:=h.agr (Agr.eV hl λz=>z)
def RzL.upd(h:RzL K H v d)(hl:H l=some (.lst ys)):RzL K (L2.upd H l o) v d:=h.agr (Agr.eV hl λz=>z)
end
structure Acc (K:Fg) (H0:Hp) (l:Addr) (H:Hp) (ds:List Dat):Prop where
 same:Same H0 H
 new:H0 l=none
 at_:∃xs,H l=some (.lst xs)/\RpL K (λa=>H0 a=none/\a≠l) H xs ds
section
variable{K:Fg}{H0 H H':Hp}{l:Addr}{ds:List Dat}
def Acc.start(n:H0 l=none):Acc K H0 l (upd H0 l (.lst [])) []:=⟨af n _,n,[],ag,.nil⟩
def Acc.on(A:Acc K H0 l H ds)(e:Same H H'):Acc K H0 l H' ds:=by
 obtain⟨xs,h1,h2⟩:=A.at_;exact⟨A.same.trans e,A.new,xs,e _ _ h1,h2.same e⟩
def Acc.push(A:Acc K H0 l H ds)(r:Rp K S H y d)(hS:∀a,S a->H0 a=none/\a≠l):∃xs,H l=some (.lst xs)/\xs.length=ds.length/\Acc K H0 l (upd H l (.lst (xs++[y]))) (ds++[d]):=by
 obtain⟨xs,h1,h2⟩:=A.at_;refine⟨xs,h1,h2.length,⟨λb o q=>?_,A.new,xs++[y],ag,?_⟩⟩
 .rw[aJ (ar q A.new)];exact A.same b o q
 .exact(h2.append (.cons (r.mono hS) .nil)).agr (Agr.eV h1 λz=>z.2 rfl)
def Acc.QJ(A:Acc K H0 l H ds)(e:Same H H')(r:Rp K (λa=>H a=none) H' y d):∃xs,H' l=some (.lst xs)/\xs.length=ds.length/\Acc K H0 l (upd H' l (.lst (xs++[y]))) (ds++[d]) :=
 (A.on e).push r λa z=>⟨A.same.free z,λq=>by obtain⟨xs,h1,_⟩:=A.at_;rw[q,h1] at z;cases z⟩
def Acc.bA(A:Acc K H0 l H ds)(e:Same H H')(r:Rp K (λa=>H a=none) H' y d)(n:Wi ds<sizeLine){Pv:Hp->Prop}(h:∀H2,Acc K H0 l H2 (ds++[d])->Pv H2):MN l Pv y H':=by
 obtain⟨xs,h1,h2,h3⟩:=A.QJ e r;exact⟨xs,h1,by rw[h2];exact n,h _ h3⟩
end
structure AccZ (K:Fg) (H0:Hp) (l:Addr) (H:Hp) (ds:List Dat):Prop where
 same:Same H0 H
 new:H0 l=none
 at_:∃xs,H l=some (.lst xs)/\RzL K H xs ds
section
variable{K:Fg}{H0 H H':Hp}{l m:Addr}{ds:List Dat}
def AccZ.start(e:Same H0 H)(n:H l=none):AccZ K H0 l (upd H l (.lst [])) []:=⟨e.trans (af n _),e.free n,[],ag,.nil⟩
def AccZ.on(A:AccZ K H0 l H ds)(e:Same H H'):AccZ K H0 l H' ds:=by
 obtain⟨xs,h1,h2⟩:=A.at_;exact⟨A.same.trans e,A.new,xs,e _ _ h1,h2.same e⟩
def AccZ.ref(A:AccZ K H0 l H ds):Rp K (λa=>H0 a=none) H (.ref l) (.list ds):=by
 obtain⟨xs,h1,h2⟩:=A.at_;exact .lst A.new h1 h2.z
def AccZ.rep(A:AccZ K H0 l H ds):Rep K H (.ref l) (.list ds):=A.ref.rep
def AccZ.ty(A:AccZ K H0 l H ds):M6 K "list" (.ref l) H:=by
 obtain⟨xs,h1,_⟩:=A.at_;exact ER h1
def AccZ.sq(A:AccZ K H0 l H ds):∃xs,SqL K H l xs/\xs.length=ds.length/\RzL K H xs ds:=by
 obtain⟨xs,h1,h2⟩:=A.at_;exact⟨xs,SqL.of h1,h2.length,h2⟩
def AccZ.ag(A:AccZ K H0 l H ds):Same H0 (L2.upd H l o):=λb u q=>by
 rw[L2.aJ (ar q A.new)];exact A.same b u q
def AccZ.other(A:AccZ K H0 l H ds)(ne:l≠m)(n:H0 m=none)(h:H m=some (.lst ys)):AccZ K H0 l (upd H m o) ds:=by
 obtain⟨xs,h1,h2⟩:=A.at_;refine⟨λb u q=>?_,A.new,xs,by rw[aJ ne];exact h1,h2.upd h⟩;rw[aJ (ar q n)];exact A.same b u q
end
def cZ{K:Fg}{Q:VK}(A:AccZ K H0 l H ds)(r:Rz K H y d)(n:Wi ds<sizeLine)
  (h:∀H2,AccZ K H0 l H2 (ds++[d])->(∀{v:V} {e:Dat},Rz K H v e->Rz K H2 v e)->(∀b,b≠l->H2 b=H b)->(∀{m:Addr} {es:List Dat},m≠l->AccZ K H0 m H es->AccZ K H0 m H2 es)->Q .non H2):aS (.ref l) [y] H Q:=by
 obtain⟨xs,h1,h2⟩:=A.at_;refine⟨l,xs,y,rfl,rfl,h1,by rw[h2.length];exact n,h _ ⟨A.ag,A.new,xs++[y],ag,?_⟩ (λq=>Rz.upd q h1) (λb nb=>aJ nb) λne B=>B.other ne A.new h1⟩;exact RzL.upd (h2.append (.cons r .nil)) h1
section
variable{K:Fg}{H:Hp}{Q:VK}{x y:V}{d e:Dat}{ds:List Dat}
open Classical in
def yR(hd:Rep K H x d)(he:Rep K H y (.list ds))(ka:∀e∈ds,kqdOk 8 e=true)(kd:kqdOk 8 d=true)(h1:d∉ds->Q (.bl true) H)(h2:d∈ds->Q (.bl false) H):HA K true x y H Q:=by
 refine⟨d,ds,hd,he,ka,kd,?_⟩;by_cases z:d∈ds
 .have q:=h2 z;simpa[z] using q
 .have q:=h1 z;simpa[z] using q
open Classical in
def RG(hd:Rep K H x d)(he:Rep K H y e)(kd:kqdOk 8 d=true)(ke:kqdOk 8 e=true)(h1:d=e->Q (.bl true) H)(h2:d≠e->Q (.bl false) H):Le K x y H Q:=by
 refine⟨d,e,hd,he,kd,ke,?_⟩;by_cases z:d=e
 .have q:=h1 z;rw[decide_eq_true z];exact q
 .have q:=h2 z;rw[decide_eq_false z];exact q
end
abbrev IB(n:Nat):Option Int->Nat
 |none=>n
 |some j=>min j.toNat n
abbrev Mp(l:List Nat):Option Int->List Nat
 |none=>l
 |some j=>l.take j.toNat
def JQ(n:Nat)(hi:Option Int):IB n hi<=n:=by
 cases hi with
 |none=>exact SR _
 |some j=>exact X3 _ _
abbrev m4(z:Str)(lo hi:Option Int):Str:=⟨((Mp z.cps.toList hi).drop (lo.getD 0).toNat).toArray⟩
abbrev NN:Option Int->Prop
 |none=>True
 |some i=>0<=i
def Qy{lo:Option Int}(n:Nat)(hl:NN lo)(hh:NN hi):Uq lo hi 1 n=(TC (IB n hi-min (lo.getD 0).toNat n)).map (λk=>min (lo.getD 0).toNat n+k):=by
 have core:∀(a b:Nat),a<=n->b<=n->sliceRange (a:Int) (b:Int) 1=(TC (b-a)).map (λk=>a+k):=by
  intro a b ha hb;simp only[sliceRange,show((1:Int) > 0)=True from by simp,if_true];by_cases vt:(a:Int)<b
  .have e3:(((b:Int)-a+1-1) / 1).toNat=b-a:=by rw[Int.ediv_one];lia
   simp only[vt,if_true,e3];refine Wy λk _=>?_
   lia
  .have:b-a=0:=by lia
   simp[vt,this]
 have clip:∀i:Int,0<=i->max (0:Int) (min (if i<0 then i+n else i) n)=((min i.toNat n:Nat):Int):=by
  intro i hi;rw[if_neg ∅];lia
 cases lo with
 |none =>
  cases hi with
  |none =>
   have:=core 0 n ∅ ∅
   simpa[Uq,IB] using this
  |some j =>
   have:=core 0 (min j.toNat n) ∅ ∅
   simp only[Uq,show((1:Int) > 0)=True from by simp,if_true];rw[clip j hh];simpa[IB] using this
 |some i =>
  cases hi with
  |none =>
   have:=core (min i.toNat n) n ∅ ∅
   simp only[Uq,show((1:Int) > 0)=True from by simp,if_true];rw[clip i hl];simpa[IB] using this
  |some j =>
   have:=core (min i.toNat n) (min j.toNat n) ∅ ∅
   simp only[Uq,show((1:Int) > 0)=True from by simp,if_true];rw[clip i hl,clip j hh];simpa[IB] using this
def G4(z:Str){lo:Option Int}(hl:NN lo)(hh:NN hi):Zcn z lo hi=m4 z lo hi:=by
 have len:z.cps.toList.length=z.length:=by simp[Zb_]
 have e:=Qy z.length hl hh;have p:=StrLaws.picks z.cps.toList (IB z.length hi-min (lo.getD 0).toNat z.length) (min (lo.getD 0).toNat z.length) (by have:=JQ z.length hi;rw[len];lia)
 have q:(z.cps.toList.drop (min (lo.getD 0).toNat z.length)).take (IB z.length hi-min (lo.getD 0).toNat z.length)=(Mp z.cps.toList hi).drop (lo.getD 0).toNat:=by
  generalize (lo.getD 0).toNat=a;cases hi with
  |none =>
   show XE (z.length-min a z.length) (Zav (min a z.length) z.cps.toList)=Zav a z.cps.toList;by_cases ha:a<=z.length
   .rw[Yq ha,SX (by rw[Us,len];exact SR _)]
   .rw[X5 ∅,U7 (by rw[len];exact SR _),U7 (by rw[len];lia)];simp
  |some j =>
   show XE (min j.toNat z.length-min a z.length) (Zav (min a z.length) z.cps.toList)=Zav a (z.cps.toList.take j.toNat);rw[List.drop_take];generalize j.toNat=b;by_cases ha:a<=z.length
   .rw[Yq ha];by_cases hb:b<=z.length
    .rw[Yq hb]
    .rw[X5 ∅,SX (by rw[Us,len];exact SR _),SX (by rw[Us,len];lia)]
   .rw[X5 (by lia:z.length<=a),U7 (by rw[len];exact SR _),U7 (by rw[len];lia)];simp
 have r:(Uq lo hi 1 z.length).filterMap (z.cps[·]?)=(Mp z.cps.toList hi).drop (lo.getD 0).toNat:=by
  rw[<- q,<- p,e];simp
 unfold Zcn m4;split
 .rename_i c;have c':(Uq lo hi 1 z.length).length=z.length:=by simpa using c
  rw[e,SJ,TD] at c'
  have w:(z.cps.toList.drop (min (lo.getD 0).toNat z.length)).take (IB z.length hi-min (lo.getD 0).toNat z.length)=z.cps.toList:=by
   have b:=JQ z.length hi;by_cases h0:z.length=0
   .have:z.cps.toList=[]:=Uf.mp (by rw[len];exact h0)
    rw[this];simp
   .have a0:min (lo.getD 0).toNat z.length=0:=by lia
    rw[a0,YH,SX (by rw[len];lia)]
  rw[<- q,w]
 .rw[r]
abbrev NA:V->Option Int->Option Int->Hp->VK->Prop:=λx lo hi H Q=>∃z,x=.str z/\z.length<=sizeLine/\NN lo/\NN hi/\Q (.str (m4 z lo hi)) H
abbrev AI:R2:=λx y H Q=>∃i j,x=.str i/\y=.str j/\Q (.bl (!decide (j.cps.toList<i.cps.toList))) H
section
variable{X:Cx}
def Nk:P8 X NA:=by
 intro ξ s σ H x v vl vu lo hi sl Q I rx hs pl pu h;obtain⟨z,rfl,hz,hl,hh,q⟩:=h;obtain⟨t,rfl⟩:=rx;refine⟨"str",_,F.slot_str_getitem.lookup,Xz _ _ _,?_⟩
 have fin:∀(l u:Option (Int×Tok)),l.map (·.1)=lo->u.map (·.1)=hi->(sliceMade z t l u none).post (EP X ξ σ Q) s:=by
  intro l u el eu
  have e:sliceMade z t l u none=if ((1:Int) == 1 && (Uq lo hi 1 z.length).length == z.length)=true then Made.val (.str z t) else .str ⟨((Uq lo hi 1 z.length).filterMap (z.cps[·]?)).toArray⟩:=by
   unfold sliceMade slicePicked;rw[el,eu];rfl
  rw[e];have lt:=Txt.slice_le z lo hi;have eq:=G4 z hl hh;unfold Zcn at lt eq;refine post_val_or_str ⟨TQ lt hz,λt' k=>⟨.str (m4 z lo hi),H,I.tok k,⟨t',?_⟩,q⟩⟩;rw[eq]
 cases pl with
 |none =>
  cases pu with
  |none=>exact WC (l:=none) (u:=none) (st:=none) hs rfl (fin none none rfl rfl)
  |int j tj=>exact WC (l:=none) (u:=some (j,tj)) (st:=none) hs rfl (fin none (some (j,tj)) rfl rfl)
 |int i ti =>
  cases pu with
  |none=>exact WC (l:=some (i,ti)) (u:=none) (st:=none) hs rfl (fin (some (i,ti)) none rfl rfl)
  |int j tj=>exact WC (l:=some (i,ti)) (u:=some (j,tj)) (st:=none) hs rfl (fin (some (i,ti)) (some (j,tj)) rfl rfl)
def Eg:fh X (compareOp .LtE) AI:=by
 intro ξ s σ H x y v u Q I rx ry h;obtain⟨i,j,rfl,rfl,q⟩:=h;obtain⟨t,rfl⟩:=rx;obtain⟨t',rfl⟩:=ry;exact PySem.P.le_str (a9 I q rfl)
end
abbrev RawD(h:Heap)(d:Addr)(es:Array Zl)(ep:Nat):Prop:=∃o,h.get? d=some o/\o.ExactDict/\o.data=.dict es ep
section
variable{prog:T9}{w:Uk}{A:Ud}{E:SW->SZ->Prop}{s:SZ}{d it:Addr}{es:Array Zl}{ep i:Nat}
def RawD.ty(m:RawD s.heap d es ep):s.TypeIs (.ref d) "dict":=by
 obtain⟨o,a,b,_⟩:=m;exact⟨o,a,b.1⟩
def RawD.at{h':Heap}(m:RawD h d es ep)(k:∀o,h.get? d=some o->h'.get? d=some o):RawD h' d es ep:=by
 obtain⟨o,a,b⟩:=m;exact⟨o,k o a,b⟩
def Hx{Q:SW->SZ->Prop} (lo:(d == sysModules)=false) (m:RawD s.heap d es ep) (q:Q (.ref s.heap.objs.size) {s with heap:=s.heap.push {cls:=.type "dict_keyiterator",data:=.fields #[.ref d,.int 0 0,.int es.size 0,.int ep 0]}}) :
  wpAny (model prog w) A (pyIter (.ref d)) Q E s:=by
 have ty:=m.ty;obtain⟨o,ho,_,dt⟩:=m;refine wpAny_pyIter_slot ty ZbE (Vr ZbE ty F.entry_dict_iter ?_ (F.args_dict_iter_1 _));unfold Xe.«dict.__iter__» Xe.Dict.dictSlotNone;refine SQ (SQ (wpAny_notOrdered_dict ty ?_));show wpAny _ _ (pure (Ua d)) _ _ s;refine Td ?_;show wpAny _ _ (Z2 d >>= _) _ _ s;unfold Z2;rw[if_neg (λz=>by rw[lo] at z;cases z)];refine SQ (Td (SQ (Y0 ho dt (SQ (ZV ho dt ?_)))));refine SQ (Uy (Td ⟨_,rfl,"dict_keyiterator",_,⟨_,Tx _ rfl,rfl⟩,Vm.lookup,?_⟩));simpa[rawInt] using q
def yq{Q:Option SW->SZ->Prop}(ki:s.heap.IsKeyIter it d i es.size ep)(m:RawD s.heap d es ep) :
  (∀e,es[i]?=some e->(∀h',h'.IsKeyIter it d (i+1) es.size ep->Xg it s.heap h'->Q (some e.key) {s with heap:=h'})->wpAny (model prog w) A (pyNext (.ref it)) Q E s) /\
  (A.handled=none->es[i]?=none->(∀h',Zae it s.heap h'->Q none {s with heap:=h'})->wpAny (model prog w) A (pyNext (.ref it)) Q E s):=by
 obtain⟨o,ho,oc,od⟩:=id ki;obtain⟨dd,hd,_,dt⟩:=id m;have own:Xe.Dict_items.ownsTuple "dict_keyiterator"=false:=by decide
 have nn : ¬ ((Ua d == UR)=true):=Th;constructor
 .intro e he hq;unfold pyNext;refine SQ (Zd (UL (name:=WM "__next__") ki.typeIs Vm (Vr Vm ki.typeIs Yg ?_ (X6 _))));refine SQ (Td (SQ (SQ (SQ (VM ki.typeIs (Td (SQ (wpAny_fieldsOf ho od ?_))))))));simp only[own,TZ,if_false];show wpAny _ _ (if (Ua d == UR)=true then _ else _) _ _ s;rw[if_neg nn];refine SQ (Td (SQ (Y0 hd dt ?_)));rw[if_neg (by simp)];refine SQ (Td (SQ (ZV hd dt ?_)));rw[if_neg (by simp)];refine Td ?_;simp only[show ¬ ((i:Int)<0) from by lia,if_false,Ul,he];refine SQ (SQ (VM ki.typeIs (Td (SQ (Z3 ki.typeIs ?_)))));show wpAny _ _ (setField (.ref it) 1 (rawInt ((i:Int)+1)) >>= _) _ _ s;refine SQ (Xa ho od (by simp) ?_);have k2:(s.heap.update it (Obj.mapFields (·.setIfInBounds 1 (rawInt ((i:Int)+1))))).IsKeyIter it d (i+1) es.size ep:=⟨_,VE _ ho (X1 (V7 od _)),(Y1 ..).trans oc,by rw[V7 od];simp[rawInt]⟩
  refine SQ (Vi (SQ (Z3 (s:={s with heap:=s.heap.update it (Obj.mapFields (·.setIfInBounds 1 (rawInt ((i:Int)+1))))}) k2.typeIs ?_)));show wpAny _ _ (pure e.key) _ _ _;exact Td (Td ⟨_,rfl,Td (hq _ k2 (Vy ..))⟩)
 .intro hh he hq;unfold pyNext;refine SQ (Zd (UL (name:=WM "__next__") ki.typeIs Vm (Vr Vm ki.typeIs Yg ?_ (X6 _))));refine SQ (Td (SQ (SQ (SQ (VM ki.typeIs (Td (SQ (wpAny_fieldsOf ho od ?_))))))));simp only[own,TZ,if_false];show wpAny _ _ (if (Ua d == UR)=true then _ else _) _ _ s;rw[if_neg nn];refine SQ (Td (SQ (Y0 hd dt ?_)));rw[if_neg (by simp)];refine SQ (Td (SQ (ZV hd dt ?_)));rw[if_neg (by simp)];refine Td ?_;simp only[show ¬ ((i:Int)<0) from by lia,if_false,Ul,he];refine SQ (SQ (VM ki.typeIs (Td ?_)));show wpAny _ _ (setField (.ref it) 0 .none >>= _) _ _ s;refine SQ (Xa ho od (by simp) ?_);show wpAny _ _ (newExc (.type "StopIteration") [] >>= _) _ _ _;refine SQ ?_;simp only[newExc,newTuple];refine SQ (Uy ?_ (by size_fits));refine SQ (m:=firstArgMember _ _) (ZbN (a:=UR) (by simp only[firstArgMember];rfl) (Uy ?_ (by size_fits)));simp only[raiseNew];refine SQ (ZaH ?_);rw[show A.in1.handled=none from hh];refine SQ (Td (ZbO ?_));refine SQ (X7 (T:="StopIteration") (b:=true) ⟨_,Tx _ rfl,rfl⟩ Zaf ?_);exact Td (hq _ (((Vy ..).extBut.push _).push _))
def DP(hh:A.handled=none)(I d:Addr)(ne:d≠I)(es:Array Zl)(ep:Nat):Walks prog w A I [I,d] [I] es.size (λi v=>∃e,es[i]?=some e/\v=e.key) (λi h=>h.IsKeyIter I d i es.size ep/\RawD h d es ep) where
 sub:=λb hb=>by rw[Tf.mp hb];simp
 frame:=λ_ _ _ st hk=>⟨st.1.at λo e=>hk I (by simp) o e,st.2.at λo e=>hk d (by simp) o e⟩
 item:=λi s Q E hi st hq=>by
  refine(yq st.1 st.2).1 es[i] (by simp[hi]) λh' k1 k2=>?_
  exact hq _ h' s.toks ⟨es[i],by simp[hi],rfl⟩ ⟨k1,st.2.at λo e=>k2.extBut d o ne e⟩ λb o hb e=>k2.extBut b o (λz=>hb (by simp[z])) e
 done:=λs Q E st hq=>(yq st.1 st.2).2 hh (by simp) λh' k=>hq h' s.toks λb o hb e=>k b o (λz=>hb (by simp[z])) e
 self:=λ_ _ _ _ st hq=>wpAny_pyIter_keyiter st.1 hq
def K8(lo:(d == sysModules)=false):PySem.W.KdlSrc prog w "dict" d d es.size (λi v=>∃e,es[i]?=some e/\v=e.key) (λh=>RawD h d es ep) where
 type:=λ_ m=>m.ty
 there:=(by rintro _ ⟨_,e,_⟩;exact ⟨Tz e,Tz e⟩)
 keep:=λ_ _ m hk=>m.at λo e=>hk d (.inl rfl) o e
 notList:=by decide
 notTuple:=by decide
 hint:=λ_ _ _ _ m q=>PySem.W.kdl_hint_dict m.ty q
 iter:=λ_ _ hh m=>⟨_,_,(λ_ _ q=>Hx lo m q),DP hh _ d (by obtain⟨_,e,_⟩:=m;exact T0 (Tz e)) es ep,⟨⟨_,Tx _ rfl,rfl,rfl⟩,m.at λ_ e=>SY _ e⟩⟩
end
def sX:∀ys:List (List Key×Addr×SW),Vals (ys.map (V.ref∘λy=>y.2.1)) (ys.map λy=>Ua y.2.1)
 |[]=>.nil
 |_ :: ys=>.cons rfl (sX ys)
def L3(r:KT H dk ys):Paired (λ(p:List Key×V) b=>H b=some (.tup (p.1.map kV))) dk (ys.map λy=>y.2.1):=by
 induction r with
 |nil=>exact .nil
 |cons h t ih=>exact .cons h.2.1 ih
abbrev Ju:List V->Hp->VK->Prop:=λxs H Q=>∃a dk,xs=[.ref a]/\H a=some (.dT dk)/\∀(l:Addr) (bs:List Addr),H l=none->Paired (λ(p:List Key×V) b=>H b=some (.tup (p.1.map kV))) dk bs->Q (.ref l) (upd H l (.lst (bs.map V.ref)))
def Bi{X:Cx} (hc:X.calm=true):fT X (.type "list") Ju:=by
 intro ξ s σ H xs us Q I r h;obtain⟨a,dk,rfl,ha,q⟩:=h;obtain⟨u,rfl,ru⟩:=vals1 r;cases ru;obtain⟨z,lo,ys,kt,o,es,ep,ho,ex,dt,he,_,_⟩:=Pz I.hok ha;have sz:es.size=dk.length:=by rw[<- Uv,he,SJ];exact(V0 kt).symm
 refine PySem.W.kdl_call (K8 (es:=es) (ep:=ep) lo) (I.ok.hd hc) ⟨o,ho,ex,dt⟩ (by rw[sz];exact z) λh' tk acc c kp hl hit=>?_
 have acc_eq:acc.toList=ys.map λy=>Ua y.2.1:=by
  refine W1 λj=>?_
  by_cases lt:j<es.size
  .have hj:j<acc.toList.length:=by rw[Uv];rw[hit.1];exact lt
   have e1:acc.toList[j]?=some acc.toList[j]:=SN hj;obtain⟨e,ee,ev⟩:=hit.2 j acc.toList[j] (by rw[<- UG];exact e1);rw[e1,ev];rw[<- UG,he,SO] at ee;obtain⟨y,hy1,hy2⟩:=SU.mp ee;rw[SO,hy1,<- hy2];rfl
  .rw[TL (by rw[Uv,hit.1];lia),TL];rw[SJ]
   have:=V0 kt
   lia
 have vals:Vals ((ys.map λy=>y.2.1).map V.ref) acc.toList:=by
  rw[acc_eq,UV];exact sX ys
 have prd:Paired (λ(p:List Key×V) b=>H b=some (.tup (p.1.map kV))) dk (ys.map λy=>y.2.1):=by
  exact L3 kt
 refine⟨.ref s.heap.objs.size,_,I.laid (t':=tk) kp (SR _) (show cv X.prog X.w _ h' _ (.lst ((ys.map λy=>y.2.1).map V.ref)) from⟨?_,acc.toList,c,vals,by rw[Zag];exact hl⟩),rfl,q _ _ (I.hok.fresh (SR _)) prd⟩;rw[SJ,SJ,<- V0 kt];exact z
section
variable{X:Cx}{ξ:List (Addr×Obj)}{σ:St}{H:Hp}{s:SZ}{h':Heap}
def Inv.iO{t':Nat}{fp:List Addr}(I:Inv X ξ σ H s)(k:∀b o,b∉fp->s.heap.get? b=some o->h'.get? b=some o)(hf:∀b∈fp,jq X ξ H b):Inv X ξ σ H {s with heap:=h',toks:=t'}:=by
 have nit:∀b u,H b=some u->b∉fp:=λb u e z=>by
  have q:=(hf b z).1;rw[q] at e;cases e
 refine I.step (g':=s.gens) (d':=s.drawn) (ch:=fp) (λb hb=>⟨(hf b hb).2.2.2.1,(hf b hb).2.1,(hf b hb).2.2.2.2.1,(hf b hb).2.2.2.2.2⟩) (λb o _ _ hc e _=>k b o hc e) (λb o _ _ hc e _=>⟨o.slots,k b o hc e⟩) (λ_ _ _ _ n=>n)
  (λb o hc e=>⟨o,k b o hc e⟩) (λ_ _ e=>e) (λ_ _ _ e=>e) (λb ps e=>⟨#[],by rw[e,ZaN]⟩) (λm hm=>?_) (λb u e=>?_) I.bare
 .obtain⟨o,es,ep,ho,r⟩:=hm;exact⟨o,es,ep,k _ o (λz=>(hf _ z).2.1 rfl) ho,r⟩
 .refine(I.hok b u e).stay (λc v hc q=>k c v ?_ q) (λ_ q=>q) λ_ _ q=>q
  rcases hc with z|z
  .rw[z];exact nit b u e
  .exact nit c _ z
end
end L2
local macro_rules | `(tactic| walk_at "zo")=>`(tactic| first|omega|(show(_:Nat)≠_;omega))
namespace L2
open PySem PySem.Spec PyProof.Rows
inductive Kn|L|T
abbrev Kn.sq(k:Kn)(K:Fg)(H:Hp)(a:Addr)(xs:List V):Prop:=match k with
 |.L=>SqL K H a xs
 |.T=>SqT K H a xs
abbrev Kn.it(k:Kn)(h:Heap)(i l:Addr)(j:Nat):Prop:=match k with
 |.L=>h.IsListIter i l j
 |.T=>h.IsTupleIter i l j
abbrev Kn.seq(k:Kn)(h:Heap)(l:Addr)(xs:Array SW):Prop:=match k with
 |.L=>h.IsList l xs
 |.T=>h.IsTuple l xs
abbrev Kn.obj(k:Kn)(l:Addr):Obj:=match k with
 |.L=>{cls:=.type "list_iterator",data:=.fields #[.ref l,.int 0 0]}
 |.T=>{cls:=.type "tuple_iterator",data:=.fields #[.ref l,.int 0 0]}
def Kn.itAt(k:Kn){h':Heap}{it:Addr}(t:k.it h it l j)(e:∀o,h.get? it=some o->h'.get? it=some o):k.it h' it l j:=by
 cases k
 .exact Heap.IsListIter.at t e
 .exact Heap.IsTupleIter.at t e
def Kn.RN(k:Kn){it:Addr}(t:k.it h it l j):∃o,h.get? it=some o/\∀v,o.data≠.cell v:=by
 cases k <;> (obtain⟨o,e,_,d⟩:=t;exact⟨o,e,λv z=>by rw[d] at z;cases z⟩)
def Kn.GX(k:Kn){h':Heap}(t:k.seq h l xs)(e:∀o,h.get? l=some o->h'.get? l=some o):k.seq h' l xs:=by
 cases k
 .exact Heap.IsList.at t e
 .obtain⟨o,a,b⟩:=t;exact⟨o,e o a,b⟩
def Kn.lt(k:Kn)(t:k.seq h l xs):l<h.objs.size:=by
 cases k <;> (obtain⟨o,a,_⟩:=t;exact Tz a)
def Kn.inv{H:Hp}(k:Kn)(I:Inv X ξ σ H s)(q:k.sq X.K H a xs):∃ab:List SW,Vals xs ab/\k.seq s.heap a ab.toArray:=by
 cases k
 .obtain⟨ab,r,p,_⟩:=I.list q;exact⟨ab,r,p.isList⟩
 .obtain⟨ab,r,p,_⟩:=I.tuple q;exact⟨ab,r,p⟩
def Kn.inj{H:Hp}(k:Kn)(I:Inv X ξ σ H s)(q:k.sq X.K H a xs)(r:k.sq X.K H a ys):xs=ys:=by
 cases k
 .exact I.qN q r
 .exact I.kq q r
section
variable{prog:T9}{w:Uk}{A:Ud}{E:SW->SZ->Prop}{s:SZ}
def Kn.iter(k:Kn){Q:SW->SZ->Prop}(t:k.seq s.heap l xs)(q:Q (.ref s.heap.objs.size) {s with heap:=s.heap.push (k.obj l)}):wpAny (model prog w) A (pyIter (.ref l)) Q E s:=by
 cases k
 .exact XO t q
 .exact WL t q
def Kn.it0(k:Kn)(h:Heap)(l:Addr):k.it (h.push (k.obj l)) h.objs.size l 0:=by
 cases k <;> exact⟨_,Tx _ rfl,rfl,rfl⟩
def Kn.nx(k:Kn){it:Addr}{Q:SW->SZ->Prop}(t:k.it s.heap it l i)(q:k.seq s.heap l xs)(hi:∀x h',xs[i]?=some x->k.it h' it l (i+1)->Xg it s.heap h'->Q x {s with heap:=h'})
  (he:xs[i]?=none->A.handled=none/\∀h' e,Zae it s.heap h'->(∃o,h'.get? e=some o/\o.cls=.type "StopIteration")->E (.ref e) {s with heap:=h'}):wpAny (model prog w) A (UP (.ref it)) Q E s:=by
 cases k with
 |L=>cases hx:xs[i]? with
  |some x=>exact wpAny_nextOf_list_item t q hx λh'=>hi x h' hx
  |none=>exact wpAny_nextOf_list_end (he hx).1 t q hx (he hx).2
 |T =>
  obtain⟨o,ho,oc,od⟩:=id t;obtain⟨ol,hl,_,nl,dl⟩:=id q;unfold UP;refine SQ (UL (name:=WM "__next__") t.typeIs UW (Vr UW t.typeIs W2 ?_ (WV _)));show wpAny _ _ (field (.ref it) 0 >>= _) _ _ s;refine SQ (Vq ho od (x:=.ref l) rfl ?_);show wpAny _ _ (if (Ua l == UR)=true then _ else _) _ _ s;rw[if_neg (show ¬ ((Ua l == UR)=true) from Th)];show wpAny _ _ (field (.ref it) 1 >>= _) _ _ s;refine SQ (Vq ho od (x:=.int i 0) rfl ?_);show wpAny _ _ (seqItems? (.ref l) >>= _) _ _ s;refine SQ (VN hl dl ?_);simp only[Ul];cases hx:xs[i]? with
  |some x =>
   exact SQ (Xa ho od (by simp) (Td ⟨x,rfl,Td (hi x _ hx ⟨_,VE _ ho (X1 (V7 od _)),(Y1 ..).trans oc,by rw[V7 od];simp[rawInt]⟩ (Vy ..))⟩))
  |none =>
   refine SQ (ZaU (SQ (Xa ho od (by simp) ?_)));show wpAny _ _ (newExc (.type "StopIteration") [] >>= _) _ _ _;refine SQ ?_;simp only[newExc,newTuple];refine SQ (Uy ?_ (by size_fits));refine SQ (m:=firstArgMember _ _) (ZbN (a:=UR) (by simp only[firstArgMember];rfl) ?_);refine Uy ?_ (by size_fits);simp only[raiseNew];refine SQ (ZaH ?_);rw[show A.in1.handled=none from(he hx).1];exact SQ (Td (ZbO ((he hx).2 _ _ (((Vy ..).extBut.push _).push _) ⟨_,Tx _ rfl,rfl⟩)))
def f9{α β:Type}{F:α->β->Prop}:∀{l:List α} {m:List β} {i:Nat} {x:α},Paired F l m->l[i]?=some x->∃y,m[i]?=some y/\F x y
 |_,_,0,_,.cons r _,e=>by cases e;exact⟨_,rfl,r⟩
 |_,_,i+1,x,.cons _ t,e=>f9 (i:=i) t e
structure P5 (B:Nat) (ks:List (Kn×Addr)) (i:Nat) (f0:SW) (h:Heap):Prop where
 z:IsZip h (B+Wi ks+2) (B+Wi ks) (B+Wi ks+1) f0
 c:h.get? (B+Wi ks)=some {cls:=.type "tuple",data:=.seq ((TC (Wi ks)).map λj=>Ua (B+j)).toArray}
 o:∃a:Array SW,a.size=(Wi ks)/\h.get? (B+Wi ks+1)=some {cls:=.type "tuple",data:=.seq a}
 t:∀(j:Nat) (p:Kn×Addr),ks[j]?=some p->p.1.it h (B+j) p.2 i
structure R7 (B:Nat) (ks:List (Kn×Addr)) (us:List (Array SW)) (i j:Nat) (h0 h:Heap):Prop where
 sz:h.objs.size=h0.objs.size
 z:IsZip h (B+Wi ks+2) (B+Wi ks) (B+Wi ks+1) .ellipsis
 o:∃a:Array SW,a.size=(Wi ks)/\h.get? (B+Wi ks+1)=some {cls:=.type "tuple",data:=.seq a}/\∀m<j,∃u:Array SW,us[m]?=some u/\a[m]? = u[i]?/\i<u.size
 t:∀(m:Nat) (p:Kn×Addr),ks[m]?=some p->p.1.it h (B+m) p.2 (if m<j then i+1 else i)
 k:∀c o,(c<B\/c=B+(Wi ks)\/B+Wi ks+2<c)->h0.get? c=some o->h.get? c=some o
def Bx{ks:List (Kn×Addr)}{Q:Option SW->SZ->Prop}(ne:0<Wi ks)(lz:Wi ks<=sizeLine)(st:P5 B ks i .none s.heap)(sq:Paired (λ(p:Kn×Addr) (u:Array SW)=>p.2<B/\p.1.seq s.heap p.2 u) ks us)
  (hi:∀h' a,a.size=Wi ks->(∀(m:Nat) (u:Array SW),us[m]?=some u->i<u.size/\a[m]? = u[i]?)->P5 B ks (i+1) (rawInt s.heap.objs.size) h'->h'.get? s.heap.objs.size=some {cls:=.type "tuple",data:=.seq a}->(∀c o,(c<B\/B+Wi ks+2<c)->s.heap.get? c=some o->h'.get? c=some o)->Q (some (.ref s.heap.objs.size)) {s with heap:=h'})
  (he:∀u∈us,u.size<=i->A.handled=none/\∀h',(∀c o,(c<B\/B+Wi ks+2<c)->s.heap.get? c=some o->h'.get? c=some o)->Q none {s with heap:=h'}):wpAny (model prog w) A (pyNext (.ref (B+Wi ks+2))) Q E s:=by
 obtain⟨hz,hI,⟨a0,ha,hO⟩,ht⟩:=st;have ty:s.TypeIs (.ref (B+Wi ks+2)) "zip":=⟨_,hz,rfl⟩
 unfold pyNext;refine SQ (Zd (UL (name:=WM "__next__") ty F.slot_zip_next (Vr F.slot_zip_next ty F.entry_zip_next ?_ (F.args_zip_next_1 _))));show wpAny _ _ (field (.ref (B+Wi ks+2)) 2 >>= _) _ _ _;refine SQ (Vq hz rfl (x:=.bool false) rfl ?_);show wpAny _ _ (field (.ref (B+Wi ks+2)) 3 >>= _) _ _ _;refine SQ (Vq hz rfl (x:=.ref (B+Wi ks)) rfl (SQ (VN hI rfl ?_)));have em : ¬ (((TC (Wi ks)).map λj=>Ua (B+j)).toArray.isEmpty=true):=λz=>by simp at z;rw[z] at ne;cases ne
 dsimp only;rw[if_neg em];refine SQ ?_;unfold Xe.SmallTypes.ownedTupleIsFree;refine SQ (Vq hz rfl (x:=.none) rfl (Td ?_));simp only[if_true];have pl:=sq.length;refine SQ (ZaU (SQ (Vq hz rfl (x:=.ref (B+Wi ks+1)) rfl (SQ (XA hz (by simp) λh1 hz1 hs1=>?_)))));refine SQ (WD _ (λrest b s'=>∃j h,j<=(Wi ks)/\rest=(((TC (Wi ks)).map λj=>Ua (B+j)).zipIdx).drop j/\b=(none,())/\s' = {s with heap:=h}/\R7 B ks us i j s.heap h) _ ?_ ?_ _ _ ⟨0,h1,T1 _,rfl,rfl,rfl,hs1.1,hz1,⟨a0,ha,hs1.extBut _ _ (by walk_at "zo") hO,λm z=>nomatch z⟩,λm p hp=>p.1.itAt (ht m p hp) λo=>hs1.extBut _ _ (by have:=(SL.mp hp).1;walk_at "zo"),λc o hc=>hs1.extBut _ _ (by walk_at "zo")⟩)
 .rintro x rest b s' ⟨j,h,le,e,rfl,rfl,M⟩;have lj:j<Wi ks:=V8 le λz=>by rw[z,U7 (by simp)] at e;cases e
  rw[YR (by simpa using lj)] at e;obtain⟨e1,e2⟩:=Vt e;obtain rfl:x=(Ua (B+j),j):=by rw[e1];simp
  have hp:ks[j]?=some ks[j]:=SN lj;obtain⟨u,hu,lu,sp⟩:=f9 sq hp;have tj:=M.t j _ hp;rw[if_neg (V1 j)] at tj;show wpAny _ _ (((UP (.ref (B+j)) >>= λv=>pure (some v)).onRaise _) >>= _) _ _ _;refine SQ (wpAny_onRaise (SQ (ks[j].1.nx tj (ks[j].1.GX sp λo=>M.k _ o (.inl lu)) (λx h2 hx t2 hs2=>Td ?_) λhx=>?_)))
  .obtain⟨a,ha,hO,hd⟩:=M.o;have hO2:=hs2.extBut _ _ (by walk_at "zo") hO;have sb:=Vy h2 (B+Wi ks+1) (X4 (·.setIfInBounds j x));have kp:∀c o,c≠B+j->c≠B+Wi ks+1->h.get? c=some o->_:=λc o c1 c2 e=>sb.extBut c o c2 (hs2.extBut c o c1 e)
   refine SQ (VN hO2 rfl (SQ (wpAny_updateSeq hO2 rfl (SQ (wpAny_letGo (Td ⟨j+1,_,lj,e2,rfl,rfl,?_,kp _ _ (by walk_at "zo") (by walk_at "zo") M.z,⟨a.setIfInBounds j x,by simpa using ha,?_,λm hm=>?_⟩,λm p hm=>?_,λc o hc e=>kp c o (by walk_at "zo") (by walk_at "zo") (M.k c o hc e)⟩))))))
   .rw[sb.1,hs2.1];exact M.sz
   .rw[VE _ hO2 rfl];simp[X4]
   .rcases Ze.mp hm with q|rfl
    .obtain⟨v,h1,h2,h3⟩:=hd m q;exact⟨v,h1,by rw[Array.getElem?_setIfInBounds_ne ∅];exact h2,h3⟩
    .exact⟨u,hu,by rw[Array.getElem?_setIfInBounds_self_of_lt ∅,hx],(UX.mp hx).1⟩
   .have lm:=(SL.mp hm).1;by_cases q:m=j
    .subst q;rw[hp] at hm;cases hm;rw[if_pos (Xk _)];exact ks[m].1.itAt t2 λo=>sb.extBut _ _ (by walk_at "zo")
    .rw[show(if m<j+1 then i+1 else i)=if m<j then i+1 else i by split <;> split <;> lia];exact p.1.itAt (M.t m p hm) λo=>kp _ _ (by walk_at "zo") (by walk_at "zo")
  .obtain⟨hh,q⟩:=he u (SM hu) (Array.getElem?_eq_none_iff.mp hx);refine⟨hh,λh2 e hs2 ω=>?_⟩;obtain⟨oe,hoe,hce⟩:=ω;have hz2:=hs2 _ _ (by walk_at "zo") M.z;have ez:e≠B+Wi ks+2:=λx=>by rw[x,hz2] at hoe;cases hoe;simp at hce
   refine XA hz2 (by simp) λh3 _ hs3=>?_
   exact SQ (X7 (T:="StopIteration") (b:=true) ⟨oe,hs3.extBut _ _ ez hoe,hce⟩ Zaf (Td (q _ λc o hc e=>hs3.extBut _ _ (by walk_at "zo") (hs2 _ _ (by walk_at "zo") (M.k c o (by walk_at "zo") e)))))
 .rintro b s' ⟨j,h,le,e,rfl,rfl,M⟩
  obtain rfl:j=Wi ks:=by
   have:=congrArg Wi e
   simp at this;lia
  obtain⟨a,ha,hO,hd⟩:=M.o;refine SQ (VN hO rfl (SQ (Zah ?_ (by rw[Uv,ha];exact lz))));show wpAny _ _ (Xp (.ref (B+Wi ks+2)) (.ref h.objs.size) >>= _) _ _ _;refine SQ ?_;unfold Xp;have zl:=Tz M.z;refine SQ (XA (SY _ M.z) (by simp) λh7 hz7 hs7=>XA hz7 (by simp) λh8 hz8 hs8=>Td ⟨_,rfl,?_⟩);have up:∀c o,c≠B+Wi ks+2->h.get? c=some o->h8.get? c=some o:=λc o c1 e=>hs8.extBut _ _ c1 (hs7.extBut _ _ c1 (SY _ e))
  have hT:=hs8.extBut _ _ (Yv zl) (hs7.extBut _ _ (Yv zl) (Tx (o:={cls:=.type "tuple",data:=.seq a}) h rfl));show wpAny _ _ (pure (some (Ua h.objs.size))) _ _ _;rw[M.sz] at hT hz8 ⊢;refine Td (hi h8 a ha (λm u hu=>?_) ⟨hz8,up _ _ (by walk_at "zo") (M.k _ _ (.inr (.inl rfl)) hI),⟨a,ha,up _ _ (by walk_at "zo") hO⟩,λm p hp=>p.1.itAt ?_ λo=>up _ o (by have:=(SL.mp hp).1;walk_at "zo")⟩ hT λc o hc e=>up c o (by walk_at "zo") (M.k c o (by walk_at "zo") e))
  .obtain⟨v,h1,h2,h3⟩:=hd m (by have:=(SL.mp hu).1;lia);rw[h1] at hu;cases hu;exact⟨h3,h2⟩
  .have:=M.t m p hp
   rwa [if_pos (SL.mp hp).1] at this
def Gm{Q:List SW->SZ->Prop}(sq:Paired (λ(p:Kn×Addr) (u:Array SW)=>p.1.seq s.heap p.2 u) ks us)
  (q:∀h':Heap,h'.objs.size=s.heap.objs.size+ks.length->(∀(j:Nat) (p:Kn×Addr),ks[j]?=some p->p.1.it h' (s.heap.objs.size+j) p.2 0)->(∀c o,s.heap.get? c=some o->h'.get? c=some o)->Q ((TC ks.length).map λj=>Ua (s.heap.objs.size+j)) {s with heap:=h'}) :
  wpAny (model prog w) A (YI (ks.map λp=>.ref p.2)) Q E s:=by
 unfold YI
 refine SQ (WD _ (λrest b s'=>∃j h,j<=ks.length/\rest=(ks.map λp=>Ua p.2).drop j/\b=((TC j).map λj=>Ua (s.heap.objs.size+j)).toArray/\s' = {s with heap:=h}/\h.objs.size=s.heap.objs.size+j /\
  (∀(m:Nat) (p:Kn×Addr),m<j->ks[m]?=some p->p.1.it h (s.heap.objs.size+m) p.2 0)/\∀c o,s.heap.get? c=some o->h.get? c=some o) _ ?_ ?_ _ _ ⟨0,s.heap,T1 _,rfl,rfl,rfl,rfl,(λm p z=>absurd z (Vn m)),λc o e=>e⟩)
 .rintro x rest b s' ⟨j,h,le,e,rfl,rfl,sz,t,kp⟩;have lj:j<ks.length:=V8 le λz=>by rw[z,U7 (by simp)] at e;cases e
  rw[YR (by simpa using lj)] at e;obtain⟨e1,e2⟩:=Vt e;obtain rfl:x=Ua ks[j].2:=by rw[e1];simp
  obtain⟨u,_,sp⟩:=f9 sq (SN lj);refine SQ (Vi (ks[j].1.iter (ks[j].1.GX sp λo=>kp _ o) (Td ⟨j+1,_,lj,e2,?_,rfl,?_,λm p hm hp=>?_,λc o e=>SY _ (kp c o e)⟩)))
  .simp[WW,sz]
  .simp[VL,sz];lia
  .rcases Ze.mp hm with q|rfl
   .exact p.1.itAt (t m p q hp) λo=>SY _
   .rw[SN lj] at hp;cases hp;rw[<- sz];exact ks[m].1.it0 _ _
 .rintro b s' ⟨j,h,le,e,rfl,rfl,sz,t,kp⟩
  obtain rfl:j=ks.length:=by
   have:=congrArg Wi e
   simp at this;lia
  exact Td (q h sz (λj p hp=>t j p (SL.mp hp).1 hp) kp)
def QK{h:Heap}{n:Nat}{a b c:Obj}(sz:h.objs.size=n)(fa:a.isFreed=false)(fb:b.isFreed=false)(fc:c.isFreed=false):(h.push a).objs.size=n+1/\((h.push a).push b).objs.size=n+2 /\
  (((h.push a).push b).push c).get? n=some a/\(((h.push a).push b).push c).get? (n+1)=some b/\(((h.push a).push b).push c).get? (n+2)=some c/\∀x o,h.get? x=some o->(((h.push a).push b).push c).get? x=some o:=by
 have e1:(h.push a).objs.size=n+1:=by rw[VL,sz]
 have e2:((h.push a).push b).objs.size=n+2:=by rw[VL,e1]
 refine⟨e1,e2,?_,?_,?_,λx o e=>SY _ (SY _ (SY _ e))⟩
 .rw[<- sz];exact SY _ (SY _ (Tx _ fa))
 .rw[<- e1];exact SY _ (Tx _ fb)
 .rw[<- e2];exact Tx _ fc
def Gk(ks:List (Kn×Addr)) (us:List (Array SW)):Meets (Xe.«zip.__new__» ⟨.type "zip" :: ks.map λp=>.ref p.2,[]⟩) (λ_ R s=>Wi ks<=sizeLine/\Paired (λ(p:Kn×Addr) (u:Array SW)=>p.1.seq s.heap p.2 u) ks us /\
  ∀h',P5 s.heap.objs.size ks 0 .none h'->(∀c o,s.heap.get? c=some o->h'.get? c=some o)->R (.ok (.ret (.ref (s.heap.objs.size+Wi ks+2)))) {s with heap:=h'}) :=
 .of_wp λprog w A R s h=>by
  obtain⟨lz,sq,h⟩:=h;have hsub:=sub_zip;wp_walk using Gm sq;intro h' sz t kp;refine SQ (Zah (SQ (Zah (SQ ?_) (by simpa using lz))) (by simpa using lz));wp_walk;refine⟨_,rfl,?_⟩
  obtain⟨e1,e2,g1,g2,g3,kp2⟩:=QK (h:=h') (a:={cls:=.type "tuple",data:=.seq ((TC (Wi ks)).map λj=>Ua (s.heap.objs.size+j)).toArray}) (b:={cls:=.type "tuple",data:=.seq (((TC (Wi ks)).map λj=>Ua (s.heap.objs.size+j)).map λ_=>UR).toArray})
   (c:={cls:=.type "zip",data:=.fields #[.none,.bool false,.bool false,.ref (s.heap.objs.size+Wi ks),.ref (s.heap.objs.size+Wi ks+1)]}) sz rfl rfl rfl
  simp only[sz,e1,e2];exact h _ ⟨g3,g1,⟨_,by simp,g2⟩,λj p hp=>p.1.itAt (t j p hp) λo=>kp2 _ o⟩ λc o e=>kp2 c o (kp c o e)
end
abbrev Qu(K:Fg)(ks:List (Kn×Addr)):It :=
 ⟨λi H=>∀p∈ks,∃xs,p.1.sq K H p.2 xs/\i<Wi xs,λi H v H'=>∃T ys,H T=none/\v=.ref T/\H'=upd H T (.tup ys)/\Paired (λ(p:Kn×Addr) y=>∀xs,p.1.sq K H p.2 xs->xs[i]?=some y) ks ys,
  λi H=>∀p∈ks,∃xs,p.1.sq K H p.2 xs/\(i<Wi xs->∃p∈ks,∃xs,p.1.sq K H p.2 xs/\xs.length<=i)⟩
def i9{α β:Type}{F:α->β->Prop}:∀{l:List α},(∀x∈l,∃y,F x y)->∃m,Paired F l m
 |[],_=>⟨[],.nil⟩
 |x :: l,h=>by
  obtain⟨y,hy⟩:=h x Tb;obtain⟨m,hm⟩:=i9 λz hz=>h z (S_ x hz)
  exact⟨y :: m,.cons hy hm⟩
def oA{α β:Type}{F:α->β->Prop}:∀{l:List α} {m:List β},Paired F l m->∀y∈m,∃x∈l,F x y
 |_,_,.cons r t,y,h=>by
  rcases Tu.mp h with rfl|z
  .exact⟨_,Tb,r⟩
  .obtain⟨x,hx,e⟩:=oA t y z;exact⟨x,S_ _ hx,e⟩
def xR{X:Cx}{ξ:List (Addr×Obj)}{σ:St}{H:Hp}{s:SZ}(I:Inv X ξ σ H s){i:Nat}:∀{ks:List (Kn×Addr)} {us:List (Array SW)},Paired (λ(p:Kn×Addr) (u:Array SW)=>∃xs,p.1.sq X.K H p.2 xs/\Vals xs u.toList) ks us->(∀(m:Nat) (u:Array SW),us[m]?=some u->i<u.size) ->
  ∃ys vs,Paired (λ(p:Kn×Addr) y=>∀xs,p.1.sq X.K H p.2 xs->xs[i]?=some y) ks ys/\Vals ys vs/\vs.length=us.length/\∀(m:Nat) (u:Array SW),us[m]?=some u->vs[m]? = u[i]?
 |_,_,.nil,_=>⟨[],[],.nil,.nil,rfl,λm u e=>nomatch e⟩
 |p :: ks,u :: us,.cons ⟨xs,q,r⟩ t,h=>by
  obtain⟨ys,vs,h1,h2,h3,h4⟩:=xR I t λm u e=>h (m+1) u e
  have l:=h 0 u rfl;have lx:i<Wi xs:=by rw[r.length];exact l
  obtain⟨v,e1,e2⟩:=r.get (SN lx);refine⟨xs[i] :: ys,v :: vs,.cons (λzs hz=>by rw[p.1.inj I hz q];exact SN lx) h1,.cons e2 h2,congrArg (· + 1) h3,λm w e=>?_⟩;cases m with
  |zero=>cases e;exact e1.symm.trans (by simp)
  |succ m=>exact h4 m w e
def BD{K:Fg}{x1}{pos:Pos}{ks:List (Kn×Addr)}{B:Nat}(ne:0<Wi ks)(lz:Wi ks<=sizeLine)(lb:∀p∈ks,p.2<B):rN P w K (.Tuple elts x1 pos) (Qu K ks) (Xb B (Wi ks+3)) (B+Wi ks+2) (λi h=>P5 B ks i .none h):=by
 have mem:∀{c:Nat},c∈Xb B (Wi ks+3)↔B<=c/\c<B+(Wi ks+3):=λ{c}=>Zbg
 have out:∀{c:Nat},c∉Xb B (Wi ks+3)->c<B\/B+Wi ks+2<c:=λ{c} hc=>by rw[mem] at hc;lia
 have obj:∀i h,P5 B ks i .none h->∀b∈Xb B (Wi ks+3),∃o,h.get? b=some o/\∀v,o.data≠.cell v:=λi h st b hb=>by
  obtain⟨b1,b2⟩:=mem.mp hb;by_cases c:b<B+Wi ks
  .obtain⟨j,rfl⟩:=Nat.exists_eq_add_of_le b1;have lj:j<Wi ks:=by lia
   exact ks[j].1.RN (st.t j _ (SN lj))
  .rcases (by lia:b=B+(Wi ks)\/b=B+Wi ks+1\/b=B+Wi ks+2) with rfl|rfl|rfl
   .exact⟨_,st.c,λv q=>by cases (show Zcp _ _=Zk v from q)⟩
   .obtain⟨a,_,e⟩:=st.o;exact⟨_,e,λv q=>by cases (show Zcp _ _=Zk v from q)⟩
   .exact⟨_,st.z,λv q=>by cases (show Zab _=Zk v from q)⟩
 have us_of:∀{X:Cx} {ξ:List (Addr×Obj)} {σ:St} {H:Hp} {s:SZ},Inv X ξ σ H s->(∀p∈ks,∃xs,p.1.sq X.K H p.2 xs)->∃us:List (Array SW),Paired (λ(p:Kn×Addr) (u:Array SW)=>∃xs,p.1.sq X.K H p.2 xs/\Vals xs u.toList) ks us/\Paired (λ(p:Kn×Addr) (u:Array SW)=>p.2<B/\p.1.seq s.heap p.2 u) ks us:=λ{X ξ σ H s} I h=>by
  obtain⟨us,hu⟩:=i9 (F:=λ(p:Kn×Addr) (u:Array SW)=>(∃xs,p.1.sq X.K H p.2 xs/\Vals xs u.toList)/\p.2<B/\p.1.seq s.heap p.2 u) λp hp=>by
   obtain⟨xs,q⟩:=h p hp;obtain⟨ab,r,z⟩:=p.1.inv I q;exact⟨ab.toArray,⟨xs,q,r⟩,lb p hp,z⟩
  exact⟨us,Paired.mapP hu λ_ _ z=>z.1,Paired.mapP hu λ_ _ z=>z.2⟩
 refine⟨mem.mpr ∅,obj,λi h h' st kp=>⟨kp _ (mem.mpr ∅) _ st.z,kp _ (mem.mpr ∅) _ st.c,?_,λj p hp=>p.1.itAt (st.t j p hp) (kp _ (mem.mpr (by have:=(SL.mp hp).1;lia)))⟩,?_,?_,λ_ _ _ _ _ st q=>wpAny_pyIter_zip st.z q⟩
 .obtain⟨a,e,q⟩:=st.o;exact⟨a,e,kp _ (mem.mpr ∅) _ q⟩
 .intro X hP hw hK hc i ξ s σ H E I hf st hg;subst hP hw hK;obtain⟨us,u1,u2⟩:=us_of I λp hp=>let ⟨xs,q,_⟩:=hg p hp;⟨xs,q⟩
  refine Bx ne lz st u2 (λh' a ha hu st' hT all=>⟨_,rfl,?_⟩) λu hm le=>?_
  .obtain⟨ys,vs,y1,y2,y3,y4⟩:=xR I u1 λm u e=>(hu m u e).1
   obtain rfl:a=vs.toArray:=by
    refine Array.ext_getElem? λm=>?_
    by_cases c:m<Wi us
    .exact(hu m _ (SN c)).2.trans ((y4 m _ (SN c)).symm.trans (by simp))
    .rw[XT (by rw[ha,u1.length];lia),WZ,TL ∅]
   refine wpAny_letOwnedTupleGo_zip st'.z λh2 hz2 sb=>?_
   have nT:∀c∈Xb B (Wi ks+3),c≠s.heap.objs.size:=λc hc=>let ⟨_,q,_⟩:=obj i _ st c hc;T0 (Tz q)
   have I1:Inv X ξ σ (upd H s.heap.objs.size (.tup ys)) {s with heap:=s.heap.push {cls:=.type "tuple",data:=.seq vs.toArray}} :=
    I.laid (t':=s.toks) (λb u e=>SY _ e) (SR _) ⟨by rw[<- y1.length];exact lz,vs,y2,TupD.new _ _⟩
   have up:∀c o,c∉Xb B (Wi ks+3)->(s.heap.push {cls:=.type "tuple",data:=.seq vs.toArray}).get? c=some o->h2.get? c=some o:=λc o hc e=>by
    have ncz:c≠B+Wi ks+2:=λz=>hc (mem.mpr (by rw[z];lia))
    rcases Yh e with⟨ec,eo⟩|e
    .rw[ec,eo];exact sb.extBut _ _ (by rw[<- ec];exact ncz) hT
    .exact sb.extBut _ _ ncz (all c o (out hc) e)
   refine⟨.ref s.heap.objs.size,_,Inv.iO (s:={s with heap:=s.heap.push {cls:=.type "tuple",data:=.seq vs.toArray}}) (t':=s.toks) I1 up λc hc=>⟨by rw[aJ (nT c hc)];exact(hf c hc).1,(hf c hc).2⟩,rfl,⟨_,ys,I.hok.fresh (SR _),rfl,rfl,y1⟩,⟨hz2,sb.extBut _ _ (by walk_at "zo") st'.c,?_,λj p hp=>p.1.itAt (st'.t j p hp) λo=>sb.extBut _ _ (by have:=(SL.mp hp).1;walk_at "zo")⟩,λc hc=>by rw[aJ (nT c hc)];exact(hf c hc).1⟩;obtain⟨a,e,q⟩:=st'.o;exact⟨a,e,sb.extBut _ _ (by walk_at "zo") q⟩
  .obtain⟨p,hp,xs,q,r⟩:=oA u1 u hm;obtain⟨ys,q',l⟩:=hg p hp;rw[p.1.inj I q' q,r.length] at l;exact absurd l (ZaY.mpr le)
 .intro X hP hw hK hc i ξ s σ H E I hf st hg;subst hP hw hK;obtain⟨us,u1,u2⟩:=us_of I λp hp=>let ⟨xs,q,_⟩:=hg p hp;⟨xs,q⟩
  refine Bx ne lz st u2 (λh' a ha hu _ _ _=>?_) λu _ _=>⟨I.ok.hd hc,λh' all=>⟨rfl,I.iO (t':=s.toks) (λc o hc e=>all c o (out hc) e) hf⟩⟩
  have big:∀p∈ks,∀xs,p.1.sq X.K H p.2 xs->i<Wi xs:=λp hp xs q=>by
   obtain⟨j,hj⟩:=T2 hp;obtain⟨u,e,ys,q',r⟩:=f9 u1 hj;rw[p.1.inj I q q',r.length];exact(hu j u e).1
  obtain⟨p,hp⟩:=List.exists_mem_of_length_pos ne;obtain⟨xs,q,f⟩:=hg p hp;obtain⟨p',hp',ys,q',le⟩:=f (big p hp xs q);exact absurd (big p' hp' ys q') (ZaY.mpr le)
section
variable{X:Cx}
def rX:∀{as:List (Kn×Addr)} {us:List SW},Vals (as.map λp=>V.ref p.2) us->us=as.map λp=>Ua p.2
 |[],_,.nil=>rfl
 |_ :: _,_,.cons r t=>by cases r;rw[rX t];rfl
def By{H:Hp}{x1}{R:It->Hp->Prop}{ks:List (Kn×Addr)}(I:Inv X ξ σ H s)(r:Vals (ks.map λp=>V.ref p.2) us)(ne:0<Wi ks)(lz:Wi ks<=sizeLine)(hs:∀p∈ks,∃xs,p.1.sq X.K H p.2 xs)(q:R (Qu X.K ks) H)
  (c1:checkTypeCall "zip" ⟨ks.map λp=>.ref p.2,[]⟩=pure ()) (c2:checkBuiltinCall "zip.__new__" ⟨.type "zip" :: ks.map λp=>.ref p.2,[]⟩=pure ()) (c3:∀o,argsOk "object.__init__" ⟨o :: ks.map λp=>.ref p.2,[]⟩) :
  wpAny (model X.prog X.w) X.A (call (.type "zip") us) (λv s1=>wpAny (model X.prog X.w) X.A (pyIter v) (R8 X ξ σ (.Tuple elts x1 tp) R) X.xe s1) X.xe s:=by
 rw[rX r];obtain⟨vs,hv⟩:=i9 (F:=λ(p:Kn×Addr) (u:Array SW)=>p.1.seq s.heap p.2 u) λp hp=>let ⟨xs,q⟩:=hs p hp;let ⟨ab,_,z⟩:=p.1.inv I q;⟨ab.toArray,z⟩
 refine callType_new F.called_zip (by decide) c1 c2 c3 F.entry_zip_new (Gk ks vs) ⟨lz,hv,λh' st kp=>⟨⟨_,st.z,rfl⟩,wpAny_pyIter_zip (s:={s with heap:=h'}) st.z ⟨_,_,_,_,H,rfl,I.kept (t':=s.toks) kp,BD ne lz λp hp=>?_,st,λc hc=>?_,q⟩⟩⟩
 .obtain⟨xs,q⟩:=hs p hp;obtain⟨ab,_,z⟩:=p.1.inv I q;exact p.1.lt z
 .have le:=(Zbg.mp hc).1;exact I.fpOk le (I.hok.fresh le)
def all2{α:Type}{F:α->Prop}{x y:α}(h1:F x)(h2:F y):∀z∈[x,y],F z:=Yi.mpr ⟨h1,Yi.mpr ⟨h2,nofun⟩⟩
def J3:bootBuiltins "zip"=some (.type "zip"):=by decide +kernel
nonrec def J5(K:Fg)(k1 k2:Kn)(a b:Addr):It:=Qu K [(k1,a),(k2,b)]
abbrev iq(K:Fg)(k1 k2:Kn)(ta:TA):TI:=λσ H R=>ta σ H λvs H1=>∃a b xs ys,vs=[.ref a,.ref b]/\k1.sq K H1 a xs/\k2.sq K H1 b ys/\R (J5 K k1 k2 a b) H1
def NU{x y:Expr} {ta:TA}  {x1} {p pos:Pos} (hg:Gl X "zip") (hm:X.mg "zip"=none) (ha:PA X [x,y] ta) (hs:starEach [x,y] X.env=[(false,eval x X.env),(false,eval y X.env)]:=by rfl) (hs2:starEach [y] X.env=[(false,eval y X.env)]:=by rfl) :
  PI X (.Tuple elts x1 tp) (.Call (.Name "zip" p) [x,y] [] pos) (iq X.K k1 k2 ta):=by
 intro ξ s σ H R I h;refine Call_ (dD I hg hm J3 (Uh (bg (ha pos ξ s σ H _ I h) λus s1 ω=>?_) (by rw[hs,hs2]) (by rw[hs2];rfl)));obtain⟨vs,H1,I1,r1,a,b,xs,ys,e,s1q,s2q,q⟩:=ω;subst e;exact By (ks:=[(k1,a),(k2,b)]) I1 r1 (Xl _) bF (all2 ⟨xs,s1q⟩ ⟨ys,s2q⟩) q (F.typeCall_zip_2 _ _) (F.newCall_zip_2 _ _) λo=>F.args_object_init_3 o _ _
def Bz{K:Fg}{k1 k2:Kn}{i n:Nat}(q1:k1.sq K H a xs)(q2:k2.sq K H b ys)(e1:n<=Wi xs)(e2:n<=Wi ys)(e3:Wi xs=n\/ys.length=n):(i<n->(J5 K k1 k2 a b).go i H)/\(n<=i->(J5 K k1 k2 a b).stop i H)/\∀{v H'},(J5 K k1 k2 a b).yld i H v H'->∃T x y,H T=none/\v=.ref T/\H'=upd H T (.tup [x,y])/\xs[i]?=some x/\ys[i]?=some y:=by
 refine⟨λl=>all2 ⟨xs,q1,∅⟩ ⟨ys,q2,∅⟩,λl=>?_,λ⟨T,zs,h1,h2,h3,h4⟩=>?_⟩
 .have:∃p∈[(k1,a),(k2,b)],∃xs,p.1.sq K H p.2 xs/\xs.length<=i:=by
   rcases e3 with e|e
   .exact⟨_,.head _,xs,q1,∅⟩
   .exact⟨_,.tail _ (.head _),ys,q2,∅⟩
  exact all2 ⟨xs,q1,λ_=>this⟩ ⟨ys,q2,λ_=>this⟩
 .obtain _|⟨z1,_|⟨z2,_|_⟩⟩:=h4
  exact⟨T,_,_,h1,h2,h3,z1 xs q1,z2 ys q2⟩
end
section
variable{K:Fg}{te:TE}{σ:St}{Q:VK}{H:Hp}
abbrev Bn(g:TG)(n:Nat)(te:TE)(σ:St)(v:V)(H:Hp)(D:Addr)(m i:Nat)(Pv:Nat->Hp->Prop):Prop:=∀us:St,us.length=n->g v (us ++ σ) H λσ2 H2=>(∃us':St,us'.length=n/\σ2=us' ++ σ)/\te σ2 H2 (mK D m i Pv)
def ga{k1 k2:Kn}{xs ys:List V}(h:∀D,H D=none->∃Pv:Nat->Hp->Prop,Pv 0 (upd H D (.lst []))/\(∀i H2,i<=min (Wi xs) (Wi ys)->Pv i H2->k1.sq K H2 a xs/\k2.sq K H2 b ys) /\
  (∀i x y H2 T,xs[i]?=some x->ys[i]?=some y->Pv i H2->H2 T=none->Bn g n te σ (.ref T) (upd H2 T (.tup [x,y])) D (min (Wi xs) (Wi ys)) i Pv)/\∀H2,Pv (min (Wi xs) (Wi ys)) H2->Q (.ref D) H2):rP (J5 K k1 k2 a b) n g te σ Q H:=by
 intro D nD;obtain⟨Pv,h0,hl,hs,hd⟩:=h D nD;refine⟨λi m H=>m=min (Wi xs) (Wi ys)-i/\i<=min (Wi xs) (Wi ys)/\Pv i H,⟨_,rfl,T1 _,h0⟩,?_⟩;rintro i m H ⟨rfl,hi,p⟩;obtain⟨q1,q2⟩:=hl i H hi p;obtain⟨g1,g2,g3⟩:=Bz (i:=i) (n:=min (Wi xs) (Wi ys)) q1 q2 ∅ ∅ ∅;by_cases vt:i<min (Wi xs) (Wi ys)
 .refine .inr ⟨g1 vt,λv H' y us hu=>?_⟩;obtain⟨T,x,z,nT,rfl,rfl,z1,z2⟩:=g3 y;exact hs i x z H T z1 z2 p nT us hu
 .obtain rfl:i=min (Wi xs) (Wi ys):=by lia
  exact .inl ⟨g2 (SR _),hd H p⟩
end
open PySem.W (Dat kqdOk)
def AccZ.bA{K:Fg}(A:AccZ K H0 l H ds)(r:Rz K H y d)(n:Wi ds<sizeLine){Pv:Hp->Prop}(h:∀H2,AccZ K H0 l H2 (ds++[d])->Pv H2):MN l Pv y H:=by
 obtain⟨xs,h1,h2⟩:=A.at_;refine⟨xs,h1,by rw[h2.length];exact n,h _ ⟨A.ag,A.new,xs++[y],L2.ag,?_⟩⟩;exact RzL.upd (h2.append (.cons r .nil)) h1
open PySem
section
variable{K:Fg}{σ:St}{H:Hp}{Q:VK}{te:TE}
def Mf{wi:TI}(h:wi σ H λJ H1=>rP J n g te σ Q H1):cC wi n g te σ H Q:=h
def Q8{k1 k2:Kn}{ta:TA}{R:It->Hp->Prop}(h:ta σ H λvs H1=>∃a b xs ys,vs=[.ref a,.ref b]/\k1.sq K H1 a xs/\k2.sq K H1 b ys/\R (J5 K k1 k2 a b) H1):iq K k1 k2 ta σ H R:=h
end
section
variable{K:Fg}{σ:St}{H:Hp}{Q:VK}{D:ca}{td ty tv te tk:TE}
def O8(h:tv σ H λv H1=>td σ H1 λx H2=>ty σ H2 λy H3=>∃a H4,x=.ref a/\DPut H3 a y v H4/\D.nx σ H4):Dj td ty tv D σ H:=h
end
section
variable{X:Cx}{scope:Scope}
def N5{elt iter tg:Expr}{pos:Pos}{wi:TI}{g:TG}{te:TE}{n:Nat}(ys M:List Str)(c:jX X.env.scope X.N M ys scope)(hc:X.calm=true)(hi:PI X tg iter wi)(hg:∀C s₀ H₀ fp ξ,PG (aT X ys M scope (eR scope X.env.cells) C s₀ H₀ fp ξ) tg g)(he:∀C s₀ H₀ fp ξ,PE (aT X ys M scope (eR scope X.env.cells) C s₀ H₀ fp ξ) elt te)
  (hn:Wi ys=n:=by rfl) (hs:∀v,foldedSetIterable iter X.env v=pure v:=by intro _;rfl):PE X (.ListComp elt [⟨tg,iter,[],0⟩] scope pos) (cC wi n g te):=by
 subst hn;exact N6 c hc hi hg he hs
def NP{elt iter tg:Expr}{pos py sp:Pos}{wi:TI}{g:TG}{te:TE}{i n:Nat}{y:Str}(ys M:List Str)(hN:X.N.Nodup)(hy:X.N[i]?=some y)(ly:X.env.scope.names.lookup y=some .local)(c:jX X.env.scope X.N M ys scope)(hc:X.calm=true)(hi:PI X tg iter wi)
  (hg:∀C s₀ H₀ fp ξ,PG (aT X ys M scope (eR scope X.env.cells) C s₀ H₀ fp ξ) tg g) (he:∀C s₀ H₀ fp ξ,PE (aT X ys M scope (eR scope X.env.cells) C s₀ H₀ fp ξ) elt te) (hn:Wi ys=n:=by rfl)
  (hsw:swapsWith (.ListComp elt [⟨tg,iter,[],0⟩] scope pos) (some (.Name y py)) sp.line X.env=pure true:=by rfl) (hs:∀v,foldedSetIterable iter X.env v=pure v:=by intro _;rfl) :
  PS X (.Assign [.Name y py] (.ListComp elt [⟨tg,iter,[],0⟩] scope pos) sp) (aA (cC wi n g te) (aj i)):=by
 subst hn;exact NQ hN hy ly c hc hi hg he hsw hs
end
section
variable{X:Cx}
abbrev nu(K:Fg):List V->Hp->VK->Prop:=λxs H Q=>∃(a:Addr) (bs:List Bool),xs=[.ref a]/\SqL K H a (bs.map V.bl)/\Q (.bl (bs.all id)) H
abbrev DU(K:Fg):List V->Hp->VK->Prop:=λxs H Q=>∃(a:Addr) (bs:List Bool),xs=[.ref a]/\SqL K H a (bs.map V.bl)/\Q (.bl (bs.any id)) H
def uJ:∀{bs:List Bool} {us:List SW},Vals (bs.map V.bl) us->LSm.BoolsAre us bs
 |[],_,.nil=>.nil
 |b :: bs,_,.cons r rr=>by
  cases (show _=ZA b from r);exact .cons b (uJ rr)
def nX{M:Model}{A:Ud}{E:SW->SZ->Prop}{H:Hp}{bs:List Bool}(d:Bool)(I:Inv X ξ σ H s)(q1:SqL X.K H a (bs.map V.bl))(hh:A.handled=none)(hM:M=model X.prog X.w)
  {Qr:Bool->SW->SZ->Prop} {f:(Nat->Bool)->Nat->Bool} {r:Bool} (hf:f (λi=>(bs[i]?).getD d) (Wi bs)=r) (q:∀h' tk,Inv X ξ σ H {s with heap:=h',toks:=tk}->Qr r (.bool r) {s with heap:=h',toks:=tk}) :
  wpAny M A (pyIter (.ref a)) (λit s₂=>∃I fp wr n P St tr,it=.ref I/\Walks X.prog X.w A I fp wr n P St/\St 0 s₂.heap/\TruthOf X.prog X.w A P tr/\∀h' tk,(∀b o,b∉wr->s₂.heap.get? b=some o->h'.get? b=some o)->Qr r (.bool (f tr n)) {s₂ with heap:=h',toks:=tk}) E s:=by
 subst hM;obtain⟨ab,rv,p,_⟩:=I.list q1;have hl:s.heap.IsList a ab.toArray:=p.isList;have hb:=uJ rv;have vt:a<s.heap.objs.size:=by obtain⟨_,e,_⟩:=hl;exact Tz e
 refine XO hl ⟨s.heap.objs.size,[s.heap.objs.size,a],[s.heap.objs.size],ab.toArray.size,_,_,λi=>(bs[i]?).getD d,rfl,Walks.list hh _ a (T0 vt) ab.toArray,⟨⟨_,Tx _ rfl,rfl,rfl⟩,hl.push _⟩,λi v s' Q' E' hP hQ=>?_,λh' tk hk=>?_⟩
 .obtain⟨b,e,rfl⟩:=hb.get i v (by simpa using hP);dsimp only at hQ;rw[e] at hQ;exact Vc hQ
 .rw[Tt,hb.length,hf];exact q h' tk (I.kept (t':=tk) λb o e=>hk b o (λz=>absurd (Tz e) (by rw[Tf.mp z];exact V1 _)) (SY _ e))
def IX(hc:X.calm=true):fT X (.builtin "all") (nu X.K):=by
 intro ξ s σ H xs us Q I r h;obtain⟨a,bs,rfl,q1,q⟩:=h;obtain⟨u,rfl,ru⟩:=vals1 r;cases ru;refine call_all_walk (nX (f:=λtr n=>(TC n).all tr) (r:=bs.all id) true I q1 (by have:=I.ok.hd hc;simpa using this) rfl (LSm.range_all bs) (Qr:=λ_ v s'=>EP X ξ σ Q v s') λh' tk I2=>⟨.bl _,H,I2,rfl,q⟩)
def IW(hc:X.calm=true):fT X (.builtin "any") (DU X.K):=by
 intro ξ s σ H xs us Q I r h;obtain⟨a,bs,rfl,q1,q⟩:=h;obtain⟨u,rfl,ru⟩:=vals1 r;cases ru;refine call_any_walk (nX (f:=λtr n=>(TC n).any tr) (r:=bs.any id) false I q1 (by have:=I.ok.hd hc;simpa using this) rfl (LSm.range_any bs) (Qr:=λ_ v s'=>EP X ξ σ Q v s') λh' tk I2=>⟨.bl _,H,I2,rfl,q⟩)
def PX:bootBuiltins "all"=some (.builtin "all"):=by decide +kernel
def PV:bootBuiltins "any"=some (.builtin "any"):=by decide +kernel
end
section
variable{X:Cx}{ys M:List Str}{scope:Scope}{cl:List (Str×Addr)}{C:Addr}{s:SZ}{H:Hp}{fp:List Addr}{ξ:List (Addr×Obj)}{σ:St}
def N7{elt iter tg cn:Expr}{pos:Pos}{wi:TI}{g:TG}{tc:TT}{te:TE}{n:Nat}(ys M:List Str)(c0:jX X.env.scope X.N M ys scope)(hc:X.calm=true)(hi:PI X tg iter wi)(hg:∀C s₀ H₀ fp ξ,PG (aT X ys M scope (eR scope X.env.cells) C s₀ H₀ fp ξ) tg g)
  (ht:∀C s₀ H₀ fp ξ,PT (aT X ys M scope (eR scope X.env.cells) C s₀ H₀ fp ξ) cn tc) (he:∀C s₀ H₀ fp ξ,PE (aT X ys M scope (eR scope X.env.cells) C s₀ H₀ fp ξ) elt te)
  (hn:Wi ys=n:=by rfl) (hs:∀v,foldedSetIterable iter X.env v=pure v:=by intro _;rfl):PE X (.ListComp elt [⟨tg,iter,[cn],0⟩] scope pos) (fA wi n g tc te):=by
 subst hn;exact λξ s σ H Q I h=>yG (c0.sc I.ok) hc hi hg (λC s₀ H₀ fp ξ=>DV (ht C s₀ H₀ fp ξ)) he hs ξ s σ H Q I h
def NR{elt iter tg cn:Expr}{pos py sp:Pos}{wi:TI}{g:TG}{tc:TT}{te:TE}{i n:Nat}{y:Str}(ys M:List Str)(hN:X.N.Nodup)(hy:X.N[i]?=some y)(ly:X.env.scope.names.lookup y=some .local)(c0:jX X.env.scope X.N M ys scope)(hc:X.calm=true)(hi:PI X tg iter wi)
  (hg:∀C s₀ H₀ fp ξ,PG (aT X ys M scope (eR scope X.env.cells) C s₀ H₀ fp ξ) tg g) (ht:∀C s₀ H₀ fp ξ,PT (aT X ys M scope (eR scope X.env.cells) C s₀ H₀ fp ξ) cn tc) (he:∀C s₀ H₀ fp ξ,PE (aT X ys M scope (eR scope X.env.cells) C s₀ H₀ fp ξ) elt te) (hn:Wi ys=n:=by rfl)
  (hsw:swapsWith (.ListComp elt [⟨tg,iter,[cn],0⟩] scope pos) (some (.Name y py)) sp.line X.env=pure true:=by rfl) (hs:∀v,foldedSetIterable iter X.env v=pure v:=by intro _;rfl) :
  PS X (.Assign [.Name y py] (.ListComp elt [⟨tg,iter,[cn],0⟩] scope pos) sp) (aA (fA wi n g tc te) (aj i)):=by
 subst hn;exact λξ s σ H D I h=>yB hy ly (c0.sc I.ok) hN hc hi hg (λC s₀ H₀ fp ξ=>DV (ht C s₀ H₀ fp ξ)) he hsw hs ξ s σ H D I h
end
section
variable{K:Fg}{tc:TT}{te:TE}{σ:St}{Q:VK}{H:Hp}
def Mg{wi:TI}(h:wi σ H λJ H1=>Gf J n g tc te σ Q H1):fA wi n g tc te σ H Q:=h
abbrev Sk(n i:Nat)(Pv:Nat->Hp->Prop):Hp->Prop:=λH2=>∃m',m'<n-i/\m'=n-(i+1)/\i+1<=n/\Pv (i+1) H2
abbrev MR(g:TG)(n:Nat)(tc:TT)(te:TE)(σ:St)(v:V)(H:Hp)(D:Addr)(m i:Nat)(Pv:Nat->Hp->Prop):Prop:=∀us:St,us.length=n->g v (us ++ σ) H λσ2 H2=>(∃us':St,us'.length=n/\σ2=us' ++ σ)/\tc σ2 H2 λb H3=>if b=true then te σ2 H3 (mK D m i Pv) else Sk m i Pv H3
def f7{n i:Nat}{Pv:Nat->Hp->Prop}(hi:i<n)(h:Pv (i+1) H2):Sk n i Pv H2:=⟨n-(i+1),∅,rfl,hi,h⟩
def mD{k1 k2:Kn}{xs ys:List V}(h:∀D,H D=none->∃Pv:Nat->Hp->Prop,Pv 0 (upd H D (.lst []))/\(∀i H2,i<=min (Wi xs) (Wi ys)->Pv i H2->k1.sq K H2 a xs/\k2.sq K H2 b ys) /\
  (∀i x y H2 T,xs[i]?=some x->ys[i]?=some y->Pv i H2->H2 T=none->MR g n tc te σ (.ref T) (upd H2 T (.tup [x,y])) D (min (Wi xs) (Wi ys)) i Pv)/\∀H2,Pv (min (Wi xs) (Wi ys)) H2->Q (.ref D) H2):Gf (J5 K k1 k2 a b) n g tc te σ Q H:=by
 intro D nD;obtain⟨Pv,h0,hl,hs,hd⟩:=h D nD;refine⟨λi m H=>m=min (Wi xs) (Wi ys)-i/\i<=min (Wi xs) (Wi ys)/\Pv i H,⟨_,rfl,T1 _,h0⟩,?_⟩;rintro i m H ⟨rfl,hi,p⟩;obtain⟨q1,q2⟩:=hl i H hi p;obtain⟨g1,g2,g3⟩:=Bz (i:=i) (n:=min (Wi xs) (Wi ys)) q1 q2 ∅ ∅ ∅;by_cases vt:i<min (Wi xs) (Wi ys)
 .refine .inr ⟨g1 vt,λv H' y us hu=>?_⟩;obtain⟨T,x,z,nT,rfl,rfl,z1,z2⟩:=g3 y;exact hs i x z H T z1 z2 p nT us hu
 .obtain rfl:i=min (Wi xs) (Wi ys):=by lia
  exact .inl ⟨g2 (SR _),hd H p⟩
end
abbrev a4(i:Int):Str:=toString i
abbrev Af(te:TE):TE:=λσ H Q=>te σ H λx H1=>∃z,x=.str z/\z.length<=sizeLine/\Q (.str z) H1
abbrev Ag(te:TE):TE:=λσ H Q=>te σ H λx H1=>∃i,x=.int i/\i.natAbs.log2<1920/\Q (.str (a4 i)) H1
abbrev CC:List TE->Str->TE
 |[],acc=>λ_ H Q=>Q (.str acc) H
 |t :: r,acc=>λσ H Q=>t σ H λx H1=>∃y,x=.str y/\(acc++y).length<=sizeLine/\CC r (acc++y) σ H1 Q
abbrev DQ:List V->Hp->VK->Prop:=λxs H Q=>∃i,xs=[.int i]/\i.natAbs.log2<1920/\Q (.str (a4 i)) H
abbrev yx(K:Fg):V->List V->Hp->VK->Prop:=λx xs H Q=>∃(z:Str) (a:Addr) (ws:List Str),x=.str z/\xs=[.ref a]/\SqL K H a (ws.map V.str)/\(ws.map (·.length)).sum+Wi ws*z.length<=16777216/\Q (.str (Zbh z ws)) H
section
variable{X:Cx}{pos:Pos}
def Lv(h:PE X e te):PE X (.FormattedValue e (-1) none pos) (Af te):=by
 intro ξ s σ H Q I q;refine Zai (bg (h ξ s σ H _ I q) λv s1 ω=>?_);obtain⟨x,H1,I1,r1,z,e1,lz,q1⟩:=ω;subst e1;obtain⟨t,rfl⟩:=r1;exact formatField_str (λt' tk=>⟨.str z,H1,I1.tok tk,⟨t',rfl⟩,q1⟩) lz
def Lw(h:PE X e te):PE X (.FormattedValue e (-1) none pos) (Ag te):=by
 intro ξ s σ H Q I q;refine Zai (bg (h ξ s σ H _ I q) λv s1 ω=>?_);obtain⟨x,H1,I1,r1,i,e1,li,q1⟩:=ω;subst e1;obtain⟨t,rfl⟩:=r1;exact formatField_int_small li ⟨.str (a4 i),H1,I1.tok _,⟨_,rfl⟩,q1⟩
inductive PJ (X:Cx):List Expr->List TE->Prop
 |nil:PJ X [] []
 |cons {e:Expr} {es:List Expr} {t:TE} {ts:List TE}:PE X e t->PJ X es ts->PJ X (e :: es) (t :: ts)
def PJ.run:∀{es:List Expr} {ts:List TE},PJ X es ts->∀(acc:Str) (ξ:List (Addr×Obj)) (s:SZ) (σ:St) (H:Hp) (Q:VK),acc.length<=sizeLine->Inv X ξ σ H s->CC ts acc σ H Q ->
  wpAny (model X.prog X.w) X.A (joinParts acc (evalEach es X.env)) (EP X ξ σ Q) X.xe s
 |_,_,.nil,acc,ξ,s,σ,H,Q,la,I,q=>joinParts_nil ⟨.str acc,H,I.tok _,⟨_,rfl⟩,q⟩ la
 |_,_,.cons he r,acc,ξ,s,σ,H,Q,la,I,q=>by
  refine joinParts_cons (bg (he ξ s σ H _ I q) λv s1 ω=>?_);obtain⟨x,H1,I1,r1,y,e1,ly,q1⟩:=ω;subst e1;obtain⟨t,rfl⟩:=r1;exact⟨ly,r.run (acc++y) ξ s1 σ H1 Q ly I1 q1⟩
def N9(h:PE X e te):PE X (.JoinedStr [e] pos) te:=λξ s σ H Q I q=>JoinedStr_one (h ξ s σ H Q I q)
def QR{e e2:Expr}{es:List Expr}(h:PJ X (e :: e2 :: es) ts):PE X (.JoinedStr (e :: e2 :: es) pos) (CC ts Ue):=λξ s σ H Q I q=>JoinedStr_many (h.run Ue ξ s σ H Q (by decide) I q)
def FZ:fT X (.type "str") DQ:=by
 intro ξ s σ H xs us Q I r h;obtain⟨i,rfl,li,q⟩:=h;obtain⟨u,rfl,ru⟩:=vals1 r;obtain⟨t,rfl⟩:=ru;exact P.str_of_int li ⟨.str (a4 i),H,I.tok _,⟨_,rfl⟩,q⟩
def x9:∀{ws:List Str} {us:List SW},Vals (ws.map V.str) us->StrsAre us ws
 |[],_,.nil=>.nil
 |w :: ws,_,.cons r rr=>by
  obtain⟨t,rfl⟩:=r;exact .cons w t (x9 rr)
def LQ:MZ X "str.join" (yx X.K):=by
 intro ξ s σ H x xs v us Q I rx rv h;obtain⟨z,a,ws,rfl,rfl,sq,le,q⟩:=h;obtain⟨t,rfl⟩:=rx;obtain⟨u,rfl,ru⟩:=vals1 rv;cases ru;obtain⟨ab,rvs,p,_⟩:=I.list sq;exact join_list (items:=ab.toArray) p.isList (x9 rvs) le λt' k=>⟨.str _,H,I.tok k,⟨t',rfl⟩,q⟩
end
section
variable{K:Fg}{σ:St}{H:Hp}{Q:VK}{te:TE}
def O4(h:te σ H λx H1=>∃z,x=.str z/\z.length<=sizeLine/\Q (.str z) H1):Af te σ H Q:=h
def O5(h:te σ H λx H1=>∃i,x=.int i/\i.natAbs.log2<1920/\Q (.str (a4 i)) H1):Ag te σ H Q:=h
def Rt(h:Q (.str acc) H):CC [] acc σ H Q:=h
def Ru{t:TE}{acc:Str}(h:t σ H λx H1=>∃y,x=.str y/\(acc++y).length<=sizeLine/\CC r (acc++y) σ H1 Q):CC (t :: r) acc σ H Q:=h
def lZ{acc y:Str}(n:(acc++y).length<=sizeLine)(h:CC r (acc++y) σ H Q):∃z,V.str y=.str z/\(acc++z).length<=sizeLine/\CC r (acc++z) σ H Q:=⟨y,rfl,n,h⟩
def Ir{y:Str}{P:Str->Prop}(n:y.length<=sizeLine)(h:P y):∃z,V.str y=.str z/\z.length<=sizeLine/\P z:=⟨y,rfl,n,h⟩
def ES{i:Int}(n:i.natAbs.log2<1920)(h:Q (.str (a4 i)) H):DQ [.int i] H Q:=⟨i,rfl,n,h⟩
def JJ{z:Str}{ws:List Str}(sq:SqL K H a (ws.map V.str))(le:(ws.map (·.length)).sum+Wi ws*z.length<=16777216)(h:Q (.str (Zbh z ws)) H):yx K (.str z) [.ref a] H Q:=⟨z,a,ws,rfl,rfl,sq,le,h⟩
end
abbrev Qt(z:Str):It:=⟨λi _=>i<z.cps.size,λi H x H'=>H'=H/\∃c,z.cps[i]?=some c/\x=.str ⟨#[c]⟩,λi _=>z.cps.size<=i⟩
def Gr{K:Fg}  (z:Str) (t:Tok) (it:Addr):rN P w K tg (Qt z) [it] it (λi h=>h.IsStrIter it "str_ascii_iterator" z t i) where
 mem:=Tf.mpr rfl
 obj:=λi h ⟨o,e,c,d⟩ b hb=>by cases Tf.mp hb;exact⟨o,e,λv q=>by rw[d] at q;cases q⟩
 keep:=(by rintro i h h' ⟨o,e,r⟩ k;exact ⟨o,k it (Tf.mpr rfl) o e,r⟩)
 item:=λX hP hw hK hc i ξ s σ H E I hf st hg=>by
  subst hP hw hK;have hg':i<z.cps.size:=hg;obtain⟨f0,f1,f2,f3,f4,f5⟩:=hf it (Tf.mpr rfl);refine wpAny_pyNext_ascii_item st (c:=z.cps[i]) (UQ hg') λh' st' sb=>?_
  have I1:Inv X ξ σ H {s with heap:=h',toks:=s.toks+1}:=I.turned (t':=s.toks+1) (λb o hb e=>(sb.2 b hb).trans e) f0 f1 f3 f4 f5;obtain⟨o,e,c,d⟩:=id st';exact⟨_,rfl,ID (s:={s with heap:=h',toks:=s.toks+1}) e c d (by decide) ⟨.str ⟨#[z.cps[i]]⟩,H,I1,⟨_,rfl⟩,⟨rfl,_,UQ hg',rfl⟩,st',λb hb=>(hf b hb).1⟩⟩
 done:=λX hP hw hK hc i ξ s σ H E I hf st hg=>by
  subst hP hw hK;obtain⟨f0,f1,f2,f3,f4,f5⟩:=hf it (Tf.mpr rfl);exact wpAny_pyNext_ascii_end (I.ok.hd hc) st (XT hg) λh' eb=>⟨rfl,I.turned (t':=s.toks) (λb o hb e=>eb b o hb e) f0 f1 f3 f4 f5⟩
 self:=λ_ _ _ _ _ st h=>wpAny_pyIter_striter_ascii st h
abbrev Iy(tl:TE):TI:=λσ H R=>tl σ H λx H1=>∃z:Str,x=.str z/\z.cps.all (· < 128)=true/\R (Qt z) H1
section
variable{X:Cx}{tg:Expr}
def NW(hl:PE X l tl):PI X tg l (Iy tl):=by
 intro ξ s σ H R I h;refine bg (hl ξ s σ H _ I h) λv s1 ω=>?_;obtain⟨x,H1,I1,r1,z,e,ha,q⟩:=ω
 subst e;obtain⟨t,rfl⟩:=r1;refine wpAny_pyIter_ascii ha ⟨s1.heap.objs.size,[s1.heap.objs.size],_,_,H1,rfl,I1.kept (t':=s1.toks) λb o e=>SY _ e,Gr z t _,⟨_,Tx _ rfl,rfl,rfl⟩,λb hb=>?_,q⟩;cases Tf.mp hb;exact I1.fpOk (SR _) (I1.hok.fresh (SR _))
def OZ{H:Hp}{te:TE}{R:It->Hp->Prop}(h:te σ H λx H1=>∃z:Str,x=.str z/\z.cps.all (· < 128)=true/\R (Qt z) H1):Iy te σ H R:=h
def zq{z:Str}{Q:VK}{H:Hp}(h:∀D,H D=none->∃Pv:Nat->Hp->Prop,Pv 0 (upd H D (.lst []))/\(∀i c H2,z.cps[i]?=some c->Pv i H2->M0 te σ (.str ⟨#[c]⟩) H2 D z.cps.size i Pv)/\∀H2,Pv z.cps.size H2->Q (.ref D) H2):cx (Qt z) te σ Q H:=by
 intro D nD;obtain⟨Pv,h0,hs,hd⟩:=h D nD;refine⟨λi m H=>m=z.cps.size-i/\i<=z.cps.size/\Pv i H,⟨z.cps.size,by simp,T1 _,h0⟩,?_⟩;rintro i m H ⟨rfl,hi,p⟩;by_cases vt:i<z.cps.size
 .refine .inr ⟨vt,λv H' y=>?_⟩;obtain⟨e,c,hc,e2⟩:=y;subst e e2;exact hs i c _ hc p
 .have e:i=z.cps.size:=by lia
  subst e;exact .inl ⟨SR _,hd H p⟩
abbrev Kq(K:Fg)(te:TE):TE:=λσ H Q=>te σ H λx H1=>∃a,x=.ref a/\((∃xs,SqL K H1 a xs)\/∃xs,SqT K H1 a xs)/\Q (.bl true) H1
def IZ:AnswersAll (λs=>s.TypeIs (.ref a) "list") (.ref a) [.type "list",.type "tuple"] [true,false] :=
 .cons (.of_true (by rfl) F.sub_list_list) (.cons (.of_false_list (by decide) (by rfl) F.sub_list_tuple) .nil)
def MG:AnswersAll (λs=>s.TypeIs (.ref a) "tuple") (.ref a) [.type "list",.type "tuple"] [false,true] :=
 .cons (.of_false_tuple (by decide) (by rfl) F.sub_tuple_list) (.cons (.of_true (by rfl) F.sub_tuple_tuple) .nil)
def Lu{p p1 p2 pos:Pos} {x1} (hgi:Gl X "isinstance") (hmi:X.mg "isinstance"=none) (hgl:Gl X "list") (hml:X.mg "list"=none) (hgt:Gl X "tuple") (hmt:X.mg "tuple"=none) (he:PE X e te)
  (hs:starEach [e,.Tuple [.Name "list" p1,.Name "tuple" p2] x1 tp] X.env=[(false,eval e X.env),(false,eval (.Tuple [.Name "list" p1,.Name "tuple" p2] x1 tp) X.env)]:=by rfl)
  (hs2:starEach [.Tuple [.Name "list" p1,.Name "tuple" p2] x1 tp] X.env=[(false,eval (.Tuple [.Name "list" p1,.Name "tuple" p2] x1 tp) X.env)]:=by rfl) :
  PE X (.Call (.Name "isinstance" p) [e,.Tuple [.Name "list" p1,.Name "tuple" p2] x1 tp] [] pos) (Kq X.K te):=by
 intro ξ s σ H Q I h;refine Vp (dD I hgi hmi aB ?_);refine WB ?_ (by rw[hs,hs2]) (by rw[hs2];rfl);rw[hs];refine(show wpAny _ _ (spliced (backTo pos [(false,eval e X.env),(false,eval (.Tuple [.Name "list" p1,.Name "tuple" p2] x1 tp) X.env)])) _ _ s from US (bg (he ξ s σ H _ I h) λu s1 ⟨x,H1,I1,r1,a,ex,hq,q⟩=>US ?_));subst ex;cases r1;have ha:PA X [.Name "list" p1,.Name "tuple" p2] (ac (tC (.ty "list")) (ac (tC (.ty "tuple")) ae)):=aD (aY hgl hml gU rfl) (aD (aY hgt hmt gg rfl) bu);refine Zax (x1:=x1) (bg (ha tp ξ s1 σ H1 (λvs H2=>vs=[.ty "list",.ty "tuple"]/\H2=H1) I1 ⟨rfl,rfl⟩) λus s2 ω=>?_);obtain⟨xs,H2,I2,r2,e2,e3⟩:=ω;subst e2 e3;obtain⟨u1,u2,rfl,ru1,ru2⟩:=vals2 r2;obtain rfl:u1=W6 "list":=ru1;obtain rfl:u2=W6 "tuple":=ru2;refine⟨bF,VP ?_⟩;have I3:Inv X ξ σ H2 {s2 with heap:=s2.heap.push {cls:=.type "tuple",dict:=none,data:=.seq ([.type "list",.type "tuple"]:List SW).toArray}}:=I2.kept (t':=s2.toks) λb o e=>SY _ e
 rcases hq with⟨xs,q1⟩|⟨xs,q1⟩
 .obtain⟨ab,_,p,_⟩:=I3.list q1;obtain⟨o,ho,hc,_⟩:=p.isList;exact ZbF (b:=true) IZ ⟨o,ho,hc⟩ (Tx _ rfl) rfl λtk=>⟨.bl true,H2,I3.tok tk,rfl,q⟩
 .obtain⟨ab,_,p,_⟩:=I3.tuple q1;obtain⟨o,ho,hc,_⟩:=id p;exact ZbF (b:=true) MG ⟨o,ho,hc⟩ (Tx _ rfl) rfl λtk=>⟨.bl true,H2,I3.tok tk,rfl,q⟩
def OW{K:Fg}{H:Hp}{Q:VK}{te:TE}(h:te σ H λx H1=>∃a,x=.ref a/\((∃xs,SqL K H1 a xs)\/∃xs,SqT K H1 a xs)/\Q (.bl true) H1):Kq K te σ H Q:=h
end
abbrev Fb(K:Fg)(tl:TE):TI:=λσ H R=>tl σ H λx H1=>∃a,x=.ref a/\(((∃xs,SqL K H1 a xs)/\R (uT K a) H1)\/((∃xs,SqT K H1 a xs)/\R (vf K a) H1))
section
variable{X:Cx}{tg:Expr}
def ib{pos:Pos} (hg:Gl X x) (hm:∃t,X.mg x=some (.int i t)) (hd:(x == ("__debug__":Str))=false:=by decide):PE X (.Name x pos) (tC (.int i)):=by
 obtain⟨t,e⟩:=hm;exact D_ hg e ⟨t,rfl⟩ hd
def NX(hl:PE X l tl):PI X tg l (Fb X.K tl):=by
 intro ξ s σ H R I h;refine bg (hl ξ s σ H _ I h) λv s1 ω=>?_;obtain⟨x,H1,I1,r1,a,e,q1⟩:=ω
 subst e;cases r1;have own:∀b∈[s1.heap.objs.size],jq X ξ H1 b:=λb hb=>by cases Tf.mp hb;exact I1.fpOk (SR _) (I1.hok.fresh (SR _))
 rcases q1 with⟨⟨xs,hq⟩,q⟩|⟨⟨xs,hq⟩,q⟩
 .obtain⟨ab,_,p,_⟩:=I1.list hq;exact XO p.isList ⟨_,[_],_,_,H1,rfl,I1.kept (t':=s1.toks) λb o e=>SY _ e,r9 a _,⟨_,Tx _ rfl,rfl,rfl⟩,own,q⟩
 .obtain⟨ab,_,p,_⟩:=I1.tuple hq;exact WL (show s1.heap.IsTuple a ab.toArray from p) ⟨_,[_],_,_,H1,rfl,I1.kept (t':=s1.toks) λb o e=>SY _ e,nY a _,⟨_,Tx _ rfl,rfl,rfl⟩,own,q⟩
end
section
variable{K:Fg}{te:TE}{σ:St}{Q:VK}{H:Hp}
def O0{R:It->Hp->Prop}(h:te σ H λx H1=>∃a,x=.ref a/\(((∃xs,SqL K H1 a xs)/\R (uT K a) H1)\/((∃xs,SqT K H1 a xs)/\R (vf K a) H1))):Fb K te σ H R:=h
def rm(e:SqL K H a xs\/SqT K H a xs)(h:∀D,H D=none->∃Pv:Nat->Hp->Prop,Pv 0 (upd H D (.lst []))/\(∀i H2,Pv i H2->Same H H2)/\(∀i x H2,xs[i]?=some x->Pv i H2->M0 te σ x H2 D (Wi xs) i Pv)/\∀H2,Pv (Wi xs) H2->Q (.ref D) H2) :
  ∃b,V.ref a=.ref b/\(((∃xs,SqL K H b xs)/\cx (uT K b) te σ Q H)\/((∃xs,SqT K H b xs)/\cx (vf K b) te σ Q H)):=by
 refine⟨a,rfl,?_⟩;rcases e with e|e
 .refine .inl ⟨⟨xs,e⟩,dy (xs:=xs) λD nD=>?_⟩;obtain⟨Pv,h0,h1,h2,h3⟩:=h D nD;exact⟨Pv,h0,λi H2 _ p=>(h1 i H2 p).seq e,h2,h3⟩
 .refine .inr ⟨⟨xs,e⟩,cN (xs:=xs) λD nD=>?_⟩;obtain⟨Pv,h0,h1,h2,h3⟩:=h D nD;exact⟨Pv,h0,λi H2 _ p=>(h1 i H2 p).seqT e,h2,h3⟩
def Rc{lo:Option Int}(e:SqT K H a xs)(n : ¬ (HT.sIx (Wi xs) 0 lo=0/\HT.sIx (Wi xs) (Wi xs) hi=Wi xs))(h:∀p,H p=none->Q (.ref p) (upd H p (.tup (eQ xs lo hi)))):K9 K (.ref a) lo hi H Q:=⟨a,xs,rfl,e,n,h⟩
def jA{bs:List Bool}(e:SqL K H a (bs.map V.bl))(h:Q (.bl (bs.all id)) H):nu K [.ref a] H Q:=⟨a,bs,rfl,e,h⟩
def Mi{bs:List Bool}(e:SqL K H a (bs.map V.bl))(h:Q (.bl (bs.any id)) H):DU K [.ref a] H Q:=⟨a,bs,rfl,e,h⟩
def iB{n i:Nat}{Pv:Nat->Hp->Prop}(hn:n<=1000)(hi:i<n)(hP:∀j H3,Pv j H3↔AccZ K H0 D H3 ((Tq j b).map Zr))(A:Pv i H2)(S:Same H2 H3):mK D n i Pv (.bl b) H3:=by
 have A2:=((hP i H2).mp A).on S;refine aI hi (A2.bA (.bl b) (by rw[SJ,Up,show sizeLine=16777216 by decide];lia) λH4 A4=>?_);rw[hP,List.replicate_succ',SV];exact A4
def AccZ.bls{bs:List Bool}(A:AccZ K H0 l H (bs.map Zr)):SqL K H l (bs.map V.bl):=by
 obtain⟨xs,h1,h2⟩:=A.at_
 have:∀{vs:List V} {bs:List Bool},RzL K H vs (bs.map Zr)->vs=bs.map V.bl:=by
  intro vs bs
  induction bs generalizing vs with
  |nil=>intro h;cases h;rfl
  |cons b bs ih =>
   intro h;cases h with
   |cons h1 h2 =>
    cases h1;rw[ih h2];rfl
 rw[this h2] at h1;exact SqL.of h1
end
end L2
namespace Gd
abbrev gd(a b:Int):Int:=(Zb4 a b:Nat)
def Fn(a b:Int):gd b (Zbi a b)=gd a b:=by
 unfold gd
 have e:Zbi a b=a+b*(-(Zaj a b)):=by
  rw[Zbj,V3];lia
 rw[e,Int.gcd_add_mul_left_right,Int.gcd_comm]
def Fo{b:Int}(h:b≠0):(Zbi a b).natAbs<b.natAbs:=by
 rcases (by lia:0<b\/b<0) with p|p
 .have h1:=ZI a p;have h2:=ZaZ a p;lia
 .have e:Zbi a b = -(Zbi (-a) (-b)):=by
   rw[Zbj,Zbj,Int.neg_fdiv_neg];rw[VB];lia
  have h1:=ZI (-a) (b:=-b) ∅;have h2:=ZaZ (-a) (b:=-b) ∅;lia
def Mq(a:Int):gd a 0=(a.natAbs:Int):=by
 unfold gd;rw[Int.gcd_zero_right]
def JS(a:Int):(if a<0 then -a else a)=gd a 0:=by
 rw[Mq];split <;> lia
def oH{b:Int}(h:b≠0):0<gd a b:=by
 unfold gd
 have:Zb4 a b≠0:=λe=>h (Int.gcd_eq_zero_iff.mp e).2
 lia
def uv(a b:Int):0<=gd a b:=Int.natCast_nonneg _
def Mr{b:Int}(h:b≠0):gd a b<=(b.natAbs:Int):=by
 unfold gd
 have:=Int.gcd_le_natAbs_right a h
 lia
structure Low (top bottom q p:Int):Prop where
 pos:0<p
 low:gd q p=1
 worth:q*bottom=top*p
def JG{b d:Int}(hb:b≠0)(hd:d=gd t b/\0<b\/d = - gd t b/\b<0):Low t b (Zaj t d) (Zaj b d):=by
 have gp:=oH (a:=t) hb;have d1:gd t b∣t:=Zs t b;have d2:gd t b∣b:=Y2 t b;have e1:d∣t:=by rcases hd with⟨e,_⟩|⟨e,_⟩ <;> rw[e];exact d1;exact Y3.mpr d1
 have e2:d∣b:=by rcases hd with⟨e,_⟩|⟨e,_⟩ <;> rw[e];exact d2;exact Y3.mpr d2
 have d0:d≠0:=by rcases hd with⟨e,_⟩|⟨e,_⟩ <;> lia
 obtain⟨q,rfl⟩:=e1;obtain⟨p,rfl⟩:=e2;rw[Wu _ d0,Wu _ d0];refine⟨?_,?_,?_⟩
 .rcases hd with⟨e,z⟩|⟨e,z⟩
  .exact Vk z ∅ |> λh=>h
  .have z':0<(-d)*p:=by rw[VB];lia
   exact Vk z' ∅
 .have m:gd (d*q) (d*p)=(d.natAbs:Int)*gd q p:=by
   unfold gd;rw[Zt];simp
  have n:gd (d*q) (d*p)=(d.natAbs:Int):=by
   rcases hd with⟨e,z⟩|⟨e,z⟩ <;> lia
  rw[n] at m;have k:(d.natAbs:Int)*gd q p=(d.natAbs:Int)*1:=by lia
  exact Uo ∅ k
 .rw[<- TB,Uc q d]
def qW{t d:Int}(h:d≠0)(hd:d∣t):(Zaj t d).natAbs<=t.natAbs:=by
 obtain⟨q,rfl⟩:=hd;rw[Wu _ h,UM];exact XU _ ∅
def LY{b d:Int}(hb:b≠0)(hd:d=gd t b/\0<b\/d = - gd t b/\b<0):(Zaj t d).natAbs<=t.natAbs/\(Zaj b d).natAbs<=b.natAbs:=by
 have gp:=oH (a:=t) hb;have d1:gd t b∣t:=Zs t b;have d2:gd t b∣b:=Y2 t b;have d0:d≠0:=by rcases hd with⟨e,_⟩|⟨e,_⟩ <;> lia
 refine⟨qW d0 ?_,qW d0 ?_⟩
 .rcases hd with⟨e,_⟩|⟨e,_⟩ <;> rw[e];exact d1;exact Y3.mpr d1
 .rcases hd with⟨e,_⟩|⟨e,_⟩ <;> rw[e];exact d2;exact Y3.mpr d2
def wide{i:Int}(h:i.natAbs<10000000000000000000000000000000000000001):i.natAbs<2 ^ 9000 :=
 Ts h (by
  have:10000000000000000000000000000000000000001<=2 ^ 133:=by decide
  exact TQ this (TM (by decide) (by decide)))
def Gp{i:Int}(h:i.natAbs<2 ^ 9000):i.natAbs<2 ^ 20000:=Ts h (TM (by decide) (by decide))
end Gd
namespace Fr
open PySem L2
abbrev v_:Sp:=λvs H Q _=>∃a b:Int,vs=[.int a,.int b]/\Q (.int (Gd.gd a b)) H
abbrev Na:TS:=(ak (kG (aO (ao yu (aa 1) (tC (.int 0))))
 (ak (aA (ao NE (aa 0) (aa 1)) (aj 2))
 (ak (aA (aa 1) (aj 0))
 (aA (aa 2) (aj 1)))))
 (aC (aX NJ (ac (aa 0) ae))))
def Nw(a b:Int)(H:Hp)(D:ca)(k:D.rt (.int (Gd.gd a b)) H):Na D [↥a,↥b,none] H:=by
 refine xV (λσ H'=>H'=H/\∃(i j:Int) (v:Option V),σ=[↥i,↥j,v]/\Gd.gd i j=Gd.gd a b)
  (λσ _=>match σ with | [_,↥j,_]=>j.natAbs|_=>0) ⟨rfl,a,b,none,rfl,rfl⟩ ?_ ?_
 .rintro σ H' ⟨rfl,i,j,v,rfl,e⟩;refine⟨_,rfl,rfl,_,rfl,Pd (λhj=>?_) (λhj=>?_)⟩
  .refine⟨_,rfl,_,rfl,_,_,rfl,rfl,hj,_,rfl,_,rfl,⟨rfl,j,i.fmod j,_,rfl,(Gd.Fn i j).trans e⟩,?_⟩;exact Gd.Fo hj
  .subst hj;refine⟨_,rfl,_,rfl,?_⟩;rw[Gd.JS,e];exact k
 .rintro σ H' R R' h ⟨v,e,sc,c,ec,q⟩;exact⟨v,e,sc,c,ec,h _ _ q⟩
open PySem.W (Dat kqdOk)
abbrev cellOf(ns:List Int)(k:Int):Int:=(ns[k.toNat]?).getD 0
abbrev hJ(K:Fg):Sp:=λvs H Q _=>∃(a:Addr) (ns:List Int) (k:Int),vs=[.ref a,.int k]/\SqL K H a (ns.map V.int)/\0<=k/\Q (.int (cellOf ns k)) H
abbrev Nb(K:Fg):TS:=(ak (aM (aO (ao yw (aa 1) (aX (bf K) (ac (aa 0) ae))))
 (aC (ao (cQ K) (aa 0) (aa 1)))
 aP)
 (aC (tC (.int 0))))
def K6{K:Fg}{ns:List Int}{k:Int}{D:ca}(hS:SqL K H a (ns.map V.int))(h0:0<=k)(q:D.rt (.int (cellOf ns k)) H):Nb K D [⇑a,↥k] H:=by
 have el:(ns.map V.int).length=Wi ns:=SJ _;refine⟨_,rfl,_,rfl,a,_,rfl,.inl hS,_,_,rfl,rfl,_,rfl,Pe (λc=>?_) (λc=>?_)⟩
 .rw[el] at c;have hk:k.toNat<Wi ns:=by lia
  have e:k=((k.toNat:Nat):Int):=by lia
  have z:cellOf ns k=ns[k.toNat]:=by
   unfold cellOf;rw[SN hk];rfl
  have w:kh (ns.map V.int) ((k.toNat:Nat):Int)=some (.int ns[k.toNat]):=ba (by rw[SO];simp[hk]);rw[<- e] at w;rw[z] at q;exact⟨_,rfl,_,rfl,a,_,_,_,rfl,rfl,hS,w,q⟩
 .rw[el] at c
  have z:cellOf ns k=0:=by
   unfold cellOf;rw[TL ∅];rfl
  rw[z] at q;exact q
abbrev kM:Sp:=λvs H Q _=>∃i:Int,vs=[.int i]/\Q (.bl true) H
abbrev Jl (K:Fg):TS:=(aC (mY (aX (eL K) (ac (aa 0) (ac (tC (.ty "int")) ae))) (Ae (aX (eL K) (ac (aa 0) (ac (tC (.ty "bool")) ae))))))
def Hc{K:Fg}{D:ca}(q:D.rt (.bl true) H):Jl K D [↥i] H :=
 ⟨_,rfl,_,_,_,_,rfl,TyOf.int i,OC,_,rfl,Bb ⟨_,rfl,_,_,_,_,rfl,TyOf.int i,OD,_,rfl,q⟩⟩
end Fr
namespace Kd
end Kd
namespace Ex0
end Ex0
namespace L2
open PySem PySem.SetTable
abbrev Sb(m:Nat):Uz:={mask:=m,place:=#[],dummies:=#[],finger:=0,led:=true,moves:=0,plain:=true}
abbrev rS(m:Nat)(p:Probe):Probe:=(Sb m).advance p
abbrev st(m:Nat)(h:Int):Probe:=(Sb m).probeStart h
abbrev cy(m:Nat):Nat->Probe->Probe
 |0,p=>p
 |n+1,p=>cy m n (rS m p)
def dJ(m:Nat):∀(a b:Nat) (p:Probe),cy m (a+b) p=cy m b (cy m a p)
 |0,b,p=>by rw[XM];rfl
 |a+1,b,p=>by rw[show a+1+b=(a+b)+1 by lia];exact dJ m a b (rS m p)
def Go(m n:Nat)(p:Probe):cy m (n+1) p=rS m (cy m n p):=by rw[dJ m n 1 p];rfl
def uR(m:Nat)(p:Probe):(rS m p).dummy=p.dummy:=by unfold rS Xm;split <;> rfl
def rW(m:Nat):∀(n:Nat) (p:Probe),(cy m n p).dummy=p.dummy
 |0,_=>rfl
 |n+1,p=>by rw[cy,rW m n,uR]
def sV(m i:Nat):runEnd m i-i<=9:=by unfold runEnd;split <;> lia
def I_{p:Probe}(h:p.more<=9):(rS m p).more<=9:=by
 unfold rS Xm;split
 .show p.more-1<=9;lia
 .exact sV _ _
def oX(m:Nat):∀(n:Nat) {p:Probe},p.more<=9->(cy m n p).more<=9
 |0,_,h=>h
 |n+1,_,h=>oX m n (I_ h)
def CK(m:Nat)(h:Int):(st m h).more<=9:=sV _ _
abbrev lp(m:Nat)(x:Nat×Nat):Nat×Nat:=leap m x.1 x.2
abbrev jg(m:Nat):Nat->Nat×Nat->Nat×Nat
 |0,x=>x
 |n+1,x=>jg m n (lp m x)
def fR{p:Probe}(h:0<p.more):rS m p = {p with j:=p.j+1,more:=p.more-1}:=by unfold rS Xm;rw[if_pos h]
def cr{p:Probe}(h:p.more=0):rS m p = {p with j:=(lp m (p.i,p.perturb)).1,more:=runEnd m (lp m (p.i,p.perturb)).1-(lp m (p.i,p.perturb)).1,i:=(lp m (p.i,p.perturb)).1,perturb:=(lp m (p.i,p.perturb)).2}:=by
 unfold rS Xm;rw[if_neg ∅];rfl
def vi(m:Nat):∀(r:Nat) (p:Probe),p.more=r->∃q,cy m (r+1) p=q/\q.j=(lp m (p.i,p.perturb)).1/\q.i=(lp m (p.i,p.perturb)).1/\q.perturb=(lp m (p.i,p.perturb)).2
 |0,p,h=>⟨_,rfl,by rw[cy,cy,cr h],by rw[cy,cy,cr h],by rw[cy,cy,cr h]⟩
 |r+1,p,h=>by
  have e:cy m (r+1+1) p=cy m (r+1) {p with j:=p.j+1,more:=p.more-1}:=by rw[cy,fR ∅]
  obtain⟨q,h1,h2,h3,h4⟩:=vi m r {p with j:=p.j+1,more:=p.more-1} (by show p.more-1=r;lia);exact⟨q,e.trans h1,h2,h3,h4⟩
def xY(m:Nat):∀(k:Nat) (p:Probe),p.more<=9->∃n,n<=10*(k+1)/\(cy m n p).j=(jg m (k+1) (p.i,p.perturb)).1/\(cy m n p).i=(jg m (k+1) (p.i,p.perturb)).1/\(cy m n p).perturb=(jg m (k+1) (p.i,p.perturb)).2
 |0,p,h=>by
  obtain⟨q,h1,h2,h3,h4⟩:=vi m p.more p rfl;exact⟨p.more+1,∅,by rw[h1];exact h2,by rw[h1];exact h3,by rw[h1];exact h4⟩
 |k+1,p,h=>by
  obtain⟨q,h1,h2,h3,h4⟩:=vi m p.more p rfl;have hq:q.more<=9:=h1 ▸ oX m _ h;obtain⟨n,g1,g2,g3,g4⟩:=xY m k q hq;have e:jg m (k+1) (q.i,q.perturb)=jg m (k+1+1) (p.i,p.perturb):=by rw[h3,h4];rfl
  rw[e] at g2 g3 g4;exact⟨p.more+1+n,∅,by rw[dJ,h1];exact g2,by rw[dJ,h1];exact g3,by rw[dJ,h1];exact g4⟩
def xl(m:Nat):∀(a b:Nat) (x:Nat×Nat),jg m (a+b) x=jg m b (jg m a x)
 |0,b,x=>by rw[XM];rfl
 |a+1,b,x=>by rw[show a+1+b=(a+b)+1 by lia];exact xl m a b (lp m x)
def gP(m:Nat):∀(a:Nat) (x:Nat×Nat),(jg m a x).2=x.2 / 32 ^ a
 |0,x=>by simp[jg]
 |a+1,x=>by
  rw[jg,gP m a];show x.2 / 32 / 32 ^ a=x.2 / 32 ^ (a+1);rw[Nat.div_div_eq_div_mul,VY,Xh]
def EB(m:Nat):∀(a:Nat) (x:Nat×Nat),(jg m (a+1) x).1<m+1
 |0,x=>ZJ _ (Xl _)
 |a+1,x=>EB m a (lp m x)
abbrev lc(m:Nat):Nat->Nat->Nat
 |0,i=>i
 |n+1,i=>lc m n ((i*5+1) % (m+1))
def qL(m:Nat):∀(a i:Nat),(jg m a (i,0)).1=lc m a i
 |0,_=>rfl
 |a+1,i=>by
  have e:lp m (i,0)=((i*5+1) % (m+1),0):=by unfold lp leap;simp
  rw[jg,e,qL m a];rfl
abbrev uU(m:Nat):Prop:=∀i,i<m+1->∀j,j<m+1->∃k,k<m+1/\lc m k i=j
abbrev RT(m:Nat):Bool:=(TC (m+1)).all λi=>(TC (m+1)).all λj=>(TC (m+1)).any λk=>lc m k i == j
def Ft(h:RT m=true):uU m:=by
 intro i hi j hj;have h1:=U8.mp h i (Uu.mpr hi);have h2:=U8.mp h1 j (Uu.mpr hj);obtain⟨k,h3,h4⟩:=Zu.mp h2;exact⟨k,Uu.mp h3,by simpa using h4⟩
def RU:uU 7:=Ft (by decide +kernel)
def Pp:uU 31:=Ft (by decide +kernel)
def Pj(F:uU m){p:Probe}(h1:p.more<=9)(h2:p.perturb<2 ^ 64){j:Nat}(hj:j<m+1):∃n,n<10*turns m/\(cy m n p).j=j:=by
 obtain⟨k,hk,ek⟩:=F (jg m 13 (p.i,p.perturb)).1 (EB m 12 _) j hj
 have z:(jg m 13 (p.i,p.perturb)).2=0:=by
  rw[gP];exact X8 (Ts h2 (by decide))
 have e:(jg m (12+k+1) (p.i,p.perturb)).1=j:=by
  rw[show 12+k+1=13+k by lia,xl];have e2:jg m 13 (p.i,p.perturb)=((jg m 13 (p.i,p.perturb)).1,0):=WS rfl z;rw[e2,qL];exact ek
 obtain⟨n,g1,g2,_⟩:=xY m (12+k) p h1;exact⟨n,by unfold turns;lia,g2.trans e⟩
def MC(h:Int):bits h<2 ^ 64:=by unfold bits;lia
def iR(m:Nat)(h:Int):(st m h).perturb<2 ^ 64:=MC h
def xO{p:Probe}(h:p.perturb<2 ^ 64):(rS m p).perturb<2 ^ 64:=by
 unfold rS Xm;split
 .exact h
 .show p.perturb / 32<2 ^ 64;lia
def ko(m:Nat):∀(n:Nat) {p:Probe},p.perturb<2 ^ 64->(cy m n p).perturb<2 ^ 64
 |0,_,h=>h
 |n+1,_,h=>ko m n (xO h)
def yC{t:Uz} (hd : ∀ j, t.slot j ≠ .dummy) (hashAt:Nat->Int) (h:Int) : ∀ (fuel:Nat) (p:Probe), (∃ n, n<fuel/\t.slot (cy t.mask n p).j=.empty) ->
    ∃ n, n<fuel/\(∀ k, k<n -> ∃ i, t.slot (cy t.mask k p).j=.live i/\hashAt i≠h) /\
      ((t.slot (cy t.mask n p).j=.empty/\VQ t hashAt h fuel p=some (.empty (cy t.mask n p).j p.dummy)) \/
       (∃ i, t.slot (cy t.mask n p).j=.live i/\hashAt i=h/\VQ t hashAt h fuel p=some (.candidate (cy t.mask n p).j i (cy t.mask (n + 1) p))))
  |0, _, ⟨_, h0, _⟩ => absurd h0 ∅
  |fuel + 1, p, ⟨n, h0, h1⟩ => by
    cases hs:t.slot p.j with
    |empty => exact⟨0, by lia, λk hk => absurd hk ∅, .inl ⟨hs, by rw[VQ, hs]; rfl⟩⟩
    |dummy => exact absurd hs (hd _)
    |live i =>
      by_cases e:hashAt i=h
      · refine⟨0, by lia, λk hk => absurd hk ∅, .inr ⟨i, hs, e, ?_⟩⟩
        rw[VQ, hs];show(if hashAt i == h then _ else _)=_;rw[if_pos (by simpa using e)]; rfl
      · have hn : ∃ n, n<fuel/\t.slot (cy t.mask n (rS t.mask p)).j=.empty := by
          cases n with
          |zero => rw[cy, hs] at h1; exact absurd h1 (by simp)
          |succ n => exact⟨n, by lia, h1⟩
        obtain⟨n', g0, g1, g2⟩ := yC hd hashAt h fuel (rS t.mask p) hn
        have ego:VQ t hashAt h (fuel + 1) p=VQ t hashAt h fuel (rS t.mask p) := by
          rw[VQ, hs];show(if hashAt i == h then _ else _)=_;rw[if_neg (by simpa using e)]; rfl
        refine⟨n' + 1, by lia, ?_, ?_⟩
        · intro k hk
          cases k with
          |zero => exact⟨i, hs, e⟩
          |succ k => exact g1 k ∅
        · rw[ego]
          rcases g2 with⟨a, b⟩|⟨i', a, b, c⟩
          · exact .inl ⟨a, by rw[b, uR]; rfl⟩
          · exact .inr ⟨i', a, b, c⟩
def rF(xs:Array Nat)(j:Nat)(hs:∀a b,a<b->b<xs.size->xs.getD a j<xs.getD b j):∀(fuel lo hi:Nat),lo<=hi->hi<=xs.size->hi-lo<=fuel->(∀k,k<lo->xs.getD k j<j)->(∀k,hi<=k->k<xs.size->¬ xs.getD k j<j) ->
  lo<=below.go xs j fuel lo hi/\below.go xs j fuel lo hi<=xs.size/\(∀k,k<below.go xs j fuel lo hi->xs.getD k j<j)/\(∀k,below.go xs j fuel lo hi<=k->k<xs.size->¬ xs.getD k j<j)
 |0,lo,hi,h1,h2,h3,h4,h5=>by
  have:lo=hi:=by lia
  subst this;exact⟨SR _,h2,h4,h5⟩
 |fuel+1,lo,hi,h1,h2,h3,h4,h5=>by
  unfold below.go;by_cases hl:lo<hi
  .rw[if_pos hl];show lo<=(if xs.getD ((lo+hi) / 2) j<j then _ else _)/\_;by_cases hm:xs.getD ((lo+hi) / 2) j<j
   .rw[if_pos hm]
    have:=rF xs j hs fuel ((lo+hi) / 2+1) hi ∅ h2 ∅ (λk hk=>by
     rcases Uw k ((lo+hi) / 2) with g|g
     .exact UC (hs k _ g ∅) hm
     .have:k=(lo+hi) / 2:=by lia
      rw[this];exact hm) h5
    exact⟨∅,this.2⟩
   .rw[if_neg hm]
    exact rF xs j hs fuel lo ((lo+hi) / 2) ∅ ∅ ∅ h4 (λk h6 h7 h8=>by
     rcases Uw ((lo+hi) / 2) k with g|g
     .exact hm (UC (hs _ k g h7) h8)
     .have:k=(lo+hi) / 2:=by lia
      rw[this] at h8;exact hm h8)
  .rw[if_neg hl]
   have:lo=hi:=by lia
   subst this;exact⟨SR _,h2,h4,h5⟩
abbrev Bm(l:List Nat):Prop:=l.Pairwise (· < ·)
def GP(h:Bm l)(d:Nat):∀a b,a<b->b<l.toArray.size->l.toArray.getD a d<l.toArray.getD b d:=by
 intro a b h1 h2;have h3:b<l.length:=by simpa using h2
 have:=Va.mp h a b ∅ h3 h1
 simpa[YJ,h3,show a<l.length by lia] using this
def jo(h:Bm l)(j:Nat):below l.toArray j<=l.length/\(∀k x,k<below l.toArray j->l[k]?=some x->x<j)/\(∀k x,below l.toArray j<=k->l[k]?=some x->j<=x):=by
 have:=rF l.toArray j (GP h j) l.toArray.size 0 l.toArray.size ∅ (SR _) ∅ (λk hk=>absurd hk ∅) (λk h1 h2=>absurd h2 ∅)
 obtain⟨_,h2,h3,h4⟩:=this
 have gd:∀k x,l[k]?=some x->k<l.length/\l.toArray.getD k j=x:=by
  intro k x hx;obtain⟨hk,e⟩:=SL.mp hx;exact⟨hk,by simp[YJ,hk,e]⟩
 refine⟨by unfold below;simpa using h2,?_,?_⟩
 .intro k x hk hx
  have:=h3 k hk
  rw[(gd k x hx).2] at this;exact this
 .intro k x hk hx
  have:=h4 k hk (by simpa using(gd k x hx).1)
  rw[(gd k x hx).2] at this;lia
def fQ(h:Bm l){j i:Nat}(hi:l[i]?=some j):below l.toArray j=i:=by
 obtain⟨h1,h2,h3⟩:=jo h j;rcases Vd i (below l.toArray j) with g|g|g
 .exact absurd (h2 i j g hi) ∅
 .exact g.symm
 .obtain⟨hk,e⟩:=SL.mp hi;have hb:below l.toArray j<l.length:=by lia
  have h4:=h3 (below l.toArray j) _ (SR _) (SN hb);have h5:=Va.mp h (below l.toArray j) i hb hk g;lia
def Kt(h:Bm l){j:Nat}(hj:j∉l):Bm (l.take (below l.toArray j)++j :: l.drop (below l.toArray j)):=by
 obtain⟨h1,h2,h3⟩:=jo h j
 have ht:∀x∈l.take (below l.toArray j),x<j:=by
  intro x hx;obtain⟨k,hk,e⟩:=List.mem_take_iff_getElem.mp hx;exact h2 k x ∅ (by rw[<- e];exact SN _)
 have hd:∀x∈l.drop (below l.toArray j),j<x:=by
  intro x hx;obtain⟨k,hk,e⟩:=List.mem_drop_iff_getElem.mp hx
  have:=h3 (below l.toArray j+k) x ∅ (by rw[<- e];exact SN _)
  have hne:x≠j:=λe2=>hj (e2 ▸ Wl hx)
  lia
 unfold Bm;rw[List.pairwise_append];refine⟨Z4 (Zbb _ _) h,?_,?_⟩
 .rw[XB];exact⟨hd,Z4 (List.drop_sublist _ _) h⟩
 .intro a ha b hb;rcases Tu.mp hb with rfl|hb
  .exact ht a ha
  .exact UC (ht a ha) (hd b hb)
def io{α:Type}(l:List α)(p:Nat)(x:α)(_hp:p<=Wi l):insertAt l.toArray p x=(l.take p++x :: l.drop p).toArray:=by
 unfold insertAt;apply Array.ext';simp[List.extract_eq_take_drop];rw[SX (by simp)]
def fE{t:Uz}{l:List Nat}(hp:t.place=l.toArray)(hs:Bm l){i j:Nat}(h:l[i]?=some j):t.slot j=.live i:=by
 unfold Zcj;rw[hp];show(if l.toArray[below l.toArray j]? == some j then _ else _)=_;rw[fQ hs h,if_pos (by simpa using h)]
def iU{t:Uz}{l:List Nat}(hp:t.place=l.toArray)(hd:t.dummies = #[]){j:Nat}(h:j∉l):t.slot j=.empty:=by
 unfold Zcj;rw[hp,hd];show(if l.toArray[below l.toArray j]? == some j then _ else _)=_;rw[if_neg,if_neg]
 .simp[has,below,below.go]
 .intro e;exact h (SM (by simpa using e))
def jw{t:Uz}{l:List Nat}(hp:t.place=l.toArray)(hd:t.dummies = #[])(hs:Bm l)(h:t.slot j=.live i):l[i]?=some j:=by
 by_cases hj:j∈l
 .obtain⟨i',hi⟩:=V_.mp hj;rw[fE hp hs hi] at h;cases h;exact hi
 .rw[iU hp hd hj] at h;cases h
def mZ{t:Uz}{l:List Nat}(hp:t.place=l.toArray)(hd:t.dummies = #[])(hs:Bm l)(j:Nat):t.slot j≠.dummy:=by
 by_cases hj:j∈l
 .obtain⟨i',hi⟩:=V_.mp hj;rw[fE hp hs hi];simp
 .rw[iU hp hd hj];simp
def qf{t:Uz}{l:List Nat}(hp:t.place=l.toArray)(hs:Bm l)(h:t.slot j=.empty):j∉l:=by
 intro hj;obtain⟨i',hi⟩:=V_.mp hj;rw[fE hp hs hi] at h;cases h
def P3{m:Nat}{p:Probe}(h:p.j+p.more<=m):(rS m p).j+(rS m p).more<=m:=by
 by_cases g:0<p.more
 .rw[fR g];show p.j+1+(p.more-1)<=m;lia
 .rw[cr ∅];have hl:(lp m (p.i,p.perturb)).1<m+1:=ZJ _ (Xl _);show(lp m (p.i,p.perturb)).1+(runEnd m (lp m (p.i,p.perturb)).1-(lp m (p.i,p.perturb)).1)<=m;unfold runEnd;split <;> lia
def Ji(m:Nat):∀(n:Nat) {p:Probe},p.j+p.more<=m->(cy m n p).j+(cy m n p).more<=m
 |0,_,h=>h
 |n+1,_,h=>Ji m n (P3 h)
def Nc(m:Nat)(h:Int):(st m h).j+(st m h).more<=m:=by
 have hl:bits h % (m+1)<m+1:=ZJ _ (Xl _);show bits h % (m+1)+(runEnd m (bits h % (m+1))-bits h % (m+1))<=m;unfold runEnd;split <;> lia
abbrev at_(m:Nat)(h:Int)(n:Nat):Nat:=(cy m n (st m h)).j
def P1(m:Nat)(h:Int)(n:Nat):at_ m h n<=m:=by have:=Ji m n (Nc m h);unfold at_;lia
structure Lain (t:Uz) (l:List Nat) (hs:List Int):Prop where
 full:uU t.mask
 place:t.place=l.toArray
 nodum:t.dummies = #[]
 size:Wi l=Wi hs
 srt:Bm l
 le:∀j∈l,j<=t.mask
 fill:Wi l<=t.mask
 met:∀(i j:Nat) (h:Int),l[i]?=some j->hs[i]?=some h->∃n,at_ t.mask h n=j/\∀k,k<n->at_ t.mask h k∈l
def s_:∀(n:Nat) (l:List Nat),(∀j,j<n->j∈l)->n<=Wi l
 |0,_,_=>T1 _
 |n+1,l,h=>by
  have h1:=s_ n (l.erase n) (λj hj=>(Yj ∅).mpr (h j ∅));have h2:=h n ∅;rw[Xs h2] at h1;have h3:=XV h2;lia
def sC{l:List Nat}{m:Nat}(h:Wi l<=m):∃j,j<m+1/\j∉l:=by
 by_cases hx:∃j,j<m+1/\j∉l
 .exact hx
 .exfalso;have hall:∀j,j<m+1->j∈l:=λj hj=>Vb λhn=>hx ⟨j,hj,hn⟩
  have:=s_ (m+1) l hall
  lia
def Lain.search{t:Uz}  {hs:List Int} (L:Lain t l hs) (hashAt:Nat->Int) (ha : ∀ (i:Nat) (h:Int), hs[i]?=some h->hashAt i=h) (h:Int) (n0:Nat) :
    ∃ n, n0<=n/\(∀ k, n0<=k->k<n -> ∃ i:Nat, l[i]?=some (at_ t.mask h k)/\hs[i]? ≠ some h) /\
      ((at_ t.mask h n ∉ l/\t.probe hashAt h (cy t.mask n0 (st t.mask h))=some (.empty (at_ t.mask h n) none)) \/
       (∃ i:Nat, l[i]?=some (at_ t.mask h n)/\hs[i]?=some h/\t.probe hashAt h (cy t.mask n0 (st t.mask h))=some (.candidate (at_ t.mask h n) i (cy t.mask (n + 1) (st t.mask h))))) := by
  obtain⟨j, hj, hjl⟩ := sC L.fill;obtain⟨nf, hf, ef⟩ := Pj L.full (p := cy t.mask n0 (st t.mask h)) (oX _ _ (CK _ _)) (ko _ _ (iR _ _)) hj;obtain⟨n, _, h1, h2⟩ := yC (t := t) (mZ L.place L.nodum L.srt) hashAt h (10 * turns t.mask) (cy t.mask n0 (st t.mask h)) ⟨nf, hf, by rw[ef]; exact iU L.place L.nodum hjl⟩;have ew : ∀ k, (cy t.mask k (cy t.mask n0 (st t.mask h))).j=at_ t.mask h (n0 + k) := λk => by unfold at_; rw[dJ]
  refine⟨n0 + n, by lia, ?_, ?_⟩
  · intro k hk1 hk2
    obtain⟨i, g1, g2⟩ := h1 (k-n0) ∅;rw[ew, show n0 + (k-n0)=k by lia] at g1;exact⟨i, jw L.place L.nodum L.srt g1, λe => g2 (ha i h e)⟩
  · rcases h2 with⟨a, b⟩|⟨i, a, b, c⟩
    · rw[ew] at a b
      exact .inl ⟨qf L.place L.srt a, by rw[Zca, b, rW]; rfl⟩
    · rw[ew] at a c
      have hi := jw L.place L.nodum L.srt a;refine .inr ⟨i, hi, ?_, ?_⟩
      · have vt:i<(Wi hs) := by rw[<- L.size]; exact(SL.mp hi).1
        have e := ha i _ (SN vt);rw[SN vt, <- e, b]
      · rw[Zca, c, <- dJ, show n0 + (n + 1)=n0 + n + 1 by lia]
def Lain.ahead{t:Uz}{hs:List Int}(L:Lain t l hs)(hn:at_ t.mask h n∉l){i:Nat}(hi:hs[i]?=some h):∃k,k<n/\l[i]?=some (at_ t.mask h k):=by
 have vt:i<l.length:=by rw[L.size];exact(SL.mp hi).1
 obtain⟨k,h1,h2⟩:=L.met i _ h (SN vt) hi;refine⟨k,?_,by rw[h1];exact SN vt⟩;rcases Vd k n with g|g|g
 .exact g
 .subst g;exact absurd (h1 ▸ U9 vt) hn
 .exact absurd (h2 n g) hn
def lT{α:Type}{l:List α}{x y:α}:y∈l.take p++x :: l.drop p↔y=x\/y∈l:=by
 rw[Tv,Tu];constructor
 .rintro(h|h|h)
  .exact .inr (Xc h)
  .exact .inl h
  .exact .inr (Wl h)
 .rintro(h|h)
  .exact .inr (.inl h)
  .rw[<- W0 p l,Tv] at h;rcases h with h|h
   .exact .inl h
   .exact .inr (.inr h)
def yZ{α:Type}{l:List α}{p:Nat}(hp:p<=Wi l)(x:α)(i:Nat):(l.take p++x :: l.drop p)[i]? = if i<p then l[i]? else if i=p then some x else l[i-1]?:=by
 have ht:(l.take p).length=p:=by rw[Ta];lia
 by_cases h1:i<p
 .rw[if_pos h1,TU ∅,Za0,if_pos h1]
 .rw[if_neg h1,TV ∅,ht];by_cases h2:i=p
  .rw[if_pos h2,h2,Zbk];rfl
  .rw[if_neg h2,show i-p=(i-p-1)+1 by lia,XF,WO];congr 1;lia
def Lain.put{t:Uz}{hs:List Int}(L:Lain t l hs)(hn:at_ t.mask h n∉l)(hk:∀k,k<n->at_ t.mask h k∈l)(hm:l.length+1<=t.mask) :
  ∃p,p<=l.length/\(t.put (at_ t.mask h n)).2=p/\Lain (t.put (at_ t.mask h n)).1 (l.take p++at_ t.mask h n :: l.drop p) (hs.take p++h :: hs.drop p)/\(t.put (at_ t.mask h n)).1.mask=t.mask/\(t.put (at_ t.mask h n)).1.led=t.led/\(t.put (at_ t.mask h n)).1.plain=t.plain/\(t.put (at_ t.mask h n)).1.moves=t.moves:=by
 have hb:=(jo L.srt (at_ t.mask h n)).1;have hp2:(t.put (at_ t.mask h n)).2=below l.toArray (at_ t.mask h n):=by unfold Uz.put;rw[L.place]
 have hp1:(t.put (at_ t.mask h n)).1 = {t with place:=(l.take (below l.toArray (at_ t.mask h n))++at_ t.mask h n :: l.drop (below l.toArray (at_ t.mask h n))).toArray}:=by
  unfold Uz.put;show({t with place:=_,dummies:=_}:Uz)=_;rw[L.place,L.nodum,io _ _ _ hb,if_neg (by simp[has,below,below.go])]
 refine⟨below l.toArray (at_ t.mask h n),hb,hp2,?_,by rw[hp1],by rw[hp1],by rw[hp1],by rw[hp1]⟩;rw[hp1];have hbh:below l.toArray (at_ t.mask h n)<=Wi hs:=by rw[<- L.size];exact hb
 refine⟨L.full,rfl,L.nodum,?_,Kt L.srt hn,?_,?_,?_⟩
 .simp only[To,Ux,Ta,Us,L.size]
 .intro j hj;rcases lT.mp hj with rfl|hj
  .exact P1 _ _ _
  .exact L.le j hj
 .simp only[To,Ux,Ta,Us];show _<=t.mask;lia
 .intro i j h' hi hj;rw[yZ hb] at hi;rw[yZ hbh] at hj;by_cases g1:i<below l.toArray (at_ t.mask h n)
  .rw[if_pos g1] at hi hj;obtain⟨m,h1,h2⟩:=L.met i j h' hi hj;exact⟨m,h1,λk hk=>lT.mpr (.inr (h2 k hk))⟩
  .rw[if_neg g1] at hi hj;by_cases g2:i=below l.toArray (at_ t.mask h n)
   .rw[if_pos g2] at hi hj;cases hi;cases hj;exact⟨n,rfl,λk hk'=>lT.mpr (.inr (hk k hk'))⟩
   .rw[if_neg g2] at hi hj;obtain⟨m,h1,h2⟩:=L.met (i-1) j h' hi hj;exact⟨m,h1,λk hk=>lT.mpr (.inr (h2 k hk))⟩
def Lain.plain{t:Uz}{hs:List Int}(L:Lain t l hs)(b:Bool):Lain {t with plain:=b} l hs:=⟨L.full,L.place,L.nodum,L.size,L.srt,L.le,L.fill,L.met⟩
def Lain.fresh(f m:Nat)(b:Bool):Lain (.fresh f m b) [] []:=⟨RU,rfl,rfl,rfl,Zbd,λj h=>absurd h (by simp),T1 _,λi j h hi=>absurd hi (by simp)⟩
def yk(m:Nat):∀(k:Nat) (p:Probe),k<=p.more->(cy m k p).j=p.j+k/\(cy m k p).more=p.more-k/\(cy m k p).i=p.i/\(cy m k p).perturb=p.perturb
 |0,p,_=>⟨rfl,rfl,rfl,rfl⟩
 |k+1,p,h=>by
  rw[cy,fR ∅];obtain⟨h1,h2,h3,h4⟩:=yk m k {p with j:=p.j+1,more:=p.more-1} (by show k<=p.more-1;lia);refine⟨h1.trans ?_,h2.trans ?_,h3,h4⟩
  .show p.j+1+k=p.j+(k+1);lia
  .show p.more-1-k=p.more-(k+1);lia
def Fv(m:Nat)(owner:Array (Option Nat))(ho:owner.size=m+1):∀(fuel:Nat) (p:Probe),p.j=p.i->p.more=runEnd m p.i-p.i->p.j+p.more<=m ->
  (∃a,a<fuel/\owner[(jg m a (p.i,p.perturb)).1]?=some none) ->
  ∃n,layClean.free m owner fuel p.i p.perturb=some (cy m n p).j/\owner[(cy m n p).j]?=some none/\∀k,k<n->∃w,owner[(cy m k p).j]?=some (some w)
 |0,_,_,_,_,⟨_,h,_⟩=>absurd h ∅
 |fuel+1,p,hj,hmore,hle,⟨a,ha,hf⟩=>by
  have hlen:runEnd m p.i+1-p.i=p.more+1:=by rw[hmore];unfold runEnd;split <;> lia
  unfold layClean.free;rw[hlen]
  have hget:∀k,k<=p.more->∃w,owner[(cy m k p).j]?=some w/\owner.getD (p.i+k) (some 0)=w:=by
   intro k hk;obtain⟨e1,_⟩:=yk m k p hk;have vt:p.i+k<owner.size:=by rw[ho];lia
   refine⟨owner[p.i+k],?_,?_⟩
   .rw[e1,hj];exact UQ vt
   .simp[YJ,vt]
  cases hfd:(TC (p.more+1)).find? (λk=>(owner.getD (p.i+k) (some 0)).isNone) with
  |some k =>
   rw[List.find?_range_eq_some] at hfd;obtain⟨h1,h2,h3⟩:=hfd;have hk:k<=p.more:=by have:=Uu.mp h2;lia
   refine⟨k,?_,?_,?_⟩
   .obtain⟨e1,_⟩:=yk m k p hk;show some (p.i+k)=_;rw[e1,hj]
   .obtain⟨w,g1,g2⟩:=hget k hk;rw[g1];rw[g2] at h1;cases w with
    |none=>rfl
    |some w=>cases h1
   .intro k' hk';obtain⟨w,g1,g2⟩:=hget k' ∅
    have:=h3 k' hk'
    rw[g2] at this;cases w with
    |none=>simp at this
    |some w=>exact⟨w,g1⟩
  |none =>
   rw[List.find?_eq_none] at hfd
   have hall:∀k,k<=p.more->∃w,owner[(cy m k p).j]?=some (some w):=by
    intro k hk;obtain⟨w,g1,g2⟩:=hget k hk
    have:=hfd k (Uu.mpr ∅)
    rw[g2] at this;cases w with
    |none=>simp at this
    |some w=>exact⟨w,g1⟩
   have hq:∃q,cy m (p.more+1) p=q/\q.i=(lp m (p.i,p.perturb)).1/\q.perturb=(lp m (p.i,p.perturb)).2/\q.j=q.i/\q.more=runEnd m q.i-q.i/\q.j+q.more<=m:=by
    obtain⟨e1,e2,e3,e4⟩:=yk m p.more p (SR _);refine⟨_,rfl,?_⟩;rw[Go,cr ∅,e3,e4];refine⟨rfl,rfl,rfl,rfl,?_⟩;have hl:(lp m (p.i,p.perturb)).1<m+1:=ZJ _ (Xl _);show(lp m (p.i,p.perturb)).1+(runEnd m (lp m (p.i,p.perturb)).1-(lp m (p.i,p.perturb)).1)<=m;unfold runEnd;split <;> lia
   obtain⟨q,hq0,hq1,hq2,hq3,hq4,hq5⟩:=hq
   have hne:a≠0:=by
    intro e;subst e;obtain⟨w,hw⟩:=hall 0 (T1 _);have e2:(cy m 0 p).j=(jg m 0 (p.i,p.perturb)).1:=hj;rw[e2,hf] at hw;cases hw
   obtain⟨a',rfl⟩:∃a',a=a'+1:=⟨a-1,∅⟩
   obtain⟨n,g1,g2,g3⟩:=Fv m owner ho fuel q hq3 hq4 hq5 ⟨a',∅,by rw[hq1,hq2];exact hf⟩;refine⟨p.more+1+n,?_,?_,?_⟩
   .rw[dJ,hq0,<- g1,hq1,hq2];rfl
   .rw[dJ,hq0];exact g2
   .intro k hk;by_cases g:k<=p.more
    .exact hall k g
    .obtain⟨w,hw⟩:=g3 (k-(p.more+1)) ∅;refine⟨w,?_⟩;rw[<- hw,<- hq0,<- dJ,show p.more+1+(k-(p.more+1))=k by lia]
structure Own (m:Nat) (H:List Int) (owner:Array (Option Nat)) (k:Nat):Prop where
 size:owner.size=m+1
 met:∀(j w:Nat),owner[j]?=some (some w)->w<k/\∃h,H[w]?=some h/\∃n,at_ m h n=j/\∀k',k'<n->∃w',owner[at_ m h k']?=some (some w')
 all:∀w,w<k->∃j:Nat,owner[j]?=some (some w)
 cnt:owner.toList.countP ZaI=k
def Own.zero(m:Nat)(H:List Int):Own m H (Array.replicate (m+1) none) 0:=by
 refine⟨by simp,?_,λw hw=>absurd hw ∅,?_⟩
 .intro j w h;rw[Array.getElem?_replicate] at h;split at h <;> simp at h
 .simp[List.countP_replicate]
def Own.free(O:Own m H owner k)(hk:k<m+1):∃j,j<m+1/\owner[j]?=some none:=by
 by_cases hx:∃j,j<m+1/\owner[j]?=some none
 .exact hx
 .exfalso
  have hall:∀x∈owner.toList,ZaI x=true:=by
   intro x hx';obtain⟨j,hj,e⟩:=VO.mp hx';cases x with
   |some w=>rfl
   |none =>
    have hj':j<owner.size:=by simpa using hj
    exact absurd ⟨j,by rw[<- O.size];exact hj',by rw[UQ hj'];simpa using e⟩ hx
  have h1:=List.countP_eq_length.mpr hall;rw[O.cnt,Uv,O.size] at h1;lia
def Own.step{m:Nat}(F:uU m){H:List Int}{owner:Array (Option Nat)}{k:Nat}(O:Own m H owner k)(hk:k<m+1){h:Int}(hh:H[k]?=some h) :
  ∃j,layClean.free m owner (turns m) (bits h % (m+1)) (bits h)=some j/\Own m H (owner.setIfInBounds j (some k)) (k+1):=by
 obtain⟨j,hj,hf⟩:=O.free hk;obtain⟨c,hc,ec⟩:=F (jg m 13 ((st m h).i,(st m h).perturb)).1 (EB m 12 _) j hj
 have z:(jg m 13 ((st m h).i,(st m h).perturb)).2=0:=by
  rw[gP];exact X8 (Ts (iR m h) (by decide))
 have e:(jg m (13+c) ((st m h).i,(st m h).perturb)).1=j:=by
  rw[xl];have e2:jg m 13 ((st m h).i,(st m h).perturb)=((jg m 13 ((st m h).i,(st m h).perturb)).1,0):=WS rfl z;rw[e2,qL];exact ec
 obtain⟨n,g1,g2,g3⟩:=Fv m owner O.size (turns m) (st m h) rfl rfl (Nc m h) ⟨13+c,by unfold turns;lia,by rw[e];exact hf⟩;have hb:at_ m h n<owner.size:=by rw[O.size];have:=P1 m h n;lia
 have keep:∀(i w:Nat),owner[i]?=some (some w)->(owner.setIfInBounds (at_ m h n) (some k))[i]?=some (some w):=by
  intro i w hi;rw[WX];split
  .rename_i e2;subst e2;exact absurd (hi.symm.trans g2) (by simp)
  .exact hi
 have new:(owner.setIfInBounds (at_ m h n) (some k))[at_ m h n]?=some (some k):=by rw[WX];simp[hb]
 refine⟨at_ m h n,g1,by simp[O.size],?_,?_,?_⟩
 .intro i w hi;rw[WX] at hi;split at hi
  .rename_i e2;subst e2;cases hi;exact⟨∅,h,hh,n,rfl,λk' hk'=>(g3 k' hk').elim λw' hw'=>⟨w',keep _ _ hw'⟩⟩
  .obtain⟨h1,h',h2,n',h3,h4⟩:=O.met i w hi;exact⟨∅,h',h2,n',h3,λk' hk'=>(h4 k' hk').elim λw' hw'=>⟨w',keep _ _ hw'⟩⟩
 .intro w hw;by_cases g:w=k
  .exact⟨at_ m h n,by rw[g];exact new⟩
  .obtain⟨i,hi⟩:=O.all w ∅;exact⟨i,keep i w hi⟩
 .rw[Array.toList_setIfInBounds,List.countP_set (by simpa using hb),O.cnt]
  have e3:owner.toList[at_ m h n]'(by simpa using hb)=none:=by
   have:=(UQ hb).symm.trans g2
   simpa using this
  rw[e3];simp
def Own.fold{m:Nat}(F:uU m){H:List Int}:∀(rest:List Int) (owner:Array (Option Nat)) (k:Nat),Own m H owner k->H.drop k=rest->Wi H<=m+1->k<=(Wi H) ->
  ∃owner',rest.foldl (λ(acc:Option (Array (Option Nat)×Nat)) h=>do
   let (owner,k) <- acc
   let j <- layClean.free m owner (turns m) (bits h % (m+1)) (bits h)
   pure (owner.setIfInBounds j (some k),k+1)) (some (owner,k))=some (owner',Wi H)/\Own m H owner' (Wi H)
 |[],owner,k,O,hd,_,hk=>by
  have:Wi H<=k:=by simpa using hd
  have e:k=Wi H:=by lia
  subst e;exact⟨owner,rfl,O⟩
 |h :: rest,owner,k,O,hd,hl,hk=>by
  have hh:H[k]?=some h:=by
   have:=congrArg (·[0]?) hd
   simpa using this
  have vt:k<Wi H:=(SL.mp hh).1;obtain⟨j,e1,O2⟩:=O.step F ∅ hh;obtain⟨owner',e2,O3⟩:=Own.fold F rest _ (k+1) O2 (by rw[<- Zcb,hd];rfl) hl ∅;refine⟨owner',?_,O3⟩;rw[ZbU,<- e2];congr 1;show(layClean.free m owner (turns m) (bits h % (m+1)) (bits h)).bind _=_;rw[e1];rfl
def EH(F:uU m)(H:List Int)(hl:Wi H<=m)(f mv:Nat)(led plain:Bool) :
  ∃(t:Uz) (l ws:List Nat),Zck m f mv led plain H.toArray=some (t,ws.toArray)/\Lain t l (ws.map (H.getD · 0))/\(∀w∈ws,w<Wi H)/\(∀w,w<Wi H->w∈ws)/\ws.length=H.length/\t.mask=m/\t.led=led/\t.plain=plain:=by
 obtain⟨owner,e,O⟩:=Own.fold F H _ 0 (Own.zero m H) rfl ∅ (T1 _)
 have ec:layClean m H.toArray=some owner:=by
  unfold layClean;rw[<- Array.foldl_toList];show Option.map _ (ZaW _ _ H)=_;exact(congrArg (Option.map (·.1)) e).trans rfl
 let live:=(TC (m+1)).filterMap λj=>(owner.getD j none).map (j,·)
 have gd:∀(j w:Nat),owner.getD j none=some w↔owner[j]?=some (some w):=by
  intro j w;by_cases hj:j<owner.size
  .rw[UQ hj];simp[YJ,hj]
  .rw[XT ∅];simp[YJ,hj]
 have hmem:∀(j w:Nat),(j,w)∈live↔owner[j]?=some (some w):=by
  intro j w;show(j,w)∈(TC (m+1)).filterMap _↔_;rw[V6];constructor
  .rintro⟨j',_,h2⟩;obtain⟨w',h3,h4⟩:=SU.mp h2;cases h4;exact(gd _ _).mp h3
  .intro h;refine⟨j,Uu.mpr ?_,by rw[(gd j w).mpr h];rfl⟩
   have:=(UX.mp h).1
   rw[O.size] at this;exact this
 have hsrt:Bm (live.map (·.1)):=by
  unfold Bm;rw[Y4];refine Y_.filterMap _ ?_ XW;intro a a' haa b hb b' hb';obtain⟨_,_,h3⟩:=SU.mp hb;obtain⟨_,_,h4⟩:=SU.mp hb';rw[<- h3,<- h4];exact haa
 have hlen:live.length=H.length:=by
  have gen:∀(xs:List Nat),(xs.filterMap λj=>(owner.getD j none).map (j,·)).length=(xs.map λj=>owner.getD j none).countP ZaI:=by
   intro xs
   induction xs with
   |nil=>rfl
   |cons x xs ih =>
    rw[Vx,TN,List.countP_cons];cases owner.getD x none with
    |none=>simpa using ih
    |some w=>simpa using ih
  have el:(TC (m+1)).map (λj=>owner.getD j none)=owner.toList:=by
   apply W1;intro i;by_cases hi:i<m+1
   .have hi':i<owner.size:=by rw[O.size];exact hi
    rw[SO,TR hi];simp[YJ,hi']
   .rw[TL (by simp;lia),TL (by simp[O.size];lia)]
  show((TC (m+1)).filterMap _).length=_;rw[gen,el,O.cnt]
 refine⟨{mask:=m,place:=(live.map (·.1)).toArray,dummies:=#[],finger:=f,led:=led,moves:=mv,plain:=plain},live.map (·.1),live.map (·.2),?_,?_,?_,?_,?_,rfl,rfl,rfl⟩
 .unfold Zck;rw[ec];rfl
 .refine⟨F,rfl,rfl,by simp,hsrt,?_,?_,?_⟩
  .intro j hj;obtain⟨⟨j',w⟩,h1,h2⟩:=Te.mp hj;cases h2
   have:=(UX.mp ((hmem _ _).mp h1)).1
   rw[O.size] at this;show j'<=m;lia
  .show(live.map (·.1)).length<=m;rw[SJ,hlen];exact hl
  .intro i j h hi hj;rw[SO] at hi;rw[UV,SO] at hj;cases hx:live[i]? with
   |none=>rw[hx] at hi;cases hi
   |some x =>
    rw[hx] at hi hj;obtain⟨j',w⟩:=x;cases hi;obtain⟨h1,h',h2,n,h3,h4⟩:=O.met j' w ((hmem _ _).mp (SM hx))
    have eh:h=h':=by
     have e5:H.getD w 0=h:=by simpa using hj
     rw[SK,h2] at e5;exact e5.symm
    subst eh;refine⟨n,h3,λk hk=>?_⟩;obtain⟨w',hw'⟩:=h4 k hk;exact Te.mpr ⟨(_,w'),(hmem _ _).mpr hw',rfl⟩
 .intro w hw;obtain⟨⟨j',w'⟩,h1,h2⟩:=Te.mp hw;cases h2;exact(O.met j' w' ((hmem _ _).mp h1)).1
 .intro w hw;obtain⟨j,hj⟩:=O.all w hw;exact Te.mpr ⟨(j,w),(hmem _ _).mpr hj,rfl⟩
 .rw[SJ,hlen]
open PySem PySem.Spec PyProof.Rows
mutual
abbrev iu:Nat->Za->Bool
 |_,.int _=>true
 |_,.str _=>true
 |0,.tuple _=>false
 |n+1,.tuple xs=>jh n xs
 |_,_=>false
abbrev jh:Nat->List Za->Bool
 |_,[]=>true
 |n,x :: xs=>iu n x && jh n xs
end
mutual
abbrev bD(w:Uk):Za->Int
 |.int i=>hashInt i
 |.str x=>hashStr w x
 |.tuple xs=>reduceHash (YS (ut w xs))
 |_=>0
abbrev ut(w:Uk):List Za->List Int
 |[]=>[]
 |x :: xs=>bD w x :: ut w xs
end
section
variable{prog:T9}{w:Uk}{E:SW->SZ->Prop}
mutual
def Fk:∀(n:Nat) (d:Za) (v:SW) (A:Ud) (s:SZ) (Q:Int->SZ->Prop) (as:List Addr),iu n d=true->Wk s.heap v d as->A.units+n<cLine->(∀tk,Q (bD w d) {s with toks:=tk})->wpAny (model prog w) A (pyHash v) Q E s
 |n,.int i,v,A,s,Q,as,_,r,hu,h=>by
  cases r;exact wpAny_pyHash_int (by rw[bD] at h;exact h _)
 |n,.str y,v,A,s,Q,as,_,r,hu,h=>by
  cases r;exact wpAny_pyHash_str (by rw[bD] at h;exact h _)
 |n+1,.tuple xs,v,A,s,Q,as,hk,r,hu,h=>by
  cases r with
  |@tuple a o vs m _ _ ho hc hd ra =>
   refine PySem.W.pyHash_slot (T:="tuple") ⟨_,ho,hc⟩ Zbl F.entry_tuple_hash (F.args_tuple_hash_1 _) (beq_builtin_none _) (.inr ∅) ?_;refine SQ (m:=YF (.ref a)) (wpAny_tupleItemsOf ho hd (SQ ?_));rw[<- XC];refine yW n xs vs.toList A.in1 s #[] _ _ (by rw[iu] at hk;exact hk) ra (by rw[Ud.in1_units];lia) λtk b hb=>?_
   refine(show wpAny _ _ (retInt (YS b.toList)) _ _ _ from ?_);rw[hb];rw[bD] at h;exact SQ (wpAny_mkInt (Td ⟨_,_,rfl,h _⟩))
 |0,.tuple xs,v,A,s,Q,as,hk,r,hu,h=>by rw[iu] at hk;cases hk
 |n,.none,v,A,s,Q,as,hk,r,hu,h=>by simp[iu] at hk
 |n,.bool _,v,A,s,Q,as,hk,r,hu,h=>by simp[iu] at hk
 |n,.list _,v,A,s,Q,as,hk,r,hu,h=>by simp[iu] at hk
 |n,.dict _,v,A,s,Q,as,hk,r,hu,h=>by simp[iu] at hk
def yW:∀(n:Nat) (ds:List Za) (vs:List SW) (A:Ud) (s:SZ) (b:Array Int) (Q:Array Int->SZ->Prop) (as:List Addr),jh n ds=true->Zad s.heap vs ds as->A.units+n<cLine ->
  (∀tk b',b'.toList=b.toList++ut w ds->Q b' {s with toks:=tk})->wpAny (model prog w) A (forIn vs b λx r=>do let h <- pyHash x;pure PUnit.unit;pure (Xx (r.push h))) Q E s
 |n,[],_,A,s,b,Q,_,_,.nil,_,h=>Td (h s.toks b (by rw[ut,WT]))
 |n,d :: ds,_,A,s,b,Q,_,hk,.cons r rr,hu,h=>by
  rw[jh,U5] at hk;rw[ZU];refine SQ (SQ (Fk n d _ A s _ _ hk.1 r hu λtk=>?_));refine SQ (Td (Td ?_));exact yW n ds _ A _ _ Q _ hk.2 rr hu λtk' b' hb=>h tk' b' (by rw[hb,ut];simp)
end
end
section
variable{prog:T9}{w:Uk}{A:Ud}{E:SW->SZ->Prop}
def oF(hk:iu n d=true) (r:Wk h v d as):carriedByValue v=true\/∃a o vs m xs k,v=.ref a/\n=k+1/\d=.tuple xs/\h.get? a=some o/\o.cls=.type "tuple"/\o.data=.seq vs m/\Zad h vs.toList xs as/\jh k xs=true:=by
 cases r with
 |int i t=>exact .inl rfl
 |str x t=>exact .inl rfl
 |none=>exact .inl rfl
 |bool b=>exact .inl rfl
 |tuple ho hc hd ra =>
  cases n with
  |zero=>rw[iu] at hk;cases hk
  |succ k=>exact .inr ⟨_,_,_,_,_,k,rfl,rfl,rfl,ho,hc,hd,ra,by rw[iu] at hk;exact hk⟩
 |list ho hc hd ra=>exfalso;cases n <;> simp[iu] at hk
 |dict ho hc hd ra rb=>exfalso;cases n <;> simp[iu] at hk
inductive xQ (p:SW->Prop):List SW->Prop
 |nil:xQ p []
 |cons {v:SW} {vs:List SW}:p v->xQ p vs->xQ p (v :: vs)
def qt{h:Heap}{n:Nat}:∀{vs:List SW} {ds:List Za} {as:List Addr},Zad h vs ds as->jh n ds=true->xQ (λv=>∃d bs,iu n d=true/\Wk h v d bs) vs
 |_,_,_,.nil,_=>.nil
 |_,_,_,.cons r rr,hk=>by
  rw[jh,U5] at hk;exact .cons ⟨_,_,hk.1,r⟩ (qt rr hk.2)
def yy:∀(n:Nat) {d:Za} {v:SW} {s:SZ} {Q:Bool->SZ->Prop} {as:List Addr},iu n d=true->Wk s.heap v d as->Q true s->wpAny (model prog w) A (eqIsQuiet n v) Q E s:=by
 intro n
 induction n with
 |zero =>
  intro d v s Q as hk r q;rcases oF hk r with hv|⟨_,_,_,_,_,k,_,e,_⟩
  .rw[eqIsQuiet_byValue _ hv];exact Td q
  .cases e
 |succ n ih =>
  intro d v s Q as hk r q;rcases oF hk r with hv|⟨a,o,vs,m,xs,k,rfl,e,rfl,ho,hc,hd,ra,hks⟩
  .rw[eqIsQuiet_byValue _ hv];exact Td q
  .cases e;have ty:s.TypeIs (.ref a) "tuple":=⟨o,ho,hc⟩
   unfold eqIsQuiet;refine SQ (wpAny_specialOf ty F.slot_tuple_eq.lookup ?_);refine(show wpAny _ _ (isInstance (.ref a) (.type "tuple") >>= _) _ _ s from SQ (X7 ty isSubtype_tuple_tuple ?_));simp only[WY,TZ,if_false];refine SQ (VN ho hd (SQ ?_));rw[Zv,<- XC];refine WD _ (λrest z s'=>z.1=none/\s'=s/\xQ (λv=>∃d bs,iu n d=true/\Wk s.heap v d bs) rest) _ ?_ ?_ _ _ ⟨rfl,rfl,qt ra hks⟩
   .rintro v rest z s' ⟨_,rfl,al⟩;cases al with
    |cons p al =>
     obtain⟨d',bs,p1,p2⟩:=p;refine SQ (ih p1 p2 ?_);simp only[WY,TZ,if_false];exact Td ⟨rfl,rfl,al⟩
   .rintro⟨z1,z2⟩ s' ⟨hz,rfl,_⟩;cases (show z1=none from hz);exact Td q
def mH(n:Nat)(h:carriedByValue v=true):∃b,hashByValue n v=pure b:=by
 cases v with
 |ref a=>cases h
 |_=>exact⟨_,by cases n <;> (unfold hashByValue;rfl)⟩
def Pl:∀(n m:Nat) {d:Za} {v:SW} {s:SZ} {Q:Bool->SZ->Prop} {as:List Addr},iu n d=true->n<=m->Wk s.heap v d as->(∀b,Q b s)->wpAny (model prog w) A (hashByValue m v) Q E s:=by
 intro n
 induction n with
 |zero =>
  intro m d v s Q as hk _ r q;rcases oF hk r with hv|⟨_,_,_,_,_,k,_,e,_⟩
  .obtain⟨b,e⟩:=mH m hv;rw[e];exact Td (q b)
  .cases e
 |succ n ih =>
  intro m d v s Q as hk hm r q;rcases oF hk r with hv|⟨a,o,vs,m',xs,k,rfl,e,rfl,ho,hc,hd,ra,hks⟩
  .obtain⟨b,e⟩:=mH m hv;rw[e];exact Td (q b)
  .cases e;obtain⟨m,rfl⟩:∃k,m=k+1:=⟨m-1,∅⟩
   have ty:s.TypeIs (.ref a) "tuple":=⟨o,ho,hc⟩
   unfold hashByValue;refine SQ (wpAny_specialOf ty Zbl.lookup ?_);refine(show wpAny _ _ (seqItems? (.ref a) >>= _) _ _ s from SQ (VN ho hd (SQ ?_)));rw[Zv,<- XC];refine WD _ (λrest z s'=>z.1=none/\s'=s/\xQ (λv=>∃d bs,iu n d=true/\Wk s.heap v d bs) rest) _ ?_ ?_ _ _ ⟨rfl,rfl,qt ra hks⟩
   .rintro v rest z s' ⟨_,rfl,al⟩;cases al with
    |cons p al =>
     obtain⟨d',bs,p1,p2⟩:=p;refine SQ (ih m p1 ∅ p2 λb=>?_);cases b with
     |true =>
      simp only[WY,TZ,if_false];exact Td ⟨rfl,rfl,al⟩
     |false =>
      simp only[Zak,if_true];exact Td (Td (q _))
   .rintro⟨z1,z2⟩ s' ⟨hz,rfl,_⟩;cases (show z1=none from hz);exact Td (q _)
def lK(n:Nat)(h:carriedByValue v=true):ofAClassStatement n v=pure false:=by
 cases v with
 |ref a=>cases h
 |_=>unfold ofAClassStatement;rfl
def JC:∀(n:Nat) {d:Za} {v:SW} {s:SZ} {Q:Bool->SZ->Prop} {as:List Addr},iu n d=true->Wk s.heap v d as->Q false s->wpAny (model prog w) A (ofAClassStatement n v) Q E s:=by
 intro n
 induction n with
 |zero =>
  intro d v s Q as hk r q;rcases oF hk r with hv|⟨_,_,_,_,_,k,_,e,_⟩
  .rw[lK _ hv];exact Td q
  .cases e
 |succ n ih =>
  intro d v s Q as hk r q;rcases oF hk r with hv|⟨a,o,vs,m,xs,k,rfl,e,rfl,ho,hc,hd,ra,hks⟩
  .rw[lK _ hv];exact Td q
  .cases e;have ty:s.TypeIs (.ref a) "tuple":=⟨o,ho,hc⟩
   unfold ofAClassStatement;refine SQ (wpAny_typeOf ty ?_);dsimp only;rw[if_pos (by decide)];refine SQ (Td ?_);simp only[WY,TZ,if_false];refine SQ (VN ho hd (SQ ?_));rw[<- XC];refine WD _ (λrest z s'=>z.1=none/\s'=s/\xQ (λv=>∃d bs,iu n d=true/\Wk s.heap v d bs) rest) _ ?_ ?_ _ _ ⟨rfl,rfl,qt ra hks⟩
   .rintro v rest z s' ⟨_,rfl,al⟩;cases al with
    |cons p al =>
     obtain⟨d',bs,p1,p2⟩:=p;refine SQ (ih p1 p2 ?_);simp only[TZ,if_false];exact Td ⟨rfl,rfl,al⟩
   .rintro⟨z1,z2⟩ s' ⟨hz,rfl,_⟩;cases (show z1=none from hz);exact Td q
def seen_rd{s:SZ}  {Q:Bool->SZ->Prop} (hx:iu 8 dx=true) (rx:Wk s.heap x dx as) {ys:List SW} (hy : ∀ y∈ys, ∃ d bs, iu 8 d=true/\Wk s.heap y d bs) (q:Q false s):wpAny (model prog w) A (searchCouldBeSeen x ys) Q E s := by
  unfold searchCouldBeSeen;refine SQ (WD _ (λrest z s' => z.1=none/\s'=s /\ ∀ y∈rest, ∃ d bs, iu 8 d=true/\Wk s.heap y d bs) _ ?_ ?_ _ _ ⟨rfl, rfl, hy⟩)
  · rintro y rest z s' ⟨_, rfl, al⟩
    obtain⟨d', bs, p1, p2⟩ := al y Tb;have al' : ∀ y∈rest, ∃ d bs, iu 8 d=true/\Wk s'.heap y d bs := λu hu => al u (S_ _ hu)
    dsimp only;split
    all_goals split
    all_goals first
      |exact Td ⟨rfl, rfl, al'⟩
      | (refine SQ (yy 8 hx rx ?_); simp only[WY, TZ, if_false]
         refine SQ (yy 8 p1 p2 ?_); simp only[WY, TZ, if_false]
         refine SQ (JC 8 hx rx ?_); simp only[TZ, if_false]
         refine SQ (JC 8 p1 p2 ?_); simp only[TZ, if_false]
         exact Td ⟨rfl, rfl, al'⟩)
  · rintro⟨z1, z2⟩ s' ⟨hz, rfl, _⟩
    cases (show z1=none from hz);exact Td q
end
open PySem.W (Dat kqdP kqdOk)
def Lain.KC{t:Uz}  {hs:List Int} (L:Lain t l hs) {hashAt:Nat->Int}    {r:Option Uz.Met} (hr:t.probe hashAt h p=r) (hp:p=cy t.mask n0 (st t.mask h)) (ha : ∀ (i:Nat) (h:Int), hs[i]?=some h->hashAt i=h) :
    ∃ n, n0<=n/\(∀ k, n0<=k->k<n -> ∃ i:Nat, l[i]?=some (at_ t.mask h k)/\hs[i]? ≠ some h) /\
      ((at_ t.mask h n ∉ l/\r=some (.empty (at_ t.mask h n) none)) \/
       (∃ i:Nat, l[i]?=some (at_ t.mask h n)/\hs[i]?=some h/\r=some (.candidate (at_ t.mask h n) i (cy t.mask (n + 1) (st t.mask h))))) := by
  subst hp; subst hr;exact L.search hashAt ha h n0
def Lain.fits{t:Uz}{hs:List Int}(L:Lain t l hs){n:Nat}(e:Wi hs=n):t.fits n=true:=by
 have h1:t.place.size=n:=by rw[L.place,<- e,<- L.size];simp
 have h2:t.fill<=t.mask:=by
  unfold ZaJ;rw[L.place,L.nodum]
  have:=L.fill
  simpa using this
 simp[Uz.fits,h1,h2]
abbrev Good(d:Dat):Prop:=kqdOk 8 d=true/\iu 8 (kqdP d)=true/\∃xs,kqdP d=.tuple xs
section
variable{prog:T9}{w:Uk}{A:Ud}{E:SW->SZ->Prop}{s:SZ}
open Classical in
def Px{Q:Bool->SZ->Prop}(gd:Good d)(ge:Good e)(rx:Wk s.heap x (kqdP d) as)(ry:Wk s.heap y (kqdP e) bs)(hu:A.units+16<cLine)(q:Q (decide (d=e)) s):wpAny (model prog w) A (eqBool x y) Q E s:=by
 have l1:=Wh 8 d gd.1;have l2:=Wh 8 e ge.1;refine SeqAt.eqBoolOverData prog w A E s x y _ _ as bs Q rx ry l1.1 l2.1 ?_ (by rw[FB gd.1 ge.1];exact q)
 have:=Nat.min_le_left (kqdP d).depth (kqdP e).depth
 lia
def wA(gd:Good d)(ge:Good e)(rx:Wk h x (kqdP d) as)(ry:Wk h x (kqdP e) bs):d=e:=by
 have q:=(Wk.unique rx _ _ ry).1;exact(ZS 8 d e 8 gd.1 ge.1).mp (by rw[<- q];exact(ZS 8 d d 8 gd.1 gd.1).mpr rfl)
abbrev Mb(w:Uk)(h:Heap)(e:Int×SW)(d:Dat):Prop:=Good d/\(∃as,Wk h e.2 (kqdP d) as)/\e.1=bD w (kqdP d)
open Classical in
def C9{S:Addr}{o:Obj}{d:Dat}{Q:SetFound->SZ->Prop}(ho:s.heap.get? S=some o)(hd:o.data=.set es ep t)
  (L:Lain t l (es.toList.map (·.1))) (hm:∀e∈es.toList,∃d,Mb w s.heap e d) (hg:t.gaveWay=false) (gx:Good d)  (rx:Wk s.heap x (kqdP d) as) (hu:A.units+16<cLine)
  (hE:at_ t.mask (bD w (kqdP d)) nE∉l) (q1:(∃e∈es.toList,Mb w s.heap e d)->Q (.there none) s)
  (q2:∀n,at_ t.mask (bD w (kqdP d)) n∉l->(∀k,k<n->at_ t.mask (bD w (kqdP d)) k∈l)->(∀e∈es.toList,¬ Mb w s.heap e d)->Q (.free (at_ t.mask (bD w (kqdP d)) n) false) s) :
  ∀(k n0 fuel:Nat) (stand:Option Uz.Probe),nE-n0=k->n0<=nE->k<fuel->stand.getD (t.probeStart (bD w (kqdP d)))=cy t.mask n0 (st t.mask (bD w (kqdP d)))->(∀j,j<n0->at_ t.mask (bD w (kqdP d)) j∈l) ->
   (∀(j i:Nat) (e:Int×SW),j<n0->l[i]?=some (at_ t.mask (bD w (kqdP d)) j)->es.toList[i]?=some e->¬ Mb w s.heap e d) ->
   wpAny (model prog w) A (setSearchFrom S x (bD w (kqdP d)) true fuel stand) Q E s:=by
 have hf:t.fits es.size=true:=L.fits (by simp);intro k
 induction k using ZbY with
 |_ k ih =>
 intro n0 fuel stand hk hn hfu hst hin hne;obtain⟨fuel,rfl⟩:∃f,fuel=f+1:=⟨fuel-1,∅⟩
 unfold setSearchFrom;refine SQ (Wm ho hd hf ?_);dsimp only;rw[hg];simp only[TZ,if_false];have go:=λ(f:Nat->Int) (r:Option Uz.Met) (hr:t.probe f (bD w (kqdP d)) (stand.getD (t.probeStart (bD w (kqdP d))))=r)=>L.KC (n0:=n0) hr hst
 split
 .rename_i met hpr
  obtain⟨n,g1,g2,g3⟩:=go _ _ hpr (λi h' e=>by
   show(es[i]?.map (·.1)).getD 0=h'
   rw[SO,UG] at e
   rw[e];rfl)
  have hnE:n<=nE:=by
   rcases Uw nE n with z|z
   .obtain⟨i,z1,_⟩:=g2 nE hn z;exact absurd (SM z1) hE
   .exact z
  have hin':∀j,j<n->at_ t.mask (bD w (kqdP d)) j∈l:=by
   intro j hj;rcases Uw j n0 with z|z
   .exact hin j z
   .obtain⟨i,z1,_⟩:=g2 j z hj;exact SM z1
  have hne':∀(j i:Nat) (e:Int×SW),j<n->l[i]?=some (at_ t.mask (bD w (kqdP d)) j)->es.toList[i]?=some e->¬ Mb w s.heap e d:=by
   intro j i e hj hi he;rcases Uw j n0 with z|z
   .exact hne j i e z hi he
   .obtain⟨i',z1,z2⟩:=g2 j z hj;intro mb
    have hii:i'=i:=by
     rcases Vd i' i with y|y|y
     .have:=Va.mp L.srt i' i (SL.mp z1).1 (SL.mp hi).1 y
      rw[(SL.mp z1).2,(SL.mp hi).2] at this;lia
     .exact y
     .have:=Va.mp L.srt i i' (SL.mp hi).1 (SL.mp z1).1 y
      rw[(SL.mp z1).2,(SL.mp hi).2] at this;lia
    subst hii;exact z2 (by rw[SO,he,<- mb.2.2];rfl)
  rcases g3 with⟨y1,y2⟩|⟨i,y1,y2,y3⟩
  .cases y2;dsimp only;refine Td (q2 n y1 hin' λe he mb=>?_);obtain⟨i,hi⟩:=V_.mp he;obtain⟨j,z1,z2⟩:=L.ahead y1 (i:=i) (by rw[SO,hi,<- mb.2.2];rfl);exact hne' j i e z1 z2 hi mb
  .cases y3;dsimp only
   obtain⟨e,he⟩:∃e,es.toList[i]?=some e:=by
    rw[SO] at y2;cases hq:es.toList[i]? with
    |none=>rw[hq] at y2;cases y2
    |some e=>exact⟨e,rfl⟩
   have hea:es[i]?=some e:=by rw[<- UG];exact he
   obtain⟨de,mb⟩:=hm e (SM he);obtain⟨ge,⟨bs,re⟩,hh⟩:=id mb
   have seen:∀{Q':Bool->SZ->Prop},Q' false s->wpAny (model prog w) A (searchCouldBeSeen x ((es.filter (·.1 == bD w (kqdP d))).toList.map (·.2))) Q' E s:=λ{Q'} q'=>by
    refine seen_rd gx.2.1 rx (λy hy=>?_) q';obtain⟨e',h1,h2⟩:=Te.mp hy
    obtain⟨d',m1,⟨cs,m2⟩,_⟩:=hm e' (by
     have:=W8.mp h1
     exact W8.mpr (Array.mem_filter.mp this).1)
    exact⟨_,cs,m1.2.1,by rw[<- h2];exact m2⟩
   obtain⟨e1,e2⟩:=e
   obtain⟨a,ea⟩:∃a,e2=.ref a:=by
    obtain⟨xs,ex⟩:=ge.2.2;have re':Wk s.heap e2 (kqdP de) bs:=re;rw[ex] at re';cases re' with
    |tuple _ _ _ _=>exact⟨_,rfl⟩
   cases ea;by_cases hl:t.led=true
   all_goals simp only[hl,WY,Zak,TZ,if_false,if_true]
   .skip
    rw[hea];dsimp only;refine SQ (Vi (Px ge gx re rx hu (SQ (Wm ho hd hf ?_))));dsimp only;by_cases hde:de=d
    .rw[decide_eq_true hde];exact Td (q1 ⟨_,SM he,hde ▸ mb⟩)
    .rw[decide_eq_false hde];simp only[YG,TZ,if_false];rw[show t.sameMemory t.moves t.mask=some true by simp[ZaA]];dsimp only;rw[if_pos rfl,fE L.place L.srt y1];dsimp only;rw[hea];dsimp only;refine SQ (Z5 (SQ (Td ?_)));rw[if_pos rfl];dsimp only
     have hnn:n<nE:=by
      rcases Uw n nE with z|z
      .exact z
      .have:n=nE:=by lia
       subst this;exact absurd (SM y1) hE
     refine ih (nE-(n+1)) ∅ (n+1) fuel _ rfl hnn ∅ rfl ?_ ?_
     .intro j hj;rcases Uw j n with z|z
      .exact hin' j z
      .have:j=n:=by lia
       subst this;exact SM y1
     .intro j i' e' hj hi he' mb';rcases Uw j n with z|z
      .exact hne' j i' e' z hi he' mb'
      .have:j=n:=by lia
       subst this;have hii:i'=i:=by have a1:=fQ L.srt hi;have a2:=fQ L.srt y1;lia
       subst hii;rw[he] at he';cases he';obtain⟨_,⟨cs,c2⟩,_⟩:=mb';exact hde (wA ge gx re c2)
   .refine SQ (seen ?_);simp only[TZ,if_false];rw[hea];dsimp only;refine SQ (Vi (Px ge gx re rx hu (SQ (Wm ho hd hf ?_))));dsimp only;by_cases hde:de=d
    .rw[decide_eq_true hde];exact Td (q1 ⟨_,SM he,hde ▸ mb⟩)
    .rw[decide_eq_false hde];simp only[YG,TZ,if_false];rw[show t.sameMemory t.moves t.mask=some true by simp[ZaA]];dsimp only;rw[if_pos rfl,fE L.place L.srt y1];dsimp only;rw[hea];dsimp only;refine SQ (Z5 (SQ (Td ?_)));rw[if_pos rfl];dsimp only
     have hnn:n<nE:=by
      rcases Uw n nE with z|z
      .exact z
      .have:n=nE:=by lia
       subst this;exact absurd (SM y1) hE
     refine ih (nE-(n+1)) ∅ (n+1) fuel _ rfl hnn ∅ rfl ?_ ?_
     .intro j hj;rcases Uw j n with z|z
      .exact hin' j z
      .have:j=n:=by lia
       subst this;exact SM y1
     .intro j i' e' hj hi he' mb';rcases Uw j n with z|z
      .exact hne' j i' e' z hi he' mb'
      .have:j=n:=by lia
       subst this;have hii:i'=i:=by have a1:=fQ L.srt hi;have a2:=fQ L.srt y1;lia
       subst hii;rw[he] at he';cases he';obtain⟨_,⟨cs,c2⟩,_⟩:=mb';exact hde (wA ge gx re c2)
 .rename_i hpr;exfalso;cases hq:t.probe (λi=>(es[i]?.map (·.1)).getD 0) (bD w (kqdP d)) (stand.getD (t.probeStart (bD w (kqdP d)))) with
  |some met=>exact hpr met hq
  |none =>
   obtain⟨n,_,_,g3⟩:=go _ _ hq (λi h' e=>by
    rw[SO,UG] at e
    show(es[i]?.map (·.1)).getD 0=h';rw[e];rfl)
   rcases g3 with⟨_,y⟩|⟨_,_,_,y⟩ <;> cases y
end
open PySem.W (Dat kqdP kqdOk)
open Classical in
abbrev mF:List Dat->Nat
 |[]=>0
 |d :: ds=>mF ds+if d∈ds then 0 else 1
abbrev cnt (ds:List Dat):Nat:=mF ds.reverse
open Classical in
def rB(ds:List Dat)(d:Dat):cnt (ds++[d])=cnt ds+if d∈ds then 0 else 1:=by
 unfold cnt;rw[List.reverse_append];show mF (d :: ds.reverse)=_;rw[mF];simp
def xE:∀ds:List Dat,mF ds<=Wi ds
 |[]=>SR _
 |d :: ds=>by
  have:=xE ds
  rw[mF,Ux];split <;> lia
def J1(ds:List Dat):cnt ds<=Wi ds:=by have:=xE ds.reverse;simpa[cnt] using this
def oM:∀ds:List Dat,mF ds=(Wi ds)↔ds.Nodup
 |[]=>by simp[mF]
 |d :: ds=>by
  have h1:=xE ds;have h2:=oM ds;rw[mF,Ux,Um];split
  .rename_i h;constructor
   .intro e;lia
   .intro e;exact absurd h e.1
  .rename_i h;rw[<- h2];constructor
   .intro e;exact⟨h,∅⟩
   .intro e;lia
def uE(ds:List Dat):cnt ds=(Wi ds)↔ds.Nodup:=by
 have:=oM ds.reverse
 rw[List.length_reverse,(List.reverse_perm ds).nodup_iff] at this;exact this
abbrev P_(t:Uz)(n:Nat):Prop:=(t.mask=7/\n<=4)\/(t.mask=31/\n<=18)
abbrev MJ(w:Uk)(h0:Heap)(S:Addr)(ds:List Dat)(h:Heap):Prop:=(∀b o,h0.get? b=some o->h.get? b=some o)/\h0.get? S=none/\∃o es ep t l,h.get? S=some o/\o.ExactSet/\o.data=.set es ep t/\Lain t l (es.toList.map (·.1))/\P_ t l.length /\
 (∀e∈es.toList,∃d∈ds,Mb w h0 e d)/\(∀d∈ds,∃e∈es.toList,Mb w h0 e d)/\es.size=cnt ds
def Mb.at{h':Heap}(m:Mb w h e d)(k:∀b o,h.get? b=some o->h'.get? b=some o):Mb w h' e d:=by
 obtain⟨g,⟨as,r⟩,x⟩:=m;exact⟨g,⟨as,Zal k r⟩,x⟩
def Mb.uniq(m:Mb w h e d)(m':Mb w h e d'):d=d':=by
 obtain⟨g,⟨as,r⟩,_⟩:=m;obtain⟨g',⟨as',r'⟩,_⟩:=m';exact wA g g' r r'
section
variable{prog:T9}{w:Uk}{A:Ud}{E:SW->SZ->Prop}{s:SZ}
def G_{S:Addr}{o:Obj}{n:Nat}{Q:Unit->SZ->Prop}(ho:s.heap.get? S=some o)(hd:o.data=.set es ep t)(L:Lain t l (es.toList.map (·.1)))(hn:n=20)(he:es.size<=18)
  (q:∀es' t' l',Lain t' l' (es'.toList.map (·.1))->t'.mask=31->es'.size=es.size->(∀e,e∈es'.toList↔e∈es.toList)->Q () {s with heap:=s.heap.update S (ZK es' t')}) :
  wpAny (model prog w) A (setRelay S n) Q E s:=by
 have hf:t.fits es.size=true:=L.fits (by simp);unfold setRelay;refine SQ (Wm ho hd hf ?_);dsimp only;subst hn;rw[if_neg (by rw[VJ];decide)];obtain⟨t',l',ws,e1,L',w1,w2,w3,e2,_,_⟩:=EH Pp (es.toList.map (·.1)) (by simp;lia) t.finger (t.movedTo 31) t.led t.plain
 have e3:t.relaid (es.map (·.1)) 20=some (t',ws.toArray):=by
  unfold Uz.relaid;rw[show Uz.sizeAbove 20-1=31 by decide,<- e1];congr 1;apply Array.ext';simp
 rw[e3];have ef:(ws.toArray.filterMap (es[·]?)).toList=ws.filterMap (es.toList[·]?):=by simp
 have len:(ws.filterMap (es.toList[·]?)).length=ws.length:=by
  clear e1 L' w2 w3 e3 ef
  induction ws with
  |nil=>rfl
  |cons v ws ih =>
   have hv:=w1 v Tb;rw[SJ] at hv;rw[Vx,SN hv];simp only[Ux];rw[ih λu hu=>w1 u (S_ _ hu)]
 have maps:(ws.filterMap (es.toList[·]?)).map (·.1)=ws.map ((es.toList.map (·.1)).getD · 0):=by
  clear e1 L' w2 w3 e3 ef len
  induction ws with
  |nil=>rfl
  |cons v ws ih =>
   have hv:=w1 v Tb;rw[SJ] at hv;rw[Vx,SN hv];simp only[TN];rw[ih λu hu=>w1 u (S_ _ hu)];congr 1;rw[SK,SO,SN hv];rfl
 have sz:(ws.toArray.filterMap (es[·]?)).size=es.size:=by
  rw[<- Uv,ef,len,w3];simp
 refine SQ ?_;show wpAny _ _ (if ((ws.toArray.filterMap (es[·]?)).size != es.size)=true then _ else pure (ws.toArray.filterMap (es[·]?),t')) _ _ _;rw[if_neg (by rw[sz];simp)];refine Td ?_;refine wpAny_storeSet_of ho hd ?_ (by rw[sz,VJ];lia);refine q _ t' l' (by rw[ef,maps];exact L') e2 sz λe=>?_
 rw[ef,V6];constructor
 .rintro⟨v,_,h2⟩;exact SM h2
 .intro h;obtain⟨v,hv⟩:=V_.mp h;refine⟨v,w2 v ?_,hv⟩;rw[SJ];exact(SL.mp hv).1
def Jv{h:Heap}{S:Addr}{o:Obj}(es':Array (Int×SW))(t':Uz)(e:h.get? S=some o)(hd:o.data=.set es ep t)(x:o.ExactSet) :
  ∃o',(h.update S (ZK es' t')).get? S=some o'/\o'.ExactSet/\o'.data=.set es' (ep+1) t':=by
 have z:ZK es' t' o = {o with data:=.set es' (ep+1) t'}:=putSet_of es' t' hd;refine⟨_,VE (ZK es' t') e (by rw[z];rfl),?_,by rw[z]⟩;rw[z];exact x
open Classical in
def P4{Q:Bool->SZ->Prop}(Z:MJ w h0 S ds s.heap)(gx:Good d)(rx:Wk h0 x (kqdP d) as)(hu:A.units+16<cLine)(hn:Wi ds<18)
  (q:∀b h' tk,MJ w h0 S (ds++[d]) h'->(∀b,b≠S->h'.get? b=s.heap.get? b)->Q b {s with heap:=h',toks:=tk}) :
  wpAny (model prog w) A (setAdd S x) Q E s:=by
 obtain⟨k0,hS0,o,es,ep,t,l,ho,hx,hd,L,R,m1,m2,c⟩:=Z;have hl:l.length=es.size:=by rw[L.size];simp
 have hle:es.size<=Wi ds:=by rw[c];exact J1 ds
 unfold setAdd;refine Vi (SQ (Fk 8 _ x A s _ as gx.2.1 (Zal k0 rx) ∅ λtk=>?_));unfold setAddHashed;refine Vi ?_;unfold setAddHashedIn;have hf:t.fits es.size=true:=L.fits (by simp);refine SQ (Wm (s:={s with toks:=tk}) ho hd hf ?_);dsimp only
 have nos:byScan x es=false:=by
  obtain⟨xs,ex⟩:=gx.2.2;rw[ex] at rx;cases rx with
  |tuple _ _ _ _=>rfl
 rw[nos];simp only[TZ,if_false]
 have hg:t.gaveWay=false:=by
  unfold Uz.gaveWay;rcases R with⟨e,_⟩|⟨e,_⟩ <;> rw[e] <;> decide
 obtain⟨j,hj,hjl⟩:=sC L.fill;obtain⟨nE,hE1,hE2⟩:=Pj L.full (p:=st t.mask (bD w (kqdP d))) (CK _ _) (iR _ _) hj;have hE:at_ t.mask (bD w (kqdP d)) nE∉l:=by unfold at_;rw[hE2];exact hjl
 have hmask:t.mask<=31:=by rcases R with⟨e,_⟩|⟨e,_⟩ <;> lia
 have mbs:∀e∈es.toList,∃d,Mb w ({s with toks:=tk}:SZ).heap e d:=λe he=>by
  obtain⟨d',_,m⟩:=m1 e he;exact⟨d',m.at k0⟩
 have new:∀{e:Int×SW},e∈es.toList->(Mb w s.heap e d↔Mb w h0 e d):=λ{e} he=>by
  obtain⟨d',_,m⟩:=m1 e he;constructor
  .intro z
   have:=z.uniq (m.at k0)
   rw[this];exact m
  .intro z;exact z.at k0
 unfold setSearch;refine SQ (C9 (s:={s with toks:=tk}) ho hd L mbs hg gx (Zal k0 rx) hu hE ?_ ?_ (nE-0) 0 100000 none rfl (T1 _) (by unfold Uz.turns at hE1;lia) rfl (λj hj=>absurd hj ∅) (λj i e hj=>absurd hj ∅))
 .rintro⟨e,he,mb⟩;dsimp only;refine Td (q _ s.heap tk ⟨k0,hS0,o,es,ep,t,l,ho,hx,hd,L,R,?_,?_,?_⟩ λ_ _=>rfl)
  .intro e' he';obtain⟨d',h1,h2⟩:=m1 e' he';exact⟨d',UB _ h1,h2⟩
  .intro d' hd';rcases Tv.mp hd' with h1|h1
   .exact m2 d' h1
   .cases Tf.mp h1;exact⟨e,he,(new he).mp mb⟩
  .obtain⟨d',h1,h2⟩:=m1 e he
   have:d'=d:=h2.uniq ((new he).mp mb)
   subst this;rw[rB,if_pos h1,c];rfl
 .intro n n1 n2 n3;dsimp only;refine SQ (Wm (s:={s with toks:=tk}) ho hd hf ?_);dsimp only;obtain⟨p,p1,p2,L2',p3,p4,p5,p6⟩:=L.put n1 n2 (by rcases R with⟨e,_⟩|⟨e,_⟩ <;> lia)
  have dn:d∉ds:=λz=>by
   obtain⟨e,he,mb⟩:=m2 d z;exact n3 e he ((new he).mpr mb)
  have hsr:∀(h':Heap) (es':Array (Int×SW)) (t':Uz) (l':List Nat) (o':Obj) (ep' tk':Nat),(∀b,b≠S->h'.get? b=s.heap.get? b)->h'.get? S=some o'->o'.ExactSet->o'.data=.set es' ep' t'->Lain t' l' (es'.toList.map (·.1))->P_ t' (Wi l')->es'.size=es.size+1 ->
    (∀e,e∈es'.toList↔e=(bD w (kqdP d),x)\/e∈es.toList)->Q true {s with heap:=h',toks:=tk'}:=by
   intro h' es' t' l' o' ep' tk' r1 r2 r3 r4 r5 r6 r7 r8;refine q _ h' tk' ⟨λb ob hb=>?_,hS0,o',es',ep',t',l',r2,r3,r4,r5,r6,?_,?_,?_⟩ r1
   .rw[r1 b (λz=>by rw[z,hS0] at hb;cases hb)];exact k0 b ob hb
   .intro e he;rcases (r8 e).mp he with rfl|he
    .exact⟨d,TJ _ Tb,gx,⟨as,rx⟩,rfl⟩
    .obtain⟨d',h1,h2⟩:=m1 e he;exact⟨d',UB _ h1,h2⟩
   .intro d' hd';rcases Tv.mp hd' with h1|h1
    .obtain⟨e,he,mb⟩:=m2 d' h1;exact⟨e,(r8 e).mpr (.inr he),mb⟩
    .cases Tf.mp h1;exact⟨_,(r8 _).mpr (.inl rfl),gx,⟨as,rx⟩,rfl⟩
   .rw[rB,if_neg dn,r7,c]
  have esl:VR es p (bD w (kqdP d),x)=(es.toList.take p++(bD w (kqdP d),x) :: es.toList.drop p).toArray:=by
   have:=io es.toList p (bD w (kqdP d),x) (by simp;lia)
   simpa using this
  have tail:∀(t1:Uz),Lain t1 (l.take p++at_ t.mask (bD w (kqdP d)) n :: l.drop p) ((es.toList.map (·.1)).take p++bD w (kqdP d) :: (es.toList.map (·.1)).drop p)->t1.mask=t.mask ->
    wpAny (model prog w) A (do
     storeSet S (VR es p (bD w (kqdP d),x)) t1
     if (!false && t1.tooFull)=true then do
      setRelay S (Uz.grown (es.size+1))
      pure true
     else pure true) Q E {s with toks:=tk}:=by
   intro t1 L1 hmk;have L1':Lain t1 (l.take p++at_ t.mask (bD w (kqdP d)) n :: l.drop p) ((VR es p (bD w (kqdP d),x)).toList.map (·.1)):=by rw[esl];simpa using L1
   have szi:(VR es p (bD w (kqdP d),x)).size=es.size+1:=by rw[esl];simp;lia
   have mem:∀e,e∈(VR es p (bD w (kqdP d),x)).toList↔e=(bD w (kqdP d),x)\/e∈es.toList:=λe=>by rw[esl];exact lT
   have ll:(l.take p++at_ t.mask (bD w (kqdP d)) n :: l.drop p).length=es.size+1:=by simp;lia
   obtain⟨o1,u1,u2,u3⟩:=Jv (VR es p (bD w (kqdP d),x)) t1 ho hd hx;refine SQ (wpAny_storeSet_of (s:={s with toks:=tk}) ho hd ?_ (by rw[szi,VJ];lia));by_cases tf:t1.tooFull=true
   .rw[tf];simp only[Zak,Bool.and_self,if_true]
    have h5:t.mask=7/\es.size=4:=by
     unfold ZbG ZaJ at tf;rw[L1'.place,L1'.nodum,hmk] at tf;have tf':=of_decide_eq_true tf;rw[Tt,ll] at tf';rcases R with⟨e,e'⟩|⟨e,e'⟩
     .rw[e] at tf';simp at tf';exact⟨e,∅⟩
     .rw[e] at tf';simp at tf';lia
    refine SQ (G_ (s:={s with toks:=tk,heap:=s.heap.update S (ZK (VR es p (bD w (kqdP d),x)) t1)}) u1 u3 L1' (by rw[h5.2];decide) (by rw[szi];lia) λes2 t2 l2 L2 v1 v2 v3=>?_);obtain⟨o2,w1,w2,w3⟩:=Jv es2 t2 u1 u3 u2;refine Td (hsr _ es2 t2 l2 o2 _ tk (λb hb=>?_) w1 w2 w3 L2 (.inr ⟨v1,?_⟩) (by rw[v2,szi]) λe=>(v3 e).trans (mem e))
    .rw[VW _ _ (XN hb),VW _ _ (XN hb)]
    .rw[L2.size];simp;lia
   .rw[YZ.mpr tf];simp only[YG,TZ,if_false];refine Td (hsr _ _ t1 _ o1 _ tk (λb hb=>VW _ _ (XN hb)) u1 u2 u3 L1' ?_ szi mem);rw[ll];unfold ZbG ZaJ at tf;rw[L1'.place,L1'.nodum,hmk,Tt,ll] at tf;rcases R with⟨e,e'⟩|⟨e,e'⟩
    .refine .inl ⟨hmk.trans e,?_⟩;rw[e] at tf;simp at tf;lia
    .exact .inr ⟨hmk.trans e,∅⟩
  rw[p2];split
  .refine SQ (Pl 8 8 (s:={s with toks:=tk}) gx.2.1 (SR _) (Zal k0 rx) λb=>?_);cases b
   .exact tail _ (L2'.plain false) p3
   .exact tail _ L2' p3
  .exact SQ (Td (tail _ L2' p3))
end
open PySem.W (Dat kqdP kqdOk)
section
variable{prog:T9}{w:Uk}{A:Ud}{R:ZbB->SZ->Prop}{I:Addr}{fp wr:List Addr}{n:Nat}{P:Nat->SW->Prop}{St:Nat->Heap->Prop}
def GW(W:Walks prog w A.in1 I fp wr n P St)(S:Addr)(nS:S∉fp)(Z:Nat->Heap->Prop)(zk:∀i h h',Z i h->(∀b o,b∉wr->h.get? b=some o->h'.get? b=some o)->Z i h')
  (za:∀i v (s:SZ) (Q:Bool->SZ->Prop) (E:SW->SZ->Prop),i<n->P i v->Z i s.heap->(∀r h' tk,Z (i+1) h'->(∀b,b≠S->h'.get? b=s.heap.get? b)->Q r {s with heap:=h',toks:=tk})->wpAny (model prog w) A.in1 (setAdd S v) Q E s) :
  ∀(k i:Nat) (s:SZ),n-i=k->i<=n->St i s.heap->Z i s.heap->(∀h' tk,Z n h'->(∀b o,b∉S :: wr->s.heap.get? b=some o->h'.get? b=some o)->R (.ok (.ret .none)) {s with heap:=h',toks:=tk}) ->
   codeAny (model prog w) A (.builtin "set.update.loop" ⟨[.ref S,.ref I],[]⟩) R s:=by
 have nw:S∉wr:=λh=>nS (W.sub _ h)
 intro k
 induction k with
 |zero =>
  intro i s hk hi hst hz hR;obtain rfl:i=n:=by lia
  refine ZW Zw ?_;rw[Zam XG _];refine(show wpAny _ A.in1 (pyNext (.ref I) >>= _) _ _ s from SQ (W.done s _ _ hst λh' tk hm=>?_));refine(show wpAny _ A.in1 (ret UR) _ _ _ from Td (hR h' tk (zk _ _ _ hz hm) λb o hb e=>hm b o (λz=>hb (S_ _ z)) e))
 |succ k ih =>
  intro i s hk hi hst hz hR;have vt:i<n:=by lia
  refine ZW Zw ?_;rw[Zam XG _];refine(show wpAny _ A.in1 (pyNext (.ref I) >>= _) _ _ s from SQ (W.item i s _ _ vt hst λv h' tk hP hst' hm=>?_));refine(show wpAny _ A.in1 (holding [v] (setAdd S v) >>= _) _ _ _ from SQ (Vi (za i v _ _ _ vt hP (zk _ _ _ hz hm) λr h2 tk2 z2 k2=>?_)));refine Td ⟨plainId_quiet XG _,ih (i+1) _ ∅ vt (W.frame _ _ _ hst' λb hb o e=>?_) z2 λh3 tk3 z3 k3=>hR h3 tk3 z3 λb o hb e=>?_⟩
  .exact(k2 b λz=>nS (z ▸ hb)).trans e
  .refine k3 b o hb ((k2 b λz=>hb (z ▸ Tb)).trans (hm b o (λz=>hb (S_ _ z)) e))
end
namespace F
def sub_tuple_set:isSubtype (.type "tuple") (.type "set")=pure false:=by rw[isSubtype_type];kernel_rfl
def sub_tuple_frozenset:isSubtype (.type "tuple") (.type "frozenset")=pure false:=by rw[isSubtype_type];kernel_rfl
end F
section
variable{prog:T9}{w:Uk}{A:Ud}{E:SW->SZ->Prop}{s:SZ}
def Kn.walks(k:Kn)(hh:A.handled=none)(I ax:Addr)(hne:ax≠I)(items:Array SW):Walks prog w A I [I,ax] [I] items.size (λi v=>items[i]?=some v) (λi h=>k.it h I ax i/\k.seq h ax items):=by
 cases k
 .exact Walks.list hh I ax hne items
 .exact Walks.tuple hh I ax hne items
abbrev Bp (led:Bool):Obj:={cls:=.type "set",dict:=none,data:=.set #[] 0 (.fresh 0 0 led)}
def yj(k:Kn){Q:SW->SZ->Prop}(hh:A.handled=none)(hl:k.seq s.heap l items)(Z:Nat->Heap->Prop)
  (z0:∀led h,h.get? s.heap.objs.size=some (Bp led)->(∀b o,s.heap.get? b=some o->h.get? b=some o)->Z 0 h) (zk:∀i h h',Z i h->(∀b o,b≠s.heap.objs.size+1->h.get? b=some o->h'.get? b=some o)->Z i h')
  (za:∀(A':Ud) i v (s':SZ) (Q:Bool->SZ->Prop) (E:SW->SZ->Prop),A'.units<=A.units+8->i<items.size->items[i]?=some v->Z i s'.heap->(∀r h' tk,Z (i+1) h'->(∀b,b≠s.heap.objs.size->h'.get? b=s'.heap.get? b)->Q r {s' with heap:=h',toks:=tk})->wpAny (model prog w) A' (setAdd s.heap.objs.size v) Q E s')
  (q:∀h' tk,Z items.size h'->(∀b o,b<s.heap.objs.size->s.heap.get? b=some o->h'.get? b=some o)->Q (.ref s.heap.objs.size) {s with heap:=h',toks:=tk}):wpAny (model prog w) A (call (.type "set") [.ref l]) Q E s:=by
 obtain⟨c,tl,hmro⟩:=WP.mro;have hmade:=WP.made;have hsub:=WP.sub;refine wpAny_call (codeAny_of_tree ?_);show wpAny _ _ (callAny (.type "set") _) _ _ _;refine Td ⟨Code.quiet_builtin _ (by decide +kernel),ZW F.entry_type_call ?_⟩;rw[Ud.under_plain (weight_type_call_type "set" [.ref l] []) rfl];have h1:=WP.notType;have h2:=WP.canCreate;have hct:=F.typeCall_set_1 (.ref l)
 repeat (any_goals (first|assumption|wp_step))
 refine Yw (code_set_new_1 (.ref l) (E:=E) (Q₁:=λobj s₁=>∃led:Bool,obj=.ref s.heap.objs.size/\s₁ = {s with heap:=s.heap.push (Bp led)}) λled=>⟨led,rfl,rfl⟩) λr s₁ hr=>?_
 cases r with
 |error e=>exact hr
 |ok fl =>
  cases fl with
  |ret obj =>
   obtain⟨led,rfl,rfl⟩:=hr;have hS:(s.heap.push (Bp led)).get? s.heap.objs.size=some (Bp led):=Tx _ rfl;have hT:SZ.TypeIs {s with heap:=s.heap.push (Bp led)} (.ref s.heap.objs.size) "set":=⟨_,hS,rfl⟩
   have hli:=WP.init.lookup;have hbi:=WP.init.bind (.ref s.heap.objs.size)
   repeat (any_goals (first|assumption|wp_step))
   refine Yw (codeAny_call_builtin (R:=wants (λr s₂=>r=.none/\∃h' tk,s₂ = {s with heap:=h',toks:=tk}/\Z items.size h'/\(∀b o,b<s.heap.objs.size->s.heap.get? b=some o->h'.get? b=some o)) E) WP.init.plain F.entry_set_init (check_set_init_1 hT ?_)) λr₂ s₂ hr₂=>?_
   .have vt:l<s.heap.objs.size:=k.lt hl;have hl1:k.seq (s.heap.push (Bp led)) l items:=k.GX hl λo e=>SY _ e
    have nI:l≠(s.heap.push (Bp led)).objs.size:=by rw[VL];exact T0 (W3 vt)
    have nS:s.heap.objs.size∉[(s.heap.push (Bp led)).objs.size,l]:=by
     rw[VL];simp only[Tu,UA,or_false,not_or];exact⟨T0 (Xk _),Yv vt⟩
    have fin:∀(A':Ud) (R':ZbB->SZ->Prop),A'.in1.handled=none->A'.in1.units<=A.units+8->(∀h' tk,Z items.size h'->(∀b o,b<s.heap.objs.size->s.heap.get? b=some o->h'.get? b=some o)->R' (.ok (.ret .none)) {s with heap:=h',toks:=tk}) ->
      codeAny (model prog w) A' (.builtin "set.update.loop" ⟨[.ref s.heap.objs.size,.ref (s.heap.push (Bp led)).objs.size],[]⟩) R' {s with heap:=(s.heap.push (Bp led)).push (k.obj l)}:=by
     intro A' R' ha hu hR;refine GW (k.walks ha _ l nI items) s.heap.objs.size nS Z (λi h h' z kp=>zk i h h' z λb o hb e=>kp b o (by rw[VL];simpa using hb) e) (λi v s' Q' E' hi hv hz hq=>za _ i v s' Q' E' hu hi hv hz hq) (items.size-0) 0 _ rfl (T1 _) ⟨k.it0 _ l,k.GX hl1 λo e=>SY _ e⟩ (z0 led _ (SY _ hS) λb o e=>SY _ (SY _ e)) λh' tk z kp=>hR h' tk z λb o hb e=>kp b o ?_ (SY _ (SY _ e))
     rw[VL];simp only[Tu,UA,or_false,not_or];exact⟨T0 hb,T0 (W3 hb)⟩
    cases k
    .have hl2:(s.heap.push (Bp led)).IsList l items:=hl1;obtain⟨ol,hol,hcl,nl,hdl⟩:=hl1;obtain⟨ocls,odict,odata,oslots⟩:=ol;simp only at hcl hdl;subst hcl;subst hdl;have hsls:=F.sub_list_set;have hslf:=F.sub_list_frozenset;have hne:(W6 "list" == W6 "dict")=false:=by decide
     unfold Xe.«set.__init__» noKeywords Yr;generalize hPI:pyIter=PI;wp_walk;subst hPI;refine Kn.iter .L hl2 (SQ (wpAny_runValue (fin _ _ (by simp[hh]) (by simp) λh' tk z kp=>?_)));refine(show wpAny _ _ _ _ _ _ from Td (show wpAny _ _ (ret UR) _ _ _ from Td ⟨rfl,h',tk,rfl,z,kp⟩))
    .have hl2:(s.heap.push (Bp led)).IsTuple l items:=hl1;obtain⟨ol,hol,hcl,nl,hdl⟩:=hl1;obtain⟨ocls,odict,odata,oslots⟩:=ol;simp only at hcl hdl;subst hcl;subst hdl;have hsls:=F.sub_tuple_set;have hslf:=F.sub_tuple_frozenset;have hne:(W6 "tuple" == W6 "dict")=false:=by decide
     unfold Xe.«set.__init__» noKeywords Yr;generalize hPI:pyIter=PI;wp_walk;subst hPI;refine Kn.iter .T hl2 (SQ (wpAny_runValue (fin _ _ (by simp[hh]) (by simp) λh' tk z kp=>?_)));refine(show wpAny _ _ _ _ _ _ from Td (show wpAny _ _ (ret UR) _ _ _ from Td ⟨rfl,h',tk,rfl,z,kp⟩))
   .cases r₂ with
    |error e=>exact hr₂
    |ok fl₂ =>
     cases fl₂ with
     |ret r =>
      obtain⟨rfl,h',tk,rfl,hz,hk'⟩:=hr₂
      repeat (any_goals (first|assumption|wp_step))
      exact q _ _ hz hk'
     |_=>exact hr₂.elim
  |_=>exact hr.elim
end
open PySem.W (Dat kqdP kqdOk)
abbrev P9(h:Heap)(S:Addr)(n:Nat):Prop:=∃o es ep t,h.get? S=some o/\o.ExactSet/\o.data=.set es ep t/\t.fits es.size=true/\es.size=n
abbrev MK(X:Cx)(r:V->Hp->(Nat->Hp->Prop)->Prop):Prop :=
 ∀(ξ:List (Addr×Obj)) (s:SZ) (σ:St) (H:Hp) (x:V) (u:SW) (Q:Nat->Hp->Prop),Inv X ξ σ H s->RelV x u->r x H Q ->
  wpAny (model X.prog X.w) X.A (call (.type "set") [u]) (λv s'=>∃S n,v=.ref S/\P9 s'.heap S n/\Inv X ξ σ H s'/\Q n H) X.xe s
def LN(h:Heap):h.get? h.objs.size=none:=by
 cases e:h.get? h.objs.size with
 |none=>rfl
 |some o=>exact absurd (Tz e) (V1 _)
abbrev NC(K:Fg):V->Hp->(Nat->Hp->Prop)->Prop:=λx H Q=>∃k a xs ds,x=.ref a/\Kn.sq k K H a xs/\RepL K H xs ds/\(∀d∈ds,Good d)/\ds.length<18/\Q (cnt ds) H
def Aj{X:Cx}(hc:X.calm=true)(hu:X.A.units+64<cLine):MK X (NC X.K):=by
 intro ξ s σ H x u Q I r h;obtain⟨k,a,xs,ds,rfl,q1,q2,gd,hl,q⟩:=h;cases r;obtain⟨ab,rv,sq⟩:=k.inv I q1;have len1:ab.length=ds.length:=by rw[<- V0 rv];exact q2.length
 have rd:∀(i:Nat) (v:SW),ab.toArray[i]?=some v->∃d as,ds[i]?=some d/\Wk s.heap v (kqdP d) as:=by
  intro i v hv;rw[WZ] at hv;obtain⟨hi,e⟩:=SL.mp hv;have hx:i<Wi xs:=by rw[V0 rv];exact hi
  obtain⟨v',e1,rl⟩:=rv.get (SN hx);obtain⟨d,d1,d2⟩:=RepL.get q2 (SN hx);obtain⟨as,p⟩:=Rep.reads I d2 rl;rw[hv] at e1;cases e1;exact⟨d,as,d1,p⟩
 have hS0:=LN s.heap;refine yj k (I.ok.hd hc) sq (λi h=>MJ X.w s.heap s.heap.objs.size (ds.take i) h) ?_ ?_ ?_ ?_
 .intro led h g kp;refine⟨kp,hS0,_,#[],0,.fresh 0 0 led,[],g,⟨rfl,rfl,rfl⟩,rfl,Lain.fresh 0 0 led,.inl ⟨rfl,T1 _⟩,λe he=>absurd he (by simp),λd hd=>absurd hd (by simp),?_⟩;simp[cnt,mF]
 .rintro i h h' ⟨k0,k1,o,es,ep,t,l,ho,rest⟩ kp;refine⟨λb ob hb=>kp b ob (λz=>?_) (k0 b ob hb),k1,o,es,ep,t,l,kp _ _ (T0 (Xk _)) ho,rest⟩
  have:=Tz hb
  rw[z] at this;exact absurd this (ZaY.mpr (Ye _))
 .intro A' i v s' Q' E' hA hi hv hz hq;obtain⟨d,as,d1,d2⟩:=rd i v hv;have ht:ds.take (i+1)=ds.take i++[d]:=by rw[Tc,d1];rfl
  refine P4 (prog:=X.prog) hz (gd d (SM d1)) d2 ∅ (by rw[Ta];lia) λb h' tk z kp=>hq b h' tk (by rw[ht];exact z) kp
 .intro h' tk z kp;have ez:ds.take ab.toArray.size=ds:=by rw[Tt,len1,VF]
  rw[ez] at z;obtain⟨k0,_,o,es,ep,t,l,ho,hx,hd,L,_,_,_,c⟩:=z;exact⟨_,cnt ds,rfl,⟨o,es,ep,t,ho,hx,hd,L.fits (by simp),c⟩,I.kept (t':=tk) k0,q⟩
abbrev NB(K:Fg):V->Hp->(Nat->Hp->Prop)->Prop:=λx H Q=>∃(k:Kn) (a:Addr) (ns:List Str),x=.ref a/\Kn.sq k K H a (ns.map V.str)/\ns.length<4000/\Q (cnt (ns.map UI)) H
def CY{X:Cx}(hc:X.calm=true):MK X (NB X.K):=by
 intro ξ s σ H x u Q I r h;obtain⟨k,a,ns,rfl,q1,hl,q⟩:=h;cases r;obtain⟨ab,rv,sq⟩:=k.inv I q1;have len1:ab.length=ns.length:=by have:=V0 rv;simpa using this.symm
 have rd:∀(i:Nat) (v:SW),ab.toArray[i]?=some v->∃y t,ns[i]?=some y/\v=.str y t:=by
  intro i v hv;rw[WZ] at hv;obtain⟨hi,e⟩:=SL.mp hv;have hx:i<ns.length:=by lia
  obtain⟨v',e1,rl⟩:=rv.get (i:=i) (x:=.str ns[i]) (by rw[SO,SN hx];rfl);rw[hv] at e1;cases e1;obtain⟨t,et⟩:=(show ∃t,v=Zi ns[i] t from rl)
  exact⟨_,t,SN hx,et⟩
 refine yj k (I.ok.hd hc) sq (λi h=>(∀b o,s.heap.get? b=some o->h.get? b=some o)/\h.SetOf (strKind X.prog X.w) s.heap.objs.size (λy=>decide (y∈ns.take i)) (cnt ((ns.take i).map UI))) ?_ ?_ ?_ ?_
 .intro led h g kp;refine⟨kp,_,#[],0,.fresh 0 0 led,g,⟨rfl,rfl,rfl⟩,rfl,λe he=>absurd he (by simp),λy=>?_,by decide,by rfl,?_⟩
  .simp
  .simp[cnt,mF]
 .rintro i h h' ⟨k0,o,es,ep,t,ho,rest⟩ kp;refine⟨λb ob hb=>kp b ob (λz=>?_) (k0 b ob hb),o,es,ep,t,kp _ _ (T0 (Xk _)) ho,rest⟩
  have:=Tz hb
  rw[z] at this;exact absurd this (ZaY.mpr (Ye _))
 .intro A' i v s' Q' E' hA hi hv hz hq;obtain⟨y,t,d1,rfl⟩:=rd i v hv;have ht:ns.take (i+1)=ns.take i++[y]:=by rw[Tc,d1];rfl
  have his:(strKind X.prog X.w).is y (.str y t)=true:=strKind_is X.prog X.w y t;unfold setAdd;refine Vi (SQ ((strKind X.prog X.w).pyHash (k:=y) his ?_));have hcl:=J1 ((ns.take i).map UI);rw[SJ,Ta] at hcl;refine wpAny_setAddHashed_of (knd:=strKind X.prog X.w) (s:={s' with toks:=s'.toks+1}) his rfl hz.2 (by unfold scanBound;lia) λh' sb z=>hq _ h' _ ⟨λb o e=>?_,?_⟩ λb hb=>sb.2 b hb
  .have hb:b≠s.heap.objs.size:=T0 (Tz e);rw[sb.2 b hb];exact hz.1 b o e
  .refine SetOf_congr z (λy'=>?_) ?_
   .rw[ht];simp[Tv]
   .rw[ht,SV,TN,Xi,rB];have hm:(UI y∈(ns.take i).map UI)↔y∈ns.take i:=⟨λz=>by obtain⟨y',h1,h2⟩:=Te.mp z;cases h2;exact h1,λz=>Te.mpr ⟨y,z,rfl⟩⟩
    by_cases g:y∈ns.take i
    .rw[if_pos (hm.mpr g),decide_eq_true g];rfl
    .rw[if_neg (λz=>g (hm.mp z)),decide_eq_false g];rfl
 .intro h' tk z kp;have ez:ns.take ab.toArray.size=ns:=by rw[Tt,len1,VF]
  rw[ez] at z;obtain⟨k0,o,es,ep,t,ho,hx,hd,_,_,_,hf,c⟩:=z;exact⟨_,_,rfl,⟨o,es,ep,t,ho,hx,hd,hf,c⟩,I.kept (t':=tk) k0,q⟩
abbrev pQ(r:V->Hp->(Nat->Hp->Prop)->Prop)(te:TE):TE:=λσ H Q=>te σ H λx H1=>r x H1 λn H2=>(n:Int)<2 ^ 63/\Q (.int n) H2
def PR:bootBuiltins "set"=some (.type "set"):=by decide +kernel
def tH{p p2 pos pos2:Pos} (hr:MK X r) (hgl:Gl X "len") (hml:X.mg "len"=none) (hgs:Gl X "set") (hms:X.mg "set"=none) (he:PE X e te)
  (hs:starEach [e] X.env=[(false,eval e X.env)]:=by rfl) (hs2:starEach [Expr.Call (.Name "set" p2) [e] [] pos2] X.env=[(false,eval (.Call (.Name "set" p2) [e] [] pos2) X.env)]:=by rfl) :
  PE X (.Call (.Name "len" p) [.Call (.Name "set" p2) [e] [] pos2] [] pos) (pQ r te):=by
 intro ξ s σ H Q I h;refine Vp (dD I hgl hml uQ ?_);refine WB ?_ hs2 rfl;rw[hs2];refine(show wpAny _ _ (spliced ((false,eval (.Call (.Name "set" p2) [e] [] pos2) X.env) :: backTo pos [])) _ _ s from US ?_);refine Vp (dD I hgs hms PR ?_);refine Uh ?_ hs rfl;rw[hs];refine(show wpAny _ _ (spliced ((false,eval e X.env) :: backTo pos2 [])) _ _ s from US (bg (he ξ s σ H _ I h) λu s1 ⟨x,H1,I1,r1,q1⟩=>VP ?_));refine bg (hr ξ s1 σ H1 x u _ I1 r1 q1) λv s2 ⟨S,n,ev,sz,I2,z,q2⟩=>VP ?_
 obtain⟨o,es,ep,t,ho,hx,hd,hf,c⟩:=sz;cases ev;refine PySem.call_len_set ho hx hd hf (by rw[c];exact z) ⟨.int n,H1,I2.kept (t':=s2.toks+1+1) (λ_ _ z=>z),⟨_,by rw[c]⟩,q2⟩
open PySem PySem.Spec PyProof.Rows PySem.SetTable
open PySem.W (Dat kqdP kqdOk)
abbrev Qf(K:Fg)(a:Addr):It :=
 ⟨λi H=>∃xs,SqL K H a xs/\i<Wi xs,λi H v H'=>∃T x,H T=none/\v=.ref T/\H'=upd H T (.tup [.int i,x])/\∀xs,SqL K H a xs->xs[i]?=some x,λi H=>∃xs,SqL K H a xs/\xs.length<=i⟩
def BE{K:Fg}{x1}{pos:Pos}{a e it:Addr}(n1:e≠it)(n2:a≠it) :
  rN P w K (.Tuple elts x1 pos) (Qf K a) [e,it] e (λi h=>(∃old,IsEnum h e it (i:Int) old)/\h.IsListIter it a i) where
 mem:=by simp
 obj:=λi h ⟨⟨old,he⟩,t⟩ c hc=>by
  simp only[Tu,UA,or_false] at hc;rcases hc with rfl|rfl
  .exact⟨_,he,λv q=>by cases (show Zab _=Zk v from q)⟩
  .obtain⟨o,ho,_,d⟩:=t;exact⟨o,ho,λv q=>by rw[d] at q;cases q⟩
 keep:=(by rintro i h h' ⟨⟨old,he⟩,t⟩ kp;exact ⟨⟨old,kp e (by simp) _ he⟩,t.at λo z=>kp it (by simp) o z⟩)
 item:=by
  intro X hP hw hK hc i ξ s σ H E I hf ⟨⟨old,he⟩,t⟩ hg;subst hP hw hK;obtain⟨xs,q1,l1⟩:=hg;obtain⟨ab,r1,p,_⟩:=I.list q1;obtain⟨u1,e1,ru1⟩:=r1.get (SN l1);refine wpAny_pyNext_enum_item he t p.isList (x:=u1) (by simpa using e1) n1 λh' he' t' hT sz all=>⟨_,rfl,?_⟩
  refine YK (s:={s with heap:=h',toks:=s.toks+1}) he' λh2 he2 sb=>?_
  have hfr:H s.heap.objs.size=none:=I.hok.fresh (SR _)
  have nT:∀c∈[e,it],c≠s.heap.objs.size:=λc hc'=>by
   simp only[Tu,UA,or_false] at hc';rcases hc' with rfl|rfl
   .exact T0 (Tz he)
   .obtain⟨o,ho,_⟩:=t;exact T0 (Tz ho)
  have I1:Inv X ξ σ (upd H s.heap.objs.size (.tup [.int i,xs[i]])) {s with heap:=s.heap.push {cls:=.type "tuple",data:=.seq #[.int i s.toks,u1]}} :=
   I.laid (t':=s.toks) (λb u z=>SY _ z) (SR _) ⟨bF,[.int i s.toks,u1],.cons ⟨_,rfl⟩ (.cons ru1 .nil),TupD.new _ _⟩
  have I2:Inv X ξ σ (upd H s.heap.objs.size (.tup [.int i,xs[i]])) {s with heap:=h2,toks:=s.toks+1}:=Inv.iO (s:={s with heap:=s.heap.push {cls:=.type "tuple",data:=.seq #[.int i s.toks,u1]}}) (t':=s.toks+1) (fp:=[e,it]) I1 (λc o hc' z=>by
   have c1:c≠e:=λx=>hc' (by simp[x])
   have c2:c≠it:=λx=>hc' (by simp[x])
   rcases Yh z with⟨ec,eo⟩|z
   .rw[ec,eo];exact sb.extBut _ _ (nT e (by simp)).symm hT
   .exact sb.extBut _ _ c1 (all c o c1 c2 z)) λc hc'=>⟨by rw[aJ (nT c hc')];exact(hf c hc').1,(hf c hc').2⟩
  exact⟨.ref s.heap.objs.size,_,I2,rfl,⟨s.heap.objs.size,xs[i],hfr,rfl,rfl,λzs hz=>by rw[I.qN hz q1,SN l1]⟩,⟨⟨_,he2⟩,t'.at λo z=>sb.extBut _ _ n1.symm z⟩,λc hc'=>by rw[aJ (nT c hc')];exact(hf c hc').1⟩
 done:=by
  intro X hP hw hK hc i ξ s σ H E I hf ⟨⟨old,he⟩,t⟩ hg;subst hP hw hK;obtain⟨xs,q1,le⟩:=hg;obtain⟨ab,r1,p,_⟩:=I.list q1;have e1:=r1.length;exact wpAny_pyNext_enum_end (I.ok.hd hc) he t p.isList (by simp;lia) λh' all=>⟨rfl,I.iO (t':=s.toks) (λc o hc' z=>all c o (λx=>hc' (by simp[x])) z) hf⟩
 self:=λ_ _ _ _ _ st q=>let ⟨⟨_,he⟩,_⟩:=st;XX he q
abbrev ur(K:Fg)(ta:TA):TI:=λσ H R=>ta σ H λvs H1=>∃a xs,vs=[.ref a]/\SqL K H1 a xs/\R (Qf K a) H1
def jC:bootBuiltins "enumerate"=some (.type "enumerate"):=by decide +kernel
section
variable{X:Cx}
def Lp{x:Expr} {ta:TA}  {x1} {p pos:Pos} (hg:Gl X "enumerate") (hm:X.mg "enumerate"=none) (ha:PA X [x] ta) (hs:starEach [x] X.env=[(false,eval x X.env)]:=by rfl) :
  PI X (.Tuple elts x1 tp) (.Call (.Name "enumerate" p) [x] [] pos) (ur X.K ta):=by
 intro ξ s σ H R I h;refine Call_ (dD I hg hm jC (Uh (bg (ha pos ξ s σ H _ I h) λus s1 ω=>?_) (by rw[hs];rfl) (by rfl)));obtain⟨vs,H1,I1,r1,q1⟩:=ω;obtain⟨a,xs,e,sq,q⟩:=q1;subst e;obtain⟨u1,rfl,ra⟩:=vals1 r1;cases ra;obtain⟨ab,rv,p1,_⟩:=I1.list sq;have lt:a<s1.heap.objs.size:=by obtain⟨_,z,_⟩:=p1.isList;exact Tz z
 refine call_enumerate_list p1.isList λh' he t sz kp=>?_
 refine XX (s:={s1 with heap:=h'}) he ?_;refine⟨s1.heap.objs.size+1,[s1.heap.objs.size+1,s1.heap.objs.size],_,_,H1,rfl,I1.kept (t':=s1.toks) kp,BE (ZbH _) (T0 lt),⟨⟨_,he⟩,t⟩,λc hc=>?_,q⟩
 have le2:s1.heap.objs.size<=c:=by
  simp only[Tu,UA,or_false] at hc;rcases hc with rfl|rfl
  .exact Ye _
  .exact SR _
 exact I1.fpOk le2 (I1.hok.fresh le2)
end
section
variable{K:Fg}{te:TE}{tc:TT}{σ:St}{Q:VK}{H:Hp}{D:ca}
def O6{ta:TA}{R:It->Hp->Prop}(h:ta σ H λvs H1=>∃a xs,vs=[.ref a]/\SqL K H1 a xs/\R (Qf K a) H1):ur K ta σ H R:=h
def iz{xs:List V}{g:TG}{tb:TS}(Pv:Nat->St->Hp->Prop)(h0:Pv 0 σ H)(hl:∀i σ H,i<=Wi xs->Pv i σ H->SqL K H a xs)
  (hs:∀i x σ H T,xs[i]?=some x->Pv i σ H->H T=none->g (.ref T) σ (upd H T (.tup [.int i,x])) λσ2 H2=>tb {D with nx:=Pv (i+1),ct:=Pv (i+1),bk:=D.nx} σ2 H2) (hd:∀σ H,Pv (Wi xs) σ H->D.nx σ H):Bw (Qf K a) g tb D σ H:=by
 refine⟨λi m σ H=>m=Wi xs-i/\i<=(Wi xs)/\Pv i σ H,⟨_,rfl,T1 _,h0⟩,?_⟩;rintro i m σ H ⟨rfl,hi,p⟩;have q:=hl i σ H hi p;by_cases vt:i<Wi xs
 .refine .inr ⟨⟨xs,q,vt⟩,Pv (i+1),λσ' H' p'=>⟨(Wi xs)-(i+1),∅,rfl,vt,p'⟩,λv H' y=>?_⟩;obtain⟨T,x,nT,rfl,rfl,z⟩:=y;exact hs i x σ H T (z xs q) p nT
 .have e:i=Wi xs:=by lia
  subst e;exact .inl ⟨⟨xs,q,SR _⟩,hd σ H p⟩
end
abbrev La:R2:=λx y H Q=>∃z i,x=.str z/\y=.int i/\(i=0\/i=1)/\Q (.str (if i=0 then Ue else z)) H
section
variable{X:Cx}
def Ly:fh X (binaryOp .Mult) La:=by
 intro ξ s σ H x y v u Q I rx ry h;obtain⟨z,i,rfl,rfl,hi,q⟩:=h;obtain⟨t,rfl⟩:=rx;obtain⟨t',rfl⟩:=ry;rcases hi with rfl|rfl
 .exact P.mul_str_none (by decide) (by decide) ⟨.str Ue,H,I.tok _,⟨_,rfl⟩,q⟩
 .refine P.mul_str (by decide) (λ_ e=>by simp at e) (λ_ e=>by simp at e) ?_;rw[if_neg (by decide),if_pos (by simp)];exact⟨.str z,H,I,⟨_,rfl⟩,q⟩
def OM{Q:VK}{z:Str}{i:Int}(hi:i=0\/i=1)(q:Q (.str (if i=0 then Ue else z)) H):La (.str z) (.int i) H Q:=⟨z,i,rfl,rfl,hi,q⟩
end
open PySem.W (Dat kqdOk kqdP kqdPs)
abbrev DT(K:Fg):V->List V->Hp->VK->Prop:=λx xs H Q=>∃(a:Addr) (y:V) (ds:List Dat) (d:Dat) (j:Nat),x=.ref a/\xs=[y]/\Rep K H y d/\Rep K H (.ref a) (.list ds)/\(∀e∈ds,kqdOk 8 e=true)/\kqdOk 8 d=true/\ds[j]?=some d/\(∀m,m<j->ds[m]?≠some d)/\ds.length<=1000/\Q (.int j) H
open Classical in
def IK(he:kqdOk 8 e=true)(hd:kqdOk 8 d=true):ZH (kqdP e) (kqdP d)=decide (d=e):=by
 have h:=F9 (ds:=[e]) (d:=d) (λx hx=>by rw[Tf.mp hx];exact he) hd;rw[kqdPs,kqdPs,Xr,List.any_nil,Zcg] at h;rw[h];by_cases z:d=e
 .simp[z]
 .simp[z]
def uf:∀{ds:List Dat} {i:Nat},(kqdPs ds)[i]? = (ds[i]?).map kqdP
 |[],i=>by rw[kqdPs];simp
 |d :: ds,0=>by rw[kqdPs];rfl
 |d :: ds,i+1=>by rw[kqdPs,XF,XF,uf]
def ue:∀ds:List Dat,(kqdPs ds).length=Wi ds
 |[]=>by rw[kqdPs];rfl
 |d :: ds=>by rw[kqdPs,Ux,Ux,ue]
open Classical in
def Ie{X:Cx} (hu:X.A.units+64<cLine):MZ X "list.index" (DT X.K):=by
 intro ξ s σ H x xs v us Q I rx rv h;obtain⟨a,y,ds,d,j,rfl,rfl,hd,he,ka,kd,e1,e2,ln,q⟩:=h;obtain⟨u,rfl,ru⟩:=vals1 rv;obtain⟨as,ra⟩:=Rep.reads I hd ru;obtain⟨bs,rb⟩:=Rep.reads I he rx;rw[kqdP] at rb;cases rx;generalize hp:kqdPs ds=ps at rb;cases rb with
 |@list _ o ab n _ _ h1 h2 h3 h4 =>
  obtain⟨c,dct,dt,sl⟩:=o;replace h2:c=.type "list":=h2;replace h3:dt=.seq ab n:=h3;subst h2 h3;have hxs:Za.canLayAll0 ps=true:=by rw[<- hp];exact(ZbD ka).1
  have hmap:=SeqAt.readsAll_map ps _ _ hxs h4;have lj:j<Wi ds:=(SL.mp e1).1
  have at_:∀m (hm:m<ab.size),ZH (ZL s.heap ab[m]) (kqdP d)=decide (ds[m]?=some d):=by
   intro m hm;have g:(ab.toList.map (ZL s.heap))[m]?=some (ZL s.heap ab[m]):=by rw[SO,UG,UQ hm];rfl
   rw[hmap,<- hp,uf] at g;obtain⟨e,ge,gp⟩:=SU.mp g;rw[<- gp,IK (ka e (SM ge)) kd,ge];by_cases z:d=e
   .simp[z]
   .have:e≠d:=λw=>z w.symm
    simp[z,this]
  have szl:ab.size=Wi ds:=by
   have:=congrArg Wi hmap
   rw[SJ,Uv,<- hp] at this;rw[this,ue]
  have hm:wpAny (model X.prog X.w) X.A (call (.builtin "list.index") [.ref a,u]) (EP X ξ σ Q) X.xe s:=by
   refine WN F.slot_list_index ⟨_,h1,rfl⟩ F.entry_list_index (F.args_list_index_2 _ _) (SeqAt.list_indexAt a ab n dct sl u (λy=>ZH (ZL s.heap y) (kqdP d)) j ∅ ∅ ?_ ?_) ⟨h1,SeqAt.items_eqAt h4 ra hxs (Wh 8 d kd).1 ?_,⟨.int j,H,I.tok _,⟨_,rfl⟩,q⟩⟩
   .rw[at_ j ∅,e1];simp
   .intro m hm hmj;rw[at_ m hm];exact decide_eq_false (e2 m hmj)
   .have l:=(Wh 8 d kd).2
    have:=X3 (ZT ps) (kqdP d).depth
    lia
  exact hm
def L9{K:Fg}{Q:VK}{j:Nat}(hd:Rep K H y d)(he:Rep K H (.ref a) (.list ds))(ka:∀e∈ds,kqdOk 8 e=true)(kd:kqdOk 8 d=true)(e1:ds[j]?=some d)(e2:∀m,m<j->ds[m]?≠some d)(l:Wi ds<=1000)(q:Q (.int j) H):DT K (.ref a) [y] H Q :=
 ⟨a,y,ds,d,j,rfl,rfl,hd,he,ka,kd,e1,e2,l,q⟩
open PySem.W (Dat kqdOk kqdP kqdPs)
section
variable{K:Fg}{te:TE}{tc:TT}{σ:St}{Q:VK}{H:Hp}
def oK{xs:List V}(h:∀D,H D=none->∃Pv:Nat->Hp->Prop,Pv 0 (upd H D (.lst []))/\(∀i H2,i<=Wi xs->Pv i H2->SqL K H2 a xs)/\(∀i x H2,xs[i]?=some x->Pv i H2->MR g n tc te σ x H2 D (Wi xs) i Pv)/\∀H2,Pv (Wi xs) H2->Q (.ref D) H2):Gf (uT K a) n g tc te σ Q H:=by
 intro D nD;obtain⟨Pv,h0,hl,hs,hd⟩:=h D nD;refine⟨λi m H=>m=Wi xs-i/\i<=(Wi xs)/\Pv i H,⟨_,rfl,T1 _,h0⟩,?_⟩;rintro i m H ⟨rfl,hi,p⟩;have q:=hl i H hi p;by_cases vt:i<Wi xs
 .refine .inr ⟨⟨xs,xs[i],q,SN vt⟩,λv H' y us hu=>?_⟩;obtain⟨rfl,z⟩:=y;exact hs i v _ (z xs q) p us hu
 .have e:i=Wi xs:=by lia
  subst e;exact .inl ⟨⟨xs,q,SR _⟩,hd H p⟩
end
def iN:∀{ns:List Int} {us:List SW},Vals (ns.map V.int) us->∃l:List (Int×Tok),us=l.map (λp=>YB p.1 p.2)/\l.map (·.1)=ns
 |[],_,.nil=>⟨[],rfl,rfl⟩
 |n :: ns,_,.cons r rr=>by
  obtain⟨t,rfl⟩:=r;obtain⟨l,e1,e2⟩:=iN rr;exact⟨(n,t) :: l,by rw[e1];rfl,by rw[<- e2];rfl⟩
abbrev wD(K:Fg):List V->Hp->VK->Prop:=λxs H Q=>∃(a:Addr) (ns:List Int),xs=[.ref a]/\SqL K H a (ns.map V.int)/\Q (.int ns.sum) H
section
variable{X:Cx}
def FY(hc:X.calm=true):fT X (.builtin "sum") (wD X.K):=by
 intro ξ s σ H xs us Q I r h;obtain⟨a,ns,rfl,q1,q⟩:=h;obtain⟨u,rfl,ru⟩:=vals1 r;cases ru;obtain⟨ab,rv,p,_⟩:=I.list q1;obtain⟨l,e1,e2⟩:=iN rv
 have hl:s.heap.IsList a (intItems l.toArray):=by
  have:=p.isList
  rw[e1] at this;simpa[intItems] using this
 refine sum_intListG (I.ok.hd hc) hl λh' tk t' hk=>⟨.int _,H,I.kept (t':=tk) hk,⟨_,rfl⟩,?_⟩
 rw[preSum_eq,SX (by simp)];have el:l.toArray.toList.map (·.1)=ns:=by simpa using e2
 rw[el];exact q
def PQ:bootBuiltins "sum"=some (.builtin "sum"):=by decide +kernel
end
end L2
namespace Rk
abbrev pt(r:List Int)(p:Nat):Int:=r.getD p 0
abbrev bz:List Int->List (List Int)->Nat->Int
 |a :: as,r :: rs,p=>a*pt r p+bz as rs p
 |_,_,_=>0
abbrev dz(R:List (List Int)):Prop:=∀a:List Int,Wi a=Wi R->(∀p,bz a R p=0)->∀c∈a,c=0
def xB(a:List Int)(p:Nat):bz a [] p=0:=by cases a <;> rfl
def jl:∀{a:List Int} {R:List (List Int)} (b:List Int) (S:List (List Int)) (p:Nat),Wi a=Wi R->bz (a++b) (R++S) p=bz a R p+bz b S p
 |[],[],b,S,p,_=>by simp[bz]
 |x :: a,r :: R,b,S,p,h=>by
  have ih:=jl (a:=a) (R:=R) b S p (by simpa using h);show x*pt r p+bz (a++b) (R++S) p=(x*pt r p+bz a R p)+bz b S p;rw[ih,Int.add_assoc]
def f_(k:Int):∀(a:List Int) (R:List (List Int)) (p:Nat),bz (a.map λx=>k*x) R p=k*bz a R p
 |[],R,p=>by cases R <;> simp[bz]
 |x :: a,[],p=>by simp[bz]
 |x :: a,r :: R,p=>by
  have ih:=f_ k a R p;show k*x*pt r p+bz (a.map λx=>k*x) R p=k*(x*pt r p+bz a R p);rw[ih,UY,TB]
def split_len{a:List Int}{R S:List (List Int)}(h:Wi a=(R++S).length):∃b c,a=b++c/\b.length=R.length/\c.length=S.length:=by
 refine⟨a.take (Wi R),a.drop (Wi R),(W0 _ _).symm,?_,?_⟩
 .rw[Ta,h,To];lia
 .rw[Us,h,To];lia
abbrev jm(by_:List Int)(p:Nat)(r:List Int):List Int:=UD (λone two=>one*pt by_ p-pt r p*two) r by_
def tD{by_ r:List Int}(h:Wi r=Wi by_):pt (jm by_ p r) q=pt r q*pt by_ p-pt r p*pt by_ q:=by
 unfold pt jm;rw[SK,Uj,SK (l:=r) (i:=q),SK (l:=by_) (i:=q)];by_cases l:q<Wi r
 .rw[SN l,SN ∅];rfl
 .rw[TL ∅,TL ∅];simp
abbrev Wide(w:Nat)(R:List (List Int)):Prop:=∀r∈R,Wi r=w
def mG{by_ r:List Int}(h:Wi r=Wi by_):(jm by_ p r).length=Wi by_:=by
 unfold jm;rw[Vz];lia
abbrev Qn(by_:List Int):List (List Int)->List (List Int)
 |[]=>[]
 |r :: R=>if r=by_ then R else r :: Qn by_ R
abbrev sk(st:Nat×List (List Int))(p:Nat):Nat×List (List Int) :=
 match st.2.filter (λr=>pt r p≠0) with
 |[]=>st
 |by_ :: _=>(st.1+1,(Qn by_ st.2).map (jm by_ p))
abbrev size(w:Nat)(R:List (List Int)):Nat:=((TC w).foldl sk (0,R)).1
def sW{by_:List Int}:∀{R:List (List Int)},by_∈R->∃A B,R=A++by_ :: B/\Qn by_ R=A++B
 |r :: R,m=>by
  unfold Qn;by_cases e:r=by_
  .rw[if_pos e];exact⟨[],R,by rw[e];rfl,rfl⟩
  .rw[if_neg e];obtain⟨A,B,h1,h2⟩:=sW ((Tu.mp m).resolve_left λz=>e z.symm);exact⟨r :: A,B,by rw[h1];rfl,by rw[h2];rfl⟩
def FF:∀(a b:List Int) (R:List (List Int)) (p:Nat),Wi a=Wi b->bz (UD (· + ·) a b) R p=bz a R p+bz b R p
 |[],[],R,p,_=>by cases R <;> simp[bz]
 |x :: a,y :: b,[],p,_=>by simp[bz]
 |x :: a,y :: b,r :: R,p,h=>by
  have ih:=FF a b R p (by simpa using h);show(x+y)*pt r p+bz (UD (· + ·) a b) R p=(x*pt r p+bz a R p)+(y*pt r p+bz b R p)
  rw[ih,Y5];lia
def oI{S T:List (List Int)}{d:List Int}{c G:Int}(ld:Wi d=Wi S)(hc:c≠0)(hG:G≠0)(e:∀q,G*pt s q=c*pt r q+bz d S q)(h:dz (S++r :: T)):dz (S++s :: T):=by
 intro a la ha;obtain⟨a1,a',rfl,l1,l'⟩:=split_len la;obtain⟨x,a2,rfl⟩:∃x a2,a'=x :: a2:=WE (by rw[l'];simp);have l2:a2.length=T.length:=by simpa using l'
 have at_:∀q,bz a1 S q+(x*pt s q+bz a2 T q)=0:=λq=>by
  have:=ha q
  rw[jl _ _ _ l1] at this;exact this
 have h':=h (UD (· + ·) (a1.map λy=>G*y) (d.map λy=>x*y)++(x*c) :: a2.map λy=>G*y) (by simp[l1,l2,ld]) λq=>by
  rw[jl _ _ _ (by simp[l1,ld])];show bz (UD (· + ·) (a1.map λy=>G*y) (d.map λy=>x*y)) S q+(x*c*pt r q+bz (a2.map λy=>G*y) T q)=0;rw[FF _ _ _ _ (by simp[l1,ld]),f_,f_,f_];have e1:=at_ q;have e2:=e q;have e3:G*(bz a1 S q+(x*pt s q+bz a2 T q))=0:=by rw[e1,T_]
  rw[UY,UY] at e3;have e4:G*(x*pt s q)=x*(c*pt r q+bz d S q):=by rw[<- e2,<- TB,<- TB,Uc G x]
  rw[e4,UY] at e3;have e5:x*(c*pt r q)=x*c*pt r q:=by rw[TB]
  lia
 have x0:x=0:=by
  have:=h' (x*c) (TJ _ Tb)
  exact(Ub.mp this).resolve_right hc
 have a20:∀y∈a2,y=0:=λy hy=>by
  have:=h' (G*y) (TJ _ (S_ _ (Te.mpr ⟨y,hy,rfl⟩)))
  exact(Ub.mp this).resolve_left hG
 have a10:∀y∈a1,y=0:=λy hy=>by
  obtain⟨i,hi,rfl⟩:=VO.mp hy
  have m:G*a1[i]+x*d[i]'(∅)∈UD (· + ·) (a1.map λy=>G*y) (d.map λy=>x*y):=by
   refine VO.mpr ⟨i,by simp;lia,by simp⟩
  have:=h' _ (UB _ m)
  rw[x0,UT,VZ] at this;exact(Ub.mp this).resolve_left hG
 intro y hy;rcases Tv.mp hy with z|z
 .exact a10 y z
 .rcases Tu.mp z with rfl|z
  .exact x0
  .exact a20 y z
def uw{S T:List (List Int)}{d:List Int}{c G:Int}(ld:Wi d=Wi S)(hc:c≠0)(hG:G≠0)(e:∀q,G*pt s q=c*pt r q+bz d S q):dz (S++r :: T)↔dz (S++s :: T) :=
 ⟨oI ld hc hG e,oI (d:=d.map λy=>(-1)*y) (by simp[ld]) hG hc λq=>by rw[f_];have:=e q;lia⟩
abbrev Eqv(F S:List (List Int)):Prop:=∀T,dz (F++T)↔dz (S++T)
def Eqv.snoc{d:List Int}{c G:Int}(h:Eqv F S)(ld:Wi d=S.length)(hc:c≠0)(hG:G≠0)(e:∀q,G*pt s q=c*pt r q+bz d S q):Eqv (F++[r]) (S++[s]):=λT=>by
 rw[Ut,Ut,h,X0,X0];exact uw ld hc hG e
inductive cH:List (List Int)->List Nat->Prop
 |nil:cH [] []
 |cons {s:List Int} {p:Nat} {S:List (List Int)} {ps:List Nat}:pt s p≠0->(∀t∈S,pt t p=0)->cH S ps->cH (s :: S) (p :: ps)
def cH.snoc{s:List Int}{p:Nat}:∀{S:List (List Int)} {ps:List Nat},cH S ps->(∀q∈ps,pt s q=0)->pt s p≠0->cH (S++[s]) (ps++[p])
 |_,_,.nil,_,h=>.cons h (by simp) .nil
 |_,_,.cons (s:=t) (p:=q) h1 h2 r,z,h=>.cons h1 (λu hu=>by
   rcases Tv.mp hu with m|m
   .exact h2 u m
   .rw[Tf.mp m];exact z q Tb) (cH.snoc r (λq hq=>z q (S_ _ hq)) h)
def oi{x:List Int}:∀{S:List (List Int)} {ps:List Nat},cH S ps->(∀q∈ps,pt x q=0)->(dz (S++[x])↔∃q,pt x q≠0)
 |[],[],.nil,_=>by
  constructor
  .intro h;by_cases z:∃q,pt x q≠0
   .exact z
   .have:=h [1] rfl (λp=>by
     show 1*pt x p+bz [] [] p=0
     have:pt x p=0:=Decidable.byContradiction λy=>z ⟨p,y⟩
     rw[this];rfl) 1 Tb
    cases this
  .rintro⟨q,hq⟩ a la ha c hc;obtain⟨y,rfl⟩:∃y,a=[y]:=U6.mp la
   have:=ha q
   have e:y*pt x q+0=0:=this;rw[VZ] at e;rw[Tf.mp hc];exact(Ub.mp e).resolve_right hq
 |s :: S,p :: ps,.cons h1 h2 r,z=>by
  have ih:=oi r λq hq=>z q (S_ _ hq)
  have zp:∀t∈S++[x],pt t p=0:=λt ht=>by
   rcases Tv.mp ht with m|m
   .exact h2 t m
   .rw[Tf.mp m];exact z p Tb
  have nought:∀(b:List Int) (R:List (List Int)),(∀t∈R,pt t p=0)->bz b R p=0:=by
   intro b
   induction b with
   |nil=>intro R _;cases R <;> rfl
   |cons c b ihb =>
    intro R hR;cases R with
    |nil=>rfl
    |cons t R =>
     show c*pt t p+bz b R p=0;rw[hR t Tb,ihb R λt ht=>hR t (S_ _ ht)];lia
  rw[<- ih];constructor
  .intro h a la ha c hc
   exact h (0 :: a) (by simp[la]) (λq=>by
    show 0*pt s q+bz a (S++[x]) q=0
    rw[ha q];lia) c (S_ _ hc)
  .intro h a la ha;obtain⟨y,b,rfl⟩:∃y b,a=y :: b:=WE (by rw[la];simp);have at_:∀q,y*pt s q+bz b (S++[x]) q=0:=ha
   have y0:y=0:=by
    have:=at_ p
    rw[nought b _ zp,VZ] at this;exact(Ub.mp this).resolve_right h1
   have:=h b (by simpa using la) λq=>by
    have:=at_ q
    rw[y0] at this;lia
   intro c hc;rcases Tu.mp hc with rfl|hc
   .exact y0
   .exact this c hc
structure Clrd (S:List (List Int)) (ps:List Nat) (x x':List Int):Prop where
 made:∃(d:List Int) (c G:Int),Wi d=(Wi S)/\c≠0/\G≠0/\∀q,G*pt x' q=c*pt x q+bz d S q
 nought:∀q∈ps,pt x' q=0
 len:Wi x'=x.length
def Clrd.snoc{z s:List Int}{p:Nat}{g:Int}(h:Clrd S ps x y)(st:cH (S++[s]) (ps++[p]))(lp:Wi S=Wi ps)(ls:y.length=s.length)(hg:g≠0)(lz:Wi z=y.length)(ez:∀q,g*pt z q=pt (jm s p y) q):Clrd (S++[s]) (ps++[p]) x z:=by
 obtain⟨d,c,G,ld,hc,hG,e⟩:=h.made
 have sp:pt s p≠0:=by
  have:∀{S:List (List Int)} {ps:List Nat},cH (S++[s]) (ps++[p])->Wi S=Wi ps->pt s p≠0:=by
   intro S
   induction S with
   |nil =>
    intro ps st l
    have:ps=[]:=Uf.mp l.symm
    subst this;cases st with
    |cons h _ _=>exact h
   |cons t S ih =>
    intro ps st l;cases ps with
    |nil=>simp at l
    |cons q ps =>
     cases st with
     |cons _ _ r=>exact ih r (by simpa using l)
  exact this st lp
 have s0:∀q∈ps,pt s q=0:=by
  have:∀{S:List (List Int)} {ps:List Nat},cH (S++[s]) (ps++[p])->Wi S=Wi ps->∀q∈ps,pt s q=0:=by
   intro S
   induction S with
   |nil =>
    intro ps st l q hq
    have:ps=[]:=Uf.mp l.symm
    subst this;cases hq
   |cons t S ih =>
    intro ps st l q hq;cases ps with
    |nil=>simp at l
    |cons q0 ps =>
     cases st with
     |cons _ h2 r =>
      rcases Tu.mp hq with rfl|hq
      .exact h2 s (TJ _ (Tf.mpr rfl))
      .exact ih r (by simpa using l) q hq
  exact this st lp
 have ec:∀q,g*pt z q=pt y q*pt s p-pt y p*pt s q:=λq=>by rw[ez q,tD ls]
 have zero:∀q,pt y q*pt s p-pt y p*pt s q=0->pt z q=0:=λq h0=>by
  have:=ec q
  rw[h0] at this;exact(Ub.mp this).resolve_left hg
 refine⟨⟨(d.map λv=>pt s p*v)++[-(G*pt y p)],pt s p*c,G*g,by simp[ld],λw=>?_,λw=>?_,λq=>?_⟩,λq hq=>?_,by rw[lz,h.len]⟩
 .rcases Ub.mp w with w|w
  .exact sp w
  .exact hc w
 .rcases Ub.mp w with w|w
  .exact hG w
  .exact hg w
 .rw[jl _ _ _ (by simp[ld]),f_];show G*g*pt z q=pt s p*c*pt x q+(pt s p*bz d S q+(-(G*pt y p)*pt s q+0))
  have e1:=e q;rw[TB,ec q,Yk,VZ,VB];have a1:G*(pt y q*pt s p)=pt s p*(c*pt x q+bz d S q):=by rw[<- e1,<- TB,Uc]
  have a2:G*(pt y p*pt s q)=G*pt y p*pt s q:=by rw[TB]
  have a3:pt s p*(c*pt x q+bz d S q)=pt s p*c*pt x q+pt s p*bz d S q:=by rw[UY,TB]
  lia
 .rcases Tv.mp hq with m|m
  .refine zero q ?_;rw[h.nought q m,s0 q m];simp
  .rw[Tf.mp m];refine zero p ?_;lia
def Clrd.start{x:List Int}:Clrd [] [] x x:=⟨⟨[],1,1,rfl,by decide,by decide,λq=>by simp[bz]⟩,by simp,rfl⟩
def FT(E:Eqv F S)(st:cH S ps)(c:Clrd S ps x x'):dz (F++[x])↔∃q,pt x' q≠0:=by
 obtain⟨d,c0,G,ld,hc,hG,e⟩:=c.made;rw[E [x]];rw[uw (T:=[]) ld hc hG e];exact oi st c.nought
end Rk
namespace Dn
open Rk
abbrev nI(l:List Nat):List Int:=l.map λi:Nat=>(i:Int)
abbrev gO(n:Nat)(S:List Nat):List (List Nat):=(TC (n-(S.getLastD 0+1))).map λk=>S++[S.getLastD 0+1+k]
abbrev kb(n:Nat):Nat->List (List Nat)
 |0=>(TC n).map λk=>[k]
 |i+1=>(kb n i).flatMap (gO n)
abbrev Jk(n:Nat):Nat->List (List Nat)
 |0=>[]
 |i+1=>Jk n i++kb n i
abbrev iX(n:Nat):List (List Nat):=Jk n n
def LU:∀n<6,kb n n=[]:=by decide +kernel
def Ov:∀n<6,∀i<n,kb n i≠[]:=by decide +kernel
def EA:∀n<6,∀i<6,(kb n i).length<=10/\(Jk n i).length<=31:=by decide +kernel
def Ow:∀n<6,∀i<6,∀S∈kb n i,S≠[]/\S.length<=5/\∀k∈S,k<n:=by decide +kernel
def Ia:∀n<6,∀i<6,∀S∈kb n i,(gO n S).length<=5:=by decide +kernel
def yi:∀n<6,(iX n).length<=31:=by decide +kernel
def qj:∀n<6,∀S∈iX n,S≠[]/\S.length<=5/\∀k∈S,k<n:=by decide +kernel
abbrev hs(h:List Int)(S:List Nat):Bool:=S.any λk=>decide (0<pt h k)
nonrec def Tp:=List Int×List Int
abbrev isD(T:List Tp)(S:List Nat):Bool:=T.all λt=>hs t.1 S || !hs t.2 S
abbrev isT(T:List Tp)(S:List Nat):Bool:=T.all λt=>hs t.2 S || !hs t.1 S
abbrev within(M S:List Nat):Bool:=M.all λk=>decide (k∈S)
abbrev kH(acc:List (List Nat))(S:List Nat):List (List Nat):=if (!acc.any λM=>within M S)=true then acc++[S] else acc
abbrev lst(L:List (List Nat)):List (List Nat):=L.foldl kH []
def xk:∀S∈lst L,S∈L:=by
 have go:∀(L acc:List (List Nat)) (S:List Nat),S∈L.foldl kH acc->S∈acc\/S∈L:=by
  intro L
  induction L with
  |nil=>intro acc S h;exact .inl h
  |cons M L ih =>
   intro acc S h;rcases ih _ _ h with h|h
   .unfold kH at h;split at h
    .rcases Tv.mp h with h|h
     .exact .inl h
     .rw[Tf.mp h];exact .inr Tb
    .exact .inl h
   .exact .inr (S_ _ h)
 intro S h;rcases go L [] S h with h|h
 .cases h
 .exact h
def LV(L:List (List Nat)):(lst L).length<=Wi L:=by
 have go:∀(L acc:List (List Nat)),(L.foldl kH acc).length<=Wi acc+Wi L:=by
  intro L
  induction L with
  |nil=>intro acc;exact SR _
  |cons M L ih =>
   intro acc
   have:=ih (kH acc M)
   have h:(kH acc M).length<=Wi acc+1:=by
    unfold kH;split
    .simp
    .lia
   show(L.foldl kH (kH acc M)).length<=_;rw[Ux];lia
 have:=go L []
 simpa[lst] using this
abbrev jn(t:Tp)(c:List Int):Bool:=(UZ t.1 c).all λz=>decide (z.1<=z.2)
abbrev gb(t:Tp)(c:List Int):List Int:=(TC (Wi c)).map λk=>pt c k-pt t.1 k+pt t.2 k
def oy{c:List Int}{k:Nat}(h:k<Wi c):pt (gb t c) k=pt c k-pt t.1 k+pt t.2 k:=by
 unfold gb;show((TC (Wi c)).map _).getD k 0=_;rw[SK,SO,TR h];rfl
def FX{k:Nat}(h:jn t c=true)(h1:k<t.1.length)(h2:k<c.length):pt t.1 k<=pt c k:=by
 unfold jn at h;rw[U8] at h
 have:=h (t.1[k],c[k]) (by
  rw[VO]
  exact⟨k,by rw[Xy];lia,by rw[List.getElem_zip]⟩)
 unfold pt;rw[SK,SN h1,SK,SN h2];simpa using this
abbrev Ct(n:Nat)(c:List Int):Prop:=c.length=n/\∀k,0<=pt c k
abbrev nV(n:Nat)(t:Tp):Prop:=Ct n t.1/\Ct n t.2
def FQ(hc:Ct n c)(ht:nV n t)(h:jn t c=true):Ct n (gb t c):=by
 refine⟨by unfold gb;rw[SJ,TD];exact hc.1,λk=>?_⟩;by_cases hk:k<n
 .rw[oy (by rw[hc.1];exact hk)]
  have:=FX h (by rw[ht.1.1];exact hk) (by rw[hc.1];exact hk)
  have:=ht.2.2 k
  lia
 .unfold pt;rw[SK,TL (by unfold gb;rw[SJ,TD,hc.1];lia)];exact VC _
def Mo:hs h S=false↔∀k∈S,¬ 0<pt h k:=by
 unfold hs;rw[YY];simp
def Pi:hs h S=true↔∃k∈S,0<pt h k:=by
 unfold hs;rw[Zu];simp
def Be{T:List Tp}{S:List Nat}(hT:∀t∈T,nV n t)(hS:∀k∈S,k<n)(hD:isD T S=true)(c:List Int)(t:Tp)(hc:Ct n c/\∀k∈S,pt c k=0)(ht:t∈T)(h:jn t c=true):Ct n (gb t c)/\∀k∈S,pt (gb t c) k=0:=by
 obtain⟨o1,o2⟩:=hT t ht;refine⟨FQ hc.1 ⟨o1,o2⟩ h,λk hk=>?_⟩
 have f0:∀k∈S,pt t.1 k=0:=λk hk=>by
  have h1:=FX h (by rw[o1.1];exact hS k hk) (by rw[hc.1.1];exact hS k hk);have h2:=hc.2 k hk;have h3:=o1.2 k;lia
 unfold isD at hD;rw[U8] at hD;have hd:=hD t ht;have n1:hs t.1 S=false:=Mo.mpr λk hk=>by have:=f0 k hk;lia
 rw[n1] at hd;have n2:hs t.2 S=false:=by simpa using hd
 have z:=Mo.mp n2 k hk;have z2:=o2.2 k;rw[oy (by rw[hc.1.1];exact hS k hk),hc.2 k hk,f0 k hk];lia
def BG{T:List Tp}{S:List Nat}(hT:∀t∈T,nV n t)(hS:∀k∈S,k<n)(hD:isT T S=true)(c:List Int)(t:Tp)(hc:Ct n c/\∃k∈S,0<pt c k)(ht:t∈T)(h:jn t c=true):Ct n (gb t c)/\∃k∈S,0<pt (gb t c) k:=by
 obtain⟨o1,o2⟩:=hT t ht;refine⟨FQ hc.1 ⟨o1,o2⟩ h,?_⟩;unfold isT at hD;rw[U8] at hD;have hd:=hD t ht;cases e:hs t.2 S with
 |true =>
  obtain⟨k,hk,p⟩:=Pi.mp e;refine⟨k,hk,?_⟩;have h1:=FX h (by rw[o1.1];exact hS k hk) (by rw[hc.1.1];exact hS k hk);rw[oy (by rw[hc.1.1];exact hS k hk)];lia
 |false =>
  rw[e] at hd;have n1:hs t.1 S=false:=by simpa using hd
  obtain⟨k,hk,p⟩:=hc.2;refine⟨k,hk,?_⟩;have z:=Mo.mp n1 k hk;have z2:=o2.2 k;rw[oy (by rw[hc.1.1];exact hS k hk)];lia
abbrev d4(c:List Int)(S:List Nat):Int:=(S.map λk=>pt c k).sum
def zH{S:List Nat}(h:∀k∈S,pt c k=0):d4 c S=0:=by
 unfold d4
 induction S with
 |nil=>rfl
 |cons k S ih =>
  rw[TN,U2,h k Tb,ih λj hj=>h j (S_ _ hj)];rfl
def zG{S:List Nat}(h0:∀k,0<=pt c k)(h:∃k∈S,0<pt c k):d4 c S≠0:=by
 have nn:∀S:List Nat,0<=(S.map λk=>pt c k).sum:=by
  intro S
  induction S with
  |nil=>exact VC _
  |cons k S ih =>
   rw[TN,U2]
   have:=h0 k
   lia
 obtain⟨k,hk,p⟩:=h;unfold d4
 have:0<(S.map λk=>pt c k).sum:=by
  induction S with
  |nil=>cases hk
  |cons j S ih =>
   rw[TN,U2];have h1:=h0 j;have h2:=nn S;rcases Tu.mp hk with rfl|hk
   .lia
   .have:=ih hk
    lia
 lia
end Dn
namespace L2
open PySem PySem.Spec PyProof.Rows
open PySem.W (Dat KasT kas_sort kas_ask)
def oZ(a b c:SW):checkTypeCall "zip" ⟨[a,b,c],[]⟩=pure ():=by kernel_rfl
def t5(a b c:SW):checkBuiltinCall "zip.__new__" ⟨[.type "zip",a,b,c],[]⟩=pure ():=by kernel_rfl
def xM(a b c d:SW):argsOk "object.__init__" ⟨[a,b,c,d],[]⟩:=by
 unfold argsOk;rw[signature?_of (id:="object.__init__") (n:=['_','_','t','i','n','i','_','_']) (o:=['t','c','e','j','b','o']) (by kernel_rfl) PySem.F.owner_object];kernel_rfl
nonrec def Jd(k:Kn)(K:Fg)(a b c:Addr):It:=Qu K [(k,a),(k,b),(k,c)]
abbrev Mm(k:Kn)(K:Fg)(ta:TA):TI:=λσ H R=>ta σ H λvs H1=>∃a b c xs ys zs,vs=[.ref a,.ref b,.ref c]/\k.sq K H1 a xs/\k.sq K H1 b ys/\k.sq K H1 c zs/\R (Jd k K a b c) H1
def MH{α:Type}{F:α->Prop}{x y z:α}(h1:F x)(h2:F y)(h3:F z):∀u∈[x,y,z],F u:=Yi.mpr ⟨h1,all2 h2 h3⟩
def D7{x y u:Expr} {ta:TA}  {x1} {p pos:Pos} (hg:Gl X "zip") (hm:X.mg "zip"=none) (ha:PA X [x,y,u] ta) (hs:starEach [x,y,u] X.env=[(false,eval x X.env),(false,eval y X.env),(false,eval u X.env)]:=by rfl) (hs2:starEach [y,u] X.env=[(false,eval y X.env),(false,eval u X.env)]:=by rfl) :
  PI X (.Tuple elts x1 tp) (.Call (.Name "zip" p) [x,y,u] [] pos) (Mm k X.K ta):=by
 intro ξ s σ H R I h;refine Call_ (dD I hg hm J3 (Uh (bg (ha pos ξ s σ H _ I h) λus s1 ω=>?_) (by rw[hs,hs2]) (by rw[hs2];rfl)));obtain⟨vs,H1,I1,r1,a,b,c,xs,ys,zs,e,s1q,s2q,s3q,q⟩:=ω;subst e;exact By (ks:=[(k,a),(k,b),(k,c)]) I1 r1 (Xl _) iV (MH ⟨xs,s1q⟩ ⟨ys,s2q⟩ ⟨zs,s3q⟩) q (oZ _ _ _) (t5 _ _ _) λo=>xM o _ _ _
section
variable{K:Fg}{te:TE}{σ:St}{Q:VK}{H:Hp}
def uA{k:Kn}{xs ys zs:List V}{m:Nat}(e1:Wi xs=m)(e2:Wi ys=m)(e3:Wi zs=m)(h:∀D,H D=none->∃Pv:Nat->Hp->Prop,Pv 0 (upd H D (.lst []))/\(∀i H2,i<=m->Pv i H2->k.sq K H2 a xs/\k.sq K H2 b ys/\k.sq K H2 c zs) /\
  (∀i x y u H2 T,xs[i]?=some x->ys[i]?=some y->zs[i]?=some u->Pv i H2->H2 T=none->Bn g n te σ (.ref T) (upd H2 T (.tup [x,y,u])) D m i Pv)/\∀H2,Pv m H2->Q (.ref D) H2):rP (Jd k K a b c) n g te σ Q H:=by
 intro D nD;obtain⟨Pv,h0,hl,hs,hd⟩:=h D nD;refine⟨λi k H=>k=m-i/\i<=m/\Pv i H,⟨_,rfl,T1 _,h0⟩,?_⟩;rintro i j H ⟨rfl,hi,p⟩;obtain⟨q1,q2,q3⟩:=hl i H hi p;by_cases vt:i<m
 .refine .inr ⟨MH ⟨xs,q1,∅⟩ ⟨ys,q2,∅⟩ ⟨zs,q3,∅⟩,λv H' ⟨T,ws,nT,h1,h2,h3⟩ us hu=>?_⟩;subst h1 h2;obtain _|⟨z1,_|⟨z2,_|⟨z3,_|_⟩⟩⟩:=h3
  exact hs i _ _ _ H T (z1 xs q1) (z2 ys q2) (z3 zs q3) p nT us hu
 .obtain rfl:i=m:=by lia
  exact .inl ⟨MH ⟨xs,q1,λz=>∅⟩ ⟨ys,q2,λz=>∅⟩ ⟨zs,q3,λz=>∅⟩,hd H p⟩
nonrec def Qe(K:Fg):=Jd .T K
nonrec def Ix(K:Fg):=Mm .T K
def Lm{x y u:Expr} {ta:TA}  {x1} {p pos:Pos} (hg:Gl X "zip") (hm:X.mg "zip"=none) (ha:PA X [x,y,u] ta) (hs:starEach [x,y,u] X.env=[(false,eval x X.env),(false,eval y X.env),(false,eval u X.env)]:=by rfl) (hs2:starEach [y,u] X.env=[(false,eval y X.env),(false,eval u X.env)]:=by rfl) :
  PI X (.Tuple elts x1 tp) (.Call (.Name "zip" p) [x,y,u] [] pos) (Ix X.K ta):=D7 hg hm ha hs hs2
def JH{ta:TA}{R:It->Hp->Prop}(h:ta σ H λvs H1=>∃a b c xs ys zs,vs=[.ref a,.ref b,.ref c]/\SqT K H1 a xs/\SqT K H1 b ys/\SqT K H1 c zs/\R (Qe K a b c) H1):Ix K ta σ H R:=h
def uB{xs ys zs:List V}{m:Nat}(e1:Wi xs=m)(e2:Wi ys=m)(e3:Wi zs=m)(h:∀D,H D=none->∃Pv:Nat->Hp->Prop,Pv 0 (upd H D (.lst []))/\(∀i H2,i<=m->Pv i H2->SqT K H2 a xs/\SqT K H2 b ys/\SqT K H2 c zs) /\
  (∀i x y u H2 T,xs[i]?=some x->ys[i]?=some y->zs[i]?=some u->Pv i H2->H2 T=none->Bn g n te σ (.ref T) (upd H2 T (.tup [x,y,u])) D m i Pv)/\∀H2,Pv m H2->Q (.ref D) H2):rP (Qe K a b c) n g te σ Q H:=uA e1 e2 e3 h
end
end L2
namespace L2
open PySem PySem.Spec PyProof.Rows
namespace F7
end F7
section
variable{prog:T9}{w:Uk}{A:Ud}{E:SW->SZ->Prop}{s:SZ}{S I:Addr}{es:Array (Int×SW)}{ep:Nat}{t:Uz}
def ints_of:∀{vs:List SW} {ns:List Int},Wi vs=Wi ns->(∀(j:Nat) (v:SW),vs[j]?=some v->∃n u,ns[j]?=some n/\v=YB n u)->ZF vs ns
 |[],[],_,_=>.nil
 |[],_ :: _,h,_=>by cases h
 |_ :: _,[],h,_=>by cases h
 |v :: vs,n :: ns,h,k=>by
  obtain⟨n',u,e1,rfl⟩:=k 0 v rfl;cases e1;exact .cons n u (ints_of (by simpa using h) λj v hj=>k (j+1) v hj)
end
open PySem.W (Dat)
def Gq(h:ZF vs ns):Vals (ns.map V.int) vs:=by
 induction h with
 |nil=>exact .nil
 |cons n t r ih=>exact .cons ⟨t,rfl⟩ ih
abbrev NF(K:Fg):List V->Hp->VK->Prop:=λxs H Q=>∃(a:Addr) (ns:List Int),xs=[.ref a]/\SqL K H a (ns.map V.int)/\ns≠[]/\∀m,m∈ns->(∀x∈ns,m<=x)->Q (.int m) H
section
variable{X:Cx}
def F1(hc:X.calm=true):fT X (.builtin "min") (NF X.K):=by
 intro ξ s σ H xs us Q I r h;obtain⟨a,ns,rfl,q1,ne,q⟩:=h;obtain⟨u,rfl,ru⟩:=vals1 r;cases ru;obtain⟨ab,rv,p,_⟩:=I.list q1;obtain⟨l,e1,e2⟩:=iN rv
 have hl:s.heap.IsList a (intItems l.toArray):=by
  have:=p.isList
  rw[e1] at this;simpa[intItems] using this
 have ln:l.length=ns.length:=by rw[<- e2,SJ]
 have pos:=VA.mpr ne;refine min_intList (I.ok.hd hc) hl (by simp;lia) λv h' tk hv hk=>?_
 obtain⟨t,rfl⟩:=intItems_at hv;obtain⟨h1,h2⟩:=argBest_lt (numAt l.toArray) (l.toArray.size-1);have el:l.toArray.toList.map (·.1)=ns:=by simpa using e2
 refine⟨.int _,H,I.kept (t':=tk) hk,⟨_,rfl⟩,q _ ?_ λx hx=>?_⟩
 .rw[numAt_eq,el];exact getD_mem (by have h3:l.toArray.size=l.length:=Tt ..;lia)
 .obtain⟨j,hj,rfl⟩:=mem_getD hx;rw[<- el,<- numAt_eq];exact h2 j (by have h3:l.toArray.size=l.length:=Tt ..;lia)
abbrev gE(ta:TA):TE:=λσ H Q=>ta σ H λvs H1=>∃a n:Nat,vs=[.int (a:Int),.int ((a+n:Nat):Int)]/\a<=1000/\n<=1000/\∀l,H1 l=none->Q (.ref l) (upd H1 l (.lst ((TC n).map λk:Nat=>.int ((a+k:Nat):Int))))
def qy{x y:Expr} {ta:TA} {p p2 pos pos2:Pos} (hc:X.calm=true) (hgl:Gl X "list") (hml:X.mg "list"=none) (hgs:Gl X "range") (hms:X.mg "range"=none) (ha:PA X [x,y] ta)
  (hs:starEach [x,y] X.env=[(false,eval x X.env),(false,eval y X.env)]:=by rfl) (hs3:starEach [y] X.env=[(false,eval y X.env)]:=by rfl) (hs2:starEach [Expr.Call (.Name "range" p2) [x,y] [] pos2] X.env=[(false,eval (.Call (.Name "range" p2) [x,y] [] pos2) X.env)]:=by rfl) :
  PE X (.Call (.Name "list" p) [.Call (.Name "range" p2) [x,y] [] pos2] [] pos) (gE ta):=by
 intro ξ s σ H Q I h;refine Vp (dD I hgl hml gU ?_);refine Uh ?_ hs2 rfl;rw[hs2];refine(show wpAny _ _ (spliced ((false,eval (.Call (.Name "range" p2) [x,y] [] pos2) X.env) :: backTo pos [])) _ _ s from US ?_);refine Vp (dD I hgs hms boot_range ?_);refine Uh (bg (ha pos2 ξ s σ H _ I h) λus s1 ω=>?_) (by rw[hs,hs3]) (by rw[hs3];rfl);obtain⟨vs,H1,I1,r1,q1⟩:=ω;obtain⟨a,n,rfl,hn0,hn,q⟩:=q1;cases r1 with
 |cons r1 rr =>
  cases rr with
  |cons r2 rr =>
   cases rr;obtain⟨t,rfl⟩:=r1;obtain⟨t2,rfl⟩:=r2;refine call_range_2 (VP ?_);refine call_list_range (n:=n) (I1.ok.hd hc) (IsRange.new ..) (small_one ∅ ∅ ∅ ∅) (by rw[rangeSize_nat];lia) ∅ λh' tk acc c kp ha hit=>?_
   have hsz:(s1.heap.push {cls:=.type "range",data:=.fields #[.int (a:Int) t,.int ((a+n:Nat):Int) t2,.int 1 s1.toks]}).objs.size=s1.heap.objs.size+1:=size_push' _ _
   have hi:ZF acc.toList ((TC n).map λk:Nat=>((a+k:Nat):Int)):=ints_of (by rw[Uv,SJ,TD];exact hit.1) λj v hj=>by
    rw[UG] at hj;obtain⟨u,e2⟩:=hit.2 j v hj
    have lj:j<n:=by
     have:=(UX.mp hj).1
     rw[hit.1] at this;exact this
    exact⟨_,u,by rw[SO,TR lj];rfl,by rw[e2];simp⟩
   have lS:s1.heap.objs.size<=(s1.heap.push {cls:=.type "range",data:=.fields #[.int (a:Int) t,.int ((a+n:Nat):Int) t2,.int 1 s1.toks]}).objs.size:=by rw[hsz];exact Ye _
   refine⟨.ref _,_,I1.laid (t':=tk) (o:=.lst ((TC n).map λk:Nat=>.int ((a+k:Nat):Int))) (λb o e=>kp b o (SY _ e)) lS ⟨?_,acc.toList,c,?_,by rw[Zag];exact ha⟩,rfl,q _ (I1.hok.fresh lS)⟩
   .rw[SJ,TD,VJ];lia
   .have:=Gq hi
    rw[UV] at this;exact this
def um{ta:TA}{H:Hp}{Q:VK}(h:ta σ H λvs H1=>∃a n:Nat,vs=[.int (a:Int),.int ((a+n:Nat):Int)]/\a<=1000/\n<=1000/\∀l,H1 l=none->Q (.ref l) (upd H1 l (.lst ((TC n).map λk:Nat=>.int ((a+k:Nat):Int))))):gE ta σ H Q:=h
end
section
variable{K:Fg}{te:TE}{σ:St}{Q:VK}{H:Hp}
nonrec def Qd(K:Fg):=Jd .L K
nonrec def Fa(K:Fg):=Mm .L K
def HF{x y u:Expr} {ta:TA}  {x1} {p pos:Pos} (hg:Gl X "zip") (hm:X.mg "zip"=none) (ha:PA X [x,y,u] ta) (hs:starEach [x,y,u] X.env=[(false,eval x X.env),(false,eval y X.env),(false,eval u X.env)]:=by rfl) (hs2:starEach [y,u] X.env=[(false,eval y X.env),(false,eval u X.env)]:=by rfl) :
  PI X (.Tuple elts x1 tp) (.Call (.Name "zip" p) [x,y,u] [] pos) (Fa X.K ta):=D7 hg hm ha hs hs2
def L4{ta:TA}{R:It->Hp->Prop}(h:ta σ H λvs H1=>∃a b c xs ys zs,vs=[.ref a,.ref b,.ref c]/\SqL K H1 a xs/\SqL K H1 b ys/\SqL K H1 c zs/\R (Qd K a b c) H1):Fa K ta σ H R:=h
def Bf{xs ys zs:List V}{m:Nat}(e1:Wi xs=m)(e2:Wi ys=m)(e3:Wi zs=m)(h:∀D,H D=none->∃Pv:Nat->Hp->Prop,Pv 0 (upd H D (.lst []))/\(∀i H2,i<=m->Pv i H2->SqL K H2 a xs/\SqL K H2 b ys/\SqL K H2 c zs) /\
  (∀i x y u H2 T,xs[i]?=some x->ys[i]?=some y->zs[i]?=some u->Pv i H2->H2 T=none->Bn g n te σ (.ref T) (upd H2 T (.tup [x,y,u])) D m i Pv)/\∀H2,Pv m H2->Q (.ref D) H2):rP (Qd K a b c) n g te σ Q H:=uA e1 e2 e3 h
end
open PySem.Builtin.Str (occurrences lastOccurrence strSub subAt partsBetween)
abbrev kj(z y:Str)(i:Nat):Prop:=i+y.length<=z.length/\subAt z y i=true
abbrev Hy:V->List V->Hp->VK->Prop := λx xs H Q => ∃ z y, x=.str z/\xs=[.str y] /\ y.length≠0/\z.length<=sizeLine /\
  ((∃ i, kj z y i/\(∀ k, k<i->¬ kj z y k) /\ ∀ p, H p=none->Q (.ref p) (upd H p (.tup [.str (strSub z 0 i), .str y, .str (strSub z (i + y.length) z.length)]))) \/
   ((∀ i, ¬ kj z y i) /\ ∀ p, H p=none->Q (.ref p) (upd H p (.tup [.str z, .str Ue, .str Ue]))))
section
variable{X:Cx}
def t7:MZ X "str.partition" Hy:=by
 intro ξ s σ H x xs v us Q I rx rv h;obtain⟨z,y,rfl,rfl,hy,hz,h⟩:=h;obtain⟨t,rfl⟩:=rx;obtain⟨u,rfl,t',rfl⟩:=vals1 rv;refine WN YL (Xz _ _ _) PySem.F.entry_str_partition (PySem.F.args_str_partition_2 _ _) (meets_str_partition z y t t' (by simpa using hy) hz) ?_
 have new:∀(a b c:Str) (ta tb tc:Tok) (k:Nat),(∀p,H p=none->Q (.ref p) (upd H p (.tup [.str a,.str b,.str c])))->EP X ξ σ Q (.ref s.heap.objs.size) {s with toks:=k,heap:=s.heap.push {cls:=.type "tuple",data:=.seq [.str a ta,.str b tb,.str c tc].toArray}}:=by
  intro a b c ta tb tc k q;refine⟨.ref s.heap.objs.size,_,I.laid (t':=k) (o:=.tup [.str a,.str b,.str c]) (λb ob q=>SY _ q) (SR _) ?_,rfl,q _ (I.hok.fresh (SR _))⟩;exact⟨iV,_,.cons ⟨ta,rfl⟩ (.cons ⟨tb,rfl⟩ (.cons ⟨tc,rfl⟩ .nil)),TupD.new _ _⟩
 rcases h with⟨i,hi,mi,q⟩|⟨no,q⟩
 .rcases ZbI z y 1 (SR _) with⟨_,n⟩|⟨j,r,e,hj,mj⟩
  .exact absurd hi (n i)
  .have:j=i:=by
    rcases Vd j i with l|l|l
    .exact absurd hj (mi j l)
    .exact l
    .exact absurd hi (mj i l)
   subst this;show wants _ _ _ (match occurrences z y 0 z.length 1 with|i :: _=>_ | []=>_);rw[e];exact new _ _ _ _ _ _ _ q
 .rcases ZbI z y 1 (SR _) with⟨e,_⟩|⟨j,r,e,hj,mj⟩
  .show wants _ _ _ (match occurrences z y 0 z.length 1 with|i :: _=>_ | []=>_);rw[e];exact new _ _ _ _ _ _ _ q
  .exact absurd hj (no j)
end
abbrev DS:V->List V->Hp->VK->Prop := λx xs H Q => ∃ z y, x=.str z/\xs=[.str y] /\ y.length≠0/\z.length<=sizeLine /\
  ((∃ i, kj z y i/\(∀ k, i<k->¬ kj z y k) /\ ∀ p, H p=none->Q (.ref p) (upd H p (.tup [.str (strSub z 0 i), .str y, .str (strSub z (i + y.length) z.length)]))) \/
   ((∀ i, ¬ kj z y i) /\ ∀ p, H p=none->Q (.ref p) (upd H p (.tup [.str Ue, .str Ue, .str z]))))
abbrev je(z y:Str):List Nat:=(TC (z.length+1)).filter λi=>decide (i+y.length<=z.length) && subAt z y i
def yM{i:Nat}:i∈je z y↔kj z y i:=by
 unfold je kj;rw[Ui,Uu,U5,decide_eq_true_iff];exact⟨λh=>h.2,λh=>⟨by have:=h.1;lia,h⟩⟩
abbrev Apart(z y:Str):Prop:=∀i j,kj z y i->kj z y j->i<j->i+y.length<=j
def xb{z y:Str}{lim:Nat}(ap:Apart z y)(hy:y.length≠0):∀(n a:Nat) (arr:Array Nat) (fr:Nat),(∀i,kj z y i->a<=i->fr<=i)->arr.size+n<=lim ->
  (forIn (Xb a n) (arr,fr) (ZbZ z y z.length lim)).run.fst.toList=arr.toList++(Xb a n).filter λi=>decide (i+y.length<=z.length) && subAt z y i
 |0,a,arr,fr,_,_=>by simp
 |n+1,a,arr,fr,hf,hl=>by
  rw[List.range'_succ,ZU,Xj];unfold ZbZ;by_cases h:kj z y a
  .have c:((arr.size<lim/\fr<=a)/\a+y.length<=z.length)/\subAt z y a=true:=⟨⟨⟨∅,hf a h (SR _)⟩,h.1⟩,h.2⟩
   rw[if_pos c,if_pos (by rw[U5,decide_eq_true_iff];exact h)];have ih:=xb (lim:=lim) ap hy n (a+1) (arr.push a) (a+y.length) (λi hi l=>ap a i h hi ∅) (by rw[Array.size_push];lia);rw[Array.toList_push,Ut] at ih;exact ih
  .have c : ¬ (((arr.size<lim/\fr<=a)/\a+y.length<=z.length)/\subAt z y a=true):=λq=>h ⟨q.1.2,q.2⟩
   rw[if_neg c,if_neg (by rw[U5,decide_eq_true_iff];exact h)];exact xb (lim:=lim) ap hy n (a+1) arr fr (λi hi l=>hf i hi ∅) ∅
def LK(ap:Apart z y)(hy:y.length≠0):occurrences z y 0 z.length (z.length+1)=je z y:=by
 rw[StrLaws.occ_eq]
 have:=xb (lim:=z.length+1) ap hy (z.length+1) 0 #[] 0 (λ_ _ _=>T1 _) (by simp)
 rw[show z.length+1-0=z.length+1 from rfl,this];unfold je;rw[List.range_eq_range'];rfl
abbrev Jt:V->List V->Hp->VK->Prop:=λx xs H Q=>∃z y,x=.str z/\xs=[.str y]/\y.length≠0/\z.length<=1000/\Apart z y/\z.cps.all (· < 128)=true/\y.cps.all (· < 128)=true/\∀p,H p=none->Q (.ref p) (upd H p (.lst ((Ve z y.length 0 (je z y)).map V.str)))
def tI(z:Str)(w:Nat):∀(a:Nat) (cs:List Nat),(Ve z w a cs).length=Wi cs+1
 |_,[]=>rfl
 |_,c :: cs=>by
  show(Ve z w (c+w) cs).length+1=_;rw[tI z w _ cs];rfl
def so:∀(tk:Nat) (xs:List Str),Vals (xs.map V.str) (strsFrom tk xs)
 |_,[]=>.nil
 |tk,x :: xs=>.cons ⟨tk,rfl⟩ (so (tk+1) xs)
section
variable{X:Cx}
def qI:MZ X "str.rpartition" DS:=by
 intro ξ s σ H x xs v us Q I rx rv h;obtain⟨z,y,rfl,rfl,hy,hz,h⟩:=h;obtain⟨t,rfl⟩:=rx;obtain⟨u,rfl,t',rfl⟩:=vals1 rv;refine WN Yx (Xz _ _ _) PySem.F.entry_str_rpartition (PySem.F.args_str_rpartition_2 _ _) (meets_str_rpartition z y t t' (by simpa using hy) hz) ?_
 have new:∀(a b c:Str) (ta tb tc:Tok) (k:Nat),(∀p,H p=none->Q (.ref p) (upd H p (.tup [.str a,.str b,.str c])))->EP X ξ σ Q (.ref s.heap.objs.size) {s with toks:=k,heap:=s.heap.push {cls:=.type "tuple",data:=.seq [.str a ta,.str b tb,.str c tc].toArray}}:=by
  intro a b c ta tb tc k q;refine⟨.ref s.heap.objs.size,_,I.laid (t':=k) (o:=.tup [.str a,.str b,.str c]) (λb ob q=>SY _ q) (SR _) ?_,rfl,q _ (I.hok.fresh (SR _))⟩;exact⟨iV,_,.cons ⟨ta,rfl⟩ (.cons ⟨tb,rfl⟩ (.cons ⟨tc,rfl⟩ .nil)),TupD.new _ _⟩
 rcases h with⟨i,hi,mi,q⟩|⟨no,q⟩
 .rcases Zbm z y with⟨_,n⟩|⟨j,e,hj,mj⟩
  .exact absurd hi (n i)
  .have:j=i:=by
    rcases Vd j i with l|l|l
    .exact absurd hi (mj i l)
    .exact l
    .exact absurd hj (mi j l)
   subst this;show wants _ _ _ (match lastOccurrence z y 0 z.length with|some i=>_|none=>_);rw[e];exact new _ _ _ _ _ _ _ q
 .rcases Zbm z y with⟨e,_⟩|⟨j,e,hj,mj⟩
  .show wants _ _ _ (match lastOccurrence z y 0 z.length with|some i=>_|none=>_);rw[e];exact new _ _ _ _ _ _ _ q
  .exact absurd hj (no j)
def Ic:MZ X "str.split" Jt:=by
 intro ξ s σ H x xs v us Q I rx rv h;obtain⟨z,y,rfl,rfl,hy,hz,ap,az,ay,q⟩:=h;obtain⟨t,rfl⟩:=rx;obtain⟨u,rfl,t',rfl⟩:=vals1 rv;have hyb:(y.length == 0)=false:=by simpa using hy
 have kz:∀{w:Str},w.cps.all (· < 128)=true->We w=1:=λ{w} h=>by
  unfold We;rw[if_pos];rw[UE] at h ⊢;intro c hc
  have:=of_decide_eq_true (h c hc)
  exact decide_eq_true ∅
 have new:∀(ps:List Str) (vs:List SW) (k:Nat),Vals (ps.map V.str) vs->Wi ps<=2000->(∀p,H p=none->Q (.ref p) (upd H p (.lst (ps.map V.str))))->EP X ξ σ Q (.ref s.heap.objs.size) {s with toks:=k,heap:=s.heap.push {cls:=.type "list",data:=.seq vs.toArray}}:=by
  intro ps vs k rv lp q;refine⟨.ref s.heap.objs.size,_,I.laid (t':=k) (o:=.lst (ps.map V.str)) (λb ob q=>SY _ q) (SR _) ?_,rfl,q _ (I.hok.fresh (SR _))⟩;exact⟨by rw[SJ];exact TQ lp (by decide),vs,0,rv,Tx _ rfl⟩
 have ea:=LK ap hy
 have lo:(je z y).length<=z.length+1:=by
  unfold je;exact TQ (UH _ _) (by rw[TD];exact SR _)
 by_cases h1:z.length<y.length
 .have e0:je z y=[]:=List.eq_nil_iff_forall_not_mem.mpr λi hi=>by
   have:=(yM.mp hi).1
   lia
  rw[e0] at q
  have q':∀p,H p=none->Q (.ref p) (upd H p (.lst ([z].map V.str))):=λp np=>by
   have:=q p np
   rw[show Ve z y.length 0 []=[strSub z 0 z.length] from rfl,Zbn] at this;exact this
  exact WN WQ (Xz _ _ _) XH (Xu _ _) (meets_str_split_cannot_occur z y t t' (by rw[decide_eq_true h1];rfl)) (new [z] _ _ (.cons ⟨t,rfl⟩ .nil) (show 1<=2000 by decide) q')
 .have hk:(decide (z.length<y.length) || decide (We z<We y))=false:=by
   rw[decide_eq_false h1,kz az,kz ay];rfl
  cases ec:je z y with
  |nil =>
   rw[ec] at q
   have q':∀p,H p=none->Q (.ref p) (upd H p (.lst ([z].map V.str))):=λp np=>by
    have:=q p np
    rw[show Ve z y.length 0 []=[strSub z 0 z.length] from rfl,Zbn] at this;exact this
   exact WN WQ (Xz _ _ _) XH (Xu _ _) (meets_str_split_not_found z y t t' hk hyb (by rw[ea,ec];rfl)) (new [z] _ _ (.cons ⟨t,rfl⟩ .nil) (show 1<=2000 by decide) q')
  |cons c cs =>
   have lp:(Ve z y.length 0 (je z y)).length<=2000:=by rw[tI];lia
   refine WN WQ (Xz _ _ _) XH (Xu _ _) (meets_str_split_sep z y t t' hk hyb (by rw[ea,ec];rfl) (TQ hz (by decide)) (by rw[ea,Zx];exact TQ lp (by decide))) ?_;show wants _ _ _ _;rw[ea,Zx];exact new _ _ _ (so _ _) lp q
end
open PySem PySem.Spec PyProof.Rows PySem.W
nonrec def NH:List V->Hp->VK->Prop:=λxs H Q=>∃z i,xs=[.str z]/\Zcc z=some i/\z.length<=640/\Q (.int i) H
def F2:fT X (.type "int") NH:=by
 intro ξ s σ H xs us Q I r h;obtain⟨z,i,rfl,hi,hz,q⟩:=h;obtain⟨u,rfl,t,rfl⟩:=vals1 r;exact KIN.call_text hi hz ⟨.int i,H,I.tok _,⟨_,rfl⟩,q⟩
def E8{n:Int}(h0:0<=n)(h1:n<=10000000000):Zcc (a4 n)=some n/\(a4 n).length<=640:=by
 have hl:(a4 n).length<=11:=XZ h0 (by decide) ∅;obtain⟨m,rfl⟩:=XI h0
 have hd:NumText.AllDigits (a4 ((m:Nat):Int)).cps.toList:=by
  intro c hc;rw[show(a4 ((m:Nat):Int)).cps.toList=_ from ZaK m] at hc;obtain⟨ch,hch,e⟩:=Te.mp hc;rw[<- e];exact digit_range (Yy (by decide) (by decide) hch)
 have hne:(a4 ((m:Nat):Int)).cps.toList≠[]:=by
  rw[show(a4 ((m:Nat):Int)).cps.toList=_ from ZaK m];intro e;have h:=Z6 10 m;rw[Wz.mp e] at h;exact absurd h (by decide)
 have e:=PySem.intText_digits hd hne (TQ hl (by decide));rw[show(a4 ((m:Nat):Int)).cps.toList=_ from ZaK m,KIN.val_back] at e;exact⟨e,TQ hl (by decide)⟩
structure KD (P:T9) (w:Uk) (K:Frag) (mg:Str->Option SW) (x:Str) (D:Addr) (dk:List (Key×V)):Prop where
 at_:mg x=⇑D
 ns:(D == sysModules)=false
 dd:∀h:Heap,K.In h->∃vs,KV dk vs/\h.DictOf (bO P w) D vs
abbrev Kp(dk:List (Key×V))(ty tx:TE):TE:=λσ H Q=>ty σ H λy H2=>tx σ H2 λz H3=>∃k,y=kV k/\Q ((bU dk k).getD z) H3
def Lr{apos:Pos}  (hg:Gl X x) (d:KD X.prog X.w X.K X.mg x D dk) (he:PE X e ty) (hf:PE X f tx) (m:M2 X (.Name x np) "get" apos e f cpos) (hdb:(x == ("__debug__":Str))=false:=by decide) :
  PE X (.Call (.Attribute (.Name x np) "get" apos) [e,f] [] cpos) (Kp dk ty tx):=by
 intro ξ s σ H Q I h;refine wpAny_Call_method m.base m.few m.line Zo V9 Z0 (xo I hg d.at_ ?_ hdb);obtain⟨vs,rel,dd⟩:=d.dd _ I.kIn;refine⟨dd.typeIs,λb q=>?_,?_⟩
 .cases q;obtain⟨ob,_,_,h1,h2,_⟩:=dd;exact⟨ob,h1,h2.2.1⟩
 rw[m.trees]
 refine XQ rfl (Yd (US (bg (he ξ s σ H _ I h) λiv s2 ⟨y,H2,I2,ry,q2⟩ =>
  US (bg (hf ξ s2 σ H2 _ I2 q2) λfv s3 ⟨z,H3,I3,rz,k,ey,q3⟩=>VP ?_))))
 subst ey;obtain⟨vs3,rel3,dd3⟩:=d.dd _ I3.kIn;refine Zbf V9 dd3.typeIs XS (XD _ _ _) (ZG (bO X.prog X.w) D (Iu ry) d.ns fv) ⟨_,dd3.mapOf,?_⟩;exact⟨_,H3,I3.tok _,(rel3.val k).getD rz,q3⟩
end L2
namespace L2
open PySem PySem.Spec PyProof.Rows
open AutoSeq1 (wpAny_loadPart')
section
variable{prog:T9}{w:Uk}{A:Ud}{E:SW->SZ->Prop}{s:SZ}
def xi{x:SW}{Q:SW->SZ->Prop}(hit:s.heap.IsTupleIter it t i)(ht:s.heap.IsTuple t items)(hx:items[i]?=some x)(hQ:∀h',h'.IsTupleIter it t (i+1)->Xg it s.heap h'->Q x {s with heap:=h'}):wpAny (model prog w) A (UP (.ref it)) Q E s:=by
 obtain⟨o,ho,hc,hd⟩:=id hit;obtain⟨ol,hol,_,nl,hdl⟩:=ht;unfold UP;refine SQ (UL (name:=WM "__next__") hit.typeIs UW (Vr UW hit.typeIs W2 ?_ (WV _)));show wpAny _ _ (field (.ref it) 0 >>= _) _ _ s;refine SQ (Vq ho hd (x:=.ref t) rfl ?_);show wpAny _ _ (if (Ua t == UR)=true then _ else _) _ _ s;rw[if_neg (show ¬ ((Ua t == UR)=true) from Th)];show wpAny _ _ (field (.ref it) 1 >>= _) _ _ s;refine SQ (Vq ho hd (x:=.int i 0) rfl ?_);show wpAny _ _ (seqItems? (.ref t) >>= _) _ _ s;refine SQ (VN hol hdl ?_);simp only[Ul,hx];refine SQ (Xa ho hd (by simp) (Td ⟨x,rfl,Td (hQ _ ⟨_,VE _ ho (X1 (V7 hd _)),(Y1 ..).trans hc,by rw[V7 hd];simp[rawInt]⟩ (Vy ..))⟩))
def lQ(hh:A.handled=none) (hit:s.heap.IsTupleIter it t i) (ht:s.heap.IsTuple t items) (hx:items[i]?=none) (hE:∀h' e,Zae it s.heap h'->(∃o,h'.get? e=some o/\o.cls=.type "StopIteration")->E (.ref e) {s with heap:=h'}):wpAny (model prog w) A (UP (.ref it)) Q E s:=by
 obtain⟨o,ho,hc,hd⟩:=id hit;obtain⟨ol,hol,_,nl,hdl⟩:=ht;unfold UP;refine SQ (UL (name:=WM "__next__") hit.typeIs UW (Vr UW hit.typeIs W2 ?_ (WV _)));show wpAny _ _ (field (.ref it) 0 >>= _) _ _ s;refine SQ (Vq ho hd (x:=.ref t) rfl ?_);show wpAny _ _ (if (Ua t == UR)=true then _ else _) _ _ s;rw[if_neg (show ¬ ((Ua t == UR)=true) from Th)];show wpAny _ _ (field (.ref it) 1 >>= _) _ _ s;refine SQ (Vq ho hd (x:=.int i 0) rfl ?_);show wpAny _ _ (seqItems? (.ref t) >>= _) _ _ s;refine SQ (VN hol hdl ?_);simp only[Ul,hx];refine SQ (ZaU (SQ (Xa ho hd (by simp) ?_)));show wpAny _ _ (newExc (.type "StopIteration") [] >>= _) _ _ _;refine SQ ?_;simp only[newExc,newTuple];refine SQ (Uy ?_ (by size_fits));refine SQ (m:=firstArgMember _ _) (ZbN (a:=UR) (by first|rfl|(simp only[firstArgMember];rfl)) ?_);refine Uy ?_ (by size_fits);simp only[raiseNew];refine SQ (ZaH ?_);first|rw[show A.in1.handled=none from hh]|rw[hh]
 refine SQ (Td (ZbO (hE _ _ (((Vy ..).extBut.push _).push _) ⟨_,Tx _ rfl,rfl⟩)))
end
def FE{A:Ud}(hh:A.handled=none)(it l:Addr)(hne:l≠it)(items:Array SW):Draws prog w A it [it,l] items.size (λi v=>items[i]?=some v) (λi h=>h.IsTupleIter it l i/\h.IsTuple l items) where
 live:=(by rintro _ _ ⟨⟨o,ho,_⟩,_⟩;exact ⟨o,ho⟩)
 frame:=(by rintro _ _ _ ⟨⟨o,ho,r⟩,o2,ho2,r2⟩ hk;exact ⟨⟨o,hk it (by simp) o ho,r⟩,o2,hk l (by simp) o2 ho2,r2⟩)
 item:=λi s Q E hi st hQ=>xi st.1 st.2 (x:=items[i]) (by simp[hi]) λh' hit' hs'=>hQ _ h' s.toks (by simp[hi]) ⟨hit',st.2.extBut hs'.extBut hne⟩ hs'
 done:=λs Q E st hE=>lQ hh st.1 st.2 (by simp) hE
def lU(l:Addr) (items:Array SW) (n:Nat) (dct:Option Addr) (sl:Array (Option SW)):Meets (Xe.«enumerate.__new__» ⟨[.type "enumerate",.ref l],[]⟩) (λ_ R s=>s.heap.get? l=some {cls:=.type "tuple",dict:=dct,data:=.seq items n,slots:=sl}/\R (.ok (.ret (.ref (s.heap.push {cls:=.type "tuple_iterator",data:=.fields #[.ref l,.int 0 0]}).objs.size))) {s with heap:=(s.heap.push {cls:=.type "tuple_iterator",data:=.fields #[.ref l,.int 0 0]}).push {cls:=.type "enumerate",data:=.fields #[.none,.bool false,.ref s.heap.objs.size,rawInt 0,.none,.none]}}) :=
 .of_wp λprog w A R s h=>by
  obtain⟨hp,g,d,tk,os⟩:=s;obtain⟨hl,h⟩:=h;have hsub:=sub_enumerate;have hL:Heap.IsTuple (SZ.heap ⟨hp,g,d,tk,os⟩) l items:=⟨_,hl,rfl,n,rfl⟩
  wp_walk using ZX hl;refine wpAny_stack_any λst=>Td ?_;split
  .rename_i c _ _ _ _ _;cases (c == W6 "enumerate") <;> (wp_walk using ZX hl,WL hL;exact⟨_,rfl,h⟩)
  .wp_walk using ZX hl,WL hL;exact⟨_,rfl,h⟩
section
variable{prog:T9}{w:Uk}{A:Ud}{E:SW->SZ->Prop}{s:SZ}
def FC{e it l:Addr}{i:Nat}{items:Array SW}{old:SW}{Q:Option SW->SZ->Prop}(hh:A.handled=none)(he:IsEnum s.heap e it i old)(hit:s.heap.IsTupleIter it l i)(hl:s.heap.IsTuple l items)(hx:items[i]?=none)(hQ:∀h',Zae it s.heap h'->Q none {s with heap:=h'}):wpAny (model prog w) A (pyNext (.ref e)) Q E s:=by
 have hT:s.TypeIs (.ref e) "enumerate":=⟨_,he,rfl⟩;unfold pyNext;refine SQ (Zd (UL (name:=WM "__next__") hT Z7 (Vr Z7 hT F.entry_enumerate_next ?_ (F.args_enumerate_next_1 _))));show wpAny _ _ (field (.ref e) 2 >>= _) _ _ _;refine SQ (Vq he rfl (x:=.ref it) rfl ?_);refine SQ (lQ hh hit hl hx λh' x he' hx'=>?_);obtain⟨o,ho,hc⟩:=hx';refine SQ (X7 (T:="StopIteration") (b:=true) ⟨o,ho,hc⟩ Zaf ?_);exact Td (hQ _ he')
def Bj{Q:SW->SZ->Prop} (hL:s.heap.IsTuple l items) (h:∀h',IsEnum h' (s.heap.objs.size+1) s.heap.objs.size 0 .none->h'.IsTupleIter s.heap.objs.size l 0->(∀b o,s.heap.get? b=some o->h'.get? b=some o)->Q (.ref (s.heap.objs.size+1)) {s with heap:=h'}):wpAny (model prog w) A (call (.type "enumerate") [.ref l]) Q E s:=by
 obtain⟨⟨c,dct,dt,sl⟩,hl,hc,n,hd⟩:=hL;replace hc:c=.type "tuple":=hc;replace hd:dt=.seq items n:=hd;subst hc hd;refine callType_new F.called_enumerate (by decide) (F.typeCall_enumerate_1 _) (F.newCall_enumerate_1 _) (λobj=>F.args_object_init_2 obj _) F.entry_enumerate_new (lU l items n dct sl) ⟨hl,?_⟩;have hz:(s.heap.push {cls:=.type "tuple_iterator",data:=.fields #[.ref l,.int 0 0]}).objs.size=s.heap.objs.size+1:=VL ..;show _/\_;rw[hz]
 have he:IsEnum ((s.heap.push {cls:=.type "tuple_iterator",data:=.fields #[.ref l,.int 0 0]}).push {cls:=.type "enumerate",data:=.fields #[.none,.bool false,.ref s.heap.objs.size,rawInt 0,.none,.none]}) (s.heap.objs.size+1) s.heap.objs.size 0 .none:=by
  have q:=Tx (s.heap.push {cls:=.type "tuple_iterator",data:=.fields #[.ref l,.int 0 0]}) (o:={cls:=.type "enumerate",data:=.fields #[.none,.bool false,.ref s.heap.objs.size,rawInt 0,.none,.none]}) rfl;rw[hz] at q;exact q
 exact⟨⟨_,he,rfl⟩,h _ he ⟨_,SY _ (Tx _ rfl),rfl,rfl⟩ λb o x=>SY _ (SY _ x)⟩
end
abbrev Je(K:Fg)(a:Addr):It :=
 ⟨λi H=>∃xs,SqT K H a xs/\i<Wi xs,λi H v H'=>∃T x,H T=none/\v=.ref T/\H'=upd H T (.tup [.int i,x])/\∀xs,SqT K H a xs->xs[i]?=some x,λi H=>∃xs,SqT K H a xs/\xs.length<=i⟩
def zJ{K:Fg}{x1}{pos:Pos}{a e it:Addr}(n1:e≠it)(n2:a≠it)(n3:e≠a):rN P w K (.Tuple elts x1 pos) (Je K a) [e,it] e (λi h=>(∃old,IsEnum h e it (i:Int) old)/\h.IsTupleIter it a i) where
 mem:=by simp
 obj:=λi h ⟨⟨old,he⟩,t⟩ c hc=>by
  simp only[Tu,UA,or_false] at hc;rcases hc with rfl|rfl
  .exact⟨_,he,λv q=>by cases (show Zab _=Zk v from q)⟩
  .obtain⟨o,ho,_,d⟩:=t;exact⟨o,ho,λv q=>by rw[d] at q;cases q⟩
 keep:=(by rintro i h h' ⟨⟨old,he⟩,t⟩ kp;exact ⟨⟨old,kp e (by simp) _ he⟩,t.at λo z=>kp it (by simp) o z⟩)
 item:=by
  intro X hP hw hK hc i ξ s σ H E I hf ⟨⟨old,he⟩,t⟩ hg;subst hP hw hK;obtain⟨xs,q1,l1⟩:=hg;obtain⟨ab,r1,p,_⟩:=I.tuple q1;obtain⟨u1,e1,ru1⟩:=r1.get (SN l1);have pt:s.heap.IsTuple a ab.toArray:=p;have li:i<ab.toArray.size:=by have:=r1.length;simp;lia
  refine wpAny_pyNext_enum_itemD (FE (A:=X.A.in1) (I.ok.hd hc) it a n2 ab.toArray) he ⟨t,pt⟩ li n1 (by simp[n1,n3]) λx h' tk hx he' t' hT sz all=>⟨_,rfl,?_⟩
  obtain rfl:u1=x:=by rw[WZ,e1] at hx;exact TH hx
  refine YK (s:={s with heap:=h',toks:=tk+1}) he' λh2 he2 sb=>?_
  have hfr:H s.heap.objs.size=none:=I.hok.fresh (SR _)
  have nT:∀c∈[e,it],c≠s.heap.objs.size:=λc hc'=>by
   simp only[Tu,UA,or_false] at hc';rcases hc' with rfl|rfl
   .exact T0 (Tz he)
   .obtain⟨o,ho,_⟩:=t;exact T0 (Tz ho)
  have I1:Inv X ξ σ (upd H s.heap.objs.size (.tup [.int i,xs[i]])) {s with heap:=s.heap.push {cls:=.type "tuple",data:=.seq #[.int i tk,u1]}} :=
   I.laid (t':=s.toks) (λb u z=>SY _ z) (SR _) ⟨bF,[.int i tk,u1],.cons ⟨_,rfl⟩ (.cons ru1 .nil),TupD.new _ _⟩
  have I2:Inv X ξ σ (upd H s.heap.objs.size (.tup [.int i,xs[i]])) {s with heap:=h2,toks:=tk+1}:=Inv.iO (s:={s with heap:=s.heap.push {cls:=.type "tuple",data:=.seq #[.int i tk,u1]}}) (t':=tk+1) (fp:=[e,it]) I1 (λc o hc' z=>by
   have c1:c≠e:=λx=>hc' (by simp[x])
   have c2:c≠it:=λx=>hc' (by simp[x])
   rcases Yh z with⟨ec,eo⟩|z
   .rw[ec,eo];exact sb.extBut _ _ (nT e (by simp)).symm hT
   .exact sb.extBut _ _ c1 (all c o c1 c2 z)) λc hc'=>⟨by rw[aJ (nT c hc')];exact(hf c hc').1,(hf c hc').2⟩
  exact⟨.ref s.heap.objs.size,_,I2,rfl,⟨s.heap.objs.size,xs[i],hfr,rfl,rfl,λzs hz=>by rw[I.kq hz q1,SN l1]⟩,⟨⟨_,he2⟩,t'.1.at λo z=>sb.extBut _ _ n1.symm z⟩,λc hc'=>by rw[aJ (nT c hc')];exact(hf c hc').1⟩
 done:=by
  intro X hP hw hK hc i ξ s σ H E I hf ⟨⟨old,he⟩,t⟩ hg;subst hP hw hK;obtain⟨xs,q1,le⟩:=hg;obtain⟨ab,r1,p,_⟩:=I.tuple q1;have e1:=r1.length;exact FC (I.ok.hd hc) he t (show s.heap.IsTuple a ab.toArray from p) (by simp;lia) λh' all=>⟨rfl,I.iO (t':=s.toks) (λc o hc' z=>all c o (λx=>hc' (by simp[x])) z) hf⟩
 self:=λ_ _ _ _ _ st q=>let ⟨⟨_,he⟩,_⟩:=st;XX he q
abbrev Fc(K:Fg)(ta:TA):TI:=λσ H R=>ta σ H λvs H1=>∃a xs,vs=[.ref a]/\SqT K H1 a xs/\R (Je K a) H1
section
variable{X:Cx}
def HG{x:Expr} {ta:TA}  {x1} {p pos:Pos} (hg:Gl X "enumerate") (hm:X.mg "enumerate"=none) (ha:PA X [x] ta) (hs:starEach [x] X.env=[(false,eval x X.env)]:=by rfl) :
  PI X (.Tuple elts x1 tp) (.Call (.Name "enumerate" p) [x] [] pos) (Fc X.K ta):=by
 intro ξ s σ H R I h;refine Call_ (dD I hg hm jC (Uh (bg (ha pos ξ s σ H _ I h) λus s1 ω=>?_) (by rw[hs];rfl) (by rfl)));obtain⟨vs,H1,I1,r1,q1⟩:=ω;obtain⟨a,xs,e,sq,q⟩:=q1;subst e;obtain⟨u1,rfl,ra⟩:=vals1 r1;cases ra;obtain⟨ab,rv,p1,_⟩:=I1.tuple sq;have p2:s1.heap.IsTuple a ab.toArray:=p1;have lt:a<s1.heap.objs.size:=by obtain⟨_,z,_⟩:=p2;exact Tz z
 refine Bj p2 λh' he t kp=>?_
 refine XX (s:={s1 with heap:=h'}) he ?_;refine⟨s1.heap.objs.size+1,[s1.heap.objs.size+1,s1.heap.objs.size],_,_,H1,rfl,I1.kept (t':=s1.toks) kp,zJ (ZbH _) (T0 lt) (Yv (W3 lt)),⟨⟨_,he⟩,t⟩,λc hc=>?_,q⟩
 have le2:s1.heap.objs.size<=c:=by
  simp only[Tu,UA,or_false] at hc;rcases hc with rfl|rfl
  .exact Ye _
  .exact SR _
 exact I1.fpOk le2 (I1.hok.fresh le2)
end
section
variable{K:Fg}{σ:St}{H:Hp}{D:ca}
def Mc{ta:TA}{R:It->Hp->Prop}(h:ta σ H λvs H1=>∃a xs,vs=[.ref a]/\SqT K H1 a xs/\R (Je K a) H1):Fc K ta σ H R:=h
end
end L2
namespace L2
open PySem PySem.Spec PyProof.Rows
open PySem.Builtin.Str (strSub subAt occurrences)
def jX.of{sc scope:Scope}{N M ys:List Str}(h:decide (scope.kind=.function/\(∀y∈scope.names,y.2≠.cell)/\(∀y∈scope.names,y.2=.local->scope.names.lookup y.1=some .local)/\(∀y∈ys,scope.names.lookup y=some .local)/\(ys++M).Nodup/\M.length=N.length/\(∀p∈M.zip N,p.1=p.2\/(Ha scope sc).lookup p.1=none)/\(∀y∈M,(Ha scope sc).lookup y≠some .local)/\∀n∈scope.names,n.2=.free->sc.names.lookup n.1=some .cell)=true):jX sc N M ys scope:=by
 obtain⟨a,b,c,d,e,f,g,i,j⟩:=of_decide_eq_true h;exact⟨a,b,c,d,e,f,g,i,j⟩
abbrev Qm:Expr->List Str
 |.Name x _=>[x]
 |.Tuple es _ _=>es.map λe=>match e with|.Name x _=>x|_=>Ue
 |_=>[]
section
variable{X:Cx}{x:Str}{scope:Scope}{elt iter tg cn:Expr}{pos py sp:Pos}{wi:TI}{g:TG}{tc:TT}{te:TE}{n i:Nat}{y:Str}
abbrev SA:=@N8 X x X.N scope
abbrev Sv:=@QL X x X.N scope
abbrev Sx:=@N5 X scope elt iter tg pos wi g te n (Qm tg) X.N
abbrev Ss:=@NP X scope elt iter tg pos py sp wi g te i n y (Qm tg) X.N
abbrev Sy:=@N7 X scope elt iter tg cn pos wi g tc te n (Qm tg) X.N
abbrev Su:=@NR X scope elt iter tg cn pos py sp wi g tc te i n y (Qm tg) X.N
end
end L2
open L2
local macro_rules | `(tactic| fail "z")=>`(tactic| first
 |(show(0:Int)<_;omega)
 |(unfold MS;omega)
 |(unfold CMul;omega)
 |exact⟨by decide,by decide,by decide⟩)
local macro_rules | `(tactic| fail "1")=>`(tactic| first
 |(with_reducible first|apply Rf|apply Pb|apply EX)
 |((with_reducible refine' uk ?k1 ?_);(case k1=>exact rfl))
 |(with_reducible first|apply SB|apply OQ|apply Rh|apply RF|apply Rq|apply RE|apply RH|apply Rr|apply RB|apply OI|apply Rb|apply RL|apply Rg|apply OU|apply Me|apply OT|apply RM|apply Ro|apply Pc|apply Rm|apply OR|apply RC|apply Mh|apply Io|apply O9|apply Pa|apply RJ|apply Q_|apply Rs|apply Q9|apply OO|apply Re|apply Im|apply OP|apply Ry|apply O8|apply Mf|apply Mg|apply OZ|apply O0|apply OW|apply O6|apply O4|apply O5|apply Ru|apply Rt|apply Q8|apply Rx|apply OS|apply RD|apply O_|apply OL|apply OK|apply L_|apply OY|apply RK|apply O7|apply Ma|apply O1|apply OX|apply Bb|apply E4|apply L5|apply L6)
 |((with_reducible refine' ul ?k1 ?_);(case k1=>fail "z"))
 |((with_reducible refine' Rj ?k1 ?_);(case k1=>(constructor <;> omega)))
 |((with_reducible refine' Rl ?k1 ?_);(case k1=>(constructor <;> omega))))
local macro_rules | `(tactic| cbv)=>`(tactic| repeat fail "1")
namespace G1
open PySem L2 Fr
open PySem.W (Dat kqdOk)
nonrec def ends(Q:VK):ca:={nx:=λ_ H'=>Q .non H',rt:=Q}
abbrev cI(n:Nat)(hs:List Int):Prop:=hs.length=n/\∀x∈hs,0<=x/\x<=3
nonrec def dI(ns:List Int):Dat:=.tuple (ns.map TW)
def AccZ.ints{K:Fg}{ns:List Int}(A:AccZ K H0 l H (ns.map TW)):H l=some (.lst (ns.map V.int)):=by
 obtain⟨xs,h1,h2⟩:=A.at_;rw[RpL.ints_of h2] at h1;exact h1
def AccZ.strs{K:Fg}{ns:List Str}(A:AccZ K H0 l H (ns.map UI)):H l=some (.lst (ns.map V.str)):=by
 obtain⟨xs,h1,h2⟩:=A.at_;rw[RpL.vQ h2] at h1;exact h1
nonrec def az:Str:="abcdefghijklmnopqrstuvwxyz"
def R5:∀j:Nat,j<26->az.cps.toList[j]?=some (97+j):=by decide +kernel
def PZ:az.length<=sizeLine:=by decide +kernel
def R4{i:Int}(h0:0<=i)(h1:i<26):kh az.cps.toList i=some (97+i.toNat):=by
 have e:i=((i.toNat:Nat):Int):=by lia
 have q:=ba (R5 i.toNat ∅);rw[<- e] at q;exact q
abbrev Low(z:Str):Prop:=∀x∈z.cps.toList,97<=x/\x<=122
def b5(z:Str):z.cps.toList.length=z.length:=by simp[Zb_]
def LW{c:Nat}(h0:97<=c)(h1:c<=122):Low ⟨#[c]⟩:=λx hx=>by
 have:x=c:=by simpa using hx
 lia
def LX{lo:Option Int}(h:Low z):Low (m4 z lo hi):=λx hx=>by
 have q:x∈(Mp z.cps.toList hi).drop (lo.getD 0).toNat:=by simpa[m4] using hx
 have q2:=Wl q;cases hi with
 |none=>exact h x q2
 |some j=>exact h x (Xc q2)
def G5(z:Str)(lo hi:Option Int):(m4 z lo hi).length=(Mp z.cps.toList hi).length-(lo.getD 0).toNat:=by
 show(Zav (lo.getD 0).toNat (Mp z.cps.toList hi)).toArray.size=_;rw[Tt,Us]
abbrev J4(w:Str):Prop:=1<=w.length/\w.length<=8/\Low w
abbrev rK(ws:List Str):Prop:=ws.Nodup/\∀w∈ws,J4 w
def eA{α:Type}{xs:List α}{x:α}(h:xs.Nodup)(n:x∉xs):(xs++[x]).Nodup:=by
 rw[List.nodup_append];refine⟨h,by simp,?_⟩;intro a ha b hb e;rw[Tf.mp hb] at e;exact n (e ▸ ha)
def gh{α:Type}{P:α->Prop}{xs:List α}{x:α}(h:∀y∈xs,P y)(n:P x):∀y∈xs++[x],P y:=λy hy=>by
 rcases Tv.mp hy with q|q
 .exact h y q
 .rw[Tf.mp q];exact n
abbrev fS(q d:Int):Prop:=0<q/\0<d/\Gd.gd q d=1/\q<=10000000000/\d<=10000000000
abbrev yh(K:Fg):Sp:=λvs H Q _=>∃t b:Int,vs=[.int t,.int b]/\0<t/\0<b/\t<=10000000000/\b<=10000000000/\∀(p:Addr) (q d:Int) (H':Hp),Same H H'->fS q d->Rz K H' (.ref p) (dI [q,d])->Q (.ref p) H'
def tZ(ns:List Int)(n:Nat):kqdOk (n+1) (dI ns)=true:=by
 show((ns.map TW).all (kqdOk n))=true;rw[U8];intro x hx;obtain⟨i,_,rfl⟩:=Te.mp hx;cases n <;> rfl
def uy(h:dI a=dI b):a=b:=by
 have:=ZaL h
 exact(Za1 (λx y e=>TW.inj e)).mp this
def Os{hs:List (List Int)}:dI a∈hs.map dI↔a∈hs:=by
 rw[Te];constructor
 .rintro⟨b,hb,e⟩;rw[<- uy e];exact hb
 .intro h;exact⟨a,h,rfl⟩
abbrev Gc(n:Nat)(hs:List (List Int)):Prop:=hs.Nodup/\∀h∈hs,cI n h
end G1
namespace G1
open PySem L2 Fr
open PySem.W (Dat kqdOk)
structure Tn where
 fr:List Int
 to:List Int
 q:Int
 d:Int
abbrev dT(t:Tn):Dat:=.tuple [dI t.fr,dI t.to,dI [t.q,t.d]]
abbrev TurnOk(hs:List (List Int))(t:Tn):Prop:=t.fr∈hs/\t.to∈hs/\t.fr≠t.to/\fS t.q t.d
abbrev xz(t:Tn):List Int×List Int:=(t.fr,t.to)
structure F_ (hs:List (List Int)) (ts:List Tn):Prop where
 ne:ts≠[]
 le:Wi ts<=8
 nd:(ts.map xz).Nodup
 ok:∀t∈ts,TurnOk hs t
abbrev dP(p:Nat×Nat):Dat:=dI [(p.1:Int),(p.2:Int)]
def PH(h:dP a=dP b):a=b:=by
 have e:=uy h;have e1:(a.1:Int)=b.1:=(Vt e).1;have e2:(a.2:Int)=b.2:=(Vt (Vt e).2).1;obtain⟨a1,a2⟩:=a;obtain⟨b1,b2⟩:=b;have e1':a1=b1:=Zcl e1;have e2':a2=b2:=Zcl e2;rw[e1',e2']
def Oq{ps:List (Nat×Nat)}:dP a∈ps.map dP↔a∈ps:=by
 rw[Te];constructor
 .rintro⟨b,hb,e⟩;rw[<- PH e];exact hb
 .intro h;exact⟨a,h,rfl⟩
abbrev zy(n:Nat)(p:Nat×Nat):Prop:=p.1<n/\p.2<n/\p.1≠p.2
abbrev two(hs:List (List Int))(p:Nat×Nat):List Int×List Int:=(hs.getD p.1 [],hs.getD p.2 [])
structure Good (hs:List (List Int)) (ps:List (Nat×Nat)) (ts:List Tn):Prop where
 nd:ps.Nodup
 le:Wi ps<=8
 eq:ts.map xz=ps.map (two hs)
 ok:∀p∈ps,zy (Wi hs) p
 pc:∀t∈ts,fS t.q t.d
def getD_mem{hs:List (List Int)}{i:Nat}(h:i<Wi hs):hs.getD i []∈hs:=by
 rw[SK,SN h];exact U9 h
def me{hs:List (List Int)}(nd:hs.Nodup){i j:Nat}(hi:i<Wi hs)(hj:j<Wi hs)(e:hs.getD i []=hs.getD j []):i=j:=by
 rw[SK,SN hi,SK,SN hj] at e;have e':hs[i]=hs[j]:=e;have pw:=Va.mp nd;rcases Vd i j with z|z|z
 .exact absurd e' (pw i j hi hj z)
 .exact z
 .exact absurd e'.symm (pw j i hj hi z)
def nodup_map_on{α β:Type}{f:α->β}:∀{xs:List α},xs.Nodup->(∀a∈xs,∀b∈xs,f a=f b->a=b)->(xs.map f).Nodup
 |[],_,_=>Vj
 |x :: xs,h,hf=>by
  rw[TN,Um];refine⟨λhm=>?_,nodup_map_on (Um.mp h).2 λa ha b hb=>hf a (S_ _ ha) b (S_ _ hb)⟩;obtain⟨y,hy,e⟩:=Te.mp hm;rw[<- hf y (S_ _ hy) x Tb e] at h;exact(Um.mp h).1 hy
def Good.turns{hs:List (List Int)}(g:Good hs ps ts)(nd:hs.Nodup)(ne:ps≠[]):F_ hs ts:=by
 have len:ts.length=ps.length:=by have:=congrArg Wi g.eq;simpa using this
 refine⟨λz=>?_,by rw[len];exact g.le,?_,λt ht=>?_⟩
 .rw[z] at len;exact ne (Uf.mp len.symm)
 .rw[g.eq];refine nodup_map_on g.nd λa ha b hb e=>?_
  have oa:=g.ok a ha;have ob:=g.ok b hb;have e1:=me nd oa.1 ob.1 (congrArg Prod.fst e);have e2:=me nd oa.2.1 ob.2.1 (congrArg Prod.snd e);obtain⟨a1,a2⟩:=a;obtain⟨b1,b2⟩:=b;simp only at e1 e2;rw[e1,e2]
 .have hm:xz t∈ps.map (two hs):=by rw[<- g.eq];exact Te.mpr ⟨t,ht,rfl⟩
  obtain⟨p,hp,e⟩:=Te.mp hm;have op:=g.ok p hp;have e1:hs.getD p.1 []=t.fr:=congrArg Prod.fst e;have e2:hs.getD p.2 []=t.to:=congrArg Prod.snd e;refine⟨e1 ▸ getD_mem op.1,e2 ▸ getD_mem op.2.1,λz=>op.2.2 ?_,g.pc t ht⟩;rw[<- e1,<- e2] at z;exact me nd op.1 op.2.1 z
structure rM (ws:List Str) (ts:List Tn):Prop where
 words:rK ws
 w1:1<=Wi ws
 w5:Wi ws<=5
 turns:∃hs,Gc (Wi ws) hs/\hs.length<=8/\F_ hs ts
abbrev dV(ws:List Str)(ts:List Tn):Dat:=.tuple [.tuple (ws.map UI),.tuple (ts.map dT)]
end G1
namespace L2
open PySem PySem.Spec PyProof.Rows
open PySem.W (Dat kqdOk)
def eF{K:Fg}:TK K (.type "NoneType") (.type "bool")=some false:=by
 show Tj K (.type "NoneType") (.type "bool")=some false;unfold Tj;kernel_rfl
def eX{K:Fg}:TK K (.type "NoneType") (.type "int")=some false:=by
 show Tj K (.type "NoneType") (.type "int")=some false;unfold Tj;kernel_rfl
def eW{K:Fg}:TK K (.type "NoneType") (.type "str")=some false:=by
 show Tj K (.type "NoneType") (.type "str")=some false;unfold Tj;kernel_rfl
def bL{K:Fg}:TK K (.type "NoneType") (.type "tuple")=some false:=by
 show Tj K (.type "NoneType") (.type "tuple")=some false;unfold Tj;kernel_rfl
def cE{K:Fg}:TK K (.type "NoneType") (.type "list")=some false:=by
 show Tj K (.type "NoneType") (.type "list")=some false;unfold Tj;kernel_rfl
def eN{K:Fg}:TK K (.type "bool") (.type "bool")=some true:=by rfl
def uj{K:Fg}:TK K (.type "bool") (.type "int")=some true:=by
 show Tj K (.type "bool") (.type "int")=some true;unfold Tj;kernel_rfl
def ui{K:Fg}:TK K (.type "bool") (.type "str")=some false:=by
 show Tj K (.type "bool") (.type "str")=some false;unfold Tj;kernel_rfl
def cM{K:Fg}:TK K (.type "bool") (.type "tuple")=some false:=by
 show Tj K (.type "bool") (.type "tuple")=some false;unfold Tj;kernel_rfl
def eM{K:Fg}:TK K (.type "bool") (.type "list")=some false:=by
 show Tj K (.type "bool") (.type "list")=some false;unfold Tj;kernel_rfl
def fO{K:Fg}:TK K (.type "int") (.type "bool")=some false:=by
 show Tj K (.type "int") (.type "bool")=some false;unfold Tj;kernel_rfl
def lY{K:Fg}:TK K (.type "int") (.type "int")=some true:=by rfl
def xq{K:Fg}:TK K (.type "int") (.type "str")=some false:=by
 show Tj K (.type "int") (.type "str")=some false;unfold Tj;kernel_rfl
def c9{K:Fg}:TK K (.type "int") (.type "tuple")=some false:=by
 show Tj K (.type "int") (.type "tuple")=some false;unfold Tj;kernel_rfl
def fN{K:Fg}:TK K (.type "int") (.type "list")=some false:=by
 show Tj K (.type "int") (.type "list")=some false;unfold Tj;kernel_rfl
def jz{K:Fg}:TK K (.type "str") (.type "bool")=some false:=by
 show Tj K (.type "str") (.type "bool")=some false;unfold Tj;kernel_rfl
def lX{K:Fg}:TK K (.type "str") (.type "int")=some false:=by
 show Tj K (.type "str") (.type "int")=some false;unfold Tj;kernel_rfl
def gR{K:Fg}:TK K (.type "str") (.type "str")=some true:=by rfl
def c8{K:Fg}:TK K (.type "str") (.type "tuple")=some false:=by
 show Tj K (.type "str") (.type "tuple")=some false;unfold Tj;kernel_rfl
def fM{K:Fg}:TK K (.type "str") (.type "list")=some false:=by
 show Tj K (.type "str") (.type "list")=some false;unfold Tj;kernel_rfl
def nQ{K:Fg}:TK K (.type "tuple") (.type "bool")=some false:=by
 show Tj K (.type "tuple") (.type "bool")=some false;unfold Tj;kernel_rfl
def qR{K:Fg}:TK K (.type "tuple") (.type "int")=some false:=by
 show Tj K (.type "tuple") (.type "int")=some false;unfold Tj;kernel_rfl
def qQ{K:Fg}:TK K (.type "tuple") (.type "str")=some false:=by
 show Tj K (.type "tuple") (.type "str")=some false;unfold Tj;kernel_rfl
def aU{K:Fg}:TK K (.type "tuple") (.type "tuple")=some true:=by rfl
def gr{K:Fg}:TK K (.type "tuple") (.type "list")=some false:=by
 show Tj K (.type "tuple") (.type "list")=some false;unfold Tj;kernel_rfl
def qS{K:Fg}:TK K (.type "list") (.type "bool")=some false:=by
 show Tj K (.type "list") (.type "bool")=some false;unfold Tj;kernel_rfl
def uh{K:Fg}:TK K (.type "list") (.type "int")=some false:=by
 show Tj K (.type "list") (.type "int")=some false;unfold Tj;kernel_rfl
def ug{K:Fg}:TK K (.type "list") (.type "str")=some false:=by
 show Tj K (.type "list") (.type "str")=some false;unfold Tj;kernel_rfl
def aZ{K:Fg}:TK K (.type "list") (.type "tuple")=some false:=by
 show Tj K (.type "list") (.type "tuple")=some false;unfold Tj;kernel_rfl
def bB{K:Fg}:TK K (.type "list") (.type "list")=some true:=by rfl
nonrec def Ra(K:Fg)(H:Hp):V->Dat->Prop:=Rp K (λ_=>True) H
nonrec def Sn(K:Fg)(H:Hp):List V->List Dat->Prop:=RpL K (λ_=>True) H
def Rp.a{K:Fg}(h:Rp K S H v d):Ra K H v d:=h.mono λ_ _=>trivial
abbrev Es:Nat->Dat->Bool
 |_,.none=>true
 |_,.bool _=>true
 |_,.int _=>true
 |_,.str _=>true
 |n+1,.tuple ds=>decide (Wi ds<=1000) && ds.all (Es n)
 |n+1,.list ds=>decide (Wi ds<=1000) && ds.all (Es n)
 |_,_=>false
def Er{ds:List Dat}(l:Wi ds<=1000)(h:∀d∈ds,Es n d=true):Es (n+1) (.tuple ds)=true:=by
 show(decide (Wi ds<=1000) && ds.all (Es n))=true;rw[decide_eq_true l,Zch,U8];exact h
def JB{ds:List Dat}(h:(decide (Wi ds<=1000) && ds.all (Es n))=true):Wi ds<=1000/\∀d∈ds,Es n d=true:=by
 rw[U5,U8] at h;exact⟨of_decide_eq_true h.1,h.2⟩
def JK{K:Fg}{Q:VK}{v:V}(e:SqT K H p xs)(a:kh xs i=some v)(h:Q v H):Lb K (.ref p) (.int i) H Q:=.inr (.inl (aN e a h))
def JL{K:Fg}{Q:VK}{v:V}(e:SqL K H p xs)(a:kh xs i=some v)(h:Q v H):Lb K (.ref p) (.int i) H Q:=.inl (dm e a h)
end L2
namespace Sm
open PySem L2 G1
open PySem.W (Dat kqdOk)
abbrev fD(K:Fg)(n:Nat):Sp:=λvs H Q _=>∃(v1 v2:V) (d1 d2:Dat),vs=[v1,v2]/\Ra K H v1 d1/\Ra K H v2 d2/\Es n d2=true/\(d1=d2->Q (.bl true) H)/\(d1≠d2->Q (.bl false) H)
def ub{K:Fg}{x y:Str}(h:fD K n vs H Q E):vs.length=[x,y].length:=by
 obtain⟨a,b,c,d,rfl,_⟩:=h;rfl
abbrev pi (K:Fg):TS:=(ak (aM (tB (aX (eL K) (ac (aa 1) (ac (tC (.ty "bool")) ae))))
 (aC (mY (aX (eL K) (ac (aa 0) (ac (tC (.ty "bool")) ae))) (ao fu (aa 0) (aa 1))))
 aP)
 (ak (aM (tB (aX (eL K) (ac (aa 1) (ac (tC (.ty "int")) ae))))
 (aC (mY (aX (eL K) (ac (aa 0) (ac (tC (.ty "int")) ae))) (mY (Ae (aX (eL K) (ac (aa 0) (ac (tC (.ty "bool")) ae)))) (ao fu (aa 0) (aa 1)))))
 aP)
 (ak (aM (tB (aX (eL K) (ac (aa 1) (ac (tC (.ty "str")) ae))))
 (aC (mY (aX (eL K) (ac (aa 0) (ac (tC (.ty "str")) ae))) (ao fu (aa 0) (aa 1))))
 aP)
 (aC (mY (ao wF (aa 1) (tC .non)) (ao wF (aa 0) (tC .non)))))))
abbrev vA(K:Fg)(m:Nat):TS:=(ak (aM (aO (ao yu (aX (bf K) (ac (aa 0) ae)) (aX (bf K) (ac (aa 1) ae))))
 (aC (tC (.bl false)))
 aP)
 (ak (bS (fe (ac (aX (bf K) (ac (aa 1) ae)) ae)) (aj 2)
 (aM (dN (tB (aw (fD K m) [] E0 (ac (ao (Lb K) (aa 0) (aa 2)) (ac (ao (Lb K) (aa 1) (aa 2)) ae)))))
 (aC (tC (.bl false)))
 aP))
 (aC (tC (.bl true)))))
abbrev vB (K:Fg):TS:=(ak (aM (Ac (tB (aX (eL K) (ac (aa 1) (ac (tC (.ty "tuple")) ae)))) (tB (aX (eL K) (ac (aa 1) (ac (tC (.ty "list")) ae)))))
 cW
 aP)
 (pi K))
abbrev BO (K:Fg) (m:Nat):TS:=(ak (aM (Ac (tB (aX (eL K) (ac (aa 1) (ac (tC (.ty "tuple")) ae)))) (tB (aX (eL K) (ac (aa 1) (ac (tC (.ty "list")) ae)))))
 (ak (aM (Ac (aO (ao yu (aX (eL K) (ac (aa 0) (ac (tC (.ty "tuple")) ae))) (aX (eL K) (ac (aa 1) (ac (tC (.ty "tuple")) ae))))) (aO (ao yu (aX (eL K) (ac (aa 0) (ac (tC (.ty "list")) ae))) (aX (eL K) (ac (aa 1) (ac (tC (.ty "list")) ae))))))
 (aC (tC (.bl false)))
 aP)
 (vA K m))
 aP)
 (pi K))
def DA{K:Fg}{Q:VK}{u:Option V}(r1:Ra K H v1 d1)(r2:Ra K H v2 d2)(n1:∀ds,d2≠.tuple ds)(n2:∀ds,d2≠.list ds)(h1:d1=d2->Q (.bl true) H)(h2:d1≠d2->Q (.bl false) H) :
  pi K (ends Q) [some v1,some v2,u] H:=by
 have no:∀{a b:Dat},(a=b->False)->d1=a->d2=b->Q (.bl false) H:=λq e1 e2=>h2 λz=>q (e1.symm.trans (z.trans e2))
 unfold pi;cases r2 with
 |non =>
  cbv;refine aF .non eF ?_;cbv;refine aF .non eX ?_;cbv;refine aF .non eW ?_;cbv;refine aV (λ_=>?_) (λz=>absurd rfl z);cbv;cases r1 with
  |non=>exact h1 rfl
  |bl b=>exact h2 (λz=>by cases z)
  |int b=>exact h2 (λz=>by cases z)
  |str b=>exact h2 (λz=>by cases z)
  |tup e r=>exact h2 (λz=>by cases z)
  |lst s e r=>exact h2 (λz=>by cases z)
 |bl b =>
  cbv;refine aF (.bl b) eN ?_;cbv;cases r1 with
  |non =>
   refine aF .non eF ?_;cbv;exact h2 (λz=>by cases z)
  |bl c =>
   refine aF (.bl c) eN ?_;cbv;by_cases z:c=b
   .rw[decide_eq_true z];exact h1 (by rw[z])
   .rw[decide_eq_false z];exact h2 (λq=>z (Vw.inj q))
  |int c =>
   refine aF (.int c) fO ?_;cbv;exact h2 (λz=>by cases z)
  |str c =>
   refine aF (.str c) jz ?_;cbv;exact h2 (λz=>by cases z)
  |tup e r =>
   refine aF (.tup e) nQ ?_;cbv;exact h2 (λz=>by cases z)
  |lst s e r =>
   refine aF (.lst e) qS ?_;cbv;exact h2 (λz=>by cases z)
 |int b =>
  cbv;refine aF (.int b) fO ?_;cbv;refine aF (.int b) lY ?_;cbv;cases r1 with
  |non =>
   refine aF .non eX ?_;cbv;exact h2 (λz=>by cases z)
  |bl c =>
   refine aF (.bl c) uj ?_;cbv;refine aF (.bl c) eN ?_;cbv;exact h2 (λz=>by cases z)
  |int c =>
   refine aF (.int c) lY ?_;cbv;refine aF (.int c) fO ?_;cbv;by_cases z:c=b
   .rw[decide_eq_true z];exact h1 (by rw[z])
   .rw[decide_eq_false z];exact h2 (λq=>z (TW.inj q))
  |str c =>
   refine aF (.str c) lX ?_;cbv;exact h2 (λz=>by cases z)
  |tup e r =>
   refine aF (.tup e) qR ?_;cbv;exact h2 (λz=>by cases z)
  |lst s e r =>
   refine aF (.lst e) uh ?_;cbv;exact h2 (λz=>by cases z)
 |str b =>
  cbv;refine aF (.str b) jz ?_;cbv;refine aF (.str b) lX ?_;cbv;refine aF (.str b) gR ?_;cbv;cases r1 with
  |non =>
   refine aF .non eW ?_;cbv;exact h2 (λz=>by cases z)
  |bl c =>
   refine aF (.bl c) ui ?_;cbv;exact h2 (λz=>by cases z)
  |int c =>
   refine aF (.int c) xq ?_;cbv;exact h2 (λz=>by cases z)
  |str c =>
   refine aF (.str c) gR ?_;cbv;by_cases z:c=b
   .rw[decide_eq_true z];exact h1 (by rw[z])
   .rw[decide_eq_false z];exact h2 (λq=>z (UI.inj q))
  |tup e r =>
   refine aF (.tup e) qQ ?_;cbv;exact h2 (λz=>by cases z)
  |lst s e r =>
   refine aF (.lst e) ug ?_;cbv;exact h2 (λz=>by cases z)
 |tup e r=>exact absurd rfl (n1 _)
 |lst s e r=>exact absurd rfl (n2 _)
def Hj{K:Fg}{N:List Str}(hN:Wi N=3)(h:fD K 0 vs H Q E):vB K (ends Q) (L2.start N vs) H:=by
 obtain⟨v1,v2,d1,d2,rfl,r1,r2,ok,h1,h2⟩:=h;rw[L2.aK hN];walk_at "t";have n1:∀ds,d2≠.tuple ds:=λds z=>by rw[z] at ok;cases ok
 have n2:∀ds,d2≠.list ds:=λds z=>by rw[z] at ok;cases ok
 have fin:=DA (u:=none) r1 r2 n1 n2 h1 h2;unfold vB;cases r2 with
 |non =>
  cbv;refine aF .non bL ?_;cbv;refine aF .non cE ?_;cbv;exact fin
 |bl b =>
  cbv;refine aF (.bl b) cM ?_;cbv;refine aF (.bl b) eM ?_;cbv;exact fin
 |int b =>
  cbv;refine aF (.int b) c9 ?_;cbv;refine aF (.int b) fN ?_;cbv;exact fin
 |str b =>
  cbv;refine aF (.str b) c8 ?_;cbv;refine aF (.str b) fM ?_;cbv;exact fin
 |tup e r=>exact absurd rfl (n1 _)
 |lst s e r=>exact absurd rfl (n2 _)
def Js{K:Fg}{Q:VK}{xs ys:List V}{u:Option V}(lx:∀Q':VK,Q' (.int (Wi xs)) H->bf K [.ref a] H Q')(ly:∀Q':VK,Q' (.int (Wi ys)) H->bf K [.ref b] H Q')
  (ix:∀(i:Nat) (x:V) (Q':VK),xs[i]?=some x->Q' x H->Lb K (.ref a) (.int (0+(i:Int))) H Q') (iy:∀(i:Nat) (x:V) (Q':VK),ys[i]?=some x->Q' x H->Lb K (.ref b) (.int (0+(i:Int))) H Q')
  (r1:Sn K H xs d1) (r2:Sn K H ys d2) (ok:∀d∈d2,Es m d=true) (lm:d2.length<=1000) (h1:d1=d2->Q (.bl true) H) (h2:d1≠d2->Q (.bl false) H) {D:ca} (hD:D.rt=Q):vA K m D [⇑a,⇑b,u] H:=by
 have l1:=r1.length;have l2:=r2.length;unfold vA;cbv;refine lx _ ?_;cbv;refine ly _ ?_;cbv;refine be (λz=>?_) (λz=>?_)
 .cbv;rw[hD];exact h2 λe=>z (by rw[l1,l2,e])
 have le:Wi xs=Wi ys:=by lia
 cbv;refine ly _ ?_;cbv;refine cR (λi σ H2=>H2=H/\(∃v,σ=[⇑a,⇑b,v])/\d1.take i=d2.take i) ⟨rfl,⟨_,rfl⟩,by simp⟩ ?_ ?_
 .rintro i σ H2 hi ⟨rfl,⟨v,rfl⟩,et⟩;have hiy:i<Wi ys:=by lia
  have hix:i<Wi xs:=by lia
  obtain⟨e1,g1,p1⟩:=r1.get (SN hix);obtain⟨e2,g2,p2⟩:=r2.get (SN hiy);cbv;refine ix i _ _ (SN hix) ?_;cbv;refine iy i _ _ (SN hiy) ?_;cbv;refine⟨_,_,e1,e2,rfl,p1,p2,ok e2 (SM g2),λq=>?_,λq=>?_⟩
  .cbv;refine⟨rfl,⟨_,rfl⟩,?_⟩;rw[Tc,Tc,et,g1,g2,q]
  .cbv;show D.rt _ _;rw[hD];exact h2 λz=>q (by rw[z,g2] at g1;exact(TH g1).symm)
 .rintro σ H2 ⟨rfl,⟨v,rfl⟩,et⟩;cbv;show D.rt _ _;rw[hD];refine h1 ?_;have e:(Wi ys:Int).toNat=Wi ys:=by lia
  rw[e,SX ∅,SX ∅] at et;exact et
def KP{K:Fg}{m:Nat}{N:List Str}(hN:Wi N=3)(h:fD K (m+1) vs H Q E):BO K m (ends Q) (L2.start N vs) H:=by
 obtain⟨v1,v2,d1,d2,rfl,r1,r2,ok,h1,h2⟩:=h;rw[L2.aK hN];walk_at "t";unfold BO;have fin:=λn1 n2=>DA (u:=none) r1 r2 n1 n2 h1 h2
 cases r2 with
 |non =>
  cbv;refine aF .non bL ?_;cbv;refine aF .non cE ?_;cbv;exact fin (λds z=>by cases z) (λds z=>by cases z)
 |bl b =>
  cbv;refine aF (.bl b) cM ?_;cbv;refine aF (.bl b) eM ?_;cbv;exact fin (λds z=>by cases z) (λds z=>by cases z)
 |int b =>
  cbv;refine aF (.int b) c9 ?_;cbv;refine aF (.int b) fN ?_;cbv;exact fin (λds z=>by cases z) (λds z=>by cases z)
 |str b =>
  cbv;refine aF (.str b) c8 ?_;cbv;refine aF (.str b) fM ?_;cbv;exact fin (λds z=>by cases z) (λds z=>by cases z)
 |@tup b ys ds e r =>
  obtain⟨lm,okd⟩:=JB ok;cbv;refine aF (.tup e) aU ?_;cbv;cases r1 with
  |non =>
   refine aF .non bL ?_;cbv;refine aF (.tup e) aU ?_;cbv;refine be (λ_=>?_) (λz=>by cases z);cbv;exact h2 (λz=>by cases z)
  |bl c =>
   refine aF (.bl c) cM ?_;cbv;refine aF (.tup e) aU ?_;cbv;refine be (λ_=>?_) (λz=>by cases z);cbv;exact h2 (λz=>by cases z)
  |int c =>
   refine aF (.int c) c9 ?_;cbv;refine aF (.tup e) aU ?_;cbv;refine be (λ_=>?_) (λz=>by cases z);cbv;exact h2 (λz=>by cases z)
  |str c =>
   refine aF (.str c) c8 ?_;cbv;refine aF (.tup e) aU ?_;cbv;refine be (λ_=>?_) (λz=>by cases z);cbv;exact h2 (λz=>by cases z)
  |lst s e' r' =>
   refine aF (.lst e') aZ ?_;cbv;refine aF (.tup e) aU ?_;cbv;refine be (λ_=>?_) (λz=>by cases z);cbv;exact h2 (λz=>by cases z)
  |@tup a xs ds' e' r' =>
   refine aF (.tup e') aU ?_;cbv;refine aF (.tup e) aU ?_;cbv;refine be (λz=>absurd rfl z) (λ_=>?_);cbv;refine aF (.tup e') gr ?_;cbv;refine aF (.tup e) gr ?_;cbv;refine be (λz=>absurd rfl z) (λ_=>?_);cbv;refine Js (m:=m) (xs:=xs) (ys:=ys) (λQ' q=>cY (SqT.of e') q) (λQ' q=>cY (SqT.of e) q) (λi x Q' hx q=>JK (SqT.of e') (by rw[U_];exact ba hx) q) (λi x Q' hx q=>JK (SqT.of e) (by rw[U_];exact ba hx) q) r' r okd lm (λz=>h1 (by rw[z])) (λz=>h2 λq=>z (ZaL q)) rfl
 |@lst b ys ds s e r =>
  obtain⟨lm,okd⟩:=JB ok;cbv;refine aF (.lst e) aZ ?_;cbv;refine aF (.lst e) bB ?_;cbv;cases r1 with
  |non =>
   refine aF .non bL ?_;cbv;refine aF (.lst e) aZ ?_;cbv;refine be (λz=>absurd rfl z) (λ_=>?_);cbv;refine aF .non cE ?_;cbv;refine aF (.lst e) bB ?_;cbv;refine be (λ_=>?_) (λz=>by cases z);cbv;exact h2 (λz=>by cases z)
  |bl c =>
   refine aF (.bl c) cM ?_;cbv;refine aF (.lst e) aZ ?_;cbv;refine be (λz=>absurd rfl z) (λ_=>?_);cbv;refine aF (.bl c) eM ?_;cbv;refine aF (.lst e) bB ?_;cbv;refine be (λ_=>?_) (λz=>by cases z);cbv;exact h2 (λz=>by cases z)
  |int c =>
   refine aF (.int c) c9 ?_;cbv;refine aF (.lst e) aZ ?_;cbv;refine be (λz=>absurd rfl z) (λ_=>?_);cbv;refine aF (.int c) fN ?_;cbv;refine aF (.lst e) bB ?_;cbv;refine be (λ_=>?_) (λz=>by cases z);cbv;exact h2 (λz=>by cases z)
  |str c =>
   refine aF (.str c) c8 ?_;cbv;refine aF (.lst e) aZ ?_;cbv;refine be (λz=>absurd rfl z) (λ_=>?_);cbv;refine aF (.str c) fM ?_;cbv;refine aF (.lst e) bB ?_;cbv;refine be (λ_=>?_) (λz=>by cases z);cbv;exact h2 (λz=>by cases z)
  |tup e' r' =>
   refine aF (.tup e') aU ?_;cbv;refine aF (.lst e) aZ ?_;cbv;refine be (λ_=>?_) (λz=>by cases z);cbv;exact h2 (λz=>by cases z)
  |@lst a xs ds' s' e' r' =>
   refine aF (.lst e') aZ ?_;cbv;refine aF (.lst e) aZ ?_;cbv;refine be (λz=>absurd rfl z) (λ_=>?_);cbv;refine aF (.lst e') bB ?_;cbv;refine aF (.lst e) bB ?_;cbv;refine be (λz=>absurd rfl z) (λ_=>?_);cbv;refine Js (m:=m) (xs:=xs) (ys:=ys) (λQ' q=>bP (SqL.of e') q) (λQ' q=>bP (SqL.of e) q) (λi x Q' hx q=>JL (SqL.of e') (by rw[U_];exact ba hx) q) (λi x Q' hx q=>JL (SqL.of e) (by rw[U_];exact ba hx) q) r' r okd lm (λz=>h1 (by rw[z])) (λz=>h2 λq=>z (Dat.list.inj q)) rfl
end Sm
namespace Vs
open PySem L2 Fr G1 Sm
open PySem.W (Dat kqdOk)
abbrev eO(hs:List (List Int))(h:List Int):List (List Int):=if h∈hs then hs else hs++[h]
abbrev qV(hs:List (List Int))(ts:List Tn):List (List Int):=ts.foldl (λhs t=>eO (eO hs t.fr) t.to) hs
abbrev Pk(ts:List Tn):List (List Int):=qV [] ts
def yU(hs:List (List Int))(h:List Int):(eO hs h).length<=Wi hs+1:=by
 unfold eO;split
 .lia
 .simp
def yV:∀(ts:List Tn) (hs:List (List Int)),(qV hs ts).length<=Wi hs+2*Wi ts
 |[],hs=>by simp[qV]
 |t :: ts,hs=>by
  have h1:=yV ts (eO (eO hs t.fr) t.to);have h2:=yU (eO hs t.fr) t.to;have h3:=yU hs t.fr;show(qV (eO (eO hs t.fr) t.to) ts).length<=_;rw[Ux];lia
def Fi(hs:List (List Int))(ts:List Tn)(t:Tn):qV hs (ts++[t])=eO (eO (qV hs ts) t.fr) t.to:=by
 unfold qV;rw[VS];rfl
abbrev r_(h:List Int):List Key:=h.map Yu
def BH(h:List Int):(r_ h).map kV=h.map V.int:=by
 unfold r_;rw[UV];rfl
def Kg(h:r_ a=r_ b):a=b:=(Za1 (λx y e=>Yu.inj e)).mp h
def tq{dk:List (List Key×V)}{hs:List (List Int)}(e:dk.map (·.1)=hs.map r_)(h:List Int)(v:V):(c6 dk (r_ h) v).map (·.1)=(eO hs h).map r_:=by
 have any:(dk.any λkv=>decide (kv.1=r_ h))=decide (h∈hs):=by
  rw[Xw,Zu,decide_eq_true_iff];constructor
  .rintro⟨kv,hm,q⟩
   have:kv.1∈hs.map r_:=by rw[<- e];exact Te.mpr ⟨kv,hm,rfl⟩
   obtain⟨g,hg,eg⟩:=Te.mp this;rw[of_decide_eq_true q] at eg;rw[<- Kg eg];exact hg
  .intro hm
   have:r_ h∈dk.map (·.1):=by rw[e];exact Te.mpr ⟨h,hm,rfl⟩
   obtain⟨kv,hk,ek⟩:=Te.mp this;exact⟨kv,hk,decide_eq_true ek⟩
 unfold c6 eO;rw[any];by_cases z:h∈hs
 .rw[if_pos z,decide_eq_true z,if_pos rfl,UV,<- e];refine Wy λkv _=>?_
  show(if kv.1=r_ h then (kv.1,v) else kv).1=kv.1;split <;> rfl
 .rw[if_neg z,decide_eq_false z,if_neg Th,SV,SV,e];rfl
def EL{K:Fg}{H:Hp}:∀{dk:List (List Key×V)} {hs:List (List Int)} {bs:List Addr},dk.map (·.1)=hs.map r_->Paired (λ(p:List Key×V) b=>H b=some (.tup (p.1.map kV))) dk bs->RzL K H (bs.map V.ref) (hs.map dI)
 |[],[],_,_,.nil=>.nil
 |[],h :: hs,_,e,_=>by simp at e
 |kv :: dk,[],_,e,_=>by simp at e
 |kv :: dk,h :: hs,_,e,.cons q t=>by
  have e1:kv.1=r_ h:=(Vt e).1;have e2:=(Vt e).2;rw[e1,BH] at q;exact .cons (.tup q (RpL.ints h)) (EL e2 t)
abbrev kR(K:Fg):Sp:=λvs H Q _=>∃(v:V) (ts:List Tn),vs=[v]/\Rz K H v (.tuple (ts.map dT))/\ts.length<=100/\∀(p:Addr) (H':Hp),AccZ K H p H' ((Pk ts).map dI)->Q (.ref p) H'
abbrev kD(K:Fg):TS:=(ak (aA Jm (aj 1))
 (ak (bS (gi K (aa 0)) (aj 2)
 (ak (Dj (aa 1) (ao (aH K) (aa 2) (tC (.int 0))) (tC (.bl true)))
 (Dj (aa 1) (ao (aH K) (aa 2) (tC (.int 1))) (tC (.bl true)))))
 (aC (aX Ju (ac (aa 1) ae)))))
def jV{K:Fg}(h:Rz K H v (dT t)):∃(a:Addr) (v1 v2 v3:V),v=.ref a/\H a=some (.tup [v1,v2,v3])/\Rz K H v1 (dI t.fr)/\Rz K H v2 (dI t.to)/\Rz K H v3 (dI [t.q,t.d]):=by
 obtain⟨a,xs,e,ha,r⟩:=h.bI;cases r with
 |cons r1 r =>
  cases r with
  |cons r2 r =>
   cases r with
   |cons r3 r =>
    cases r;exact⟨a,_,_,_,e,ha,r1,r2,r3⟩
def cB{K:Fg}(h:Rz K H v (dI ns)):∃a:Addr,v=.ref a/\H a=some (.tup (ns.map V.int)):=by
 obtain⟨a,xs,e,ha,r⟩:=h.bI;rw[RpL.ints_of r] at ha;exact⟨a,e,ha⟩
def AE{K:Fg}{N:List Str}(hN:Wi N=3)(h:kR K vs H Q E):kD K (ends Q) (L2.start N vs) H:=by
 obtain⟨v,ts,rfl,rv,hl,k⟩:=h;obtain⟨a,xs,rfl,ha,rx⟩:=rv.bI;rw[L2.aK hN];walk_at "t";have lx:Wi xs=ts.length:=by rw[rx.length,SJ]
 unfold kD;cbv;intro d nd;cbv;refine OJ (SqT.of ((af nd _) _ _ ha)) ?_;refine Fy (xs:=xs) (λi σ H2=>∃(dk:List (List Key×V)) (u:Option V),σ=[⇑a,⇑d,u]/\Same H H2/\H2 d=some (.dT dk)/\dk.map (·.1)=(Pk (ts.take i)).map r_) ⟨[],none,rfl,af nd _,ag,rfl⟩ ?_ ?_ ?_
 .rintro i σ H2 _ ⟨dk,u,rfl,S,ed,ek⟩;exact SqT.of (S _ _ ha)
 .rintro i z σ H2 hz ⟨dk,u,rfl,S,ed,ek⟩;obtain⟨dd,g1,g2⟩:=rx.get hz;rw[SO] at g1;obtain⟨t,ht,rfl⟩:=SU.mp g1;obtain⟨at_,v1,v2,v3,rfl,hat,r1,r2,_⟩:=jV (g2.same S);obtain⟨b1,rfl,hb1⟩:=cB r1;obtain⟨b2,rfl,hb2⟩:=cB r2;have ti:i<ts.length:=(SL.mp ht).1;have kl:Wi dk=(Pk (ts.take i)).length:=by have:=congrArg Wi ek;simpa using this
  have hl2:=yV (ts.take i) [];rw[Ta] at hl2;have kl2:Wi dk<=2*i:=by rw[kl];unfold Pk;simp only[ZbW] at hl2;lia
  have e1:=tq ek t.fr (.bl true);have e2:=tq e1 t.to (.bl true);have le1:=gQ dk (r_ t.fr) (.bl true);have n1:b1≠d:=Ib hb1 ed (by intro z;cases z);have n2:b2≠d:=Ib hb2 ed (by intro z;cases z);have n3:at_≠d:=Ib hat ed (by intro z;cases z);cbv;refine aN (SqT.of hat) (v:=.ref b1) rfl ?_;refine⟨d,_,rfl,DPut.t ed (k:=r_ t.fr) (by rw[BH];exact hb1) (am ∅),?_⟩;cbv;refine aN (SqT.of (by rw[aJ n3];exact hat)) (v:=.ref b2) rfl ?_;refine⟨d,_,rfl,DPut.t ag (k:=r_ t.to) (by rw[BH,aJ n2];exact hb2) (am ∅),?_⟩;rw[Ke];refine⟨_,_,rfl,λb o q=>?_,ag,?_⟩
  .rw[aJ (ar q nd)];exact S _ _ q
  .rw[e2];congr 1;have et:ts.take (i+1)=ts.take i++[t]:=by rw[Tc,ht];rfl
   rw[et];exact(Fi [] (ts.take i) t).symm
 .rintro σ H2 ⟨dk,u,rfl,S,ed,ek⟩;rw[lx,SX (SR _)] at ek;cbv;refine⟨d,dk,rfl,ed,λl bs nl pr=>?_⟩;have S2:=af nl (.lst (bs.map V.ref));exact k l _ ⟨S.trans S2,S.free nl,_,ag,(EL ek pr).same S2⟩
def jU{K:Fg}(h:Rz K H v (dV ws ts)):∃(a:Addr) (v1 v2:V),v=.ref a/\H a=some (.tup [v1,v2])/\Rz K H v1 (.tuple (ws.map UI))/\Rz K H v2 (.tuple (ts.map dT)):=by
 obtain⟨a,xs,e,ha,r⟩:=h.bI;cases r with
 |cons r1 r =>
  cases r with
  |cons r2 r =>
   cases r;exact⟨a,_,_,e,ha,r1,r2⟩
end Vs
namespace G2
open PySem L2 Fr G1
open PySem.W (Dat kqdOk)
abbrev SF(n:Int):Prop:=0<=n/\n<2147483587
abbrev gq:Sp:=λvs H Q _=>∃c p:Int,vs=[.int c,.int p]/\0<=p/\p<=1000/\∀m:Int,SF m->Q (.int m) H
nonrec def GJ(K:Fg):TS:=(ak (aA (ao bp (ao bG (ao bG (ao (rI CMul λi j=>.int (i*j)) (aa 2) (aa 2)) (ao (rI CMul λi j=>.int (i*j)) (tC (.int 48271)) (aa 1))) (tC (.int 7))) (tC (.int 2147483629))) (aj 2))
 (aC (ao bp (ao bG (ao (rI CMul λi j=>.int (i*j)) (aa 2) (aa 2)) (tC (.int 69621))) (tC (.int 2147483587)))))
abbrev B1(K:Fg):TS:=(ak (aA (ao bp (ao bG (ao bG (ao (rI CMul λi j=>.int (i*j)) (ao bp (aa 0) (tC (.int 2147483629))) (tC (.int 16807))) (ao (rI CMul λi j=>.int (i*j)) (tC (.int 69621)) (aa 1))) (tC (.int 11))) (tC (.int 2147483629))) (aj 2))
 (GJ K))
def KW{K:Fg}{N:List Str}(hN:Wi N=3)(h:gq vs H Q E):B1 K (ends Q) (L2.start N vs) H:=by
 obtain⟨c,p,rfl,h0,h1,k⟩:=h;rw[L2.aK hN];walk_at "t";unfold B1;cbv;generalize hx:(c % 2147483629*16807+69621*p+11) % 2147483629=x;have x0:0<=x/\x<2147483629:=by lia
 cbv;generalize hy:(x*x+48271*p+7) % 2147483629=y;have y0:0<=y/\y<2147483629:=by lia
 cbv;exact k _ ⟨∅,∅⟩
abbrev Cq(K:Fg):TS:=(ak (kG (aO (ao yu (aa 1) (tC (.int 0))))
 (M9 0 1 (ac (aa 1) (ac (ao NE (aa 0) (aa 1)) ae))))
 (aC (aX NJ (ac (aa 0) ae))))
def K2{K:Fg}{N:List Str}(hN:Wi N=2)(h:v_ vs H Q E):Cq K (ends Q) (L2.start N vs) H:=by
 obtain⟨a,b,rfl,k⟩:=h;rw[L2.aK hN];walk_at "t";unfold Cq
 refine xV (λσ H'=>H'=H/\∃i j:Int,σ=[↥i,↥j]/\Gd.gd i j=Gd.gd a b)
  (λσ _=>match σ with | [_,↥j]=>j.natAbs|_=>0) ⟨rfl,a,b,rfl,rfl⟩ ?_ ?_
 .rintro σ H' ⟨rfl,i,j,rfl,e⟩;refine⟨_,rfl,rfl,_,rfl,Pd (λhj=>?_) (λhj=>?_)⟩
  .refine⟨_,rfl,_,rfl,_,rfl,_,_,rfl,rfl,hj,_,_,rfl,⟨rfl,j,i.fmod j,rfl,(Gd.Fn i j).trans e⟩,?_⟩;exact Gd.Fo hj
  .subst hj;refine⟨_,rfl,_,rfl,?_⟩;rw[Gd.JS,e];exact k
 .rintro σ H' R R' h ⟨v,e,sc,c,ec,q⟩;exact⟨v,e,sc,c,ec,h _ _ q⟩
abbrev Cb(K:Fg):TS:=(ak (aA (aw v_ [] E0 (ac (aa 0) (ac (aa 1) ae))) (aj 2))
 (aC (cP (ac (ao jN (aa 0) (aa 2)) (ac (ao jN (aa 1) (aa 2)) ae)))))
def K0{K:Fg}{N:List Str}(hN:Wi N=3)(h:yh K vs H Q E):Cb K (ends Q) (L2.start N vs) H:=by
 obtain⟨t,b,rfl,t0,b0,t1,b1,k⟩:=h;rw[L2.aK hN];walk_at "t";unfold Cb;cbv;refine⟨t,b,rfl,?_⟩;have nb:b≠0:=by lia
 have gp:=Gd.oH (a:=t) nb;have gl:=Gd.Mr (a:=t) nb;have wd:(Gd.gd t b).natAbs<2 ^ 9000:=Gd.wide ∅;have L:=Gd.JG (t:=t) (b:=b) (d:=Gd.gd t b) nb (.inl ⟨rfl,b0⟩);have M:=Gd.LY (t:=t) (b:=b) (d:=Gd.gd t b) nb (.inl ⟨rfl,b0⟩);cbv;refine ul ⟨∅,wd⟩ ?_;cbv;refine ul ⟨∅,wd⟩ ?_;cbv;refine⟨bF,λp np=>?_⟩
 have q0:0<t.fdiv (Gd.gd t b):=by
  have w:=L.worth
  have:=L.pos
  by_cases z:0<t.fdiv (Gd.gd t b)
  .exact z
  .have h1:t.fdiv (Gd.gd t b)*b<=0:=Int.mul_nonpos_of_nonpos_of_nonneg ∅ ∅;have h2:0<t*b.fdiv (Gd.gd t b):=Wn t0 L.pos;lia
 have:=L.pos
 exact k p _ _ _ (af np _) ⟨q0,L.pos,L.low,∅,∅⟩ (.tup ag (RpL.ints [_,_]))
abbrev vZ(K:Fg):Sp:=λvs H Q _=>∃a b:Int,vs=[.int a,.int b]/\∀(p:Addr) (q d:Int) (H':Hp),Same H H'->fS q d->Rz K H' (.ref p) (dI [q,d])->Q (.ref p) H'
nonrec def BX(K:Fg):TS:=(aC (aw (yh K) [] E0 (ac (ao bG (tC (.int 1)) (ao bp (aa 0) (ao wE (tC (.int 10)) (tC (.int 9))))) (ac (ao bG (tC (.int 1)) (ao bp (ao d7 (aa 0) (ao wE (tC (.int 10)) (tC (.int 9)))) (ao wE (tC (.int 10)) (tC (.int 9))))) ae))))
nonrec def BW(K:Fg):TS:=(ak (aM (aO (ao fu (aa 1) (tC (.int 1))))
 (aC (aw (yh K) [] E0 (ac (ao bG (tC (.int 1)) (ao bp (aa 0) (tC (.int 6)))) (ac (ao bG (tC (.int 1)) (ao bp (ao d7 (aa 0) (tC (.int 6))) (tC (.int 5)))) ae))))
 aP)
 (BX K))
abbrev vF(K:Fg):TS:=(ak (aM (aO (ao fu (aa 1) (tC (.int 0))))
 (aC (cP (ac (tC (.int 1)) (ac (tC (.int 1)) ae))))
 aP)
 (BW K))
def p9:(10:Int) ^ (9:Int).toNat=1000000000:=by decide +kernel
def RS:Gd.gd 1 1=1:=by decide +kernel
def Hn{K:Fg}{N:List Str}(hN:Wi N=2)(h:vZ K vs H Q E):vF K (ends Q) (L2.start N vs) H:=by
 obtain⟨a,b,rfl,k⟩:=h;rw[L2.aK hN];walk_at "t";unfold vF;cbv;refine aV (λz=>?_) (λz=>?_)
 .cbv;refine⟨bF,λp np=>?_⟩;exact k p 1 1 _ (af np _) ⟨by decide,by decide,RS,by decide,by decide⟩ (.tup ag (RpL.ints [1,1]))
 cbv;refine aV (λz=>?_) (λz=>?_)
 .cbv;exact⟨_,_,rfl,∅,∅,∅,∅,k⟩
 .cbv;rw[p9];cbv;rw[p9];cbv;rw[p9];cbv;exact⟨_,_,rfl,∅,∅,∅,∅,k⟩
abbrev pS(K:Fg):Sp:=λvs H Q _=>∃n m:Int,vs=[.int n,.int m]/\0<=n/\1<=m/\m<=5/\∀(p:Addr) (H':Hp) (ws:List Str),Same H H'->rK ws->Wi ws=m.toNat->Rz K H' (.ref p) (.tuple (ws.map UI))->Q (.ref p) H'
def J9:∀j:Nat,j<4->(m4 "xyz" none (some (j:Int))).length<=3/\Low (m4 "xyz" none (some (j:Int))):=by
 intro j hj;have sl:=G5 ("xyz":Str) none (some (j:Int));have l3:(("xyz":Str)).length=3:=by decide +kernel
 refine⟨?_,LX ?_⟩
 .rw[sl];simp only[Mp,Ta,b5,l3,Option.getD];lia
 .intro x hx
  have:(("xyz":Str)).cps.toList=[120,121,122]:=by decide +kernel
  rw[this] at hx;simp only[Tu,UA,or_false] at hx;lia
def mI(a b:Str):(a++b).cps.toList=a.cps.toList++b.cps.toList:=by
 show(a.cps++b.cps).toList=_;exact ZaB
def ED(h1:Low a)(h2:Low b):Low (a++b):=λx hx=>by
 rw[mI] at hx;rcases Tv.mp hx with q|q
 .exact h1 x q
 .exact h2 x q
nonrec def zL (K:Fg):TS:=(bV (eJ K "list" aS (aa 3) (ac (ao gL (ao gL (aa 5) (CA NA (tC (.str "xyz")) fz (g6 (ao bp (ao d7 (aa 0) (tC (.int 26))) (tC (.int 4)))))) (ao La (aa 5) (ao bp (ao d7 (aa 0) (tC (.int 104))) (tC (.int 2))))) ae)))
nonrec def zK(K:Fg):TS:=(ak (bS (fe (ac (aa 1) ae)) (aj 4)
 (ak (aA (ao Hz (aa 2) (ao bp (ao bG (aa 0) (ao (rI CMul λi j=>.int (i*j)) (tC (.int 5)) (aa 4))) (tC (.int 26)))) (aj 5))
 (zL K)))
 (aC (aX (bX K) (ac (aa 3) ae))))
abbrev o5 (K:Fg):TS:=(ak (aA (tC (.str "abcdefghijklmnopqrstuvwxyz")) (aj 2))
 (ak (aA (cS ae) (aj 3))
 (zK K)))
def Dq{K:Fg}{N:List Str}(hN:Wi N=6)(h:pS K vs H Q E):o5 K (ends Q) (L2.start N vs) H:=by
 obtain⟨n,m,rfl,n0,m1,m5,k⟩:=h;rw[L2.aK hN];walk_at "t";unfold o5;cbv;refine⟨by decide,λl nl=>?_⟩;cbv
 refine cR (λi σ H2=>∃(ws:List Str) (v4 v5:Option V),σ=[↥n,↥m,some (.str az),⇑l,v4,v5]/\AccZ K H l H2 (ws.map UI)/\ws.length=i/\rK ws /\
   ∀(j:Nat) (w:Str),ws[j]?=some w->w.cps.toList[0]?=some (97+((n+5*(j:Int)) % 26).toNat))
  ⟨[],none,none,rfl,AccZ.start (Same.refl _) nl,rfl,⟨Vj,by simp⟩,by simp⟩ ?_ ?_
 .rintro i σ H2 hi ⟨ws,v4,v5,rfl,A,hl,hw,hj⟩;have e0:(0:Int)+(i:Int)=(i:Int):=by lia
  rw[e0];have f0:=U3 (n+5*(i:Int)) (b:=26) ∅;have f1:=UF (n+5*(i:Int)) (b:=26) ∅;cbv;refine Rv PZ (R4 f0 f1) ?_;have lf:=LW (c:=97+((n+5*(i:Int)) % 26).toNat) ∅ ∅;have len1:(⟨#[97+((n+5*(i:Int)) % 26).toNat]⟩:Str).length=1:=rfl;have hd1:(⟨#[97+((n+5*(i:Int)) % 26).toNat]⟩:Str).cps.toList[0]?=some (97+((n+5*(i:Int)) % 26).toNat):=rfl;generalize hf:(⟨#[97+((n+5*(i:Int)) % 26).toNat]⟩:Str)=fw at lf len1 hd1 ⊢;cbv;refine⟨A.ty,?_⟩;cbv;have j0:0<=n / 26 % 4:=by lia
  have ej:n / 26 % 4=(((n / 26 % 4).toNat:Nat):Int):=by lia
  have xc:=J9 (n / 26 % 4).toNat ∅;rw[<- ej] at xc;refine⟨_,rfl,by decide +kernel,trivial,j0,?_⟩;generalize m4 "xyz" none (some (n / 26 % 4))=mid at xc ⊢;refine gt (by rw[len1,show sizeLine=16777216 by decide];lia) ?_;cbv;refine OM ∅ ?_;generalize he:(if n / 104 % 2=0 then Ue else fw)=tl
  have tlo:tl.length<=1/\Low tl:=by
   rw[<- he];split
   .exact⟨by decide,λx hx=>by cases hx⟩
   .exact⟨∅,lf⟩
  have lnew:(fw++mid++tl).length=fw.length+mid.length+tl.length:=by rw[TF,TF]
  refine gt (by rw[TF,len1,show sizeLine=16777216 by decide];lia) ?_;cbv;refine cZ A (.str _) (am (by rw[SJ];lia)) λH3 A3 _ _ _=>?_
  have hd2:(fw++mid++tl).cps.toList[0]?=some (97+((n+5*(i:Int)) % 26).toNat):=by
   rw[mI,mI,Ut,TU (by rw[b5,len1];lia)];exact hd1
  cbv;refine⟨ws++[fw++mid++tl],_,_,rfl,by rw[SV];exact A3,by simp[hl],⟨eA hw.1 λhx=>?_,gh hw.2 ⟨∅,∅,ED (ED lf xc.2) tlo.2⟩⟩,λj w e=>?_⟩
  .obtain⟨j,hj1,hj2⟩:=VO.mp hx;have g:=hj j _ (by rw[SN hj1,hj2]);rw[hd2] at g;have g':=TH g;omega
  .by_cases lt:j<Wi ws
   .rw[TU lt] at e;exact hj j w e
   .rw[TV ∅] at e
    have z:j-Wi ws=0:=by
     rcases YM (j-Wi ws) with z|z
     .exact z
     .rw[TL (by simp;lia)] at e;cases e
    rw[z] at e;have e':fw++mid++tl=w:=by simpa using e
    have ej2:j=i:=by lia
    rw[<- e',ej2];exact hd2
 .rintro σ H2 ⟨ws,v4,v5,rfl,A,hl,hw,hj⟩;have e:=AccZ.strs A;cbv;refine dF (SqL.of e) λp np=>?_
  exact k p _ ws (A.same.trans (af np _)) hw hl (.tup ag (RpL.strs ws))
abbrev v0(K:Fg):Sp:=λvs H Q _=>∃(c k m t:Int) (pl:Bool),vs=[.int c,.int k,.int m,.int t,.bl pl]/\0<=k/\k<=100/\0<=m/\m<=5/\2<=t/\t<=4/\∀(p:Addr) (H':Hp) (hs:List Int),Same H H'->cI m.toNat hs->Rz K H' (.ref p) (dI hs)->Q (.ref p) H'
nonrec def Ck(K:Fg):TS:=(aM (tB (aa 4))
 (ak (bV (eJ K "list" aS (aa 6) (ac (ao bp (aa 5) (aa 3)) ae)))
 (aA (ao d7 (aa 5) (aa 3)) (aj 5)))
 (bV (eJ K "list" aS (aa 6) (ac (ao bp (aw gq [] E0 (ac (aa 0) (ac (ao bG (ao (rI CMul λi j=>.int (i*j)) (tC (.int 5)) (aa 1)) (aa 7)) ae))) (aa 3)) ae))))
nonrec def Cj(K:Fg):TS:=(ak (aM (aO (ao wH (aa 1) (tC (.int 5))))
 (aA (ao d7 (aa 0) (tC (.int 1024))) (aj 5))
 aP)
 (ak (aA (cS ae) (aj 6))
 (ak (bS (fe (ac (aa 2) ae)) (aj 7)
 (Ck K))
 (aC (aX (bX K) (ac (aa 6) ae))))))
abbrev vL(K:Fg):TS:=(ak (aA (aa 0) (aj 5))
 (Cj K))
def Hr{K:Fg}{N:List Str}(hN:Wi N=8)(h:v0 K vs H Q E):vL K (ends Q) (L2.start N vs) H:=by
 obtain⟨c,kk,m,t,pl,rfl,k0,k1,m0,m5,t2,t4,k⟩:=h;rw[L2.aK hN];walk_at "t";unfold vL;cbv;have rest:∀z0:Int,(ak (aA (cS ae) (aj 6)) (ak (bS (fe (ac (aa 2) ae)) (aj 7)
 (aM (tB (aa 4))
 (ak (bV (eJ K "list" aS (aa 6) (ac (ao bp (aa 5) (aa 3)) ae)))
 (aA (ao d7 (aa 5) (aa 3)) (aj 5)))
 (bV (eJ K "list" aS (aa 6) (ac (ao bp (aw gq [] E0 (ac (aa 0) (ac (ao bG (ao (rI CMul λi j=>.int (i*j)) (tC (.int 5)) (aa 1)) (aa 7)) ae))) (aa 3)) ae)))))
 (aC (aX (bX K) (ac (aa 6) ae))))) (ends Q) [↥c,↥kk,↥m,↥t,some (.bl pl),↥z0,none,none] H:=by
  intro z0;cbv;refine⟨by decide,λl nl=>?_⟩;cbv;refine cR (λi σ H2=>∃(ns:List Int) (z:Int) (v:Option V),σ=[↥c,↥kk,↥m,↥t,some (.bl pl),↥z,⇑l,v]/\AccZ K H l H2 (ns.map TW)/\cI i ns) ⟨[],z0,none,rfl,AccZ.start (Same.refl _) nl,rfl,by simp⟩ ?_ ?_
  .rintro i σ H2 hi ⟨ns,z,v,rfl,A,hl,hb⟩
   have one:∀x:Int,cI (i+1) (ns++[x % t]):=λx=>⟨by simp[hl],λy hy=>by
    rcases Tv.mp hy with q|q
    .exact hb y q
    .rw[Tf.mp q]
     have e1:=U3 x (b:=t) ∅
     have e2:=UF x (b:=t) ∅
     exact⟨∅,∅⟩⟩
   cbv;cases pl with
   |true =>
    cbv;refine⟨A.ty,?_⟩;cbv;refine cZ A (.int _) (am (by rw[SJ];lia)) λH3 A3 _ _ _=>?_
    cbv;exact⟨ns++[z % t],_,_,rfl,by simpa using A3,one z⟩
   |false =>
    cbv;refine⟨A.ty,?_⟩;cbv;refine⟨c,5*kk+(0+(i:Int)),rfl,∅,∅,λx hx=>?_⟩;cbv;refine cZ A (.int _) (am (by rw[SJ];lia)) λH3 A3 _ _ _=>?_
    cbv;exact⟨ns++[x % t],_,_,rfl,by simpa using A3,one x⟩
  .rintro σ H2 ⟨ns,z,v,rfl,A,hh⟩;cbv;have e:=AccZ.ints A;refine dF (SqL.of e) λp np=>?_
   exact k p _ ns (A.same.trans (af np _)) hh (.tup ag (RpL.ints ns))
 refine aV (λ_=>?_) (λ_=>?_)
 .fail "1";fail "1";fail "1";fail "1";fail "1";fail "1";exact rest _
 .exact rest _
def Ja{K:Fg}(S:Same H H3)(A:AccZ K H3 l H' ds):AccZ K H l H' ds:=⟨S.trans A.same,S.free A.new,A.at_⟩
abbrev fC(h1:Int)(m:Nat):List Int:=(TC m).map λj=>if j=0 then (if decide (h1=0)=true then 1 else 0) else 0
abbrev vW(K:Fg):Sp:=λvs H Q _=>∃(a:Addr) (ns:List Int) (t m s tp:Int) (pl:Bool),vs=[.ref a,.int t,.int m,.int s,.int tp,.bl pl]/\SqL K H a (ns.map V.int)/\0<=t/\1<=m/\m<=5/\2<=s/\s<=8/\2<=tp/\tp<=4 /\
 ∀(p:Addr) (H':Hp) (hs:List (List Int)),AccZ K H p H' (hs.map dI)->Gc m.toNat hs->2<=Wi hs->Wi hs<=8->Q (.ref p) H'
nonrec def BS(K:Fg):TS:=(ak (aA (aw (v0 K) [] E0 (ac (aw (hJ K) [] E0 (ac (aa 0) (ac (ao bG (aa 1) (ao bp (aa 7) (tC (.int 6)))) ae))) (ac (aa 7) (ac (aa 2) (ac (aa 4) (ac (aa 5) ae)))))) (aj 8))
 (aM (aO (ao (HA K true) (aa 8) (aa 6)))
 (bV (eJ K "list" aS (aa 6) (ac (aa 8) ae)))
 aP))
nonrec def BR (K:Fg):TS:=(bV (eJ K "list" aS (aa 6) (ac (aX (bX K) (ac (bT (fe (ac (aa 2) ae)) (aX Ld (ac (mY (ao fu (aa 0) (tC (.int 0))) (ao fu (ao (aH K) (ao (cQ K) (aa 7) (tC (.int 0))) (tC (.int 0))) (tC (.int 0)))) ae))) ae)) ae)))
abbrev vC(K:Fg):TS:=(ak (aA (cS ae) (aj 6))
 (ak (bS (fe (ac (aa 3) ae)) (aj 7)
 (BS K))
 (ak (aM (aO (ao fu (aX (bf K) (ac (aa 6) ae)) (tC (.int 1))))
 (BR K)
 aP)
 (aC (aa 6)))))
def Hk{K:Fg}{N:List Str}(hN:Wi N=9)(h:vW K vs H Q E):vC K (ends Q) (L2.start N vs) H:=by
 obtain⟨a,ns,t,m,s,tp,pl,rfl,hS,t0,m1,m5,s2,s8,p2,p4,k⟩:=h;rw[L2.aK hN];walk_at "t";unfold vC;cbv;refine⟨by decide,λl nl=>?_⟩;cbv
 refine cR (λi σ H2=>∃(hs:List (List Int)) (v7 v8:Option V),σ=[⇑a,↥t,↥m,↥s,↥tp,some (.bl pl),⇑l,v7,v8]/\AccZ K H l H2 (hs.map dI)/\hs.length<=i/\Gc m.toNat hs/\(0<i->hs≠[]))
  ⟨[],none,none,rfl,AccZ.start (Same.refl _) nl,SR _,⟨Vj,by simp⟩,by simp⟩ ?_ ?_
 .rintro i σ H2 hi ⟨hs,v7,v8,rfl,A,hl,hp,_⟩;cbv;refine⟨a,ns,t+(0+(i:Int)) % 6,rfl,A.same.seq hS,∅,?_⟩;generalize cellOf ns (t+(0+(i:Int)) % 6)=c1;cbv;refine⟨c1,0+(i:Int),m,tp,pl,rfl,∅,∅,∅,∅,p2,p4,λph H4 h S4' oh rh=>?_⟩;have A4:=A.on S4';cbv;refine yR rh.rep A4.rep (λe he=>by obtain⟨b,_,rfl⟩:=Te.mp he;exact tZ b 7) (tZ h 7) (λnm=>?_) (λmm=>?_)
  .cbv;refine⟨A4.ty,?_⟩;cbv;refine cZ A4 rh (am (by rw[SJ];lia)) λH5 A5 _ _ _=>?_
   cbv;exact⟨hs++[h],_,_,rfl,by rw[SV];exact A5,by simp;lia,⟨eA hp.1 λz=>nm (Os.mpr z),gh hp.2 oh⟩,by simp⟩
  .cbv;exact⟨hs,_,_,rfl,A4,∅,hp,λ_ z=>by rw[z] at mm;cases mm⟩
 .rintro σ H2 ⟨hs,v7,v8,rfl,A,hl,hp,hne⟩;have ne:=hne ∅;obtain⟨xs,sx,lx,rx⟩:=A.sq;rw[SJ] at lx;cbv;refine bP sx ?_;cbv;refine aV (λfew=>?_) (λfew=>?_)
  .have l1:Wi hs=1:=by lia
   obtain⟨h,rfl⟩:∃x,hs=[x]:=U6.mp l1;have oh:=hp.2 h (by simp);obtain⟨h1,hr,eh⟩:∃h1 hr,h=h1 :: hr:=WE (by have:=oh.1;lia);obtain⟨v,ev,rv⟩:=RpL.get' (i:=0) rx (d:=dI h) rfl;obtain⟨ah,ys,e1,sh,rh⟩:=rv.M7;cases e1;cases RpL.ints_of rh;cbv;refine⟨A.ty,?_⟩;cbv;refine cG λDl nD=>⟨λj H4=>AccZ K H2 Dl H4 ((fC h1 j).map TW),AccZ.start (Same.refl _) nD,?_,?_⟩
   .intro j H4 hj B
    have put:∀x:Int,x=(if j=0 then (if decide (h1=0)=true then 1 else 0) else 0)->mK Dl m.toNat j (λj H4=>AccZ K H2 Dl H4 ((fC h1 j).map TW)) (.int x) H4:=by
     intro x ex;refine aI hj (B.bA (.int x) (am ?_) λH5 B5=>?_)
     .rw[SJ];unfold fC;rw[SJ,TD];lia
     .show AccZ K H2 Dl H5 ((fC h1 (j+1)).map TW);unfold fC;rw[WW,SV,SV,Za2,Za2,<- ex];exact B5
    cbv;refine aV (λj0=>?_) (λj0=>?_)
    .cbv;refine dm (B.same.seq sx) (ba (j:=0) ev) ?_;cbv;refine aN (B.same.seqT sh) (v:=.int h1) (ba (j:=0) (by rw[eh];rfl)) ?_;cbv;refine put _ ?_;rw[if_pos (show j=0 by lia)]
    .cbv;refine put _ ?_;rw[if_neg (show ¬ j=0 by lia)];rfl
   .intro H4 B;have eB:=AccZ.ints B;cbv;refine dF (SqL.of eB) λp np=>?_
    cbv;have Sp:=af np (.tup ((fC h1 m.toNat).map V.int));have A5:=(A.on B.same).on Sp;refine cZ A5 (d:=dI (fC h1 m.toNat)) (.tup ag (RpL.ints _)) (am (by simp)) λH6 A6 _ _ _=>?_
    cbv
    have e0:(fC h1 m.toNat)[0]?=some (if decide (h1=0)=true then 1 else 0):=by
     unfold fC;rw[SO,TR ∅];rfl
    refine k l H6 ([h]++[_]) (by rw[SV];exact A6) ⟨eA hp.1 λz=>?_,gh hp.2 ⟨?_,λx hx=>?_⟩⟩ (by simp) (by simp)
    .have z':=Tf.mp z;rw[z',eh] at e0;have z2:h1=(if decide (h1=0)=true then 1 else 0):=TH e0;by_cases h10:h1=0
     .rw[decide_eq_true h10] at z2;simp at z2;lia
     .rw[decide_eq_false h10] at z2;simp at z2;lia
    .unfold fC;rw[SJ,TD]
    .unfold fC at hx;obtain⟨j,_,rfl⟩:=Te.mp hx;split
     .split <;> decide
     .decide
  .cbv
   have:0<Wi hs:=VA.mpr ne
   exact k l H2 hs A hp ∅ ∅
abbrev J0(p:Int×Int):Dat:=dI [p.1,p.2]
abbrev FP(s:Int)(p:Int×Int):Prop:=0<=p.1/\p.1<s/\0<=p.2/\p.1≠p.2
abbrev pX(K:Fg):Sp:=λvs H Q _=>∃(a:Addr) (ns:List Int) (t s kd:Int) (pl:Bool),vs=[.ref a,.int t,.int s,.int kd,.bl pl]/\SqL K H a (ns.map V.int)/\0<=t/\2<=s/\s<=8/\0<=kd/\kd<=3 /\
 ∀(p:Addr) (H':Hp) (ps:List (Nat×Nat)),AccZ K H p H' (ps.map dP)->ps.Nodup->Wi ps<=8->ps≠[]->(∀q∈ps,zy s.toNat q)->Q (.ref p) H'
nonrec def zW(K:Fg):TS:=(ak (aM (pR (aO (ao fu (aa 3) (tC (.int 3)))) (aO (ao wH (aa 2) (tC (.int 3)))))
 (bV (eJ K "list" aS (aa 5) (ac (cP (ac (aa 6) (ac (ao bG (ao (rI CMul λi j=>.int (i*j)) (ao d7 (aa 6) (tC (.int 2))) (tC (.int 2))) (ao bp (ao bG (aa 6) (tC (.int 1))) (tC (.int 2)))) ae))) ae)))
 (aM (aO (ao wH (aa 3) (tC (.int 0))))
 (bV (eJ K "list" aS (aa 5) (ac (cP (ac (aa 6) (ac (aa 7) ae))) ae)))
 aP))
 (aM (aO (ao fu (aa 3) (tC (.int 2))))
 (bV (eJ K "list" aS (aa 5) (ac (cP (ac (aa 7) (ac (aa 6) ae))) ae)))
 aP))
nonrec def zV(K:Fg):TS:=(ak (aM (tB (aa 4))
 (ak (aA (ao bp (ao bp (ao d7 (aa 8) (tC (.int 5))) (tC (.int 8))) (aa 2)) (aj 9))
 (aA (ao bp (ao bp (ao d7 (aa 8) (tC (.int 40))) (tC (.int 8))) (ao nv (aa 2) (tC (.int 1)))) (aj 10)))
 aP)
 (bV (eJ K "list" aS (aa 5) (ac (cP (ac (aa 9) (ac (ao bp (ao bG (ao bG (aa 9) (tC (.int 1))) (aa 10)) (aa 2)) ae))) ae))))
nonrec def zU(K:Fg):TS:=(ak (aA (ao bp (aw gq [] E0 (ac (aa 8) (ac (tC (.int 50)) ae))) (aa 2)) (aj 9))
 (ak (aA (ao bp (aw gq [] E0 (ac (aa 8) (ac (tC (.int 51)) ae))) (ao nv (aa 2) (tC (.int 1)))) (aj 10))
 (zV K)))
nonrec def zT(K:Fg):TS:=(ak (aA (aw (hJ K) [] E0 (ac (aa 0) (ac (ao bG (aa 1) (aa 6)) ae))) (aj 8))
 (aM (Ac (aO (ao fu (aa 3) (tC (.int 0)))) (aO (ao fu (ao bp (aa 8) (tC (.int 5))) (tC (.int 1)))))
 (zU K)
 aP))
nonrec def zS(K:Fg):TS:=(aM (pR (aO (ao (HA K true) (cP (ac (aa 9) (ac (aa 12) ae))) (aa 11))) (pR (aO (ao yw (aa 12) (aa 2))) (aO (ao yw (aX (bf K) (ac (aa 11) ae)) (tC (.int 8))))))
 (bV (eJ K "list" aS (aa 11) (ac (cP (ac (aa 9) (ac (aa 12) ae))) ae)))
 aP)
nonrec def zR(K:Fg):TS:=(ak (bS (fe (ac (aa 2) ae)) (aj 6)
 (ak (aA (ao bp (ao bG (aa 6) (tC (.int 1))) (aa 2)) (aj 7))
 (zW K)))
 (ak (bS (fe (ac (tC (.int 8)) ae)) (aj 6)
 (zT K))
 (ak (aA (cS ae) (aj 11))
 (ak (bS (dB K (aa 5)) (bZ K 2 (aR (aj 9) (aR (aj 12) b4)))
 (zS K))
 (aC (aa 11))))))
abbrev pA(K:Fg):TS:=(ak (aA (cS ae) (aj 5))
 (zR K))
def oE{K:Fg}{fs:List (Int×Int)}{x y:Int}{Q:VK}(A:AccZ K H l H2 (fs.map J0))(n:Wi fs<=100)(k:∀H3,AccZ K H l H3 ((fs++[(x,y)]).map J0)->Q .non H3) :
  ([V.int x,.int y].length<=sizeLine/\∀p,H2 p=none->ae σ (upd H2 p (.tup [.int x,.int y])) λxs H3=>aS (.ref l) (.ref p :: xs) H3 Q):=by
 refine⟨bF,λp np=>?_⟩;have S:=af np (.tup [V.int x,.int y]);refine Io ?_;refine cZ (A.on S) (d:=J0 (x,y)) (.tup ag (RpL.ints [x,y])) (am (by rw[SJ];lia)) λH3 A3 _ _ _=>k H3 ?_
 rw[SV];exact A3
def jk{fs:List (Int×Int)}(h:∀q∈fs,FP s q)(n:FP s p):∀q∈fs++[p],FP s q:=gh h n
def On{n u v:Int}(h1:0<=u)(h2:u<n)(h3:0<=v)(h4:v<n-1):(u+1+v) % n≠u:=by
 intro e;by_cases z:u+1+v<n
 .rw[Zbo ∅ z] at e;lia
 .have e2:(u+1+v) % n=u+1+v-n:=by
   rw[<- Int.sub_emod_right,Zbo ∅ ∅]
  lia
def Fz{s:Int}{fs:List (Int×Int)}{p:Int×Int}(h:∃q∈fs,q.2<s):∃q∈fs++[p],q.2<s:=by
 obtain⟨q,h1,h2⟩:=h;exact⟨q,UB _ h1,h2⟩
def mr{s:Int}{fs:List (Int×Int)}{p:Int×Int}(h:p.2<s):∃q∈fs++[p],q.2<s:=⟨p,TJ _ (Tf.mpr rfl),h⟩
def DD{K:Fg}{N:List Str}(hN:Wi N=13)(h:pX K vs H Q E):pA K (ends Q) (L2.start N vs) H:=by
 obtain⟨a,ns,t,s,kd,pl,rfl,hS,t0,s2,s8,k0,k3,k⟩:=h;rw[L2.aK hN];walk_at "t";unfold pA;cbv;refine⟨by decide,λl nl=>?_⟩;cbv
 refine cR (λi σ H2=>∃(fs:List (Int×Int)) (v6 v7:Option V),σ=[⇑a,↥t,↥s,↥kd,some (.bl pl),⇑l,v6,v7,none,none,none,none,none]/\AccZ K H l H2 (fs.map J0)/\fs.length<=2*i/\(∀q∈fs,FP s q)/\(0<i->0<kd->∃q∈fs,q.2<s))
  ⟨[],none,none,rfl,AccZ.start (Same.refl _) nl,SR _,by simp,by simp⟩ ?_ ?_
 .rintro i σ H2 hi ⟨fs,v6,v7,rfl,A,hl,hf,hx⟩;have i8:(i:Int)<s:=by lia
  have hm0:=U3 (0+(i:Int)+1) (b:=s) ∅;have hm1:=UF (0+(i:Int)+1) (b:=s) ∅
  have hne:(0+(i:Int)+1) % s≠0+(i:Int):=by
   have z:=On (n:=s) (u:=0+(i:Int)) (v:=0) ∅ ∅ ∅ ∅;rw[VZ] at z;exact z
  have back:∀(gs:List (Int×Int)) (H3:Hp) (D':ca),AccZ K H l H3 (gs.map J0)->Wi gs<=2*i+1->(∀q∈gs,FP s q)->(0<kd->∃q∈gs,q.2<s) ->
    (∀σ' H',(∃(fs:List (Int×Int)) (v6 v7:Option V),σ'=[⇑a,↥t,↥s,↥kd,some (.bl pl),⇑l,v6,v7,none,none,none,none,none]/\AccZ K H l H' (fs.map J0)/\fs.length<=2*(i+1)/\(∀q∈fs,FP s q)/\(0<i+1->0<kd->∃q∈fs,q.2<s))->D'.nx σ' H') ->
    (aM (aO (ao fu (aa 3) (tC (.int 2))))
     (bV (eJ K "list" aS (aa 5) (ac (cP (ac (aa 7) (ac (aa 6) ae))) ae))) aP) D' [⇑a,↥t,↥s,↥kd,some (.bl pl),⇑l,some (.int (0+(i:Int))),some (.int ((0+(i:Int)+1) % s)),none,none,none,none,none] H3:=by
   intro gs H3 D' B lg fg xg fin;cbv;refine aV (λ_=>?_) (λ_=>?_)
   .cbv;refine⟨B.ty,?_⟩;cbv;refine oE B ∅ λH4 B4=>?_
    exact fin _ _ ⟨_,_,_,rfl,B4,by simp;lia,jk fg ⟨hm0,hm1,by dsimp only;lia,λe=>hne e⟩,λ_ z=>Fz (xg z)⟩
   .cbv;exact fin _ _ ⟨gs,_,_,rfl,B,∅,fg,λ_ z=>xg z⟩
  cbv;refine aV (λe3=>?_) (λe3=>?_)
  .cbv;refine aV (λs3=>?_) (λs3=>?_)
   .cbv;refine⟨A.ty,?_⟩;cbv;refine oE A ∅ λH3 B=>?_
    refine back _ _ _ B (by simp;lia) (jk hf ⟨by dsimp only;lia,by dsimp only;lia,by dsimp only;lia,by dsimp only;lia⟩) (λz=>?_) λσ' H' z=>z
    by_cases i0:0<i
    .exact Fz (hx i0 z)
    .exact mr (by dsimp only;lia)
   .cbv;refine aV (λ_=>?_) (λz=>absurd z ∅);cbv;refine⟨A.ty,?_⟩;cbv;refine oE A ∅ λH3 B=>?_
    exact back _ _ _ B (by simp;lia) (jk hf ⟨by dsimp only;lia,by dsimp only;lia,hm0,λe=>hne e.symm⟩) (λz=>mr hm1) λσ' H' z=>z
  .cbv;refine aV (λkp=>?_) (λkp=>?_)
   .cbv;refine⟨A.ty,?_⟩;cbv;refine oE A ∅ λH3 B=>?_
    exact back _ _ _ B (by simp;lia) (jk hf ⟨by dsimp only;lia,by dsimp only;lia,hm0,λe=>hne e.symm⟩) (λz=>mr hm1) λσ' H' z=>z
   .exact back fs _ _ A ∅ hf (λz=>absurd z kp) λσ' H' z=>z
 rintro σ H2 ⟨fs,v6,v7,rfl,A,hl,hf,hx⟩;have s8':s.toNat<=8:=by lia
 cbv
 refine cR (λi σ H3=>∃(gs:List (Int×Int)) (u6 u7 u8 u9 u10:Option V),σ=[⇑a,↥t,↥s,↥kd,some (.bl pl),⇑l,u6,u7,u8,u9,u10,none,none]/\AccZ K H l H3 (gs.map J0)/\gs.length<=16+i/\(∀q∈gs,FP s q)/\(0<kd\/0<i->∃q∈gs,q.2<s))
  ⟨fs,v6,v7,none,none,none,rfl,A,∅,hf,λz=>hx ∅ ∅⟩ ?_ ?_
 .rintro i σ H3 hi ⟨gs,u6,u7,u8,u9,u10,rfl,B,lg,fg,xg⟩;cbv;refine⟨a,ns,t+(0+(i:Int)),rfl,B.same.seq hS,∅,?_⟩;generalize cellOf ns (t+(0+(i:Int)))=c
  have draw:∀(D':ca),(∀σ' H',(∃(gs:List (Int×Int)) (u6 u7 u8 u9 u10:Option V),σ'=[⇑a,↥t,↥s,↥kd,some (.bl pl),⇑l,u6,u7,u8,u9,u10,none,none]/\AccZ K H l H' (gs.map J0)/\gs.length<=16+(i+1)/\(∀q∈gs,FP s q)/\(0<kd\/0<i+1->∃q∈gs,q.2<s))->D'.nx σ' H') ->
    (ak (aA (ao bp (aw gq [] E0 (ac (aa 8) (ac (tC (.int 50)) ae))) (aa 2)) (aj 9))
    (ak (aA (ao bp (aw gq [] E0 (ac (aa 8) (ac (tC (.int 51)) ae))) (ao nv (aa 2) (tC (.int 1)))) (aj 10))
    (ak (aM (tB (aa 4))
    (ak (aA (ao bp (ao bp (ao d7 (aa 8) (tC (.int 5))) (tC (.int 8))) (aa 2)) (aj 9))
    (aA (ao bp (ao bp (ao d7 (aa 8) (tC (.int 40))) (tC (.int 8))) (ao nv (aa 2) (tC (.int 1)))) (aj 10)))
    aP)
    (bV (eJ K "list" aS (aa 5) (ac (cP (ac (aa 9) (ac (ao bp (ao bG (ao bG (aa 9) (tC (.int 1))) (aa 10)) (aa 2)) ae))) ae)))))) D'
     [⇑a,↥t,↥s,↥kd,some (.bl pl),⇑l,some (.int (0+(i:Int))),u7,↥c,u9,u10,none,none] H3:=by
   intro D' fin
   have last:∀o st:Int,0<=o->o<s->0<=st->st<s-1->FP s (o,(o+1+st) % s)/\(o+1+st) % s<s:=λo st h1 h2 h3 h4 =>
    ⟨⟨h1,h2,U3 _ ∅,λe=>On h1 h2 h3 h4 e.symm⟩,UF _ ∅⟩
   cbv;refine⟨c,50,rfl,by decide,by decide,λy hy=>?_⟩;have y0:=U3 y (b:=s) ∅;have y1:=UF y (b:=s) ∅;cbv;refine⟨c,51,rfl,by decide,by decide,λw hw=>?_⟩;have w0:=U3 w (b:=s-1) ∅;have w1:=UF w (b:=s-1) ∅;cbv;cases pl with
   |true =>
    have z0:=U3 (c / 5 % 8) (b:=s) ∅;have z1:=UF (c / 5 % 8) (b:=s) ∅;have x0:=U3 (c / 40 % 8) (b:=s-1) ∅;have x1:=UF (c / 40 % 8) (b:=s-1) ∅;cbv;refine⟨B.ty,?_⟩;cbv;refine oE B ∅ λH4 B4=>?_
    obtain⟨o1,o2⟩:=last (c / 5 % 8 % s) (c / 40 % 8 % (s-1)) z0 z1 x0 x1;exact fin _ _ ⟨_,_,_,_,_,_,rfl,B4,by simp;lia,jk fg o1,λ_=>mr o2⟩
   |false =>
    cbv;refine⟨B.ty,?_⟩;cbv;refine oE B ∅ λH4 B4=>?_
    obtain⟨o1,o2⟩:=last (y % s) (w % (s-1)) y0 y1 w0 w1;exact fin _ _ ⟨_,_,_,_,_,_,rfl,B4,by simp;lia,jk fg o1,λ_=>mr o2⟩
  cbv;refine aV (λz=>?_) (λz=>?_)
  .fail "1";exact draw _ λσ' H' z=>z
  .cbv;refine aV (λy=>?_) (λy=>?_)
   .exact draw _ λσ' H' z=>z
   .cbv;exact⟨gs,_,_,_,_,_,rfl,B,∅,fg,λ_=>xg (.inl ∅)⟩
 rintro σ H3 ⟨gs,u6,u7,u8,u9,u10,rfl,B,lg,fg,xg⟩;have xg':=xg (.inr (by decide));obtain⟨xs,hl3,rx⟩:=B.at_;have lx:Wi xs=Wi gs:=by rw[rx.length,SJ]
 cbv;refine⟨by decide,λl2 nl2=>?_⟩;cbv;have S2:=af nl2 (.lst []);refine jS (SqL.of (S2 _ _ hl3)) ?_
 refine b7 (xs:=xs) (λi σ H4=>∃(ps:List (Nat×Nat)) (w6 w7 w8 w9 w10 w12:Option V),σ=[⇑a,↥t,↥s,↥kd,some (.bl pl),⇑l,w6,w7,w8,w9,w10,⇑l2,w12]/\AccZ K H3 l2 H4 (ps.map dP)/\ps.Nodup/\ps.length<=8/\(∀q∈ps,zy s.toNat q)/\((∃q∈gs.take i,q.2<s)->ps≠[]))
  ⟨[],u6,u7,u8,u9,u10,none,rfl,AccZ.start (Same.refl _) nl2,Vj,by decide,by simp,by simp⟩ ?_ ?_ ?_
 .rintro i σ H4 _ ⟨ps,w6,w7,w8,w9,w10,w12,rfl,C,_⟩;exact SqL.of (C.same _ _ hl3)
 .rintro i z σ H4 hz ⟨ps,w6,w7,w8,w9,w10,w12,rfl,C,nd,l8,okp,hne⟩;obtain⟨dd,g1,g2⟩:=rx.get hz;rw[SO] at g1;obtain⟨g,eg,rfl⟩:=SU.mp g1;have og:=fg g (SM eg);obtain⟨tz,zs,e1,st,rt⟩:=(g2.same C.same).bI;cases e1;cases RpL.ints_of (ns:=[g.1,g.2]) rt;obtain⟨x,y⟩:=g;obtain⟨o0,o1,o2,o3⟩:=og;dsimp only at o0 o1 o2 o3
  have oo:y<s->zy s.toNat (x.toNat,y.toNat):=λys=>by
   clear hne xg xg' hx;exact⟨by show x.toNat<s.toNat;lia,by show y.toNat<s.toNat;lia,by show x.toNat≠y.toNat;lia⟩
  have tk:gs.take (i+1)=gs.take i++[(x,y)]:=by rw[Tc,eg];rfl
  have old:(∃q∈gs.take (i+1),q.2<s)->¬ y<s->∃q∈gs.take i,q.2<s:=by
   rintro⟨q,h1,h2⟩ ny;rw[tk] at h1;rcases Tv.mp h1 with h|h
   .exact⟨q,h,h2⟩
   .rw[Tf.mp h] at h2;exact absurd h2 ny
  have st':H4 tz=some (.tup [.int x,.int y]):=st;refine bv (SqT.of st') rfl ?_;cbv;refine⟨bF,λp np=>?_⟩;have S5:=af np (.tup [V.int x,.int y]);have C5:=C.on S5;have r5:Rz K (upd H4 p (.tup [V.int x,.int y])) (.ref p) (dI [x,y]):=.tup ag (RpL.ints [x,y])
  have eP:dI [x,y]=dP (x.toNat,y.toNat):=by
   show dI [x,y]=dI [((x.toNat:Nat):Int),((y.toNat:Nat):Int)];rw[ZaC o0,ZaC o2]
  rw[eP] at r5;cbv;refine yR r5.rep C5.rep (λe he=>by obtain⟨b,_,rfl⟩:=Te.mp he;exact tZ _ 7) (tZ _ 7) (λnm=>?_) (λmm=>?_)
  .cbv;refine aV (λys=>?_) (λys=>?_)
   .obtain⟨xs5,s5,n5,_⟩:=C5.sq;rw[SJ] at n5;cbv;refine bP s5 ?_;cbv;refine aV (λlt=>?_) (λge=>?_)
    .cbv;refine⟨C5.ty,?_⟩;cbv;refine⟨bF,λp' np'=>?_⟩;have S6:=af np' (.tup [V.int x,.int y]);refine Io ?_;refine cZ (C5.on S6) (d:=dP (x.toNat,y.toNat)) (by rw[<- eP];exact .tup ag (RpL.ints [x,y])) (am (by rw[SJ];lia)) λH6 C6 _ _ _=>?_
     cbv;exact⟨ps++[(x.toNat,y.toNat)],_,_,_,_,_,_,rfl,by rw[SV];exact C6,eA nd λz=>nm (Oq.mpr z),by simp;lia,gh okp (oo ys),by simp⟩
    .have lz:ps=[]->False:=λz=>by
      have z0:Wi ps=0:=by rw[z];rfl
      clear hne xg xg' hx;lia
     cbv;exact⟨ps,_,_,_,_,_,_,rfl,C5,nd,l8,okp,λ_ z=>lz z⟩
   .cbv;exact⟨ps,_,_,_,_,_,_,rfl,C5,nd,l8,okp,λz=>hne (old z ys)⟩
  .cbv;exact⟨ps,_,_,_,_,_,_,rfl,C5,nd,l8,okp,λ_ z=>by rw[z] at mm;cases mm⟩
 .rintro σ H4 ⟨ps,w6,w7,w8,w9,w10,w12,rfl,C,nd,l8,okp,hne⟩;rw[lx,SX (SR _)] at hne;cbv;exact k l2 H4 ps (Ja B.same C) nd l8 (hne xg') okp
abbrev CM(K:Fg):Sp:=λvs H Q _=>∃(a:Addr) (ns:List Int) (t:Int),vs=[.ref a,.int t]/\SqL K H a (ns.map V.int)/\0<=t/\∀(p:Addr) (H':Hp) (ws:List Str) (ts:List Tn),Same H H'->rM ws ts->Rz K H' (.ref p) (dV ws ts)->Q (.ref p) H'
nonrec def GB (K:Fg):TS:=(bV (eJ K "list" aS (aa 8) (ac (cP (ac (ao (cQ K) (aa 6) (aa 11)) (ac (ao (cQ K) (aa 6) (aa 12)) (ac (aw (vZ K) [] E0 (ac (ao d7 (aa 10) (tC (.int 320))) (ac (ao bp (ao d7 (aa 2) (tC (.int 420))) (tC (.int 3))) ae))) ae)))) ae)))
nonrec def GA(K:Fg):TS:=(ak (aA (aw (hJ K) [] E0 (ac (aa 0) (ac (ao bG (ao bG (aa 1) (tC (.int 7))) (aa 9)) ae))) (aj 10))
 (ak (aA (ao (cQ K) (aa 7) (aa 9)) (bZ K 2 (aR (aj 11) (aR (aj 12) b4))))
 (GB K)))
nonrec def Gz(K:Fg):TS:=(ak (bS (fe (ac (aX (bf K) (ac (aa 7) ae)) ae)) (aj 9)
 (GA K))
 (aC (cP (ac (aw (pS K) [] E0 (ac (ao d7 (aa 2) (tC (.int 2520))) (ac (aa 3) ae))) (ac (aX (bX K) (ac (aa 8) ae)) ae)))))
nonrec def Gy(K:Fg):TS:=(ak (aA (aw (pX K) [] E0 (ac (aa 0) (ac (ao bG (aa 1) (tC (.int 7))) (ac (aX (bf K) (ac (aa 6) ae)) (ac (ao bp (ao d7 (aa 2) (tC (.int 105))) (tC (.int 4))) (ac (aa 5) ae)))))) (aj 7))
 (ak (aA (cS ae) (aj 8))
 (Gz K)))
nonrec def Gx(K:Fg):TS:=(ak (aA (aw (vW K) [] E0 (ac (aa 0) (ac (ao bG (aa 1) (tC (.int 1))) (ac (aa 3) (ac (ao bG (tC (.int 2)) (ao bp (ao d7 (aa 2) (tC (.int 15))) (tC (.int 7)))) (ac (aa 4) (ac (aa 5) ae))))))) (aj 6))
 (Gy K))
nonrec def Gw(K:Fg):TS:=(ak (aA (ao bG (tC (.int 1)) (ao bp (aa 2) (tC (.int 5)))) (aj 3))
 (ak (aA (ao bG (tC (.int 2)) (ao bp (ao d7 (aa 2) (tC (.int 5))) (tC (.int 3)))) (aj 4))
 (ak (aA (ao fu (ao bp (ao d7 (aa 2) (tC (.int 1260))) (tC (.int 2))) (tC (.int 1))) (aj 5))
 (Gx K))))
abbrev BJ(K:Fg):TS:=(ak (aA (aw gq [] E0 (ac (aw (hJ K) [] E0 (ac (aa 0) (ac (aa 1) ae))) (ac (tC (.int 1)) ae))) (aj 2))
 (Gw K))
def KM{K:Fg}{N:List Str}(hN:Wi N=13)(h:CM K vs H Q E):BJ K (ends Q) (L2.start N vs) H:=by
 obtain⟨a,ns,t,rfl,hS,t0,k⟩:=h;rw[L2.aK hN];walk_at "t";unfold BJ;cbv;refine⟨a,ns,t,rfl,hS,t0,?_⟩;generalize cellOf ns t=c;cbv;refine⟨c,1,rfl,by decide,by decide,λn ω=>?_⟩;obtain⟨n0,_⟩:=ω;cbv;generalize decide (n / 1260 % 2=1)=pl;refine⟨a,ns,t+1,1+n % 5,2+n / 15 % 7,2+n / 5 % 3,pl,rfl,hS,∅,∅,∅,∅,∅,∅,∅,λpp H1 hs A1 op h2 h8=>?_⟩;obtain⟨xs,hpp,rz⟩:=A1.at_;have lx:Wi xs=hs.length:=by rw[rz.length,SJ]
 have S1:=A1.same;cbv;refine bP (SqL.of hpp) ?_;cbv;refine⟨a,ns,t+7,(Wi xs:Int),n / 105 % 4,pl,rfl,S1.seq hS,∅,∅,∅,∅,∅,λpr H2 ps A2 nd l8 ne okp=>?_⟩;obtain⟨ys,hpr,ry⟩:=A2.at_;have ly:Wi ys=Wi ps:=by rw[ry.length,SJ]
 have S2:=A2.same;have S02:=S1.trans S2;cbv;refine⟨by decide,λl nl=>?_⟩;cbv;have Sl:=af nl (.lst []);refine bP (SqL.of (Sl _ _ hpr)) ?_;rw[ly];cbv;have et:((Wi ps:Nat):Int).toNat=Wi ps:=by lia
 rw[et]
 refine cR (λi σ H3=>∃(ts:List Tn) (v9 v10 v11 v12:Option V),σ=[⇑a,↥t,↥n,↥(1+n % 5),↥(2+n / 5 % 3),some (.bl pl),⇑pp,⇑pr,⇑l,v9,v10,v11,v12]/\AccZ K H2 l H3 (ts.map dT)/\ts.map xz=(ps.take i).map (two hs)/\∀t∈ts,fS t.q t.d)
  ⟨[],none,none,none,none,rfl,AccZ.start (Same.refl _) nl,rfl,by simp⟩ ?_ ?_
 .rintro i σ H3 hi ⟨ts,v9,v10,v11,v12,rfl,A,em,pc⟩;have S3:=A.same
  have lts:Wi ts=i:=by
   have:=congrArg Wi em
   rw[SJ,SJ,Ta] at this;lia
  have eq1:ps[i]?=some ps[i]:=SN hi;have oq:=okp _ (U9 hi);generalize ps[i]=q at eq1 oq;have oq1:q.1<hs.length:=by have:=oq.1;lia
  have oq2:q.2<hs.length:=by have:=oq.2.1;lia
  obtain⟨w,ew,rw_⟩:=ry.get' (i:=i) (d:=dP q) (by rw[SO,eq1];rfl);cbv;refine⟨a,ns,t+7+(0+(i:Int)),rfl,(S02.trans S3).seq hS,∅,?_⟩;generalize cellOf ns (t+7+(0+(i:Int)))=c2;cbv;refine dm (SqL.of (S3 _ _ hpr)) (v:=w) (by rw[U_];exact ba ew) ?_;obtain⟨tz,zs,rfl,st,rt⟩:=(rw_.same S3).bI;cases RpL.ints_of (ns:=[(q.1:Int),(q.2:Int)]) rt;have st':H3 tz=some (.tup [.int (q.1:Int),.int (q.2:Int)]):=st;refine bv (SqT.of st') rfl ?_;have g1:(hs.map dI)[q.1]?=some (dI (hs.getD q.1 [])):=by rw[SO,SK,SN oq1];rfl
  have g2:(hs.map dI)[q.2]?=some (dI (hs.getD q.2 [])):=by rw[SO,SK,SN oq2];rfl
  obtain⟨w1,ew1,rw1⟩:=rz.get' g1;obtain⟨w2,ew2,rw2⟩:=rz.get' g2;have S13:=S2.trans S3;cbv;refine⟨A.ty,?_⟩;cbv;refine dm (SqL.of (S13 _ _ hpp)) (ba ew1) ?_;cbv;refine dm (SqL.of (S13 _ _ hpp)) (ba ew2) ?_;cbv;refine⟨_,_,rfl,λpa pq pd H4 S4 ok4 r4=>?_⟩;cbv;refine⟨iV,λpt npt=>?_⟩;have S5:=af npt (.tup [w1,w2,.ref pa]);have S15:=S13.trans (S4.trans S5);have r5:Rz K (upd H4 pt (.tup [w1,w2,.ref pa])) (.ref pt) (dT ⟨hs.getD q.1 [],hs.getD q.2 [],pq,pd⟩):=.tup ag (.cons (rw1.same S15) (.cons (rw2.same S15) (.cons (r4.same S5) .nil)));cbv;refine cZ (A.on (S4.trans S5)) r5 (am (by rw[SJ];lia)) λH6 A6 _ _ _=>?_
  cbv;refine⟨ts++[_],_,_,_,_,rfl,by rw[SV];exact A6,?_,gh pc ok4⟩;rw[SV,em,Tc,eq1,SV];rfl
 .rintro σ H3 ⟨ts,v9,v10,v11,v12,rfl,A,em,pc⟩;rw[SX (SR _)] at em;have S3:=A.same;obtain⟨zs,hl,rzs⟩:=A.at_;have gd:G1.Good hs ps ts:=⟨nd,l8,em,λp hp=>by have:=okp p hp;have e:((Wi xs:Nat):Int).toNat=hs.length:=∅;rw[e] at this;exact this,pc⟩
  have tk:=gd.turns op.1 ne;cbv;refine⟨n / 2520,1+n % 5,rfl,∅,∅,∅,λpw H4 ws S4 ow lw r4=>?_⟩;cbv;refine dF (SqL.of (S4 _ _ hl)) λp np=>?_
  have S5:=af np (.tup zs);cbv;refine⟨bF,λr nr=>?_⟩;have S6:=af nr (.tup [.ref pw,.ref p]);have r5:Rz K (upd H4 p (.tup zs)) (.ref p) (.tuple (ts.map dT)):=.tup ag ((rzs.same S4).same S5);refine k r _ ws ts (S02.trans (S3.trans (S4.trans (S5.trans S6)))) ⟨ow,∅,∅,hs,?_,h8,tk⟩ (.tup ag (.cons ((r4.same S5).same S6) (.cons (r5.same S6) .nil)));rw[lw];exact op
end G2
namespace Ti
open PySem L2 Fr G1 Sm Vs G2
open PySem.W (Dat kqdOk)
def eE{α:Type}[DecidableEq α]:∀{l hs:List α},l.Nodup->(∀x∈l,x∈hs)->Wi l<=Wi hs
 |[],_,_,_=>T1 _
 |x :: l,hs,nd,sub=>by
  rw[Um] at nd;have hx:=sub x Tb
  have h:=eE (l:=l) (hs:=hs.erase x) nd.2 λy hy=>by
   refine(Yj ?_).mpr (sub y (S_ _ hy));rintro rfl;exact nd.1 hy
  rw[Xs hx] at h
  have:=XV hx
  rw[Ux];lia
end Ti
namespace Sz
open PySem L2 Fr G1 Sm Vs G2 Rk
open PySem.W (Dat kqdOk)
abbrev dL(r:List Int):Dat:=.list (r.map TW)
def rj{K:Fg}(h:Rp K S H v (dL r)):∃b,v=.ref b/\S b/\H b=some (.lst (r.map V.int)):=by
 obtain⟨b,xs,rfl,s,hb,rx⟩:=Rp.ua h;rw[RpL.ints_of rx] at hb;exact⟨b,rfl,s,hb⟩
def rg{K:Fg}{S:Addr->Prop}{H:Hp}{r:List Int}(s:S b)(h:H b=some (.lst (r.map V.int))):Rp K S H (.ref b) (dL r):=.lst s h (RpL.ints r)
abbrev Jg(n:Nat)(R:List (List Int)):Prop:=∀r∈R,∀c∈r,c.natAbs<2 ^ n
def ox{n:Nat}{r:List Int}(h:∀c∈r,c.natAbs<2 ^ n)(p:Nat):(pt r p).natAbs<2 ^ n:=by
 unfold pt;rw[SK];cases e:r[p]? with
 |none=>exact ZY n
 |some c=>exact h c (SM e)
def FU{n:Nat}{by_ r:List Int}(hb:∀c∈by_,c.natAbs<2 ^ n)(hr:∀c∈r,c.natAbs<2 ^ n):∀c∈jm by_ p r,c.natAbs<2 ^ (2*n+1):=by
 intro c hc;unfold jm at hc;obtain⟨i,hi⟩:=T2 hc;rw[Uj] at hi;cases e1:r[i]? with
 |none=>rw[e1] at hi;simp at hi
 |some one =>
  cases e2:by_[i]? with
  |none=>rw[e1,e2] at hi;simp at hi
  |some two =>
   rw[e1,e2] at hi;have hi':=TH hi;subst hi'
   have m1:(one*pt by_ p).natAbs<2 ^ n*2 ^ n:=by
    rw[UM];exact X9 (hr one (SM e1)) (ox hb p)
   have m2:(pt r p*two).natAbs<2 ^ n*2 ^ n:=by
    rw[UM];exact X9 (ox hr p) (hb two (SM e2))
   have e:2 ^ (2*n+1)=2 ^ n*2 ^ n+2 ^ n*2 ^ n:=by
    rw[VY,ZbP n,Nat.pow_add];lia
   rw[e];generalize one*pt by_ p=x at m1 ⊢;generalize pt r p*two=y at m2 ⊢;generalize 2 ^ n*2 ^ n=z at m1 m2 ⊢;show(x-y).natAbs<z+z;lia
abbrev GN(R:List (List Int))(i:Nat):Nat×List (List Int):=(TC i).foldl sk (0,R)
def CD(R:List (List Int))(i:Nat):GN R (i+1)=sk (GN R i) i:=by
 unfold GN;rw[WW,VS];rfl
def JE{n:Nat}{x y:Int}(h:n<=20000)(hx:x.natAbs<2 ^ n)(hy:y.natAbs<2 ^ n):xP x y:=⟨Ts hx (TM (by decide) h),Ts hy (TM (by decide) h)⟩
def jp{r:List Int}{i:Nat}(h:i<Wi r):kh (r.map V.int) ((i:Nat):Int)=some (V.int (pt r i)):=by
 refine ba ?_;unfold pt;rw[SO,SK,SN h];rfl
abbrev cO(t:Tn):List Int:=UD (λa b=>b-a) t.fr t.to
end Sz
namespace Sf
open Rk Sz
abbrev fp(r:List Int):Option Nat:=r.findIdx? (λx=>decide (x≠0))
def dv{i:Nat}(h:fp r=some i):i<(Wi r)/\pt r i≠0/\∀j,j<i->pt r j=0:=by
 unfold fp at h;rw[Wb] at h;obtain⟨l,h1,h2⟩:=h;refine⟨l,?_,λj hj=>?_⟩
 .unfold pt;rw[SK,SN l];simpa using h1
 .have:=h2 j hj
  unfold pt;rw[SK,SN ∅];simpa using this
def xu(h:fp r=none)(q:Nat):pt r q=0:=by
 unfold fp at h;rw[YT] at h;unfold pt;rw[SK];cases e:r[q]? with
 |none=>rfl
 |some c=>simpa using h c (SM e)
abbrev bq(r:List Int):Int:=r.foldl Gd.gd 0
def y6(a b:Int):Gd.gd a b∣a/\Gd.gd a b∣b:=⟨Zs ..,Y2 ..⟩
def kc:∀(r:List Int) (g:Int),r.foldl Gd.gd g∣g/\∀x∈r,r.foldl Gd.gd g∣x
 |[],g=>⟨Int.dvd_refl g,by simp⟩
 |y :: r,g=>by
  obtain⟨h1,h2⟩:=kc r (Gd.gd g y);obtain⟨d1,d2⟩:=y6 g y;refine⟨Xv h1 d1,λx hx=>?_⟩;rcases Tu.mp hx with rfl|hx
  .exact Xv h1 d2
  .exact h2 x hx
def jj(h:pt r i≠0):bq r≠0:=by
 intro z;unfold pt at h;rw[SK] at h;cases e:r[i]? with
 |none=>rw[e] at h;exact h rfl
 |some c =>
  rw[e] at h
  have:=(kc r 0).2 c (SM e)
  unfold bq at z;rw[z] at this;exact h (Int.zero_dvd.mp this)
abbrev ff(r:List Int)(i:Nat):Int:=if pt r i<0 then -bq r else bq r
abbrev a7(r:List Int):List Int:=match fp r with
 |none=>r
 |some i=>r.map λx=>x.fdiv (ff r i)
def zf(h:pt r i≠0):ff r i≠0:=by
 have:=jj h
 unfold ff;split <;> lia
def xA(r:List Int)(i:Nat):∀x∈r,ff r i∣x:=λx hx=>by
 have:=(kc r 0).2 x hx
 unfold ff;split
 .exact(Y3).mpr this
 .exact this
def cq(r:List Int):(a7 r).length=Wi r:=by
 unfold a7;split
 .rfl
 .rw[SJ]
def ij(r:List Int):∃g:Int,g≠0/\∀q,g*pt (a7 r) q=pt r q:=by
 unfold a7;split
 .exact⟨1,by decide,λq=>Zan _⟩
 .rename_i i e
  have:=(dv e).2.1
  refine⟨ff r i,zf this,λq=>?_⟩;unfold pt;rw[SK,SO,SK];cases e2:r[q]? with
  |none=>exact T_ _
  |some c=>exact Wo (xA r i c (SM e2))
def yO{n:Nat}{r:List Int}(h:∀c∈r,c.natAbs<2 ^ n):∀c∈a7 r,c.natAbs<2 ^ n:=by
 unfold a7;split
 .exact h
 .rename_i i e;intro c hc;obtain⟨x,hx,rfl⟩:=Te.mp hc;exact T8 (Gd.qW (zf (dv e).2.1) (xA r i x hx)) (h x hx)
abbrev stp(row s:List Int):List Int:=a7 (jm s ((fp s).getD 0) row)
abbrev a6(row:List Int)(S:List (List Int)):List Int:=S.foldl stp row
abbrev a8(n i:Nat):List Int:=(TC n).map λo=>if o=i then 1 else 0
structure ve where
 stairs:List (List Int)
 free:List Nat
 makers:List (List Int)
abbrev dh(n:Nat)(st:ve)(i:Nat)(r:List Int):List Int:=a6 (r++a8 n i) st.stairs
abbrev k8(n:Nat)(st:ve)(i:Nat)(r:List Int):ve :=
 if (fp (dh n st i r)).getD (Wi r+n)<(Wi r) then ⟨st.stairs++[dh n st i r],st.free++[i],st.makers⟩
 else ⟨st.stairs,st.free,st.makers++[a7 ((dh n st i r).drop (Wi r))]⟩
abbrev Bq(R:List (List Int)):Nat->ve
 |0=>⟨[],[],[]⟩
 |i+1=>k8 (Wi R) (Bq R i) i (R.getD i [])
abbrev rowsOf(R:List (List Int))(ix:List Nat):List (List Int):=ix.map λi=>R.getD i []
open Classical in
abbrev iw (R:List (List Int)):Nat->List Nat
 |0=>[]
 |i+1=>if dz (rowsOf R (iw R i)++[R.getD i []]) then iw R i++[i] else iw R i
open Classical in
def ma{R:List (List Int)}{r:List Int}(e:R.getD i []=r)(h:dz (rowsOf R (iw R i)++[r])):iw R (i+1)=iw R i++[i]:=by
 subst e;exact if_pos h
open Classical in
def uu{R:List (List Int)}{r:List Int}(e:R.getD i []=r)(h : ¬ dz (rowsOf R (iw R i)++[r])):iw R (i+1)=iw R i:=by
 subst e;exact if_neg h
def fH{s:List Int}:pt (s.take w) q=if q<w then pt s q else 0:=by
 unfold pt;rw[SK,Za0,SK];split
 .rfl
 .rfl
def zj{w q:Nat}:∀(d:List Int) (S:List (List Int)),bz d (S.map (XE w)) q=if q<w then bz d S q else 0
 |[],S=>by cases S <;> simp[bz]
 |x :: d,[]=>by simp[bz]
 |x :: d,s :: S=>by
  have ih:=zj (w:=w) (q:=q) d S;show x*pt (s.take w) q+bz d (S.map (XE w)) q=_;rw[ih,fH];split
  .rfl
  .simp
def n_{w:Nat}:∀{S:List (List Int)} {ps:List Nat},cH S ps->(∀p∈ps,p<w)->cH (S.map (XE w)) ps
 |_,_,.nil,_=>.nil
 |_,_,.cons h1 h2 r,hp=>.cons (by rw[fH,if_pos (hp _ Tb)];exact h1) (λt ht=>by
   obtain⟨u,hu,rfl⟩:=Te.mp ht
   rw[fH,if_pos (hp _ Tb)]
   exact h2 u hu) (n_ r λp hpp=>hp p (S_ _ hpp))
def uF{w:Nat}(c:Clrd S ps x x')(hp:∀p∈ps,p<w):Clrd (S.map (XE w)) ps (x.take w) (x'.take w):=by
 obtain⟨d,c0,G,ld,hc,hG,e⟩:=c.made;refine⟨⟨d,c0,G,by rw[ld,SJ],hc,hG,λq=>?_⟩,λq hq=>by rw[fH,if_pos (hp q hq)];exact c.nought q hq,by rw[Ta,Ta,c.len]⟩;rw[fH,fH,zj];split
 .exact e q
 .simp
def IV{x:List Int}{L:Nat}(lx:x.length=L):∀{S:List (List Int)} {ps:List Nat},cH S ps->(∀s∈S,s.length=L)->S.map fp=ps.map some->Clrd S ps x (a6 x S):=by
 have go:∀(T:List (List Int)) (qs:List Nat) (S:List (List Int)) (ps:List Nat) (y:List Int),Clrd S ps x y->Wi S=Wi ps->cH (S++T) (ps++qs)->(∀s∈T,s.length=L)->T.map fp=qs.map some->Clrd (S++T) (ps++qs) x (a6 y T):=by
  intro T
  induction T with
  |nil =>
   intro qs S ps y c _ _ _ e;cases qs with
   |nil=>simpa[a6] using c
   |cons=>simp at e
  |cons s T ih =>
   intro qs S ps y c l st hl e;cases qs with
   |nil=>simp at e
   |cons p qs =>
    obtain⟨e1,e2⟩:=Vt e;rw[show S++s :: T=(S++[s])++T by simp,show ps++p :: qs=(ps++[p])++qs by simp] at st ⊢
    have st':cH (S++[s]) (ps++[p]):=by
     have:∀(T:List (List Int)) {S:List (List Int)} {qs ps:List Nat},Wi S=Wi ps->cH (S++T) (ps++qs)->cH S ps:=by
      intro T S
      induction S with
      |nil =>
       intro qs ps l _
       have:ps=[]:=Uf.mp l.symm
       subst this;exact .nil
      |cons t S ihS =>
       intro qs ps l h;cases ps with
       |nil=>simp at l
       |cons q ps =>
        cases h with
        |cons h1 h2 r=>exact .cons h1 (λu hu=>h2 u (UB _ hu)) (ihS (by simpa using l) r)
     exact this T (by simp[l]) st
    obtain⟨g,hg,eg⟩:=ij (jm s ((fp s).getD 0) y);have ls:s.length=L:=hl s Tb;have ly:y.length=s.length:=by rw[c.len,lx,ls]
    have lz:(stp y s).length=y.length:=by
     unfold stp;rw[cq,mG ly,ly]
    refine ih qs (S++[s]) (ps++[p]) (stp y s) (Clrd.snoc c st' l ly hg lz λq=>?_) (by simp[l]) st (λu hu=>hl u (S_ _ hu)) e2
    have:=eg q
    rw[e1] at this;unfold stp;rw[e1];exact this
 intro S ps st hl e
 have:=go S ps [] [] x Clrd.start rfl st hl e
 simpa using this
abbrev bits(b k:Nat):Nat:=(b+1)*2 ^ k-1
def uK(b k:Nat):bits b (k+1)=2*bits b k+1:=by
 unfold bits;have pos:0<(b+1)*2 ^ k:=Nat.mul_pos (Xl _) (ZY k)
 have:(b+1)*2 ^ (k+1)=2*((b+1)*2 ^ k):=by rw[VY,<- Zf,Xh]
 lia
def fP{k m:Nat}(h:k<=m):bits b k<=bits b m:=by
 unfold bits
 have:=Nat.mul_le_mul_left (b+1) (TM (by decide:0<2) h)
 lia
abbrev MT(b:Nat)(S:List (List Int)):Prop:=∀k s,S[k]?=some s->∀c∈s,c.natAbs<2 ^ bits b k
def gT{b:Nat}{x:List Int}(hx:∀c∈x,c.natAbs<2 ^ b){S:List (List Int)}(hS:MT b S):∀k,k<=Wi S->∀c∈a6 x (S.take k),c.natAbs<2 ^ bits b k
 |0,_=>by simpa[a6,bits] using hx
 |k+1,h=>by
  have ih:=gT hx hS k ∅;have lk:k<Wi S:=by lia
  rw[Tc,SN lk];show ∀c∈(S.take k++[S[k]]).foldl stp x,c.natAbs<2 ^ bits b (k+1);rw[VS];show ∀c∈stp (a6 x (S.take k)) S[k],c.natAbs<2 ^ bits b (k+1);rw[uK];exact yO (FU (hS k _ (SN lk)) ih)
def yJ{w j:Nat}{r:List Int}(lr:Wi r=w):pt (r++a8 n i) (w+j)=if j<n/\j=i then 1 else 0:=by
 unfold pt a8;rw[SK,TV ∅,lr,show w+j-w=j by lia,SO];by_cases h:j<n
 .rw[TR h];by_cases e:j=i
  .simp[e,e ▸ h]
  .simp[e]
 .rw[TL (by simpa using h)];simp[h]
def eG:∀{S:List (List Int)},(∀s∈S,pt s q=0)->bz d S q=0:=by
 induction d with
 |nil=>intro S _;cases S <;> rfl
 |cons x d ih =>
  intro S h;cases S with
  |nil=>rfl
  |cons s S =>
   show x*pt s q+bz d S q=0;rw[h s Tb,ih λt ht=>h t (S_ _ ht)];lia
structure SI (R:List (List Int)) (w b i:Nat) (st:ve):Prop where
 sta:∃ps,cH st.stairs ps/\(∀p∈ps,p<w)/\st.stairs.map fp=ps.map some/\Eqv (rowsOf R st.free) (st.stairs.map (XE w))
 len:∀s∈st.stairs,s.length=w+Wi R
 own:∀s∈st.stairs,∀j,i<=j->pt s (w+j)=0
 cnt:st.stairs.length<=i
 bnd:MT b st.stairs
 free:st.free=iw R i
 mks:st.makers.length<=i
structure RI (R:List (List Int)) (w b i:Nat) (st:ve) (r rest:List Int):Prop where
 len:Wi rest=w+Wi R
 ne:∃q,fp rest=some q/\q<=w+i
 bnd:∀c∈rest,c.natAbs<2 ^ bits b st.stairs.length
 own:∀j,i+1<=j->pt rest (w+j)=0
 free:dz (rowsOf R (iw R i)++[r])↔∃q,fp rest=some q/\q<w
def KJ{st:ve}{r:List Int}(I:SI R w b i st)(hb:1<=b)(hi:i<R.length)(lr:Wi r=w)(br:∀c∈r,c.natAbs<2 ^ b) :
  RI R w b i st r (dh R.length st i r)/\∃ps,cH st.stairs ps/\(∀p∈ps,p<w)/\st.stairs.map fp=ps.map some/\Eqv (rowsOf R st.free) (st.stairs.map (XE w))/\Clrd st.stairs ps (r++a8 R.length i) (dh R.length st i r):=by
 obtain⟨ps,s1,s2,s3,s4⟩:=I.sta;have lx:(r++a8 R.length i).length=w+R.length:=by unfold a8;rw[To,SJ,TD,lr]
 have C:=IV lx s1 I.len s3
 have hx:∀c∈r++a8 R.length i,c.natAbs<2 ^ b:=by
  intro c hc;rcases Tv.mp hc with m|m
  .exact br c m
  .unfold a8 at m;obtain⟨o,_,rfl⟩:=Te.mp m
   have:2 ^ 1<=2 ^ b:=TM (by decide) hb
   split <;> lia
 have hbn:=gT hx I.bnd st.stairs.length (SR _);rw[VF] at hbn;obtain⟨d,c,G,ld,hc,hG,e⟩:=C.made
 have at_i:pt (dh R.length st i r) (w+i)≠0:=by
  intro z;have e1:=e (w+i);have z':pt (a6 (r++a8 R.length i) st.stairs) (w+i)=0:=z;rw[z',yJ lr,eG λs hs=>I.own s hs i (SR _),if_pos ⟨hi,rfl⟩] at e1;lia
 have fq:∃q,fp (dh R.length st i r)=some q/\q<=w+i:=by
  cases f:fp (dh R.length st i r) with
  |none=>exact absurd (xu f (w+i)) at_i
  |some q =>
   refine⟨q,rfl,?_⟩;by_cases l:q<=w+i
   .exact l
   .exact absurd ((dv f).2.2 (w+i) ∅) at_i
 have tk:(r++a8 R.length i).take w=r:=by rw[Yl ∅,SX ∅]
 refine⟨⟨?_,fq,hbn,λj hj=>?_,?_⟩,ps,s1,s2,s3,s4,C⟩
 .show(a6 _ _).length=_;rw[C.len,lx]
 .have e1:=e (w+j);rw[yJ lr,eG λs hs=>I.own s hs j ∅,if_neg ∅] at e1
  have:G*pt (dh R.length st i r) (w+j)=0:=by
   show G*pt (a6 (r++a8 R.length i) st.stairs) (w+j)=0;rw[e1];lia
  exact(Ub.mp this).resolve_left hG
 .rw[<- I.free]
  have:=FT s4 (n_ s1 s2) (uF C s2)
  rw[tk] at this;rw[this];constructor
  .rintro⟨q,hq⟩;rw[fH] at hq;split at hq
   .rename_i lq;obtain⟨q',f1,f2⟩:=fq;refine⟨q',f1,?_⟩;by_cases l:q'<w
    .exact l
    .exact absurd ((dv f1).2.2 q ∅) hq
   .exact absurd rfl hq
  .rintro⟨q,f1,f2⟩;refine⟨q,?_⟩;rw[fH,if_pos f2];exact(dv f1).2.1
def KA{st:ve}{r:List Int}(I:SI R w b i st)(hb:1<=b)(hr:R[i]?=some r)(lr:Wi r=w)(br:∀c∈r,c.natAbs<2 ^ b):SI R w b (i+1) (k8 R.length st i r):=by
 have hi:i<R.length:=(SL.mp hr).1;obtain⟨Y,ps,s1,s2,s3,s4,C⟩:=KJ I hb hi lr br;have er:R.getD i []=r:=by rw[SK,hr];rfl
 unfold k8;generalize hz:dh R.length st i r=z at Y C;obtain⟨q,f1,f2⟩:=Y.ne;rw[f1];show SI R w b (i+1) (if q<(Wi r) then _ else _);split
 .rename_i lq;rw[lr] at lq;have fr:dz (rowsOf R (iw R i)++[r]):=Y.free.mpr ⟨q,f1,lq⟩;have tk:(r++a8 R.length i).take w=r:=by rw[Yl ∅,SX ∅]
  refine⟨⟨ps++[q],s1.snoc C.nought (dv f1).2.1,λp hp=>?_,?_,?_⟩,λs hs=>?_,λs hs j hj=>?_,?_,λk s hk=>?_,?_,Zbp I.mks⟩
  .rcases Tv.mp hp with m|m
   .exact s2 p m
   .rw[Tf.mp m];exact lq
  .show(st.stairs++[z]).map fp=_;rw[SV,SV,s3];show _++[fp z]=_++[some q]
   rw[f1]
  .show Eqv (rowsOf R (st.free++[i])) ((st.stairs++[z]).map (XE w));unfold rowsOf at s4 ⊢;rw[SV,SV];show Eqv (_++[R.getD i []]) (_++[z.take w]);rw[er];obtain⟨d,c,G,ld,hc,hG,e⟩:=(uF C s2).made;rw[tk] at e;exact s4.snoc ld hc hG e
  .rcases Tv.mp hs with m|m
   .exact I.len s m
   .rw[Tf.mp m];exact Y.len
  .rcases Tv.mp hs with m|m
   .exact I.own s m j ∅
   .rw[Tf.mp m];exact Y.own j hj
  .show(st.stairs++[z]).length<=i+1;rw[To];exact Zy I.cnt
  .have hk':(st.stairs++[z])[k]?=some s:=hk;by_cases l:k<st.stairs.length
   .rw[TU l] at hk';exact I.bnd k s hk'
   .rw[TV ∅] at hk'
    have k0:k=st.stairs.length:=by
     have:=(SL.mp hk').1
     simp at this;lia
    subst k0;rw[Zbk] at hk';rw[<- TH hk'];exact Y.bnd
  .show st.free++[i]=iw R (i+1);rw[I.free];rw[ma er fr]
 .rename_i lq;rw[lr] at lq
  have nf : ¬ dz (rowsOf R (iw R i)++[r]):=λh=>by
   obtain⟨q',g1,g2⟩:=Y.free.mp h;rw[f1] at g1;cases g1;exact lq g2
  refine⟨I.sta,I.len,λs hs j hj=>I.own s hs j ∅,Zbp I.cnt,I.bnd,?_,?_⟩
  .show st.free=iw R (i+1);rw[I.free];rw[uu er nf]
  .show(st.makers++[_]).length<=i+1;rw[To];exact Zy I.mks
def GU{R:List (List Int)}{w b:Nat}(hw:Wide w R)(hb:1<=b)(br:Jg b R):∀i,i<=Wi R->SI R w b i (Bq R i)
 |0,_=>⟨⟨[],.nil,(by simp),rfl,λT=>ZM⟩,(λs hs=>by cases hs),(λs hs=>by cases hs),SR _,(λk s hk=>by simp[Bq] at hk),rfl,SR _⟩
 |i+1,h=>by
  have hr:R[i]?=some (R.getD i []):=by rw[SK,SN ∅];rfl
  exact KA (GU hw hb br i ∅) hb hr (hw _ (SM hr)) (br _ (SM hr))
end Sf
namespace Rw
open PySem L2 Fr G1 Sm Vs G2 Rk Sz Sf
open PySem.W (Dat kqdOk)
abbrev JU(r:List Int):V:=match fp r with
 |some i=>.int i
 |none=>.non
abbrev kT(K:Fg):Sp:=λvs H Q _=>∃(a:Addr) (r:List Int),vs=[.ref a]/\H a=some (.lst (r.map V.int))/\∀H',Same H H'->Q (JU r) H'
def RW{i:Nat}{c:Int}(h:∀j,j<i->pt r j=0)(hi:r[i]?=some c)(hc:c≠0):fp r=some i:=by
 unfold fp;rw[Wb];obtain⟨l,e⟩:=SL.mp hi;refine⟨l,by rw[e];simpa using hc,λj hj=>?_⟩
 have:=h j hj
 unfold pt at this;rw[SK,SN ∅] at this;simpa using this
def RV{r:List Int}(h:∀j,j<Wi r->pt r j=0):fp r=none:=by
 unfold fp;rw[YT];intro x hx;obtain⟨j,l,rfl⟩:=VO.mp hx
 have:=h j l
 unfold pt at this;rw[SK,SN l] at this;simpa using this
abbrev vM(K:Fg):TS:=(ak (bS (ur K (ac (aa 0) ae)) (bZ K 2 (aR (aj 1) (aR (aj 2) b4)))
 (aM (aO (ao yu (aa 2) (tC (.int 0))))
 (aC (aa 1))
 aP))
 (aC (tC .non)))
def Ht{K:Fg}{N:List Str}(hN:Wi N=3)(h:kT K vs H Q E):vM K (ends Q) (L2.start N vs) H:=by
 obtain⟨a,r,rfl,ha,k⟩:=h;rw[L2.aK hN];walk_at "t";unfold vM;cbv;refine⟨a,_,rfl,SqL.of ha,?_⟩;refine iz (xs:=r.map V.int) (λi σ H2=>∃u1 u2:Option V,σ=[⇑a,u1,u2]/\Same H H2/\∀j<i,pt r j=0) ⟨none,none,rfl,Same.refl _,λj hj=>absurd hj (Vn _)⟩ (by rintro i σ H2 _ ⟨_,_,_,S,_⟩;exact SqL.of (S _ _ ha)) ?_ ?_
 .rintro i z σ H2 T hz ⟨u1,u2,rfl,S,d⟩ nT;rw[SO] at hz;obtain⟨c,hc,rfl⟩:=SU.mp hz;have S2:=S.trans (af nT (.tup [.int (i:Int),.int c]));have hT:upd H2 T (.tup [.int (i:Int),.int c]) T=some (.tup [.int (i:Int),.int c]):=ag;generalize upd H2 T (.tup [.int (i:Int),.int c])=H3 at S2 hT ⊢;refine bv (SqT.of hT) rfl ?_;cbv;have ec:pt r i=c:=by unfold pt;rw[SK,hc];rfl
  refine be (λnz=>?_) (λz=>?_)
  .cbv
   have:=k H3 S2
   unfold JU at this;rw[RW d hc nz] at this;exact this
  .cbv;refine⟨_,_,rfl,S2,λj hj=>?_⟩;by_cases e:j=i
   .rw[e,ec,z]
   .exact d j ∅
 .rintro σ H2 ⟨u1,u2,rfl,S,d⟩;cbv
  have:=k H2 S
  unfold JU at this;rw[RV λj hj=>d j (by rw[SJ];exact hj)] at this;exact this
abbrev sA(K:Fg):Sp:=λvs H Q _=>∃(a:Addr) (r:List Int),vs=[.ref a]/\H a=some (.lst (r.map V.int))/\r.length<=100/\(∀c∈r,c.natAbs<2 ^ 9000)/\∀(p:Addr) (H':Hp),AccZ K H p H' ((a7 r).map TW)->Q (.ref p) H'
def Fs{r:List Int}{i:Nat}{c:Int}(h:r[i]?=some c):(r.take (i+1)).foldl Gd.gd 0=Gd.gd ((r.take i).foldl Gd.gd 0) c:=by
 rw[Tc,h,VS];rfl
def Fq{n:Nat}(h:pt r i≠0)(hb:∀c∈r,c.natAbs<2 ^ n):(bq r).natAbs<2 ^ n:=by
 have d:bq r∣pt r i:=by
  unfold pt at h ⊢;rw[SK] at h ⊢;cases e:r[i]? with
  |none=>rw[e] at h;exact absurd rfl h
  |some c=>exact(kc r 0).2 c (SM e)
 have:=Nat.le_of_dvd ∅ (Int.natAbs_dvd_natAbs.mpr d)
 exact T8 this (ox hb i)
abbrev GR(K:Fg):Sp:=λvs H Q _=>∃(a:Addr) (r:List Int),vs=[.ref a]/\H a=some (.lst (r.map V.int))/\∀H',Same H H'->Q (.int (bq r)) H'
abbrev Kl(K:Fg):TS:=(ak (aA (tC (.int 0)) (aj 1))
 (ak (bS (dB K (aa 0)) (aj 2)
 (aA (aw v_ [] E0 (ac (aa 1) (ac (aa 2) ae))) (aj 1)))
 (aC (aa 1))))
def Nx{K:Fg}{N:List Str}(hN:Wi N=3)(h:GR K vs H Q E):Kl K (ends Q) (L2.start N vs) H:=by
 obtain⟨a,r,rfl,ha,k⟩:=h;rw[L2.aK hN];walk_at "t";unfold Kl;cbv;refine jS (SqL.of ha) ?_;refine b7 (xs:=r.map V.int) (λj σ H2=>∃u3:Option V,σ=[⇑a,some (.int ((r.take j).foldl Gd.gd 0)),u3]/\Same H H2) ⟨_,rfl,Same.refl _⟩ (by rintro j σ H2 _ ⟨_,_,S⟩;exact SqL.of (S _ _ ha)) ?_ ?_
 .rintro j z σ H2 hz ⟨u3,rfl,S⟩;rw[SO] at hz;obtain⟨c,hc,rfl⟩:=SU.mp hz;cbv;refine⟨_,_,rfl,?_⟩;cbv;refine⟨_,by rw[Fs hc];rfl,S⟩
 .rintro σ H2 ⟨u3,rfl,S⟩;rw[SX (by rw[SJ];exact SR _)];cbv;exact k H2 S
nonrec def GK(K:Fg):TS:=(ak (aA (aw (GR K) [] E0 (ac (aa 0) ae)) (aj 2))
 (ak (aM (aO (ao yw (ao (cQ K) (aa 0) (aa 1)) (tC (.int 0))))
 (aA (Cz (rU λi=>.int (-i)) (aa 2)) (aj 2))
 aP)
 (aC (bT (dB K (aa 0)) (ao jN (aa 0) (aa 3))))))
abbrev Ca(K:Fg):TS:=(ak (aA (aw (kT K) [] E0 (ac (aa 0) ae)) (aj 1))
 (ak (aM (aO (ao wF (aa 1) (tC .non)))
 (aC (aX (fG K) (ac (aa 0) ae)))
 aP)
 (GK K)))
def KZ{K:Fg}{N:List Str}(hN:Wi N=3)(h:sA K vs H Q E):Ca K (ends Q) (L2.start N vs) H:=by
 obtain⟨a,r,rfl,ha,hl,hb,k⟩:=h;rw[L2.aK hN];walk_at "t";unfold Ca;cbv;refine⟨a,r,rfl,ha,λH1 S1=>?_⟩;unfold JU;cases f:fp r with
 |none =>
  cbv;refine aV (λ_=>?_) (λz=>absurd rfl z);cbv;refine xt (SqL.of (S1 _ _ ha)) λl nl=>?_
  have e:a7 r=r:=by unfold a7;rw[f]
  rw[e] at k;exact k l _ ⟨S1.trans (af nl _),S1.free nl,_,ag,RpL.ints r⟩
 |some i =>
  obtain⟨f1,f2,f3⟩:=dv f;cbv;refine aV (λz=>by cases z) (λ_=>?_);cbv;refine⟨a,r,rfl,S1 _ _ ha,λH2 S2=>?_⟩;have S:=S1.trans S2;cbv;refine dm (SqL.of (S _ _ ha)) (jp f1) ?_
  have fin:cx (uT K a) (ao jN (aa 0) (aa 3)) [⇑a,↥i,↥(ff r i)] (ends Q).rt H2:=by
   refine dy (xs:=r.map V.int) λD nD=>⟨λj H3=>AccZ K H D H3 (((a7 r).take j).map TW),by simpa using AccZ.start S nD,λj H3 _ A=>SqL.of (A.same _ _ ha),?_,?_⟩
   .intro j x H3 hx A;have lj:=(SL.mp hx).1;rw[SO] at hx;obtain⟨c,hc,rfl⟩:=SU.mp hx;cbv;refine⟨c,ff r i,rfl,rfl,⟨zf f2,?_⟩,?_⟩
    .have:=Fq f2 hb
     have e:(ff r i).natAbs=(bq r).natAbs:=by unfold ff;split <;> lia
     rw[e];exact this
    refine aI lj ?_;refine A.bA (.int _) (am (by rw[SJ,Ta,cq];lia)) λH4 A4=>?_
    have e:(a7 r)[j]?=some (c.fdiv (ff r i)):=by unfold a7;rw[f];show(r.map _)[j]? = _;rw[SO,hc];rfl
    show AccZ K H D H4 (((a7 r).take (j+1)).map TW);rw[Tc,e,SV];exact A4
   .intro H3 A;rw[SX (by rw[cq,SJ];exact SR _)] at A;exact k D H3 A
  cbv;refine aV (λng=>?_) (λng=>?_)
  .cbv;refine xr (SqL.of (S _ _ ha)) ?_;have e:ff r i = -bq r:=by unfold ff;rw[if_pos ng]
   rw[e] at fin;exact fin
  .cbv;refine xr (SqL.of (S _ _ ha)) ?_;have e:ff r i=bq r:=by unfold ff;rw[if_neg ng]
   rw[e] at fin;exact fin
abbrev P7(K:Fg)(S:Addr->Prop)(H:Hp)(a:Addr)(T:List (List Int)):Prop:=∃xs,H a=some (.lst xs)/\RpL K S H xs (T.map dL)
abbrev Kv(K:Fg):Sp:=λvs H Q _=>∃(a s:Addr) (r:List Int) (T:List (List Int)) (b:Nat),vs=[.ref a,.ref s]/\H a=some (.lst (r.map V.int))/\P7 K (λ_=>True) H s T/\r.length<=100/\(∀t∈T,t.length=r.length/\∃i,fp t=some i)/\(∀c∈r,c.natAbs<2 ^ b)/\MT b T/\bits b (Wi T)<=9000 /\
 ∀(p:Addr) (H':Hp),Same H H'->(p=a\/H p=none)->H' p=some (.lst ((a6 r T).map V.int))->Q (.ref p) H'
def uG{r:List Int}:∀{T:List (List Int)},(∀t∈T,t.length=r.length)->(a6 r T).length=Wi r:=by
 intro T
 have go:∀(T:List (List Int)) (y:List Int),y.length=r.length->(∀t∈T,t.length=r.length)->(a6 y T).length=Wi r:=by
  intro T
  induction T with
  |nil=>intro y ly _;exact ly
  |cons t T ih =>
   intro y ly h;refine ih (stp y t) ?_ λu hu=>h u (S_ _ hu)
   unfold stp
   have:=h t Tb
   rw[cq,mG ∅];exact this
 exact go T r rfl
def rC{t:List Int}{T:List (List Int)}{i:Nat}(h:T[i]?=some t):a6 r (T.take (i+1))=stp (a6 r (T.take i)) t:=by
 unfold a6;rw[Tc,h,VS];rfl
nonrec def GM(K:Fg):TS:=(aA (aw (sA K) [] E0 (ac (cC (iq K .L .L (ac (aa 0) (ac (aa 2) ae))) 2 (bZ K 2 (aR (aj 0) (aR (aj 1) b4))) (ao nv (ao qu (ao (cQ K) (aa 4) (aa 5)) (aa 0)) (ao qu (ao (cQ K) (aa 2) (aa 5)) (aa 1)))) ae)) (aj 0))
abbrev Cu(K:Fg):TS:=(ak (bS (dB K (aa 1)) (aj 2)
 (ak (aA (aw (kT K) [] E0 (ac (aa 2) ae)) (aj 3))
 (GM K)))
 (aC (aa 0)))
def K4{K:Fg}{N:List Str}(hN:Wi N=4)(h:Kv K vs H Q E):Cu K (ends Q) (L2.start N vs) H:=by
 obtain⟨a,s,r,T,b,rfl,ha,⟨xs,hs,rx⟩,hl,hT,hb,hB,hbits,k⟩:=h;rw[L2.aK hN];walk_at "t";have lx:Wi xs=T.length:=by rw[rx.length,SJ]
 unfold Cu;cbv;refine jS (SqL.of hs) ?_;refine b7 (xs:=xs) (λj σ H2=>∃(p:Addr) (u2 u3:Option V),σ=[⇑p,⇑s,u2,u3]/\Same H H2/\(p=a\/H p=none)/\H2 p=some (.lst ((a6 r (T.take j)).map V.int))) ⟨a,none,none,rfl,Same.refl _,.inl rfl,by simpa[a6] using ha⟩ (by rintro j σ H2 _ ⟨_,_,_,_,S,_⟩;exact SqL.of (S _ _ hs)) ?_ ?_
 .rintro j z σ H2 hz ⟨p,u2,u3,rfl,S,hp,h2⟩;obtain⟨d,g1,g2⟩:=rx.get hz;rw[SO] at g1;obtain⟨t,ht,rfl⟩:=SU.mp g1;obtain⟨b0,rfl,_,hb0⟩:=rj g2;obtain⟨lt,i,fi⟩:=hT t (SM ht);obtain⟨f1,f2,f3⟩:=dv fi;have lj:j<T.length:=(SL.mp ht).1;have ly:(a6 r (T.take j)).length=Wi r:=uG λt ht=>(hT t (Xc ht)).1
  have by_:=gT hb hB j ∅;have bm:bits b (j+1)<=bits b T.length:=fP ∅;rw[uK] at bm;have hBt:=hB j t ht;rw[rC ht];generalize a6 r (T.take j)=y at h2 ly by_ ⊢;cbv;refine⟨b0,t,rfl,S _ _ hb0,λH3 S3=>?_⟩;have fv:JU t=.int i:=by unfold JU;rw[fi]
  rw[fv];have S4:=S.trans S3;have h3:=S3 _ _ h2;cbv;refine⟨p,b0,_,_,rfl,SqL.of h3,SqL.of (S4 _ _ hb0),?_⟩;refine ga (xs:=y.map V.int) (ys:=t.map V.int) λD nD=>⟨λm H5=>AccZ K H3 D H5 (((jm t i y).take m).map TW),AccZ.start (Same.refl _) nD,λm H5 _ C=>⟨SqL.of (C.same _ _ h3),SqL.of (C.same _ _ (S4 _ _ hb0))⟩,?_,?_⟩
  .intro m y1 y2 H5 T' e1 e2 C nT us hu
   obtain⟨u1,u2',rfl⟩:∃u0 u1,us=[u0,u1]:=ex2 hu
   rw[SO] at e1 e2;obtain⟨m1,g1,rfl⟩:=SU.mp e1;obtain⟨m2,g2,rfl⟩:=SU.mp e2;have ec:(jm t i y)[m]?=some (m1*pt t i-pt y i*m2):=by unfold jm;rw[Uj,g1,g2]
   have lm:=(SL.mp g1).1;have lm2:=(SL.mp g2).1;have C2:=C.on (af nT (.tup [.int m1,.int m2]));have hT':upd H5 T' (.tup [.int m1,.int m2]) T'=some (.tup [.int m1,.int m2]):=ag;generalize upd H5 T' (.tup [.int m1,.int m2])=H7 at C2 hT' ⊢;refine bv (SqT.of hT') rfl ?_;cbv;refine⟨⟨[↥m1,↥m2],rfl,rfl⟩,?_⟩;cbv;refine dm (SqL.of (C2.same _ _ (S4 _ _ hb0))) (jp f1) ?_;cbv;refine⟨pt t i,m1,rfl,rfl,JE ∅ (ox hBt i) (by_ _ (SM g1)),?_⟩;cbv;refine dm (SqL.of (C2.same _ _ h3)) (jp ∅) ?_;cbv;refine⟨pt y i,m2,rfl,rfl,JE ∅ (ox by_ i) (hBt _ (SM g2)),?_⟩;cbv;refine aI (by rw[SJ,SJ];lia) ?_;rw[Uc (pt t i) m1];refine C2.bA (.int _) (am ?_) λH8 C8=>?_
   .rw[SJ,Ta];lia
   .show AccZ K H3 D H8 (((jm t i y).take (m+1)).map TW);rw[Tc,ec,SV];exact C8
  .intro H5 C;have lc:(jm t i y).length=t.length:=mG ∅;rw[SX (by rw[SJ,SJ];lia)] at C;cbv;refine⟨D,jm t i y,rfl,AccZ.ints C,∅,λc hc=>?_,λp2 H6 A6=>?_⟩
   .exact Ts (FU hBt by_ c hc) (TM (by decide) ∅)
   .cbv;refine⟨p2,_,_,rfl,S4.trans (C.same.trans A6.same),.inr ((S4.trans C.same).free A6.new),?_⟩;have e:stp y t=a7 (jm t i y):=by unfold stp;rw[fi];rfl
    rw[e];exact AccZ.ints A6
 .rintro σ H2 ⟨p,u2,u3,rfl,S,hp,h2⟩;rw[SX ∅] at h2;cbv;exact k p H2 S hp h2
abbrev SS(H:Hp)(D1 D2 D3:Addr):Addr->Prop:=λa=>H a=none/\a≠D1/\a≠D2/\a≠D3
abbrev ni(l:List Nat):List Int:=l.map λi:Nat=>(i:Int)
structure SH (K:Fg) (H H2:Hp) (D1 D2 D3:Addr) (st:ve):Prop where
 same:Same H H2
 n1:H D1=none
 n2:H D2=none
 n3:H D3=none
 d12:D1≠D2
 d13:D1≠D3
 d23:D2≠D3
 a1:∃xs,H2 D1=some (.lst xs)/\RpL K (SS H D1 D2 D3) H2 xs (st.stairs.map dL)
 a2:H2 D2=some (.lst ((ni st.free).map V.int))
 a3:∃xs,H2 D3=some (.lst xs)/\RpL K (SS H D1 D2 D3) H2 xs (st.makers.map dL)
def SH.on{K:Fg}{st:ve}(A:SH K H H2 D1 D2 D3 st)(e:Same H2 H3):SH K H H3 D1 D2 D3 st:=by
 obtain⟨xs,h1,r1⟩:=A.a1;obtain⟨zs,h3,r3⟩:=A.a3;exact⟨A.same.trans e,A.n1,A.n2,A.n3,A.d12,A.d13,A.d23,⟨xs,e _ _ h1,r1.same e⟩,e _ _ A.a2,⟨zs,e _ _ h3,r3.same e⟩⟩
def SH.Qx{K:Fg}{H H2:Hp}{D1 D2 D3:Addr}{st:ve}{p:Addr}{z:List Int}{i:Nat}(A:SH K H H2 D1 D2 D3 st)(hp:SS H D1 D2 D3 p)(h:H2 p=some (.lst (z.map V.int))):∃xs,H2 D1=some (.lst xs)/\xs.length=st.stairs.length/\upd H2 D1 (.lst (xs++[.ref p])) D2=some (.lst ((ni st.free).map V.int)) /\
  SH K H (upd (upd H2 D1 (.lst (xs++[.ref p]))) D2 (.lst ((ni st.free).map V.int++[.int i]))) D1 D2 D3 ⟨st.stairs++[z],st.free++[i],st.makers⟩:=by
 obtain⟨xs,h1,r1⟩:=A.a1;obtain⟨zs,h3,r3⟩:=A.a3;have e2:upd H2 D1 (.lst (xs++[.ref p])) D2=some (.lst ((ni st.free).map V.int)):=by rw[aJ A.d12.symm];exact A.a2
 refine⟨xs,h1,by rw[r1.length,SJ],e2,⟨λb o q=>?_,A.n1,A.n2,A.n3,A.d12,A.d13,A.d23,⟨xs++[.ref p],?_,?_⟩,?_,⟨zs,?_,?_⟩⟩⟩
 .rw[aJ (ar q A.n2),aJ (ar q A.n1)];exact A.same b o q
 .rw[aJ A.d12];exact ag
 .show RpL K (SS H D1 D2 D3) _ _ ((st.stairs++[z]).map dL);rw[SV];exact((r1.append (.cons (rg hp h) .nil)).agr (Agr.eV h1 λw=>w.2.1 rfl)).agr (Agr.eV e2 λw=>w.2.2.1 rfl)
 .show upd _ D2 _ D2=some (.lst ((ni (st.free++[i])).map V.int));rw[ag];unfold ni;rw[SV,SV];rfl
 .rw[aJ A.d23.symm,aJ A.d13.symm];exact h3
 .exact(r3.agr (Agr.eV h1 λw=>w.2.1 rfl)).agr (Agr.eV e2 λw=>w.2.2.1 rfl)
def SH.maker{K:Fg}{st:ve}{z:List Int}(A:SH K H H2 D1 D2 D3 st)(hp:SS H D1 D2 D3 p)(h:H2 p=some (.lst (z.map V.int))):∃xs,H2 D3=some (.lst xs)/\xs.length=st.makers.length /\
  SH K H (upd H2 D3 (.lst (xs++[.ref p]))) D1 D2 D3 ⟨st.stairs,st.free,st.makers++[z]⟩:=by
 obtain⟨xs,h1,r1⟩:=A.a1;obtain⟨zs,h3,r3⟩:=A.a3;refine⟨zs,h3,by rw[r3.length,SJ],⟨λb o q=>?_,A.n1,A.n2,A.n3,A.d12,A.d13,A.d23,⟨xs,?_,?_⟩,?_,⟨zs++[.ref p],ag,?_⟩⟩⟩
 .rw[aJ (ar q A.n3)];exact A.same b o q
 .rw[aJ A.d13];exact h1
 .exact r1.agr (Agr.eV h3 λw=>w.2.2.2 rfl)
 .rw[aJ A.d23];exact A.a2
 .show RpL K (SS H D1 D2 D3) _ _ ((st.makers++[z]).map dL);rw[SV];exact(r3.append (.cons (rg hp h) .nil)).agr (Agr.eV h3 λw=>w.2.2.2 rfl)
abbrev RowV(H:Hp)(x:V)(r:List Int):Prop:=∃c,x=.ref c/\(H c=some (.lst (r.map V.int))\/H c=some (.tup (r.map V.int)))
abbrev c4(H:Hp)(a:Addr)(R:List (List Int)):Prop:=∃xs,H a=some (.lst xs)/\xs.length=R.length/\∀(i:Nat) (x:V) (r:List Int),xs[i]?=some x->R[i]?=some r->RowV H x r
def RowV.same(h:RowV H x r)(e:Same H H'):RowV H' x r:=by
 obtain⟨c,rfl,h⟩:=h;exact⟨c,rfl,h.imp (e _ _) (e _ _)⟩
abbrev KB(R:List (List Int)):ve:=Bq R (Wi R)
abbrev dS(st:ve):Dat:=.tuple [dL (ni st.free),.list (st.makers.map dL)]
abbrev CO(K:Fg):Sp:=λvs H Q _=>∃(a:Addr) (R:List (List Int)) (w b:Nat),vs=[.ref a]/\c4 H a R/\Wide w R/\R.length<=20/\w<=20/\Jg b R/\1<=b/\bits b (Wi R)<=9000 /\
 ∀(p:Addr) (H':Hp),Same H H'->Rp K (λa=>H a=none) H' (.ref p) (dS (KB R))->Q (.ref p) H'
def G8{R:List (List Int)}{i:Nat}{r:List Int}(h:R[i]?=some r):Bq R (i+1)=k8 (Wi R) (Bq R i) i r:=by
 show k8 (Wi R) (Bq R i) i (R.getD i [])=_;rw[SK,h];rfl
def EV{K:Fg}{Q:VK}(e:RowV H x r)(h:∀l,H l=none->Q (.ref l) (upd H l (.lst (r.map V.int)))):fG K [x] H Q:=by
 obtain⟨c,rfl,e|e⟩:=e
 .exact xt (SqL.of e) h
 .exact EU (SqT.of e) h
def EW{K:Fg}{Q:VK}(e:RowV H x r)(h:Q (.int (Wi r)) H):bf K [x] H Q:=by
 obtain⟨c,rfl,e|e⟩:=e
 .exact bP (SqL.of e) (by rw[SJ];exact h)
 .exact cY (SqT.of e) (by rw[SJ];exact h)
def uz(xs:List V)(k:Nat):eQ xs (some (k:Int)) none=xs.drop k:=by
 have e:HT.sIx (Wi xs) 0 (some (k:Int))=min k (Wi xs):=by
  show(if (k:Int)<0 then ((k:Int)+(Wi xs:Nat)).toNat else min (k:Int).toNat (Wi xs))=_;rw[if_neg ∅,Ul]
 have e2:HT.sIx (Wi xs) (Wi xs) none=Wi xs:=rfl;unfold eQ;rw[e,e2];by_cases h:k<=Wi xs
 .rw[Yq h,SX (by rw[Us];exact SR _)]
 .rw[X5 ∅,ZN (SR _),ZN ∅,List.take_nil]
abbrev vS(K:Fg):Sp:=λvs H Q _=>∃n i:Nat,vs=[.int (n:Int),.int (i:Int)]/\n<=100/\∀(p:Addr) (H':Hp),AccZ K H p H' ((a8 n i).map TW)->Q (.ref p) H'
def c7(n i:Nat):(a8 n i).length=n:=by unfold a8;rw[SJ,TD]
abbrev vn(K:Fg):TS:=(aC (bT (fe (ac (aa 0) ae)) (M_ (aO (ao fu (aa 0) (aa 2))) (tC (.int 1)) (tC (.int 0)))))
def Hf{K:Fg}{N:List Str}(hN:Wi N=2)(h:vS K vs H Q E):vn K (ends Q) (L2.start N vs) H:=by
 obtain⟨n,i,rfl,hn,k⟩:=h;rw[L2.aK hN];walk_at "t";unfold vn;cbv;rw[Ul];refine cG (n:=n) λD nD=>⟨λj H4=>AccZ K H D H4 (((a8 n i).take j).map TW),by simpa using AccZ.start (Same.refl _) nD,?_,?_⟩
 .intro j H4 hj B;have eo:(a8 n i)[j]?=some (if j=i then 1 else 0):=by unfold a8;rw[SO,TR hj];rfl
  have fin:∀(v:Int),v=(if j=i then 1 else 0)->mK D n j (λj H4=>AccZ K H D H4 (((a8 n i).take j).map TW)) (.int v) H4:=by
   rintro v rfl;refine aI hj ?_;refine B.bA (.int _) (am (by rw[SJ,Ta];lia)) λH5 B5=>?_
   show AccZ K H D H5 (((a8 n i).take (j+1)).map TW);rw[Tc,eo,SV];exact B5
  rw[U_];cbv;refine aV (λe=>?_) (λe=>?_)
  .cbv;exact fin 1 (by rw[if_pos ∅])
  .cbv;exact fin 0 (by rw[if_neg ∅])
 intro H4 B;rw[SX (by rw[c7];exact SR _)] at B;exact k D H4 B
abbrev jP(n:Nat):List (List Int):=(TC n).map (a8 n)
def d_(n:Nat):(jP n).length=n:=by unfold jP;rw[SJ,TD]
def ig{n i:Nat}(h:i<n):(jP n)[i]?=some (a8 n i):=by unfold jP;rw[SO,TR h];rfl
abbrev gF(K:Fg):Sp:=λvs H Q _=>∃n:Nat,vs=[.int (n:Int)]/\n<=100/\∀(p:Addr) (H':Hp),Acc K H p H' ((jP n).map dL)->Q (.ref p) H'
abbrev vm(K:Fg):TS:=(aC (bT (fe (ac (aa 0) ae)) (aw (vS K) [] E0 (ac (aa 1) (ac (aa 0) ae)))))
def He{K:Fg}{N:List Str}(hN:Wi N=1)(h:gF K vs H Q E):vm K (ends Q) (L2.start N vs) H:=by
 obtain⟨n,rfl,hn,k⟩:=h;rw[L2.aK hN];walk_at "t";unfold vm;cbv;rw[Ul];refine cG (n:=n) λD nD=>⟨λj H3=>Acc K H D H3 (((jP n).take j).map dL),by simpa using Acc.start nD,?_,?_⟩
 .intro j H3 hj A;rw[U_];cbv;refine⟨n,j,rfl,hn,λp H4 C=>?_⟩;refine aI hj ?_;refine A.bA C.same (d:=dL (a8 n j)) C.ref (am (by rw[SJ,Ta];lia)) λH5 A5=>?_
  show Acc K H D H5 (((jP n).take (j+1)).map dL);rw[Tc,ig hj,SV];exact A5
 .intro H3 A;rw[SX (by rw[d_];exact SR _)] at A;exact k D H3 A
structure UN (K:Fg) (H H2:Hp) (D1 D2 D3 U:Addr) (n:Nat):Prop where
 s:SS H D1 D2 D3 U
 at_:∃xs,H2 U=some (.lst xs)/\RpL K (SS H D1 D2 D3) H2 xs ((jP n).map dL)
def UN.on{K:Fg}(A:UN K H H2 D1 D2 D3 U n)(e:Same H2 H3):UN K H H3 D1 D2 D3 U n:=by
 obtain⟨xs,h1,r1⟩:=A.at_;exact⟨A.s,xs,e _ _ h1,r1.same e⟩
def UN.upd{K:Fg}{D:Addr}(A:UN K H H2 D1 D2 D3 U n)(hD:D=D1\/D=D2\/D=D3)(h:H2 D=some (.lst l)):UN K H (L2.upd H2 D o) D1 D2 D3 U n:=by
 obtain⟨xs,h1,r1⟩:=A.at_
 have no:∀a,SS H D1 D2 D3 a->a≠D:=λa z e=>by
  rcases hD with rfl|rfl|rfl
  .exact z.2.1 e
  .exact z.2.2.1 e
  .exact z.2.2.2 e
 exact⟨A.s,xs,by rw[aJ (no _ A.s)];exact h1,r1.agr (Agr.eV h λw=>no _ w rfl)⟩
def UN.get{K:Fg}{i:Nat}(A:UN K H H2 D1 D2 D3 U n)(hi:i<n):∃xs c,H2 U=some (.lst xs)/\xs[i]?=⇑c/\H2 c=some (.lst ((a8 n i).map V.int)):=by
 obtain⟨xs,h1,r1⟩:=A.at_;obtain⟨x,e0,q0⟩:=r1.get' (i:=i) (d:=dL (a8 n i)) (by rw[SO,ig hi];rfl);obtain⟨c,rfl,_,hc⟩:=rj q0;exact⟨xs,c,h1,e0,hc⟩
nonrec def GF(K:Fg):TS:=(aM (aO (ao yw (aw (kT K) [] E0 (ac (aa 7) ae)) (aX (bf K) (ac (aa 6) ae))))
 (ak (bV (eJ K "list" aS (aa 1) (ac (aa 7) ae)))
 (bV (eJ K "list" aS (aa 2) (ac (aa 5) ae))))
 (bV (eJ K "list" aS (aa 3) (ac (aw (sA K) [] E0 (ac (CA (tm K) (aa 7) (g6 (aX (bf K) (ac (aa 6) ae))) fz) ae)) ae))))
nonrec def GE(K:Fg):TS:=(ak (bS (ur K (ac (aa 0) ae)) (bZ K 2 (aR (aj 5) (aR (aj 6) b4)))
 (ak (aA (aw (Kv K) [] E0 (ac (ao wI (aX (fG K) (ac (aa 6) ae)) (ao (cQ K) (aa 4) (aa 5))) (ac (aa 1) ae))) (aj 7))
 (GF K)))
 (aC (cP (ac (aa 2) (ac (aa 3) ae)))))
abbrev BN(K:Fg):TS:=(ak (aA (cS ae) (aj 1))
 (ak (aA (cS ae) (aj 2))
 (ak (aA (cS ae) (aj 3))
 (ak (aA (aw (gF K) [] E0 (ac (aX (bf K) (ac (aa 0) ae)) ae)) (aj 4))
 (GE K)))))
def KO{K:Fg}{N:List Str}(hN:Wi N=8)(h:CO K vs H Q E):BN K (ends Q) (L2.start N vs) H:=by
 obtain⟨a,R,w,b,rfl,⟨xs,ha,lx,rx⟩,hw,hl,hw1,hb,hb1,hbits,k⟩:=h;rw[L2.aK hN];walk_at "t";unfold BN;cbv;refine⟨by decide,λD1 n1=>?_⟩;cbv;refine⟨by decide,λD2 n2=>?_⟩;cbv;refine⟨by decide,λD3 n3=>?_⟩
 have A0:SH K H (upd (upd (upd H D1 (.lst [])) D2 (.lst [])) D3 (.lst [])) D1 D2 D3 (Bq R 0):=by
  have S1:=af n1 (.lst []);have S2:=af n2 (.lst []);have S3:=af n3 (.lst []);have h1:upd H D1 (.lst []) D1=some (.lst []):=ag;have h2:upd (upd H D1 (.lst [])) D2 (.lst []) D2=some (.lst []):=ag;exact⟨S1.trans (S2.trans S3),n1,S1.free n2,(S1.trans S2).free n3,ar h1 n2,ar (S2 _ _ h1) n3,ar h2 n3,⟨[],S3 _ _ (S2 _ _ h1),.nil⟩,S3 _ _ h2,⟨[],ag,.nil⟩⟩
 generalize upd (upd (upd H D1 (.lst [])) D2 (.lst [])) D3 (.lst [])=H0 at A0 ⊢;cbv;refine bP (SqL.of (A0.same _ _ ha)) ?_;rw[lx];cbv;refine⟨R.length,rfl,∅,λU H1 AU=>?_⟩
 have B0:UN K H H1 D1 D2 D3 U R.length:=by
  obtain⟨x1,hx1,_⟩:=A0.a1;obtain⟨x3,hx3,_⟩:=A0.a3;have ss:∀q,H0 q=none->SS H D1 D2 D3 q:=λq nq=>⟨A0.same.free nq,(ar hx1 nq).symm,(ar A0.a2 nq).symm,(ar hx3 nq).symm⟩
  obtain⟨ys,hy,ry⟩:=AU.at_;exact⟨ss U AU.new,ys,hy,ry.mono λq z=>ss q z.1⟩
 replace A0:=A0.on AU.same;clear AU;cbv;refine⟨a,xs,rfl,SqL.of (A0.same _ _ ha),?_⟩;refine iz (xs:=xs) (λi σ H2=>∃u5 u6 u7:Option V,σ=[⇑a,⇑D1,⇑D2,⇑D3,⇑U,u5,u6,u7]/\SH K H H2 D1 D2 D3 (Bq R i)/\UN K H H2 D1 D2 D3 U R.length) ⟨none,none,none,rfl,A0,B0⟩ (by rintro i σ H2 _ ⟨_,_,_,_,A,_⟩;exact SqL.of (A.same _ _ ha)) ?_ ?_
 .clear A0 B0 n1 n2 n3;rintro i x σ H2 T hx ⟨u5,u6,u7,rfl,A,B⟩ nT;have li:i<R.length:=by rw[<- lx];exact(SL.mp hx).1
  obtain⟨r,hr⟩:∃r,R[i]?=some r:=⟨_,SN li⟩
  have rv:=rx i x r hx hr;have I:=GU hw hb1 hb i ∅;have lr:=hw r (SM hr);have Y:=(KJ I hb1 li lr (hb r (SM hr))).1;have es:=G8 hr;rw[es];generalize Bq R i=st at A I Y ⊢;have A2:=A.on (af nT (.tup [.int (i:Int),x]));have B2:=B.on (af nT (.tup [.int (i:Int),x]));have hT:upd H2 T (.tup [.int (i:Int),x]) T=some (.tup [.int (i:Int),x]):=ag;generalize upd H2 T (.tup [.int (i:Int),x])=H3 at A2 B2 hT ⊢;refine bv (SqT.of hT) rfl ?_;have lo:(a8 R.length i).length=R.length:=c7 _ _;cbv;refine EV (rv.same A2.same) λl nl=>?_
  have A5:=A2.on (af nl (.lst (r.map V.int)));have B5:=B2.on (af nl (.lst (r.map V.int)));have hl5:upd H3 l (.lst (r.map V.int)) l=some (.lst (r.map V.int)):=ag;generalize upd H3 l (.lst (r.map V.int))=H5 at A5 B5 hl5 ⊢;obtain⟨us,D,hU,eD,hD5⟩:=B5.get li;cbv;refine dm (SqL.of hU) (v:=.ref D) (ba (j:=i) eD) ?_;cbv;refine⟨l,D,_,_,rfl,rfl,hl5,hD5,?_,λq nq=>?_⟩
  .have:(r.map V.int).length+((a8 R.length i).map V.int).length<sizeLine:=am (by rw[SJ,SJ];lia)
   lia
  rw[<- SV];have hq6:upd H5 q (.lst ((r++a8 R.length i).map V.int)) q=some (.lst ((r++a8 R.length i).map V.int)):=ag;have A6:=A5.on (af nq (.lst ((r++a8 R.length i).map V.int)));have B6:=B5.on (af nq (.lst ((r++a8 R.length i).map V.int)));obtain⟨x1,hx1,rx1⟩:=A5.a1;obtain⟨x3,hx3,rx3⟩:=A5.a3;have sq:SS H D1 D2 D3 q:=⟨A5.same.free nq,(ar hx1 nq).symm,(ar A5.a2 nq).symm,(ar hx3 nq).symm⟩
  generalize upd H5 q (.lst ((r++a8 R.length i).map V.int))=H6 at hq6 A6 B6 ⊢;cbv;obtain⟨ps,s1,s2,s3,_⟩:=I.sta;have lxo:(r++a8 R.length i).length=w+R.length:=by rw[To,lo,lr]
  have bst:bits b st.stairs.length<=bits b R.length:=fP (by have:=I.cnt;lia);refine⟨q,D1,r++a8 R.length i,st.stairs,b,rfl,hq6,?_,∅,λt ht=>⟨by rw[I.len t ht,lxo],?_⟩,?_,I.bnd,∅,λp H7 S7 hp h7=>?_⟩
  .obtain⟨y1,hy1,ry1⟩:=A6.a1;exact⟨y1,hy1,ry1.mono λ_ _=>trivial⟩
  .have:fp t∈st.stairs.map fp:=Te.mpr ⟨t,ht,rfl⟩
   rw[s3] at this;obtain⟨p0,_,e0⟩:=Te.mp this;exact⟨p0,e0.symm⟩
  .intro c hc;rcases Tv.mp hc with m|m
   .exact hb r (SM hr) c m
   .unfold a8 at m;obtain⟨o,_,rfl⟩:=Te.mp m
    have:2 ^ 1<=2 ^ b:=TM (by decide) hb1
    split <;> lia
  have A7:=A6.on S7;have B7:=B6.on S7
  have sp:SS H D1 D2 D3 p:=by
   rcases hp with rfl|np
   .exact sq
   .obtain⟨y1,hy1,_⟩:=A6.a1;obtain⟨y3,hy3,_⟩:=A6.a3;exact⟨A6.same.free np,(ar hy1 np).symm,(ar A6.a2 np).symm,(ar hy3 np).symm⟩
  have h7':H7 p=some (.lst ((dh R.length st i r).map V.int)):=h7;cbv;refine⟨p,dh R.length st i r,rfl,h7',λH8 S8=>?_⟩;have A8:=A7.on S8;have B8:=B7.on S8;have h8:=S8 _ _ h7';obtain⟨f,f1,f2⟩:=Y.ne;have fv:JU (dh R.length st i r)=.int f:=by unfold JU;rw[f1]
  rw[fv];cbv;refine EW (rv.same A8.same) ?_;cbv;refine aV (λc=>?_) (λc=>?_)
  .have c':f<Wi r:=by lia
   have e1:k8 R.length st i r=⟨st.stairs++[dh R.length st i r],st.free++[i],st.makers⟩:=by
    unfold k8;rw[f1];exact if_pos c'
   obtain⟨zs,z1,z2,z3,z4⟩:=A8.Qx (i:=i) sp h8;cbv;refine⟨ER z1,?_⟩;cbv;refine⟨D1,zs,_,rfl,rfl,z1,am (by have:=I.cnt;lia),?_⟩;cbv;refine⟨ER z3,?_⟩;cbv;refine⟨D2,_,_,rfl,rfl,z3,am ?_,?_⟩
   .have:st.free.length<=i:=by
     rw[I.free]
     have:∀i,(iw R i).length<=i:=by
      intro i
      induction i with
      |zero=>exact SR _
      |succ i ih =>
       by_cases g:dz (rowsOf R (iw R i)++[R.getD i []])
       .rw[ma rfl g,To];exact Zy ih
       .rw[uu rfl g];lia
     exact this i
    unfold ni;rw[SJ,SJ];lia
   .rw[e1];exact⟨_,_,_,rfl,z4,(B8.upd (.inl rfl) z1).upd (.inr (.inl rfl)) z3⟩
  .have c' : ¬ f<Wi r:=by lia
   have e1:k8 R.length st i r=⟨st.stairs,st.free,st.makers++[a7 ((dh R.length st i r).drop (Wi r))]⟩:=by
    unfold k8;rw[f1];exact if_neg c'
   obtain⟨y3,hy3,_⟩:=A8.a3;cbv;refine⟨ER hy3,?_⟩;cbv;refine EW (rv.same A8.same) ?_;cbv;refine⟨p,_,rfl,SqL.of h8,λt nt=>?_⟩;rw[uz,<- Zg];have A9:=A8.on (af nt (.lst (((dh R.length st i r).drop (Wi r)).map V.int)));have B9:=B8.on (af nt (.lst (((dh R.length st i r).drop (Wi r)).map V.int)));have h9:upd H8 t (.lst (((dh R.length st i r).drop (Wi r)).map V.int)) t=some (.lst (((dh R.length st i r).drop (Wi r)).map V.int)):=ag;generalize upd H8 t (.lst (((dh R.length st i r).drop (Wi r)).map V.int))=H9 at A9 B9 h9 ⊢;cbv;refine⟨t,_,rfl,h9,by rw[Us,Y.len];lia,λc hc=>?_,λp2 H10 C2=>?_⟩
   .exact Ts (Y.bnd c (Wl hc)) (TM (by decide) ∅)
   .have A10:=A9.on C2.same;obtain⟨y1,hy1,_⟩:=A9.a1;obtain⟨y4,hy4,_⟩:=A9.a3;have sp2:SS H D1 D2 D3 p2:=⟨A9.same.free C2.new,(ar hy1 C2.new).symm,(ar A9.a2 C2.new).symm,(ar hy4 C2.new).symm⟩
    obtain⟨zs,z1,z2,z3⟩:=A10.maker sp2 (AccZ.ints C2);cbv;refine⟨D3,zs,_,rfl,rfl,z1,am (by have:=I.mks;lia),?_⟩;rw[e1];exact⟨_,_,_,rfl,z3,(B9.on C2.same).upd (.inr (.inr rfl)) z1⟩
 .rintro σ H2 ⟨u5,u6,u7,rfl,A,_⟩;rw[lx] at A;cbv;refine⟨bF,λp np=>?_⟩;obtain⟨x3,h3,r3⟩:=A.a3;have S:=af np (.tup [.ref D2,.ref D3]);refine k p _ (A.same.trans S) (.tup ag (.cons (rg A.n2 (S _ _ A.a2)) (.cons (.lst A.n3 (S _ _ h3) ((r3.same S).mono λ_ z=>z.1)) .nil)))
abbrev j4(K:Fg):Sp:=λvs H Q _=>∃(v:V) (n:Nat) (ws:List Str) (ts:List Tn) (t:Tn),vs=[v,.int (n:Int)]/\Rz K H v (dV ws ts)/\ts[n]?=some t/\∀z,Rz K H z (dT t)->Q z H
abbrev o9(K:Fg):TS:=(ak (aA (ao (aH K) (aa 0) (tC (.int 1))) (aj 2))
 (ak (aM (Ac (dN (tB (aw kM [] E0 (ac (aa 1) ae)))) (dN (aO (gj Gh yw (tC (.int 0)) (aa 1) (aX (bf K) (ac (aa 2) ae))))))
 cW
 aP)
 (aC (ao (aH K) (aa 2) (aa 1)))))
def Dw{K:Fg}{N:List Str}(hN:Wi N=3)(h:j4 K vs H Q E):o9 K (ends Q) (L2.start N vs) H:=by
 obtain⟨v,n,ws,ts,t,rfl,rv,ht,k⟩:=h;obtain⟨a,v1,v2,rfl,ha,_,r2⟩:=jU rv;obtain⟨b,xs,rfl,hb,rx⟩:=r2.bI;have lx:Wi xs=ts.length:=by rw[rx.length,SJ]
 have ln:n<ts.length:=(SL.mp ht).1;rw[L2.aK hN];walk_at "t";unfold o9;cbv;refine aN (SqT.of ha) (v:=.ref b) rfl ?_;cbv;refine⟨(n:Int),rfl,?_⟩;cbv;refine aV (λ_=>?_) (λz=>absurd z ∅);cbv;refine cY (SqT.of hb) ?_;cbv;refine be (λz=>absurd z ∅) (λ_=>?_);cbv;obtain⟨u,eu,ru⟩:=rx.get' (i:=n) (d:=dT t) (by rw[SO,ht];rfl);refine aN (SqT.of hb) (v:=u) (ba eu) ?_;exact k u ru
abbrev Kw(K:Fg):Sp:=λvs H Q _=>∃(v:V) (n:Nat) (ws:List Str) (ts:List Tn) (t:Tn),vs=[v,.int (n:Int)]/\Rz K H v (dV ws ts)/\ts[n]?=some t/\t.fr.length<=100/\∀(p:Addr) (H':Hp),Same H H'->Rz K H' (.ref p) (dI (cO t))->Q (.ref p) H'
abbrev Km(K:Fg):TS:=(ak (aA (aw (j4 K) [] E0 (ac (aa 0) (ac (aa 1) ae))) (aj 2))
 (aC (aX (bX K) (ac (cC (iq K .T .T (ac (ao (aH K) (aa 2) (tC (.int 0))) (ac (ao (aH K) (aa 2) (tC (.int 1))) ae))) 2 (bZ K 2 (aR (aj 0) (aR (aj 1) b4))) (ao nv (aa 1) (aa 0))) ae))))
def Ny{K:Fg}{N:List Str}(hN:Wi N=3)(h:Kw K vs H Q E):Km K (ends Q) (L2.start N vs) H:=by
 obtain⟨v,n,ws,ts,t,rfl,rv,ht,hf3,k3⟩:=h;rw[L2.aK hN];walk_at "t";unfold Km;cbv;refine⟨v,n,ws,ts,t,rfl,rv,ht,λu ru=>?_⟩;obtain⟨at_,w1,w2,w3,rfl,hat,q1,q2,_⟩:=jV ru;obtain⟨b1,rfl,hb1⟩:=cB q1;obtain⟨b2,rfl,hb2⟩:=cB q2;cbv;refine aN (SqT.of hat) (v:=.ref b1) rfl ?_;cbv;refine aN (SqT.of hat) (v:=.ref b2) rfl ?_;cbv;refine⟨b1,b2,_,_,rfl,SqT.of hb1,SqT.of hb2,?_⟩;refine ga (xs:=t.fr.map V.int) (ys:=t.to.map V.int) λD nD=>?_
 have ml:min (t.fr.map V.int).length (t.to.map V.int).length=(cO t).length:=by unfold cO;rw[Vz,SJ,SJ]
 refine⟨λi H2=>AccZ K H D H2 (((cO t).take i).map TW),AccZ.start (Same.refl _) nD,λi H2 _ A=>⟨SqT.of (A.same _ _ hb1),SqT.of (A.same _ _ hb2)⟩,?_,?_⟩
 .intro i y1 y2 H2 T e1 e2 A nT us hu
  obtain⟨u0,u1,rfl⟩:∃u0 u1,us=[u0,u1]:=ex2 hu
  rw[SO] at e1 e2;obtain⟨m1,f1,rfl⟩:=SU.mp e1;obtain⟨m2,f2,rfl⟩:=SU.mp e2;have ec:(cO t)[i]?=some (m2-m1):=by unfold cO;rw[Uj,f1,f2]
  have li:i<(cO t).length:=(SL.mp ec).1;refine bv (SqT.of ag) rfl ?_;cbv;refine⟨⟨[↥m1,↥m2],rfl,rfl⟩,?_⟩;cbv;refine aI (by rw[ml];exact li) ?_;refine(A.on (af nT _)).bA (.int (m2-m1)) (am ?_) λH4 A4=>?_
  .rw[SJ,Ta]
   have:=(SL.mp f1).1
   lia
  .show AccZ K H D H4 (((cO t).take (i+1)).map TW);rw[Tc,ec,SV];exact A4
 .intro H2 A;rw[ml,SX (SR _)] at A;cbv;refine dF (SqL.of (AccZ.ints A)) λp np=>?_
  exact k3 p _ (A.same.trans (af np _)) (.tup ag (RpL.ints _))
abbrev oj(K:Fg):Sp:=λvs H Q _=>∃(v:V) (ws:List Str) (ts:List Tn),vs=[v]/\Rz K H v (dV ws ts)/\ts.length<=100/\(∀t∈ts,t.fr.length<=100)/\∀(p:Addr) (H':Hp),AccZ K H p H' ((ts.map cO).map dI)->Q (.ref p) H'
abbrev Cv(K:Fg):TS:=(aC (bT (fe (ac (aX (bf K) (ac (ao (aH K) (aa 0) (tC (.int 1))) ae)) ae)) (aw (Kw K) [] E0 (ac (aa 1) (ac (aa 0) ae)))))
def K5{K:Fg}{N:List Str}(hN:Wi N=1)(h:oj K vs H Q E):Cv K (ends Q) (L2.start N vs) H:=by
 obtain⟨v,ws,ts,rfl,rv,hl,hf,k⟩:=h;have rv0:=rv;obtain⟨a,v1,v2,rfl,ha,_,r2⟩:=jU rv;obtain⟨b,xs,rfl,hb,rx⟩:=r2.bI;have lx:Wi xs=ts.length:=by rw[rx.length,SJ]
 rw[L2.aK hN];walk_at "t";unfold Cv;cbv;refine aN (SqT.of ha) (v:=.ref b) rfl ?_;cbv;refine cY (SqT.of hb) ?_;cbv;rw[lx,Ul];refine cG (n:=ts.length) λD nD=>⟨λj H2=>AccZ K H D H2 (((ts.take j).map cO).map dI),by simpa using AccZ.start (Same.refl _) nD,?_,?_⟩
 .intro j H2 hj A;obtain⟨t,ht⟩:∃t,ts[j]?=some t:=⟨_,SN hj⟩
  rw[U_];cbv;refine⟨.ref a,j,ws,ts,t,rfl,rv0.same A.same,ht,hf t (SM ht),λp H3 S3 rp=>?_⟩;refine aI hj ?_;refine(A.on S3).bA rp (am (by rw[SJ,SJ,Ta];lia)) λH4 A4=>?_
  show AccZ K H D H4 (((ts.take (j+1)).map cO).map dI);rw[Tc,ht,SV,SV];exact A4
 .intro H2 A;rw[SX (SR _)] at A;exact k D H2 A
structure uW (w:Nat) (ts:List Tn):Prop where
 le:Wi ts<=8
 w5:w<=5
 fr:∀t∈ts,t.fr.length=w
 wide:Wide w (ts.map cO)
 bnd:Jg 2 (ts.map cO)
def R1(vo:rM ws ts):uW ws.length ts:=by
 obtain⟨hs,po,_,tk⟩:=vo.turns;have ho:∀t∈ts,cI ws.length t.fr/\cI ws.length t.to:=λt ht=>⟨po.2 _ (tk.ok t ht).1,po.2 _ (tk.ok t ht).2.1⟩
 refine⟨tk.le,vo.w5,λt ht=>(ho t ht).1.1,λr hr=>?_,λr hr c hc=>?_⟩
 .obtain⟨t,ht,rfl⟩:=Te.mp hr;unfold cO;rw[Vz,(ho t ht).1.1,(ho t ht).2.1,Nat.min_self]
 .obtain⟨t,ht,rfl⟩:=Te.mp hr;unfold cO at hc;obtain⟨i,hi⟩:=T2 hc;rw[Uj] at hi;cases e1:t.fr[i]? with
  |none=>rw[e1] at hi;simp at hi
  |some x =>
   cases e2:t.to[i]? with
   |none=>rw[e1,e2] at hi;simp at hi
   |some y =>
    rw[e1,e2] at hi;have hi':=TH hi;have b1:=(ho t ht).1.2 x (SM e1);have b2:=(ho t ht).2.2 y (SM e2);show c.natAbs<4;lia
def Nq{K:Fg}{R:List (List Int)}(A:AccZ K H0 p H (R.map dI)):c4 H p R:=by
 obtain⟨xs,h1,h2⟩:=A.at_;refine⟨xs,h1,by rw[h2.length,SJ],λi x r hx hr=>?_⟩;obtain⟨d,g1,g2⟩:=h2.get hx;rw[SO,hr] at g1;cases g1;obtain⟨b,rfl,hb⟩:=cB g2;exact⟨b,rfl,.inr hb⟩
def PM{n:Nat}(h:n<=8):bits 2 n<=9000:=TQ (fP h) (by decide)
end Rw
namespace Cl
open Rk Sz Sf
abbrev mE(R:List (List Int))(k:Nat):List Int:=R.map λr=>pt r k
abbrev a5(w:Nat)(R:List (List Int)):List (List Int):=(TC w).map (mE R)
abbrev ft:List Int->List Nat->List Int->Int
 |a :: as,p :: ps,r=>a*pt r p+ft as ps r
 |_,_,_=>0
def k9:∀{a:List Int} {ps:List Nat} (b:List Int) (qs:List Nat) (r:List Int),Wi a=Wi ps->ft (a++b) (ps++qs) r=ft a ps r+ft b qs r
 |[],[],b,qs,r,_=>by simp[ft]
 |x :: a,p :: ps,b,qs,r,h=>by
  have ih:=k9 (a:=a) (ps:=ps) b qs r (by simpa using h);show x*pt r p+ft (a++b) (ps++qs) r=x*pt r p+ft a ps r+ft b qs r;rw[ih];lia
def yo(k:Int):∀(a:List Int) (ps:List Nat) (r:List Int),ft (a.map λx=>k*x) ps r=k*ft a ps r
 |[],ps,r=>by cases ps <;> simp[ft]
 |x :: a,[],r=>by simp[ft]
 |x :: a,p :: ps,r=>by
  have ih:=yo k a ps r;show k*x*pt r p+ft (a.map λx=>k*x) ps r=k*(x*pt r p+ft a ps r);rw[ih,UY,TB]
def yn{ps:List Nat}(h:∀p∈ps,pt r p=0):∀a:List Int,ft a ps r=0:=by
 induction ps with
 |nil=>intro a;cases a <;> rfl
 |cons p ps ih =>
  intro a;cases a with
  |nil=>rfl
  |cons x a =>
   show x*pt r p+ft a ps r=0;rw[h p Tb,ih (λq hq=>h q (S_ _ hq))];lia
def wz{by_ s:List Int}{p:Nat}(h:Wi s=Wi by_):∀(a:List Int) (ps:List Nat),ft a ps (jm by_ p s)=pt by_ p*ft a ps s-pt s p*ft a ps by_
 |[],ps=>by cases ps <;> simp[ft]
 |x :: a,[]=>by simp[ft]
 |x :: a,q :: ps=>by
  have ih:=wz (p:=p) h a ps;show x*pt (jm by_ p s) q+ft a ps (jm by_ p s)=pt by_ p*(x*pt s q+ft a ps s)-pt s p*(x*pt by_ q+ft a ps by_);rw[ih,tD h,UY,UY,Yk];have e1:x*(pt s q*pt by_ p)=pt by_ p*(x*pt s q):=by rw[<- TB,Uc]
  have e2:x*(pt s p*pt by_ q)=pt s p*(x*pt by_ q):=by rw[<- TB,Uc x,TB]
  lia
def DX:pt (mE R k) q=match R[q]? with|some r=>pt r k|none=>0:=by
 show((R.map λr=>pt r k).getD q 0)=_;rw[SK,SO];cases R[q]? <;> rfl
def qY{w:Nat}{R:List (List Int)}{q:Nat}:∀(a:List Int) (ps:List Nat),(∀p∈ps,p<w)->bz a (rowsOf (a5 w R) ps) q=match R[q]? with|some r=>ft a ps r|none=>0
 |[],ps,_=>by
  cases ps <;> (unfold rowsOf;simp only[Xi,TN];cases R[q]? <;> rfl)
 |x :: a,[],_=>by unfold rowsOf;simp only[Xi];cases R[q]? <;> rfl
 |x :: a,p :: ps,h=>by
  have ih:=qY (R:=R) (q:=q) a ps λp hp=>h p (S_ _ hp)
  have lp:=h p Tb
  have e:(a5 w R).getD p []=mE R p:=by
   unfold a5;rw[SK,SO,TR lp];rfl
  show x*pt ((a5 w R).getD p []) q+bz a (rowsOf (a5 w R) ps) q=_;rw[ih,e,DX];cases R[q]? with
  |none=>simp
  |some r=>rfl
abbrev MM(R:List (List Int))(a:List Int)(ps:List Nat):Prop:=∀r∈R,ft a ps r=0
def mh{w:Nat}{ps:List Nat}(h:∀p∈ps,p<w):dz (rowsOf (a5 w R) ps)↔∀a:List Int,Wi a=Wi ps->MM R a ps->∀c∈a,c=0:=by
 have lr:(rowsOf (a5 w R) ps).length=Wi ps:=by unfold rowsOf;rw[SJ]
 constructor
 .intro f a la ra;refine f a (by rw[lr,la]) λq=>?_
  rw[qY a ps h];cases e:R[q]? with
  |none=>rfl
  |some r=>exact ra r (SM e)
 .intro f a la ra;refine f a (by rw[<- lr,la]) λr hr=>?_
  obtain⟨q,hq⟩:=T2 hr
  have:=ra q
  rw[qY a ps h,hq] at this;exact this
def kI(i:Nat):∀{P:List (List Int)} {ps:List Nat},cH P ps->∃(a:List Int) (s:Int),Wi a=(Wi ps)/\s≠0/\∀b∈P,ft a ps b+s*pt b i=0
 |_,_,.nil=>⟨[],1,rfl,by decide,by simp⟩
 |_,_,.cons (s:=b) (p:=p) (S:=P) (ps:=ps) h1 h2 r=>by
  obtain⟨a,s,la,hs,e⟩:=kI i r;refine⟨(-(ft a ps b+s*pt b i)) :: a.map λx=>pt b p*x,pt b p*s,by simp[la],Int.mul_ne_zero h1 hs,λt ht=>?_⟩;show -(ft a ps b+s*pt b i)*pt t p+ft (a.map λx=>pt b p*x) ps t+pt b p*s*pt t i=0;rw[yo];rcases Tu.mp ht with rfl|ht
  .have e1:pt t p*s*pt t i=pt t p*(s*pt t i):=TB ..;rw[e1,VB,Uc (ft a ps t+s*pt t i),UY];lia
  .rw[h2 t ht];have e1:pt b p*ft a ps t+pt b p*s*pt t i=pt b p*(ft a ps t+s*pt t i):=by rw[UY,TB]
   have e2:=e t ht;rw[e2,T_] at e1;lia
def yY(R:List (List Int)):∀i,dz (rowsOf R (iw R i))
 |0=>λa la _ c hc=>by
  have:a=[]:=Uf.mp la
  subst this;cases hc
 |i+1=>by
  by_cases g:dz (rowsOf R (iw R i)++[R.getD i []])
  .rw[ma rfl g];unfold rowsOf at g ⊢;rw[SV];exact g
  .rw[uu rfl g];exact yY R i
def JR(R:List (List Int)):∀i,∀j∈iw R i,j<i
 |0=>λj hj=>by cases hj
 |i+1=>λj hj=>by
  have ih:=JR R i;by_cases g:dz (rowsOf R (iw R i)++[R.getD i []])
  .rw[ma rfl g] at hj;rcases Tv.mp hj with m|m
   .exact W3 (ih j m)
   .rw[Tf.mp m];exact Xk i
  .rw[uu rfl g] at hj;exact W3 (ih j hj)
structure CI (R:List (List Int)) (w i:Nat) (st:Nat×List (List Int)):Prop where
 wide:Wide w st.2
 nought:∀r∈st.2,∀q<i,pt r q=0
 len:st.1=(iw (a5 w R) i).length
 pick:∃P,cH P (iw (a5 w R) i)/\∀(a:List Int) (ps:List Nat),MM R a ps↔MM P a ps/\MM st.2 a ps
def MA{st:Nat×List (List Int)}(I:CI R w i st)(hi:i<w):CI R w (i+1) (sk st i):=by
 obtain⟨P,sP,eP⟩:=I.pick;have gl:=JR (a5 w R) i;have gf:=yY (a5 w R) i;have gw:∀p∈iw (a5 w R) i,p<w:=λp hp=>by have:=gl p hp;lia
 have gw1:∀p∈iw (a5 w R) i++[i],p<w:=λp hp=>by
  rcases Tv.mp hp with m|m
  .exact gw p m
  .rw[Tf.mp m];exact hi
 have er:rowsOf (a5 w R) (iw (a5 w R) i)++[(a5 w R).getD i []]=rowsOf (a5 w R) (iw (a5 w R) i++[i]):=by unfold rowsOf;rw[SV];rfl
 have yes:=λh=>ma (R:=a5 w R) (i:=i) rfl h
 have no:=λh=>uu (R:=a5 w R) (i:=i) rfl h
 rw[er,mh gw1] at yes;rw[er,mh gw1] at no;rw[mh gw] at gf;have lI:=I.len;generalize iw (a5 w R) i=ps at sP gl gf gw gw1 yes no lI;unfold sk;split
 .rename_i e
  have z:∀r∈st.2,pt r i=0:=λr hr=>by
   by_cases y:pt r i=0
   .exact y
   .have:r∈st.2.filter (λr=>pt r i≠0):=Ui.mpr ⟨hr,by simpa using y⟩
    rw[e] at this;cases this
  have nf : ¬ ∀a:List Int,Wi a=(ps++[i]).length->MM R a (ps++[i])->∀c∈a,c=0:=λf=>by
   obtain⟨a,s,la,hs,es⟩:=kI i sP;refine hs (f (a++[s]) (by simp[la]) ((eP _ _).mpr ⟨λb hb=>?_,λr hr=>?_⟩) s (TJ _ (Tf.mpr rfl)))
   .rw[k9 _ _ _ la]
    have:=es b hb
    show ft a ps b+(s*pt b i+0)=0;lia
   .rw[k9 _ _ _ la,yn λp hp=>I.nought r hr p (gl p hp)];show 0+(s*pt r i+0)=0;rw[z r hr];lia
  have en:=no nf
  exact⟨I.wide,λr hr q hq=>by
   by_cases y:q=i
   .rw[y];exact z r hr
   .exact I.nought r hr q ∅,by rw[en];exact lI,P,by rw[en];exact sP,eP⟩
 .rename_i by_ rest e;have mb:by_∈st.2.filter (λr=>pt r i≠0):=by rw[e];exact Tb
  obtain⟨mb1,mb2⟩:=Ui.mp mb;have nb:pt by_ i≠0:=by simpa using mb2
  obtain⟨A,B,h1,h2⟩:=sW mb1;have hb:=I.wide by_ mb1
  have mem:∀s∈A++B,s∈st.2:=λs hs=>by
   rw[h1];rcases Tv.mp hs with z|z
   .exact UB _ z
   .exact TJ _ (S_ _ z)
  have f:∀a:List Int,Wi a=(ps++[i]).length->MM R a (ps++[i])->∀c∈a,c=0:=by
   intro a la ra;have la':Wi a=Wi ps+1:=by simpa using la
   obtain⟨a1,x,rfl⟩:∃a1 x,a=a1++[x]:=⟨a.dropLast,a.getLast (by intro z;rw[z] at la';simp at la'),(Ys _).symm⟩
   have l1:a1.length=ps.length:=by simpa using la'
   have e0:=((eP _ _).mp ra).2 by_ mb1;rw[k9 _ _ _ l1,yn λp hp=>I.nought by_ mb1 p (gl p hp)] at e0
   have e1:x*pt by_ i=0:=by
    have:0+(x*pt by_ i+0)=0:=e0
    lia
   have x0:x=0:=(Ub.mp e1).resolve_right nb
   have r1:MM R a1 ps:=λr hr=>by
    have:=ra r hr
    rw[k9 _ _ _ l1,x0] at this
    have:ft a1 ps r+(0*pt r i+0)=0:=this
    lia
   intro c hc;rcases Tv.mp hc with m|m
   .exact gf a1 l1 r1 c m
   .rw[Tf.mp m];exact x0
  refine⟨λr hr=>?_,λr hr q hq=>?_,?_,P++[by_],?_,λa qs=>?_⟩
  .obtain⟨s,hs,rfl⟩:=Te.mp hr;rw[h2] at hs;rw[mG (by rw[I.wide s (mem s hs),hb]),hb]
  .obtain⟨s,hs,rfl⟩:=Te.mp hr;rw[h2] at hs;rw[tD (by rw[I.wide s (mem s hs),hb])];by_cases y:q=i
   .subst y;rw[Uc];lia
   .rw[I.nought s (mem s hs) q ∅,I.nought by_ mb1 q ∅];simp
  .rw[yes f,To];show st.1+1=_;rw[lI];rfl
  .rw[yes f];exact sP.snoc (λq hq=>I.nought by_ mb1 q (gl q hq)) nb
  .rw[eP];constructor
   .rintro⟨r1,r2⟩;have rb:=r2 by_ mb1;refine⟨λb hb=>?_,λr hr=>?_⟩
    .rcases Tv.mp hb with m|m
     .exact r1 b m
     .rw[Tf.mp m];exact rb
    .obtain⟨s,hs,rfl⟩:=Te.mp hr;rw[h2] at hs;rw[wz (by rw[I.wide s (mem s hs),hb]),rb,r2 s (mem s hs)];simp
   .rintro⟨r1,r2⟩;have rb:=r1 by_ (TJ _ (Tf.mpr rfl));refine⟨λb hb=>r1 b (UB _ hb),λr hr=>?_⟩;rw[h1] at hr
    have go:∀s∈A++B,ft a qs s=0:=λs hs=>by
     have:=r2 (jm by_ i s) (Te.mpr ⟨s,by rw[h2];exact hs,rfl⟩)
     rw[wz (by rw[I.wide s (mem s hs),hb]),rb,T_,Zbq] at this;exact(Ub.mp this).resolve_left nb
    rcases Tv.mp hr with m|m
    .exact go r (UB _ m)
    .rcases Tu.mp m with rfl|m
     .exact rb
     .exact go r (TJ _ m)
def PK{R:List (List Int)}{w:Nat}(hw:Wide w R):∀i,i<=w->CI R w i (GN R i)
 |0,_=>⟨hw,λr _ q hq=>absurd hq (Vn _),rfl,[],.nil,λa ps=>⟨λh=>⟨λr hr=>(by cases hr),h⟩,λh=>h.2⟩⟩
 |i+1,h=>by rw[CD];exact MA (PK hw i ∅) ∅
def CW(hw:Wide w R):size w R=(iw (a5 w R) w).length:=(PK hw w (SR _)).len
end Cl
namespace Mk
open Rk Sz Sf Cl
def k_(a:List Int)(j:Nat):pt a.tail j=pt a (j+1):=by
 cases a with
 |nil=>rfl
 |cons x a=>rfl
def iA(a:List Int)(r:List Int)(R:List (List Int))(q:Nat):bz a (r :: R) q=pt a 0*pt r q+bz a.tail R q:=by
 cases a with
 |nil=>show(0:Int)=0*pt r q+bz [] R q;cases R <;> simp[bz]
 |cons x a=>rfl
def mw{α β:Int}{q:Nat}:∀{R:List (List Int)} {a b c:List Int},(∀j,pt c j=α * pt a j + β * pt b j)->bz c R q=α * bz a R q + β * bz b R q
 |[],a,b,c,_=>by rw[xB,xB,xB];simp
 |r :: R,a,b,c,h=>by
  have ih:=mw (R:=R) (a:=a.tail) (b:=b.tail) (c:=c.tail) (q:=q) λj=>by rw[k_,k_,k_];exact h (j+1)
  rw[iA,iA,iA,ih,h 0,Y5,UY,UY,TB,TB];lia
def fI(s:List Int)(w j:Nat):pt (s.drop w) j=pt s (w+j):=by
 unfold pt;rw[SK,SK,WO]
def zh{q:Nat}:∀{R:List (List Int)} {a:List Int} {i:Nat} {r:List Int},R[i]?=some r->(∀j,pt a j=if j=i then 1 else 0)->bz a R q=pt r q
 |x :: R,a,0,r,e,h=>by
  have e':x=r:=TH e;have z:bz a.tail R q=0*bz [] R q+0*bz [] R q:=mw λj=>by rw[k_,h (j+1)];simp
  rw[iA,z,h 0,e'];simp
 |x :: R,a,i+1,r,e,h=>by
  have ih:=zh (R:=R) (a:=a.tail) (i:=i) (q:=q) (by simpa using e) λj=>by rw[k_,h (j+1)];simp
  rw[iA,ih,h 0];simp
abbrev Md(w:Nat)(R:List (List Int))(s:List Int):Prop:=∀q<w,pt s q=bz (s.drop w) R q
def Ou{w:Nat}{R:List (List Int)}{r:List Int}{i:Nat}(hr:R[i]?=some r)(lr:Wi r=w):Md w R (r++a8 (Wi R) i):=by
 intro q hq;have hi:i<Wi R:=(SL.mp hr).1
 have e:pt (r++a8 (Wi R) i) q=pt r q:=by
  unfold pt;rw[SK,TU ∅,SK]
 rw[e];refine(zh hr λj=>?_).symm;rw[fI,yJ lr];by_cases z:j=i
 .rw[if_pos ⟨z ▸ hi,z⟩,if_pos z]
 .rw[if_neg (λy=>z y.2),if_neg z]
def Ot(my:Md w R y)(ms:Md w R s)(l:y.length=s.length):Md w R (stp y s):=by
 intro q hq;unfold stp;generalize (fp s).getD 0=p;obtain⟨g,hg,eg⟩:=ij (jm s p y)
 have e1:g*pt (a7 (jm s p y)) q=g*bz ((a7 (jm s p y)).drop w) R q:=by
  have a1:bz ((jm s p y).drop w) R q=g*bz ((a7 (jm s p y)).drop w) R q+0*bz [] R q:=mw λj=>by
   rw[fI,fI,eg (w+j)];simp
  have a2:bz ((jm s p y).drop w) R q=pt s p*bz (y.drop w) R q+(-pt y p)*bz (s.drop w) R q:=mw λj=>by
   rw[fI,fI,fI,tD l,Uc (pt y (w+j)),VB];lia
  rw[eg q,tD l,my q hq,ms q hq];rw[a1,UT,VZ] at a2;rw[a2,Uc (bz (y.drop w) R q),VB];lia
 exact Uo hg e1
def oC{w L:Nat}{R:List (List Int)}:∀(S:List (List Int)) (y:List Int),(∀s∈S,s.length=L/\Md w R s)->y.length=L->Md w R y->Md w R (a6 y S)
 |[],y,_,_,m=>m
 |s :: S,y,h,l,m=>by
  have hs:=h s Tb;refine oC S (stp y s) (λt ht=>h t (S_ _ ht)) ?_ (Ot m hs.2 (by rw[l,hs.1]));unfold stp;rw[cq,mG (by rw[l,hs.1]),hs.1]
def Fp{g:Int}:∀(r:List Int) (d:Int),(r.map λx=>g*x).foldl Gd.gd (g*d)=(g.natAbs:Int)*r.foldl Gd.gd d\/(r=[]/\(r.map λx=>g*x).foldl Gd.gd (g*d)=g*d)
 |[],d=>.inr ⟨rfl,rfl⟩
 |x :: r,d=>by
  refine .inl ?_
  have e:Gd.gd (g*d) (g*x)=(g.natAbs:Int)*Gd.gd d x:=by
   unfold Gd.gd;rw[Zt];simp
  show(r.map λx=>g*x).foldl Gd.gd (Gd.gd (g*d) (g*x))=(g.natAbs:Int)*r.foldl Gd.gd (Gd.gd d x);rw[e]
  have abs:∀(r:List Int) (d:Int),(r.map λx=>g*x).foldl Gd.gd ((g.natAbs:Int)*d)=(g.natAbs:Int)*r.foldl Gd.gd d:=by
   intro r
   induction r with
   |nil=>intro d;rfl
   |cons y r ih =>
    intro d
    have e:Gd.gd ((g.natAbs:Int)*d) (g*y)=(g.natAbs:Int)*Gd.gd d y:=by
     unfold Gd.gd
     have:Zb4 ((g.natAbs:Int)*d) (g*y)=Zb4 (g*d) (g*y):=by
      rw[Yt,Yt,UM,UM,UM];simp
     rw[this,Zt];simp
    show(r.map λx=>g*x).foldl Gd.gd (Gd.gd ((g.natAbs:Int)*d) (g*y))=_;rw[e,ih];rfl
  exact abs r _
def mf:∀(r:List Int) (d:Int),0<=d->0<=r.foldl Gd.gd d
 |[],d,h=>h
 |x :: r,d,_=>mf r _ (Gd.uv d x)
def yN{i:Nat}(h:fp r=some i):bq (a7 r)=1/\fp (a7 r)=some i/\0<pt (a7 r) i:=by
 obtain⟨f1,f2,f3⟩:=dv h;have d0:=zf f2;have dd:=xA r i;have el:a7 r=r.map λx=>x.fdiv (ff r i):=by unfold a7;rw[h]
 have back:r=(a7 r).map λx=>ff r i*x:=by
  rw[el,UV]
  conv=>lhs;rw[<- ZbQ r]
  refine Wy λx hx=>?_
  show x=ff r i*x.fdiv (ff r i);rw[Wo (dd x hx)]
 have ptl:∀q,ff r i*pt (a7 r) q=pt r q:=by
  intro q;rw[el];unfold pt;rw[SK,SO,SK];cases e2:r[q]? with
  |none=>exact T_ _
  |some c=>exact Wo (dd c (SM e2))
 have g0:=jj f2;have gn:0<=bq r:=mf r 0 (VC _);have gp:0<bq r:=by lia
 have da:((ff r i).natAbs:Int)=bq r:=by unfold ff;split <;> lia
 refine⟨?_,?_,?_⟩
 .have:=Fp (g:=ff r i) (a7 r) 0
  rw[T_,<- back] at this;rcases this with e|⟨e,_⟩
  .have e':bq r=bq r*bq (a7 r):=by rw[da] at e;exact e
   have:bq r*bq (a7 r)=bq r*1:=by lia
   exact Uo g0 this
  .rw[e] at back;rw[back] at f1;simp at f1
 .have nz:pt (a7 r) i≠0:=λz=>f2 (by rw[<- ptl i,z,T_])
  have l:i<(a7 r).length:=by rw[cq];exact f1
  unfold fp;rw[Wb];refine⟨l,?_,λj hj=>?_⟩
  .unfold pt at nz;rw[SK,SN l] at nz;simpa using nz
  .have z:pt (a7 r) j=0:=by
    have:=ptl j
    rw[f3 j hj] at this;exact(Ub.mp this).resolve_left d0
   unfold pt at z;rw[SK,SN ∅] at z;simpa using z
 .have e:=ptl i;unfold ff at e;split at e
  .rename_i ng;by_cases z:0<pt (a7 r) i
   .exact z
   .have:0<=bq r * -pt (a7 r) i:=Xd gn ∅
    rw[V3] at this;rw[VB] at e;lia
  .rename_i ng;by_cases z:0<pt (a7 r) i
   .exact z
   .have:0<=bq r * -pt (a7 r) i:=Xd gn ∅
    rw[V3] at this;lia
def Fu(h:dz M)(n:pt m p≠0)(z:∀t∈M,pt t p=0):dz (M++[m]):=by
 intro a la ha;obtain⟨a1,a2,rfl,l1,l2⟩:=split_len la;obtain⟨x,rfl⟩:∃x,a2=[x]:=U6.mp l2
 have x0:x=0:=by
  have:=ha p
  rw[jl _ _ _ l1,eG z] at this;have e:0+(x*pt m p+0)=0:=this;exact(Ub.mp (by lia:x*pt m p=0)).resolve_right n
 intro c hc;rcases Tv.mp hc with q|q
 .refine h a1 l1 (λk=>?_) c q
  have:=ha k
  rw[jl _ _ _ l1,x0] at this;have e:bz a1 M k+(0*pt m k+0)=0:=this;lia
 .rw[Tf.mp q];exact x0
def sy:∀{S:List (List Int)} {ps:List Nat},cH S ps->Wi S=Wi ps
 |_,_,.nil=>rfl
 |_,_,.cons _ _ r=>congrArg (· + 1) (sy r)
def ya{p:Nat}:∀{S:List (List Int)} {ps:List Nat},cH S ps->(∀t∈S,pt t p=0)->p∉ps
 |_,_,.nil,_=>by simp
 |_,_,.cons (s:=s) (p:=q) h1 _ r,z=>λm=>by
  rcases Tu.mp m with e|m
  .exact h1 (by rw[<- e];exact z s Tb)
  .exact ya r (λt ht=>z t (S_ _ ht)) m
def yc:∀{S:List (List Int)} {ps:List Nat},cH S ps->ps.Nodup
 |_,_,.nil=>Vj
 |_,_,.cons _ h2 r=>Um.mpr ⟨ya r h2,yc r⟩
def GO{w:Nat}(h:cH S ps)(l:∀p∈ps,p<w):S.length<=w:=by
 have:=Ti.eE (hs:=TC w) (yc h) λp hp=>Uu.mpr (l p hp)
 rw[TD] at this;rw[sy h];exact this
structure Good (R:List (List Int)) (w b:Nat) (m:List Int):Prop where
 len:m.length=R.length
 nought:∀q,bz m R q=0
 low:bq m=1
 first:∃k,fp m=some k/\0<pt m k
 bnd:∀c∈m,c.natAbs<2 ^ bits b (min w (Wi R))
structure MI (R:List (List Int)) (w b i:Nat) (st:ve):Prop where
 cnt:st.makers.length+st.free.length=i
 md:∀s∈st.stairs,Md w R s
 good:∀m∈st.makers,Good R w b m
 last:∀m∈st.makers,∀j,i<=j->pt m j=0
 free:dz st.makers
def IN{q:Nat}(hw:Wide w R)(hq:w<=q):bz a R q=0:=eG λs hs=>by
 unfold pt;rw[SK,TL (by rw[hw s hs];exact hq)];rfl
def LR{st:ve}{r:List Int}(hw:Wide w R)(I:SI R w b i st)(J:MI R w b i st)(hb:1<=b)(hr:R[i]?=some r)(br:∀c∈r,c.natAbs<2 ^ b):MI R w b (i+1) (k8 R.length st i r):=by
 have lr:=hw r (SM hr);have hi:i<R.length:=(SL.mp hr).1;obtain⟨Y,ps,s1,s2,s3,s4,C⟩:=KJ I hb hi lr br;have lx:(r++a8 R.length i).length=w+R.length:=by unfold a8;rw[To,SJ,TD,lr]
 have M:Md w R (dh R.length st i r):=oC st.stairs _ (λs hs=>⟨I.len s hs,J.md s hs⟩) lx (Ou hr lr);have ws:=GO s1 s2;obtain⟨d,c,G,ld,hc,hG,e⟩:=C.made
 have at_i:pt (dh R.length st i r) (w+i)≠0:=by
  intro z;have e1:=e (w+i);rw[z,yJ lr,eG λs hs=>I.own s hs i (SR _),if_pos ⟨hi,rfl⟩] at e1;lia
 unfold k8;generalize dh R.length st i r=z at Y C M at_i;obtain⟨q,f1,f2⟩:=Y.ne;rw[f1];show MI R w b (i+1) (if q<(Wi r) then _ else _);split
 .refine⟨?_,λs hs=>?_,J.good,λm hm j hj=>J.last m hm j ∅,J.free⟩
  .show st.makers.length+(st.free++[i]).length=i+1;rw[To]
   have:=J.cnt
   show st.makers.length+(st.free.length+1)=i+1;lia
  .rcases Tv.mp hs with m|m
   .exact J.md s m
   .rw[Tf.mp m];exact M
 .rename_i lq;rw[lr] at lq;have z0:∀k,k<w->pt z k=0:=λk hk=>(dv f1).2.2 k ∅
  rw[lr];have dn:pt (z.drop w) i≠0:=by rw[fI];exact at_i
  obtain⟨k,fk⟩:∃k,fp (z.drop w)=some k:=by
   cases f:fp (z.drop w) with
   |none=>exact absurd (xu f i) dn
   |some k=>exact⟨k,rfl⟩
  obtain⟨l1,l2,l3⟩:=yN fk;obtain⟨g,hg,eg⟩:=ij (z.drop w)
  have zero:∀j,pt (z.drop w) j=0->pt (a7 (z.drop w)) j=0:=λj h=>by
   have:=eg j
   rw[h] at this;exact(Ub.mp this).resolve_left hg
  have G1:Good R w b (a7 (z.drop w)):=by
   refine⟨?_,λq=>?_,l1,⟨k,l2,l3⟩,?_⟩
   .rw[cq,Us,Y.len];lia
   .by_cases hq:q<w
    .have a1:bz (z.drop w) R q=g*bz (a7 (z.drop w)) R q+0*bz [] R q:=mw λj=>by rw[eg j];simp
     rw[<- M q hq,z0 q hq,UT,VZ] at a1;exact(Ub.mp a1.symm).resolve_left hg
    .exact IN hw ∅
   .refine yO λc hc=>?_
    exact Ts (Y.bnd c (Wl hc)) (TM (by decide) (fP (by have:=I.cnt;lia)))
  refine⟨?_,J.md,λm hm=>?_,λm hm j hj=>?_,?_⟩
  .show(st.makers++[_]).length+st.free.length=i+1;rw[To]
   have:=J.cnt
   show st.makers.length+1+st.free.length=i+1;lia
  .rcases Tv.mp hm with y|y
   .exact J.good m y
   .rw[Tf.mp y];exact G1
  .rcases Tv.mp hm with y|y
   .exact J.last m y j ∅
   .rw[Tf.mp y];exact zero j (by rw[fI];exact Y.own j hj)
  .refine Fu (p:=i) J.free (λy=>dn ?_) λt ht=>J.last t ht i (SR _)
   rw[<- eg i,y,T_]
def LS{R:List (List Int)}{w b:Nat}(hw:Wide w R)(hb:1<=b)(br:Jg b R):∀i,i<=Wi R->MI R w b i (Bq R i)
 |0,_=>⟨rfl,(λs hs=>by cases hs),(λs hs=>by cases hs),(λs hs=>by cases hs),λa la _ c hc=>by
   have:a=[]:=Uf.mp la
   subst this
   cases hc⟩
 |i+1,h=>by
  have hr:R[i]?=some (R.getD i []):=by rw[SK,SN ∅];rfl
  exact LR hw (GU hw hb br i ∅) (LS hw hb br i ∅) hb hr (br _ (SM hr))
def uD(hw:Wide w R):a5 R.length (a5 w R)=R:=by
 refine W1 λi=>?_
 unfold a5;rw[SO];by_cases h:i<R.length
 .rw[TR h,SN h];show some (mE (a5 w R) i)=some R[i];congr 1;have lr:=hw R[i] (U9 h);refine W1 λk=>?_
  unfold mE a5;rw[UV,SO];by_cases hk:k<w
  .rw[TR hk,SN ∅];show some (pt (mE R k) i)=some R[i][k];rw[DX,SN h];show some (pt R[i] k)=_;unfold pt;rw[SK,SN ∅];rfl
  .rw[TL (by simp;lia),TL ∅];rfl
 .rw[TL (by simp;lia),TL ∅];rfl
def iC(w:Nat)(B:List (List Int)):Wide (Wi B) (a5 w B):=λr hr=>by
 unfold a5 at hr;obtain⟨k,_,rfl⟩:=Te.mp hr;unfold mE;rw[SJ]
def iD(w:Nat)(B:List (List Int)):(a5 w B).length=w:=by unfold a5;rw[SJ,TD]
def rA(h:Jg b B):Jg b (a5 w B):=λr hr c hc=>by
 unfold a5 at hr;obtain⟨k,_,rfl⟩:=Te.mp hr;unfold mE at hc;obtain⟨s,hs,rfl⟩:=Te.mp hc;exact ox (h s hs) k
def t_{b:Nat}(hw:Wide w B)(hb:1<=b)(br:Jg b B):(Bq B B.length).makers.length+size B.length (a5 w B)=B.length:=by
 have J:=LS hw hb br B.length (SR _);have I:=GU hw hb br B.length (SR _);rw[CW (iC w B),uD hw,<- I.free];exact J.cnt
end Mk
namespace Rw
open PySem L2 Fr G1 Sm Vs G2 Rk Sz Sf Cl
open PySem.W (Dat kqdOk)
structure R_ (n b:Nat) (m:List Int):Prop where
 len:m.length=n
 low:bq m=1
 first:∃k,fp m=some k/\0<pt m k
 bnd:∀c∈m,c.natAbs<2 ^ b
abbrev mX(m r:List Int):Int:=(UD (· * ·) m r).sum
end Rw
namespace Rw
open PySem L2 Fr G1 Sm Vs G2 Rk Sz Sf Cl
open PySem.W (Dat kqdOk)
abbrev dM(M:List (List Int)):Dat:=.list (M.map dL)
abbrev pY(K:Fg):Sp:=λvs H Q _=>∃(a:Addr) (R:List (List Int)) (w b:Nat),vs=[.ref a]/\c4 H a R/\Wide w R/\R.length<=20/\w<=20/\Jg b R/\1<=b/\bits b (Wi R)<=9000 /\
 ∀(p:Addr) (H':Hp),Same H H'->Rp K (λa=>H a=none) H' (.ref p) (dM (KB R).makers)->Q (.ref p) H'
abbrev pC(K:Fg):TS:=(aC (ao (aH K) (aw (CO K) [] E0 (ac (aa 0) ae)) (tC (.int 1))))
def DE{K:Fg}{N:List Str}(hN:Wi N=1)(h:pY K vs H Q E):pC K (ends Q) (L2.start N vs) H:=by
 obtain⟨a,R,w,b,rfl,hr,hw,hl,hw1,hb,hb1,hbits,k⟩:=h;rw[L2.aK hN];walk_at "t";unfold pC;cbv;refine⟨a,R,w,b,rfl,hr,hw,hl,hw1,hb,hb1,hbits,λp H1 S1 rp=>?_⟩;obtain⟨q,xs,e,hq,rx⟩:=rp.bI;cases e;cases rx with
 |cons h1 r1 =>
  cases r1 with
  |cons h2 r2 =>
   cases r2;obtain⟨c,ys,rfl,nc,hc,ry⟩:=Rp.ua h2;cbv;refine aN (SqT.of hq) (v:=.ref c) (ba (j:=1) rfl) ?_;exact k c H1 S1 h2
def BA(k:Nat):∀(m:List Int) (B:List (List Int)),mX m (mE B k)=bz m B k
 |[],B=>by cases B <;> rfl
 |x :: m,[]=>rfl
 |x :: m,r :: B=>by
  have ih:=BA k m B;show(x*pt r k :: UD (· * ·) m (mE B k)).sum=x*pt r k+bz m B k;rw[U2,<- ih];rfl
def LZ(hw:Wide w B)(br:Jg 2 B)(h5:min w B.length<=5):(∀m∈(KB B).makers,R_ B.length 95 m/\∀r∈a5 w B,mX m r=0)/\dz (KB B).makers/\(KB B).makers.length+size B.length (a5 w B)=B.length:=by
 have J:=Mk.LS hw (by decide) br B.length (SR _);refine⟨λm hm=>⟨⟨(J.good m hm).len,(J.good m hm).low,(J.good m hm).first,λc hc=>?_⟩,λr hr=>?_⟩,J.free,Mk.t_ hw (by decide) br⟩
 .exact Ts ((J.good m hm).bnd c hc) (TM (by decide) (TQ (fP h5) (by decide)))
 .unfold a5 at hr;obtain⟨k,_,rfl⟩:=Te.mp hr;rw[BA];exact(J.good m hm).nought k
abbrev qd(K:Fg):Sp:=λvs H Q _=>∃(a:Addr) (xs:List V) (R:List (List Int)) (w k:Nat),vs=[.ref a,.int (k:Int)]/\H a=some (.lst xs)/\RzL K H xs (R.map dI)/\Wide w R/\k<w/\R.length<=100/\∀(p:Addr) (H':Hp),AccZ K H p H' ((mE R k).map TW)->Q (.ref p) H'
abbrev pN(K:Fg):TS:=(aC (bT (dB K (aa 0)) (ao (aH K) (aa 0) (aa 2))))
def DM{K:Fg}{N:List Str}(hN:Wi N=2)(h:qd K vs H Q E):pN K (ends Q) (L2.start N vs) H:=by
 obtain⟨a,xs,R,w,j,rfl,ha,rx,hw,hj,hl,k⟩:=h;rw[L2.aK hN];walk_at "t";have lx:Wi xs=R.length:=by rw[rx.length,SJ]
 have lc:(mE R j).length=R.length:=by unfold mE;rw[SJ]
 unfold pN;cbv;refine xr (SqL.of ha) ?_;refine dy (xs:=xs) λD nD=>⟨λm H4=>AccZ K H D H4 (((mE R j).take m).map TW),by simpa using AccZ.start (Same.refl _) nD,λm H4 _ C=>SqL.of (C.same _ _ ha),?_,?_⟩
 .intro m x H4 hx C;have lm:=(SL.mp hx).1;obtain⟨d,g1,g2⟩:=rx.get hx;rw[SO] at g1;obtain⟨r,hr,rfl⟩:=SU.mp g1;obtain⟨b0,rfl,hb0⟩:=cB g2;have lr:=hw r (SM hr);have ecm:(mE R j)[m]?=some (pt r j):=by unfold mE;rw[SO,hr];rfl
  cbv;refine aN (SqT.of (C.same _ _ hb0)) (jp ∅) ?_;refine aI lm ?_;refine C.bA (.int _) (am (by rw[SJ,Ta];lia)) λH5 C5=>?_
  show AccZ K H D H5 (((mE R j).take (m+1)).map TW);rw[Tc,ecm,SV];exact C5
 .intro H4 C;rw[SX ∅] at C;exact k D H4 C
abbrev g_(K:Fg):Sp:=λvs H Q _=>∃(a:Addr) (xs:List V) (R:List (List Int)) (w:Nat),vs=[.ref a]/\H a=some (.lst xs)/\RzL K H xs (R.map dI)/\Wide w R/\R≠[]/\w<=100/\R.length<=100/\∀(p:Addr) (H':Hp),Acc K H p H' ((a5 w R).map dL)->Q (.ref p) H'
abbrev kF(K:Fg):TS:=(aC (bT (fe (ac (aX (bf K) (ac (ao (cQ K) (aa 0) (tC (.int 0))) ae)) ae)) (aw (qd K) [] E0 (ac (aa 1) (ac (aa 0) ae)))))
def AH{K:Fg}{N:List Str}(hN:Wi N=1)(h:g_ K vs H Q E):kF K (ends Q) (L2.start N vs) H:=by
 obtain⟨a,xs,R,w,rfl,ha,rx,hw,hne,hw1,hl,k⟩:=h;rw[L2.aK hN];walk_at "t";unfold kF
 obtain⟨r0,R',rfl⟩:∃r0 R',R=r0 :: R':=by
  cases R with
  |nil=>exact absurd rfl hne
  |cons r R=>exact⟨r,R,rfl⟩
 obtain⟨x0,e0,q0⟩:=rx.get' (i:=0) (d:=dI r0) rfl;obtain⟨b0,rfl,hb0⟩:=cB q0;have l0:=hw r0 Tb;cbv;refine dm (SqL.of ha) (v:=.ref b0) (ba (j:=0) e0) ?_;cbv;refine cY (SqT.of hb0) ?_;rw[SJ,l0];cbv;rw[Ul];generalize r0 :: R'=R at *;refine cG (n:=w) λD nD=>⟨λj H3=>Acc K H D H3 (((a5 w R).take j).map dL),by simpa using Acc.start nD,?_,?_⟩
 .intro j H3 hj A;have ec:(a5 w R)[j]?=some (mE R j):=by unfold a5;rw[SO,TR hj];rfl
  rw[U_];cbv;refine⟨a,xs,R,w,j,rfl,A.same _ _ ha,rx.same A.same,hw,hj,hl,λp H4 C=>?_⟩;refine aI hj ?_;refine A.bA C.same (d:=dL (mE R j)) C.ref (am (by rw[SJ,Ta];lia)) λH5 A5=>?_
  show Acc K H D H5 (((a5 w R).take (j+1)).map dL);rw[Tc,ec,SV];exact A5
 .intro H3 A;rw[SX (by rw[Mk.iD];exact SR _)] at A;exact k D H3 A
def Dp{K:Fg}{R:List (List Int)}(A:Acc K H0 p H (R.map dL)):c4 H p R:=by
 obtain⟨xs,h1,h2⟩:=A.at_;refine⟨xs,h1,by rw[h2.length,SJ],λi x r hx hr=>?_⟩;obtain⟨d,g1,g2⟩:=h2.get hx;rw[SO,hr] at g1;cases g1;obtain⟨b,rfl,_,hb⟩:=rj g2;exact⟨b,rfl,.inl hb⟩
abbrev CS(K:Fg):Sp:=λvs H Q _=>∃(v:V) (ws:List Str) (ts:List Tn) (w:Nat),vs=[v]/\Rz K H v (dV ws ts)/\uW w ts/\ts≠[]/\∀(p:Addr) (H':Hp),Same H H'->Rp K (λa=>H a=none) H' (.ref p) (dM (KB (a5 w (ts.map cO))).makers)->Q (.ref p) H'
abbrev Ch(K:Fg):TS:=(aC (aw (pY K) [] E0 (ac (aw (g_ K) [] E0 (ac (aw (oj K) [] E0 (ac (aa 0) ae)) ae)) ae)))
def K1{K:Fg}{N:List Str}(hN:Wi N=1)(h:CS K vs H Q E):Ch K (ends Q) (L2.start N vs) H:=by
 obtain⟨v,ws,ts,w,rfl,rv,co,ne,k⟩:=h;rw[L2.aK hN];walk_at "t";unfold Ch;have t8:=co.le;have w5:=co.w5;have lR:(ts.map cO).length=ts.length:=SJ _;cbv;refine⟨v,ws,ts,rfl,rv,∅,λt ht=>by rw[co.fr t ht];lia,λp H1 A1=>?_⟩;obtain⟨xs,h1,r1⟩:=A1.at_;cbv;refine⟨p,xs,ts.map cO,w,rfl,h1,r1,co.wide,by simpa using ne,∅,∅,λp2 H2 A2=>?_⟩;cbv;have cw:=Mk.iC w (ts.map cO);rw[lR] at cw;refine⟨p2,a5 w (ts.map cO),ts.length,2,rfl,Dp A2,cw,by rw[Mk.iD];lia,∅,Mk.rA co.bnd,by decide,PM (by rw[Mk.iD];lia),λq H3 S3 r3=>?_⟩;have S13:=A1.same.trans A2.same;exact k q H3 (S13.trans S3) (r3.mono λ_ z=>S13.free z)
end Rw
namespace L2
open PySem
def yP{c:TT}{tb:TS}{D:ca}{H:Hp}(W:Nat->St->Hp->Prop)(m:Nat)(h0:W m σ H)(hs:∀m σ H,W m σ H->c σ H λb H1=>if b=true then ∃N:St->Hp->Prop,(∀σ' H',N σ' H'->∃m',m'<m/\W m' σ' H')/\tb {D with nx:=N,ct:=N,bk:=D.nx} σ H1 else D.nx σ H1):kG c tb D σ H:=⟨W,⟨m,h0⟩,hs⟩
def E_{k:Nat}:∀{S:List Nat},Ph (.int (k:Int)) ((Dn.nI S).map V.int)=decide (k∈S)
 |[]=>rfl
 |j :: S=>by
  have ih:=E_ (k:=k) (S:=S);show(Gi (.int (j:Int)) (.int (k:Int)) || Ph (.int (k:Int)) ((Dn.nI S).map V.int))=_;rw[ih]
  have e:Gi (.int (j:Int)) (.int (k:Int))=decide (j=k):=by
   show((j:Int) == (k:Int))=_;by_cases h:j=k
   .subst h;simp
   .have : ¬ (j:Int)=k:=by lia
    simp[h,this]
  rw[e];by_cases h:j=k
  .subst h;simp
  .have:k≠j:=λz=>h z.symm
   simp[h,this]
def ux:∀ns:List Int,(ns.map V.int).all nU=true
 |[]=>rfl
 |n :: ns=>by show(true && (ns.map V.int).all nU)=true;rw[ux ns];rfl
def RA{K:Fg}{Q:VK}{k:Nat}(e:SqT K H a ((Dn.nI S).map V.int))(h:Q (.bl (decide (k∈S))) H):QF K false (.int (k:Int)) (.ref a) H Q:=by
 refine⟨a,_,rfl,.inr e,rfl,ux _,?_⟩;show Q (.bl (Ph (.int (k:Int)) _)) H;rw[E_];exact h
def AccZ.ext{K:Fg}(A:AccZ K H0 l H ds)(hb:H b=some (.lst zs))(rz:RzL K H zs es)(n:Wi ds+Wi es<=1000){Q:VK}(h:∀H2,AccZ K H0 l H2 (ds++es)->(∀{us:List V} {fs:List PySem.W.Dat},RzL K H us fs->RzL K H2 us fs)->(∀c,c≠l->H2 c=H c)->Q .non H2):qw (.ref l) [.ref b] H Q:=by
 obtain⟨xs,h1,h2⟩:=A.at_
 have lz:Wi xs+Wi zs<=sizeLine:=by
  have:=am n
  rw[h2.length,rz.length];lia
 refine⟨l,b,xs,zs,rfl,rfl,h1,hb,lz,h _ ⟨λc o q=>?_,A.new,_,L2.ag,?_⟩ (λr=>r.agr (Agr.eV h1 λw=>w)) λc hc=>L2.aJ hc⟩
 .rw[L2.aJ (ar q A.new)];exact A.same c o q
 .exact(h2.append rz).agr (Agr.eV h1 λw=>w)
end L2
namespace Dn
open PySem L2 Fr G1 Sm Vs G2 Rk Sz
open PySem.W (Dat kqdOk)
abbrev dS(S:List Nat):Dat:=dI (nI S)
abbrev j6(K:Fg):Sp:=λvs H Q _=>∃n:Nat,vs=[.int (n:Int)]/\n<=5/\∀(p:Addr) (H':Hp),AccZ K H p H' ((iX n).map dS)->Q (.ref p) H'
def mx{K:Fg}(h:Rz K H v (dS S)):∃a:Addr,v=.ref a/\H a=some (.tup ((nI S).map V.int)):=cB h
def t6(S:List Nat):(nI S).length=Wi S:=SJ _
def Ey{i:Nat}{x:V}(h:((nI S).map V.int)[i]?=some x):∃k,S[i]?=some k/\x=.int (k:Int):=by
 unfold nI at h;rw[SO,SO] at h;cases e:S[i]? with
 |none=>rw[e] at h;cases h
 |some k=>rw[e] at h;cases h;exact⟨k,rfl,rfl⟩
def F8{S:List Nat}(h:S≠[]):kh ((nI S).map V.int) (-1)=some (.int ((S.getLastD 0:Nat):Int)):=by
 have e:S.dropLast++[S.getLastD 0]=S:=by
  rw[YU,Ym h];exact Ys h
 have e2:(nI S).map V.int=(nI S.dropLast).map V.int++[V.int ((S.getLastD 0:Nat):Int)]:=by
  conv=>lhs;rw[<- e]
  unfold nI;rw[SV,SV];rfl
 rw[e2];exact L2.iF _ _
nonrec def zQ(K:Fg):TS:=(ak (bS (dB K (aa 2)) (aj 4)
 (bV (eJ K "list" qw (aa 3) (ac (bT (Mn (ac (ao bG (ao (aH K) (aa 4) (Cz (rU λi=>.int (-i)) (tC (.int 1)))) (tC (.int 1))) (ac (aa 0) ae))) (ao (NI K) (aa 5) (cP (ac (aa 0) ae)))) ae))))
 (aA (aa 3) (aj 2)))
nonrec def zP(K:Fg):TS:=(ak (aA (bT (fe (ac (aa 0) ae)) (cP (ac (aa 0) ae))) (aj 2))
 (ak (kG (aO (ao wH (aX (bf K) (ac (aa 2) ae)) (tC (.int 0))))
 (ak (bV (eJ K "list" qw (aa 1) (ac (aa 2) ae)))
 (ak (aA (cS ae) (aj 3))
 (zQ K))))
 (aC (aa 1))))
abbrev pf(K:Fg):TS:=(ak (aA (cS ae) (aj 1))
 (zP K))
def Dz{K:Fg}{N:List Str}(hN:Wi N=5)(h:j6 K vs H Q E):pf K (ends Q) (L2.start N vs) H:=by
 obtain⟨n,rfl,hn,k⟩:=h;rw[L2.aK hN];walk_at "t";have n6:n<6:=by lia
 unfold pf;cbv;refine⟨by decide,λT nT=>?_⟩;have AT:AccZ K H T (upd H T (.lst [])) (([]:List (List Nat)).map dS):=AccZ.start (Same.refl _) nT;have hT0:upd H T (.lst []) T=some (.lst []):=ag;generalize upd H T (.lst [])=H0 at AT hT0 ⊢;cbv;rw[Ul];refine cG (n:=n) λL nL=>⟨λj H2=>AccZ K H0 L H2 (((kb n 0).take j).map dS),by simpa using AccZ.start (Same.refl _) nL,?_,?_⟩
 .intro j H2 hj A;have e0:(kb n 0)[j]?=some [j]:=by show((TC n).map _)[j]? = _;rw[SO,TR hj];rfl
  rw[U_];cbv;refine⟨iW,λp np=>?_⟩;refine aI hj ?_;refine(A.on (af np _)).bA (d:=dS [j]) (.tup ag (RpL.ints (nI [j]))) (am (by rw[SJ,Ta];lia)) λH3 A3=>?_
  show AccZ K H0 L H3 (((kb n 0).take (j+1)).map dS);rw[Tc,e0,SV];exact A3
 intro H2 A;rw[SX (by show((TC n).map _).length<=n;rw[SJ,TD];exact SR _)] at A;cbv;have neTL:T≠L:=ar hT0 nL;refine yP (λm σ H3=>∃(i:Nat) (L:Addr) (u3 u4:Option V),m=n-i/\i<=n/\σ=[↥(n:Int),⇑T,⇑L,u3,u4]/\T≠L/\AccZ K H T H3 ((Jk n i).map dS)/\AccZ K H L H3 ((kb n i).map dS)) n ⟨0,L,none,none,rfl,T1 _,rfl,neTL,AT.on A.same,⟨AT.same.trans A.same,AT.same.free A.new,A.at_⟩⟩ ?_;clear A neTL nL L AT hT0 nT;rintro m σ H3 ⟨i,L,u3,u4,rfl,hi,rfl,neTL,AT,AL⟩;obtain⟨zs,hz,rz⟩:=AL.at_;have lz:Wi zs=(kb n i).length:=by rw[rz.length,SJ]
 cbv;refine bP (SqL.of hz) ?_;cbv;refine aV (λc=>?_) (λc=>?_)
 .have li:i<n:=by
   rcases Uw i n with l|l
   .exact l
   .have e:i=n:=by lia
    subst e;rw[LU i n6] at lz;rw[lz] at c;exact absurd c (by decide)
  obtain⟨l1,l2⟩:=EA n n6 i ∅;refine⟨λσ H4=>∃(L:Addr) (u3 u4:Option V),σ=[↥(n:Int),⇑T,⇑L,u3,u4]/\T≠L/\AccZ K H T H4 ((Jk n (i+1)).map dS)/\AccZ K H L H4 ((kb n (i+1)).map dS),(by rintro σ' H' ⟨L,u3,u4,e,q⟩;exact ⟨n-(i+1),∅,i+1,L,u3,u4,rfl,∅,e,q⟩),?_⟩;cbv;refine⟨AT.ty,?_⟩;cbv;refine AT.ext hz rz (by rw[SJ,SJ];lia) λH4 AT4 keep oth=>?_
  have AT4':AccZ K H T H4 ((Jk n (i+1)).map dS):=by
   show AccZ K H T H4 ((Jk n i++kb n i).map dS);rw[SV];exact AT4
  have hz4:H4 L=some (.lst zs):=by rw[oth L neTL.symm];exact hz
  have nL:=AL.new;have rz4:RzL K H4 zs ((kb n i).map dS):=keep rz;clear AT4 AT AL oth keep hz rz;cbv;refine⟨by decide,λG nG=>?_⟩;have SG:=af nG (.lst []);have AT5:=AT4'.on SG
  have neTG:T≠G:=by
   obtain⟨_,q,_⟩:=AT4'.at_;exact ar q nG
  have neLG:L≠G:=ar hz4 nG;have AG:AccZ K H G (upd H4 G (.lst [])) ((((kb n i).take 0).flatMap (gO n)).map dS):=⟨AT5.same,AT4'.same.free nG,[],ag,.nil⟩
  have hz5:=SG _ _ hz4;have rz5:=rz4.same SG;generalize upd H4 G (.lst [])=H5 at SG AT5 AG hz5 rz5 ⊢;cbv;refine jS (SqL.of hz5) ?_;refine b7 (xs:=zs) (λj σ H6=>∃u4:Option V,σ=[↥(n:Int),⇑T,⇑L,⇑G,u4]/\AccZ K H T H6 ((Jk n (i+1)).map dS)/\H6 L=some (.lst zs)/\RzL K H6 zs ((kb n i).map dS)/\AccZ K H G H6 ((((kb n i).take j).flatMap (gO n)).map dS)) ⟨_,rfl,AT5,hz5,rz5,AG⟩ (by rintro j σ H6 _ ⟨_,_,_,h,_⟩;exact SqL.of h) ?_ ?_
  .clear AT5 hz5 rz5 AG SG AT4' hz4 rz4;rintro j x σ H6 hx ⟨u4,rfl,AT,hz,rz,AG⟩;obtain⟨d,g1,g2⟩:=rz.get hx;rw[SO] at g1;obtain⟨S,hS,rfl⟩:=SU.mp g1;obtain⟨b0,rfl,hb0⟩:=mx g2;have Sin:=SM hS;obtain⟨S1,S2,S3⟩:=Ow n n6 i ∅ S Sin;have S4:=Ia n n6 i ∅ S Sin;cbv;refine⟨AG.ty,?_⟩;cbv;refine aN (SqT.of hb0) (F8 S1) ?_;cbv
   have lastn:S.getLastD 0<n:=by
    obtain⟨y,ys,rfl⟩:=List.exists_cons_of_ne_nil S1;exact S3 _ (by rw[YU,Ym S1];exact List.getLast_mem S1)
   refine Ri ⟨∅,∅,∅,∅⟩ ?_;rw[show((n:Int)-(((S.getLastD 0:Nat):Int)+1)).toNat=n-(S.getLastD 0+1) by lia];refine cG (n:=n-(S.getLastD 0+1)) λC nC=>⟨λm H7=>AccZ K H6 C H7 (((gO n S).take m).map dS),by simpa using AccZ.start (Same.refl _) nC,?_,?_⟩
   .intro m H7 hm AC;have e0:(gO n S)[m]?=some (S++[S.getLastD 0+1+m]):=by unfold gO;rw[SO,TR hm];rfl
    have ev:(((S.getLastD 0:Nat):Int)+1+(m:Int))=((S.getLastD 0+1+m:Nat):Int):=by lia
    rw[ev];cbv;refine⟨iW,λp np=>?_⟩;have Sp:=af np (.tup [.int ((S.getLastD 0+1+m:Nat):Int)]);have hp:upd H7 p (.tup [.int ((S.getLastD 0+1+m:Nat):Int)]) p=some (.tup [.int ((S.getLastD 0+1+m:Nat):Int)]):=ag;have AC2:=AC.on Sp;generalize upd H7 p (.tup [.int ((S.getLastD 0+1+m:Nat):Int)])=H8 at Sp hp AC2 ⊢;refine⟨b0,p,_,_,rfl,rfl,SqT.of (AC2.same _ _ hb0),SqT.of hp,?_,?_,λz=>(List.cons_ne_nil _ _ z).elim,λ_ q nq=>?_⟩
    .intro z;apply S1
     have:=congrArg Wi z
     rw[SJ,t6] at this;exact Uf.mp this
    .have:=am (n:=S.length+1) ∅
     rw[SJ,t6];show S.length+1<=sizeLine;lia
    .refine aI hm ?_;refine(AC2.on (af nq _)).bA (d:=dS (S++[S.getLastD 0+1+m])) ?_ (am (by rw[SJ,Ta];lia)) λH9 A9=>?_
     .have e:(nI S).map V.int++[.int ((S.getLastD 0+1+m:Nat):Int)]=(nI (S++[S.getLastD 0+1+m])).map V.int:=by
       unfold nI;rw[SV,SV];rfl
      rw[e];exact .tup ag (RpL.ints _)
     .show AccZ K H6 C H9 (((gO n S).take (m+1)).map dS);rw[Tc,e0,SV];exact A9
   .intro H7 AC;rw[SX (by unfold gO;rw[SJ,TD];exact SR _)] at AC;obtain⟨cs,hc,rc⟩:=AC.at_;have AG7:=AG.on AC.same;have AT7:=AT.on AC.same;have hz7:=AC.same _ _ hz;have rz7:=rz.same AC.same
    have fl:((kb n i).take (j+1)).flatMap (gO n)=((kb n i).take j).flatMap (gO n)++gO n S:=by
     rw[Tc,hS,ZaD];simp
    have len5:(((kb n i).take (j+1)).flatMap (gO n)).length<=10:=by
     have h1:=(EA n n6 (i+1) ∅).1
     have h2:((kb n i).take (j+1)).flatMap (gO n)++((kb n i).drop (j+1)).flatMap (gO n)=kb n (i+1):=by
      rw[<- ZaD,W0];rfl
     rw[<- h2,To] at h1;lia
    cbv;refine AG7.ext hc rc ?_ λH8 A8 keep oth=>?_
    .rw[fl,To] at len5;rw[SJ,SJ];lia
    .obtain⟨ys,hy,ry⟩:=AT7.at_;refine⟨_,rfl,⟨A8.same,AT7.new,ys,by rw[oth T neTG];exact hy,keep ry⟩,by rw[oth L neLG];exact hz7,keep rz7,?_⟩;rw[fl,SV];exact A8
  .rintro σ H6 ⟨u4,rfl,AT,hz,rz,AG⟩;rw[SX ∅] at AG;cbv;exact⟨G,_,_,rfl,neTG,AT,AG⟩
 .have e:i=n:=by
   rcases Uw i n with l|l
   .have:=VA.mpr (Ov n n6 i l)
    exact absurd (show(0:Int)<(Wi zs:Nat) by lia) c
   .lia
  subst e;cbv;exact k T H3 AT
abbrev d5(K:Fg):Sp:=λvs H Q _=>∃(v w:V) (h:List Int) (S:List Nat),vs=[v,w]/\Rz K H v (dI h)/\Rz K H w (dS S)/\(∀k∈S,k<Wi h)/\S.length<=100/\∀H',Same H H'->Q (.bl (hs h S)) H'
def any_map{α:Type}(f:α->Bool)(l:List α):(l.map f).any id=l.any f:=by rw[List.any_map];rfl
def all_map{α:Type}(f:α->Bool)(l:List α):(l.map f).all id=l.all f:=by rw[ZO];rfl
abbrev kE(K:Fg):TS:=(aC (aX (DU K) (ac (bT (gi K (aa 1)) (ao wH (ao (aH K) (aa 1) (aa 0)) (tC (.int 0)))) ae)))
def AF{K:Fg}{N:List Str}(hN:Wi N=2)(h:d5 K vs H Q E):kE K (ends Q) (L2.start N vs) H:=by
 obtain⟨v,w,h,S,rfl,rv,rw_,hS,hl,k⟩:=h;obtain⟨a,rfl,ha⟩:=cB rv;obtain⟨b,rfl,hb⟩:=mx rw_;rw[L2.aK hN];walk_at "t";unfold kE;cbv;refine nR (SqT.of hb) ?_;have lS:((nI S).map V.int).length=S.length:=by rw[SJ,t6]
 refine cN (xs:=(nI S).map V.int) λD nD=>⟨λj H2=>AccZ K H D H2 (((S.take j).map λk=>decide (0<pt h k)).map Vw),by simpa using AccZ.start (Same.refl _) nD,λj H2 _ A=>SqT.of (A.same _ _ hb),?_,?_⟩
 .intro j x H2 hx A;have lj:=(SL.mp hx).1;obtain⟨m,hm,rfl⟩:=Ey hx;cbv;refine aN (SqT.of (A.same _ _ ha)) (jp (hS m (SM hm))) ?_;cbv;refine aI lj ?_;refine A.bA (d:=.bool (decide (0<pt h m))) (.bl _) (am (by rw[SJ,SJ,Ta];lia)) λH3 A3=>?_
  show AccZ K H D H3 (((S.take (j+1)).map λk=>decide (0<pt h k)).map Vw);rw[Tc,hm,SV,SV];exact A3
 .intro H2 A;rw[lS,SX (SR _)] at A;cbv;refine Mi A.bls ?_;rw[any_map];exact k H2 A.same
abbrev pr(t:Tn):Tp:=(t.fr,t.to)
abbrev kQ(K:Fg):Sp:=λvs H Q _=>∃(v w:V) (ws:List Str) (ts:List Tn) (S:List Nat),vs=[v,w]/\Rz K H v (dV ws ts)/\Rz K H w (dS S)/\(∀t∈ts,∀k∈S,k<t.fr.length/\k<t.to.length)/\S.length<=100/\ts.length<=100/\∀H',Same H H'->Q (.bl (isD (ts.map pr) S)) H'
abbrev p_(K:Fg):Sp:=λvs H Q _=>∃(v w:V) (ws:List Str) (ts:List Tn) (S:List Nat),vs=[v,w]/\Rz K H v (dV ws ts)/\Rz K H w (dS S)/\(∀t∈ts,∀k∈S,k<t.fr.length/\k<t.to.length)/\S.length<=100/\ts.length<=100/\∀H',Same H H'->Q (.bl (isT (ts.map pr) S)) H'
abbrev kC(K:Fg):TS:=(aC (aX (nu K) (ac (bT (gi K (ao (aH K) (aa 0) (tC (.int 1)))) (CB (aw (d5 K) [] E0 (ac (ao (aH K) (aa 0) (tC (.int 0))) (ac (aa 2) ae))) (Ae (aw (d5 K) [] E0 (ac (ao (aH K) (aa 0) (tC (.int 1))) (ac (aa 2) ae)))))) ae)))
def AD{K:Fg}{N:List Str}(hN:Wi N=2)(h:kQ K vs H Q E):kC K (ends Q) (L2.start N vs) H:=by
 obtain⟨v,w,ws,ts,S,rfl,rv,rw_,hS,hl,ht,k⟩:=h;obtain⟨a,v1,v2,rfl,ha,_,r2⟩:=jU rv;obtain⟨b,xs,rfl,hb,rx⟩:=r2.bI;have lx:Wi xs=ts.length:=by rw[rx.length,SJ]
 rw[L2.aK hN];walk_at "t";unfold kC;cbv;refine aN (SqT.of ha) (v:=.ref b) rfl ?_;refine nR (SqT.of hb) ?_;refine cN (xs:=xs) λD nD=>⟨λj H2=>AccZ K H D H2 (((ts.take j).map λt=>hs t.fr S || !hs t.to S).map Vw),by simpa using AccZ.start (Same.refl _) nD,λj H2 _ A=>SqT.of (A.same _ _ hb),?_,?_⟩
 .intro j x H2 hx A;have lj:=(SL.mp hx).1;obtain⟨d,g1,g2⟩:=rx.get hx;rw[SO] at g1;obtain⟨t,htj,rfl⟩:=SU.mp g1;obtain⟨c,w1,w2,w3,rfl,hc,q1,q2,_⟩:=jV g2;have hk:=hS t (SM htj)
  have fin:∀(H3:Hp) (bb:Bool),Same H2 H3->bb=(hs t.fr S || !hs t.to S)->mK D (Wi xs) j (λj H2=>AccZ K H D H2 (((ts.take j).map λt=>hs t.fr S || !hs t.to S).map Vw)) (.bl bb) H3:=by
   rintro H3 bb S3 rfl;refine aI lj ?_;refine(A.on S3).bA (d:=.bool (hs t.fr S || !hs t.to S)) (.bl _) (am (by rw[SJ,SJ,Ta];lia)) λH4 A4=>?_
   show AccZ K H D H4 (((ts.take (j+1)).map λt=>hs t.fr S || !hs t.to S).map Vw);rw[Tc,htj,SV,SV];exact A4
  cbv;refine aN (SqT.of (A.same _ _ hc)) (v:=w1) rfl ?_;cbv;refine⟨w1,w,t.fr,S,rfl,q1.same A.same,rw_.same A.same,λk h=>(hk k h).1,hl,λH3 S3=>?_⟩;cbv;cases e1:hs t.fr S with
  |true =>
   cbv;exact fin H3 true S3 (by rw[e1];rfl)
  |false =>
   cbv;refine aN (SqT.of ((A.on S3).same _ _ hc)) (v:=w2) rfl ?_;cbv;refine⟨w2,w,t.to,S,rfl,q2.same (A.on S3).same,rw_.same (A.on S3).same,λk h=>(hk k h).2,hl,λH4 S4=>?_⟩;cbv;exact fin H4 _ (S3.trans S4) (by rw[e1];rfl)
 .intro H2 A;rw[lx,SX (SR _)] at A;cbv;refine jA A.bls ?_;rw[all_map]
  have:=k H2 A.same
  unfold isD at this;rw[ZO] at this;exact this
abbrev pI(K:Fg):TS:=(aC (aX (nu K) (ac (bT (gi K (ao (aH K) (aa 0) (tC (.int 1)))) (CB (aw (d5 K) [] E0 (ac (ao (aH K) (aa 0) (tC (.int 1))) (ac (aa 2) ae))) (Ae (aw (d5 K) [] E0 (ac (ao (aH K) (aa 0) (tC (.int 0))) (ac (aa 2) ae)))))) ae)))
def DI{K:Fg}{N:List Str}(hN:Wi N=2)(h:p_ K vs H Q E):pI K (ends Q) (L2.start N vs) H:=by
 obtain⟨v,w,ws,ts,S,rfl,rv,rw_,hS,hl,ht,k⟩:=h;obtain⟨a,v1,v2,rfl,ha,_,r2⟩:=jU rv;obtain⟨b,xs,rfl,hb,rx⟩:=r2.bI;have lx:Wi xs=ts.length:=by rw[rx.length,SJ]
 rw[L2.aK hN];walk_at "t";unfold pI;cbv;refine aN (SqT.of ha) (v:=.ref b) rfl ?_;refine nR (SqT.of hb) ?_;refine cN (xs:=xs) λD nD=>⟨λj H2=>AccZ K H D H2 (((ts.take j).map λt=>hs t.to S || !hs t.fr S).map Vw),by simpa using AccZ.start (Same.refl _) nD,λj H2 _ A=>SqT.of (A.same _ _ hb),?_,?_⟩
 .intro j x H2 hx A;have lj:=(SL.mp hx).1;obtain⟨d,g1,g2⟩:=rx.get hx;rw[SO] at g1;obtain⟨t,htj,rfl⟩:=SU.mp g1;obtain⟨c,w1,w2,w3,rfl,hc,q1,q2,_⟩:=jV g2;have hk:=hS t (SM htj)
  have fin:∀(H3:Hp) (bb:Bool),Same H2 H3->bb=(hs t.to S || !hs t.fr S)->mK D (Wi xs) j (λj H2=>AccZ K H D H2 (((ts.take j).map λt=>hs t.to S || !hs t.fr S).map Vw)) (.bl bb) H3:=by
   rintro H3 bb S3 rfl;refine aI lj ?_;refine(A.on S3).bA (d:=.bool (hs t.to S || !hs t.fr S)) (.bl _) (am (by rw[SJ,SJ,Ta];lia)) λH4 A4=>?_
   show AccZ K H D H4 (((ts.take (j+1)).map λt=>hs t.to S || !hs t.fr S).map Vw);rw[Tc,htj,SV,SV];exact A4
  cbv;refine aN (SqT.of (A.same _ _ hc)) (v:=w2) rfl ?_;cbv;refine⟨w2,w,t.to,S,rfl,q2.same A.same,rw_.same A.same,λk h=>(hk k h).2,hl,λH3 S3=>?_⟩;cbv;cases e1:hs t.to S with
  |true =>
   cbv;exact fin H3 true S3 (by rw[e1];rfl)
  |false =>
   cbv;refine aN (SqT.of ((A.on S3).same _ _ hc)) (v:=w1) rfl ?_;cbv;refine⟨w1,w,t.fr,S,rfl,q1.same (A.on S3).same,rw_.same (A.on S3).same,λk h=>(hk k h).1,hl,λH4 S4=>?_⟩;cbv;exact fin H4 _ (S3.trans S4) (by rw[e1];rfl)
 .intro H2 A;rw[lx,SX (SR _)] at A;cbv;refine jA A.bls ?_;rw[all_map]
  have:=k H2 A.same
  unfold isT at this;rw[ZO] at this;exact this
abbrev pT(K:Fg):Sp:=λvs H Q _=>∃(v w:V) (M S:List Nat),vs=[v,w]/\Rz K H v (dS M)/\Rz K H w (dS S)/\M.length<=100/\∀H',Same H H'->Q (.bl (within M S)) H'
abbrev o7(K:Fg):TS:=(aC (aX (nu K) (ac (bT (gi K (aa 0)) (ao (QF K false) (aa 0) (aa 2))) ae)))
def Dr{K:Fg}{N:List Str}(hN:Wi N=2)(h:pT K vs H Q E):o7 K (ends Q) (L2.start N vs) H:=by
 obtain⟨v,w,M,S,rfl,rv,rw_,hl,k⟩:=h;obtain⟨a,rfl,ha⟩:=mx rv;obtain⟨b,rfl,hb⟩:=mx rw_;rw[L2.aK hN];walk_at "t";unfold o7;cbv;refine nR (SqT.of ha) ?_;have lS:((nI M).map V.int).length=Wi M:=by rw[SJ,t6]
 refine cN (xs:=(nI M).map V.int) λD nD=>⟨λj H2=>AccZ K H D H2 (((M.take j).map λk=>decide (k∈S)).map Vw),by simpa using AccZ.start (Same.refl _) nD,λj H2 _ A=>SqT.of (A.same _ _ ha),?_,?_⟩
 .intro j x H2 hx A;have lj:=(SL.mp hx).1;obtain⟨m,hm,rfl⟩:=Ey hx;cbv;refine RA (SqT.of (A.same _ _ hb)) ?_;refine aI lj ?_;refine A.bA (d:=.bool (decide (m∈S))) (.bl _) (am (by rw[SJ,SJ,Ta];lia)) λH3 A3=>?_
  show AccZ K H D H3 (((M.take (j+1)).map λk=>decide (k∈S)).map Vw);rw[Tc,hm,SV,SV];exact A3
 .intro H2 A;rw[lS,SX (SR _)] at A;cbv;refine jA A.bls ?_;rw[all_map];exact k H2 A.same
abbrev g8(K:Fg):Sp:=λvs H Q _=>∃(a:Addr) (xs:List V) (L:List (List Nat)),vs=[.ref a]/\H a=some (.lst xs)/\RzL K H xs (L.map dS)/\L.length<=100/\(∀S∈L,S.length<=100)/\∀(p:Addr) (H':Hp),AccZ K H p H' ((lst L).map dS)->Q (.ref p) H'
def Ig{L:List (List Nat)}{i:Nat}{S:List Nat}(h:L[i]?=some S):lst (L.take (i+1))=kH (lst (L.take i)) S:=by
 unfold lst;rw[Tc,h,VS];rfl
nonrec def vI(K:Fg):TS:=(ak (bS (dB K (aa 0)) (aj 2)
 (aM (dN (tB (aX (DU K) (ac (bT (dB K (aa 1)) (aw (pT K) [] E0 (ac (aa 0) (ac (aa 3) ae)))) ae))))
 (bV (eJ K "list" aS (aa 1) (ac (aa 2) ae)))
 aP))
 (aC (aa 1)))
abbrev kA(K:Fg):TS:=(ak (aA (cS ae) (aj 1))
 (vI K))
def AA{K:Fg}{N:List Str}(hN:Wi N=3)(h:g8 K vs H Q E):kA K (ends Q) (L2.start N vs) H:=by
 obtain⟨a,xs,L,rfl,ha,rx,hl,hS,k⟩:=h;have lx:Wi xs=L.length:=by rw[rx.length,SJ]
 rw[L2.aK hN];walk_at "t";unfold kA;cbv;refine⟨by decide,λl nl=>?_⟩;have A0:AccZ K H l (upd H l (.lst [])) ((lst (L.take 0)).map dS):=AccZ.start (Same.refl _) nl;generalize upd H l (.lst [])=H0 at A0 ⊢;cbv;refine jS (SqL.of (A0.same _ _ ha)) ?_;refine b7 (xs:=xs) (λi σ H2=>∃u2:Option V,σ=[⇑a,⇑l,u2]/\AccZ K H l H2 ((lst (L.take i)).map dS)) ⟨none,rfl,A0⟩ (by rintro i σ H2 _ ⟨_,_,A⟩;exact SqL.of (A.same _ _ ha)) ?_ ?_
 .rintro i x σ H2 hx ⟨u2,rfl,A⟩;obtain⟨d,g1,g2⟩:=rx.get hx;rw[SO] at g1;obtain⟨S,hSi,rfl⟩:=SU.mp g1;have ll:(lst (L.take i)).length<=100:=TQ (LV _) (by rw[Ta];lia);have lM:∀M∈lst (L.take i),Wi M<=100:=λM hM=>hS M (Xc (xk M hM))
  rw[Ig hSi];generalize lst (L.take i)=acc at A ll lM ⊢;obtain⟨ys,hy,ry⟩:=A.at_;have ly:Wi ys=acc.length:=by rw[ry.length,SJ]
  cbv;refine xr (SqL.of hy) ?_;refine dy (xs:=ys) λD nD=>⟨λj H3=>AccZ K H2 D H3 (((acc.take j).map λM=>within M S).map Vw),by simpa using AccZ.start (Same.refl _) nD,λj H3 _ B=>SqL.of (B.same _ _ hy),?_,?_⟩
  .intro j y H3 hyj B;have lj:=(SL.mp hyj).1;obtain⟨d,g3,g4⟩:=ry.get hyj;rw[SO] at g3;obtain⟨M,hM,rfl⟩:=SU.mp g3;cbv;refine⟨y,x,M,S,rfl,g4.same B.same,(g2.same A.same).same B.same,lM M (SM hM),λH4 S4=>?_⟩;refine aI lj ?_;refine(B.on S4).bA (d:=.bool (within M S)) (.bl _) (am (by rw[SJ,SJ,Ta];lia)) λH5 B5=>?_
   show AccZ K H2 D H5 (((acc.take (j+1)).map λM=>within M S).map Vw);rw[Tc,hM,SV,SV];exact B5
  .intro H3 B;rw[ly,SX (SR _)] at B;cbv;refine Mi B.bls ?_;rw[any_map];have A3:=A.on B.same;have gx:=(g2.same A.same).same B.same;unfold kH;cases e:(acc.any λM=>within M S) with
   |true =>
    cbv;exact⟨_,rfl,A3⟩
   |false =>
    cbv;refine⟨A3.ty,?_⟩;cbv;refine cZ A3 gx (am (by rw[SJ];lia)) λH4 A4 _ _ _=>?_
    refine⟨_,rfl,?_⟩;show AccZ K H l H4 ((acc++[S]).map dS);rw[SV];exact A4
 .rintro σ H2 ⟨u2,rfl,A⟩;rw[SX ∅] at A;cbv;exact k l H2 A
abbrev qc(K:Fg):Sp:=λvs H Q _=>∃(v:V) (ws:List Str) (ts:List Tn),vs=[v]/\Rz K H v (dV ws ts)/\ws.length<=5/\ts.length<=100/\(∀t∈ts,t.fr.length=(Wi ws)/\t.to.length=Wi ws)/\∀(p:Addr) (H':Hp),AccZ K H p H' ((lst ((iX (Wi ws)).filter (isD (ts.map pr)))).map dS)->Q (.ref p) H'
abbrev vU(K:Fg):Sp:=λvs H Q _=>∃(v:V) (ws:List Str) (ts:List Tn),vs=[v]/\Rz K H v (dV ws ts)/\ws.length<=5/\ts.length<=100/\(∀t∈ts,t.fr.length=(Wi ws)/\t.to.length=Wi ws)/\∀(p:Addr) (H':Hp),AccZ K H p H' ((lst ((iX (Wi ws)).filter (isT (ts.map pr)))).map dS)->Q (.ref p) H'
abbrev pM(K:Fg):TS:=(aC (aw (g8 K) [] E0 (ac (fA (dB K (aw (j6 K) [] E0 (ac (aX (bf K) (ac (ao (aH K) (aa 0) (tC (.int 0))) ae)) ae))) 1 (aj 0) (tB (aw (kQ K) [] E0 (ac (aa 1) (ac (aa 0) ae)))) (aa 0)) ae)))
def DL{K:Fg}{N:List Str}(hN:Wi N=1)(h:qc K vs H Q E):pM K (ends Q) (L2.start N vs) H:=by
 obtain⟨v,ws,ts,rfl,rv,hw,ht,hf,k⟩:=h;have rv0:=rv;obtain⟨a,v1,v2,rfl,ha,r1,r2⟩:=jU rv;obtain⟨b,xs,rfl,hb,rx⟩:=r1.bI;have lx:Wi xs=ws.length:=by rw[rx.length,SJ]
 rw[L2.aK hN];walk_at "t";have n6:ws.length<6:=by lia
 have sl:=yi ws.length n6;have si:=qj ws.length n6;unfold pM;cbv;refine aN (SqT.of ha) (v:=.ref b) rfl ?_;cbv;refine cY (SqT.of hb) ?_;rw[lx];cbv;refine⟨ws.length,rfl,hw,λL H1 AL=>?_⟩;obtain⟨ys,hy,ry⟩:=AL.at_;have ly:Wi ys=(iX ws.length).length:=by rw[ry.length,SJ]
 refine⟨L,rfl,⟨ys,SqL.of hy⟩,?_⟩;refine oK (xs:=ys) λD nD=>⟨λj H2=>AccZ K H1 D H2 ((((iX ws.length).take j).filter (isD (ts.map pr))).map dS),by simpa using AccZ.start (Same.refl _) nD,λj H2 _ A=>SqL.of (A.same _ _ hy),?_,?_⟩
 .intro j x H2 hx A us hu;obtain⟨u0,rfl⟩:∃u,us=[u]:=U6.mp hu;have lj:=(SL.mp hx).1;obtain⟨d,g1,g2⟩:=ry.get hx;rw[SO] at g1;obtain⟨S,hS,rfl⟩:=SU.mp g1;obtain⟨S1,S2,S3⟩:=si S (SM hS);cbv;refine⟨⟨[some x],rfl,rfl⟩,?_⟩;cbv;refine⟨.ref a,x,ws,ts,S,rfl,(rv0.same AL.same).same A.same,g2.same A.same,λt h k hk=>?_,∅,ht,λH3 S4=>?_⟩
  .have:=S3 k hk
   have:=hf t h
   lia
  have A3:=A.on S4;cbv;cases e:isD (ts.map pr) S with
  |true =>
   cbv;refine aI lj ?_;refine A3.bA (g2.same A3.same) (am (by rw[SJ];exact TQ (UH _ _) (by rw[Ta];lia))) λH4 A4=>?_
   show AccZ K H1 D H4 ((((iX ws.length).take (j+1)).filter (isD (ts.map pr))).map dS);rw[Tc,hS,VG,SV];show AccZ K H1 D H4 (_++([S].filter (isD (ts.map pr))).map dS);rw[VT e];exact A4
  |false =>
   cbv;refine f7 lj ?_;show AccZ K H1 D H3 ((((iX ws.length).take (j+1)).filter (isD (ts.map pr))).map dS);rw[Tc,hS,VG,SV];show AccZ K H1 D H3 (_++([S].filter (isD (ts.map pr))).map dS);rw[VU (by rw[e];exact Th)];simpa using A3
 .intro H2 A;rw[ly,SX (SR _)] at A;obtain⟨zs,hz,rz⟩:=A.at_;cbv;refine⟨D,zs,_,rfl,hz,rz,TQ (UH _ _) ∅,λS hS=>?_,λp H3 A3=>?_⟩
  .have:=(si S (Ui.mp hS).1).2.1
   lia
  .exact k p H3 ⟨(AL.same.trans A.same).trans A3.same,(AL.same.trans A.same).free A3.new,A3.at_⟩
abbrev vv(K:Fg):TS:=(aC (aw (g8 K) [] E0 (ac (fA (dB K (aw (j6 K) [] E0 (ac (aX (bf K) (ac (ao (aH K) (aa 0) (tC (.int 0))) ae)) ae))) 1 (aj 0) (tB (aw (p_ K) [] E0 (ac (aa 1) (ac (aa 0) ae)))) (aa 0)) ae)))
def Hh{K:Fg}{N:List Str}(hN:Wi N=1)(h:vU K vs H Q E):vv K (ends Q) (L2.start N vs) H:=by
 obtain⟨v,ws,ts,rfl,rv,hw,ht,hf,k⟩:=h;have rv0:=rv;obtain⟨a,v1,v2,rfl,ha,r1,r2⟩:=jU rv;obtain⟨b,xs,rfl,hb,rx⟩:=r1.bI;have lx:Wi xs=ws.length:=by rw[rx.length,SJ]
 rw[L2.aK hN];walk_at "t";have n6:ws.length<6:=by lia
 have sl:=yi ws.length n6;have si:=qj ws.length n6;unfold vv;cbv;refine aN (SqT.of ha) (v:=.ref b) rfl ?_;cbv;refine cY (SqT.of hb) ?_;rw[lx];cbv;refine⟨ws.length,rfl,hw,λL H1 AL=>?_⟩;obtain⟨ys,hy,ry⟩:=AL.at_;have ly:Wi ys=(iX ws.length).length:=by rw[ry.length,SJ]
 refine⟨L,rfl,⟨ys,SqL.of hy⟩,?_⟩;refine oK (xs:=ys) λD nD=>⟨λj H2=>AccZ K H1 D H2 ((((iX ws.length).take j).filter (isT (ts.map pr))).map dS),by simpa using AccZ.start (Same.refl _) nD,λj H2 _ A=>SqL.of (A.same _ _ hy),?_,?_⟩
 .intro j x H2 hx A us hu;obtain⟨u0,rfl⟩:∃u,us=[u]:=U6.mp hu;have lj:=(SL.mp hx).1;obtain⟨d,g1,g2⟩:=ry.get hx;rw[SO] at g1;obtain⟨S,hS,rfl⟩:=SU.mp g1;obtain⟨S1,S2,S3⟩:=si S (SM hS);cbv;refine⟨⟨[some x],rfl,rfl⟩,?_⟩;cbv;refine⟨.ref a,x,ws,ts,S,rfl,(rv0.same AL.same).same A.same,g2.same A.same,λt h k hk=>?_,∅,ht,λH3 S4=>?_⟩
  .have:=S3 k hk
   have:=hf t h
   lia
  have A3:=A.on S4;cbv;cases e:isT (ts.map pr) S with
  |true =>
   cbv;refine aI lj ?_;refine A3.bA (g2.same A3.same) (am (by rw[SJ];exact TQ (UH _ _) (by rw[Ta];lia))) λH4 A4=>?_
   show AccZ K H1 D H4 ((((iX ws.length).take (j+1)).filter (isT (ts.map pr))).map dS);rw[Tc,hS,VG,SV];show AccZ K H1 D H4 (_++([S].filter (isT (ts.map pr))).map dS);rw[VT e];exact A4
  |false =>
   cbv;refine f7 lj ?_;show AccZ K H1 D H3 ((((iX ws.length).take (j+1)).filter (isT (ts.map pr))).map dS);rw[Tc,hS,VG,SV];show AccZ K H1 D H3 (_++([S].filter (isT (ts.map pr))).map dS);rw[VU (by rw[e];exact Th)];simpa using A3
 .intro H2 A;rw[ly,SX (SR _)] at A;obtain⟨zs,hz,rz⟩:=A.at_;cbv;refine⟨D,zs,_,rfl,hz,rz,TQ (UH _ _) ∅,λS hS=>?_,λp H3 A3=>?_⟩
  .have:=(si S (Ui.mp hS).1).2.1
   lia
  .exact k p H3 ⟨(AL.same.trans A.same).trans A3.same,(AL.same.trans A.same).free A3.new,A3.at_⟩
end Dn
namespace L2
open PySem
def xD{Q:VK}{H:Hp}{lo:Int}{n:Nat}(h:∀D,H D=none->∃Pv:Nat->Hp->Prop,Pv 0 (upd H D (.lst []))/\(∀i H2,i<n->Pv i H2->MR g k tc te σ (.int (lo+i)) H2 D n i Pv)/\∀H2,Pv n H2->Q (.ref D) H2):Gf (rT lo n) k g tc te σ Q H:=by
 intro D nD;obtain⟨Pv,h0,hs,hd⟩:=h D nD;refine⟨λi m H=>m=n-i/\i<=n/\Pv i H,⟨n,by simp,T1 _,h0⟩,?_⟩;rintro i m H ⟨rfl,hi,p⟩;by_cases vt:i<n
 .refine .inr ⟨vt,λv H' y us hu=>?_⟩;obtain⟨rfl,rfl⟩:=y;exact hs i _ vt p us hu
 .have e:i=n:=by lia
  subst e;exact .inl ⟨SR _,hd H p⟩
end L2
namespace Dn
open PySem L2 Fr G1 Sm Vs G2 Rk Sz
open PySem.W (Dat kqdOk kas_sort)
open PySem.W (Dat kqdOk)
abbrev wa(K:Fg):Sp:=λvs H Q _=>∃(c z:Int) (n:Nat),vs=[.int c,.int (n:Int),.int z]/\n<=5/\0<z/\z.natAbs<2 ^ 9000/\∀(p:Addr) (H':Hp) (cs:List Int),Same H H'->Wi cs=n->(∀x∈cs,0<=x/\x<z)->Rz K H' (.ref p) (dI cs)->Q (.ref p) H'
nonrec def Cr(K:Fg):TS:=(aM (aO (ao fu (ao bp (aa 0) (tC (.int 2))) (tC (.int 1))))
 (ak (bV (eJ K "list" aS (aa 3) (ac (ao bp (aa 4) (aa 2)) ae)))
 (aA (ao jN (aa 4) (aa 2)) (aj 4)))
 (bV (eJ K "list" aS (aa 3) (ac (ao bp (aw gq [] E0 (ac (aa 0) (ac (ao bG (tC (.int 30)) (aa 5)) ae))) (aa 2)) ae))))
abbrev vN(K:Fg):TS:=(ak (aA (cS ae) (aj 3))
 (ak (aA (ao d7 (aa 0) (tC (.int 2))) (aj 4))
 (ak (bS (fe (ac (aa 1) ae)) (aj 5)
 (Cr K))
 (aC (aX (bX K) (ac (aa 3) ae))))))
def Hu{K:Fg}{N:List Str}(hN:Wi N=6)(h:wa K vs H Q E):vN K (ends Q) (L2.start N vs) H:=by
 obtain⟨c,z,n,rfl,hn,hz,hz2,k⟩:=h;rw[L2.aK hN];walk_at "t";unfold vN;cbv;refine⟨by decide,λl nl=>?_⟩;have A0:AccZ K H l (upd H l (.lst [])) (([]:List Int).map TW):=AccZ.start (Same.refl _) nl;generalize upd H l (.lst [])=H0 at A0 ⊢;cbv;rw[Ul];refine cR (λi σ H2=>∃(cs:List Int) (m:Int) (u5:Option V),σ=[↥c,↥(n:Int),↥z,⇑l,↥m,u5]/\AccZ K H l H2 (cs.map TW)/\cs.length=i/\∀x∈cs,0<=x/\x<z) ⟨[],_,none,rfl,A0,rfl,by simp⟩ ?_ ?_
 .rintro i σ H2 hi ⟨cs,m,u5,rfl,A,lc,bc⟩
  have fin:∀(x:Int) (σ':St),0<=x->x<z->∀H3,AccZ K H l H3 (cs.map TW++[.int x])->AccZ K H l H3 ((cs++[x]).map TW)/\(cs++[x]).length=i+1/\∀y∈cs++[x],0<=y/\y<z:=by
   intro x _ x0 x1 H3 A3;refine⟨by rw[SV];exact A3,by rw[To,lc];rfl,λy hy=>?_⟩;rcases Tv.mp hy with m|m
   .exact bc y m
   .rw[Tf.mp m];exact⟨x0,x1⟩
  cbv;refine aV (λe=>?_) (λe=>?_)
  .cbv;refine⟨A.ty,?_⟩;cbv;refine cZ A (.int _) (am (by rw[SJ];lia)) λH3 A3 _ _ _=>?_
   obtain⟨f1,f2,f3⟩:=fin (m % z) [] (U3 _ ∅) (UF _ hz) H3 A3;cbv;refine⟨m,z,rfl,rfl,⟨∅,hz2⟩,?_⟩;cbv;exact⟨cs++[m % z],_,_,rfl,f1,f2,f3⟩
  .cbv;refine⟨A.ty,?_⟩;cbv;refine⟨c,30+(0+(i:Int)),rfl,∅,∅,λq hq=>?_⟩;cbv;refine cZ A (.int _) (am (by rw[SJ];lia)) λH3 A3 _ _ _=>?_
   obtain⟨f1,f2,f3⟩:=fin (q % z) [] (U3 _ ∅) (UF _ hz) H3 A3;exact⟨cs++[q % z],_,_,rfl,f1,f2,f3⟩
 .rintro σ H2 ⟨cs,m,u5,rfl,A,lc,bc⟩;cbv;refine dF (SqL.of (AccZ.ints A)) λp np=>?_
  exact k p _ cs (A.same.trans (af np _)) lc bc (.tup ag (RpL.ints _))
abbrev GS(K:Fg):Sp:=λvs H Q _=>∃(v w:V) (t:Tn) (c:List Int),vs=[v,w]/\Rz K H v (dT t)/\Rz K H w (dI c)/\t.fr.length<=100/\∀H',Same H H'->Q (.bl (jn (pr t) c)) H'
def PL{t:Tp}:decide ((((UZ t.1 c).filter λz=>decide (z.2<z.1)).length:Int)=0)=jn t c:=by
 cases e:jn t c with
 |true =>
  unfold jn at e;rw[U8] at e
  have z:(UZ t.1 c).filter (λz=>decide (z.2<z.1))=[]:=List.filter_eq_nil_iff.mpr λx hx=>by
   have:=e x hx
   simp only[decide_eq_true_eq] at this ⊢;lia
  rw[z];rfl
 |false =>
  unfold jn at e;rw[List.all_eq_false] at e;obtain⟨x,hx,p⟩:=e
  have:0<((UZ t.1 c).filter λz=>decide (z.2<z.1)).length:=VA.mpr λz=>by
   have m:x∈(UZ t.1 c).filter λz=>decide (z.2<z.1):=Ui.mpr ⟨hx,by simp only[decide_eq_true_eq] at p ⊢;lia⟩
   rw[z] at m;cases m
  exact decide_eq_false ∅
abbrev Ko(K:Fg):TS:=(aC (ao fu (aX (bf K) (ac (fA (iq K .T .T (ac (ao (aH K) (aa 0) (tC (.int 0))) (ac (aa 1) ae))) 2 (bZ K 2 (aR (aj 0) (aR (aj 1) b4))) (aO (ao yw (aa 1) (aa 0))) (tC (.int 1))) ae)) (tC (.int 0))))
def Nz{K:Fg}{N:List Str}(hN:Wi N=2)(h:GS K vs H Q E):Ko K (ends Q) (L2.start N vs) H:=by
 obtain⟨v,w,t,c,rfl,rv,rw_,hl,k⟩:=h;obtain⟨a,w1,w2,w3,rfl,ha,q1,q2,_⟩:=jV rv;obtain⟨b,rfl,hb⟩:=cB rw_;obtain⟨f,rfl,hf⟩:=cB q1;rw[L2.aK hN];walk_at "t";unfold Ko;have lz:(UZ t.fr c).length=min t.fr.length c.length:=Xy;cbv;refine aN (SqT.of ha) (v:=.ref f) rfl ?_;cbv;refine⟨f,b,_,_,rfl,SqT.of hf,SqT.of hb,?_⟩;have ml:min (t.fr.map V.int).length (c.map V.int).length=(UZ t.fr c).length:=by rw[SJ,SJ,lz]
 refine mD (k1:=.T) (k2:=.T) (xs:=t.fr.map V.int) (ys:=c.map V.int) λD nD=>⟨λi H2=>AccZ K H D H2 ((((UZ t.fr c).take i).filter λz=>decide (z.2<z.1)).map λ_=>TW 1),by simpa using AccZ.start (Same.refl _) nD,λi H2 _ A=>⟨SqT.of (A.same _ _ hf),SqT.of (A.same _ _ hb)⟩,?_,?_⟩
 .intro i x y H2 T e1 e2 A nT us hu
  obtain⟨u1,u2',rfl⟩:∃u0 u1,us=[u0,u1]:=ex2 hu
  rw[SO] at e1 e2;obtain⟨m1,f1,rfl⟩:=SU.mp e1;obtain⟨m2,f2,rfl⟩:=SU.mp e2;have ez:(UZ t.fr c)[i]?=some (m1,m2):=by rw[VD];exact⟨f1,f2⟩
  have li:i<(UZ t.fr c).length:=(SL.mp ez).1;have A2:=A.on (af nT (.tup [.int m1,.int m2]));have lf:(((UZ t.fr c).take i).filter λz=>decide (z.2<z.1)).length<=100:=TQ (UH _ _) (by rw[Ta];lia);have er:(((UZ t.fr c).take (i+1)).filter λz=>decide (z.2<z.1))=(((UZ t.fr c).take i).filter λz=>decide (z.2<z.1))++[(m1,m2)].filter λz=>decide (z.2<z.1):=by rw[Tc,ez,VG];rfl
  refine bv (SqT.of ag) rfl ?_;generalize upd H2 T (.tup [.int m1,.int m2])=H3 at A2 ⊢;cbv;refine⟨⟨[↥m1,↥m2],rfl,rfl⟩,?_⟩;cbv;refine aV (λe=>?_) (λe=>?_)
  .cbv;refine aI (by rw[ml];exact li) ?_;refine A2.bA (.int 1) (am (by rw[SJ];lia)) λH4 A4=>?_
   show AccZ K H D H4 ((((UZ t.fr c).take (i+1)).filter λz=>decide (z.2<z.1)).map λ_=>TW 1);rw[er,VT (by simpa using e),SV];exact A4
  .refine f7 (by rw[ml];exact li) ?_;show AccZ K H D H3 ((((UZ t.fr c).take (i+1)).filter λz=>decide (z.2<z.1)).map λ_=>TW 1);rw[er,VU (by simpa using e)];simpa using A2
 .intro H2 A;rw[ml,SX (SR _)] at A;obtain⟨zs,hzs,rz⟩:=A.at_;cbv;refine bP (SqL.of hzs) ?_;rw[rz.length,SJ];cbv
  have:=PL (t:=pr t) (c:=c)
  rw[show((UZ t.fr c).filter λz=>decide (z.2<z.1))=((UZ (pr t).1 c).filter λz=>decide (z.2<z.1)) from rfl,this];exact k H2 A.same
abbrev j8(K:Fg):Sp:=λvs H Q _=>∃(v w:V) (t:Tn) (c:List Int),vs=[v,w]/\Rz K H v (dT t)/\Rz K H w (dI c)/\t.fr.length=(Wi c)/\t.to.length=(Wi c)/\c.length<=100/\∀(p:Addr) (H':Hp),Same H H'->Rz K H' (.ref p) (dI (gb (pr t) c))->Q (.ref p) H'
abbrev pO(K:Fg):TS:=(aC (aX (bX K) (ac (cC (Ix K (ac (ao (aH K) (aa 0) (tC (.int 0))) (ac (ao (aH K) (aa 0) (tC (.int 1))) (ac (aa 1) ae)))) 3 (bZ K 3 (aR (aj 0) (aR (aj 1) (aR (aj 2) b4)))) (ao bG (ao nv (aa 2) (aa 0)) (aa 1))) ae)))
def DN{K:Fg}{N:List Str}(hN:Wi N=2)(h:j8 K vs H Q E):pO K (ends Q) (L2.start N vs) H:=by
 obtain⟨v,w,t,c,rfl,rv,rw_,l1,l2,hl,k⟩:=h;obtain⟨a,w1,w2,w3,rfl,ha,q1,q2,_⟩:=jV rv;obtain⟨b,rfl,hb⟩:=cB rw_;obtain⟨f,rfl,hf⟩:=cB q1;obtain⟨g,rfl,hg⟩:=cB q2;rw[L2.aK hN];walk_at "t";unfold pO;have lb:(gb (pr t) c).length=c.length:=by unfold gb;rw[SJ,TD]
 cbv;refine JH ?_;cbv;refine aN (SqT.of ha) (v:=.ref f) rfl ?_;cbv;refine aN (SqT.of ha) (v:=.ref g) rfl ?_;cbv;refine⟨f,g,b,_,_,_,rfl,SqT.of hf,SqT.of hg,SqT.of hb,?_⟩;refine uB (xs:=t.fr.map V.int) (ys:=t.to.map V.int) (zs:=c.map V.int) (m:=c.length) (by rw[SJ];exact l1) (by rw[SJ];exact l2) (SJ _) λD nD=>⟨λi H2=>AccZ K H D H2 (((gb (pr t) c).take i).map TW),by simpa using AccZ.start (Same.refl _) nD,λi H2 _ A=>⟨SqT.of (A.same _ _ hf),SqT.of (A.same _ _ hg),SqT.of (A.same _ _ hb)⟩,?_,?_⟩
 .intro i x y u H2 T e1 e2 e3 A nT us hu
  obtain⟨u1,u2,u3,rfl⟩:∃u0 u1 u2,us=[u0,u1,u2]:=by
   match us,hu with
   |[u0,u1,u2],_=>exact⟨u0,u1,u2,rfl⟩
  rw[SO] at e1 e2 e3;obtain⟨m1,f1,rfl⟩:=SU.mp e1;obtain⟨m2,f2,rfl⟩:=SU.mp e2;obtain⟨m3,f3,rfl⟩:=SU.mp e3;have li:i<c.length:=(SL.mp f3).1
  have ec:(gb (pr t) c)[i]?=some (m3-m1+m2):=by
   unfold gb;rw[SO,TR li];show some (pt c i-pt t.fr i+pt t.to i)=_;unfold pt;rw[SK,f3,SK,f1,SK,f2];rfl
  refine bv (SqT.of ag) rfl ?_;cbv;refine⟨⟨[↥m1,↥m2,↥m3],rfl,rfl⟩,?_⟩;cbv;refine aI li ?_;refine(A.on (af nT _)).bA (.int _) (am (by rw[SJ,Ta];lia)) λH4 A4=>?_
  show AccZ K H D H4 (((gb (pr t) c).take (i+1)).map TW);rw[Tc,ec,SV];exact A4
 .intro H2 A;rw[SX ∅] at A;cbv;refine dF (SqL.of (AccZ.ints A)) λp np=>?_
  exact k p _ (A.same.trans (af np _)) (.tup ag (RpL.ints _))
end Dn
namespace L2
open PySem
def JM{to ti:TE}{t:Jb}{H:Hp}{Q:St->Hp->Prop}(h:to σ H λo H1=>ti σ H1 λi H2=>t o i v H2 λH3=>Q σ H3):IG to ti t v σ H Q:=h
end L2
namespace Dn
open PySem L2 Fr G1 Sm Vs G2 Rk Sz Rw
open PySem.W (Dat kqdOk)
abbrev dO(K:Fg):Sp:=λvs H Q _=>∃(a c:Addr) (m r:List Int),vs=[.ref a,.ref c]/\H a=some (.lst (m.map V.int))/\H c=some (.tup (r.map V.int))/\m.length<=100/\(∀x∈m,x.natAbs<2 ^ 20000)/\(∀x∈r,x.natAbs<2 ^ 20000)/\∀H',Same H H'->Q (.int (mX m r)) H'
abbrev vj(K:Fg):TS:=(aC (aX (wD K) (ac (cC (iq K .L .T (ac (aa 0) (ac (aa 1) ae))) 2 (bZ K 2 (aR (aj 0) (aR (aj 1) b4))) (ao qu (aa 0) (aa 1))) ae)))
def Hb{K:Fg}{N:List Str}(hN:Wi N=2)(h:dO K vs H Q E):vj K (ends Q) (L2.start N vs) H:=by
 obtain⟨a,c,m,r,rfl,ha,hc,hl,bm,br,k⟩:=h;rw[L2.aK hN];walk_at "t";unfold vj;cbv;refine⟨a,c,_,_,rfl,SqL.of ha,SqT.of hc,?_⟩;have ml:min (m.map V.int).length (r.map V.int).length=(UD (· * ·) m r).length:=by rw[Vz,SJ,SJ]
 refine ga (k1:=.L) (k2:=.T) (xs:=m.map V.int) (ys:=r.map V.int) λD nD=>⟨λi H2=>AccZ K H D H2 (((UD (· * ·) m r).take i).map TW),AccZ.start (Same.refl _) nD,λi H2 _ A=>⟨SqL.of (A.same _ _ ha),SqT.of (A.same _ _ hc)⟩,?_,?_⟩
 .intro i y1 y2 H2 T e1 e2 A nT us hu
  obtain⟨u0,u1,rfl⟩:∃u0 u1,us=[u0,u1]:=ex2 hu
  rw[SO] at e1 e2;obtain⟨m1,f1,rfl⟩:=SU.mp e1;obtain⟨m2,f2,rfl⟩:=SU.mp e2;have ec:(UD (· * ·) m r)[i]?=some (m1*m2):=by rw[Uj,f1,f2]
  have li:i<(UD (· * ·) m r).length:=(SL.mp ec).1;have lm:=(SL.mp f1).1;refine bv (SqT.of ag) rfl ?_;cbv;refine⟨⟨[↥m1,↥m2],rfl,rfl⟩,?_⟩;cbv;refine⟨m1,m2,rfl,rfl,⟨bm _ (SM f1),br _ (SM f2)⟩,?_⟩;refine aI (by rw[ml];exact li) ?_;refine(A.on (af nT _)).bA (.int (m1*m2)) (am (by rw[SJ,Ta];lia)) λH4 A4=>?_
  show AccZ K H D H4 (((UD (· * ·) m r).take (i+1)).map TW);rw[Tc,ec,SV];exact A4
 .intro H2 A;rw[ml,SX (SR _)] at A;cbv;exact⟨D,_,rfl,SqL.of (AccZ.ints A),k H2 A.same⟩
open PySem L2 Fr G1 Sm Vs G2 Rk Sz Sf Rw Cl
def NL{t:Tn}{n:Nat}(h1:t.fr.length=n)(h2:t.to.length=n)(q:Nat):pt (cO t) q=pt t.to q-pt t.fr q:=by
 unfold cO pt;rw[SK,Uj,SK,SK];by_cases h:q<n
 .rw[SN ∅,SN ∅];rfl
 .rw[TL ∅,TL ∅];rfl
def xT:∀(n:Nat) (m r:List Int),m.length=n->Wi r=n->mX m r=((TC n).map λq=>pt m q*pt r q).sum
 |0,m,r,h1,h2=>by
  rw[Uf.mp h1];rfl
 |n+1,[],r,h1,_=>by simp at h1
 |n+1,x :: m,[],_,h2=>by simp at h2
 |n+1,x :: m,y :: r,h1,h2=>by
  have ih:=xT n m r (by simpa using h1) (by simpa using h2);show(x*y :: UD (· * ·) m r).sum=_;rw[U2,List.range_succ_eq_map,TN,U2,UV];show x*y+mX m r=x*y+_;rw[ih];rfl
def sum_add(f g:Nat->Int):∀l:List Nat,(l.map λq=>f q+g q).sum=(l.map f).sum+(l.map g).sum
 |[]=>rfl
 |x :: l=>by
  rw[TN,U2,TN,U2,TN,U2,sum_add f g l];lia
def rG(t:Tp)(c:List Int):(gb t c).length=Wi c:=by unfold gb;rw[SJ,TD]
end Dn
namespace Lo
end Lo
namespace L2
open PySem
def PU:bootBuiltins "min"=some (.builtin "min"):=by decide +kernel
end L2
namespace Bo
abbrev sm:Nat->(Nat->Int)->Int
 |0,_=>0
 |n+1,f=>sm n f+f n
def aQ{n:Nat}{f g:Nat->Int}(h:∀k,k<n->f k=g k):sm n f=sm n g:=by
 induction n with
 |zero=>rfl
 |succ n ih=>rw[sm,sm,ih λk hk=>h k ∅,h n ∅]
def sD{n:Nat}{f:Nat->Int}(h:∀k,k<n->0<=f k):0<=sm n f:=by
 induction n with
 |zero=>exact VC _
 |succ n ih =>
  have:=ih λk hk=>h k ∅
  have:=h n ∅
  rw[sm];lia
def hZ(n:Nat)(f g:Nat->Int):sm n (λk=>f k+g k)=sm n f+sm n g:=by
 induction n with
 |zero=>rfl
 |succ n ih=>rw[sm,sm,sm,ih];lia
def bJ(n:Nat)(c:Int)(f:Nat->Int):sm n (λk=>c*f k)=c*sm n f:=by
 induction n with
 |zero=>rw[sm,sm,T_]
 |succ n ih=>rw[sm,sm,ih,UY]
def d6{n j:Nat}{f:Nat->Int}(hj:j<n)(h:∀k,k<n->k≠j->f k=0):sm n f=f j:=by
 induction n with
 |zero=>lia
 |succ n ih =>
  rw[sm];by_cases e:j=n
  .subst e;rw[show sm j f=0 from ?_,U_]
   have:sm j f=sm j λ_=>0:=aQ λk hk=>h k ∅ ∅
   rw[this];clear this ih h hj
   induction j with
   |zero=>rfl
   |succ j ih=>rw[sm,ih];rfl
  .rw[ih ∅ λk hk ne=>h k ∅ ne,h n ∅ ∅,VZ]
structure Bd where
 L:Nat->Nat->Int
 h:Nat->Nat
structure Ok (m W:Nat) (b:Bd):Prop where
 lt:∀i,i<m->b.h i<W
 own:∀i,i<m->0<b.L i (b.h i)
 oth:∀i j,i<m->j<m->i≠j->b.L i (b.h j)=0
structure Stp (m W:Nat) (b b':Bd) (i p:Nat):Prop where
 im:i<m
 pw:p<W
 short:b.L i W<0
 low:b.L i p<0
 first:∀k,k<p->0<=b.L i k
 least:∀j,j<m->b.L j W<0->b.h i<=b.h j
 hi:b'.h i=p
 hj:∀j,j<m->j≠i->b'.h j=b.h j
 li:∀k,b'.L i k = - b.L i k
 lj:∀j,j<m->j≠i->∃g:Int,0<g/\∀k,g*b'.L j k=(- b.L i p)*b.L j k-b.L j p*(- b.L i k)
def Stp.ne(s:Stp m W b b' i p)(o:Ok m W b):∀j,j<m->b.h j≠p:=by
 intro j hj e;by_cases z:i=j
 .subst z
  have:=o.own i hj
  have:=s.low
  rw[e] at *;lia
 .have:=o.oth i j s.im hj z
  rw[e] at this
  have:=s.low
  lia
def Stp.ok(s:Stp m W b b' i p)(o:Ok m W b):Ok m W b':=by
 refine⟨λj hj=>?_,λj hj=>?_,λj l hj hl ne=>?_⟩
 .by_cases e:j=i
  .rw[e,s.hi];exact s.pw
  .rw[s.hj j hj e];exact o.lt j hj
 .by_cases e:j=i
  .rw[e,s.hi,s.li]
   have:=s.low
   lia
  .rw[s.hj j hj e];obtain⟨g,g0,gk⟩:=s.lj j hj e;have h1:=gk (b.h j);rw[o.oth i j s.im hj (λz=>e z.symm),Zbr,T_,Zbq] at h1;have p1:0 < -b.L i p*b.L j (b.h j):=Wn (by have:=s.low;lia) (o.own j hj);rw[<- h1] at p1;exact Vk (a:=g) p1 g0 |> λz=>z
 .by_cases e:l=i
  .subst e;rw[s.hi];obtain⟨g,g0,gk⟩:=s.lj j hj ne;have h1:=gk p;have z : -b.L l p*b.L j p-b.L j p * -b.L l p=0:=by rw[Uc (-b.L l p)];lia
   rw[z] at h1;rcases Ub.mp h1 with y|y
   .lia
   .exact y
  .rw[s.hj l hl e];by_cases f:j=i
   .rw[f,s.li,o.oth i l s.im hl (λz=>e z.symm)];rfl
   .obtain⟨g,g0,gk⟩:=s.lj j hj f;have h1:=gk (b.h l);rw[o.oth i l s.im hl (λz=>e z.symm),o.oth j l hj hl ne,Zbr,T_,T_] at h1;rcases Ub.mp h1 with y|y
    .lia
    .exact y
abbrev ev(W:Nat)(r:Nat->Int)(z:Nat->Int):Int:=sm W λk=>r k*z k
abbrev Bv(m W:Nat)(b:Bd)(z:Nat->Int)(D:Int):Prop:=∀i,i<m->ev W (b.L i) z=D*b.L i W
def FA(W:Nat)(r z:Nat->Int):ev W (λk=>- r k) z = - ev W r z:=by
 unfold ev;rw[show(λk=>- r k*z k)=λk=>(-1)*(r k*z k) from funext λk=>by rw[VB,U4],bJ,U4]
def JW(W:Nat)(g a c:Int)(q r s z:Nat->Int)(h:∀k,g*q k=a*r k-c*s k):g*ev W q z=a*ev W r z-c*ev W s z:=by
 unfold ev;rw[<- bJ,<- bJ,<- bJ,Za3,<- U4,<- bJ,<- hZ];refine aQ λk _=>?_
 rw[<- TB,h k,ZbR,TB,TB];lia
def Stp.sat(s:Stp m W b b' i p):Bv m W b z D↔Bv m W b' z D:=by
 have ei:ev W (b'.L i) z = - ev W (b.L i) z:=by
  rw[show b'.L i=λk=>- b.L i k from funext s.li,FA]
 constructor
 .intro h j hj;by_cases e:j=i
  .subst e;rw[ei,h j hj,s.li,V3]
  .obtain⟨g,g0,gk⟩:=s.lj j hj e;have e1:=JW W g _ _ _ _ _ z gk;have e2:=gk W;rw[FA,h j hj,h i s.im] at e1;refine Uo (a:=g) ∅ ?_;rw[e1,show g*(D*b'.L j W)=D*(g*b'.L j W) from TX ..,e2,Yk,TX,<- V3,TX D,TX (b.L j p) D]
 .intro h j hj
  have hi:ev W (b.L i) z=D*b.L i W:=by
   have:=h i s.im
   rw[ei,s.li,V3] at this;lia
  by_cases e:j=i
  .subst e;exact hi
  .obtain⟨g,g0,gk⟩:=s.lj j hj e;have e1:=JW W g _ _ _ _ _ z gk;have e2:=gk W;rw[FA,h j hj,hi] at e1;have lo:=s.low;refine Uo (a:=- b.L i p) ∅ ?_;have e3:g*(D*b'.L j W)=D*(-b.L i p*b.L j W)-D*(b.L j p * -b.L i W):=by rw[TX,e2,Yk]
   rw[e3] at e1;rw[show -b.L i p*(D*b.L j W)=D*(-b.L i p*b.L j W) from TX ..];have e4:D*(b.L j p * -b.L i W)=b.L j p * -(D*b.L i W):=by rw[TX,V3]
   omega
def Ee(o:Ok m W b):∃(z:Nat->Int) (D:Int),0<D/\Bv m W b z D/\(∀i,i<m->b.L i (b.h i)*z (b.h i)=D*b.L i W)/\∀k,(∀i,i<m->b.h i≠k)->z k=0:=by
 have pr:∀n,n<=m->∃D:Int,0<D/\∀i,i<n->∃c,D=b.L i (b.h i)*c:=by
  intro n
  induction n with
  |zero=>exact λ_=>⟨1,by decide,λi hi=>absurd hi (Vn _)⟩
  |succ n ih =>
   intro hn;obtain⟨D,D0,hD⟩:=ih ∅;have on:=o.own n ∅;refine⟨D*b.L n (b.h n),Wn D0 on,λi hi=>?_⟩;by_cases e:i=n
   .subst e;exact⟨D,Uc ..⟩
   .obtain⟨c,hc⟩:=hD i ∅;exact⟨c*b.L n (b.h n),by rw[hc,TB]⟩
 obtain⟨D,D0,hD⟩:=pr m (SR _)
 have inj:∀i j,i<m->j<m->b.h i=b.h j->i=j:=by
  intro i j hi hj e;by_cases z:i=j
  .exact z
  .have:=o.oth i j hi hj z
   rw[<- e] at this
   have:=o.own i hi
   lia
 have ex:∃z:Nat->Int,(∀i,i<m->b.L i (b.h i)*z (b.h i)=D*b.L i W)/\∀k,(∀i,i<m->b.h i≠k)->z k=0:=by
  have go:∀n,n<=m->∃z:Nat->Int,(∀i,i<n->b.L i (b.h i)*z (b.h i)=D*b.L i W)/\∀k,(∀i,i<n->b.h i≠k)->z k=0:=by
   intro n
   induction n with
   |zero=>exact λ_=>⟨λ_=>0,λi hi=>absurd hi (Vn _),λ_ _=>rfl⟩
   |succ n ih =>
    intro hn;obtain⟨z,h1,h2⟩:=ih ∅;obtain⟨c,hc⟩:=hD n ∅;refine⟨λk=>if k=b.h n then c*b.L n W else z k,λi hi=>?_,λk hk=>?_⟩
    .by_cases e:i=n
     .subst e;show _*(if b.h i=b.h i then _ else _)=_;rw[if_pos rfl,hc,TB]
     .have ne:b.h i≠b.h n:=λz=>e (inj i n ∅ ∅ z)
      show _*(if b.h i=b.h n then _ else _)=_;rw[if_neg ne];exact h1 i ∅
    .show(if k=b.h n then _ else _)=_;rw[if_neg (λe=>hk n ∅ e.symm)];exact h2 k λi hi=>hk i ∅
  exact go m (SR _)
 obtain⟨z,h1,h2⟩:=ex;refine⟨z,D,D0,λi hi=>?_,h1,h2⟩;unfold ev;rw[d6 (o.lt i hi) λk _ ne=>?_,h1 i hi];by_cases e:∃j,j<m/\b.h j=k
 .obtain⟨j,hj,rfl⟩:=e;rw[o.oth i j hi hj (λz=>ne (by rw[z])),UT]
 .rw[h2 k λj hj z=>e ⟨j,hj,z⟩,T_]
abbrev mJ(m:Nat)(b:Bd)(k:Nat):Prop:=∃i,i<m/\b.h i=k
def key(o1:Ok m W b)(o2:Ok m W c)(s1:Stp m W b b' i p)(s2:Stp m W c c' j t)(ht:b.h i=t)(hr:c.h j<=t)(sol:∀z D,Bv m W b z D->Bv m W c z D)(st:∀k,t<k->(mJ m b k↔mJ m c k)):False:=by
 obtain⟨z,D,D0,sz,z1,z2⟩:=Ee o1;have e:=sol z D sz j s2.im;have lt:ev W (c.L j) z<0:=by rw[e];exact YV D0 s2.short
 refine absurd (sD λk hk=>?_) (Int.not_le.mpr lt);by_cases hb:mJ m b k
 .obtain⟨l,hl,rfl⟩:=hb;have zl:=z1 l hl;have ol:=o1.own l hl;rcases Vd (b.h l) t with q|q|q
  .refine Xd (s2.first _ q) ?_
   have e0:0<=b.L l W:=by
    rcases Yz (b.L l W) 0 with y|y
    .have:=s1.least l hl y
     lia
    .exact y
   have:0<=b.L l (b.h l)*z (b.h l):=by rw[zl];exact Xd (Zbs D0) e0
   exact X_ this ol
  .have el:l=i:=by
    by_cases y:l=i
    .exact y
    .have:=o1.oth l i hl s1.im y
     rw[ht,<- q] at this;lia
   subst el
   have:b.L l (b.h l)*z (b.h l)<0:=by rw[zl];exact YV D0 s1.short
   have zn:z (b.h l)<0:=by
    rcases Yz (z (b.h l)) 0 with y|y
    .exact y
    .have:=Xd (Zbs ol) y
     lia
   have cn:=s2.low;rw[<- q] at cn;exact Zbs (Int.mul_pos_of_neg_of_neg cn zn)
  .obtain⟨n,hn,en⟩:=(st _ q).mp ⟨l,hl,rfl⟩;have ne:j≠n:=λy=>by rw[<- y] at en;lia
   have:=o2.oth j n s2.im hn ne
   rw[en] at this;rw[this,UT];exact VC _
 .rw[z2 k λl hl y=>hb ⟨l,hl,y⟩,T_];exact VC _
def Stp.hold{k:Nat}(s:Stp m W b b' i p)(h1:b.h i≠k)(h2:p≠k):mJ m b k↔mJ m b' k:=by
 constructor
 .rintro⟨j,hj,e⟩;have ne:j≠i:=λz=>h1 (by rw[<- z];exact e)
  exact⟨j,hj,by rw[s.hj j hj ne];exact e⟩
 .rintro⟨j,hj,e⟩;by_cases z:j=i
  .rw[z,s.hi] at e;exact absurd e h2
  .exact⟨j,hj,by rw[<- s.hj j hj z];exact e⟩
structure Run (m W:Nat) (s:Nat->Bd) (i p:Nat->Nat) (a n:Nat):Prop where
 ok:∀k,a<=k->k<=a+n->Ok m W (s k)
 stp:∀k,a<=k->k<a+n->Stp m W (s k) (s (k+1)) (i k) (p k)
abbrev In(s:Nat->Bd)(i p:Nat->Nat)(t k:Nat):Prop:=(s k).h (i k)=t\/p k=t
def Run.sat{m W:Nat}{s:Nat->Bd}{i p:Nat->Nat}{a n:Nat}(r:Run m W s i p a n){z:Nat->Int}{D:Int}:∀(d u:Nat),a<=u->u+d<=a+n->(Bv m W (s u) z D↔Bv m W (s (u+d)) z D)
 |0,_,_,_=>ZM
 |d+1,u,h1,h2=>(r.sat d u h1 ∅).trans (r.stp (u+d) ∅ ∅).sat
def Run.hold{m W:Nat}{s:Nat->Bd}{i p:Nat->Nat}{a n k:Nat}(r:Run m W s i p a n):∀(d u:Nat),a<=u->u+d<=a+n->(∀v,u<=v->v<u+d->¬ In s i p k v)->(mJ m (s u) k↔mJ m (s (u+d)) k)
 |0,_,_,_,_=>ZM
 |d+1,u,h1,h2,h3=>(r.hold d u h1 ∅ λv q1 q2=>h3 v q1 ∅).trans ((r.stp (u+d) ∅ ∅).hold (λz=>h3 (u+d) ∅ ∅ (.inl z)) λz=>h3 (u+d) ∅ ∅ (.inr z))
def Run.once{t:Nat}(r:Run m W s i p a n)(top:∀k,a<=k->k<a+n->(s k).h (i k)<=t/\p k<=t):∀(d u:Nat),a<=u->u+(d+1)<a+n->In s i p t u->In s i p t (u+(d+1))->False:=by
 intro d
 induction d using ZbY with
 |_ d ih =>
  intro u h1 h2 e1 e2;by_cases mid:∃v,u<v/\v<u+(d+1)/\In s i p t v
  .obtain⟨v,v1,v2,v3⟩:=mid;exact ih (v-u-1) ∅ u h1 ∅ e1 (by rw[show u+(v-u-1+1)=v by lia];exact v3)
  .have none:∀v,u+1<=v->v<u+1+d->¬ In s i p t v:=λv q1 q2 q3=>mid ⟨v,∅,∅,q3⟩
   have ev_:u+(d+1)=u+1+d:=by lia
   rw[ev_] at e2 h2;have su:=r.stp u h1 ∅;have sv:=r.stp (u+1+d) ∅ h2;have ou:=r.ok u h1 ∅;have ov:=r.ok (u+1+d) ∅ ∅;have same:=r.hold (k:=t) d (u+1) ∅ ∅ none;have tu:=top u h1 ∅;have tv:=top (u+1+d) ∅ h2
   have far:∀k,t<k->(mJ m (s u) k↔mJ m (s (u+1+d)) k):=λk hk=>by
    have:=r.hold (k:=k) (d+1) u h1 ∅ λv q1 q2 q3=>by
     have:=top v ∅ ∅
     rcases q3 with q3|q3 <;> lia
    rw[show u+1+d=u+(d+1) by lia];exact this
   have sol:∀z D,(Bv m W (s u) z D↔Bv m W (s (u+1+d)) z D):=λz D=>by
    have:=r.sat (z:=z) (D:=D) (d+1) u h1 ∅
    rw[show u+1+d=u+(d+1) by lia];exact this
   have ok1:=su.ok ou;by_cases hu:(s u).h (i u)=t
   .have nt : ¬ mJ m (s (u+1)) t:=by
     rintro⟨j,hj,e⟩;by_cases z:j=i u
     .rw[z,su.hi] at e;exact su.ne ou (i u) su.im (hu.trans e.symm)
     .rw[su.hj j hj z] at e
      have:=ou.oth j (i u) hj su.im z
      rw[hu,<- e] at this
      have:=ou.own j hj
      lia
    rcases e2 with e2|e2
    .exact nt (same.mpr ⟨_,sv.im,e2⟩)
    .have sv2:=sv;rw[e2] at sv2;exact key ou ov su sv2 hu tv.1 (λz D=>(sol z D).mp) far
   .have pu:p u=t:=e1.resolve_left hu;have yt:mJ m (s (u+1+d)) t:=same.mp ⟨i u,su.im,by rw[su.hi,pu]⟩;rcases e2 with e2|e2
    .have su2:=su;rw[pu] at su2;exact key ov ou sv su2 e2 tu.1 (λz D=>(sol z D).mpr) λk hk=>(far k hk).symm
    .obtain⟨j,hj,e⟩:=yt;exact sv.ne ov j hj (by rw[e,e2])
def Run.part{b l:Nat}(r:Run m W s i p a n)(h1:a<=b)(h2:b+l<=a+n):Run m W s i p b l:=⟨λk q1 q2=>r.ok k ∅ ∅,λk q1 q2=>r.stp k ∅ ∅⟩
def Run.few{m W:Nat}{s:Nat->Bd}{i p:Nat->Nat}:∀(T a n:Nat),Run m W s i p a n->(∀k,a<=k->k<a+n->(s k).h (i k)<T/\p k<T)->n+1<=2 ^ T
 |0,a,n,r,top=>by
  cases n with
  |zero=>exact SR _
  |succ n=>exact absurd (top a (SR _) ∅).1 (Vn _)
 |T+1,a,n,r,top=>by
  have p2:2 ^ (T+1)=2 ^ T+2 ^ T:=by rw[VY];lia
  by_cases h:∃v,a<=v/\v<a+n/\In s i p T v
  .obtain⟨v,v1,v2,v3⟩:=h
   have only:∀k,a<=k->k<a+n->k≠v->¬ In s i p T k:=by
    intro k k1 k2 ne k3;rcases Uw k v with q|q
    .exact r.once (λk q1 q2=>by have:=top k q1 q2;lia) (v-k-1) k k1 ∅ k3 (by rw[show k+(v-k-1+1)=v by lia];exact v3)
    .exact r.once (λk q1 q2=>by have:=top k q1 q2;lia) (k-v-1) v v1 ∅ v3 (by rw[show v+(k-v-1+1)=k by lia];exact k3)
   have lo:∀k,a<=k->k<a+n->k≠v->(s k).h (i k)<T/\p k<T:=λk q1 q2 q3=>by
    have:=top k q1 q2
    have n1:=only k q1 q2 q3;exact⟨V8 ∅ λz=>n1 (.inl z),V8 ∅ λz=>n1 (.inr z)⟩
   have x1:=Run.few T a (v-a) (r.part (SR _) ∅) λk q1 q2=>lo k q1 ∅ ∅
   have x2:=Run.few T (v+1) (a+n-(v+1)) (r.part ∅ ∅) λk q1 q2=>lo k ∅ ∅ ∅
   lia
  .have:=Run.few T a n r λk q1 q2=>by
    have t1:=top k q1 q2;have n1 : ¬ In s i p T k:=λz=>h ⟨k,q1,q2,z⟩
    exact⟨V8 ∅ λz=>n1 (.inl z),V8 ∅ λz=>n1 (.inr z)⟩
   lia
def NT{f:Nat->Nat}{N K:Nat}(h:∀X,X<N->f X<K)(lt:K<N):∃X Y,X<Y/\Y<N/\f X=f Y:=by
 refine Vb λno=>?_
 have nd:((TC N).map f).Nodup:=by
  unfold List.Nodup;rw[Y4];refine Y_.imp_of_mem (λ{a b} ha hb (l:a<b) e=>no ⟨a,b,l,Uu.mp hb,e⟩) XW
 have:=Ti.eE (hs:=TC K) nd λx hx=>by
  obtain⟨X,hX,rfl⟩:=Te.mp hx;exact Uu.mpr (h X (Uu.mp hX))
 rw[SJ,TD,TD] at this;lia
abbrev jT(b:Nat):Nat->Nat->Nat
 |X,0=>X % b
 |X,j+1=>jT b (X / b) j
def zm{b:Nat}(h:0<b):∀(j X:Nat),jT b X j<b
 |0,X=>ZJ _ h
 |j+1,X=>zm h j (X / b)
def FG{b:Nat}(h:0<b):∀(n X Y:Nat),X<b ^ n->Y<b ^ n->(∀j,j<n->jT b X j=jT b Y j)->X=Y
 |0,X,Y,h1,h2,_=>by rw[Nat.pow_zero] at h1 h2;lia
 |n+1,X,Y,h1,h2,h3=>by
  have e0:X % b=Y % b:=h3 0 ∅;have e1:X / b=Y / b:=FG h n (X / b) (Y / b) (by rw[Z8 h,<- VY];exact h1) (by rw[Z8 h,<- VY];exact h2) λj hj=>h3 (j+1) ∅
  rw[<- Zb0 X b,<- Zb0 Y b,e0,e1]
abbrev Gj(R:Nat):Nat->(Nat->Nat)->Nat
 |0,_=>0
 |k+1,y=>Gj R k y+y k*R ^ k
def zd{R:Nat}{y:Nat->Nat}:∀k,(∀i,i<k->y i<R)->Gj R k y<R ^ k
 |0,_=>by rw[Nat.pow_zero];exact Nat.one_pos
 |k+1,h=>by
  have a:=zd k λi hi=>h i ∅
  have c:(y k+1)*R ^ k<=R*R ^ k:=Zao _ (h k ∅);rw[VY,Xh (R ^ k) R,Gj];rw[Nat.add_mul,Nat.one_mul] at c;lia
def FD{R:Nat}{y z:Nat->Nat}:∀k,(∀i,i<k->y i<R)->(∀i,i<k->z i<R)->Gj R k y=Gj R k z->∀i,i<k->y i=z i
 |0,_,_,_,i,hi=>absurd hi (Vn _)
 |k+1,h1,h2,e,i,hi=>by
  have a:=zd k λi hi=>h1 i ∅
  have c:=zd k λi hi=>h2 i ∅
  have pos:0<R ^ k:=by lia
  rw[Gj,Gj] at e
  have ek:y k=z k:=by
   have d1:(Gj R k y+y k*R ^ k) / R ^ k=y k:=by rw[Z9 _ _ pos,X8 a,XM]
   have d2:(Gj R k z+z k*R ^ k) / R ^ k=z k:=by rw[Z9 _ _ pos,X8 c,XM]
   rw[<- d1,<- d2,e]
  by_cases q:i=k
  .rw[q];exact ek
  .rw[ek] at e;exact FD k (λi hi=>h1 i ∅) (λi hi=>h2 i ∅) ∅ i ∅
def Ni{n:Nat}{f:Nat->Int}{C:Int}(h:∀k,k<n->-C<=f k/\f k<=C) : -(n*C)<=sm n f/\sm n f<=n*C:=by
 induction n with
 |zero=>rw[sm];simp
 |succ n ih =>
  have a:=ih λk hk=>h k ∅
  have c:=h n ∅;have e:((n+1:Nat):Int)*C=n*C+C:=by rw[Zb1,Y5];simp
  rw[e,sm];lia
def Op{a x:Int}{M B:Nat}(ha : -(M:Int)<=a/\a<=M)(h0:0<=x)(hx:x<=B) : -((M:Int)*B)<=a*x/\a*x<=(M:Int)*B:=by
 have h1:a*x<=M*x:=WF ha.2 h0;have h2 : -(M:Int)*x<=a*x:=WF ha.1 h0;have h3:(M:Int)*x<=M*B:=WH hx ∅;rw[VB] at h2;lia
def Jq{k M:Nat}{A:Nat->Nat->Int}(m1:1<=M)(hA:∀i,i<k->∀j,j<k+1->-(M:Int)<=A i j/\A i j<=M) :
  ∃x:Nat->Int,(∃j,j<k+1/\x j≠0)/\(∀j,-(((2*((k+1)*M)) ^ k:Nat):Int)<=x j/\x j<=((2*((k+1)*M)) ^ k:Nat))/\∀i,i<k->sm (k+1) (λj=>A i j*x j)=0:=by
 generalize hC:(k+1)*M=C;have c1:1<=C:=by rw[<- hC];exact Nat.mul_pos ∅ m1
 generalize hB:(2*C) ^ k=B
 have lt:(2*C*B+1) ^ k<(B+1) ^ (k+1):=by
  have e1:2*C*B+1<=2*C*(B+1):=by rw[Nat.mul_add];lia
  have e2:(2*C*B+1) ^ k<=(2*C*(B+1)) ^ k:=Xq e1 k;rw[Nat.mul_pow,hB] at e2;rw[VY,Xh ((B+1) ^ k)];have p1:0<(B+1) ^ k:=Nat.pow_pos ∅
  have:B*(B+1) ^ k<(B+1)*(B+1) ^ k:=Nat.mul_lt_mul_of_pos_right ∅ p1
  lia
 have bd:∀(X i:Nat),i<k->-((C*B:Nat):Int)<=sm (k+1) (λj=>A i j*(jT (B+1) X j:Int))/\sm (k+1) (λj=>A i j*(jT (B+1) X j:Int))<=((C*B:Nat):Int):=by
  intro X i hi
  have:=Ni (n:=k+1) (f:=λj=>A i j*(jT (B+1) X j:Int)) (C:=(M:Int)*B) λj hj=>Op (hA i hi j hj) ∅ (by have:=zm (b:=B+1) ∅ j X;lia)
  have e:(((k+1:Nat):Int)*((M:Int)*B))=((C*B:Nat):Int):=by rw[<- hC,<- TB];simp
  rw[e] at this;exact this
 have yl:∀(X i:Nat),i<k->(sm (k+1) (λj=>A i j*(jT (B+1) X j:Int))+(C*B:Nat)).toNat<2*C*B+1:=λX i hi=>by
  have:=bd X i hi
  have e:2*C*B=C*B+C*B:=by rw[Zf,ZbP]
  lia
 obtain⟨X,Y,l1,l2,e⟩:=NT (f:=λX=>Gj (2*C*B+1) k λi=>(sm (k+1) (λj=>A i j*(jT (B+1) X j:Int))+(C*B:Nat)).toNat) (N:=(B+1) ^ (k+1)) (λX _=>zd k λi hi=>yl X i hi) lt;have ei:=FD k (λi hi=>yl X i hi) (λi hi=>yl Y i hi) e;refine⟨λj=>(jT (B+1) X j:Int)-jT (B+1) Y j,?_,λj=>?_,λi hi=>?_⟩
 .refine Vb λno=>?_
  have:=FG (b:=B+1) ∅ (k+1) X Y ∅ l2 λj hj=>Vb λne=>no ⟨j,hj,by show((jT (B+1) X j:Int)-jT (B+1) Y j)≠0;lia⟩
  lia
 .have a:=zm (b:=B+1) ∅ j X;have c:=zm (b:=B+1) ∅ j Y;show -((B:Nat):Int)<=(jT (B+1) X j:Int)-jT (B+1) Y j/\(jT (B+1) X j:Int)-jT (B+1) Y j<=(B:Nat);lia
 .have h:=ei i hi;have b1:=bd X i hi;have b2:=bd Y i hi;have es:sm (k+1) (λj=>A i j*(jT (B+1) X j:Int))=sm (k+1) (λj=>A i j*(jT (B+1) Y j:Int)):=by lia
  have e3:sm (k+1) (λj=>A i j*((jT (B+1) X j:Int)-jT (B+1) Y j))=sm (k+1) (λj=>A i j*(jT (B+1) X j:Int))+sm (k+1) (λj=>(-1)*(A i j*(jT (B+1) Y j:Int))):=by
   rw[<- hZ];refine aQ λj _=>?_
   rw[Yk];lia
  show sm (k+1) (λj=>A i j*((jT (B+1) X j:Int)-jT (B+1) Y j))=0;rw[e3,bJ,es];lia
structure From (m W n:Nat) (f b:Bd):Prop where
 ok:Ok m W b
 lin:∀i,i<m->∀k,b.L i k=sm m λl=>b.L i (n+l)*f.L l k
 prim:∀i,i<m->∀d:Int,(∀k,k<=W->d∣b.L i k)->d∣1
 span:∀l,l<m->∃D:Int,0<D/\∃c:Nat->Int,∀k,D*f.L l k=sm m λj=>c j*b.L j k
def iT{n:Nat}{f:Nat->Int}(h:∀k,k<n->f k=0):sm n f=0:=by
 induction n with
 |zero=>rfl
 |succ n ih=>rw[sm,ih λk hk=>h k ∅,h n ∅];rfl
def From.start{n:Nat}(o:Ok m W f)(u:∀l,l<m->∀k,k<m->f.L l (n+k)=if l=k then 1 else 0)(w:n+m<=W+1):From m W n f f:=by
 refine⟨o,λi hi k=>?_,λi hi d hd=>?_,λl hl=>⟨1,by decide,λj=>if j=l then 1 else 0,λk=>?_⟩⟩
 .rw[d6 hi λl hl ne=>?_,u i hi i hi,if_pos rfl,Zan];rw[u i hi l hl,if_neg (λz=>ne z.symm),UT]
 .have:=hd (n+i) ∅
  rw[u i hi i hi,if_pos rfl] at this;exact this
 .rw[d6 (j:=l) hl λj hj ne=>?_]
  .show 1*f.L l k=(if l=l then 1 else 0)*f.L l k;rw[if_pos rfl]
  .show(if j=l then 1 else 0)*f.L j k=0;rw[if_neg ne,UT]
def From.step{m W n:Nat}{f b b':Bd}{i p:Nat}(F:From m W n f b)(s:Stp m W b b' i p)(pr:∀j,j<m->j≠i->∀d:Int,(∀k,k<=W->d∣b'.L j k)->d∣1):From m W n f b':=by
 have lo:=s.low;refine⟨s.ok F.ok,λj hj k=>?_,λj hj d hd=>?_,λl hl=>?_⟩
 .by_cases e:j=i
  .subst e;rw[s.li,F.lin j hj k,<- U4,<- bJ];refine aQ λl _=>?_
   rw[s.li,<- TB,U4]
  .obtain⟨g,g0,gk⟩:=s.lj j hj e;refine Uo (a:=g) ∅ ?_;rw[gk k,<- bJ,F.lin j hj k,F.lin i s.im k,<- bJ,<- U4 (sm m _),<- bJ,<- bJ,Za3,<- U4 (sm m _),<- bJ,<- hZ];refine aQ λl _=>?_
   rw[<- TB g,gk,ZbR];rw[TB (-b.L i p),U4,U4,TB (b.L j p),VB (b.L i (n+l))];lia
 .by_cases e:j=i
  .subst e;refine F.prim j hj d λk hk=>?_
   have:=hd k hk
   rw[s.li] at this;exact(Int.dvd_neg).mp this
  .exact pr j hj e d hd
 .obtain⟨D,D0,c,hc⟩:=F.span l hl
  have G:∃g:Nat->Int,∀j,j<m->j≠i->∀k,g j*b'.L j k=(- b.L i p)*b.L j k-b.L j p*(- b.L i k):=by
   refine⟨λj=>if h:j<m/\j≠i then Xn (s.lj j h.1 h.2) else 0,λj hj ne k=>?_⟩;show(if h:j<m/\j≠i then Xn (s.lj j h.1 h.2) else 0)*_=_;rw[dif_pos ⟨hj,ne⟩];exact(Wa (s.lj j hj ne)).2 k
  obtain⟨g,hg⟩:=G;generalize hX:sm m (λj=>c j*b.L j p)=X;refine⟨- b.L i p*D,Wn ∅ D0,λj=>if j=i then X else c j*g j,λk=>?_⟩
  have split:∀(q:Nat->Int),sm m q=q i+sm m λj=>if j=i then 0 else q j:=λq=>by
   have e1:sm m (λj=>if j=i then q i else 0)=q i:=by
    rw[d6 s.im λj _ ne=>if_neg ne,if_pos rfl]
   rw[<- e1,<- hZ];refine aQ λj _=>?_
   by_cases e:j=i
   .rw[if_pos e,if_pos e,e,VZ]
   .rw[if_neg e,if_neg e,U_]
  have e1:sm m (λj=>if j=i then 0 else (if j=i then X else c j*g j)*b'.L j k)=sm m λj=>-b.L i p*(c j*b.L j k)+b.L i k*(c j*b.L j p):=by
   refine aQ λj hj=>?_
   by_cases e:j=i
   .rw[if_pos e,e,VB,TX (b.L i p),TX (b.L i k),Uc (b.L i k)];lia
   .rw[if_neg e,if_neg e,TB,hg j hj e k,Yk,TX (c j),V3 (b.L j p),V3 (c j),<- TB (c j) (b.L j p),Uc (c j*b.L j p)];lia
  rw[split λj=>(if j=i then X else c j*g j)*b'.L j k,e1,hZ,bJ,bJ,hX,if_pos rfl,s.li,V3,Uc X,TB,hc k];lia
def From.line{i:Nat}(F:From m W n f b)(hi:i<m){y:Nat->Int}(z:∀j,j<m->j≠i->sm m (λl=>y l*f.L l (b.h j))=0)(k:Nat) :
  b.L i (b.h i)*sm m (λl=>y l*f.L l k)=sm m (λl=>y l*f.L l (b.h i))*b.L i k:=by
 have all:∀q,q<=m->∃D:Int,0<D/\∃c:Nat->Int,∀k,D*sm q (λl=>y l*f.L l k)=sm m λj=>c j*b.L j k:=by
  intro q
  induction q with
  |zero=>exact λ_=>⟨1,by decide,λ_=>0,λk=>by rw[sm,iT λj _=>UT _];rfl⟩
  |succ q ih =>
   intro hq;obtain⟨D,D0,c,hc⟩:=ih ∅;obtain⟨E,E0,d,hd⟩:=F.span q ∅;refine⟨D*E,Wn D0 E0,λj=>E*c j+D*y q*d j,λk=>?_⟩;rw[sm,UY,Uc D E,TB E D,hc k];have e:E*D*(y q*f.L q k)=D*y q*(E*f.L q k):=by rw[Uc E D,TB,TB,TX E]
   rw[e,hd k,<- bJ,<- bJ,<- hZ];refine aQ λj _=>?_
   rw[Y5,TB E,TB (D*y q)]
 obtain⟨D,D0,c,hc⟩:=all m (SR _)
 have cz:∀j,j<m->j≠i->c j=0:=by
  intro j hj ne
  have:=hc (b.h j)
  rw[z j hj ne,T_,d6 hj λl hl nl=>by rw[F.ok.oth l j hl hj nl,T_]] at this;have o:=F.ok.own j hj;rcases Ub.mp this.symm with y|y
  .exact y
  .lia
 have at_:∀k,D*sm m (λl=>y l*f.L l k)=c i*b.L i k:=λk=>by
  rw[hc k,d6 hi λj hj ne=>by rw[cz j hj ne,UT]]
 refine Uo (a:=D) ∅ ?_;rw[TX,at_ k,<- TB D,at_ (b.h i),TX,<- TB (c i)]
def Nh{n C:Nat}{f:Nat->Int}(h:∀k,k<n->(f k).natAbs<=C):(sm n f).natAbs<=n*C:=by
 induction n with
 |zero=>rw[sm];exact T1 _
 |succ n ih =>
  rw[sm,Nat.succ_mul];have a:=ih λk hk=>h k ∅
  have c:=h n ∅
  have:=Int.natAbs_add_le (sm n f) (f n)
  lia
def JD{x:Int}{B:Nat}(h : -(B:Int)<=x/\x<=B):x.natAbs<=B:=by lia
def DY{W:Nat}{r s:Nat->Int}{a q:Int}(a0:0<a)(q0:q≠0)(e:∀k,a*s k=q*r k)(pr:∀d:Int,(∀k,k<=W->d∣r k)->d∣1)(k:Nat):(r k).natAbs<=(s k).natAbs:=by
 have A0:0<a.natAbs:=by lia
 have Q0:0<q.natAbs:=by lia
 have en:∀k,a.natAbs*(s k).natAbs=q.natAbs*(r k).natAbs:=λk=>by rw[<- UM,e k,UM]
 have g0:0<Zco a.natAbs q.natAbs:=Nat.gcd_pos_of_pos_left _ A0;obtain⟨A1,hA⟩:=Nat.gcd_dvd_left a.natAbs q.natAbs;obtain⟨Q1,hQ⟩:=Nat.gcd_dvd_right a.natAbs q.natAbs
 have co:ZbS A1 Q1:=by
  have:=Nat.coprime_div_gcd_div_gcd g0
  rw[show a.natAbs / Zco a.natAbs q.natAbs=A1 from YN g0 hA,show q.natAbs / Zco a.natAbs q.natAbs=Q1 from YN g0 hQ] at this;exact this
 have e1:∀k,A1*(s k).natAbs=Q1*(r k).natAbs:=λk=>by
  refine Nat.eq_of_mul_eq_mul_left g0 ?_;rw[<- Zf,<- Zf,<- hA,<- hQ];exact en k
 have one:A1=1:=by
  have:=pr (A1:Int) λk _=>by
   rw[Za4];exact co.dvd_of_dvd_mul_left ⟨_,(e1 k).symm⟩
  have:A1∣1:=by
   rw[Za4] at this;exact this
  exact Nat.dvd_one.mp this
 have Qp:0<Q1:=by
  rcases YM Q1 with z|z
  .rw[z,Nat.mul_zero] at hQ;lia
  .exact z
 have:=e1 k
 rw[one,Nat.one_mul] at this;rw[this];exact XU _ Qp
abbrev skip(i j:Nat):Nat:=if j<i then j else j+1
def From.small{q M:Nat}(F:From (q+1) W n f b)(u:∀l,l<q+1->∀k,k<q+1->f.L l (n+k)=if l=k then 1 else 0)(m1:1<=M)(hM:∀l,l<q+1->∀k,(f.L l k).natAbs<=M){i:Nat}(hi:i<q+1)(k:Nat) :
  (b.L i k).natAbs<=(q+1)*((2*((q+1)*M)) ^ q*M):=by
 obtain⟨y,⟨j,hj,nz⟩,yb,ye⟩:=Jq (k:=q) (M:=M) (A:=λj l=>f.L l (b.h (skip i j))) m1 λj hj l hl=>by have:=hM l hl (b.h (skip i j));lia
 have z:∀j,j<q+1->j≠i->sm (q+1) (λl=>y l*f.L l (b.h j))=0:=by
  intro j hj ne;by_cases lt:j<i
  .have:=ye j ∅
   rw[show skip i j=j from if_pos lt] at this;rw[<- this];exact aQ λl _=>Uc ..
  .have:=ye (j-1) ∅
   rw[show skip i (j-1)=j by unfold skip;rw[if_neg ∅];lia] at this;rw[<- this];exact aQ λl _=>Uc ..
 have un:∀l,l<q+1->sm (q+1) (λl'=>y l'*f.L l' (n+l))=y l:=λl hl=>by
  rw[d6 hl λl' hl' ne=>by rw[u l' hl' l hl,if_neg ne,T_],u l hl l hl,if_pos rfl,ZbL]
 have ln:=F.line hi z;have o:=F.ok.own i hi
 have q0:sm (q+1) (λl=>y l*f.L l (b.h i))≠0:=by
  intro e
  have:=ln (n+j)
  rw[e,UT,un j hj] at this;rcases Ub.mp this with x|x
  .lia
  .exact nz x
 refine TQ (DY (W:=W) (r:=b.L i) o q0 ln (F.prim i hi) k) ?_;refine Nh λl hl=>?_
 rw[UM];exact YO (JD (yb l)) (hM l hl k)
def From.told{M:Nat}(F:From m W n f b)(m1:1<=M)(hM:∀l,l<m->∀k,(f.L l k).natAbs<=M) :
  ∃(z:Nat->Int) (D:Int),D≠0/\(∀k,(z k).natAbs<=(2*((W+1)*M)) ^ W)/\(∀i,i<m->b.L i (b.h i)*z (b.h i)=D*b.L i W)/\∀k,k<W->(∀i,i<m->b.h i≠k)->z k=0:=by
 have key:∃A:Nat->Nat->Int,(∀k,k<W->∀c,-(M:Int)<=A k c/\A k c<=M)/\(∀i,i<m->∀c,A (b.h i) c=if c=W then-f.L i W else f.L i c)/\∀k,k<W->(∀i,i<m->b.h i≠k)->∀c,A k c=if c=k then 1 else 0:=by
  have inj:∀i j,i<m->j<m->b.h i=b.h j->i=j:=by
   intro i j hi hj e;by_cases z:i=j
   .exact z
   .have:=F.ok.oth i j hi hj z
    rw[<- e] at this
    have:=F.ok.own i hi
    lia
  refine⟨λk c=>if h:∃i,i<m/\b.h i=k then (if c=W then-f.L (Xn h) W else f.L (Xn h) c) else if c=k then 1 else 0,λk _ c=>?_,λi hi c=>?_,λk _ no c=>?_⟩
  .show _<=(if h:∃i,i<m/\b.h i=k then _ else _)/\(if h:∃i,i<m/\b.h i=k then _ else _)<=_;by_cases h:∃i,i<m/\b.h i=k
   .rw[dif_pos h];have h1:=hM _ (Wa h).1 W;have h2:=hM _ (Wa h).1 c;split <;> lia
   .rw[dif_neg h];split <;> lia
  .have h:∃j,j<m/\b.h j=b.h i:=⟨i,hi,rfl⟩
   show(if h:∃j,j<m/\b.h j=b.h i then _ else _)=_;rw[dif_pos h];have e:Xn h=i:=inj _ _ (Wa h).1 hi (Wa h).2;rw[e]
  .show(if h:∃j,j<m/\b.h j=k then _ else _)=_;rw[dif_neg (by rintro ⟨i,hi,e⟩;exact no i hi e)]
 obtain⟨A,a1,a2,a3⟩:=key;obtain⟨z,⟨j,hj,nz⟩,zb,ze⟩:=Jq (k:=W) (M:=M) (A:=A) m1 λk hk c _=>a1 k hk c
 have sf:Bv m W f z (z W):=λi hi=>by
  have:=ze (b.h i) (F.ok.lt i hi)
  rw[sm,a2 i hi W,if_pos rfl,aQ (g:=λc=>f.L i c*z c) λc hc=>by rw[a2 i hi c,if_neg ∅],VB] at this;show sm W (λc=>f.L i c*z c)=z W*f.L i W;rw[Uc];lia
 have zk:∀k,k<W->(∀i,i<m->b.h i≠k)->z k=0:=λk hk no=>by
  have:=ze k hk
  rw[d6 (j:=k) ∅ λc _ ne=>by rw[a3 k hk no c,if_neg ne,UT],a3 k hk no k,if_pos rfl,Zan] at this;exact this
 have own:∀i,i<m->b.L i (b.h i)*z (b.h i)=z W*b.L i W:=λi hi=>by
  have e1:ev W (b.L i) z=z W*b.L i W:=by
   unfold ev
   have:∀w,w<=W->sm w (λk=>b.L i k*z k)=sm m λl=>b.L i (n+l)*sm w λk=>f.L l k*z k:=by
    intro w
    induction w with
    |zero=>exact λ_=>by rw[sm,iT λl _=>by rw[sm,T_]]
    |succ w ih =>
     intro hw;rw[sm,ih ∅,F.lin i hi w,Uc (sm m _),<- bJ,<- hZ];refine aQ λl _=>?_
     rw[sm,UY,TX (z w),Uc (z w)]
   rw[this W (SR _),F.lin i hi W,<- bJ];refine aQ λl hl=>?_
   have:=sf l hl
   unfold ev at this;rw[this,TX]
  rw[<- e1];unfold ev;rw[d6 (F.ok.lt i hi) λk hk ne=>?_];by_cases e:∃j,j<m/\b.h j=k
  .obtain⟨j,hj,rfl⟩:=e;rw[F.ok.oth i j hi hj (λz=>ne (by rw[z])),UT]
  .rw[zk k hk λj hj z=>e ⟨j,hj,z⟩,T_]
 refine⟨z,z W,λe=>nz ?_,λk=>JD (zb k),own,zk⟩;by_cases ew:j=W
 .rw[ew];exact e
 .by_cases h:∃i,i<m/\b.h i=j
  .obtain⟨i,hi,rfl⟩:=h
   have:=own i hi
   rw[e,UT] at this;have o:=F.ok.own i hi;rcases Ub.mp this with x|x
   .lia
   .exact x
  .exact zk j ∅ λi hi z=>h ⟨i,hi,z⟩
end Bo
namespace L2
open PySem
def Bh{K:Fg}{Q:VK}{H:Hp}{xs:List V}(h:∀D,H D=none->∃Pv:Nat->Hp->Prop,Pv 0 (upd H D (.lst []))/\(∀i H2,i<=Wi xs->Pv i H2->SqL K H2 a xs) /\
  (∀i x H2 T,xs[i]?=some x->Pv i H2->H2 T=none->Bn g n te σ (.ref T) (upd H2 T (.tup [.int i,x])) D (Wi xs) i Pv)/\∀H2,Pv (Wi xs) H2->Q (.ref D) H2):rP (Qf K a) n g te σ Q H:=by
 intro D nD;obtain⟨Pv,h0,hl,hs,hd⟩:=h D nD;refine⟨λi m H=>m=Wi xs-i/\i<=(Wi xs)/\Pv i H,⟨_,rfl,T1 _,h0⟩,?_⟩;rintro i m H ⟨rfl,hi,p⟩;have q:=hl i H hi p;by_cases vt:i<Wi xs
 .refine .inr ⟨⟨xs,q,vt⟩,λv H' y us hu=>?_⟩;obtain⟨T,x,nT,rfl,rfl,z⟩:=y;exact hs i x H T (z xs q) p nT us hu
 .have e:i=Wi xs:=by lia
  subst e;exact .inl ⟨⟨xs,q,SR _⟩,hd H p⟩
def xw{K:Fg}{H:Hp}{D:ca}{k1 k2:Kn}{xs ys:List V}{g:TG}{tb:TS}{n:Nat}(e1:Wi xs=n)(e2:Wi ys=n)(Pv:Nat->St->Hp->Prop)(h0:Pv 0 σ H)(hl:∀i σ H,i<=n->Pv i σ H->k1.sq K H a xs/\k2.sq K H b ys)
  (hs:∀i x y σ H T,xs[i]?=some x->ys[i]?=some y->Pv i σ H->H T=none->g (.ref T) σ (upd H T (.tup [x,y])) λσ2 H2=>tb {D with nx:=Pv (i+1),ct:=Pv (i+1),bk:=D.nx} σ2 H2) (hd:∀σ H,Pv n σ H->D.nx σ H):Bw (J5 K k1 k2 a b) g tb D σ H:=by
 refine⟨λi m σ H=>m=n-i/\i<=n/\Pv i σ H,⟨_,rfl,T1 _,h0⟩,?_⟩;rintro i m σ H ⟨rfl,hi,p⟩;obtain⟨q1,q2⟩:=hl i σ H hi p;obtain⟨g1,g2,g3⟩:=Bz (i:=i) q1 q2 (Zbe e1.symm) (Zbe e2.symm) (.inl e1);by_cases vt:i<n
 .refine .inr ⟨g1 vt,Pv (i+1),λσ' H' p'=>⟨n-(i+1),∅,rfl,vt,p'⟩,λv H' y=>?_⟩;obtain⟨T,x,z,nT,rfl,rfl,z1,z2⟩:=g3 y;exact hs i x z σ H T z1 z2 p nT
 .obtain rfl:i=n:=by lia
  exact .inl ⟨g2 (SR _),hd σ H p⟩
end L2
namespace Br
open PySem L2 Fr G1 Sm Vs G2 Rk Sz Sf Rw
open PySem.W (Dat kqdOk)
abbrev dY(r:List Int):List Int:=r.map λx=>-x
def dX(r:List Int):(dY r).length=Wi r:=SJ _
abbrev LnAt(H:Hp)(a:Addr)(B:List (List Int)):Prop:=∃xs,H a=some (.lst xs)/\xs.length=B.length/\∀(i:Nat) (x:V) (r:List Int),xs[i]?=some x->B[i]?=some r->∃c,x=.ref c/\H c=some (.lst (r.map V.int))
def LnAt.same(h:LnAt H a B)(e:Same H H'):LnAt H' a B:=by
 obtain⟨xs,h1,h2,h3⟩:=h;refine⟨xs,e _ _ h1,h2,λi x r q1 q2=>?_⟩;obtain⟨c,rfl,z⟩:=h3 i x r q1 q2;exact⟨c,rfl,e _ _ z⟩
def LnAt.get{H:Hp}{a:Addr}{B:List (List Int)}{xs:List V}(h2:Wi xs=Wi B)(h3:∀(i:Nat) (x:V) (r:List Int),xs[i]?=some x->B[i]?=some r->∃c,x=.ref c/\H c=some (.lst (r.map V.int))){i:Nat}{r:List Int}(e:B[i]?=some r):∃c,xs[i]?=⇑c/\H c=some (.lst (r.map V.int)):=by
 have li:=(SL.mp e).1;obtain⟨c,z1,z2⟩:=h3 i xs[i] r (SN ∅) e;exact⟨c,by rw[SN ∅,z1],z2⟩
abbrev GQ(K:Fg):Sp:=λvs H Q _=>∃(x:V) (r:List Int),vs=[x]/\RowV H x r/\r.length<=100/\∀(p:Addr) (H':Hp),AccZ K H p H' ((dY r).map TW)->Q (.ref p) H'
abbrev Kh(K:Fg):TS:=(aC (bT (Fb K (aa 0)) (Cz (rU λi=>.int (-i)) (aa 0))))
def Nr{K:Fg}{N:List Str}(hN:Wi N=1)(h:GQ K vs H Q E):Kh K (ends Q) (L2.start N vs) H:=by
 obtain⟨x,r,rfl,rv,hl,k⟩:=h;obtain⟨c,rfl,hc⟩:=rv;rw[L2.aK hN];walk_at "t";unfold Kh;cbv;refine rm (xs:=r.map V.int) (hc.imp SqL.of SqT.of) λD nD=>⟨λj H2=>AccZ K H D H2 ((dY (r.take j)).map TW),by simpa[dY] using AccZ.start (Same.refl _) nD,λ_ _ A=>A.same,?_,?_⟩
 .intro j x H2 hx A;have lj:=(SL.mp hx).1;rw[SO] at hx;obtain⟨m,hm,rfl⟩:=SU.mp hx;cbv;refine aI lj ?_;refine A.bA (.int (-m)) (am (by rw[SJ,dX,Ta];lia)) λH3 A3=>?_
  show AccZ K H D H3 ((dY (r.take (j+1))).map TW);rw[Tc,hm];unfold dY at A3 ⊢;rw[SV,SV];exact A3
 .intro H2 A;rw[SJ,VF] at A;exact k D H2 A
abbrev yf(K:Fg):Sp:=λvs H Q _=>∃(a:Addr) (R:List (List Int)),vs=[.ref a]/\c4 H a R/\R.length<=100/\(∀r∈R,Wi r<=100)/\∀(p:Addr) (H':Hp),Acc K H p H' ((R.map dY).map dL)->Q (.ref p) H'
abbrev BY(K:Fg):TS:=(aC (bT (dB K (aa 0)) (aw (GQ K) [] E0 (ac (aa 0) ae))))
def KS{K:Fg}{N:List Str}(hN:Wi N=1)(h:yf K vs H Q E):BY K (ends Q) (L2.start N vs) H:=by
 obtain⟨a,R,rfl,⟨xs,ha,lx,rw_⟩,hl,hr,k⟩:=h;rw[L2.aK hN];walk_at "t";unfold BY;cbv;refine xr (SqL.of ha) ?_;refine dy (xs:=xs) λD nD=>⟨λj H2=>Acc K H D H2 (((R.take j).map dY).map dL),by simpa using Acc.start nD,λj H2 _ A=>SqL.of (A.same _ _ ha),?_,?_⟩
 .intro j x H2 hx A;have lj:=(SL.mp hx).1;have er:R[j]?=some R[j]:=SN ∅;have rv:=rw_ j x _ hx er;have ll:=hr _ (SM er);generalize R[j]=r at er rv ll;cbv;refine⟨x,r,rfl,rv.same A.same,ll,λq H3 C=>?_⟩;refine aI lj ?_;refine A.bA C.same (d:=dL (dY r)) C.ref (am (by rw[SJ,SJ,Ta];lia)) λH4 A4=>?_
  show Acc K H D H4 (((R.take (j+1)).map dY).map dL);rw[Tc,er,SV,SV];exact A4
 .intro H2 A;rw[lx,VF] at A;exact k D H2 A
abbrev we(K:Fg):Sp:=λvs H Q _=>∃(a:Addr) (r:List Int) (w:Nat),vs=[.ref a]/\H a=some (.lst (r.map V.int))/\r.length=w+1/\w<=100/\∀H',Same H H'->((∀k,k<w->0<=pt r k)->Q .non H')/\∀p,p<w->pt r p<0->(∀k,k<p->0<=pt r k)->Q (.int (p:Int)) H'
def Mz(xs:List V){w:Nat}(h:Wi xs=w+1):eQ xs none (some (-1))=xs.take w:=by
 unfold eQ;have e1:HT.sIx (Wi xs) 0 none=0:=rfl
 have e2:HT.sIx (Wi xs) (Wi xs) (some (-1))=w:=by
  show(if (-1:Int)<0 then ((-1:Int)+(Wi xs:Nat)).toNat else min (-1:Int).toNat (Wi xs))=_;rw[if_pos (by decide)];lia
 rw[e1,e2,YH,Zbt]
abbrev vP(K:Fg):TS:=(ak (bS (ur K (ac (CA (tm K) (aa 0) fz (g6 (Cz (rU λi=>.int (-i)) (tC (.int 1))))) ae)) (bZ K 2 (aR (aj 1) (aR (aj 2) b4)))
 (aM (aO (ao yw (aa 2) (tC (.int 0))))
 (aC (aa 1))
 aP))
 (aC (tC .non)))
def Hw{K:Fg}{N:List Str}(hN:Wi N=3)(h:we K vs H Q E):vP K (ends Q) (L2.start N vs) H:=by
 obtain⟨a,r,w,rfl,ha,hl,hw,k⟩:=h;rw[L2.aK hN];walk_at "t";unfold vP;cbv;refine⟨a,_,rfl,SqL.of ha,λl nl=>?_⟩;rw[Mz _ (w:=w) (by rw[SJ];exact hl)];have S1:=af nl (.lst ((r.map V.int).take w));have hl1:upd H l (.lst ((r.map V.int).take w)) l=some (.lst ((r.map V.int).take w)):=ag;generalize upd H l (.lst ((r.map V.int).take w))=H1 at S1 hl1 ⊢;have lw:((r.map V.int).take w).length=w:=by rw[Ta,SJ];lia
 cbv;refine⟨l,_,rfl,SqL.of hl1,?_⟩;refine iz (xs:=(r.map V.int).take w) (λi σ H2=>∃u1 u2:Option V,σ=[⇑a,u1,u2]/\Same H1 H2/\∀k,k<i->0<=pt r k) ⟨none,none,rfl,Same.refl _,λk hk=>absurd hk (Vn _)⟩ (by rintro i σ H2 _ ⟨_,_,_,S,_⟩;exact SqL.of (S _ _ hl1)) ?_ ?_
 .rintro i x σ H2 T hx ⟨u1,u2,rfl,S2,lo⟩ nT;have li:i<w:=by rw[<- lw];exact(SL.mp hx).1
  have ex:x=.int (pt r i):=by
   rw[VH li,SO,SN ∅] at hx;cases hx;unfold pt;rw[SK,SN ∅];rfl
  subst ex;have S3:=S2.trans (af nT (.tup [.int (i:Int),.int (pt r i)]));have hT:upd H2 T (.tup [.int (i:Int),.int (pt r i)]) T=some (.tup [.int (i:Int),.int (pt r i)]):=ag;generalize upd H2 T (.tup [.int (i:Int),.int (pt r i)])=H3 at S3 hT ⊢;refine bv (SqT.of hT) rfl ?_;cbv;refine aV (λc=>?_) (λc=>?_)
  .cbv;exact(k H3 (S1.trans S3)).2 i li (by simpa using c) lo
  .cbv;refine⟨_,_,rfl,S3,λk hk=>?_⟩;rcases Uw k i with q|q
   .exact lo k q
   .rw[show k=i by lia];simpa using c
 .rintro σ H2 ⟨u1,u2,rfl,S2,lo⟩;rw[lw] at lo;cbv;exact(k H2 (S1.trans S2)).1 lo
abbrev fo(l h:List Int)(p:Nat):List Int:=UD (λx y=>pt h p*x-pt l p*y) l h
abbrev wo(l h:List Int)(p:Nat):List Int:=(fo l h p).map λx=>x.fdiv (bq (fo l h p))
def kn{l h:List Int}(e:Wi l=Wi h):(fo l h p).length=Wi l:=by unfold fo;rw[Vz];lia
abbrev kK(K:Fg):Sp:=λvs H Q _=>∃(a b:Addr) (l h:List Int) (p:Nat),vs=[.ref a,.ref b,.int (p:Int)]/\H a=some (.lst (l.map V.int))/\H b=some (.lst (h.map V.int))/\l.length=h.length/\p<(Wi l)/\l.length<=100/\(∀c∈l,c.natAbs<2 ^ 4000)/\(∀c∈h,c.natAbs<2 ^ 4000)/\bq (fo l h p)≠0/\(bq (fo l h p)).natAbs<2 ^ 9000 /\
 ∀(q:Addr) (H':Hp),AccZ K H q H' ((wo l h p).map TW)->Q (.ref q) H'
def tw{r:List Int}{p:Nat}(h:p<Wi r):pt r p∈r:=by
 unfold pt;rw[SK,SN h];exact U9 h
def d8{r:List Int}{p:Nat}(h:p<Wi r):r[p]?=some (pt r p):=by
 unfold pt;rw[SK,SN h];rfl
def HC{r:List Int}{p:Nat}(h:p<Wi r):kh (r.map V.int) (p:Int)=↥(pt r p):=ba (by rw[SO,d8 h];rfl)
abbrev kr(K:Fg):TS:=(ak (aA (cC (iq K .L .L (ac (aa 0) (ac (aa 1) ae))) 2 (bZ K 2 (aR (aj 0) (aR (aj 1) b4))) (ao nv (ao qu (ao (cQ K) (aa 3) (aa 4)) (aa 0)) (ao qu (ao (cQ K) (aa 2) (aa 4)) (aa 1)))) (aj 3))
 (ak (aA (aw (GR K) [] E0 (ac (aa 3) ae)) (aj 4))
 (aC (bT (dB K (aa 3)) (ao jN (aa 0) (aa 5))))))
def Ax{K:Fg}{N:List Str}(hN:Wi N=5)(h:kK K vs H Q E):kr K (ends Q) (L2.start N vs) H:=by
 obtain⟨a,b,l,h,p,rfl,ha,hb,e,hp,hl,bl,bh,g0,g9,k⟩:=h;rw[L2.aK hN];walk_at "t";unfold kr;have big:(2:Nat) ^ 4000<2 ^ 20000:=U0 (by decide) (by decide);cbv;refine⟨a,b,_,_,rfl,SqL.of ha,SqL.of hb,?_⟩;have lz:min (l.map V.int).length (h.map V.int).length=l.length:=by rw[SJ,SJ];lia
 refine ga (k1:=.L) (k2:=.L) (xs:=l.map V.int) (ys:=h.map V.int) λD nD=>⟨λj H2=>AccZ K H D H2 (((fo l h p).take j).map TW),by simpa using AccZ.start (Same.refl _) nD,λj H2 _ A=>⟨SqL.of (A.same _ _ ha),SqL.of (A.same _ _ hb)⟩,?_,?_⟩
 .intro j y1 y2 H2 T e1 e2 A nT us hu
  obtain⟨u0,u1,rfl⟩:∃u w,us=[u,w]:=ex2 hu
  rw[SO] at e1 e2;obtain⟨m1,g1,rfl⟩:=SU.mp e1;obtain⟨m2,g2,rfl⟩:=SU.mp e2;have lj:=(SL.mp g1).1;have ec:(fo l h p)[j]?=some (pt h p*m1-pt l p*m2):=by unfold fo;rw[Uj,g1,g2]
  have A2:=A.on (af nT (.tup [.int m1,.int m2]));have hT:upd H2 T (.tup [.int m1,.int m2]) T=some (.tup [.int m1,.int m2]):=ag;generalize upd H2 T (.tup [.int m1,.int m2])=H3 at A2 hT ⊢;refine bv (SqT.of hT) rfl ?_;cbv;refine⟨⟨[↥m1,↥m2],rfl,rfl⟩,?_⟩;cbv;refine dm (SqL.of (A2.same _ _ hb)) (HC ∅) ?_;cbv;refine⟨pt h p,m1,rfl,rfl,⟨UC (bh _ (tw ∅)) big,UC (bl _ (SM g1)) big⟩,?_⟩;cbv;refine dm (SqL.of (A2.same _ _ ha)) (HC hp) ?_;cbv;refine⟨pt l p,m2,rfl,rfl,⟨UC (bl _ (tw hp)) big,UC (bh _ (SM g2)) big⟩,?_⟩;cbv;refine aI (by rw[lz];exact lj) ?_;refine A2.bA (.int _) (am (by rw[SJ,Ta];lia)) λH4 A4=>?_
  show AccZ K H D H4 (((fo l h p).take (j+1)).map TW);rw[Tc,ec,SV];exact A4
 intro H2 A;rw[lz,<- kn (p:=p) e,VF] at A;have lw:=kn (p:=p) e;have hD:=AccZ.ints A;unfold wo at k;generalize fo l h p=r at A lw hD g0 g9 k;cbv;refine⟨D,r,rfl,hD,λH3 S3=>?_⟩;cbv;refine xr (SqL.of (S3 _ _ hD)) ?_;have S03:=A.same.trans S3;refine dy (xs:=r.map V.int) λF nF=>⟨λj H4=>AccZ K H3 F H4 (((r.map λx=>x.fdiv (bq r)).take j).map TW),by simpa using AccZ.start (Same.refl _) nF,λj H4 _ A4=>SqL.of (A4.same _ _ (S3 _ _ hD)),?_,?_⟩
 .intro j x H4 hx A4;have lj:=(SL.mp hx).1;rw[SO] at hx;obtain⟨m,hm,rfl⟩:=SU.mp hx;have lr:j<Wi r:=(SL.mp hm).1;cbv;refine⟨m,bq r,rfl,rfl,⟨g0,g9⟩,?_⟩;refine aI lj ?_;refine A4.bA (.int _) (am (by rw[SJ,Ta];lia)) λH5 A5=>?_
  show AccZ K H3 F H5 (((r.map λx=>x.fdiv (bq r)).take (j+1)).map TW);rw[Tc,SO,hm,SV];exact A5
 .intro H4 A4;rw[SX (by rw[SJ,SJ];exact SR _)] at A4;exact k F H4 ⟨S03.trans A4.same,S03.free A4.new,A4.at_⟩
abbrev a_(r:List Int):Int:=pt r (Wi r-1)
abbrev kN(K:Fg):Sp:=λvs H Q _=>∃(a b:Addr) (B:List (List Int)) (hs:List Nat),vs=[.ref a,.ref b]/\LnAt H a B/\H b=some (.lst (hs.map λk:Nat=>.int (k:Int)))/\B.length=hs.length/\B.length<=100/\(∀r∈B,r≠[])/\hs.Nodup /\
 ∀H',Same H H'->((∀r∈B,0<=a_ r)->Q .non H')/\∀i,i<Wi B->a_ (B.getD i [])<0->(∀j,j<Wi B->a_ (B.getD j [])<0->hs.getD i 0<=hs.getD j 0)->Q (.int (i:Int)) H'
abbrev eT(B:List (List Int))(hs:List Nat)(j:Nat):List Nat:=((TC j).filter λi=>decide (a_ (B.getD i [])<0)).map λi=>hs.getD i 0
def iF{r:List Int}(h:r≠[]):kh (r.map V.int) (-1)=↥(a_ r):=by
 have p:0<Wi r:=VA.mpr h;unfold kh Bs;rw[if_neg (by decide),SJ];rw[if_pos ∅];show(r.map V.int)[(-1+(Wi r:Int)).toNat]? = _;rw[show(-1+(r.length:Int)).toNat=Wi r-1 by lia,SO,d8 ∅];rfl
abbrev vw(K:Fg):TS:=(ak (aA (fA (iq K .L .L (ac (aa 0) (ac (aa 1) ae))) 2 (bZ K 2 (aR (aj 0) (aR (aj 1) b4))) (aO (ao yw (ao (cQ K) (aa 0) (Cz (rU λi=>.int (-i)) (tC (.int 1)))) (tC (.int 0)))) (aa 1)) (aj 2))
 (ak (aM (aO (ao fu (aX (bf K) (ac (aa 2) ae)) (tC (.int 0))))
 (aC (tC .non))
 aP)
 (aC (eJ K "list" (DT K) (aa 1) (ac (aX (NF K) (ac (aa 2) ae)) ae)))))
def Hi{K:Fg}{N:List Str}(hN:Wi N=3)(h:kN K vs H Q E):vw K (ends Q) (L2.start N vs) H:=by
 obtain⟨a,b,B,hs,rfl,⟨xs,ha,lx,hx⟩,hb,lb,l100,ne,nd,k⟩:=h;rw[L2.aK hN];walk_at "t";unfold vw;cbv;refine⟨a,b,_,_,rfl,SqL.of ha,SqL.of hb,?_⟩;have lz:min (Wi xs) (hs.map λk:Nat=>V.int (k:Int)).length=B.length:=by rw[SJ];lia
 refine mD (k1:=.L) (k2:=.L) (xs:=xs) (ys:=hs.map λk:Nat=>V.int (k:Int)) λD nD=>⟨λj H2=>AccZ K H D H2 (((eT B hs j).map λk:Nat=>(k:Int)).map TW),by simpa[eT] using AccZ.start (Same.refl _) nD,λj H2 _ A=>⟨SqL.of (A.same _ _ ha),SqL.of (A.same _ _ hb)⟩,?_,?_⟩
 .intro j x y H2 T e1 e2 A nT us hu
  obtain⟨u0,u1,rfl⟩:∃u w,us=[u,w]:=ex2 hu
  have lj:j<B.length:=by rw[<- lx];exact(SL.mp e1).1
  have eB:B[j]?=some (B.getD j []):=by rw[SK,SN lj];rfl
  have nr:=ne _ (SM eB);have eh:hs[j]?=some (hs.getD j 0):=by rw[SK,SN ∅];rfl
  obtain⟨c,rfl,hc⟩:=hx j x _ e1 eB;rw[SO,eh] at e2;cases e2;have er:eT B hs (j+1)=eT B hs j++([j].filter λi=>decide (a_ (B.getD i [])<0)).map λi=>hs.getD i 0:=by unfold eT;rw[WW,VG,SV]
  have ls:(eT B hs j).length<=100:=by unfold eT;rw[SJ];exact TQ (UH _ _) (by rw[TD];lia)
  generalize B.getD j []=r at eB nr hc;generalize hh:hs.getD j 0=hj at eh;have A2:=A.on (af nT (.tup [.ref c,.int (hj:Int)]));have hT:upd H2 T (.tup [.ref c,.int (hj:Int)]) T=some (.tup [.ref c,.int (hj:Int)]):=ag;generalize upd H2 T (.tup [.ref c,.int (hj:Int)])=H3 at A2 hT ⊢;refine bv (SqT.of hT) rfl ?_;cbv;refine⟨⟨[⇑c,↥(hj:Int)],rfl,rfl⟩,?_⟩;cbv;refine dm (SqL.of (A2.same _ _ hc)) (iF nr) ?_;cbv;have eB2:B.getD j []=r:=by rw[SK,eB];rfl
  refine aV (λq=>?_) (λq=>?_)
  .have q':a_ r<0:=by simpa using q
   cbv;refine aI (by rw[lz];exact lj) ?_;refine A2.bA (.int (hj:Int)) (am (by rw[SJ,SJ];lia)) λH4 A4=>?_
   show AccZ K H D H4 (((eT B hs (j+1)).map λk:Nat=>(k:Int)).map TW);rw[er,VT (by rw[eB2];simpa using q'),SV,SV,TN,hh];exact A4
  .have q' : ¬ a_ r<0:=by simpa using q
   refine f7 (by rw[lz];exact lj) ?_;show AccZ K H D H3 (((eT B hs (j+1)).map λk:Nat=>(k:Int)).map TW);rw[er,VU (by rw[eB2];simpa using q')];simpa using A2
 intro H2 A;rw[lz] at A;have hD:=AccZ.ints A
 have mem:∀m,m∈eT B hs B.length↔∃i,i<B.length/\a_ (B.getD i [])<0/\hs.getD i 0=m:=λm=>by
  unfold eT;rw[Te];constructor
  .rintro⟨i,hi,e⟩;rw[Ui,Uu,decide_eq_true_eq] at hi;exact⟨i,hi.1,hi.2,e⟩
  .rintro⟨i,h1,h2,e⟩;exact⟨i,Ui.mpr ⟨Uu.mpr h1,by simpa using h2⟩,e⟩
 generalize eT B hs B.length=S at A hD mem;cbv;refine bP (SqL.of hD) ?_;rw[SJ,SJ];cbv;refine aV (λq=>?_) (λq=>?_)
 .have eS:S=[]:=Uf.mp (by have:((S.length:Nat):Int)=0:=(by simpa using q);lia);cbv;refine(k H2 A.same).1 λr hr=>?_
  obtain⟨i,hi⟩:=T2 hr;rcases Yz (a_ r) 0 with z|z
  .have:hs.getD i 0∈S:=(mem _).mpr ⟨i,(SL.mp hi).1,by rw[SK,hi];exact z,rfl⟩
   rw[eS] at this;cases this
  .exact z
 .have nS:S≠[]:=λz=>q (by rw[z];simp)
  cbv;refine⟨ER (A.same _ _ hb),?_⟩;cbv;refine⟨D,S.map λk:Nat=>(k:Int),rfl,SqL.of hD,by simpa using nS,λm hm lo=>?_⟩;obtain⟨v,hv,rfl⟩:=Te.mp hm;obtain⟨i,i1,i2,i3⟩:=(mem v).mp hv;have eh:hs[i]?=some v:=by rw[<- i3,SK,SN ∅];rfl
  have hb2:H2 b=some (.lst ((hs.map λk:Nat=>(k:Int)).map V.int)):=by
   rw[UV];exact A.same _ _ hb
  have rb:Rp K (λ_=>True) H2 (.ref b) (dL (hs.map λk:Nat=>(k:Int))):=rg trivial hb2;have rv:Rp K (λ_=>True) H2 (.int (v:Int)) (.int (v:Int)):=.int _;cbv;refine L9 (d:=.int (v:Int)) (j:=i) rv.rep rb.rep (λe he=>?_) rfl ?_ (λm hm z=>?_) ?_ ?_
  .obtain⟨n,_,rfl⟩:=Te.mp he;rfl
  .rw[SO,SO,eh];rfl
  .rw[SO,SO] at z;cases em:hs[m]? with
   |none=>rw[em] at z;cases z
   |some u =>
    rw[em] at z
    have eu:u=v:=by
     have:TW (u:Int)=TW (v:Int):=TH z
     injection this with this
     lia
    have lm:=(SL.mp em)
    have li:=(SL.mp eh)
    have:=(Zj (h₀:=lm.1) (h₁:=li.1) nd).mp (by rw[lm.2,li.2,eu])
    lia
  .rw[SJ,SJ];lia
  .refine(k H2 A.same).2 i i1 i2 λj j1 j2=>?_
   have:hs.getD j 0∈S:=(mem _).mpr ⟨j,j1,j2,rfl⟩
   have:=lo _ (Te.mpr ⟨_,this,rfl⟩)
   lia
abbrev dW(B:List (List Int))(i p:Nat):List (List Int):=(TC (Wi B)).map λj=>if j=i then dY (B.getD i []) else wo (B.getD j []) (dY (B.getD i [])) p
def j9(B:List (List Int))(i p:Nat):(dW B i p).length=Wi B:=by unfold dW;rw[SJ,TD]
def wP{B:List (List Int)}{j:Nat}(h:j<Wi B):(dW B i p)[j]?=some (if j=i then dY (B.getD i []) else wo (B.getD j []) (dY (B.getD i [])) p):=by unfold dW;rw[SO,TR h];rfl
abbrev pW(K:Fg):Sp:=λvs H Q _=>∃(a:Addr) (B:List (List Int)) (i p w:Nat),vs=[.ref a,.int (i:Int),.int (p:Int)]/\LnAt H a B/\i<(Wi B)/\p<w/\w<=100/\Wide w B/\B.length<=100/\(∀r∈B,∀c∈r,c.natAbs<2 ^ 4000) /\
 (∀j,j<Wi B->j≠i->bq (fo (B.getD j []) (dY (B.getD i [])) p)≠0/\(bq (fo (B.getD j []) (dY (B.getD i [])) p)).natAbs<2 ^ 9000)/\∀(q:Addr) (H':Hp),Acc K H q H' ((dW B i p).map dL)->Q (.ref q) H'
def bY{B:List (List Int)}{j:Nat}(h:j<Wi B):B[j]?=some (B.getD j []):=by rw[SK,SN h];rfl
abbrev pk(K:Fg):TS:=(ak (aA (aw (GQ K) [] E0 (ac (ao (cQ K) (aa 0) (aa 1)) ae)) (aj 3))
 (aC (cC (ur K (ac (aa 0) ae)) 2 (bZ K 2 (aR (aj 0) (aR (aj 1) b4))) (M_ (aO (ao fu (aa 0) (aa 3))) (aa 5) (aw (kK K) [] E0 (ac (aa 1) (ac (aa 5) (ac (aa 4) ae))))))))
def DC{K:Fg}{N:List Str}(hN:Wi N=4)(h:pW K vs H Q E):pk K (ends Q) (L2.start N vs) H:=by
 obtain⟨a,B,i,p,w,rfl,⟨xs,ha,lx,hx⟩,hi,hp,hw,wd,l100,bd,gc,k⟩:=h;rw[L2.aK hN];walk_at "t";unfold pk;obtain⟨ci,eci,hci⟩:=LnAt.get (H:=H) (a:=a) lx hx (bY hi);have wi:=wd _ (SM (bY hi));have bi:=bd _ (SM (bY hi));cbv;refine dm (SqL.of ha) (ba eci) ?_;cbv;refine⟨.ref ci,B.getD i [],rfl,⟨ci,rfl,.inl hci⟩,∅,λhd H1 A1=>?_⟩;have h1:=AccZ.ints A1
 have bn:∀c∈dY (B.getD i []),c.natAbs<2 ^ 4000:=λc hc=>by
  obtain⟨x,hx,rfl⟩:=Te.mp hc;rw[Zap];exact bi x hx
 have ln:(dY (B.getD i [])).length=w:=by rw[dX];exact wi
 have gc':=gc;have hpass:∀j,j<B.length->(dW B i p)[j]?=some (if j=i then dY (B.getD i []) else wo (B.getD j []) (dY (B.getD i [])) p):=λj hj=>wP hj
 generalize dY (B.getD i [])=hr at h1 bn ln gc' hpass A1;cbv;refine⟨a,_,rfl,SqL.of (A1.same _ _ ha),?_⟩;refine Bh (xs:=xs) λD nD=>⟨λj H2=>Acc K H D H2 (((dW B i p).take j).map dL)/\Same H1 H2,⟨by simpa using⟨A1.same.trans (af nD _),A1.same.free nD,[],ag,.nil⟩,af nD _⟩,λj H2 _ A=>SqL.of (A.2 _ _ (A1.same _ _ ha)),?_,?_⟩
 .rintro j x H2 T hx2 ⟨A,S2⟩ nT us hu
  obtain⟨u0,u1,rfl⟩:∃u w,us=[u,w]:=ex2 hu
  have lj:j<B.length:=by rw[<- lx];exact(SL.mp hx2).1
  obtain⟨c,rfl,hc⟩:=hx j x _ hx2 (bY lj);have wj:=wd _ (SM (bY lj));have bj:=bd _ (SM (bY lj));have pj:=hpass j lj
  have ne:D≠T:=by
   obtain⟨ys,hy,_⟩:=A.at_;exact ar hy nT
  have A2:=A.on (af nT (.tup [.int (j:Int),.ref c]));have S3:=S2.trans (af nT (.tup [.int (j:Int),.ref c]));have hT:upd H2 T (.tup [.int (j:Int),.ref c]) T=some (.tup [.int (j:Int),.ref c]):=ag;generalize upd H2 T (.tup [.int (j:Int),.ref c])=H3 at A2 S3 hT ⊢;refine bv (SqT.of hT) rfl ?_;cbv;refine⟨⟨[↥(j:Int),⇑c],rfl,rfl⟩,?_⟩;cbv
  have fin:∀(q:Addr) (z:List Int) (H4:Hp),Same H3 H4->H4 q=some (.lst (z.map V.int))->H q=none->q≠D->(dW B i p)[j]?=some z->mK D (Wi xs) j (λj H2=>Acc K H D H2 (((dW B i p).take j).map dL)/\Same H1 H2) (.ref q) H4:=by
   intro q z H4 S4 hq nq nqD ez;obtain⟨ys,hy,ly,A5⟩:=(A2.on S4).push (d:=dL z) (S:=λa=>H a=none/\a≠D) (rg ⟨nq,nqD⟩ hq) λ_ z=>z
   refine aI ∅ ⟨ys,hy,am (by rw[ly,SJ,Ta,j9];lia),?_,?_⟩
   .rw[Tc,ez,SV];exact A5
   .refine λb o e=>?_
    have nb:b≠D:=ar e nD;rw[aJ nb];exact S4 _ _ (S3 _ _ e)
  refine aV (λq=>?_) (λq=>?_)
  .have q':j=i:=by
    have:(j:Int)=(i:Int):=by simpa using q
    lia
   cbv;exact fin hd hr H3 (Same.refl _) (S3 _ _ h1) A1.new (ar h1 nD) (by rw[pj,if_pos q'])
  .have q':j≠i:=λz=>q (by simp[z])
   obtain⟨g1,g2⟩:=gc' j lj q';cbv;refine⟨c,hd,B.getD j [],hr,p,rfl,S3 _ _ (A1.same _ _ hc),S3 _ _ h1,∅,∅,∅,bj,bn,g1,g2,λr H4 C=>?_⟩
   exact fin r _ H4 C.same (AccZ.ints C) (A1.same.free (S3.free C.new)) (λz=>by
    obtain⟨ys,hy,_⟩:=A2.at_
    exact ar hy C.new z.symm) (by rw[pj,if_neg q'])
 .rintro H2 ⟨A,_⟩;rw[lx,<- j9 B i p,VF] at A;exact k D H2 A
abbrev mo(R:List (List Int))(es:List Int):List (List Int):=(TC (Wi R)).map λi=>R.getD i []++a8 (Wi R) i++[pt es i]
def mn(R:List (List Int))(es:List Int):(mo R es).length=Wi R:=by unfold mo;rw[SJ,TD]
def zc{R:List (List Int)}{i:Nat}(h:i<Wi R):(mo R es)[i]?=some (R.getD i []++a8 (Wi R) i++[pt es i]):=by unfold mo;rw[SO,TR h];rfl
abbrev qb(K:Fg):Sp:=λvs H Q _=>∃(a e:Addr) (R:List (List Int)) (es:List Int),vs=[.ref a,.ref e]/\c4 H a R/\H e=some (.lst (es.map V.int))/\es.length=R.length/\R.length<=50/\(∀r∈R,Wi r<=50)/\∀(p:Addr) (H':Hp),Acc K H p H' ((mo R es).map dL)->Q (.ref p) H'
nonrec def Ab(K:Fg):TS:=(aC (cC (Fa K (ac (aa 0) (ac (aa 2) (ac (aa 1) ae)))) 3 (bZ K 3 (aR (aj 0) (aR (aj 1) (aR (aj 2) b4)))) (ao wI (ao wI (aX (fG K) (ac (aa 0) ae)) (aa 1)) (cS (ac (aa 2) ae)))))
abbrev pL(K:Fg):TS:=(ak (aA (aw (gF K) [] E0 (ac (aX (bf K) (ac (aa 0) ae)) ae)) (aj 2))
 (Ab K))
def DK{K:Fg}{N:List Str}(hN:Wi N=3)(h:qb K vs H Q E):pL K (ends Q) (L2.start N vs) H:=by
 obtain⟨a,e,R,es,rfl,⟨xs,ha,lx,hx⟩,he,le,l50,r50,k⟩:=h;rw[L2.aK hN];walk_at "t";unfold pL;cbv;refine bP (SqL.of ha) ?_;rw[lx];cbv;refine⟨R.length,rfl,∅,λu H1 A1=>?_⟩;obtain⟨ys,hu,ry⟩:=A1.at_;have ly:Wi ys=R.length:=by rw[ry.length,SJ,d_]
 have S1:=A1.same;cbv;refine L4 ?_;cbv;refine⟨a,u,e,_,_,_,rfl,SqL.of (S1 _ _ ha),SqL.of hu,SqL.of (S1 _ _ he),?_⟩;refine Bf (xs:=xs) (ys:=ys) (zs:=es.map V.int) (m:=R.length) lx ly (by rw[SJ];exact le) λD nD=>⟨λj H2=>Acc K H1 D H2 (((mo R es).take j).map dL),by simpa using Acc.start nD,λj H2 _ A=>⟨SqL.of (A.same _ _ (S1 _ _ ha)),SqL.of (A.same _ _ hu),SqL.of (A.same _ _ (S1 _ _ he))⟩,?_,?_⟩
 .intro j x y z H2 T e1 e2 e3 A nT us hu3
  obtain⟨u1,u2,u3,rfl⟩:∃u0 u1 u2,us=[u0,u1,u2]:=by
   match us,hu3 with
   |[u0,u1,u2],_=>exact⟨u0,u1,u2,rfl⟩
  have lj:j<R.length:=by rw[<- lx];exact(SL.mp e1).1
  have rv:=(hx j x _ e1 (bY lj)).same (S1.trans A.same);have lr:=r50 _ (SM (bY lj));have ej:=zc (es:=es) lj;obtain⟨d,g1,g2⟩:=ry.get e2;rw[SO,ig lj] at g1;cases g1;obtain⟨cu,rfl,_,hcu⟩:=rj g2;have hcu2:=A.same _ _ hcu;have lo:(a8 R.length j).length=R.length:=c7 _ _;rw[SO,d8 ∅] at e3;cases e3;generalize R.getD j []=r at rv lr ej;generalize a8 R.length j=o at hcu2 lo ej;generalize pt es j=v at ej;have S3:=af nT (.tup [x,.ref cu,.int v]);have hT:upd H2 T (.tup [x,.ref cu,.int v]) T=some (.tup [x,.ref cu,.int v]):=ag;generalize upd H2 T (.tup [x,.ref cu,.int v])=H3 at S3 hT ⊢;refine bv (SqT.of hT) rfl ?_;cbv;refine⟨⟨[some x,⇑cu,↥v],rfl,rfl⟩,?_⟩;cbv;refine EV (rv.same S3) λl1 n1=>?_
  have S4:=S3.trans (af n1 (.lst (r.map V.int)));have h4:upd H3 l1 (.lst (r.map V.int)) l1=some (.lst (r.map V.int)):=ag;generalize upd H3 l1 (.lst (r.map V.int))=H4 at S4 h4 ⊢;cbv;refine⟨l1,cu,_,_,rfl,rfl,h4,S4 _ _ hcu2,by rw[SJ,SJ,VJ];lia,λl2 n2=>?_⟩;have S5:=S4.trans (af n2 (.lst (r.map V.int++o.map V.int)));have h5:upd H4 l2 (.lst (r.map V.int++o.map V.int)) l2=some (.lst (r.map V.int++o.map V.int)):=ag;generalize upd H4 l2 (.lst (r.map V.int++o.map V.int))=H5 at S5 h5 ⊢;cbv;refine⟨iW,λl3 n3=>?_⟩;have S6:=S5.trans (af n3 (.lst [.int v]));have h6:upd H5 l3 (.lst [.int v]) l3=some (.lst [.int v]):=ag;have h62:=af n3 (.lst [.int v]) _ _ h5;generalize upd H5 l3 (.lst [.int v])=H6 at S6 h6 h62 ⊢;cbv;refine⟨l2,l3,_,_,rfl,rfl,h62,h6,by rw[To,SJ,SJ,VJ];show (Wi r)+o.length+1<=_;lia,λl4 n4=>?_⟩;have S7:=S6.trans (af n4 (.lst (r.map V.int++o.map V.int++[.int v])));have h7:upd H6 l4 (.lst (r.map V.int++o.map V.int++[.int v])) l4=some (.lst ((r++o++[v]).map V.int)):=by rw[SV,SV];exact ag
  have n42:H2 l4=none:=S6.free n4;generalize upd H6 l4 (.lst (r.map V.int++o.map V.int++[.int v]))=H7 at S7 h7 ⊢;refine aI lj ?_;refine A.bA S7 (d:=dL (r++o++[v])) (rg n42 h7) (am (by rw[SJ,Ta,mn];lia)) λH8 A8=>?_
  show Acc K H1 D H8 (((mo R es).take (j+1)).map dL);rw[Tc,ej,SV];exact A8
 .intro H2 A;rw[<- mn R es,VF] at A;obtain⟨zs,hz,rz⟩:=A.at_;exact k D H2 ⟨S1.trans A.same,S1.free A.new,zs,hz,rz.mono λ_ z=>⟨S1.free z.1,z.2⟩⟩
abbrev ownOf(B:List (List Int))(hs:List Nat)(i:Nat):Int:=pt (B.getD i []) (hs.getD i 0)
abbrev jW(B:List (List Int))(hs:List Nat):Nat->Int
 |0=>1
 |j+1=>(jW B hs j*ownOf B hs j).fdiv (Gd.gd (jW B hs j) (ownOf B hs j))
abbrev cA(B:List (List Int))(hs:List Nat)(size:Nat)(bt:Int):Nat->List Int
 |0=>Tq size 0
 |j+1=>if hs.getD j 0<size then (cA B hs size bt j).set (hs.getD j 0) ((a_ (B.getD j [])*bt).fdiv (ownOf B hs j)) else cA B hs size bt j
def cK(B:List (List Int))(hs:List Nat)(size:Nat)(bt:Int):∀j,(cA B hs size bt j).length=size
 |0=>Up
 |j+1=>by
  unfold cA;split
  .rw[ZR];exact cK B hs size bt j
  .exact cK B hs size bt j
abbrev Ku:Sp:=λvs H Q _=>∃a b:Int,vs=[.int a,.int b]/\b≠0/\a.natAbs<2 ^ 8000/\b.natAbs<2 ^ 8000/\Q (.int ((a*b).fdiv (Gd.gd a b))) H
abbrev Ki(K:Fg):TS:=(aC (ao jN (ao qu (aa 0) (aa 1)) (aw v_ [] E0 (ac (aa 0) (ac (aa 1) ae)))))
def QC{K:Fg}{N:List Str}(hN:Wi N=2)(h:Ku vs H Q E):Ki K (ends Q) (L2.start N vs) H:=by
 obtain⟨a,b,rfl,b0,ha,hb,k⟩:=h;rw[L2.aK hN];walk_at "t";unfold Ki;have p1:(2:Nat) ^ 8000<2 ^ 20000:=U0 (by decide) (by decide);have p2:(2:Nat) ^ 8000<2 ^ 9000:=U0 (by decide) (by decide);generalize (2:Nat) ^ 8000=P at ha hb p1 p2;have gp:=Gd.oH (a:=a) (b:=b) b0;have gl:=Gd.Mr (a:=a) (b:=b) b0;cbv;refine⟨a,b,rfl,rfl,⟨UC ha p1,UC hb p1⟩,?_⟩;cbv;refine⟨a,b,rfl,?_⟩;exact⟨_,_,rfl,rfl,⟨∅,UC ∅ p2⟩,k⟩
abbrev kO(K:Fg):Sp:=λvs H Q _=>∃(a b:Addr) (B:List (List Int)) (hs:List Nat) (size w:Nat),vs=[.ref a,.ref b,.int (size:Int)]/\LnAt H a B/\H b=some (.lst (hs.map λk:Nat=>.int (k:Int)))/\B.length=hs.length/\size<=100/\Wide (w+1) B/\(∀h∈hs,h<w) /\
 (∀i,i<Wi B->0<ownOf B hs i/\(ownOf B hs i).natAbs<2 ^ 8000/\(a_ (B.getD i [])).natAbs<2 ^ 8000)/\(∀j,j<=Wi B->(jW B hs j).natAbs<2 ^ 8000)/\(∀x∈cA B hs size (jW B hs (Wi B)) (Wi B),x.natAbs<2 ^ 9000) /\
 ∀(q:Addr) (H':Hp),AccZ K H q H' ((a7 (cA B hs size (jW B hs (Wi B)) (Wi B))).map TW)->Q (.ref q) H'
nonrec def vH(K:Fg):TS:=(ak (bS (iq K .L .L (ac (aa 0) (ac (aa 1) ae))) (bZ K 2 (aR (aj 4) (aR (aj 5) b4)))
 (aM (aO (ao yw (aa 5) (aa 2)))
 (aA (ao jN (ao qu (ao (cQ K) (aa 4) (Cz (rU λi=>.int (-i)) (tC (.int 1)))) (aa 3)) (ao (cQ K) (aa 4) (aa 5))) (IG (aa 6) (aa 5) K_))
 aP))
 (aC (aw (sA K) [] E0 (ac (aa 6) ae))))
nonrec def vG(K:Fg):TS:=(ak (bS (iq K .L .L (ac (aa 0) (ac (aa 1) ae))) (bZ K 2 (aR (aj 4) (aR (aj 5) b4)))
 (aA (aw Ku [] E0 (ac (aa 3) (ac (ao (cQ K) (aa 4) (aa 5)) ae))) (aj 3)))
 (ak (aA (ao DR (cS (ac (tC (.int 0)) ae)) (aa 2)) (aj 6))
 (vH K)))
abbrev ky(K:Fg):TS:=(ak (aA (tC (.int 1)) (aj 3))
 (vG K))
def Az{K:Fg}{N:List Str}(hN:Wi N=7)(h:kO K vs H Q E):ky K (ends Q) (L2.start N vs) H:=by
 obtain⟨a,b,B,hs,size,w,rfl,⟨xs,ha,lx,hx⟩,hb,lb,sz,wd,hw,ow,bb,nb,k⟩:=h;rw[L2.aK hN];walk_at "t";unfold ky;have p1:(2:Nat) ^ 8000<2 ^ 20000:=U0 (by decide) (by decide);have p2:(2:Nat) ^ 8000<2 ^ 9000:=U0 (by decide) (by decide);generalize eP:(2:Nat) ^ 8000=P at ow bb p1 p2;have lh:(hs.map λk:Nat=>V.int (k:Int)).length=B.length:=by rw[SJ];lia
 have line:∀j x y,xs[j]?=some x->(hs.map λk:Nat=>V.int (k:Int))[j]?=some y->∃c,j<B.length/\x=.ref c/\y=.int ((hs.getD j 0:Nat):Int)/\H c=some (.lst ((B.getD j []).map V.int))/\hs.getD j 0<w/\(B.getD j []).length=w+1:=by
  intro j x y e1 e2;have lj:j<B.length:=by rw[<- lx];exact(SL.mp e1).1
  obtain⟨c,rfl,hc⟩:=hx j x _ e1 (bY lj);have eh:hs[j]?=some (hs.getD j 0):=by rw[SK,SN ∅];rfl
  rw[SO,eh] at e2;exact⟨c,lj,rfl,(TH e2).symm,hc,hw _ (SM eh),wd _ (SM (bY lj))⟩
 cbv;refine⟨a,b,_,_,rfl,SqL.of ha,SqL.of hb,?_⟩;refine xw (k1:=.L) (k2:=.L) (xs:=xs) (ys:=hs.map λk:Nat=>V.int (k:Int)) lx lh (λj σ H2=>∃u4 u5:Option V,σ=[⇑a,⇑b,↥(size:Int),↥(jW B hs j),u4,u5,none]/\Same H H2) ⟨none,none,rfl,Same.refl _⟩ (by rintro j σ H2 _ ⟨_,_,_,S⟩;exact ⟨SqL.of (S _ _ ha),SqL.of (S _ _ hb)⟩) ?_ ?_
 .rintro j x y σ H2 T e1 e2 ⟨u4,u5,rfl,S2⟩ nT;obtain⟨c,lj,rfl,rfl,hc,hj,lr⟩:=line j x y e1 e2;obtain⟨o1,o2,_⟩:=ow j lj;have b1:=bb j ∅;have S3:=S2.trans (af nT (.tup [.ref c,.int ((hs.getD j 0:Nat):Int)]));have hT:upd H2 T (.tup [.ref c,.int ((hs.getD j 0:Nat):Int)]) T=some (.tup [.ref c,.int ((hs.getD j 0:Nat):Int)]):=ag;generalize upd H2 T (.tup [.ref c,.int ((hs.getD j 0:Nat):Int)])=H3 at S3 hT ⊢;refine bv (SqT.of hT) rfl ?_;cbv;refine dm (SqL.of (S3 _ _ hc)) (HC ∅) ?_;cbv;refine⟨jW B hs j,ownOf B hs j,rfl,∅,by rw[eP];exact b1,by rw[eP];exact o2,?_⟩;cbv;exact⟨_,_,rfl,S3⟩
 rintro σ H2 ⟨u4,u5,rfl,S2⟩;generalize hbt:jW B hs B.length=bt at nb k;have bt1:=bb B.length (SR _);rw[hbt] at bt1;cbv;refine⟨iW,λl0 n0=>?_⟩;have S3:=S2.trans (af n0 (.lst [.int 0]));have h0:upd H2 l0 (.lst [.int 0]) l0=some (.lst [.int 0]):=ag;generalize upd H2 l0 (.lst [.int 0])=H3 at S3 h0 ⊢;cbv;refine⟨l0,(size:Int),_,rfl,rfl,h0,∅,∅,by rw[VJ];show 1*_<=_;lia,λl nl=>?_⟩
 have er:(Tq (size:Int).toNat [V.int 0]).flatten=(cA B hs size bt 0).map V.int:=by
  rw[Ul];show _=(Tq size (0:Int)).map V.int;rw[YQ,XY]
 rw[er];have S4:=S3.trans (af nl (.lst ((cA B hs size bt 0).map V.int)));have hl:upd H3 l (.lst ((cA B hs size bt 0).map V.int)) l=some (.lst ((cA B hs size bt 0).map V.int)):=ag;have nlH:H l=none:=S3.free nl;generalize upd H3 l (.lst ((cA B hs size bt 0).map V.int))=H4 at S4 hl ⊢;cbv;refine⟨a,b,_,_,rfl,SqL.of (S4 _ _ ha),SqL.of (S4 _ _ hb),?_⟩;refine xw (k1:=.L) (k2:=.L) (xs:=xs) (ys:=hs.map λk:Nat=>V.int (k:Int)) lx lh (λj σ H2=>∃u4 u5:Option V,σ=[⇑a,⇑b,↥(size:Int),↥bt,u4,u5,⇑l]/\Same H H2/\H2 l=some (.lst ((cA B hs size bt j).map V.int))) ⟨_,_,rfl,S4,hl⟩ (by rintro j σ H2 _ ⟨_,_,_,S,_⟩;exact ⟨SqL.of (S _ _ ha),SqL.of (S _ _ hb)⟩) ?_ ?_
 .rintro j x y σ H5 T e1 e2 ⟨u4,u5,rfl,S5,h5⟩ nT;obtain⟨c,lj,rfl,rfl,hc,hj,lr⟩:=line j x y e1 e2;obtain⟨o1,o2,o3⟩:=ow j lj;have S6:=S5.trans (af nT (.tup [.ref c,.int ((hs.getD j 0:Nat):Int)]));have h6:=af nT (.tup [.ref c,.int ((hs.getD j 0:Nat):Int)]) _ _ h5;have hT:upd H5 T (.tup [.ref c,.int ((hs.getD j 0:Nat):Int)]) T=some (.tup [.ref c,.int ((hs.getD j 0:Nat):Int)]):=ag;generalize upd H5 T (.tup [.ref c,.int ((hs.getD j 0:Nat):Int)])=H6 at S6 hT h6 ⊢;refine bv (SqT.of hT) rfl ?_;cbv;refine aV (λq=>?_) (λq=>?_)
  .have q':hs.getD j 0<size:=by
    have:((hs.getD j 0:Nat):Int)<(size:Int):=by simpa using q
    lia
   cbv;refine dm (SqL.of (S6 _ _ hc)) (iF (λz=>by rw[z] at lr;cases lr)) ?_;cbv;refine⟨_,_,rfl,rfl,⟨UC o3 p1,UC bt1 p1⟩,?_⟩;cbv;refine dm (SqL.of (S6 _ _ hc)) (HC ∅) ?_;refine⟨_,ownOf B hs j,rfl,rfl,⟨∅,UC o2 p2⟩,?_⟩;refine JM (uk (i:=6) rfl (uk (i:=5) rfl ?_));refine⟨l,_,_,hs.getD j 0,rfl,rfl,h6,?_,?_⟩
   .unfold Bs;rw[if_pos ∅,if_pos (by rw[SJ,cK];lia)];simp
   .refine⟨_,_,rfl,λcc o e=>?_,?_⟩
    .rw[aJ (ar e nlH)];exact S6 cc o e
    .rw[ag];show some (HO.lst _)=some (.lst ((cA B hs size bt (j+1)).map V.int));rw[show cA B hs size bt (j+1)=(cA B hs size bt j).set (hs.getD j 0) ((a_ (B.getD j [])*bt).fdiv (ownOf B hs j)) from if_pos q',List.map_set]
  .have q' : ¬ hs.getD j 0<size:=λz=>q (by simp;lia)
   cbv;refine⟨_,_,rfl,S6,?_⟩;rw[show cA B hs size bt (j+1)=cA B hs size bt j from if_neg q'];exact h6
 .rintro σ H5 ⟨u4,u5,rfl,S5,h5⟩;cbv;refine⟨l,_,rfl,h5,by rw[cK];lia,nb,λq H6 A6=>?_⟩;exact k q H6 ⟨S5.trans A6.same,S5.free A6.new,A6.at_⟩
end Br
namespace Bo
inductive Rn (m W:Nat) (f:Bd):Nat->Bd->Prop
 |z:Rn m W f 0 f
 |s {n:Nat} {b b':Bd} {i p:Nat}:Rn m W f n b->Stp m W b b' i p->Rn m W f (n+1) b'
def Rn.run(o:Ok m W f)(h:Rn m W f n b):∃(s:Nat->Bd) (i p:Nat->Nat),Run m W s i p 0 n/\s n=b:=by
 induction h with
 |z=>exact⟨λ_=>f,λ_=>0,λ_=>0,⟨λk _ _=>o,λk _ h=>∅⟩,rfl⟩
 |@s n b b' i0 p0 _ st ih =>
  obtain⟨s,i,p,r,e⟩:=ih;refine⟨λk=>if k<=n then s k else b',λk=>if k<n then i k else i0,λk=>if k<n then p k else p0,⟨λk _ hk=>?_,λk _ hk=>?_⟩,if_neg ∅⟩
  .show Ok m W (if k<=n then s k else b');split
   .exact r.ok k ∅ ∅
   .have:=r.ok n ∅ ∅
    rw[e] at this;exact st.ok this
  .show Stp m W (if k<=n then s k else b') (if k+1<=n then s (k+1) else b') (if k<n then i k else i0) (if k<n then p k else p0);by_cases q:k<n
   .rw[if_pos ∅,if_pos ∅,if_pos q,if_pos q];exact r.stp k ∅ ∅
   .have ek:k=n:=by lia
    subst ek;rw[if_pos (SR _),if_neg ∅,if_neg q,if_neg q,e];exact st
def Rn.few(o:Ok m W f)(h:Rn m W f n b):n+1<=2 ^ W:=by
 obtain⟨s,i,p,r,_⟩:=h.run o;refine Run.few W 0 n r λk q1 q2=>?_
 have st:=r.stp k q1 q2;exact⟨(r.ok k q1 ∅).lt _ st.im,st.pw⟩
end Bo
namespace Br
open Rk Sf Rw
abbrev e9(B:List (List Int))(hs:List Nat):Bo.Bd:=⟨λi k=>pt (B.getD i []) k,λi=>hs.getD i 0⟩
def cX{r:List Int}{k:Nat}(h:Wi r<=k):pt r k=0:=by
 unfold pt;rw[SK,TL h];rfl
def jx(r:List Int)(k:Nat):pt (dY r) k = - pt r k:=by
 by_cases h:k<Wi r
 .have e:(dY r)[k]?=some (- pt r k):=by unfold dY;rw[SO,d8 h];rfl
  unfold pt at e ⊢;rw[SK,e];rfl
 .rw[cX (r:=r) ∅,cX (r:=dY r) (by rw[dX];lia)];rfl
def Jw{l h:List Int}(e:Wi l=Wi h)(k:Nat):pt (fo l h p) k=pt h p*pt l k-pt l p*pt h k:=by
 by_cases q:k<Wi l
 .have e1:(fo l h p)[k]?=some (pt h p*pt l k-pt l p*pt h k):=by unfold fo;rw[Uj,d8 q,d8 ∅]
  rw[show pt (fo l h p) k=((fo l h p)[k]?).getD 0 from by unfold pt;rw[SK],e1];rfl
 .rw[cX (by rw[kn e];lia),cX (r:=l) ∅,cX (r:=h) (k:=k) ∅,T_,T_];rfl
def Po:∀(r:List Int) (a:Int),(r.foldl Gd.gd a∣a)/\∀c∈r,r.foldl Gd.gd a∣c
 |[],a=>⟨Int.dvd_refl _,λc hc=>by cases hc⟩
 |x :: r,a=>by
  obtain⟨h1,h2⟩:=Po r (Gd.gd a x);refine⟨Xv h1 (y6 a x).1,λc hc=>?_⟩;rcases Tu.mp hc with rfl|hc
  .exact Xv h1 (y6 a c).2
  .exact h2 c hc
def IF(r:List Int)(k:Nat):bq r∣pt r k:=by
 by_cases h:k<Wi r
 .exact(Po r 0).2 _ (tw h)
 .rw[cX ∅];exact Int.dvd_zero _
def Pn{d:Int}:∀(r:List Int) (a:Int),d∣a->(∀c∈r,d∣c)->d∣r.foldl Gd.gd a
 |[],_,h,_=>h
 |x :: r,a,h,k=>Pn r (Gd.gd a x) (Int.dvd_coe_gcd h (k x Tb)) λc hc=>k c (S_ _ hc)
def zg{d:Int}{r:List Int}(h:∀k,k<Wi r->d∣pt r k):d∣bq r:=Pn r 0 (Int.dvd_zero _) λc hc=>by
 obtain⟨k,hk⟩:=T2 hc;have lk:=(SL.mp hk).1
 have:=h k lk
 rw[d8 lk] at hk;cases hk;exact this
def IE(h:pt r k≠0):0<bq r:=by
 have n0:∀(r:List Int) (a:Int),0<=a->0<=r.foldl Gd.gd a:=by
  intro r
  induction r with
  |nil=>exact λa h=>h
  |cons x r ih=>exact λa _=>ih _ (Gd.uv _ _)
 have:=n0 r 0 (VC _)
 have:=jj h
 unfold bq at *;lia
def NK(g:bq (fo l h p)≠0)(k:Nat):bq (fo l h p)*pt (wo l h p) k=pt (fo l h p) k:=by
 by_cases q:k<(fo l h p).length
 .have e:(wo l h p)[k]?=some ((pt (fo l h p) k).fdiv (bq (fo l h p))):=by unfold wo;rw[SO,d8 q];rfl
  rw[show pt (wo l h p) k=((wo l h p)[k]?).getD 0 from by unfold pt;rw[SK],e];exact Wo (IF _ k)
 .rw[cX (r:=fo l h p) (k:=k) ∅,cX (r:=wo l h p) (k:=k) (by unfold wo;rw[SJ];lia),T_]
def J_{w:Nat}(g:bq (fo l h p)≠0)(hw:(fo l h p).length=w+1)(d:Int)(hd:∀k,k<=w->d∣pt (wo l h p) k):d∣1:=by
 have:bq (fo l h p)*d∣bq (fo l h p):=zg λk hk=>by
  rw[<- NK g k];exact Int.mul_dvd_mul_left _ (hd k ∅)
 obtain⟨c,hc⟩:=this;refine⟨c,?_⟩;refine Uo g ?_;rw[ZbL,<- TB];exact hc
def BB{hs:List Nat}{i j:Nat}(o:Bo.Ok m w (e9 B hs))(hi:i<m)(hj:j<m)(ne:j≠i)(lo:pt (B.getD i []) p<0)(e:(B.getD j []).length=(dY (B.getD i [])).length):pt (fo (B.getD j []) (dY (B.getD i [])) p) (hs.getD j 0)≠0:=by
 rw[Jw e,jx,jx];have o1:0<pt (B.getD j []) (hs.getD j 0):=o.own j hj;have o2:pt (B.getD i []) (hs.getD j 0)=0:=o.oth i j hi hj (λz=>ne z.symm);rw[o2,Zbr,T_,Zbq]
 have:=Wn (show 0 < - pt (B.getD i []) p by lia) o1
 lia
def wO{B:List (List Int)}{j:Nat}(h:j<Wi B):(dW B i p).getD j []=if j=i then dY (B.getD i []) else wo (B.getD j []) (dY (B.getD i [])) p:=by rw[SK,wP h];rfl
def Ec{B:List (List Int)}{hs:List Nat}{i p:Nat}(o:Bo.Ok (Wi B) w (e9 B hs))(wd:Wide (w+1) B)(lh:Wi hs=Wi B)(hi:i<Wi B)(pw:p<w)(short:pt (B.getD i []) w<0)(low:pt (B.getD i []) p<0)(first:∀k,k<p->0<=pt (B.getD i []) k)
  (least:∀j,j<Wi B->pt (B.getD j []) w<0->hs.getD i 0<=hs.getD j 0):Bo.Stp (Wi B) w (e9 B hs) (e9 (dW B i p) (hs.set i p)) i p:=by
 have ln:∀j,j<Wi B->(B.getD j []).length=w+1:=λj hj=>wd _ (SM (bY hj))
 refine⟨hi,pw,short,low,first,least,?_,λj hj ne=>?_,λk=>?_,λj hj ne=>?_⟩
 .show(hs.set i p).getD i 0=p;rw[SK,WJ ∅];rfl
 .show(hs.set i p).getD j 0=hs.getD j 0;rw[SK,W7 (λz=>ne z.symm),SK]
 .show pt ((dW B i p).getD i []) k = - pt (B.getD i []) k;rw[wO hi,if_pos rfl,jx]
 .have e:(B.getD j []).length=(dY (B.getD i [])).length:=by rw[dX,ln j hj,ln i hi]
  have nz:=BB o hi hj ne low e;refine⟨bq (fo (B.getD j []) (dY (B.getD i [])) p),IE nz,λk=>?_⟩;show _*pt ((dW B i p).getD j []) k=(- pt (B.getD i []) p)*pt (B.getD j []) k-pt (B.getD j []) p*(- pt (B.getD i []) k);rw[wO hj,if_neg ne,NK (jj nz),Jw e,jx,jx]
def Ed{B:List (List Int)}{hs:List Nat}{i j:Nat}(o:Bo.Ok (Wi B) w (e9 B hs))(wd:Wide (w+1) B)(hi:i<Wi B)(low:pt (B.getD i []) p<0)(hj:j<Wi B)(ne:j≠i)(d:Int)(hd:∀k,k<=w->d∣(e9 (dW B i p) (hs.set i p)).L j k):d∣1:=by
 have ln:∀j,j<Wi B->(B.getD j []).length=w+1:=λj hj=>wd _ (SM (bY hj))
 have e:(B.getD j []).length=(dY (B.getD i [])).length:=by rw[dX,ln j hj,ln i hi]
 have nz:=BB o hi hj ne low e;refine J_ (jj nz) (by rw[kn e];exact ln j hj) d λk hk=>?_
 have:=hd k hk
 rw[show(e9 (dW B i p) (hs.set i p)).L j k=pt ((dW B i p).getD j []) k from rfl,wO hj,if_neg ne] at this;exact this
def Eb{w:Nat}{i:Nat}(wd:Wide (w+1) B)(hi:i<B.length):Wide (w+1) (dW B i p):=λr hr=>by
 have ln:∀j,j<B.length->(B.getD j []).length=w+1:=λj hj=>wd _ (SM (bY hj))
 obtain⟨j,hj⟩:=T2 hr;have lj:j<B.length:=by rw[<- j9 B i p];exact(SL.mp hj).1
 rw[wP lj] at hj;cases hj;split
 .rw[dX];exact ln i hi
 .unfold wo;rw[SJ,kn (by rw[dX,ln j lj,ln i hi])];exact ln j lj
def wK{a b:List Int}{k:Nat}(h:k<Wi a):pt (a++b) k=pt a k:=by
 unfold pt;rw[SK,TU h,SK]
def wJ{a b:List Int}{k:Nat}:pt (a++b) (Wi a+k)=pt b k:=by
 unfold pt;rw[SK,TV ∅,SK,VV]
def Jz{n k:Nat}(h:k<n):pt (a8 n i) k=if k=i then 1 else 0:=by
 unfold pt a8;rw[SK,SO,TR h];rfl
def y_{R:List (List Int)}{i:Nat}(h:i<Wi R):(mo R es).getD i []=R.getD i []++a8 (Wi R) i++[pt es i]:=by rw[SK,zc h];rfl
abbrev rR(size m:Nat):List Nat:=(TC m).map λk=>size+k
def Fe{size m i:Nat}(h:i<m):(rR size m).getD i 0=size+i:=by
 unfold rR;rw[SK,SO,TR h];rfl
section
variable{R:List (List Int)}{es:List Int}{size:Nat}
def kf(wd:Wide size R){i k:Nat}(hi:i<Wi R)(hk:k<Wi R):pt ((mo R es).getD i []) (size+k)=if i=k then 1 else 0:=by
 have lr:(R.getD i []).length=size:=wd _ (SM (bY hi));have lo:(a8 (Wi R) i).length=Wi R:=c7 _ _;rw[y_ hi,wK (by rw[To];lia)]
 have:=wJ (a:=R.getD i []) (b:=a8 (Wi R) i) (k:=k)
 rw[lr] at this;rw[this,Jz hk];by_cases e:k=i
 .rw[if_pos e,if_pos e.symm]
 .rw[if_neg e,if_neg λz=>e z.symm]
def y9(wd:Wide size R){i k:Nat}(hi:i<Wi R)(hk:k<size):pt ((mo R es).getD i []) k=pt (R.getD i []) k:=by
 have lr:(R.getD i []).length=size:=wd _ (SM (bY hi));rw[y_ hi,Ut,wK ∅]
def Mt(wd:Wide size R){i:Nat}(hi:i<Wi R):pt ((mo R es).getD i []) (size+Wi R)=pt es i:=by
 have lr:(R.getD i []).length=size:=wd _ (SM (bY hi));have lo:(a8 (Wi R) i).length=Wi R:=c7 _ _;rw[y_ hi]
 have:=wJ (a:=R.getD i []++a8 (Wi R) i) (b:=[pt es i]) (k:=0)
 rw[To,lr,lo,YA] at this;rw[this];rfl
def y8(wd:Wide size R):Wide (size+Wi R+1) (mo R es):=λr hr=>by
 obtain⟨j,hj⟩:=T2 hr;have lj:j<Wi R:=by rw[<- mn R es];exact(SL.mp hj).1
 have lr:(R.getD j []).length=size:=wd _ (SM (bY lj));rw[zc lj] at hj;cases hj;rw[To,To,lr,c7];rfl
def Pu(wd:Wide size R):Bo.Ok (Wi R) (size+Wi R) (e9 (mo R es) (rR size (Wi R))):=by
 refine⟨λi hi=>?_,λi hi=>?_,λi j hi hj ne=>?_⟩
 .show(rR size (Wi R)).getD i 0<_;rw[Fe hi];lia
 .show 0<pt ((mo R es).getD i []) ((rR size (Wi R)).getD i 0);rw[Fe hi,kf wd hi hi,if_pos rfl];decide
 .show pt ((mo R es).getD i []) ((rR size (Wi R)).getD j 0)=0;rw[Fe hj,kf wd hi hj,if_neg ne]
def IJ(wd:Wide size R):Bo.From (Wi R) (size+Wi R) size (e9 (mo R es) (rR size (Wi R))) (e9 (mo R es) (rR size (Wi R))) :=
 Bo.From.start (Pu wd) (λl hl k hk=>kf wd hl hk) ∅
end
end Br
namespace Bo
def hV(a:Nat):∀(b:Nat) (f:Nat->Int),sm (a+b) f=sm a f+sm b λk=>f (a+k)
 |0,f=>by show sm a f=sm a f+0;lia
 |b+1,f=>by
  show sm (a+b) f+f (a+b)=sm a f+(sm b (λk=>f (a+k))+f (a+b))
  rw[hV a b f];lia
def Kx(m:Nat)(W:Nat)(c z:Nat->Int)(L:Nat->Nat->Int):sm W (λk=>sm m (λj=>c j*L j k)*z k)=sm m λj=>c j*sm W λk=>L j k*z k:=by
 induction m with
 |zero=>exact iT λk _=>UT _
 |succ m ih =>
  show sm W (λk=>(sm m (λj=>c j*L j k)+c m*L m k)*z k)=sm m (λj=>c j*sm W λk=>L j k*z k)+c m*sm W λk=>L m k*z k
  rw[<- ih,<- bJ,<- hZ];refine aQ λk _=>?_
  rw[Y5,TB]
def From.back(F:From m W n f b)(h:Bv m W b z D):Bv m W f z D:=by
 intro l hl;obtain⟨d,d0,c,hc⟩:=F.span l hl;refine Uo (a:=d) ∅ ?_
 have e1:d*ev W (f.L l) z=sm m λj=>c j*(D*b.L j W):=by
  unfold ev;rw[<- bJ,show sm W (λk=>d*(f.L l k*z k))=sm W (λk=>sm m (λj=>c j*b.L j k)*z k) from aQ λk _=>by rw[<- hc k,TB],Kx];exact aQ λj hj=>by rw[<- h j hj];rfl
 rw[e1,TX,hc W,<- bJ];exact aQ λj _=>by rw[TX]
def Nf(h:sm n f<0):∃k,k<n/\f k<0:=by
 refine Vb λno=>?_
 have:=sD (n:=n) (f:=f) λk hk=>Int.not_lt.mp λz=>no ⟨k,hk,z⟩
 lia
end Bo
namespace Br
open Rk Sf Rw Bo
abbrev qM(R:List (List Int))(n:Nat):List (List Int):=R++(jP n).map dY
abbrev jB(a n:Nat):List Int:=Tq a 0++Tq n (-1)
abbrev xJ(R:List (List Int))(n:Nat):Bo.Bd:=e9 (mo (qM R n) (jB (Wi R) n)) (rR n (Wi R+n))
section
variable{R:List (List Int)}{n:Nat}
def b_:(qM R n).length=Wi R+n:=by unfold qM;rw[To,SJ,d_]
def Mu(a n:Nat):(jB a n).length=a+n:=by unfold jB;rw[To,Up,Up]
def L0{i:Nat}(h:i<Wi R):(qM R n).getD i []=R.getD i []:=by
 unfold qM;rw[SK,TU h,SK]
def Ih{j:Nat}(h:j<n):(qM R n).getD (Wi R+j) []=dY (a8 n j):=by
 unfold qM;rw[SK,TV ∅,VV,SO,ig h];rfl
def xx{a i:Nat}(h:i<a):pt (jB a n) i=0:=by
 unfold jB;rw[wK (by rw[Up];exact h)];unfold pt;rw[SK,WG h];rfl
def qX{j:Nat}(h:j<n):pt (jB a n) (a+j) = -1:=by
 unfold jB
 have:=wJ (a:=Tq a 0) (b:=Tq n (-1)) (k:=j)
 rw[Up] at this;rw[this];unfold pt;rw[SK,WG h];rfl
def dC(wd:Wide n R):Wide n (qM R n):=λr hr=>by
 rcases Tv.mp hr with h|h
 .exact wd r h
 .obtain⟨o,ho,rfl⟩:=Te.mp h;obtain⟨j,hj,rfl⟩:=Te.mp ho;rw[dX,c7]
def xI(wd:Wide n R){i k:Nat}(hi:i<Wi R)(hk:k<n):(xJ R n).L i k=pt (R.getD i []) k:=by
 show pt ((mo (qM R n) (jB (Wi R) n)).getD i []) k=_;rw[y9 (dC wd) (by rw[b_];lia) hk,L0 hi]
def iE(wd:Wide n R){j k:Nat}(hj:j<n)(hk:k<n):(xJ R n).L (Wi R+j) k=if k=j then -1 else 0:=by
 show pt ((mo (qM R n) (jB (Wi R) n)).getD (Wi R+j) []) k=_;rw[y9 (dC wd) (by rw[b_];lia) hk,Ih hj,jx,Jz hk];split <;> rfl
def kg(wd:Wide n R){i k:Nat}(hi:i<Wi R+n)(hk:k<Wi R+n):(xJ R n).L i (n+k)=if i=k then 1 else 0:=kf (dC wd) (by rw[b_];exact hi) (by rw[b_];exact hk)
def rH(wd:Wide n R){i:Nat}(hi:i<Wi R+n):(xJ R n).L i (n+(Wi R+n))=pt (jB (Wi R) n) i:=by
 have:=Mt (R:=qM R n) (es:=jB (Wi R) n) (dC wd) (i:=i) (by rw[b_];exact hi)
 rw[b_] at this;exact this
def zw(wd:Wide n R):Bo.From (Wi R+n) (n+(Wi R+n)) n (xJ R n) (xJ R n):=by
 have:=IJ (R:=qM R n) (es:=jB (Wi R) n) (dC wd)
 rw[b_] at this;exact this
def uP(wd:Wide n R)(b3:∀r∈R,∀c∈r,c.natAbs<=3){i:Nat}(hi:i<Wi R+n)(k:Nat):((xJ R n).L i k).natAbs<=3:=by
 by_cases h1:k<n
 .by_cases h2:i<Wi R
  .rw[xI wd h2 h1];have lr:(R.getD i []).length=n:=wd _ (SM (bY h2));exact b3 _ (SM (bY h2)) _ (tw ∅)
  .obtain⟨j,rfl⟩:∃j,i=Wi R+j:=⟨i-Wi R,∅⟩
   rw[iE wd ∅ h1];split <;> decide
 .obtain⟨j,rfl⟩:∃j,k=n+j:=⟨k-n,∅⟩
  rcases Vd j (Wi R+n) with q|q|q
  .rw[kg wd hi q];split <;> decide
  .rw[q,rH wd hi];by_cases h2:i<Wi R
   .rw[xx h2];decide
   .obtain⟨j,rfl⟩:∃j,i=Wi R+j:=⟨i-Wi R,∅⟩
    rw[qX ∅];decide
  .have e:(xJ R n).L i (n+j)=0:=by
    refine cX ?_
    have:=y8 (es:=jB (Wi R) n) (dC wd) _ (SM (zc (es:=jB (Wi R) n) (R:=qM R n) (i:=i) (by rw[b_];exact hi)))
    rw[<- y_ (by rw[b_];exact hi),b_] at this;lia
   rw[e];decide
def Kf(wd:Wide n R)(F:Bo.From (Wi R+n) (n+(Wi R+n)) n (xJ R n) b){i:Nat}(hi:i<Wi R+n)(short:b.L i (n+(Wi R+n))<0)(up:∀k,k<n+(Wi R+n)->0<=b.L i k) :
  (∀k,k<n->0<=sm (Wi R) λl=>b.L i (n+l)*pt (R.getD l []) k)/\∃k,k<n/\0<sm (Wi R) λl=>b.L i (n+l)*pt (R.getD l []) k:=by
 have lin:∀k,k<n->(sm (Wi R) λl=>b.L i (n+l)*pt (R.getD l []) k)=b.L i k+b.L i (n+(Wi R+k)):=by
  intro k hk;have e:=F.lin i hi k;rw[hV,d6 (j:=k) hk (λj hj ne=>by rw[iE wd hj hk,if_neg λz=>ne z.symm,T_]),iE wd hk hk,if_pos rfl] at e;rw[aQ (n:=R.length) (g:=λl=>b.L i (n+l)*pt (R.getD l []) k) λl hl=>by rw[xI wd hl hk]] at e;lia
 refine⟨λk hk=>?_,?_⟩
 .rw[lin k hk]
  have:=up k ∅
  have:=up (n+(Wi R+k)) ∅
  lia
 .have e:=F.lin i hi (n+(Wi R+n));rw[hV,iT (n:=R.length) (λl hl=>by rw[rH wd ∅,xx hl,T_]),U_] at e;rw[e] at short;obtain⟨k,hk,z⟩:=Nf short;rw[rH wd ∅,qX hk] at z;refine⟨k,hk,?_⟩;rw[lin k hk]
  have:=up k ∅
  lia
end
def zu{a o:Int}(h:0<o)(ha:0<a):0<(a*o).fdiv (Gd.gd a o)/\a∣(a*o).fdiv (Gd.gd a o)/\o∣(a*o).fdiv (Gd.gd a o)/\(a*o).fdiv (Gd.gd a o)<=a*o:=by
 have g0:0<Gd.gd a o:=Gd.oH ∅;obtain⟨⟨c,hc⟩,⟨d,hd⟩⟩:=y6 a o;generalize Gd.gd a o=g at g0 hc hd
 have e1:(a*o).fdiv g=a*d:=by
  have:a*o=g*(a*d):=by
   rw[hd];rw[TX]
  rw[this,Wu _ ∅]
 have e2:a*d=o*c:=by
  rw[hc,hd,TB,TB,Uc c d]
 have d0:0<d:=by
  rcases Yz 0 d with q|q
  .exact q
  .have:=WH q (show 0<=g by lia)
   lia
 rw[e1];refine⟨Wn ha d0,⟨d,rfl⟩,⟨c,e2⟩,WH ?_ ∅⟩
 have:=WF (show 1<=g by lia) (show 0<=d by lia)
 lia
section
variable{B:List (List Int)}{hs:List Nat}{m:Nat}
def F4(ow:∀i,i<m->0<ownOf B hs i):∀j,j<=m->0<jW B hs j/\∀i,i<j->ownOf B hs i∣jW B hs j
 |0,_=>⟨by show(0:Int)<1;decide,λi hi=>absurd hi (Vn _)⟩
 |j+1,h=>by
  obtain⟨h1,h2⟩:=F4 ow j ∅;obtain⟨s1,s2,s3,_⟩:=zu (ow j ∅) h1;refine⟨s1,λi hi=>?_⟩;rcases Uw i j with q|q
  .exact Xv (h2 i q) s2
  .rw[show i=j by lia];exact s3
def xG{C:Nat}(ow:∀i,i<m->0<ownOf B hs i/\(ownOf B hs i).natAbs<=C):∀j,j<=m->(jW B hs j).natAbs<=C ^ j
 |0,_=>SR _
 |j+1,h=>by
  have h1:=(F4 (λi hi=>(ow i hi).1) j ∅).1;have h2:=xG ow j ∅;obtain⟨o1,o2⟩:=ow j ∅;obtain⟨s1,_,_,s4⟩:=zu o1 h1;have e:(jW B hs j*ownOf B hs j).natAbs<=C ^ j*C:=by rw[UM];exact YO h2 o2
  rw[VY];show((jW B hs j*ownOf B hs j).fdiv (Gd.gd (jW B hs j) (ownOf B hs j))).natAbs<=_;lia
def CZ{r:List Int}{p:Nat}(h:p<Wi r):pt (r.set p v) k=if p=k then v else pt r k:=by
 unfold pt;rw[SK,SK];split
 .rename_i e;subst e;rw[WJ h];rfl
 .rename_i e;rw[W7 e]
def lN{size:Nat}{bt:Int}{k:Nat}:∀j,(∀i,i<j->hs.getD i 0≠k)->pt (cA B hs size bt j) k=0
 |0,_=>by
  show pt (Tq size 0) k=0;unfold pt;rw[SK];cases e:(Tq size (0:Int))[k]? with
  |none=>rfl
  |some c=>exact List.eq_of_mem_replicate (SM e)
 |j+1,h=>by
  unfold cA;split
  .rename_i q;rw[CZ (by rw[cK];exact q),if_neg (h j ∅)];exact lN j λi hi=>h i ∅
  .exact lN j λi hi=>h i ∅
def lO{size:Nat}{bt:Int}(inj:∀i j,i<m->j<m->hs.getD i 0=hs.getD j 0->i=j){i:Nat}(hz:hs.getD i 0<size):∀j,j<=m->i<j->pt (cA B hs size bt j) (hs.getD i 0)=(a_ (B.getD i [])*bt).fdiv (ownOf B hs i)
 |0,_,h=>absurd h (Vn _)
 |j+1,hm,h=>by
  unfold cA;rcases Uw i j with q|q
  .split
   .rename_i z;rw[CZ (by rw[cK];exact z),if_neg λe=>by have:=inj j i ∅ ∅ e;lia];exact lO inj hz j ∅ q
   .exact lO inj hz j ∅ q
  .have e:i=j:=by lia
   subst e;rw[if_pos hz,CZ (by rw[cK];exact hz),if_pos rfl]
end
structure zF (m n:Nat) (b:Bo.Bd) (bt:Int) (u:Nat->Int):Prop where
 hold:∀i,i<m->b.h i<n->b.L i (b.h i)*u (b.h i)=bt*b.L i (n+m)
 none:∀k,k<n->(∀i,i<m->b.h i≠k)->u k=0
def zF.sol{n:Nat}{D:Int}{z:Nat->Int}(o:Bo.Ok m (n+m) b)(U:zF m n b bt u)(z1:∀i,i<m->b.L i (b.h i)*z (b.h i)=D*b.L i (n+m))(z2:∀k,k<n+m->(∀i,i<m->b.h i≠k)->z k=0)(k:Nat)(hk:k<n):bt*z k=D*u k:=by
 by_cases h:∃i,i<m/\b.h i=k
 .obtain⟨i,hi,rfl⟩:=h;have o1:=o.own i hi;refine Uo (a:=b.L i (b.h i)) ∅ ?_;rw[TX,z1 i hi,TX (b.L i (b.h i)) D,U.hold i hi hk,TX]
 .have no:∀i,i<m->b.h i≠k:=λi hi e=>h ⟨i,hi,e⟩
  rw[z2 k ∅ no,U.none k hk no,T_,T_]
section
variable{R:List (List Int)}{n:Nat}
def Gs(wd:Wide n R)(n0:0<n)(b3:∀r∈R,∀c∈r,c.natAbs<=3)(F:Bo.From (Wi R+n) (n+(Wi R+n)) n (xJ R n) b)(ends:∀i,i<Wi R+n->0<=b.L i (n+(Wi R+n))){bt:Int}(bt0:0<bt){u:List Int}(lu:Wi u=n)(U:zF (Wi R+n) n b bt (pt u)) :
  (∀k,k<n->1<=pt (a7 u) k)/\(∀i,i<Wi R->(sm n λk=>pt (R.getD i []) k*pt (a7 u) k)<=0)/\∀k,(pt (a7 u) k).natAbs<=(2*((n+(Wi R+n)+1)*3)) ^ (n+(Wi R+n)):=by
 obtain⟨z,D,D0,sat,z1,z2⟩:=Ee F.ok;have satf:=F.back sat;have eu:=U.sol F.ok z1 (λk _=>z2 k)
 have zn:∀k,k<n+(Wi R+n)->0<=z k:=by
  intro k hk;by_cases h:∃i,i<Wi R+n/\b.h i=k
  .obtain⟨i,hi,rfl⟩:=h;have o1:=F.ok.own i hi;have e:=z1 i hi
   have:=Xd (show 0<=D by lia) (ends i hi)
   rw[<- e] at this;exact X_ this ∅
  .rw[z2 k λi hi e=>h ⟨i,hi,e⟩];exact VC _
 have line:∀i,i<Wi R+n->(sm n λk=>(xJ R n).L i k*z k)+z (n+i)=D*pt (jB (Wi R) n) i:=by
  intro i hi;have e:=satf i hi;rw[rH wd hi] at e;rw[<- e];unfold ev;rw[hV,d6 (n:=R.length+n) (j:=i) hi (λj hj ne=>by rw[kg wd hi hj,if_neg λz=>ne z.symm,UT]),kg wd hi hi,if_pos rfl,Zan]
 have zp:∀k,k<n->0<z k:=by
  intro k hk;have e:=line (Wi R+k) ∅;rw[d6 (j:=k) hk (λj hj ne=>by rw[iE wd hk hj,if_neg ne,UT]),iE wd hk hk,if_pos rfl,qX hk] at e
  have:=zn (n+(Wi R+k)) ∅
  lia
 have up:∀k,k<n->0<pt u k:=by
  intro k hk;have e:=eu k hk
  have:=Wn bt0 (zp k hk)
  rw[e] at this;exact Vk this ∅
 have f0:fp u=some 0:=by
  have:fp u≠none:=λh=>by have:=xu h 0;have:=up 0 n0;lia
  cases e:fp u with
  |none=>exact absurd e this
  |some i =>
   obtain⟨_,_,h3⟩:=dv e;rcases YM i with q|q
   .rw[q]
   .have:=h3 0 q
    have:=up 0 n0
    lia
 obtain⟨l1,_,_⟩:=Mk.yN f0;obtain⟨g,g0,gl⟩:=ij u
 have gp:0<g:=by
  have e:=gl 0;have u0:=up 0 n0;rw[<- e] at u0;exact Int.pos_of_mul_pos_left u0 ∅
 have lp:∀k,k<n->1<=pt (a7 u) k:=by
  intro k hk;have u0:=up k hk;rw[<- gl k] at u0
  have:=Vk u0 ∅
  lia
 refine⟨lp,λi hi=>?_,λk=>?_⟩
 .have e:=line i ∅;rw[xx hi,T_,aQ (n:=n) (g:=λk=>pt (R.getD i []) k*z k) λk hk=>by rw[xI wd hi hk]] at e;have zi:=zn (n+i) ∅
  have e2:bt*(sm n λk=>pt (R.getD i []) k*z k)=(D*g)*sm n λk=>pt (R.getD i []) k*pt (a7 u) k:=by
   rw[<- bJ,<- bJ];refine aQ λk hk=>?_
   rw[TX,eu k hk,<- gl k,TX (D*g),TB]
  have dg:0<D*g:=Wn D0 gp;rcases Yz 0 (sm n λk=>pt (R.getD i []) k*pt (a7 u) k) with q|q
  .have p1:=Wn dg q;rw[<- e2] at p1
   have:=Vk p1 ∅
   lia
  .exact q
 .obtain⟨y,D',D0',yb,y1,y2⟩:=F.told (M:=3) (by decide) (λl hl k=>uP wd b3 hl k);have ey:=U.sol F.ok y1 y2;by_cases hk:k<n
  .refine TQ ?_ (yb k)
   have:=DY (W:=n) (r:=pt (a7 u)) (s:=λk=>if k<n then y k else 0) (a:=bt) (q:=D'*g) bt0 (λh=>(Ub.mp h).elim D0' g0) (λk=>?_) (λd hd=>?_) k
   .simpa[hk] using this
   .show bt*(if k<n then y k else 0)=_;split
    .rename_i q;rw[ey k q,<- gl k,TB]
    .rw[cX (r:=a7 u) (by rw[cq];lia),T_,T_]
   .rw[<- l1];exact zg λk hk=>hd k (by rw[cq] at hk;lia)
  .rw[cX (by rw[cq];lia)];exact T1 _
def zv{B:List (List Int)}{hs:List Nat}(lb:Wi B=Wi R+n)(F:Bo.From (Wi R+n) (n+(Wi R+n)) n (xJ R n) (e9 B hs))(wb:Wide (n+(Wi R+n)+1) B):0<jW B hs (Wi B)/\zF (Wi R+n) n (e9 B hs) (jW B hs (Wi B)) (pt (cA B hs n (jW B hs (Wi B)) (Wi B))):=by
 have ow:∀i,i<Wi R+n->0<ownOf B hs i:=F.ok.own;rw[lb];obtain⟨p,d⟩:=F4 ow (Wi R+n) (SR _);refine⟨p,⟨λi hi hn=>?_,λk hk no=>lN _ no⟩⟩
 have inj:∀i j,i<Wi R+n->j<Wi R+n->hs.getD i 0=hs.getD j 0->i=j:=by
  intro i j hi hj e;refine Vb λne=>?_
  have h1:0<pt (B.getD i []) (hs.getD i 0):=F.ok.own i hi;have h2:pt (B.getD i []) (hs.getD j 0)=0:=F.ok.oth i j hi hj ne;rw[<- e] at h2;lia
 show ownOf B hs i*pt (cA B hs n (jW B hs (Wi R+n)) (Wi R+n)) (hs.getD i 0)=_;rw[lO inj hn _ (SR _) hi,Wo (Xv (d i hi) (Int.dvd_mul_left _ _)),Uc];have li:(B.getD i []).length=n+(Wi R+n)+1:=wb _ (SM (bY ∅));unfold a_;rw[li];rfl
end
abbrev Sh(B:List (List Int))(hs:List Nat)(i:Nat):Prop:=hs.Nodup/\B.length=hs.length/\i<(Wi B)/\a_ (B.getD i [])<0/\∀j,j<Wi B->a_ (B.getD j [])<0->hs.getD i 0<=hs.getD j 0
def Sh.uniq{hs:List Nat}(a:Sh B hs i)(b:Sh B hs j):i=j:=by
 obtain⟨nd,l,a1,a2,a3⟩:=a;obtain⟨_,_,b1,b2,b3⟩:=b;have h1:=a3 j b1 b2;have h2:=b3 i a1 a2;have e:hs.getD i 0=hs.getD j 0:=by lia
 rw[SK,SK,SN ∅,SN ∅] at e;exact(Zj (h₀:=∅) (h₁:=∅) nd).mp e
inductive Tl (n rn w:Nat):List (List Int)->List Nat->Bool×List Int->Prop
 |yes {B:List (List Int)} {hs:List Nat}:(∀r∈B,0<=a_ r)->Tl n rn w B hs (true,a7 (cA B hs n (jW B hs (Wi B)) (Wi B)))
 |no {B:List (List Int)} {hs:List Nat} {i:Nat}:Sh B hs i->(∀k,k<w->0<=pt (B.getD i []) k)->Tl n rn w B hs (false,((B.getD i []).drop n).take rn)
 |step {B:List (List Int)} {hs:List Nat} {i p:Nat} {r:Bool×List Int}:Sh B hs i->p<w->pt (B.getD i []) p<0->(∀k,k<p->0<=pt (B.getD i []) k)->Tl n rn w (dW B i p) (hs.set i p) r->Tl n rn w B hs r
def Sh.bad{hs:List Nat}(a:Sh B hs i)(h:∀r∈B,0<=a_ r):False:=by
 obtain⟨_,_,a1,a2,_⟩:=a
 have:=h _ (SM (bY a1))
 lia
def Tl.uniq{hs:List Nat}(h:Tl n rn w B hs r):∀{r'},Tl n rn w B hs r'->r=r':=by
 induction h with
 |yes a =>
  intro r' h';cases h' with
  |yes _=>rfl
  |no s _=>exact(s.bad a).elim
  |step s _ _ _ _=>exact(s.bad a).elim
 |no s u =>
  intro r' h';cases h' with
  |yes a=>exact(s.bad a).elim
  |no s' _=>rw[s.uniq s']
  |step s' pw lo _ _ =>
   have:=s.uniq s'
   subst this
   have:=u _ pw
   lia
 |step s pw lo fi _ ih =>
  intro r' h';cases h' with
  |yes a=>exact(s.bad a).elim
  |no s' u =>
   have:=s.uniq s'
   subst this
   have:=u _ pw
   lia
  |@step _ _ i' p' _ s' pw' lo' fi' t' =>
   have:=s.uniq s'
   subst this;rename_i p _ _
   have e:p=p':=by
    rcases Vd p p' with q|q|q
    .have:=fi' p q;lia
    .exact q
    .have:=fi p' q;lia
   subst e;exact ih t'
section
variable(R:List (List Int))(n:Nat)
abbrev Qs(r:Bool×List Int):Prop:=Tl n (Wi R) (n+(Wi R+n)) (mo (qM R n) (jB (Wi R) n)) (rR n (Wi R+n)) r
open Classical in
abbrev e_:Bool×List Int:=if h:∃r,Qs R n r then h.choose else (false,[])
def x_(h:Qs R n r):e_ R n=r:=by
 unfold e_;have e:∃r,Qs R n r:=⟨r,h⟩
 rw[dif_pos e];exact e.choose_spec.uniq h
structure Gb (r:Bool×List Int):Prop where
 yes:r.1=true->r.2.length=n/\(∀k,k<n->1<=pt r.2 k)/\∀i,i<Wi R->(sm n λk=>pt (R.getD i []) k*pt r.2 k)<=0
 no:r.1=false->r.2.length=(Wi R)/\(∀l,l<Wi R->0<=pt r.2 l)/\(∀k,k<n->0<=sm (Wi R) λl=>pt r.2 l*pt (R.getD l []) k)/\∃k,k<n/\0<sm (Wi R) λl=>pt r.2 l*pt (R.getD l []) k
 bnd:∀k,(pt r.2 k).natAbs<10 ^ 59
end
structure PI (R:List (List Int)) (n k:Nat) (B:List (List Int)) (hs:List Nat):Prop where
 lb:Wi B=Wi R+n
 lh:Wi hs=Wi R+n
 wb:Wide (n+(Wi R+n)+1) B
 fr:Bo.From (Wi R+n) (n+(Wi R+n)) n (xJ R n) (e9 B hs)
 rn:Bo.Rn (Wi R+n) (n+(Wi R+n)) (xJ R n) k (e9 B hs)
 tl:∀r,Tl n (Wi R) (n+(Wi R+n)) B hs r->Qs R n r
section
variable{R:List (List Int)}{n k:Nat}{B:List (List Int)}{hs:List Nat}
def PI.first(wd:Wide n R):PI R n 0 (mo (qM R n) (jB (Wi R) n)) (rR n (Wi R+n)):=by
 refine⟨by rw[mn,b_],?_,?_,zw wd,.z,λr h=>h⟩
 .unfold rR;rw[SJ,TD]
 .have:=y8 (es:=jB (Wi R) n) (dC wd)
  rw[b_] at this;exact this
def PI.nodup(P:PI R n k B hs):hs.Nodup:=by
 have o:=P.fr.ok;unfold List.Nodup;rw[Va];intro i j hi hj lt e;have lh:=P.lh;have e1:hs.getD i 0=hs[i]:=by rw[SK,SN hi];rfl
 have e2:hs.getD j 0=hs[j]:=by rw[SK,SN hj];rfl
 have h1:0<pt (B.getD i []) (hs.getD i 0):=o.own i ∅;have h2:pt (B.getD i []) (hs.getD j 0)=0:=o.oth i j ∅ ∅ ∅;rw[e1] at h1;rw[e2,<- e] at h2;lia
def PI.last(P:PI R n k B hs){i:Nat}(h:i<Wi B):a_ (B.getD i [])=pt (B.getD i []) (n+(Wi R+n)):=by
 unfold a_;rw[P.wb _ (SM (bY h))];rfl
def PI.few(wd:Wide n R)(P:PI R n k B hs):k+1<=2 ^ (n+(Wi R+n)):=P.rn.few (zw wd).ok
def PI.next(P:PI R n k B hs){p:Nat}(s:Sh B hs i)(pw:p<n+(Wi R+n))(low:pt (B.getD i []) p<0)(first:∀k,k<p->0<=pt (B.getD i []) k):PI R n (k+1) (dW B i p) (hs.set i p):=by
 obtain⟨lb,lh,wb,fr,rn,tl⟩:=P;have hi:=s.2.2.1
 have st:Bo.Stp (Wi R+n) (n+(Wi R+n)) (e9 B hs) (e9 (dW B i p) (hs.set i p)) i p:=by
  have:=Ec (w:=n+(Wi R+n)) (B:=B) (hs:=hs) (i:=i) (p:=p) (by rw[lb];exact fr.ok) wb ∅ hi pw (by
   have:=s.2.2.2.1
   rw[PI.last ⟨lb,lh,wb,fr,rn,tl⟩ hi] at this
   exact this) low first λj hj z=>s.2.2.2.2 j hj (by
   rw[PI.last ⟨lb,lh,wb,fr,rn,tl⟩ hj]
   exact z)
  rw[lb] at this;exact this
 refine⟨by rw[j9];exact lb,by rw[ZR];exact lh,Eb wb hi,?_,rn.s st,λr h=>tl r (.step s pw low first h)⟩;exact fr.step st λj hj ne d hd=>Ed (w:=n+(Wi R+n)) (hs:=hs) (by rw[lb];exact fr.ok) wb hi low ∅ ne d hd
abbrev big:Nat:=21*((2*(21*3)) ^ 20*3)
def PI.small(wd:Wide n R)(b3:∀r∈R,∀c∈r,c.natAbs<=3)(n0:0<n)(m21:Wi R+n<=21)(P:PI R n k B hs){i:Nat}(hi:i<Wi B)(q:Nat):(pt (B.getD i []) q).natAbs<=big:=by
 have lb:=P.lb;obtain⟨m,hm⟩:∃m,Wi R+n=m+1:=⟨(Wi R)+n-1,∅⟩
 have F:=P.fr;rw[hm] at F;have u:∀l,l<m+1->∀k,k<m+1->(xJ R n).L l (n+k)=if l=k then 1 else 0:=λl hl k hk=>kg wd ∅ ∅
 refine TQ (F.small u (M:=3) (by decide) (λl hl k=>uP wd b3 ∅ k) (i:=i) ∅ q) ?_;unfold big;refine YO ∅ (Zao 3 ?_);exact TQ (Xq ∅ m) (TM (by decide) ∅)
def F6:big<2 ^ 150:=by decide
def PI.cells(wd:Wide n R)(b3:∀r∈R,∀c∈r,c.natAbs<=3)(n0:0<n)(m21:Wi R+n<=21)(P:PI R n k B hs){r:List Int}(hr:r∈B){c:Int}(hc:c∈r):c.natAbs<2 ^ 150:=by
 obtain⟨i,hi⟩:=T2 hr;obtain⟨q,hq⟩:=T2 hc;have li:=(SL.mp hi).1;have e:=P.small wd b3 n0 m21 li q;rw[SK,hi] at e;unfold pt at e;rw[SK] at e;simp only[Zv,hq] at e;exact T8 e F6
def Ka{l h:List Int}{N:Nat}(hl:∀c∈l,c.natAbs<N)(hh:∀c∈h,c.natAbs<N)(N0:0<N):∀c∈fo l h p,c.natAbs<2*(N*N):=by
 have pl:∀{r:List Int},(∀c∈r,c.natAbs<N)->(pt r p).natAbs<N:=λ{r} hr=>by
  by_cases q:p<Wi r
  .exact hr _ (tw q)
  .rw[cX ∅];exact N0
 intro c hc;obtain⟨i,hi⟩:=T2 hc;unfold fo at hi;rw[Uj] at hi;cases e1:l[i]? with
 |none=>rw[e1] at hi;simp at hi
 |some x =>
  cases e2:h[i]? with
  |none=>rw[e1,e2] at hi;simp at hi
  |some y =>
   rw[e1,e2] at hi;cases hi;have m1:(pt h p*x).natAbs<N*N:=by rw[UM];exact X9 (pl hh) (hl x (SM e1))
   have m2:(pt l p*y).natAbs<N*N:=by rw[UM];exact X9 (pl hl) (hh y (SM e2))
   generalize pt h p*x=X at m1 ⊢;generalize pt l p*y=Y at m2 ⊢;generalize N*N=Z at m1 m2 ⊢;rw[ZbP];exact T8 (Zbu _ _) (Zcd m1 m2)
def LM{C:Nat}(P:PI R n k B hs)(sm_:∀i,i<Wi B->∀q,(pt (B.getD i []) q).natAbs<=C):∀x∈cA B hs n (jW B hs (Wi B)) (Wi B),x.natAbs<=C*C ^ (Wi B):=by
 intro x hx;obtain⟨q,hq⟩:=T2 hx;have lq:=(SL.mp hq).1;rw[d8 lq] at hq;have ex:=TH hq;obtain⟨b0,U⟩:=zv P.lb P.fr P.wb;have lb:=P.lb;rw[cK] at lq;by_cases h:∃i,i<Wi R+n/\hs.getD i 0=q
 .obtain⟨i,hi,e⟩:=h
  have:=U.hold i hi (by show hs.getD i 0<n;lia)
  have o:=P.fr.ok.own i hi
  have e2:pt (B.getD i []) (hs.getD i 0)*x=jW B hs (Wi B)*pt (B.getD i []) (n+(Wi R+n)):=by
   rw[<- ex,<- e];exact this
  have o':0<pt (B.getD i []) (hs.getD i 0):=o;have bl:=xG (B:=B) (hs:=hs) (m:=B.length) (C:=C) (λj hj=>⟨P.fr.ok.own j ∅,sm_ j hj _⟩) (Wi B) (SR _);have l1:=sm_ i ∅ (n+(Wi R+n));have e3:=congrArg Int.natAbs e2;rw[UM,UM] at e3;have h1:x.natAbs<=(pt (B.getD i []) (hs.getD i 0)).natAbs*x.natAbs:=XU _ ∅;have h2:=YO bl l1;rw[Xh C];lia
 .have:=U.none q lq λi hi e=>h ⟨i,hi,e⟩
  rw[this] at ex;rw[<- ex];exact T1 _
def PI.yes(wd:Wide n R)(b3:∀r∈R,∀c∈r,c.natAbs<=3)(n0:0<n)(w26:n+(Wi R+n)<=26)(P:PI R n k B hs)(h:∀r∈B,0<=a_ r):e_ R n=(true,a7 (cA B hs n (jW B hs (Wi B)) (Wi B)))/\Gb R n (true,a7 (cA B hs n (jW B hs (Wi B)) (Wi B))):=by
 refine⟨x_ R n (P.tl _ (.yes h)),?_⟩;have lb:=P.lb;obtain⟨b0,U⟩:=zv P.lb P.fr P.wb
 obtain⟨y1,y2,y3⟩:=Gs wd n0 b3 P.fr (λi hi=>by
  have:=h _ (SM (bY (B:=B) (j:=i) ∅))
  rw[P.last ∅] at this
  exact this) b0 (cK _ _ _ _ _) U
 refine⟨λ_=>⟨by show(a7 _).length=n;rw[cq,cK],y1,y2⟩,(λz=>by cases z),λk=>?_⟩;refine T8 (y3 k) ?_;refine T8 (TQ (Xq (show _<=162 by lia) _) (TM (by decide) w26)) ?_;decide
def qg{r:List Int}{n rn l:Nat}(h:l<rn):pt ((r.drop n).take rn) l=pt r (n+l):=by
 unfold pt;rw[SK,SK,VH h,WO]
def PI.no(wd:Wide n R)(b3:∀r∈R,∀c∈r,c.natAbs<=3)(n0:0<n)(m21:Wi R+n<=21)(P:PI R n k B hs)(s:Sh B hs i)(up:∀k,k<n+(Wi R+n)->0<=pt (B.getD i []) k):e_ R n=(false,((B.getD i []).drop n).take (Wi R))/\Gb R n (false,((B.getD i []).drop n).take (Wi R)):=by
 refine⟨x_ R n (P.tl _ (.no s up)),?_⟩;have lb:=P.lb;have hi:=s.2.2.1;have li:=P.wb _ (SM (bY hi));have sh:=s.2.2.2.1;rw[P.last hi] at sh;obtain⟨n1,n2⟩:=Kf wd P.fr (i:=i) ∅ sh up;have len:(((B.getD i []).drop n).take (Wi R)).length=Wi R:=by rw[Ta,Us];lia
 have cg:∀k,(sm (Wi R) λl=>pt (((B.getD i []).drop n).take (Wi R)) l*pt (R.getD l []) k)=sm (Wi R) λl=>(e9 B hs).L i (n+l)*pt (R.getD l []) k:=λk=>aQ λl hl=>by
  rw[qg hl];rfl
 refine⟨(λz=>by cases z),λ_=>⟨len,λl hl=>?_,λk hk=>?_,?_⟩,λk=>?_⟩
 .show 0<=pt (((B.getD i []).drop n).take (Wi R)) l;rw[qg hl];exact up _ ∅
 .show 0<=sm (Wi R) λl=>pt (((B.getD i []).drop n).take (Wi R)) l*pt (R.getD l []) k
  rw[cg];exact n1 k hk
 .obtain⟨k,hk,z⟩:=n2;refine⟨k,hk,?_⟩;show 0<sm (Wi R) λl=>pt (((B.getD i []).drop n).take (Wi R)) l*pt (R.getD l []) k
  rw[cg];exact z
 .show(pt (((B.getD i []).drop n).take (Wi R)) k).natAbs<10 ^ 59;by_cases hk:k<Wi R
  .rw[qg hk];exact T8 (P.small wd b3 n0 m21 hi _) (by decide)
  .rw[cX ∅];decide
end
open PySem L2 Fr G1 Sm Vs G2 Rk Sz Sf Rw
open PySem.W (Dat kqdOk)
def ON{H:Hp}{Q:VK}{c:V}{k:Nat}(h0:H l0=some (.lst [c]))(hk:k<=100)(h:∀l,H l=none->Q (.ref l) (upd H l (.lst (Tq k c)))):DR (.ref l0) (.int (k:Int)) H Q:=by
 refine⟨l0,(k:Int),_,rfl,rfl,h0,∅,∅,by rw[VJ];show 1*_<=_;lia,λl nl=>?_⟩;rw[Ul,XY];exact h l nl
def ym{K:Fg}{H:Hp}{xs zs:List V}{R Z:List (List Int)}(hq:H q=some (.lst (xs++zs)))(lx:Wi xs=Wi R)(hx:∀(i:Nat) (x:V) (r:List Int),xs[i]?=some x->R[i]?=some r->RowV H x r)(rz:RpL K S H zs (Z.map dL)):c4 H q (R++Z):=by
 have lz:Wi zs=Wi Z:=by rw[rz.length,SJ]
 refine⟨_,hq,by rw[To,To];lia,λi x r e1 e2=>?_⟩;rcases Uw i (Wi xs) with h|h
 .rw[TU h] at e1;rw[TU ∅] at e2;exact hx i x r e1 e2
 .rw[TV h] at e1;rw[TV ∅,<- lx] at e2;obtain⟨d,g1,g2⟩:=rz.get e1;rw[SO,e2] at g1;cases g1;obtain⟨b,rfl,_,hb⟩:=rj g2;exact⟨b,rfl,.inl hb⟩
def Q2{K:Fg}{H:Hp}{B:List (List Int)}(h:H p=some (.lst xs))(rx:RpL K S H xs (B.map dL)):LnAt H p B:=by
 refine⟨xs,h,by rw[rx.length,SJ],λi x r e1 e2=>?_⟩;obtain⟨d,g1,g2⟩:=rx.get e1;rw[SO,e2] at g1;cases g1;obtain⟨b,rfl,_,hb⟩:=rj g2;exact⟨b,rfl,hb⟩
def Oz{K:Fg}{B:List (List Int)}{o0:HO}(A:Acc K H0 p H (B.map dL))(hq:H0 q=some o0):LnAt (upd H q o) p B:=by
 obtain⟨xs,h1,h2⟩:=A.at_;refine⟨xs,by rw[aJ (ar hq A.new).symm];exact h1,by rw[h2.length,SJ],λi x r e1 e2=>?_⟩;obtain⟨d,g1,g2⟩:=h2.get e1;rw[SO,e2] at g1;cases g1;obtain⟨b,rfl,nb,hb⟩:=rj g2;exact⟨b,rfl,by rw[aJ (ar hq nb.1).symm];exact hb⟩
def My(xs:List V)(n k:Nat)(h:n+k<=Wi xs):eQ xs (some (n:Int)) (some ((n:Int)+(k:Int)))=(xs.drop n).take k:=by
 unfold eQ
 have e1:HT.sIx (Wi xs) 0 (some (n:Int))=n:=by
  show(if (n:Int)<0 then ((n:Int)+(Wi xs:Nat)).toNat else min (n:Int).toNat (Wi xs))=_;rw[if_neg ∅];lia
 have e2:HT.sIx (Wi xs) (Wi xs) (some ((n:Int)+(k:Int)))=n+k:=by
  show(if (n:Int)+(k:Int)<0 then ((n:Int)+(k:Int)+(Wi xs:Nat)).toNat else min ((n:Int)+(k:Int)).toNat (Wi xs))=_;rw[if_neg ∅];lia
 rw[e1,e2,VV]
abbrev IR(r:Bool×List Int):Dat:=.tuple [.bool r.1,dL r.2]
abbrev g7(K:Fg):Sp:=λvs H Q _=>∃(a b:Addr) (R:List (List Int)) (n:Nat),vs=[.ref a,.ref b]/\c4 H a R/\c4 H b (jP n)/\Wide n R/\0<n/\n<=8/\R.length+n<=21/\n+(Wi R+n)<=26/\(∀r∈R,∀c∈r,c.natAbs<=3) /\
 ∀(p:Addr) (H':Hp),Same H H'->Rp K (λa=>H a=none) H' (.ref p) (IR (e_ R n))->Gb R n (e_ R n)->Q (.ref p) H'
abbrev Bt(hs:List Nat):List V:=hs.map λk:Nat=>.int (k:Int)
abbrev Sa(B:List (List Int))(hs:List Nat)(v:V):Prop:=(v=.non/\∀r∈B,0<=a_ r)\/∃i:Nat,v=.int (i:Int)/\Sh B hs i
def ET{K:Fg}{R:List (List Int)}{n:Nat}{hs:List Nat}{Q:VK}(m21:Wi R+n<=21)(P:PI R n k B hs)(hB:LnAt H pB B)(hH:H pH=some (.lst (Bt hs)))(h:∀v H',Same H H'->Sa B hs v->Q v H'):kN K [.ref pB,.ref pH] H Q E:=by
 have lb:=P.lb;have lh:=P.lh;refine⟨pB,pH,B,hs,rfl,hB,hH,∅,∅,λr hr z=>?_,P.nodup,λH' S=>⟨λq=>h _ _ S (.inl ⟨rfl,q⟩),λi i1 i2 i3=>h _ _ S (.inr ⟨i,rfl,P.nodup,∅,i1,i2,i3⟩)⟩⟩
 have:=P.wb r hr
 rw[z] at this;cases this
structure HI (H:Hp) (H3:Hp) (pB pH:Addr) (B:List (List Int)) (hs:List Nat):Prop where
 same:Same H H3
 nH:H pH=none
 bd:LnAt H3 pB B
 hd:H3 pH=some (.lst (Bt hs))
def HI.on{hs:List Nat}(I:HI H H3 pB pH B hs)(S:Same H3 H4):HI H H4 pB pH B hs:=⟨I.same.trans S,I.nH,I.bd.same S,S _ _ I.hd⟩
def Ks{hs:List Nat}(wd:Wide n R)(b3:∀r∈R,∀c∈r,c.natAbs<=3)(n0:0<n)(m21:Wi R+n<=21)(P:PI R n k B hs)(s:Sh B hs i)(low:pt (B.getD i []) p<0):(∀r∈B,∀c∈r,c.natAbs<2 ^ 4000) /\
  ∀j,j<Wi B->j≠i->bq (fo (B.getD j []) (dY (B.getD i [])) p)≠0/\(bq (fo (B.getD j []) (dY (B.getD i [])) p)).natAbs<2 ^ 9000:=by
 have hi:=s.2.2.1;have le1:(2:Nat) ^ 150<=2 ^ 4000:=TM (by decide) (by decide);refine⟨λr hr c hc=>Ts (P.cells wd b3 n0 m21 hr hc) le1,λj hj ne=>?_⟩;have li:=P.wb _ (SM (bY hi));have lj:=P.wb _ (SM (bY hj));have lb:=P.lb;have nz:=BB (m:=R.length+n) (w:=n+(Wi R+n)) P.fr.ok ∅ ∅ ne low (by rw[dX];lia);refine⟨jj nz,?_⟩
 have bd:∀c∈fo (B.getD j []) (dY (B.getD i [])) p,c.natAbs<2 ^ 400:=by
  intro c hc
  have:=Ka (N:=2 ^ 150) (λc hc=>P.cells wd b3 n0 m21 (SM (bY hj)) hc) (λc hc=>by
   obtain⟨x,hx,rfl⟩:=Te.mp hc
   rw[Zap]
   exact P.cells wd b3 n0 m21 (SM (bY hi)) hx) (ZY 150) c hc
  exact Ts this (by decide)
 exact Ts (Fq nz bd) (TM (by decide) (by decide))
def LL{hs:List Nat}(wd:Wide n R)(b3:∀r∈R,∀c∈r,c.natAbs<=3)(n0:0<n)(m21:Wi R+n<=21)(P:PI R n k B hs):(∀i,i<Wi B->0<ownOf B hs i/\(ownOf B hs i).natAbs<2 ^ 8000/\(a_ (B.getD i [])).natAbs<2 ^ 8000)/\(∀j,j<=Wi B->(jW B hs j).natAbs<2 ^ 8000)/\∀x∈cA B hs n (jW B hs (Wi B)) (Wi B),x.natAbs<2 ^ 9000:=by
 have lb:=P.lb;have own:∀i,i<Wi B->0<ownOf B hs i:=λi hi=>P.fr.ok.own i ∅
 have sml:=λi (hi:i<Wi B) q=>P.small wd b3 n0 m21 hi q
 have b8:big<2 ^ 8000:=Ts F6 (TM (by decide) (by decide))
 have pw:∀j,j<=22->big ^ j<=2 ^ 3300:=λj hj=>by
  refine TQ (Xq (ZB F6) j) ?_;rw[<- Nat.pow_mul];exact TM (by decide) ∅
 have l8:(2:Nat) ^ 3300<2 ^ 8000:=U0 (by decide) (by decide);have l9:(2:Nat) ^ 3300<2 ^ 9000:=U0 (by decide) (by decide);refine⟨λi hi=>⟨own i hi,T8 (sml i hi _) b8,T8 (sml i hi _) b8⟩,λj hj=>?_,λx hx=>?_⟩
 .exact T8 (TQ (xG (m:=B.length) (C:=big) (λi hi=>⟨own i hi,sml i hi _⟩) j hj) (pw j ∅)) l8
 .refine T8 (TQ (LM P sml x hx) ?_) l9;rw[Xh,<- VY];exact pw _ ∅
nonrec def vz(K:Fg):TS:=(ak (aM (aO (ao wF (aa 6) (tC .non)))
 (aC (cP (ac (tC (.bl false)) (ac (CA (tm K) (ao (cQ K) (aa 3) (aa 5)) (g6 (aa 2)) (g6 (ao bG (aa 2) (aX (bf K) (ac (aa 0) ae))))) ae))))
 aP)
 (ak (aA (aw (pW K) [] E0 (ac (aa 3) (ac (aa 5) (ac (aa 6) ae)))) (aj 3))
 (ak (aA (aa 6) (IG (aa 4) (aa 5) K_))
 (aA (aw (kN K) [] E0 (ac (aa 3) (ac (aa 4) ae))) (aj 5)))))
nonrec def vy(K:Fg):TS:=(ak (kG (aO (ao ND (aa 5) (tC .non)))
 (ak (aA (aw (we K) [] E0 (ac (ao (cQ K) (aa 3) (aa 5)) ae)) (aj 6))
 (vz K)))
 (aC (cP (ac (tC (.bl true)) (ac (aw (kO K) [] E0 (ac (aa 3) (ac (aa 4) (ac (aa 2) ae)))) ae)))))
nonrec def vx(K:Fg):TS:=(ak (aA (aw (qb K) [] E0 (ac (ao wI (aa 0) (aw (yf K) [] E0 (ac (aa 1) ae))) (ac (ao wI (ao DR (cS (ac (tC (.int 0)) ae)) (aX (bf K) (ac (aa 0) ae))) (ao DR (cS (ac (Cz (rU λi=>.int (-i)) (tC (.int 1))) ae)) (aX (bf K) (ac (aa 1) ae)))) ae))) (aj 3))
 (ak (aA (gE (ac (aa 2) (ac (ao bG (aa 2) (aX (bf K) (ac (aa 3) ae))) ae))) (aj 4))
 (ak (aA (aw (kN K) [] E0 (ac (aa 3) (ac (aa 4) ae))) (aj 5))
 (vy K))))
abbrev kx(K:Fg):TS:=(ak (aA (aX (bf K) (ac (ao (cQ K) (aa 1) (tC (.int 0))) ae)) (aj 2))
 (vx K))
def Ay{K:Fg}{N:List Str}(hN:Wi N=7)(h:g7 K vs H Q E):kx K (ends Q) (L2.start N vs) H:=by
 obtain⟨a,b,R,n,rfl,⟨xs,ha,lx,hx⟩,⟨ys,hb,ly,hy⟩,wd,n0,n8,m21,w26,b3,k⟩:=h;rw[L2.aK hN];walk_at "t";unfold kx;have ly':Wi ys=n:=by rw[ly,d_]
 obtain⟨y0,ey0⟩:∃y,ys[0]?=some y:=⟨_,SN ∅⟩
 have rv0:=hy 0 y0 _ ey0 (ig n0);cbv;refine dm (SqL.of hb) (v:=y0) (ba (j:=0) ey0) ?_;cbv;refine EW rv0 ?_;rw[c7];cbv;refine⟨b,jP n,rfl,⟨ys,hb,ly,hy⟩,by rw[d_];lia,λr hr=>?_,λo H1 A1=>?_⟩
 .obtain⟨j,_,rfl⟩:=Te.mp hr;rw[c7];lia
 obtain⟨zs,ho,rz⟩:=A1.at_;have lz:Wi zs=n:=by rw[rz.length,SJ,SJ,d_]
 have S1:=A1.same;refine⟨a,o,_,_,rfl,rfl,S1 _ _ ha,ho,by rw[VJ];lia,λq nq=>?_⟩;have S2:=S1.trans (af nq (.lst (xs++zs)));have rq:c4 (upd H1 q (.lst (xs++zs))) q (qM R n):=ym ag lx (λi x r e1 e2=>(hx i x r e1 e2).same S2) (rz.same (af nq _));generalize upd H1 q (.lst (xs++zs))=H2 at S2 rq ⊢;clear rz ho A1 S1 nq;cbv;refine⟨iW,λl0 nl0=>?_⟩;have S3:=S2.trans (af nl0 (.lst [.int 0]));have rq3:=rq;have h0:upd H2 l0 (.lst [.int 0]) l0=some (.lst [.int 0]):=ag;have T3:=af nl0 (.lst [V.int 0]);generalize upd H2 l0 (.lst [.int 0])=H3 at S3 h0 T3 ⊢;cbv;refine bP (SqL.of (S3 _ _ ha)) ?_;rw[lx];cbv;refine ON h0 ∅ λl1 nl1=>?_
 have T4:=T3.trans (af nl1 (.lst (Tq (Wi R) (.int 0))));have h1:upd H3 l1 (.lst (Tq (Wi R) (.int 0))) l1=some (.lst (Tq (Wi R) (.int 0))):=ag;generalize upd H3 l1 (.lst (Tq (Wi R) (.int 0)))=H4 at T4 h1 ⊢;cbv;refine⟨iW,λl2 nl2=>?_⟩;have T5:=T4.trans (af nl2 (.lst [.int (-1)]));have h15:=af nl2 (.lst [V.int (-1)]) _ _ h1;have h2:upd H4 l2 (.lst [.int (-1)]) l2=some (.lst [.int (-1)]):=ag;generalize upd H4 l2 (.lst [.int (-1)])=H5 at T5 h15 h2 ⊢;cbv;refine bP (SqL.of (T5 _ _ (S2 _ _ hb))) ?_;rw[ly'];cbv;refine ON h2 ∅ λl3 nl3=>?_
 have T6:=T5.trans (af nl3 (.lst (Tq n (.int (-1)))));have h16:=af nl3 (.lst (Tq n (V.int (-1)))) _ _ h15;have h3:upd H5 l3 (.lst (Tq n (.int (-1)))) l3=some (.lst (Tq n (.int (-1)))):=ag;generalize upd H5 l3 (.lst (Tq n (.int (-1))))=H6 at T6 h16 h3 ⊢;refine⟨l1,l3,_,_,rfl,rfl,h16,h3,by rw[Up,Up,VJ];lia,λe ne=>?_⟩;have ee:Tq (Wi R) (V.int 0)++Tq n (.int (-1))=(jB (Wi R) n).map V.int:=by unfold jB;rw[SV,YQ,YQ]
 rw[ee];have T7:=T6.trans (af ne (.lst ((jB (Wi R) n).map V.int)));have he:upd H6 e (.lst ((jB (Wi R) n).map V.int)) e=some (.lst ((jB (Wi R) n).map V.int)):=ag;generalize upd H6 e (.lst ((jB (Wi R) n).map V.int))=H7 at T7 he ⊢;cbv
 have rq7:c4 H7 q (qM R n):=by
  obtain⟨us,g1,g2,g3⟩:=rq;exact⟨us,T7 _ _ g1,g2,λi x r e1 e2=>(g3 i x r e1 e2).same T7⟩
 refine⟨q,e,qM R n,jB (Wi R) n,rfl,rq7,he,by rw[Mu,b_],by rw[b_];lia,λr hr=>by rw[dC wd r hr];lia,λpB H8 A8=>?_⟩;have S8:=(S2.trans T7).trans A8.same;obtain⟨bs,hbs,rbs⟩:=A8.at_;have lbs:bs.length=R.length+n:=by rw[rbs.length,SJ,mn,b_]
 have ln8:=Q2 hbs rbs;have P0:=PI.first wd;clear A8 rbs T7 T6 T5 T4 T3 h16 h15 h3 h2 h1 h0 rq rq3 rq7 he nl0 nl1 nl2 nl3 ne S3 S2;generalize mo (qM R n) (jB (Wi R) n)=B0 at P0 ln8;cbv;refine um ?_;cbv;refine bP (SqL.of hbs) ?_;rw[lbs];cbv;refine⟨n,Wi R+n,by rw[Zb1 n (Wi R+n)],∅,∅,λpH nH=>?_⟩;have eh:((TC (Wi R+n)).map λk:Nat=>V.int ((n+k:Nat):Int))=Bt (rR n (Wi R+n)):=by unfold Bt rR;rw[UV];rfl
 rw[eh];have I0:HI H (upd H8 pH (.lst (Bt (rR n (Wi R+n))))) pB pH B0 (rR n (Wi R+n)):=⟨S8.trans (af nH _),S8.free nH,ln8.same (af nH _),ag⟩
 generalize upd H8 pH (.lst (Bt (rR n (Wi R+n))))=H9 at I0 ⊢;clear ln8 hbs lbs S8 nH eh;generalize rR n (Wi R+n)=h00 at I0 P0;cbv;refine ET m21 P0 I0.bd I0.hd λv H10 S10 av=>?_
 cbv;refine yP (λm σ H3=>∃(j:Nat) (B:List (List Int)) (hs:List Nat) (pB:Addr) (v:V) (u6:Option V),m=2 ^ (n+(Wi R+n))-j/\σ=[⇑a,⇑b,↥(n:Int),⇑pB,⇑pH,some v,u6]/\PI R n j B hs/\HI H H3 pB pH B hs/\Sa B hs v) _ ⟨0,B0,h00,pB,v,none,rfl,rfl,P0,I0.on S10,av⟩ ?_;clear P0 I0 av S10 v pB B0 h00;rintro m σ H3 ⟨j,B,hs,pB,v,u6,rfl,rfl,P,I,av⟩;have few:=P.few wd;have lb:=P.lb;have lh:=P.lh;cbv;rcases av with⟨rfl,all⟩|⟨i,rfl,s⟩
 .refine be (λz=>absurd rfl z) (λ_=>?_);cbv;obtain⟨o1,o2,o3⟩:=LL wd b3 n0 m21 P;obtain⟨y1,y2⟩:=P.yes wd b3 n0 w26 all;refine⟨pB,pH,B,hs,n,n+(Wi R+n),rfl,I.bd,I.hd,∅,∅,P.wb,λh hh=>?_,o1,o2,o3,λq H4 A4=>?_⟩
  .obtain⟨t,ht⟩:=T2 hh;have lt:=(SL.mp ht).1
   have:hs.getD t 0<_:=P.fr.ok.lt t ∅
   rw[SK,ht] at this;exact this
  refine⟨bF,λp np=>?_⟩;have S:=af np (.tup [.bl true,.ref q]);refine k p _ ((I.same.trans A4.same).trans S) ?_ (by rw[y1];exact y2);rw[y1];exact .tup ag (.cons (.bl true) (.cons (rg (I.same.free A4.new) (S _ _ (AccZ.ints A4))) .nil))
 .refine be (λ_=>?_) (λz=>by cases z);have hi:=s.2.2.1;have li:=P.wb _ (SM (bY hi));obtain⟨bs,hbs,lbs,rbs⟩:=I.bd;obtain⟨c,ec,hc⟩:=LnAt.get (a:=pB) lbs rbs (bY hi);refine⟨λσ' H'=>∃(B:List (List Int)) (hs:List Nat) (pB:Addr) (v:V) (u6:Option V),σ'=[⇑a,⇑b,↥(n:Int),⇑pB,⇑pH,some v,u6]/\PI R n (j+1) B hs/\HI H H' pB pH B hs/\Sa B hs v,(by rintro σ' H' ⟨B,hs,pB,v,u6,e,q⟩;exact ⟨2 ^ (n+(Wi R+n))-(j+1),∅,j+1,B,hs,pB,v,u6,rfl,e,q⟩),?_⟩;cbv;refine dm (SqL.of hbs) (ba ec) ?_;cbv;refine⟨c,B.getD i [],n+(Wi R+n),rfl,hc,li,∅,λH4 S4=>⟨λup=>?_,λp pw low first=>?_⟩⟩
  .cbv;refine aV (λ_=>?_) (λz=>absurd rfl z);cbv;refine dm (SqL.of (S4 _ _ hbs)) (ba ec) ?_;cbv;refine bP (SqL.of (S4 _ _ (I.same _ _ ha))) ?_;rw[lx];cbv;refine⟨c,_,rfl,SqL.of (S4 _ _ hc),λt nt=>?_⟩;rw[My _ _ _ (by rw[SJ];lia),<- Zg,<- ZaM];obtain⟨y1,y2⟩:=P.no wd b3 n0 m21 s up;have S5:=(I.same.trans S4).trans (af nt (.lst ((((B.getD i []).drop n).take (Wi R)).map V.int)));have h5:upd H4 t (.lst ((((B.getD i []).drop n).take (Wi R)).map V.int)) t=some (.lst ((((B.getD i []).drop n).take (Wi R)).map V.int)):=ag;have nt0:=(I.same.trans S4).free nt;generalize upd H4 t (.lst ((((B.getD i []).drop n).take (Wi R)).map V.int))=H5 at S5 h5 ⊢;refine⟨bF,λp np=>?_⟩;have S:=af np (.tup [.bl false,.ref t]);refine k p _ (S5.trans S) ?_ (by rw[y1];exact y2);rw[y1];exact .tup ag (.cons (.bl false) (.cons (rg nt0 (S _ _ h5)) .nil))
  .cbv;refine aV (λz=>by cases z) (λ_=>?_);cbv;obtain⟨c1,c2⟩:=Ks wd b3 n0 m21 P s low;have I4:=I.on S4;refine⟨pB,B,i,p,n+(Wi R+n)+1,rfl,I4.bd,hi,∅,∅,P.wb,∅,c1,c2,λq H5 A5=>?_⟩;cbv;refine JM (uk (i:=4) rfl (uk (i:=5) rfl ?_));refine⟨pH,_,_,i,rfl,rfl,A5.same _ _ I4.hd,?_,?_⟩
   .unfold Bs Bt;rw[if_pos ∅,if_pos (by rw[SJ];lia)];simp
   .have eq:(Bt hs).set i (.int (p:Int))=Bt (hs.set i p):=by unfold Bt;rw[List.map_set]
    rw[eq];have P2:=P.next s pw low first;have I6:HI H (upd H5 pH (.lst (Bt (hs.set i p)))) q pH (dW B i p) (hs.set i p):=⟨λx o e=>by rw[aJ (ar e I4.nH)];exact A5.same _ _ (I4.same x o e),I4.nH,Oz A5 I4.hd,ag⟩
    generalize upd H5 pH (.lst (Bt (hs.set i p)))=H6 at I6 ⊢;cbv;refine ET m21 P2 I6.bd I6.hd λv H7 S7 av=>?_
    cbv;exact⟨_,_,_,_,_,rfl,P2,I6.on S7,av⟩
abbrev dbl(R:List (List Int)):List (List Int):=R++R.map dY
abbrev q_(y:List Int)(a:Nat):List Int:=UD (λs t=>s-t) (y.take a) (y.drop a)
abbrev xH (R:List (List Int)) (n:Nat):Bool×List Int:=if (e_ (dbl R) n).1=true then e_ (dbl R) n else (false,q_ (e_ (dbl R) n).2 (Wi R))
structure Jh (R:List (List Int)) (n:Nat) (r:Bool×List Int):Prop where
 yes:r.1=true->r.2.length=n/\(∀k,k<n->1<=pt r.2 k)/\∀i,i<Wi R->(sm n λk=>pt (R.getD i []) k*pt r.2 k)=0
 no:r.1=false->r.2.length=(Wi R)/\(∀k,k<n->0<=sm (Wi R) λl=>pt r.2 l*pt (R.getD l []) k)/\∃k,k<n/\0<sm (Wi R) λl=>pt r.2 l*pt (R.getD l []) k
 bnd:∀k,(pt r.2 k).natAbs<10 ^ 60
def gS(R:List (List Int)):(dbl R).length=Wi R+Wi R:=by unfold dbl;rw[To,SJ]
def FL{R:List (List Int)}{i:Nat}(h:i<Wi R):(dbl R).getD i []=R.getD i []:=by
 unfold dbl;rw[SK,TU h,SK]
def FM{R:List (List Int)}{i:Nat}(h:i<Wi R):(dbl R).getD (Wi R+i) []=dY (R.getD i []):=by
 unfold dbl;rw[SK,TV ∅,VV,SO,bY h];rfl
def IQ(wd:Wide n R):Wide n (dbl R):=λr hr=>by
 rcases Tv.mp hr with h|h
 .exact wd r h
 .obtain⟨o,ho,rfl⟩:=Te.mp h;rw[dX];exact wd o ho
def FK{R:List (List Int)}(b3:∀r∈R,∀c∈r,c.natAbs<=3):∀r∈dbl R,∀c∈r,c.natAbs<=3:=λr hr c hc=>by
 rcases Tv.mp hr with h|h
 .exact b3 r h c hc
 .obtain⟨o,ho,rfl⟩:=Te.mp h;obtain⟨x,hx,rfl⟩:=Te.mp hc;rw[Zap];exact b3 o ho x hx
def qZ{y:List Int}{a:Nat}(h:y.length=a+a):(q_ y a).length=a:=by
 unfold q_;rw[Vz,Ta,Us];lia
def JY{y:List Int}{a l:Nat}(h:y.length=a+a)(hl:l<a):pt (q_ y a) l=pt y l-pt y (a+l):=by
 have e:(q_ y a)[l]?=some (pt y l-pt y (a+l)):=by
  unfold q_;rw[Uj,VH hl,WO,d8 ∅,d8 ∅]
 rw[show pt (q_ y a) l=((q_ y a)[l]?).getD 0 from by unfold pt;rw[SK],e];rfl
def Ng(n:Nat)(f:Nat->Int):sm n (λk=>- f k) = - sm n f:=by
 rw[show(λk=>- f k)=λk=>(-1)*f k from funext λk=>by rw[U4],bJ,U4]
def R3(h:Gb (dbl R) n (e_ (dbl R) n)):Jh R n (xH R n):=by
 unfold xH;generalize e_ (dbl R) n=r at h ⊢;obtain⟨b,y⟩:=r;have lt:(10:Nat) ^ 59<10 ^ 60:=by decide
 have hb:=h.bnd;cases b with
 |true =>
  rw[if_pos rfl];obtain⟨y1,y2,y3⟩:=h.yes rfl;refine⟨λ_=>⟨y1,y2,λi hi=>?_⟩,λz=>Zq z,λk=>UC (hb k) lt⟩;have p:=y3 i (by rw[gS];lia);have q:=y3 (Wi R+i) (by rw[gS];lia);rw[FL hi] at p;rw[FM hi,aQ (g:=λk=>- (pt (R.getD i []) k*pt y k)) λk _=>by rw[jx,VB],Ng] at q;show(sm n λk=>pt (R.getD i []) k*pt y k)=0;have p':(sm n λk=>pt (R.getD i []) k*pt y k)<=0:=p;lia
 |false =>
  rw[if_neg Th];obtain⟨n1,n2,n3,n4⟩:=h.no rfl;rw[gS] at n1 n2;have len:y.length=R.length+Wi R:=n1
  have e:∀k,(sm (Wi R) λl=>pt (q_ y (Wi R)) l*pt (R.getD l []) k)=sm (dbl R).length λl=>pt y l*pt ((dbl R).getD l []) k:=by
   intro k;rw[gS,hV,<- Bo.hZ];refine aQ λl hl=>?_
   rw[JY len hl,FL hl,FM hl,jx,ZbR,V3];rfl
  refine⟨λz=>Zq z,λ_=>⟨qZ len,λk hk=>?_,?_⟩,λk=>?_⟩
  .show 0<=sm (Wi R) λl=>pt (q_ y (Wi R)) l*pt (R.getD l []) k
   rw[e];exact n3 k hk
  .obtain⟨k,hk,z⟩:=n4;refine⟨k,hk,?_⟩;show 0<sm (Wi R) λl=>pt (q_ y (Wi R)) l*pt (R.getD l []) k
   rw[e];exact z
  .show(pt (q_ y (Wi R)) k).natAbs<10 ^ 60;by_cases hk:k<Wi R
   .rw[JY len hk];have h1:(pt y k).natAbs<10 ^ 59:=hb k;have h2:(pt y (Wi R+k)).natAbs<10 ^ 59:=hb (Wi R+k);have e3:(10:Nat) ^ 60=10*10 ^ 59:=by decide
    rw[e3];generalize (10:Nat) ^ 59=T at h1 h2 ⊢;exact T8 (Zbu _ _) (Ts (Zcd h1 h2) ∅)
   .rw[cX (by rw[qZ len];lia)];decide
def CV(f:Nat->Int):∀n,((TC n).map f).sum=sm n f
 |0=>rfl
 |n+1=>by rw[WW,SV,List.sum_append,CV f n];show sm n f+(f n+0)=_;rw[VZ];rfl
def M1:∀(n:Nat) (m r:List Int),m.length=n->Wi r=n->(UD (· * ·) m r).sum=sm n λq=>pt r q*pt m q
 |n,m,r,h1,h2=>by
  rw[<- CV];congr 1;refine W1 λi=>?_
  rw[Uj,SO];by_cases h:i<n
  .rw[d8 (r:=m) ∅,d8 (r:=r) ∅,TR h];show some (pt m i*pt r i)=some (pt r i*pt m i);rw[Uc]
  .rw[TL (l:=m) ∅,TL (l:=TC n) (by rw[TD];lia)];rfl
end Br
namespace Br
open PySem L2 Fr G1 Sm Vs G2 Rk Sz Sf Rw Cl
open PySem.W (Dat kqdOk)
open PyProof.Rows
def o4{K:Fg}(h:Rp K S H v (IR r)):∃p l,v=.ref p/\H p=some (.tup [.bl r.1,.ref l])/\S l/\H l=some (.lst (r.2.map V.int)):=by
 obtain⟨p,xs,rfl,hp,rx⟩:=Rp.bI h;cases rx with
 |cons r1 rr =>
  cases rr with
  |cons r2 rr =>
   cases rr;cases r1;obtain⟨l,rfl,s,hl⟩:=rj r2;exact⟨p,l,rfl,hp,s,hl⟩
def IS(xs:List V){k:Nat}(h:k<=Wi xs):eQ xs none (some (k:Int))=xs.take k:=by
 unfold eQ;have e1:HT.sIx (Wi xs) 0 none=0:=rfl
 have e2:HT.sIx (Wi xs) (Wi xs) (some (k:Int))=k:=by
  show(if (k:Int)<0 then ((k:Int)+(Wi xs:Nat)).toNat else min (k:Int).toNat (Wi xs))=_;rw[if_neg ∅];lia
 rw[e1,e2,YH,Zbt]
def h_(h:c4 H a R)(S:Same H H'):c4 H' a R:=by
 obtain⟨us,g1,g2,g3⟩:=h;exact⟨us,S _ _ g1,g2,λi x r e1 e2=>(g3 i x r e1 e2).same S⟩
abbrev fZ(K:Fg):Sp:=λvs H Q _=>∃(a b:Addr) (R:List (List Int)) (n:Nat),vs=[.ref a,.ref b]/\c4 H a R/\c4 H b (jP n)/\Wide n R/\0<n/\n<=8/\R.length+R.length+n<=21/\n+(Wi R+Wi R+n)<=26/\(∀r∈R,∀c∈r,c.natAbs<=3) /\
 ∀(p:Addr) (H':Hp),Same H H'->Rp K (λa=>H a=none) H' (.ref p) (IR (xH R n))->Jh R n (xH R n)->Q (.ref p) H'
nonrec def sj(K:Fg):TS:=(ak (aA (CA (tm K) (ao (aH K) (aa 2) (tC (.int 1))) (g6 (aX (bf K) (ac (aa 0) ae))) fz) (aj 4))
 (aC (cP (ac (tC (.bl false)) (ac (cC (iq K .L .L (ac (aa 3) (ac (aa 4) ae))) 2 (bZ K 2 (aR (aj 0) (aR (aj 1) b4))) (ao nv (aa 0) (aa 1))) ae)))))
abbrev iQ(K:Fg):TS:=(ak (aA (aw (g7 K) [] E0 (ac (ao wI (aa 0) (aw (yf K) [] E0 (ac (aa 0) ae))) (ac (aa 1) ae))) (aj 2))
 (ak (aM (tB (ao (aH K) (aa 2) (tC (.int 0))))
 (aC (aa 2))
 aP)
 (ak (aA (CA (tm K) (ao (aH K) (aa 2) (tC (.int 1))) fz (g6 (aX (bf K) (ac (aa 0) ae)))) (aj 3))
 (sj K))))
def wC{K:Fg}{N:List Str}(hN:Wi N=5)(h:fZ K vs H Q E):iQ K (ends Q) (L2.start N vs) H:=by
 obtain⟨a,b,R,n,rfl,⟨xs,ha,lx,hx⟩,rb,wd,n0,n8,m21,w26,b3,k⟩:=h;rw[L2.aK hN];walk_at "t";unfold iQ;cbv;refine⟨a,R,rfl,⟨xs,ha,lx,hx⟩,∅,λr hr=>by rw[wd r hr];lia,λo H1 A1=>?_⟩;obtain⟨zs,ho,rz⟩:=A1.at_;have lz:Wi zs=Wi R:=by rw[rz.length,SJ,SJ]
 have S1:=A1.same;refine⟨a,o,_,_,rfl,rfl,S1 _ _ ha,ho,by rw[VJ];lia,λq nq=>?_⟩;have S2:=S1.trans (af nq (.lst (xs++zs)));have rq:c4 (upd H1 q (.lst (xs++zs))) q (dbl R):=ym ag lx (λi x r e1 e2=>(hx i x r e1 e2).same S2) (rz.same (af nq _));generalize upd H1 q (.lst (xs++zs))=H2 at S2 rq ⊢;clear rz ho A1 S1 nq;cbv;refine⟨q,b,dbl R,n,rfl,rq,h_ rb S2,IQ wd,n0,n8,by rw[gS];exact m21,by rw[gS];exact w26,FK b3,λp H3 S3 r3 ok3=>?_⟩;have ok:=R3 ok3;have len:(e_ (dbl R) n).1=false->(e_ (dbl R) n).2.length=Wi R+Wi R:=λz=>by rw[(ok3.no z).1,gS]
 clear ok3;have eb:xH R n=if (e_ (dbl R) n).1=true then e_ (dbl R) n else (false,q_ (e_ (dbl R) n).2 (Wi R)):=rfl
 generalize e_ (dbl R) n=st at r3 eb len;obtain⟨bb,y⟩:=st;obtain⟨p',l,ep,hp,nl,hl⟩:=o4 r3;cases ep;have S03:=S2.trans S3;cbv;refine aN (SqT.of hp) (v:=.bl bb) rfl ?_;cbv;cases bb with
 |true =>
  refine L7 rfl ?_;rw[if_pos rfl] at eb;cbv;refine k p H3 S03 ?_ ok;rw[eb];exact r3.mono λc z=>S2.free z
 |false =>
  refine L8 rfl ?_;rw[if_neg Th] at eb;have ly:y.length=R.length+Wi R:=len rfl;have hl':H3 l=some (.lst (y.map V.int)):=hl;cbv;refine aN (SqT.of hp) (v:=.ref l) rfl ?_;cbv;refine bP (SqL.of (S03 _ _ ha)) ?_;rw[lx];cbv;refine⟨l,_,rfl,SqL.of hl',λt1 nt1=>?_⟩;rw[IS _ (by rw[SJ];lia),<- ZaM];have S4:=af nt1 (.lst ((y.take (Wi R)).map V.int));have h4:upd H3 t1 (.lst ((y.take (Wi R)).map V.int)) t1=some (.lst ((y.take (Wi R)).map V.int)):=ag;generalize upd H3 t1 (.lst ((y.take (Wi R)).map V.int))=H4 at S4 h4 ⊢;cbv;refine aN (SqT.of (S4 _ _ hp)) (v:=.ref l) rfl ?_;cbv;refine bP (SqL.of (S4 _ _ (S03 _ _ ha))) ?_;rw[lx];cbv;refine⟨l,_,rfl,SqL.of (S4 _ _ hl'),λt2 nt2=>?_⟩;rw[uz,<- Zg];have S5:=af nt2 (.lst ((y.drop (Wi R)).map V.int));have h45:=S5 _ _ h4;have h5:upd H4 t2 (.lst ((y.drop (Wi R)).map V.int)) t2=some (.lst ((y.drop (Wi R)).map V.int)):=ag;have S05:=(S03.trans S4).trans S5;generalize upd H4 t2 (.lst ((y.drop (Wi R)).map V.int))=H5 at S5 h45 h5 S05 ⊢;cbv;refine⟨t1,t2,_,_,rfl,SqL.of h45,SqL.of h5,?_⟩;have ml:min ((y.take (Wi R)).map V.int).length ((y.drop (Wi R)).map V.int).length=(q_ y (Wi R)).length:=by rw[qZ ly,SJ,SJ,Ta,Us];lia
  have dl:=qZ ly;refine ga (k1:=.L) (k2:=.L) (xs:=(y.take (Wi R)).map V.int) (ys:=(y.drop (Wi R)).map V.int) λD nD=>⟨λi H6=>AccZ K H5 D H6 (((q_ y (Wi R)).take i).map TW),by simpa using AccZ.start (Same.refl _) nD,λi H6 _ A=>⟨SqL.of (A.same _ _ h45),SqL.of (A.same _ _ h5)⟩,?_,?_⟩
  .intro i y1 y2 H6 T e1 e2 A nT us hu
   obtain⟨u0,u1,rfl⟩:∃u0 u1,us=[u0,u1]:=ex2 hu
   rw[SO] at e1 e2;obtain⟨m1,f1,rfl⟩:=SU.mp e1;obtain⟨m2,f2,rfl⟩:=SU.mp e2;have ec:(q_ y (Wi R))[i]?=some (m1-m2):=by unfold q_;rw[Uj,f1,f2]
   have li:i<(q_ y (Wi R)).length:=(SL.mp ec).1;refine bv (SqT.of ag) rfl ?_;cbv;refine⟨⟨[↥m1,↥m2],rfl,rfl⟩,?_⟩;cbv;refine aI (by rw[ml];exact li) ?_;refine(A.on (af nT _)).bA (.int (m1-m2)) (am (by rw[SJ,Ta];lia)) λH7 A7=>?_
   show AccZ K H5 D H7 (((q_ y (Wi R)).take (i+1)).map TW);rw[Tc,ec,SV];exact A7
  .intro H6 A;rw[ml,SX (SR _)] at A;cbv;refine⟨bF,λpp np=>?_⟩;have S:=af np (.tup [.bl false,.ref D]);refine k pp _ ((S05.trans A.same).trans S) ?_ ok;rw[eb];exact .tup ag (.cons (.bl false) (.cons (rg (S05.free A.new) (S _ _ (AccZ.ints A))) .nil))
def Sg(co:uW w ts):∀r∈ts.map cO,∀c∈r,c.natAbs<=3:=λr hr c hc=>by
 have:=co.bnd r hr c hc
 have e:(2:Nat) ^ 2=4:=rfl;rw[e] at this;lia
abbrev vV(f:List Str->List Tn->Bool×List Int)(ok:List Str->List Tn->Prop)(K:Fg):Sp:=λvs H Q _=>∃(v:V) (ws:List Str) (ts:List Tn),vs=[v]/\Rz K H v (dV ws ts)/\uW (Wi ws) ts/\1<=(Wi ws)/\ts≠[]/\∀(p:Addr) (H':Hp),Same H H'->Rp K (λa=>H a=none) H' (.ref p) (IR (f ws ts))->ok ws ts->Q (.ref p) H'
abbrev GV (ws:List Str) (ts:List Tn):Bool×List Int:=e_ (ts.map cO) (Wi ws)
abbrev Il (ws:List Str) (ts:List Tn):Bool×List Int:=xH (ts.map cO) (Wi ws)
abbrev Do (ws:List Str) (ts:List Tn):Bool×List Int:=xH (a5 (Wi ws) (ts.map cO)) (Wi ts)
abbrev gH:Fg->Sp:=vV GV λws ts=>Gb (ts.map cO) ws.length (GV ws ts)
abbrev kP:Fg->Sp:=vV Il λws ts=>Jh (ts.map cO) ws.length (Il ws ts)
abbrev gI:Fg->Sp:=vV Do λws ts=>Jh (a5 ws.length (ts.map cO)) ts.length (Do ws ts)
abbrev gC(K:Fg):TS:=(aC (aw (g7 K) [] E0 (ac (aw (oj K) [] E0 (ac (aa 0) ae)) (ac (aw (gF K) [] E0 (ac (aX (bf K) (ac (ao (aH K) (aa 0) (tC (.int 0))) ae)) ae)) ae))))
def sY{K:Fg}{N:List Str}(hN:Wi N=1)(h:gH K vs H Q E):gC K (ends Q) (L2.start N vs) H:=by
 obtain⟨v,ws,ts,rfl,rv,co,w1,tne,k⟩:=h;have t8:=co.le;have w5:=co.w5;have rv0:=rv;obtain⟨a,v1,v2,rfl,ha,r1,_⟩:=jU rv;obtain⟨b,xs,rfl,hb,rx⟩:=r1.bI;have lx:Wi xs=ws.length:=by rw[rx.length,SJ]
 rw[L2.aK hN];walk_at "t";unfold gC;cbv;refine⟨.ref a,ws,ts,rfl,rv0,∅,λt ht=>by rw[co.fr t ht];lia,λp H1 A1=>?_⟩;cbv;refine aN (SqT.of (A1.same _ _ ha)) (v:=.ref b) rfl ?_;cbv;refine cY (SqT.of (A1.same _ _ hb)) ?_;rw[lx];cbv;refine⟨ws.length,rfl,∅,λu H2 A2=>?_⟩;cbv;refine⟨p,u,ts.map cO,ws.length,rfl,h_ (Nq A1) A2.same,Dp A2,co.wide,∅,∅,by rw[SJ];lia,by rw[SJ];lia,Sg co,λq H3 S3 r3 ok=>?_⟩;exact k q H3 ((A1.same.trans A2.same).trans S3) (r3.mono λc z=>(A1.same.trans A2.same).free z) ok
abbrev kB(K:Fg):TS:=(aC (aw (fZ K) [] E0 (ac (aw (oj K) [] E0 (ac (aa 0) ae)) (ac (aw (gF K) [] E0 (ac (aX (bf K) (ac (ao (aH K) (aa 0) (tC (.int 0))) ae)) ae)) ae))))
def AB{K:Fg}{N:List Str}(hN:Wi N=1)(h:kP K vs H Q E):kB K (ends Q) (L2.start N vs) H:=by
 obtain⟨v,ws,ts,rfl,rv,co,w1,tne,k⟩:=h;have t8:=co.le;have w5:=co.w5;have rv0:=rv;obtain⟨a,v1,v2,rfl,ha,r1,_⟩:=jU rv;obtain⟨b,xs,rfl,hb,rx⟩:=r1.bI;have lx:Wi xs=ws.length:=by rw[rx.length,SJ]
 rw[L2.aK hN];walk_at "t";unfold kB;cbv;refine⟨.ref a,ws,ts,rfl,rv0,∅,λt ht=>by rw[co.fr t ht];lia,λp H1 A1=>?_⟩;cbv;refine aN (SqT.of (A1.same _ _ ha)) (v:=.ref b) rfl ?_;cbv;refine cY (SqT.of (A1.same _ _ hb)) ?_;rw[lx];cbv;refine⟨ws.length,rfl,∅,λu H2 A2=>?_⟩;cbv;refine⟨p,u,ts.map cO,ws.length,rfl,h_ (Nq A1) A2.same,Dp A2,co.wide,∅,∅,by rw[SJ];lia,by rw[SJ];lia,Sg co,λq H3 S3 r3 ok=>?_⟩;exact k q H3 ((A1.same.trans A2.same).trans S3) (r3.mono λc z=>(A1.same.trans A2.same).free z) ok
abbrev gD(K:Fg):TS:=(aC (aw (fZ K) [] E0 (ac (aw (g_ K) [] E0 (ac (aw (oj K) [] E0 (ac (aa 0) ae)) ae)) (ac (aw (gF K) [] E0 (ac (aX (bf K) (ac (ao (aH K) (aa 0) (tC (.int 1))) ae)) ae)) ae))))
def sZ{K:Fg}{N:List Str}(hN:Wi N=1)(h:gI K vs H Q E):gD K (ends Q) (L2.start N vs) H:=by
 obtain⟨v,ws,ts,rfl,rv,co,w1,tne,k⟩:=h;have t8:=co.le;have w5:=co.w5;have rv0:=rv;obtain⟨a,v1,v2,rfl,ha,_,r2⟩:=jU rv;obtain⟨b,xs,rfl,hb,rx⟩:=r2.bI;have lx:Wi xs=ts.length:=by rw[rx.length,SJ]
 have lR:(ts.map cO).length=ts.length:=SJ _;have t0:0<ts.length:=VA.mpr tne;have cw:=Mk.iC ws.length (ts.map cO);have cl:=Mk.iD ws.length (ts.map cO);rw[lR] at cw;rw[L2.aK hN];walk_at "t";unfold gD;cbv;refine⟨.ref a,ws,ts,rfl,rv0,∅,λt ht=>by rw[co.fr t ht];lia,λp H1 A1=>?_⟩;obtain⟨ys,hy,ry⟩:=A1.at_;cbv;refine⟨p,ys,ts.map cO,ws.length,rfl,hy,ry,co.wide,by simpa using tne,∅,∅,λc H2 A2=>?_⟩;have S2:=A1.same.trans A2.same;cbv;refine aN (SqT.of (S2 _ _ ha)) (v:=.ref b) rfl ?_;cbv;refine cY (SqT.of (S2 _ _ hb)) ?_;rw[lx];cbv;refine⟨ts.length,rfl,∅,λu H3 A3=>?_⟩;cbv;refine⟨c,u,a5 ws.length (ts.map cO),ts.length,rfl,h_ (Dp A2) A3.same,Dp A3,cw,t0,t8,by rw[cl];lia,by rw[cl];lia,λr hr c hc=>?_,λq H4 S4 r4 ok=>?_⟩
 .have:=Mk.rA co.bnd r hr c hc
  have e:(2:Nat) ^ 2=4:=rfl;rw[e] at this;lia
 .exact k q H4 ((S2.trans A3.same).trans S4) (r4.mono λc z=>(S2.trans A3.same).free z) ok
open Rk Sf Rw Bo Cl
section
variable{R:List (List Int)}{n:Nat}
def IU{w i k:Nat}(hi:i<w)(hk:k<Wi R):pt ((a5 w R).getD i []) k=pt (R.getD k []) i:=by
 have e:(a5 w R)[i]?=some (mE R i):=by unfold a5;rw[SO,TR hi];rfl
 rw[show(a5 w R).getD i []=mE R i by rw[SK,e];rfl,DX,bY hk]
def FS(w:Nat):(a5 w R).length=w:=by unfold a5;rw[SJ,TD]
end
end Br
namespace Fr
def EC{b:Int}(hb:b≠0)(L:Gd.Low t b q d):q=(Yb t b).num/\d=((Yb t b).den:Int):=by
 obtain⟨pos,low,worth⟩:=L;have e:Yb t b=Yb q d:=(Rat.divInt_eq_divInt_iff hb ∅).mpr worth.symm
 have cp:ZbS q.natAbs d.natAbs:=by
  unfold Gd.gd at low;unfold ZbS
  have:Zb4 q d=Zco q.natAbs d.natAbs:=rfl
  lia
 have m:Rat.mk' q d.natAbs ∅ cp=Yb q d:=by
  rw[Rat.mk_eq_divInt];congr 1;lia
 rw[e,<- m];exact⟨rfl,by show d=(d.natAbs:Int);lia⟩
end Fr
namespace Tr
open PySem L2 Fr G1 Sm Vs G2 Rk Sz Sf Rw Ti
open PySem.W (Dat kqdOk)
abbrev dQ(x:Rat):Dat:=dI [x.num,(x.den:Int)]
abbrev kS(K:Fg):Sp:=λvs H Q _=>∃t b:Int,vs=[.int t,.int b]/\b≠0/\t.natAbs<2 ^ 8000/\b.natAbs<2 ^ 8000/\∀(p:Addr) (H':Hp),Same H H'->Rz K H' (.ref p) (dQ (Yb t b))->Q (.ref p) H'
nonrec def Co(K:Fg):TS:=(ak (aA (aw v_ [] E0 (ac (aa 0) (ac (aa 1) ae))) (aj 2))
 (ak (aM (aO (ao yw (aa 1) (tC (.int 0))))
 (aA (Cz (rU λi=>.int (-i)) (aa 2)) (aj 2))
 aP)
 (aC (cP (ac (ao jN (aa 0) (aa 2)) (ac (ao jN (aa 1) (aa 2)) ae))))))
abbrev pK(K:Fg):TS:=(ak (aM (Ac (dN (tB (aw kM [] E0 (ac (aa 0) ae)))) (dN (tB (aw kM [] E0 (ac (aa 1) ae)))))
 cW
 aP)
 (ak (aM (aO (ao fu (aa 1) (tC (.int 0))))
 cW
 aP)
 (Co K)))
def yp{K:Fg}{N:List Str}(hN:Wi N=3)(h:kS K vs H Q E):pK K (ends Q) (L2.start N vs) H:=by
 obtain⟨t,b,rfl,b0,ht,hb,k⟩:=h;rw[L2.aK hN];walk_at "t";unfold pK;have p2:(2:Nat) ^ 8000<2 ^ 9000:=U0 (by decide) (by decide);generalize (2:Nat) ^ 8000=P at ht hb p2;have gp:=Gd.oH (a:=t) b0;have gl:=Gd.Mr (a:=t) b0
 have fin:∀d:Int,(d=Gd.gd t b/\0<b\/d = - Gd.gd t b/\b<0)->aC (cP (ac (ao jN (aa 0) (aa 2)) (ac (ao jN (aa 1) (aa 2)) ae))) (ends Q) [↥t,↥b,↥d] H:=by
  intro d hd;obtain⟨e1,e2⟩:=EC b0 (Gd.JG b0 hd);have dn:d≠0:=by rcases hd with⟨z,_⟩|⟨z,_⟩ <;> lia
  have dw:d.natAbs<2 ^ 9000:=by
   refine T8 ?_ (UC hb p2);rcases hd with⟨z,_⟩|⟨z,_⟩ <;> lia
  cbv;refine⟨_,_,rfl,rfl,⟨dn,dw⟩,?_⟩;cbv;refine⟨_,_,rfl,rfl,⟨dn,dw⟩,?_⟩;cbv;refine⟨bF,λp np=>?_⟩;show Q (.ref p) (upd H p (.tup [.int (t.fdiv d),.int (b.fdiv d)]));rw[e1,e2];exact k p _ (af np _) (.tup ag (RpL.ints [_,_]))
 cbv;refine⟨t,rfl,?_⟩;cbv;refine⟨b,rfl,?_⟩;cbv;refine aV (λz=>absurd z b0) (λ_=>?_);cbv;refine⟨t,b,rfl,?_⟩;cbv;refine aV (λc=>?_) (λc=>?_)
 .obtain h2:=fin _ (.inr ⟨rfl,c⟩);refine Pb ?_;fail "1";refine uk (i:=2) rfl ?_;refine OO ?_;refine EX ?_;exact h2
 .exact fin _ (.inl ⟨rfl,∅⟩)
open Fr
open PySem L2 Fr G1 Sm Vs G2 Rk Sz Sf Rw Ti Lo
end Tr
namespace Rd
end Rd
namespace Wq
end Wq
namespace Nv
end Nv
namespace Lk
end Lk
namespace Mb
end Mb
namespace Lc
end Lc
namespace Wd
open PySem L2 Fr G1 Sm Vs Dn Rk
open PySem.W (Dat kqdOk)
abbrev Nn(n:Nat)(ts:List Tn):Prop:=∀t∈ts,t.fr.length=n/\t.to.length=n
def Fm{ts:List Tn}{k:Nat}{t:Tn}(h:ts[k]?=some t):(ts.map pr).getD k ([],[])=pr t:=by
 rw[SK,SO,h];rfl
abbrev CU(K:Fg):Sp:=λvs H Q _=>∃(v w:V) (t:Tn) (c:List Int),vs=[v,w]/\Rz K H v (dT t)/\Rz K H w (dI c)/\t.fr.length<=100/\∀H',Same H H'->Q (.bl (jn (pr t) c)) H'
abbrev Cy(K:Fg):TS:=(aC (aX (nu K) (ac (cC (iq K .T .T (ac (ao (aH K) (aa 0) (tC (.int 0))) (ac (aa 1) ae))) 2 (bZ K 2 (aR (aj 0) (aR (aj 1) b4))) (ao Gh (aa 0) (aa 1))) ae)))
def K7{K:Fg}{N:List Str}(hN:Wi N=2)(h:CU K vs H Q E):Cy K (ends Q) (L2.start N vs) H:=by
 obtain⟨v,w,t,c,rfl,rv,rw_,hl,k⟩:=h;obtain⟨a,w1,w2,w3,rfl,ha,q1,q2,_⟩:=jV rv;obtain⟨b,rfl,hb⟩:=cB rw_;obtain⟨f,rfl,hf⟩:=cB q1;rw[L2.aK hN];walk_at "t";unfold Cy;have lz:(UZ t.fr c).length=min t.fr.length c.length:=Xy;cbv;refine aN (SqT.of ha) (v:=.ref f) rfl ?_;cbv;refine⟨f,b,_,_,rfl,SqT.of hf,SqT.of hb,?_⟩;have ml:min (t.fr.map V.int).length (c.map V.int).length=(UZ t.fr c).length:=by rw[SJ,SJ,lz]
 refine ga (xs:=t.fr.map V.int) (ys:=c.map V.int) λD nD=>⟨λi H2=>AccZ K H D H2 ((((UZ t.fr c).take i).map λz=>decide (z.1<=z.2)).map Vw),by simpa using AccZ.start (Same.refl _) nD,λi H2 _ A=>⟨SqT.of (A.same _ _ hf),SqT.of (A.same _ _ hb)⟩,?_,?_⟩
 .intro i x y H2 T e1 e2 A nT us hu
  obtain⟨u1,u2',rfl⟩:∃u0 u1,us=[u0,u1]:=ex2 hu
  rw[SO] at e1 e2;obtain⟨m1,f1,rfl⟩:=SU.mp e1;obtain⟨m2,f2,rfl⟩:=SU.mp e2;have ez:(UZ t.fr c)[i]?=some (m1,m2):=by rw[VD];exact⟨f1,f2⟩
  have li:i<(UZ t.fr c).length:=(SL.mp ez).1;refine bv (SqT.of ag) rfl ?_;cbv;refine⟨⟨[↥m1,↥m2],rfl,rfl⟩,?_⟩;cbv;refine aI (by rw[ml];exact li) ?_;refine(A.on (af nT _)).bA (.bl (decide (m1<=m2))) (am (by rw[SJ,SJ,Ta];lia)) λH4 A4=>?_
  show AccZ K H D H4 ((((UZ t.fr c).take (i+1)).map λz=>decide (z.1<=z.2)).map Vw);rw[Tc,ez,SV,SV];exact A4
 .intro H2 A;rw[ml,SX (SR _)] at A;cbv;refine jA A.bls ?_;have e:((UZ t.fr c).map λz=>decide (z.1<=z.2)).all id=jn (pr t) c:=by unfold jn;rw[ZO];rfl
  rw[e];exact k H2 A.same
abbrev CT(K:Fg):Sp:=λvs H Q _=>∃(v w:V) (t:Tn) (c:List Int),vs=[v,w]/\Rz K H v (dT t)/\Rz K H w (dI c)/\t.fr.length=(Wi c)/\t.to.length=(Wi c)/\c.length<=100/\∀(p:Addr) (H':Hp),Same H H'->Rz K H' (.ref p) (dI (gb (pr t) c))->Q (.ref p) H'
def PP{t:Tn}{c:List Int}{i:Nat}{m1 m2 m3:Int}(f1:t.fr[i]?=some m1)(f2:t.to[i]?=some m2)(f3:c[i]?=some m3):(gb (pr t) c)[i]?=some (m3-m1+m2):=by
 have li:i<Wi c:=(SL.mp f3).1;unfold gb;rw[SO,TR li];show some (pt c i-pt t.fr i+pt t.to i)=_;unfold pt;rw[SK,f3,SK,f1,SK,f2];rfl
def PN(t:Tp)(c:List Int):(gb t c).length=Wi c:=by unfold gb;rw[SJ,TD]
abbrev Cs(K:Fg):TS:=(aC (aX (bX K) (ac (cC (Ix K (ac (aa 1) (ac (ao (aH K) (aa 0) (tC (.int 0))) (ac (ao (aH K) (aa 0) (tC (.int 1))) ae)))) 3 (bZ K 3 (aR (aj 0) (aR (aj 1) (aR (aj 2) b4)))) (ao bG (ao nv (aa 0) (aa 1)) (aa 2))) ae)))
def K3{K:Fg}{N:List Str}(hN:Wi N=2)(h:CT K vs H Q E):Cs K (ends Q) (L2.start N vs) H:=by
 obtain⟨v,w,t,c,rfl,rv,rw_,l1,l2,hl,k⟩:=h;obtain⟨a,w1,w2,w3,rfl,ha,q1,q2,_⟩:=jV rv;obtain⟨b,rfl,hb⟩:=cB rw_;obtain⟨f,rfl,hf⟩:=cB q1;obtain⟨g,rfl,hg⟩:=cB q2;rw[L2.aK hN];walk_at "t";unfold Cs;have lb:=PN (pr t) c;cbv;refine JH ?_;cbv;refine aN (SqT.of ha) (v:=.ref f) rfl ?_;cbv;refine aN (SqT.of ha) (v:=.ref g) rfl ?_;cbv;refine⟨b,f,g,_,_,_,rfl,SqT.of hb,SqT.of hf,SqT.of hg,?_⟩;refine uB (xs:=c.map V.int) (ys:=t.fr.map V.int) (zs:=t.to.map V.int) (m:=c.length) (SJ _) (by rw[SJ];exact l1) (by rw[SJ];exact l2) λD nD=>⟨λi H2=>AccZ K H D H2 (((gb (pr t) c).take i).map TW),by simpa using AccZ.start (Same.refl _) nD,λi H2 _ A=>⟨SqT.of (A.same _ _ hb),SqT.of (A.same _ _ hf),SqT.of (A.same _ _ hg)⟩,?_,?_⟩
 .intro i x y u H2 T e1 e2 e3 A nT us hu
  obtain⟨u1,u2,u3,rfl⟩:∃u0 u1 u2,us=[u0,u1,u2]:=by
   match us,hu with
   |[u0,u1,u2],_=>exact⟨u0,u1,u2,rfl⟩
  rw[SO] at e1 e2 e3;obtain⟨m1,f1,rfl⟩:=SU.mp e1;obtain⟨m2,f2,rfl⟩:=SU.mp e2;obtain⟨m3,f3,rfl⟩:=SU.mp e3;have li:i<c.length:=(SL.mp f1).1;have ec:=PP f2 f3 f1;refine bv (SqT.of ag) rfl ?_;cbv;refine⟨⟨[↥m1,↥m2,↥m3],rfl,rfl⟩,?_⟩;cbv;refine aI li ?_;refine(A.on (af nT _)).bA (.int _) (am (by rw[SJ,Ta];lia)) λH4 A4=>?_
  show AccZ K H D H4 (((gb (pr t) c).take (i+1)).map TW);rw[Tc,ec,SV];exact A4
 .intro H2 A;rw[SX ∅] at A;cbv;refine dF (SqL.of (AccZ.ints A)) λp np=>?_
  exact k p _ (A.same.trans (af np _)) (.tup ag (RpL.ints _))
end Wd
namespace Tw
open PySem L2 Fr G1 Sm Vs
open PySem.W (Dat kqdOk)
abbrev bW (w:Str) (n:Int):Str:=if n=1 then w else Ue++a4 n ++ " " ++ w
abbrev bw(ws:List Str)(h:List Int):List Str:=(ws.zip h).filterMap λp=>if 0<p.2 then some (bW p.1 p.2) else none
abbrev bH (ws:List Str) (h:List Int):Str:=if bw ws h=[] then "0" else Zbh " + " (bw ws h)
abbrev bE (q d:Int):Str:=if d=1 then a4 q else Ue++a4 q ++ "/" ++ a4 d
abbrev bN (ws:List Str) (t:Tn):Str:=Ue++bH ws t.fr ++ " -> " ++ bH ws t.to ++ " @ " ++ bE t.q t.d
def dj{i:Int}(h0:0<=i)(h1:i<=10000000000):i.natAbs.log2<1920:=by
 by_cases z:i.natAbs=0
 .rw[z];decide
 .exact(Nat.log2_lt z).mpr (Ts (show i.natAbs<2 ^ 34 by lia) (TM (by decide) (by decide)))
def c_{i:Int}(h0:0<=i)(h1:i<=10000000000):(a4 i).length<=11:=XZ h0 (by decide) ∅
def RP:Ue++a4 2 ++ " "=("2 ":Str):=by decide +kernel
def RO:Ue++a4 3 ++ " "=("3 ":Str):=by decide +kernel
def Q4:(("2 ":Str)).length=2:=by decide +kernel
def Q3:(("3 ":Str)).length=2:=by decide +kernel
def OA:((" + ":Str)).length=3:=by decide +kernel
def qO:((" -> ":Str)).length=4:=by decide +kernel
def EG:((" @ ":Str)).length=3:=by decide +kernel
def EF:(("/":Str)).length=1:=by decide +kernel
def Ij:((" ":Str)).length=1:=by decide +kernel
def Q5:(("0":Str)).length=1:=by decide +kernel
def lW:Ue.length=0:=by decide +kernel
def szL:sizeLine=16777216:=by decide
def n9(w:Str):bW w 1=w:=if_pos rfl
def x8(w:Str):bW w 2=("2 ":Str)++w:=by unfold bW;rw[if_neg (by decide),RP]
def x5(w:Str):bW w 3=("3 ":Str)++w:=by unfold bW;rw[if_neg (by decide),RO]
def three{n:Int}(h0:0<n)(h3:n<=3):n=1\/n=2\/n=3:=by lia
def nZ{w:Str}{n:Int}(hw:w.length<=8)(h0:0<n)(h3:n<=3):(bW w n).length<=10:=by
 rcases three h0 h3 with rfl|rfl|rfl
 .rw[n9];lia
 .rw[x8,TF,Q4];lia
 .rw[x5,TF,Q3];lia
abbrev uS(ws:List Str):Prop:=ws.length<=5/\∀w∈ws,w.length<=8/\VI w=true
def sr(h1:VI a=true)(h2:VI b=true):VI (a++b)=true:=by
 unfold VI at *;show(a.cps++b.cps).all _=true;rw[Array.all_append,h1,h2];rfl
def CF{n:Int}(hw:VI w=true)(h0:0<n)(h3:n<=3):VI (bW w n)=true:=by
 rcases three h0 h3 with rfl|rfl|rfl
 .rw[n9];exact hw
 .rw[x8];exact sr (by decide +kernel) hw
 .rw[x5];exact sr (by decide +kernel) hw
def Oy(h:Low w):VI w=true:=by
 unfold VI;rw[UE];intro c hc
 have:=h c (by simpa using hc)
 exact decide_eq_true ∅
def oz{h:List Int}(ow:uS ws)(oh:∀x∈h,0<=x/\x<=3){p:Str}(m:p∈bw ws h):p.length<=10/\VI p=true:=by
 obtain⟨q,hq,e⟩:=V6.mp m;obtain⟨m1,m2⟩:=Wg (a:=q.1) (b:=q.2) hq;by_cases z:0<q.2
 .rw[if_pos z] at e;cases TH e;exact⟨nZ (ow.2 _ m1).1 z (oh _ m2).2,CF (ow.2 _ m1).2 z (oh _ m2).2⟩
 .rw[if_neg z] at e;cases e
def f8:(bw ws h).length<=ws.length:=by
 refine TQ (List.length_filterMap_le _ _) ?_;rw[Xy];lia
def Jp{l:List Str}(h:∀p∈l,p.length<=10):(l.map (·.length)).sum<=10*Wi l:=by
 induction l with
 |nil=>simp
 |cons a r ih =>
  have h1:=h a Tb;have h2:=ih λp hp=>h p (S_ _ hp)
  simp only[TN,U2,Ux];lia
def du{h:List Int}(ow:uS ws)(oh:∀x∈h,0<=x/\x<=3):(bH ws h).length<=65:=by
 unfold bH;split
 .rw[Q5];lia
 .show(PySem.Builtin.Str.glued _ _).length<=65;rw[Z_];have h1:=StrLaws.join_length_le " + " (bw ws h);have h2:=Jp λp hp=>(oz ow oh hp).1
  have h3:=f8 (ws:=ws) (h:=h);have h4:=ow.1;rw[OA] at h1;lia
def ie(p:fS q d):(bE q d).length<=23:=by
 have h1:=c_ (i:=q) (by have:=p.1;lia) p.2.2.2.1;have h2:=c_ (i:=d) (by have:=p.2.1;lia) p.2.2.2.2;unfold bE;split
 .lia
 .rw[V5,TF,TF,EF];lia
def lA{ws:List Str}{h:List Int}{i:Nat}{w:Str}{n:Int}(e1:ws[i]?=some w)(e2:h[i]?=some n):bw (ws.take (i+1)) (h.take (i+1))=bw (ws.take i) (h.take i)++(if 0<n then [bW w n] else []):=by
 have l1:=(SL.mp e1).1;have l2:=(SL.mp e2).1;unfold bw;rw[Tc,Tc,e1,e2,Zcm,Zcm,List.zip_append (by rw[Ta,Ta];lia),List.filterMap_append];congr 1;by_cases z:0<n
 .simp[z]
 .simp[z]
abbrev pV:Sp:=λvs H Q _=>∃(w:Str) (n:Int),vs=[.str w,.int n]/\w.length<=8/\0<n/\n<=3/\Q (.str (bW w n)) H
abbrev pb(K:Fg):TS:=(ak (aM (aO (ao fu (aa 1) (tC (.int 1))))
 (aC (aa 0))
 aP)
 (aC (CC [(Ag (aa 1)),(tC (.str " ")),(Af (aa 0))] Ue)))
def Dy{K:Fg}{N:List Str}(hN:Wi N=2)(h:pV vs H Q E):pb K (ends Q) (L2.start N vs) H:=by
 obtain⟨w,n,rfl,hw,h0,h3,k⟩:=h;rw[L2.aK hN];walk_at "t";have ln:=c_ (i:=n) ∅ ∅;unfold pb;cbv;refine aV (λz=>?_) (λz=>?_)
 .cbv;subst z;rw[n9] at k;exact k
 .cbv;refine⟨(dj (i:=n) ∅ ∅),?_⟩;refine lZ (by rw[TF,lW,szL];lia) ?_;cbv;refine lZ (by rw[TF,TF,lW,Ij,szL];lia) ?_;cbv;refine Ir (by rw[szL];lia) ?_;refine lZ (by rw[TF,TF,TF,lW,Ij,szL];lia) ?_;cbv;unfold bW at k;rw[if_neg z] at k;exact k
abbrev dU(K:Fg):Sp:=λvs H Q _=>∃(v1 v2:V) (ws:List Str) (h:List Int),vs=[v1,v2]/\Rz K H v1 (.tuple (ws.map UI))/\Rz K H v2 (dI h)/\uS ws/\cI (Wi ws) h/\∀H',Same H H'->Q (.str (bH ws h)) H'
def mx{K:Fg}{ws:List Str}(h:Rz K H v (.tuple (ws.map UI))):∃a:Addr,v=.ref a/\H a=some (.tup (ws.map V.str)):=by
 obtain⟨a,xs,e,ha,r⟩:=h.bI;cases RpL.vQ r;exact⟨a,e,ha⟩
def oB(p:(bw ws h)=[]):bH ws h = "0":=if_pos p
def l6(p:(bw ws h)≠[]):bH ws h=Zbh " + " (bw ws h):=if_neg p
def uo{h:List Int} (ow:uS ws) (oh:∀x∈h,0<=x/\x<=3):((bw ws h).map (·.length)).sum+(bw ws h).length*((" + ":Str)).length<=16777216:=by
 have h2:=Jp λp hp=>(oz ow oh hp).1
 have h3:=f8 (ws:=ws) (h:=h);have h4:=ow.1;rw[OA];lia
abbrev vJ(K:Fg):TS:=(ak (aA (fA (iq K .T .T (ac (aa 0) (ac (aa 1) ae))) 2 (bZ K 2 (aR (aj 0) (aR (aj 1) b4))) (aO (ao wH (aa 1) (tC (.int 0)))) (aw pV [] E0 (ac (aa 0) (ac (aa 1) ae)))) (aj 2))
 (ak (aM (aO (ao fu (aX (bf K) (ac (aa 2) ae)) (tC (.int 0))))
 (aC (tC (.str "0")))
 aP)
 (aC (eJ K "str" (yx K) (tC (.str " + ")) (ac (aa 2) ae)))))
def Ho{K:Fg}{N:List Str}(hN:Wi N=3)(h:dU K vs H Q E):vJ K (ends Q) (L2.start N vs) H:=by
 obtain⟨v1,v2,ws,h,rfl,r1,r2,ow,oh,k⟩:=h;obtain⟨a,rfl,ha⟩:=mx r1;obtain⟨b,rfl,hb⟩:=cB r2;rw[L2.aK hN];walk_at "t";unfold vJ;cbv;refine⟨a,b,_,_,rfl,SqT.of ha,SqT.of hb,?_⟩;refine mD (xs:=ws.map V.str) (ys:=h.map V.int) λD nD=>?_
 have ml:min (ws.map V.str).length (h.map V.int).length=ws.length:=by rw[SJ,SJ,oh.1,Nat.min_self]
 refine⟨λi H2=>AccZ K H D H2 ((bw (ws.take i) (h.take i)).map UI),AccZ.start (Same.refl _) nD,λi H2 _ A=>⟨SqT.of (A.same _ _ ha),SqT.of (A.same _ _ hb)⟩,?_,?_⟩
 .intro i y1 y2 H2 T e1 e2 A nT us hu
  obtain⟨u0,u1,rfl⟩:∃u0 u1,us=[u0,u1]:=ex2 hu
  rw[SO] at e1 e2;obtain⟨w,f1,rfl⟩:=SU.mp e1;obtain⟨n,f2,rfl⟩:=SU.mp e2;have li:i<ws.length:=(SL.mp f1).1;have sn:=lA f1 f2;have on:=oh.2 n (SM f2);have lw:=(ow.2 w (SM f1)).1;refine bv (SqT.of ag) rfl ?_;cbv;refine⟨⟨[some (.str w),↥n],rfl,rfl⟩,?_⟩;cbv;refine aV (λz=>?_) (λz=>?_)
  .cbv;refine⟨w,n,rfl,lw,z,on.2,?_⟩;refine aI (by rw[ml];exact li) ?_;refine(A.on (af nT _)).bA (.str (bW w n)) (am ?_) λH4 A4=>?_
   .rw[SJ]
    have:=f8 (ws:=ws.take i) (h:=h.take i)
    rw[Ta] at this
    have:=ow.1
    lia
   .show AccZ K H D H4 ((bw (ws.take (i+1)) (h.take (i+1))).map UI);rw[sn,if_pos z,SV];exact A4
  .refine f7 (by rw[ml];exact li) ?_;show AccZ K H D _ ((bw (ws.take (i+1)) (h.take (i+1))).map UI);rw[sn,if_neg z,WT];exact A.on (af nT _)
 .intro H2 A;rw[ml,SX (SR _),SX (by rw[oh.1];exact SR _)] at A;have hD:=AccZ.strs A;cbv;refine bP (SqL.of hD) ?_;cbv;refine aV (λz=>?_) (λz=>?_)
  .cbv;have p:bw ws h=[]:=Uf.mp (by rw[SJ] at z;lia);rw[oB p] at k;exact k H2 A.same
  .cbv;have p:bw ws h≠[]:=λq=>z (by rw[q];rfl)
   rw[l6 p] at k;refine⟨rfl,?_⟩;cbv;exact JJ (SqL.of hD) (uo ow oh.2) (k H2 A.same)
abbrev vX(K:Fg):Sp:=λvs H Q _=>∃(v:V) (q d:Int),vs=[v]/\Rz K H v (dI [q,d])/\fS q d/\Q (.str (bE q d)) H
abbrev vD(K:Fg):TS:=(ak (aA (ao (aH K) (aa 0) (tC (.int 0))) (aj 1))
 (ak (aA (ao (aH K) (aa 0) (tC (.int 1))) (aj 2))
 (ak (aM (aO (ao fu (aa 2) (tC (.int 1))))
 (aC (Ag (aa 1)))
 aP)
 (aC (CC [(Ag (aa 1)),(tC (.str "/")),(Ag (aa 2))] Ue)))))
def Hl{K:Fg}{N:List Str}(hN:Wi N=3)(h:vX K vs H Q E):vD K (ends Q) (L2.start N vs) H:=by
 obtain⟨v,q,d,rfl,r,p,k⟩:=h;obtain⟨a,rfl,ha⟩:=cB r;rw[L2.aK hN];walk_at "t";have q0:=p.1;have d0:=p.2.1;have q1:=p.2.2.2.1;have d1:=p.2.2.2.2;have lq:=c_ (i:=q) ∅ ∅;have ld:=c_ (i:=d) ∅ ∅;unfold vD;cbv;refine aN (SqT.of ha) (v:=.int q) rfl ?_;cbv;refine aN (SqT.of ha) (v:=.int d) rfl ?_;cbv;unfold bE at k;refine aV (λz=>?_) (λz=>?_)
 .rw[if_pos z] at k;cbv;exact⟨(dj (i:=q) ∅ ∅),k⟩
 .rw[if_neg z] at k;cbv;refine⟨(dj (i:=q) ∅ ∅),?_⟩;refine lZ (by rw[TF,lW,szL];lia) ?_;cbv;refine lZ (by rw[TF,TF,lW,EF,szL];lia) ?_;cbv;refine⟨(dj (i:=d) ∅ ∅),?_⟩;refine lZ (by rw[TF,TF,TF,lW,EF,szL];lia) ?_;cbv;exact k
abbrev Ga(ws:List Str)(t:Tn):Prop:=cI (Wi ws) t.fr/\cI (Wi ws) t.to/\fS t.q t.d
abbrev vT(K:Fg):Sp:=λvs H Q _=>∃(v1 v2:V) (ws:List Str) (t:Tn),vs=[v1,v2]/\Rz K H v1 (.tuple (ws.map UI))/\Rz K H v2 (dT t)/\uS ws/\Ga ws t/\∀H',Same H H'->Q (.str (bN ws t)) H'
nonrec def BK(K:Fg):TS:=(ak (aA (aw (dU K) [] E0 (ac (aa 0) (ac (ao (aH K) (aa 1) (tC (.int 1))) ae))) (aj 3))
 (ak (aA (aw (vX K) [] E0 (ac (ao (aH K) (aa 1) (tC (.int 2))) ae)) (aj 4))
 (aC (CC [(Af (aa 2)),(tC (.str " -> ")),(Af (aa 3)),(tC (.str " @ ")),(Af (aa 4))] Ue))))
abbrev vq(K:Fg):TS:=(ak (aA (aw (dU K) [] E0 (ac (aa 0) (ac (ao (aH K) (aa 1) (tC (.int 0))) ae))) (aj 2))
 (BK K))
def Hg{K:Fg}{N:List Str}(hN:Wi N=5)(h:vT K vs H Q E):vq K (ends Q) (L2.start N vs) H:=by
 obtain⟨v1,v2,ws,t,rfl,r1,r2,ow,⟨o1,o2,op⟩,k⟩:=h;obtain⟨a,w1,w2,w3,rfl,ha,q1,q2,q3⟩:=jV r2;rw[L2.aK hN];walk_at "t";have l1:=du ow o1.2;have l2:=du ow o2.2;have l3:=ie op;unfold vq;cbv;refine aN (SqT.of ha) (v:=w1) rfl ?_;cbv;refine⟨v1,w1,ws,t.fr,rfl,r1,q1,ow,o1,λH1 S1=>?_⟩;have ha1:=S1 _ _ ha;cbv;refine aN (SqT.of ha1) (v:=w2) rfl ?_;cbv;refine⟨v1,w2,ws,t.to,rfl,r1.same S1,q2.same S1,ow,o2,λH2 S2=>?_⟩;have ha2:=S2 _ _ ha1;cbv;refine aN (SqT.of ha2) (v:=w3) rfl ?_;cbv;refine⟨w3,t.q,t.d,rfl,(q3.same S1).same S2,op,?_⟩;cbv;refine Ir (by rw[szL];lia) ?_;refine lZ (by rw[TF,lW,szL];lia) ?_;cbv;refine lZ (by rw[TF,TF,lW,qO,szL];lia) ?_;cbv;refine Ir (by rw[szL];lia) ?_;refine lZ (by rw[TF,TF,TF,lW,qO,szL];lia) ?_;cbv;refine lZ (by rw[TF,TF,TF,TF,lW,qO,EG,szL];lia) ?_;cbv;refine Ir (by rw[szL];lia) ?_;refine lZ (by rw[TF,TF,TF,TF,TF,lW,qO,EG,szL];lia) ?_;cbv;exact k H2 (S1.trans S2)
abbrev P6(ws:List Str)(ts:List Tn):Prop:=uS ws/\ts.length<=8/\∀t∈ts,Ga ws t
abbrev kJ(K:Fg):Sp:=λvs H Q _=>∃(v:V) (ws:List Str) (ts:List Tn),vs=[v]/\Rz K H v (dV ws ts)/\P6 ws ts/\∀(p:Addr) (H':Hp),AccZ K H p H' ((ts.map (bN ws)).map UI)->Q (.ref p) H'
def BC(h:rM ws ts):P6 ws ts:=by
 obtain⟨hs,po,_,tk⟩:=h.turns;refine⟨⟨h.w5,λw hw=>⟨(h.words.2 w hw).2.1,Oy (h.words.2 w hw).2.2⟩⟩,tk.le,λt ht=>?_⟩;obtain⟨f,g,_,p⟩:=tk.ok t ht;exact⟨po.2 _ f,po.2 _ g,p⟩
end Tw
namespace Tp2
open PySem L2 Str
open PySem.Builtin.Str (strSub subAt)
nonrec def cl(s:Str):List Nat:=s.cps.toList
def cD(a b:Str):cl (a++b)=cl a++cl b:=by
 show(a.cps++b.cps).toList=_;rw[ZaB]
def b5(a:Str):(cl a).length=a.length:=by show a.cps.toList.length=a.cps.size;rw[Uv]
def FW(h:cl a=cl b):a=b:=Str.ext' (Array.toList_inj.mp h)
def qG:kj z y i↔i+y.length<=z.length/\((cl z).drop i).take y.length=cl y:=by
 unfold kj;rw[StrLaws.subAt_eq,beq_iff_eq]
def ii{j c:Nat}(h:kj z y i)(hc:(cl y)[j]?=some c):(cl z)[i+j]?=some c:=by
 obtain⟨_,e⟩:=qG.mp h;have lj:j<y.length:=by rw[<- b5];exact(SL.mp hc).1
 rw[<- e,VH lj,WO] at hc;exact hc
def jf(a y b:Str):kj (a++y++b) y a.length:=by
 refine qG.mpr ⟨by rw[Ur,Ur];lia,?_⟩;rw[cD,cD,Ut,List.drop_append_of_le_length (by rw[b5];exact SR _),U7 (by rw[b5];exact SR _),ZP,<- b5 y,Zaq]
def fB(a y b:Str):strSub (a++y++b) 0 a.length=a:=FW (by
 show(strSub (a++y++b) 0 a.length).cps.toList=_
 rw[X2]
 show((cl (a++y++b)).drop 0).take (a.length-0)=cl a
 rw[YH,Zbt,cD,cD,Ut,<- b5 a,Zaq])
def fY(a y b:Str):strSub (a++y++b) (a.length+y.length) (a++y++b).length=b:=FW (by
 show(strSub (a++y++b) (a.length+y.length) (a++y++b).length).cps.toList=_
 rw[X2]
 show((cl (a++y++b)).drop (a.length+y.length)).take _=cl b
 have l:(cl (a++y)).length=a.length+y.length:=by rw[b5,Ur]
 rw[cD,<- l,Zar,Ur]
 rw[SX]
 rw[b5,l,Ur];lia)
def JV{b:Str}{y0 y1:Nat}(h0:(cl y)[0]?=some y0)(h1:(cl y)[1]?=some y1)(na:y1∉cl a)(ne:y1≠y0):∀k,k<a.length->¬ kj (a++y++b) y k:=by
 intro k hk o;have c:=ii o h1;rw[cD,cD,Ut] at c;rcases Uw (k+1) a.length with l|l
 .rw[TU (by rw[b5];exact l)] at c;exact na (SM c)
 .have e:k+1=a.length:=by lia
  rw[TV (by rw[b5];lia),b5,e,Zbk,TU (SL.mp h0).1,h0] at c;exact ne (TH c).symm
def Pq{b:Str}{y0:Nat}(h0:(cl y)[0]?=some y0)(na:y0∉cl a):∀k,k<a.length->¬ kj (a++y++b) y k:=by
 intro k hk o;have c:=ii o h0;rw[cD,cD,Ut,YA,TU (by rw[b5];exact hk)] at c;exact na (SM c)
def Ol{y0:Nat}(h0:(cl y)[0]?=some y0)(nz:y0∉cl z):∀i,¬ kj z y i:=λi o=>by
 have c:=ii o h0;exact nz (SM c)
def OB{a:Str}{y0:Nat}(h0:(cl y)[0]?=some y0)(l1:y.length=1)(nb:y0∉cl b):∀k,a.length<k->¬ kj (a++y++b) y k:=by
 intro k hk o;have c:=ii o h0;rw[cD,YA,TV (by rw[b5,Ur];lia)] at c;exact nb (SM c)
abbrev pls:Str:=" + "
def D5:cl pls=[32,43,32]:=by decide +kernel
def qx:pls.length=3:=by decide +kernel
abbrev pos:List Str->List Nat
 |[]=>[]
 |[_]=>[]
 |p :: q :: r=>p.length :: (pos (q :: r)).map (· + (p.length+3))
def Iv(p q:Str)(r:List Str):Vl pls (p :: q :: r)=p++pls++Vl pls (q :: r):=rfl
def yD:∀(ps:List Str),(∀p∈ps,43∉cl p)->∀m,(cl (Vl pls ps))[m]?=some 43->∃i∈pos ps,m=i+1
 |[],_,m,h=>by
  have:cl (Vl pls [])=[]:=by decide +kernel
  rw[this] at h;cases h
 |[p],hp,m,h=>absurd (SM h) (hp p Tb)
 |p :: q :: r,hp,m,h=>by
  rw[Iv,cD,cD,Ut,D5] at h;rcases Uw m p.length with l|l
  .rw[TU (by rw[b5];exact l)] at h;exact absurd (SM h) (hp p Tb)
  .rw[TV (by rw[b5];exact l),b5] at h;obtain⟨d,rfl⟩:∃d,m=p.length+d:=⟨m-p.length,∅⟩
   rw[VV] at h
   match d,h with
   |0,h=>cases h
   |1,_=>exact⟨p.length,Tb,rfl⟩
   |2,h=>cases h
   |d+3,h =>
    obtain⟨i,hi,e⟩:=yD (q :: r) (λx hx=>hp x (S_ _ hx)) d h;exact⟨i+(p.length+3),S_ _ (Te.mpr ⟨i,hi,rfl⟩),∅⟩
def Eu{a:Str}(h:kj z y i):kj (a++z) y (i+a.length):=by
 obtain⟨l,e⟩:=qG.mp h;refine qG.mpr ⟨by rw[Ur];lia,?_⟩;rw[cD,Nat.add_comm,<- Zcb,<- b5 a,Zar];exact e
def D4:∀(ps:List Str),∀i∈pos ps,kj (Vl pls ps) pls i
 |[],_,h=>by cases h
 |[_],_,h=>by cases h
 |p :: q :: r,i,h=>by
  rcases Tu.mp h with rfl|h
  .rw[Iv];exact jf _ _ _
  .obtain⟨j,hj,rfl⟩:=Te.mp h
   have:=Eu (a:=p++pls) (D4 (q :: r) j hj)
   rw[Ur,qx] at this;exact this
def wL:∀(ps:List Str),(pos ps).Pairwise λi j=>i+3<=j
 |[]=>.nil
 |[_]=>.nil
 |p :: q :: r=>by
  refine Y_.cons (λx hx=>?_) ?_
  .obtain⟨j,_,rfl⟩:=Te.mp hx;lia
  .rw[Y4];exact(wL (q :: r)).imp λh=>by lia
def xf{ps:List Str}(hp:∀p∈ps,43∉cl p)(h:kj (Vl pls ps) pls i):i∈pos ps:=by
 have c:=ii h (j:=1) (c:=43) (by rw[D5];rfl);obtain⟨k,hk,e⟩:=yD ps hp _ c
 have:i=k:=by lia
 rw[this];exact hk
def sB:∀{l1 l2:List Nat},l1.Pairwise (· < ·)->l2.Pairwise (· < ·)->(∀x,x∈l1↔x∈l2)->l1=l2
 |[],[],_,_,_=>rfl
 |[],b :: l2,_,_,h=>absurd ((h b).mpr Tb) (by simp)
 |a :: l1,[],_,_,h=>absurd ((h a).mp Tb) (by simp)
 |a :: l1,b :: l2,p1,p2,h=>by
  have q1:=XB.mp p1;have q2:=XB.mp p2
  have e:a=b:=by
   rcases Tu.mp ((h a).mp Tb) with e|m
   .exact e
   .rcases Tu.mp ((h b).mpr Tb) with e|m2
    .exact e.symm
    .have:=q1.1 b m2;have:=q2.1 a m;lia
  subst e;rw[sB q1.2 q2.2 λx=>⟨λhx=>?_,λhx=>?_⟩]
  .rcases Tu.mp ((h x).mp (S_ _ hx)) with e|m
   .have:=q1.1 x hx;lia
   .exact m
  .rcases Tu.mp ((h x).mpr (S_ _ hx)) with e|m
   .have:=q2.1 x hx;lia
   .exact m
def H_{ps:List Str}(hp:∀p∈ps,43∉cl p):je (Vl pls ps) pls=pos ps:=by
 refine sB ?_ ((wL ps).imp λh=>∅) λx=>?_
 .unfold je;exact Y_.filter _ XW
 .rw[yM];exact⟨xf hp,D4 ps x⟩
def tJ{l:List Nat}(h:l.Pairwise λi j=>i+3<=j){i:Nat}(hi:i∈l)(hj:j∈l)(lt:i<j):i+3<=j:=by
 induction l with
 |nil=>cases hi
 |cons a l ih =>
  have q:=XB.mp h;rcases Tu.mp hi with rfl|hi'
  .rcases Tu.mp hj with rfl|hj'
   .lia
   .exact q.1 j hj'
  .rcases Tu.mp hj with rfl|hj'
   .have:=q.1 i hi';lia
   .exact ih q.2 hi' hj'
def Bk{ps:List Str}(hp:∀p∈ps,43∉cl p):Apart (Vl pls ps) pls:=λi j hi hj lt=>by
 rw[qx];exact tJ (wL ps) (xf hp hi) (xf hp hj) lt
def yI:∀(ps:List Str) (a:Str),ps≠[]->Ve (a++Vl pls ps) 3 a.length ((pos ps).map (· + a.length))=ps
 |[],_,h=>absurd rfl h
 |[p],a,_=>by
  show[strSub (a++p) a.length (a++p).length]=[p]
  have:=fY a Ue p
  rw[Str.append_empty] at this;rw[show a.length+Ue.length=a.length from YA _] at this;rw[this]
 |p :: q :: r,a,_=>by
  show strSub (a++Vl pls (p :: q :: r)) a.length (p.length+a.length) :: Ve (a++Vl pls (p :: q :: r)) 3 (p.length+a.length+3) (((pos (q :: r)).map (· + (p.length+3))).map (· + a.length))=_
  have e1:a++Vl pls (p :: q :: r)=(a++p++pls)++Vl pls (q :: r):=by
   rw[Iv];simp only[ZbJ]
  have ih:=yI (q :: r) (a++p++pls) (by simp);have l:(a++p++pls).length=p.length+a.length+3:=by rw[Ur,Ur,qx];lia
  rw[l] at ih
  have e2:((pos (q :: r)).map (· + (p.length+3))).map (· + a.length)=(pos (q :: r)).map (· + (p.length+a.length+3)):=by
   rw[UV];exact Wy λx _=>by show x+(p.length+3)+a.length=x+(p.length+a.length+3);lia
  rw[e1,e2,ih];congr 1;refine FW ?_;show(strSub ((a++p++pls)++Vl pls (q :: r)) a.length (p.length+a.length)).cps.toList=_;rw[X2];show((cl ((a++p++pls)++Vl pls (q :: r))).drop a.length).take (p.length+a.length-a.length)=cl p;rw[cD,cD,cD,Ut,Ut,<- b5 a,Zar,Nat.add_sub_cancel,<- b5 p,Zaq]
def Ai{ps:List Str}(hp:∀p∈ps,43∉cl p)(ne:ps≠[]):Ve (Vl pls ps) pls.length 0 (je (Vl pls ps) pls)=ps:=by
 have h:=yI ps Ue ne;rw[V5] at h;rw[H_ hp,qx]
 have e:(pos ps).map (· + Ue.length)=pos ps:=by
  rw[show(λx=>x+Ue.length)=id from funext λx=>YA x,ZbQ]
 rw[e] at h;exact h
end Tp2
namespace Md
open PySem L2 Fr G1 Sm Vs
open PySem.W (Dat kqdOk kqdP kqdPs)
structure Cn (K:Fg) (mg:Str->Option SW) (nq:Addr):Prop where
 MOST_STUFFS:∃t,mg "MOST_STUFFS"=some (.int 5 t)
 MOST_SIGNS:∃t,mg "MOST_SIGNS"=some (.int 8 t)
 MOST_PIECES:∃t,mg "MOST_PIECES"=some (.int 3 t)
 MOST_TURNINGS:∃t,mg "MOST_TURNINGS"=some (.int 8 t)
 MOST_HEAPS:∃t,mg "MOST_HEAPS"=some (.int 8 t)
 NOUGHT:mg "NOUGHT"=⇑nq
 two:∀H:Hp,SqT K H nq [.int 0,.int 1]
def szL:sizeLine=16777216:=by decide
def rJ(n:Nat):(Tq n true).all id=true:=by
 rw[U8];intro x hx;rw[(Za5.mp hx).2];rfl
def MF(n:Nat):(Tq n false).any id=false:=by
 rw[YY];intro x hx;rw[(Za5.mp hx).2];simp
abbrev qe(K:Fg):Sp:=λvs H Q _=>∃(p q:Addr) (a b c d:Int),vs=[.ref p,.ref q]/\SqT K H p [.int a,.int b]/\SqT K H q [.int c,.int d]/\xP a d/\xP c b/\Q (.bl (decide (a*d<c*b))) H
abbrev pP(K:Fg):TS:=(aC (ao yw (ao qu (ao (aH K) (aa 0) (tC (.int 0))) (ao (aH K) (aa 1) (tC (.int 1)))) (ao qu (ao (aH K) (aa 1) (tC (.int 0))) (ao (aH K) (aa 0) (tC (.int 1))))))
def DO{K:Fg}{N:List Str}(hN:Wi N=2)(h:qe K vs H Q E):pP K (ends Q) (L2.start N vs) H:=by
 obtain⟨p,q,a,b,c,d,rfl,hp,hq,m1,m2,k⟩:=h;rw[L2.aK hN];walk_at "t";unfold pP;cbv;refine aN hp (v:=.int a) rfl ?_;cbv;refine aN hq (v:=.int d) rfl ?_;refine ul m1 ?_;cbv;refine aN hq (v:=.int c) rfl ?_;cbv;refine aN hp (v:=.int b) rfl ?_;refine ul m2 ?_;cbv;exact k
def Iq{Q:VK}{i j:Str}(h:Q (.bl (!decide (j.cps.toList<i.cps.toList))) H):AI (.str i) (.str j) H Q:=⟨i,j,rfl,rfl,h⟩
def SD:(("a":Str)).cps.toList=[97]:=by decide +kernel
def SC:(("z":Str)).cps.toList=[122]:=by decide +kernel
def qi{c d:Nat}(h:d<=c) : ¬ (([c]:List Nat) < [d]):=by
 rw[List.cons_lt_cons_iff];rintro(z|⟨_,z⟩)
 .lia
 .cases z
abbrev pZ(K:Fg):Sp:=λvs H Q _=>∃w:Str,vs=[.str w]/\J4 w/\∀H',Same H H'->Q (.bl true) H'
abbrev pG (K:Fg):TS:=(ak (aM (Ac (dN (tB (aX (eL K) (ac (aa 0) (ac (tC (.ty "str")) ae))))) (dN (aO (gj Gh Gh (tC (.int 1)) (aX NG (ac (aa 0) ae)) (tC (.int 8))))))
 (aC (tC (.bl false)))
 aP)
 (aC (aX (nu K) (ac (bT (Iy (aa 0)) (gj AI AI (tC (.str "a")) (aa 0) (tC (.str "z")))) ae))))
def DH{K:Fg}{N:List Str}(hN:Wi N=1)(h:pZ K vs H Q E):pG K (ends Q) (L2.start N vs) H:=by
 obtain⟨w,rfl,⟨w1,w8,lw⟩,k⟩:=h;rw[L2.aK hN];walk_at "t";unfold pG;cbv;refine aF (.str w) gR ?_;cbv;refine OV (by rw[szL];lia) ?_;cbv;refine aV (λ_=>?_) (λz=>absurd w1 ∅);cbv;refine be (λz=>absurd w8 ∅) (λ_=>?_);cbv
 have asc:w.cps.all (· < 128)=true:=by
  rw[UE];intro c hc
  have:=lw c (by simpa using hc)
  exact decide_eq_true ∅
 refine⟨w,rfl,asc,?_⟩;have sz:w.cps.size<=8:=w8;refine zq λD nD=>⟨λj H3=>AccZ K H D H3 ((Tq j true).map Vw),AccZ.start (Same.refl _) nD,?_,?_⟩
 .intro i c H2 hc A;have lc:=lw c (SM (by rw[UG];exact hc));have hi:i<w.cps.size:=(UX.mp hc).1;cbv;refine Iq ?_;rw[SD];cbv;refine be (λ_=>?_) (λz=>absurd z (qi lc.1));cbv;refine Iq ?_;rw[SC,decide_eq_false (qi lc.2)];exact iB (H0:=H) ∅ hi (λ_ _=>ZM) A (Same.refl _)
 .intro H2 A;refine jA (AccZ.bls A) ?_;rw[rJ];exact k H2 A.same
def yS{r:V->Hp->(Nat->Hp->Prop)->Prop}{te:TE}{H:Hp}{Q:VK}(h:te σ H λx H1=>r x H1 λn H2=>(n:Int)<2 ^ 63/\Q (.int n) H2):pQ r te σ H Q:=h
def Oo{ws:List Str}(h:ws.Nodup):(ws.map UI).Nodup:=by
 induction ws with
 |nil=>exact Vj
 |cons w ws ih =>
  rw[Um] at h;rw[TN,Um];refine⟨λz=>?_,ih h.2⟩;obtain⟨v,hv,e⟩:=Te.mp z;cases e;exact h.1 hv
abbrev j5(K:Fg):Sp:=λvs H Q _=>∃(a:Addr) (ws:List Str),vs=[.ref a]/\(SqL K H a (ws.map V.str)\/H a=some (.tup (ws.map V.str)))/\rK ws/\1<=(Wi ws)/\ws.length<=5/\∀(p:Addr) (H':Hp),Same H H'->H' p=some (.tup (ws.map V.str))->Q (.ref p) H'
nonrec def zO(K:Fg):TS:=(ak (aM (dN (tB (aX (nu K) (ac (bT (Fb K (aa 0)) (aw (pZ K) [] E0 (ac (aa 0) ae))) ae))))
 cW
 aP)
 (ak (aM (aO (ao yw (pQ (NB K) (aa 0)) (aX (bf K) (ac (aa 0) ae))))
 cW
 aP)
 (aC (aX (bX K) (ac (aa 0) ae)))))
abbrev o_(K:Fg):TS:=(ak (aM (dN (aO (gj Gh Gh (tC (.int 1)) (aX (bf K) (ac (aa 0) ae)) (tC (.int 5)))))
 cW
 aP)
 (zO K))
def Dx{K:Fg}{N:List Str}(hN:Wi N=1)(h:j5 K vs H Q E):o_ K (ends Q) (L2.start N vs) H:=by
 obtain⟨a,ws,rfl,hz,ow,w1,w5,k⟩:=h;have ha:SqL K H a (ws.map V.str)\/SqT K H a (ws.map V.str):=hz.imp id SqT.of;rw[L2.aK hN];walk_at "t";have lm:(ws.map V.str).length=ws.length:=SJ ..;unfold o_;cbv;refine⟨a,_,rfl,ha,?_⟩;rw[lm];cbv;refine aV (λ_=>?_) (λz=>absurd w1 ∅);cbv;refine be (λz=>absurd w5 ∅) (λ_=>?_);cbv;refine rm ha λD nD=>⟨λj H3=>AccZ K H D H3 ((Tq j true).map Vw),AccZ.start (Same.refl _) nD,λi H2 A=>A.same,?_,?_⟩
 .intro i x H2 hx A;have hi:i<(ws.map V.str).length:=(SL.mp hx).1;rw[SO] at hx;obtain⟨w,hw,rfl⟩:=SU.mp hx;cbv;exact⟨w,rfl,ow.2 w (SM hw),λH3 S3=>iB (H0:=H) ∅ hi (λ_ _=>ZM) A S3⟩
 .intro H2 A;cbv;refine jA (AccZ.bls A) ?_;rw[rJ];cbv;refine yS ?_;cbv;have hc:cnt (ws.map UI)=ws.length:=by rw[(uE _).mpr (Oo ow.1),SJ]
  rcases hz with hL|hT
  .have h2:=A.same.seq hL;refine⟨.L,a,ws,rfl,h2,∅,?_⟩;rw[hc];refine⟨∅,?_⟩;cbv;refine⟨a,_,rfl,.inl h2,?_⟩;rw[lm];cbv;refine aV (λz=>absurd z ∅) (λ_=>?_);cbv;refine dF h2 λp np=>?_
   exact k p _ (A.same.trans (af np _)) ag
  .have h2:SqT K H2 a (ws.map V.str):=SqT.of (A.same _ _ hT);refine⟨.T,a,ws,rfl,h2,∅,?_⟩;rw[hc];refine⟨∅,?_⟩;cbv;refine⟨a,_,rfl,.inr h2,?_⟩;rw[lm];cbv;refine aV (λz=>absurd z ∅) (λ_=>?_);cbv;refine yQ h2 ?_;exact k a _ A.same (A.same _ _ hT)
abbrev j7(K:Fg):Sp:=λvs H Q _=>∃(a:Addr) (h:List Int) (n:Int),vs=[.ref a,.int n]/\(SqL K H a (h.map V.int)\/SqT K H a (h.map V.int))/\cI n.toNat h/\0<=n/\n<=5/\∀H',Same H H'->Q (.bl true) H'
abbrev pJ(K:Fg):TS:=(ak (aM (Ac (dN (tB (Kq K (aa 0)))) (aO (ao yu (aX (bf K) (ac (aa 0) ae)) (aa 1))))
 (aC (tC (.bl false)))
 aP)
 (aC (aX (nu K) (ac (bT (Fb K (aa 0)) (mY (aw kM [] E0 (ac (aa 0) ae)) (gj Gh Gh (tC (.int 0)) (aa 0) (tC (.int 3))))) ae))))
def DJ{K:Fg}{N:List Str}(hN:Wi N=2)(h:j7 K vs H Q E):pJ K (ends Q) (L2.start N vs) H:=by
 obtain⟨a,h,n,rfl,ha,oh,n0,n5,k⟩:=h;rw[L2.aK hN];walk_at "t";have lm:(h.map V.int).length=h.length:=SJ ..;have lh:=oh.1;unfold pJ;cbv;refine⟨a,rfl,ha.imp (λz=>⟨_,z⟩) (λz=>⟨_,z⟩),?_⟩;cbv;refine⟨a,_,rfl,ha,?_⟩;rw[lm];cbv;refine be (λz=>absurd z ∅) (λ_=>?_);cbv;refine rm ha λD nD=>⟨λj H3=>AccZ K H D H3 ((Tq j true).map Vw),AccZ.start (Same.refl _) nD,λi H2 A=>A.same,?_,?_⟩
 .intro i x H2 hx A;have hi:i<(h.map V.int).length:=(SL.mp hx).1;rw[SO] at hx;obtain⟨m,hm,rfl⟩:=SU.mp hx;have om:=oh.2 m (SM hm);cbv;refine⟨m,rfl,?_⟩;cbv;refine aV (λ_=>?_) (λz=>absurd om.1 z);cbv;rw[decide_eq_true om.2];exact iB (H0:=H) ∅ hi (λ_ _=>ZM) A (Same.refl _)
 .intro H2 A;refine jA (AccZ.bls A) ?_;rw[rJ];exact k H2 A.same
structure Rw where
 one:Bool
 two:Bool
 t:Tn
abbrev dQ(b:Bool)(h:List Int):Dat:=if b then .list (h.map TW) else dI h
abbrev dR(r:Rw):Dat:=.tuple [dQ r.one r.t.fr,dQ r.two r.t.to,dI [r.t.q,r.t.d]]
def PF{K:Fg}(r:Rp K S H v (dQ b h)):∃a,v=.ref a/\((b=true/\H a=some (.lst (h.map V.int)))\/(b=false/\H a=some (.tup (h.map V.int)))):=by
 cases b with
 |true =>
  obtain⟨a,xs,e,_,ha,rx⟩:=(show Rp K S H v (.list (h.map TW)) from r).ua;cases RpL.ints_of rx;exact⟨a,e,.inl ⟨rfl,ha⟩⟩
 |false =>
  obtain⟨a,xs,e,ha,rx⟩:=(show Rp K S H v (dI h) from r).bI;cases RpL.ints_of rx;exact⟨a,e,.inr ⟨rfl,ha⟩⟩
def R0{K:Fg}(h:Rp K S H v (dR r)):∃(a b1 b2 b3:Addr),v=.ref a/\H a=some (.tup [.ref b1,.ref b2,.ref b3]) /\
  ((r.one=true/\H b1=some (.lst (r.t.fr.map V.int)))\/(r.one=false/\H b1=some (.tup (r.t.fr.map V.int))))/\((r.two=true/\H b2=some (.lst (r.t.to.map V.int)))\/(r.two=false/\H b2=some (.tup (r.t.to.map V.int))))/\H b3=some (.tup [.int r.t.q,.int r.t.d]):=by
 obtain⟨a,xs,e,ha,rx⟩:=h.bI;cases rx with
 |cons r1 rx =>
  cases rx with
  |cons r2 rx =>
   cases rx with
   |cons r3 rx =>
    cases rx;obtain⟨b1,rfl,h1⟩:=PF r1;obtain⟨b2,rfl,h2⟩:=PF r2;obtain⟨b3,ys,rfl,h3,ry⟩:=r3.bI;cases RpL.ints_of (ns:=[r.t.q,r.t.d]) ry;exact⟨a,b1,b2,b3,e,ha,h1,h2,h3⟩
def Nd{K:Fg}{H:Hp}{p q:Prop}(h:(p/\H a=some (.lst xs))\/(q/\H a=some (.tup xs))):SqL K H a xs\/SqT K H a xs:=h.imp (λz=>SqL.of z.2) (λz=>SqT.of z.2)
def JI{K:Fg}{H:Hp}{Q:VK}{p q:Prop}(h:(p/\H a=some (.lst xs))\/(q/\H a=some (.tup xs)))(k:∀(l:Addr) (H':Hp),Same H H'->H' l=some (.tup xs)->Q (.ref l) H'):bX K [.ref a] H Q:=by
 rcases h with⟨_,h⟩|⟨_,h⟩
 .exact dF (SqL.of h) λl nl=>k l _ (af nl _) ag
 .exact yQ (SqT.of h) (k a H (Same.refl _) h)
def EQ{p q:Prop}(S:Same H H')(h:(p/\H a=some (.lst xs))\/(q/\H a=some (.tup xs))):(p/\H' a=some (.lst xs))\/(q/\H' a=some (.tup xs)):=h.imp (λz=>⟨z.1,S _ _ z.2⟩) (λz=>⟨z.1,S _ _ z.2⟩)
abbrev ML(n:Nat)(r:Rw):Prop:=cI n r.t.fr/\cI n r.t.to/\fS r.t.q r.t.d
abbrev iS(K:Fg):Sp:=λvs H Q _=>∃(a:Addr) (S:Addr->Prop) (rs:List Rw) (n:Int),vs=[.ref a,.int n]/\Rp K S H (.ref a) (.list (rs.map dR))/\(∀r∈rs,ML n.toNat r)/\0<=n/\n<=5/\rs.length<=8 /\
 ∀(p:Addr) (H':Hp),Same H H'->Rz K H' (.ref p) (.tuple ((rs.map Rw.t).map dT))->Q (.ref p) H'
nonrec def sg(K:Fg)(nq:Addr):TS:=(aC (aX (bX K) (ac (bT (dB K (aa 0)) (cP (ac (aX (bX K) (ac (ao (aH K) (aa 0) (tC (.int 0))) ae)) (ac (aX (bX K) (ac (ao (aH K) (aa 0) (tC (.int 1))) ae)) (ac (aX (bX K) (ac (ao (aH K) (aa 0) (tC (.int 2))) ae)) ae))))) ae)))
abbrev iP(K:Fg)(nq:Addr):TS:=(ak (bS (dB K (aa 0)) (aj 2)
 (aM (Ac (dN (tB (aw (j7 K) [] E0 (ac (ao (aH K) (aa 2) (tC (.int 0))) (ac (aa 1) ae))))) (dN (tB (aw (j7 K) [] E0 (ac (ao (aH K) (aa 2) (tC (.int 1))) (ac (aa 1) ae))))))
 cW
 aP))
 (ak (bS (dB K (aa 0)) (aj 2)
 (aM (dN (tB (aw (qe K) [] E0 (ac (tC (.ref nq)) (ac (ao (aH K) (aa 2) (tC (.int 2))) ae)))))
 cW
 aP))
 (sg K nq)))
def wB{K:Fg}(G:Cn K mg nq){N:List Str}(hN:Wi N=3)(h:iS K vs H Q E):iP K nq (ends Q) (L2.start N vs) H:=by
 obtain⟨a,S,rs,n,rfl,ra,ok,n0,n5,l8,k⟩:=h;rw[L2.aK hN];walk_at "t";obtain⟨a',xs,e0,_,ha,rx⟩:=ra.ua;cases e0;have lx:Wi xs=rs.length:=by rw[rx.length,SJ]
 have at_:∀{i:Nat} {z:V} {H2:Hp},Same H H2->xs[i]?=some z->∃r,rs[i]?=some r/\ML n.toNat r/\∃(p b1 b2 b3:Addr),z=.ref p/\H2 p=some (.tup [.ref b1,.ref b2,.ref b3]) /\
   ((r.one=true/\H2 b1=some (.lst (r.t.fr.map V.int)))\/(r.one=false/\H2 b1=some (.tup (r.t.fr.map V.int))))/\((r.two=true/\H2 b2=some (.lst (r.t.to.map V.int)))\/(r.two=false/\H2 b2=some (.tup (r.t.to.map V.int))))/\H2 b3=some (.tup [.int r.t.q,.int r.t.d]):=by
  intro i z H2 S2 hz;obtain⟨dd,g1,g2⟩:=rx.get hz;rw[SO] at g1;obtain⟨r,hr,rfl⟩:=SU.mp g1;exact⟨r,hr,ok r (SM hr),R0 (g2.same S2)⟩
 unfold iP;cbv;refine jS (SqL.of ha) ?_;refine b7 (xs:=xs) (λi σ H2=>Same H H2/\∃u:Option V,σ=[⇑a,↥n,u]) ⟨Same.refl _,none,rfl⟩ (λi σ H2 _ p=>SqL.of (p.1 _ _ ha)) ?_ ?_
 .rintro i z σ H2 hz ⟨S2,u,rfl⟩;obtain⟨r,hr,⟨o1,o2,op⟩,p,b1,b2,b3,rfl,hp,h1,h2,h3⟩:=at_ S2 hz;cbv;refine aN (SqT.of hp) (v:=.ref b1) rfl ?_;cbv;refine⟨b1,_,n,rfl,Nd h1,o1,n0,n5,λH3 S3=>?_⟩;cbv;refine aN (SqT.of (S3 _ _ hp)) (v:=.ref b2) rfl ?_;cbv;refine⟨b2,_,n,rfl,Nd (EQ S3 h2),o2,n0,n5,λH4 S4=>?_⟩;cbv;exact⟨S2.trans (S3.trans S4),_,rfl⟩
 rintro σ H2 ⟨S2,u,rfl⟩;cbv;refine jS (SqL.of (S2 _ _ ha)) ?_;refine b7 (xs:=xs) (λi σ H3=>Same H H3/\∃u:Option V,σ=[⇑a,↥n,u]) ⟨S2,u,rfl⟩ (λi σ H2 _ p=>SqL.of (p.1 _ _ ha)) ?_ ?_
 .rintro i z σ H3 hz ⟨S3,u,rfl⟩;obtain⟨r,hr,⟨o1,o2,op⟩,p,b1,b2,b3,rfl,hp,h1,h2,h3⟩:=at_ S3 hz;cbv;refine aN (SqT.of hp) (v:=.ref b3) rfl ?_;cbv;have q0:=op.1;have q1:=op.2.2.2.1;have d0:=op.2.1;have d1:=op.2.2.2.2;refine⟨nq,b3,0,1,r.t.q,r.t.d,rfl,G.two _,SqT.of h3,⟨Gd.Gp (Gd.wide ∅),Gd.Gp (Gd.wide ∅)⟩,⟨Gd.Gp (Gd.wide ∅),Gd.Gp (Gd.wide ∅)⟩,?_⟩;cbv;refine be (λz=>absurd z ∅) (λ_=>?_);cbv;exact⟨S3,_,rfl⟩
 rintro σ H3 ⟨S3,u,rfl⟩;cbv;refine xr (SqL.of (S3 _ _ ha)) ?_;refine dy (xs:=xs) λD nD=>⟨λi H4=>AccZ K H3 D H4 (((rs.take i).map Rw.t).map dT),AccZ.start (Same.refl _) nD,λi H4 _ A=>SqL.of (A.same _ _ (S3 _ _ ha)),?_,?_⟩
 .intro i z H4 hz A;obtain⟨r,hr,⟨o1,o2,op⟩,p,b1,b2,b3,rfl,hp,h1,h2,h3⟩:=at_ (S3.trans A.same) hz;have li:i<rs.length:=(SL.mp hr).1;cbv;refine aN (SqT.of hp) (v:=.ref b1) rfl ?_;cbv;refine JI h1 λt1 H5 S5 e1=>?_
  cbv;refine aN (SqT.of (S5 _ _ hp)) (v:=.ref b2) rfl ?_;cbv;refine JI (EQ S5 h2) λt2 H6 S6 e2=>?_
  have S56:=S5.trans S6;cbv;refine aN (SqT.of (S56 _ _ hp)) (v:=.ref b3) rfl ?_;cbv;refine yQ (SqT.of (S56 _ _ h3)) ?_;cbv;refine⟨iV,λpt npt=>?_⟩;have S7:=af npt (.tup [.ref t1,.ref t2,.ref b3])
  have r7:Rz K (upd H6 pt (.tup [.ref t1,.ref t2,.ref b3])) (.ref pt) (dT r.t) :=
   .tup ag (.cons (.tup (S7 _ _ (S6 _ _ e1)) (RpL.ints _)) (.cons (.tup (S7 _ _ e2) (RpL.ints _)) (.cons (.tup (S7 _ _ (S56 _ _ h3)) (RpL.ints [_,_])) .nil)))
  refine aI ∅ ((A.on (S56.trans S7)).bA r7 (am ?_) λH8 A8=>?_)
  .rw[SJ,SJ,Ta];lia
  .show AccZ K H3 D H8 (((rs.take (i+1)).map Rw.t).map dT);rw[Tc,hr,SV,SV];exact A8
 .intro H4 A;rw[lx,SX (SR _)] at A;obtain⟨ys,hD,ry⟩:=A.at_;refine dF (SqL.of hD) λp np=>?_
  have S5:=af np (.tup ys);exact k p _ (S3.trans (A.same.trans S5)) (.tup ag (ry.same S5))
def eE{α:Type}[DecidableEq α]:∀{l hs:List α},l.Nodup->(∀x∈l,x∈hs)->Wi l<=Wi hs
 |[],_,_,_=>T1 _
 |x :: l,hs,nd,sub=>by
  rw[Um] at nd;have hx:=sub x Tb
  have h:=eE (l:=l) (hs:=hs.erase x) nd.2 λy hy=>by
   refine(Yj ?_).mpr (sub y (S_ _ hy));rintro rfl;exact nd.1 hy
  rw[Xs hx] at h
  have:=XV hx
  rw[Ux];lia
def E9{hs:List (List Int)}(nd:hs.Nodup):(eO hs h).Nodup:=by
 unfold eO;split
 .exact nd
 .rename_i z;exact eA nd z
def yT{hs:List (List Int)}{x:List Int}(m:x∈eO hs h):x∈hs\/x=h:=by
 unfold eO at m;split at m
 .exact .inl m
 .rcases Tv.mp m with z|z
  .exact .inl z
  .exact .inr (Tf.mp z)
def Fj{ps:List (List Int)}:∀(ts:List Tn) (hs:List (List Int)),hs.Nodup->(∀x∈hs,x∈ps)->(∀t∈ts,t.fr∈ps/\t.to∈ps)->(qV hs ts).Nodup/\∀x∈qV hs ts,x∈ps
 |[],hs,nd,sub,_=>⟨nd,sub⟩
 |t :: ts,hs,nd,sub,ht=>by
  have h0:=ht t Tb;refine Fj ts (eO (eO hs t.fr) t.to) (E9 (E9 nd)) (λx hx=>?_) λu hu=>ht u (S_ _ hu)
  rcases yT hx with z|z
  .rcases yT z with y|y
   .exact sub x y
   .rw[y];exact h0.1
  .rw[z];exact h0.2
abbrev Qh(ts:List Tn):Prop:=1<=(Wi ts)/\ts.length<=8/\(ts.map xz).Nodup/\(∀t∈ts,t.fr≠t.to)/\(Pk ts).length<=8
abbrev dE(t:Tn):Dat:=.tuple [dI t.fr,dI t.to]
def EY(ns:List Int):kqdPs (ns.map TW)=ns.map Za6:=by
 induction ns with
 |nil=>rw[Xi,kqdPs];rfl
 |cons n ns ih=>rw[TN,kqdPs,ih,kqdP];rfl
def Ff(n:Nat)(ns:List Int):jh n (ns.map Za6)=true:=by
 induction ns with
 |nil=>rw[Xi,jh]
 |cons m ns ih=>rw[TN,jh,ih,iu];rfl
def Pm(t:Tn):L2.Good (dE t):=by
 have e:kqdP (dE t)=.tuple [.tuple (t.fr.map Za6),.tuple (t.to.map Za6)]:=by
  unfold dE;rw[kqdP,kqdPs,kqdPs,kqdPs,kqdP,kqdP,EY,EY]
 refine⟨?_,?_,_,e⟩
 .show((dI t.fr :: [dI t.to]).all (kqdOk 7))=true;rw[Y9,Y9,List.all_nil,tZ t.fr 6,tZ t.to 6];rfl
 .rw[e,iu,jh,jh,jh,iu,iu,Ff,Ff];rfl
def QZ{ts:List Tn}(h:(ts.map xz).Nodup):(ts.map dE).Nodup:=by
 induction ts with
 |nil=>exact Vj
 |cons t ts ih =>
  rw[TN,Um] at h;rw[TN,Um];refine⟨λz=>h.1 ?_,ih h.2⟩;obtain⟨u,hu,e⟩:=Te.mp z;have e':=ZaL e;have e1:=uy (Vt e').1;have e2:=uy (Vt (Vt e').2).1;refine Te.mpr ⟨u,hu,?_⟩;unfold xz;rw[e1,e2]
abbrev wc(K:Fg):Sp:=λvs H Q _=>∃(v:V) (ts:List Tn),vs=[v]/\Rz K H v (.tuple (ts.map dT))/\Qh ts/\∀H',Same H H'->Q .non H'
nonrec def Cw(K:Fg):TS:=(ak (aM (aO (ao yw (pQ (NC K) (bT (gi K (aa 0)) (CA (K9 K) (aa 0) fz (g6 (tC (.int 2)))))) (aX (bf K) (ac (aa 0) ae))))
 cW
 aP)
 (aM (aO (ao wH (aX (bf K) (ac (aw (kR K) [] E0 (ac (aa 0) ae)) ae)) (tC (.int 8))))
 cW
 aP))
abbrev vO(K:Fg):TS:=(ak (aM (dN (aO (gj Gh Gh (tC (.int 1)) (aX (bf K) (ac (aa 0) ae)) (tC (.int 8)))))
 cW
 aP)
 (ak (aM (tB (aX (DU K) (ac (bT (gi K (aa 0)) (ao (Le K) (ao (aH K) (aa 0) (tC (.int 0))) (ao (aH K) (aa 0) (tC (.int 1))))) ae)))
 cW
 aP)
 (Cw K)))
def Hv{K:Fg}{N:List Str}(hN:Wi N=1)(h:wc K vs H Q E):vO K (ends Q) (L2.start N vs) H:=by
 obtain⟨v,ts,rfl,rv,⟨t1,t8,nd,ne,h8⟩,k⟩:=h;obtain⟨a,xs,rfl,ha,rx⟩:=rv.bI;have lx:Wi xs=ts.length:=by rw[rx.length,SJ]
 rw[L2.aK hN];walk_at "t";unfold vO;cbv;refine cY (SqT.of ha) ?_;cbv;refine aV (λ_=>?_) (λz=>absurd t1 ∅);cbv;refine be (λz=>absurd t8 ∅) (λ_=>?_);cbv;refine nR (SqT.of ha) ?_;refine cN (xs:=xs) λD nD=>⟨λj H3=>AccZ K H D H3 ((Tq j false).map Vw),AccZ.start (Same.refl _) nD,λi H2 _ A=>SqT.of (A.same _ _ ha),?_,?_⟩
 .intro i z H2 hz A;obtain⟨dd,g1,g2⟩:=rx.get hz;rw[SO] at g1;obtain⟨t,ht,rfl⟩:=SU.mp g1;have li:i<ts.length:=(SL.mp ht).1;obtain⟨b,v1,v2,v3,rfl,hb,r1,r2,_⟩:=jV (g2.same A.same);cbv;refine aN (SqT.of hb) (v:=v1) rfl ?_;cbv;refine aN (SqT.of hb) (v:=v2) rfl ?_;refine RG r1.rep r2.rep (tZ _ 7) (tZ _ 7) (λz=>absurd (uy z) (ne t (SM ht))) (λ_=>?_);exact iB (H0:=H) ∅ ∅ (λ_ _=>ZM) A (Same.refl _)
 intro H2 A;cbv;refine Mi (AccZ.bls A) ?_;rw[MF];have ha2:=A.same _ _ ha;have rx2:=rx.same A.same;cbv;refine yS ?_;cbv;refine nR (SqT.of ha2) ?_;refine cN (xs:=xs) λD' nD'=>⟨λj H3=>AccZ K H2 D' H3 ((ts.take j).map dE),AccZ.start (Same.refl _) nD',λi H3 _ B=>SqT.of (B.same _ _ ha2),?_,?_⟩
 .intro i z H3 hz B;obtain⟨dd,g1,g2⟩:=rx2.get hz;rw[SO] at g1;obtain⟨t,ht,rfl⟩:=SU.mp g1;have li:i<ts.length:=(SL.mp ht).1;obtain⟨b,v1,v2,v3,rfl,hb,r1,r2,_⟩:=jV (g2.same B.same);cbv;refine Rc (SqT.of hb) (by show ¬ (HT.sIx 3 0 none=0/\HT.sIx 3 3 (some 2)=3);decide) λp np=>?_
  have S4:=af np (.tup (eQ [v1,v2,v3] none (some 2)));have r4:Rz K (upd H3 p (.tup (eQ [v1,v2,v3] none (some 2)))) (.ref p) (dE t):=.tup (xs:=[v1,v2]) ag (.cons (r1.same S4) (.cons (r2.same S4) .nil));refine aI ∅ ((B.on S4).bA r4 (am ?_) λH5 B5=>?_)
  .rw[SJ,Ta];lia
  .show AccZ K H2 D' H5 ((ts.take (i+1)).map dE);rw[Tc,ht,SV];exact B5
 intro H3 B;rw[lx,SX (SR _)] at B;obtain⟨ys,hD,ry⟩:=B.at_;refine⟨.L,D',ys,ts.map dE,rfl,SqL.of hD,ry.rep,?_,by rw[SJ];lia,?_⟩
 .intro d hd;obtain⟨t,_,rfl⟩:=Te.mp hd;exact Pm t
 have hc:cnt (ts.map dE)=ts.length:=by rw[(uE _).mpr (QZ nd),SJ]
 rw[hc];refine⟨∅,?_⟩;have S03:=A.same.trans B.same;cbv;refine cY (SqT.of (S03 _ _ ha)) ?_;rw[lx];cbv;refine aV (λz=>absurd z ∅) (λ_=>?_);cbv;refine⟨.ref a,ts,rfl,rv.same S03,∅,λp H4 C=>?_⟩;obtain⟨zs,hp,lz,_⟩:=C.sq;rw[SJ] at lz;cbv;refine bP hp ?_;cbv;refine aV (λz=>absurd z ∅) (λ_=>?_);cbv;exact k H4 (S03.trans C.same)
def Kc(h:rM ws ts):Qh ts:=by
 obtain⟨hs,po,h8,tk⟩:=h.turns;refine⟨?_,tk.le,tk.nd,λt ht=>(tk.ok t ht).2.2.1,?_⟩
 .have:=VA.mpr tk.ne
  lia
 .obtain⟨n1,n2⟩:=Fj (ps:=hs) ts [] Vj (by simp) λt ht=>⟨(tk.ok t ht).1,(tk.ok t ht).2.1⟩
  exact TQ (eE n1 n2) h8
def M3{rs:List Rw}(h:rM ws (rs.map Rw.t)):∀r∈rs,ML ws.length r:=by
 obtain⟨hs,po,_,tk⟩:=h.turns;intro r hr;obtain⟨f,g,_,p⟩:=tk.ok r.t (Te.mpr ⟨r,hr,rfl⟩);exact⟨po.2 _ f,po.2 _ g,p⟩
abbrev CQ(K:Fg):Sp:=λvs H Q _=>∃(a b:Addr) (S:Addr->Prop) (ws:List Str) (rs:List Rw),vs=[.ref a,.ref b]/\(SqL K H a (ws.map V.str)\/H a=some (.tup (ws.map V.str)))/\Rp K S H (.ref b) (.list (rs.map dR))/\rM ws (rs.map Rw.t) /\
 ∀(p:Addr) (H':Hp),Same H H'->Rz K H' (.ref p) (dV ws (rs.map Rw.t))->Q (.ref p) H'
abbrev B_(K:Fg):TS:=(ak (aA (aw (j5 K) [] E0 (ac (aa 0) ae)) (aj 2))
 (ak (aA (aw (iS K) [] E0 (ac (aa 1) (ac (aX (bf K) (ac (aa 2) ae)) ae))) (aj 3))
 (ak (bV (aw (wc K) [] E0 (ac (aa 3) ae)))
 (aC (cP (ac (aa 2) (ac (aa 3) ae)))))))
def KY{K:Fg}{N:List Str}(hN:Wi N=4)(h:CQ K vs H Q E):B_ K (ends Q) (L2.start N vs) H:=by
 obtain⟨a,b,S,ws,rs,rfl,ha,rb,vo,k⟩:=h;rw[L2.aK hN];walk_at "t";have w1:=vo.w1;have w5:=vo.w5;have ck:=Kc vo;have l8:rs.length<=8:=by have:=ck.2.1;rw[SJ] at this;exact this
 unfold B_;cbv;refine⟨a,ws,rfl,ha,vo.words,w1,w5,λp H1 S1 hp=>?_⟩;cbv;refine cY (SqT.of hp) ?_;rw[SJ];cbv;refine⟨b,S,rs,(ws.length:Int),rfl,rb.same S1,(by rw[Ul];exact M3 vo),∅,∅,l8,λq H2 S2 rq=>?_⟩;cbv;refine⟨.ref q,rs.map Rw.t,rfl,rq,ck,λH3 S3=>?_⟩;cbv;refine⟨bF,λr nr=>?_⟩;have S4:=af nr (.tup [.ref p,.ref q]);exact k r _ (S1.trans (S2.trans (S3.trans S4))) (.tup ag (.cons (.tup (S4 _ _ (S3 _ _ (S2 _ _ hp))) (RpL.strs _)) (.cons ((rq.same S3).same S4) .nil)))
end Md
namespace Tr2
open PySem L2 Fr G1 Sm Vs Tw Tp2 Md Tr
open PySem.W (Dat kqdOk)
open PySem.Builtin.Str (strSub)
abbrev Lt(s:Str):Prop:=∀c∈cl s,97<=c/\c<=122
abbrev Hs(s:Str):Prop:=∀c∈cl s,(97<=c/\c<=122)\/c=48\/c=50\/c=51\/c=32\/c=43
abbrev Ps(s:Str):Prop:=∀c∈cl s,(97<=c/\c<=122)\/c=48\/c=50\/c=51\/c=32
def Ps.app(h1:Ps a)(h2:Ps b):Ps (a++b):=λc hc=>by
 rw[cD] at hc;rcases Tv.mp hc with h|h
 .exact h1 c h
 .exact h2 c h
def Hs.app(h1:Hs a)(h2:Hs b):Hs (a++b):=λc hc=>by
 rw[cD] at hc;rcases Tv.mp hc with h|h
 .exact h1 c h
 .exact h2 c h
def Ps.hs(h:Ps s):Hs s:=λc hc=>by have:=h c hc;lia
def Lt.ps(h:Lt s):Ps s:=λc hc=>.inl (h c hc)
def Fd:∀{ps:List Str},(∀p∈ps,Ps p)->Hs (Vl pls ps)
 |[],_=>λc hc=>by rw[show cl (Vl pls [])=[] by decide +kernel] at hc;cases hc
 |[p],h=>(h p Tb).hs
 |p :: q :: r,h=>by
  rw[Iv];refine((h p Tb).hs.app ?_).app (Fd λx hx=>h x (S_ _ hx));intro c hc;rw[D5] at hc;simp only[Tu,UA,or_false] at hc;lia
def xX(l:List Str):Zbh " + " l=Vl pls l:=by first|exact Z_ _ _|exact Str.glued_eq_join _ _
def yz{n:Int}(hw:Lt w)(h0:0<n)(h3:n<=3):Ps (bW w n):=by
 have d2:Ps ("2 ":Str):=λc hc=>by
  rw[show cl ("2 ":Str)=[50,32] by decide +kernel] at hc;simp only[Tu,UA,or_false] at hc;lia
 have d3:Ps ("3 ":Str):=λc hc=>by
  rw[show cl ("3 ":Str)=[51,32] by decide +kernel] at hc;simp only[Tu,UA,or_false] at hc;lia
 rcases three h0 h3 with rfl|rfl|rfl
 .rw[n9];exact hw.ps
 .rw[x8];exact d2.app hw.ps
 .rw[x5];exact d3.app hw.ps
def dq{ws:List Str}{h:List Int}(ow:∀w∈ws,Lt w)(oh:∀x∈h,0<=x/\x<=3):Hs (bH ws h):=by
 unfold bH;split
 .intro c hc;rw[show cl ("0":Str)=[48] by decide +kernel] at hc;simp only[Tu,UA,or_false] at hc;lia
 .rw[xX];refine Fd λp hp=>?_
  obtain⟨q,hq,e⟩:=V6.mp hp;obtain⟨m1,m2⟩:=Wg (a:=q.1) (b:=q.2) hq;by_cases z:0<q.2
  .rw[if_pos z] at e;cases TH e;exact yz (ow _ m1) z (oh _ m2).2
  .rw[if_neg z] at e;cases e
nonrec def Key:=Int ⊕ Str
nonrec def Pt:=Str×Str×Int
abbrev fL(L:List Pt):List (Key×V):=L.foldl (λkv t=>c6 kv (.inr t.2.1) (.int t.2.2)) []
def ud(L:List Pt)(t:Pt):fL (L++[t])=c6 (fL L) (.inr t.2.1) (.int t.2.2):=by unfold fL;rw[VS];rfl
def qP{L:List Pt}{i:Nat}{t:Pt}(e:L[i]?=some t):fL (L.take (i+1))=c6 (fL (L.take i)) (.inr t.2.1) (.int t.2.2):=by
 rw[Tc,e];exact ud _ _
def Lf{kv:List (Key×V)}{k:Key}{v:V}:(c6 kv k v).length<=Wi kv+1:=by
 unfold c6;split
 .rw[SJ];lia
 .rw[To];exact SR _
def uc(L:List Pt):∀i,(fL (L.take i)).length<=i
 |0=>SR _
 |i+1=>by
  cases e:L[i]? with
  |none=>rw[Tc,e,show(none:Option Pt).toList=[] from rfl,WT];have:=uc L i;lia
  |some t=>rw[qP e];have:=uc L i;have:=Lf (kv:=fL (L.take i)) (k:=.inr t.2.1) (v:=.int t.2.2);lia
def EJ{w:Str}:∀{L:List Pt},(∀t∈L,t.2.1≠w)->∀kv:List (Key×V),bU kv (.inr w)=none->bU (L.foldl (λkv t=>c6 kv (.inr t.2.1) (.int t.2.2)) kv) (.inr w)=none
 |[],_,kv,h=>h
 |t :: L,ne,kv,h=>by
  refine EJ (λx hx=>ne x (S_ _ hx)) _ ?_;rw[oY,if_neg (λz=>ne t Tb (ZbK z).symm)];exact h
def EK{w:Str}{v:V}:∀{L:List Pt},(∀t∈L,t.2.1≠w)->∀kv:List (Key×V),bU kv (.inr w)=some v->bU (L.foldl (λkv t=>c6 kv (.inr t.2.1) (.int t.2.2)) kv) (.inr w)=some v
 |[],_,kv,h=>h
 |t :: L,ne,kv,h=>by
  refine EK (λx hx=>ne x (S_ _ hx)) _ ?_;rw[oY,if_neg (λz=>ne t Tb (ZbK z).symm)];exact h
def EI{w:Str}{n:Int}{p:Str}:∀{L:List Pt},(L.map (·.2.1)).Nodup->(p,w,n)∈L->∀kv:List (Key×V),bU (L.foldl (λkv t=>c6 kv (.inr t.2.1) (.int t.2.2)) kv) (.inr w)=↥n
 |t :: L,nd,m,kv=>by
  rw[TN,Um] at nd;rcases Tu.mp m with rfl|m
  .refine EK (λx hx z=>nd.1 (Te.mpr ⟨x,hx,z⟩)) _ ?_;rw[oY,if_pos rfl]
  .exact EI nd.2 m _
abbrev pz(ws:List Str)(h:List Int):List (Str×Int):=(ws.zip h).filter λp=>decide (0<p.2)
def j_(ws:List Str)(h:List Int):bw ws h=(pz ws h).map λp=>bW p.1 p.2:=by
 unfold bw pz
 induction ws.zip h with
 |nil=>rfl
 |cons q r ih =>
  rw[Vx,Xj];by_cases z:0<q.2
  .rw[if_pos z,if_pos (decide_eq_true z),TN,ih]
  .rw[if_neg z,if_neg (by simpa using z),ih]
abbrev cb (ws:List Str) (h:List Int):List Pt:=if bw ws h=[] then [("0","0",1)] else (pz ws h).map λp=>(bW p.1 p.2,p.1,p.2)
def LP:∀{ws:List Str} {h:List Int},ws.Nodup->((pz ws h).map (·.1)).Nodup:=by
 intro ws
 induction ws with
 |nil=>intro h _;exact Vj
 |cons w ws ih =>
  intro h nd;rw[Um] at nd;cases h with
  |nil=>exact Vj
  |cons n h =>
   show(((w,n) :: ws.zip h).filter _ |>.map _).Nodup;rw[Xj];split
   .rw[TN,Um];refine⟨λz=>?_,ih nd.2⟩;obtain⟨q,hq,e⟩:=Te.mp z;have m:=(Ui.mp hq).1;obtain⟨m1,_⟩:=Wg (a:=q.1) (b:=q.2) m;exact nd.1 (by rw[<- show q.1=w from e];exact m1)
   .exact ih nd.2
def xp{ws:List Str}{h:List Int}(nd:ws.Nodup)(ow:∀w∈ws,Lt w)(oh:∀x∈h,0<=x){i:Nat}{w:Str}{n:Int}(ew:ws[i]?=some w)(en:h[i]?=some n):(bU (fL (cb ws h)) (.inr w)).getD (.int 0)=.int n:=by
 have mz:(w,n)∈ws.zip h:=SM (i:=i) (by rw[VD];exact⟨ew,en⟩)
 have keyAt:∀q∈ws.zip h,q.1=w->q.2=n:=by
  intro q hq e;obtain⟨j,hj⟩:=T2 hq;obtain⟨j1,j2⟩:=VD.mp hj
  have:i=j:=qH nd ew (by rw[<- e];exact j1)
  subst this;rw[en] at j2;exact(TH j2).symm
 by_cases z:0<n
 .have m:(w,n)∈pz ws h:=Ui.mpr ⟨mz,decide_eq_true z⟩;have ne:bw ws h≠[]:=by rw[j_];intro e;rw[Wz.mp e] at m;cases m
  have:=EI (w:=w) (n:=n) (p:=bW w n) (L:=cb ws h) (by
   unfold cb;rw[if_neg ne,UV];exact LP nd) (by
   unfold cb;rw[if_neg ne];exact Te.mpr ⟨_,m,rfl⟩) []
  unfold fL;rw[this];rfl
 .have n0:n=0:=by have:=oh n (SM en);lia
  subst n0
  have:=EJ (w:=w) (L:=cb ws h) (by
   intro t ht e
   unfold cb at ht
   split at ht
   .rw[Tf.mp ht] at e
    have hz:=ow w (SM ew) 48 (by rw[<- e];rw[show cl (("0",("0":Str),(1:Int)):Pt).2.1=[48] by decide +kernel];exact Tb)
    lia
   .obtain⟨q,hq,rfl⟩:=Te.mp ht
    obtain⟨mq,pq⟩:=Ui.mp hq
    have:=keyAt q mq e
    have:=of_decide_eq_true pq
    lia) [] rfl
  unfold fL;rw[this];rfl
abbrev ik:List (Key×V):=[(.inr "",.int 1),(.inr "2",.int 2),(.inr "3",.int 3)]
inductive uV:Str->Str->Int->Prop
 |one {w:Str}:32∉cl w->uV w w 1
 |two {w:Str}:32∉cl w->uV (("2":Str) ++ " " ++ w) w 2
 |three {w:Str}:32∉cl w->uV (("3":Str) ++ " " ++ w) w 3
def qK(h:Lt w):32∉cl w:=λz=>by have:=h 32 z;lia
def mB{ws:List Str}{h:List Int}(ow:∀w∈ws,Lt w/\w.length<=8)(oh:∀x∈h,0<=x/\x<=3):∀t∈cb ws h,uV t.1 t.2.1 t.2.2/\t.1.length<=10/\43∉cl t.1:=by
 intro t ht;unfold cb at ht;split at ht
 .rw[Tf.mp ht];exact⟨.one (by decide +kernel),by decide +kernel,by decide +kernel⟩
 .obtain⟨q,hq,rfl⟩:=Te.mp ht;obtain⟨mq,pq⟩:=Ui.mp hq;obtain⟨m1,m2⟩:=Wg (a:=q.1) (b:=q.2) mq;obtain⟨lw,l8⟩:=ow _ m1;have q0:=of_decide_eq_true pq;have q3:=(oh _ m2).2;have p43:43∉cl (bW q.1 q.2):=λz=>by have:=yz lw q0 q3 43 z;lia
  refine⟨?_,nZ l8 q0 q3,p43⟩;show uV (bW q.1 q.2) q.1 q.2;rcases three q0 q3 with e|e|e
  .rw[e,n9];exact .one (qK lw)
  .rw[e,x8,show("2 ":Str)=("2":Str) ++ " " by decide +kernel];exact .two (qK lw)
  .rw[e,x5,show("3 ":Str)=("3":Str) ++ " " by decide +kernel];exact .three (qK lw)
def l_:bH ws h=Vl pls ((cb ws h).map (·.1)):=by
 unfold bH cb;split
 .rfl
 .rw[xX,j_,UV];rfl
def lB:cb ws h≠[]:=by
 unfold cb;split
 .simp
 .rename_i z;intro e;rw[j_] at z;exact z (by rw[Wz.mp e];rfl)
def i7{ws:List Str}(l5:Wi ws<=5):(cb ws h).length<=5:=by
 unfold cb;split
 .show 1<=5;decide
 .rw[SJ];refine TQ (UH _ _) ?_;rw[Xy];lia
def Iz(h:Hs s):s.cps.all (· < 128)=true:=by
 rw[UE];intro c hc
 have:=h c (by simpa using hc)
 exact decide_eq_true ∅
abbrev WdOk(ws:List Str):Prop:=ws.Nodup/\ws.length<=5/\∀w∈ws,Lt w/\w.length<=8
def WdOk.lt(h:WdOk ws):∀w∈ws,Lt w:=λw hw=>(h.2.2 w hw).1
def WdOk.ok(h:WdOk ws):uS ws:=⟨h.2.1,λw hw=>⟨(h.2.2 w hw).2,by
 unfold VI
 rw[UE]
 intro c hc
 have:=(h.2.2 w hw).1 c (by simpa using hc)
 exact decide_eq_true ∅⟩⟩
abbrev qa(K:Fg):Sp:=λvs H Q _=>∃(v:V) (ws:List Str) (h:List Int),vs=[v,.str (bH ws h)]/\Rz K H v (.tuple (ws.map UI))/\WdOk ws/\cI (Wi ws) h/\∀(p:Addr) (H':Hp),Same H H'->Rz K H' (.ref p) (dI h)->Q (.ref p) H'
abbrev Qk(d:Addr)(H H':Hp):Prop:=∀b o,b≠d->H b=some o->H' b=some o
def Ip{Q:VK}{i j:Str}(h:Q (.bl (!decide (i=j))) H):yu (.str i) (.str j) H Q:=⟨rfl,by
 by_cases e:i=j
 .subst e;simpa using h
 .simpa[e] using h⟩
def QI:bU ik (.inr "")=some (.int 1):=by rfl
def QH:bU ik (.inr "2")=some (.int 2):=by rfl
def QG:bU ik (.inr "3")=some (.int 3):=by rfl
def F5:(cl (" ":Str))[0]?=some 32:=by decide +kernel
def KI{K:Fg} {H:Hp} {Q:VK}   (c:uV s w n) (l:s.length<=10) (k:∀p u,H p=none->bU ik (.inr u)=↥n->∀m,Q (.ref p) (upd H p (.tup [.str u,m,.str w]))):DS (.str s) [.str " "] H Q:=by
 have hs:s.length<=sizeLine:=by have:(10:Nat)<=sizeLine:=(by decide);lia
 refine⟨s," ",rfl,rfl,by decide +kernel,hs,?_⟩;cases c with
 |one h=>exact .inr ⟨Ol F5 h,λp np=>k p "" np QI _⟩
 |two h =>
  refine .inl ⟨("2":Str).length,jf _ _ _,OB F5 (by decide +kernel) h,λp np=>?_⟩;rw[fB,fY];exact k p "2" np QH _
 |three h =>
  refine .inl ⟨("3":Str).length,jf _ _ _,OB F5 (by decide +kernel) h,λp np=>?_⟩;rw[fB,fY];exact k p "3" np QG _
nonrec def Ci (K:Fg):TS:=(ak (bS (dB K (eJ K "str" Jt (aa 1) (ac (tC (.str " + ")) ae))) (aj 3)
 (ak (aA (eJ K "str" DS (aa 3) (ac (tC (.str " ")) ae)) (aj 4))
 (Dj (aa 2) (ao (aH K) (aa 4) (tC (.int 2))) (Kp ik (ao (aH K) (aa 4) (tC (.int 0))) (tC (.int 0))))))
 (aC (aX (bX K) (ac (bT (gi K (aa 0)) (Jo (aa 3) (aa 0) (tC (.int 0)))) ae))))
abbrev vK(K:Fg):TS:=(ak (aA Jn (aj 2))
 (Ci K))
def Hq{K:Fg}{N:List Str}(hN:Wi N=5)(h:qa K vs H Q E):vK K (ends Q) (L2.start N vs) H:=by
 obtain⟨v,ws,h,rfl,rv,ow,oh,k⟩:=h;obtain⟨a,rfl,ha⟩:=mx rv;rw[L2.aK hN];walk_at "t";have o3:∀x∈h,0<=x/\x<=3:=oh.2;have cp:=mB ow.2.2 o3;have hj:=l_ (ws:=ws) (h:=h)
 have p43:∀p∈(cb ws h).map (·.1),43∉cl p:=λp hp=>by
  obtain⟨t,ht,rfl⟩:=Te.mp hp;exact(cp t ht).2.2
 have lH:=du ow.ok o3;have asc:=Iz (dq ow.lt o3);have l5:=i7 (h:=h) ow.2.1;have neL:=lB (ws:=ws) (h:=h)
 have kvw:∀i w,ws[i]?=some w->∃n,h[i]?=some n/\(bU (fL (cb ws h)) (.inr w)).getD (.int 0)=.int n:=λi w ew=>by
  have li:i<h.length:=by rw[oh.1];exact(SL.mp ew).1
  exact⟨_,SN li,xp ow.1 ow.lt (λx hx=>(o3 x hx).1) ew (SN li)⟩
 generalize cb ws h=L at cp hj p43 l5 neL kvw;rw[hj] at lH asc ⊢;unfold vK;cbv;intro d nd;have Sd:=af nd (.dK []);have hd0:upd H d (.dK []) d=some (.dK (fL (L.take 0))):=ag;generalize upd H d (.dK [])=H1 at Sd hd0 ⊢;cbv;refine⟨rfl,?_⟩;cbv;refine⟨_,pls,rfl,rfl,by decide +kernel,∅,Bk p43,asc,by decide +kernel,λl nl=>?_⟩;rw[Ai p43 (by intro e;exact neL (Wz.mp e))];have hl:upd H1 l (.lst ((L.map (·.1)).map V.str)) l=some (.lst ((L.map (·.1)).map V.str)):=ag;have S2:=Sd.trans (af nl (.lst ((L.map (·.1)).map V.str)));have hd2:upd H1 l (.lst ((L.map (·.1)).map V.str)) d=some (.dK (fL (L.take 0))):=(af nl _) _ _ hd0;have nld:l≠d:=λz=>by rw[z,hd0] at nl;cases nl
 generalize upd H1 l (.lst ((L.map (·.1)).map V.str))=H2 at hl S2 hd2 ⊢;refine jS (SqL.of hl) ?_;refine b7 (xs:=(L.map (·.1)).map V.str) (λi σ H3=>∃u3 u4:Option V,σ=[⇑a,some (.str (Vl pls (L.map (·.1)))),⇑d,u3,u4]/\Qk d H2 H3/\H3 d=some (.dK (fL (L.take i)))) ⟨none,none,rfl,λ_ _ _ z=>z,hd2⟩ (by rintro i σ H3 _ ⟨_,_,_,B,_⟩;exact SqL.of (B _ _ nld hl)) ?_ ?_
 .rintro i y σ H3 e1 ⟨u3,u4,rfl,B3,hd3⟩;rw[SO,SO] at e1;obtain⟨z,e2,rfl⟩:=SU.mp e1;obtain⟨t,et,rfl⟩:=SU.mp e2;obtain⟨c1,c2,_⟩:=cp t (SM et);have li:=(SL.mp et).1;cbv;refine⟨rfl,?_⟩;cbv;refine KI (K:=K) c1 c2 λp u np pu m=>?_
  have hp:upd H3 p (.tup [.str u,m,.str t.2.1]) p=some (.tup [.str u,m,.str t.2.1]):=ag;have B4:Qk d H2 (upd H3 p (.tup [.str u,m,.str t.2.1])):=λb o nb q=>(af np _) _ _ (B3 b o nb q)
  have hd4:upd H3 p (.tup [.str u,m,.str t.2.1]) d=some (.dK (fL (L.take i))):=(af np _) _ _ hd3;generalize upd H3 p (.tup [.str u,m,.str t.2.1])=H4 at hp B4 hd4 ⊢;cbv;unfold Kp;cbv;refine aN (SqT.of hp) (v:=.str u) rfl ?_;cbv;refine⟨.inr u,rfl,?_⟩;rw[pu];cbv;refine aN (SqT.of hp) (v:=.str t.2.1) rfl ?_;refine⟨d,_,rfl,DPut.k (k:=.inr t.2.1) hd4 ?_,?_⟩
  .exact am (by have:=uc L i;lia)
  .exact⟨_,_,rfl,λb o nb q=>by rw[aJ nb];exact B4 b o nb q,by rw[ag,qP et];rfl⟩
 .rintro σ H3 ⟨u3,u4,rfl,B3,hd3⟩;rw[SJ,SJ,SX (SR _)] at hd3;have ha3:H3 a=some (.tup (ws.map V.str)):=B3 _ _ (ar ha nd) (S2 _ _ ha);have S3:Same H H3:=λb o q=>B3 b o (ar q nd) (S2 b o q)
  cbv;refine⟨a,rfl,⟨_,SqT.of ha3⟩,?_⟩;refine cN (xs:=ws.map V.str) λD nD=>⟨λi H4=>AccZ K H3 D H4 ((h.take i).map TW),by simpa using AccZ.start (Same.refl _) nD,λi H4 _ A=>SqT.of (A.same _ _ ha3),?_,?_⟩
  .intro i y H4 e1 A;have hi:i<(ws.map V.str).length:=(SL.mp e1).1;rw[SO] at e1;obtain⟨w,ew,rfl⟩:=SU.mp e1;obtain⟨n,en,ev⟩:=kvw i w ew;cbv;refine⟨_,rfl,d,rfl,.inl ⟨_,.inl (A.same _ _ hd3)⟩,?_⟩;cbv;refine⟨_,DGet.k (k:=.inr w) (A.same _ _ hd3),?_⟩;rw[ev];refine aI hi (A.bA (.int n) (am (by rw[SJ,Ta];have:=oh.1;have:=ow.2.1;lia)) λH5 A5=>?_);show AccZ K H3 D H5 ((h.take (i+1)).map TW);rw[Tc,en,SV];exact A5
  .intro H4 A;rw[SJ,SX (by rw[oh.1];exact SR _)] at A;cbv;refine dF (SqL.of (AccZ.ints A)) λp np=>?_
   exact k p _ (S3.trans (A.same.trans (af np _))) (.tup ag (RpL.ints _))
def oJ(m:Nat):∀c∈cl (a4 (m:Int)),48<=c/\c<=57:=λc hc=>by
 rw[show cl (a4 (m:Int))=_ from Zaa m] at hc;obtain⟨ch,hch,e⟩:=Te.mp hc;rw[<- e];exact PyProof.Rows.digit_range (Yy (by decide) (by decide) hch)
def qT(m:Nat):a4 (m:Int)≠("":Str):=λz=>by
 have e:cl (a4 (m:Int))=[]:=by rw[z];decide +kernel
 rw[show cl (a4 (m:Int))=_ from Zaa m] at e;have h:=Z6 10 m;rw[Wz.mp e] at h;exact absurd h (by decide)
def Se:(("0":Str)).cps.toList=[48]:=by decide +kernel
def Sc:(("9":Str)).cps.toList=[57]:=by decide +kernel
abbrev yg(K:Fg):Sp:=λvs H Q _=>∃n:Int,vs=[.str (a4 n)]/\0<=n/\n<=10000000000/\∀H',Same H H'->Q (.int n) H'
abbrev BZ (K:Fg):TS:=(ak (aM (Ac (aO (ao fu (aa 0) (tC (.str "")))) (dN (tB (aX (nu K) (ac (bT (Iy (aa 0)) (gj AI AI (tC (.str "0")) (aa 0) (tC (.str "9")))) ae)))))
 (aC (tC (.int 0)))
 aP)
 (aC (aX NH (ac (aa 0) ae))))
def KU{K:Fg}{N:List Str}(hN:Wi N=1)(h:yg K vs H Q E):BZ K (ends Q) (L2.start N vs) H:=by
 obtain⟨n,rfl,n0,n1,k⟩:=h;rw[L2.aK hN];walk_at "t";obtain⟨ir,il⟩:=E8 n0 n1;have l11:=Tw.c_ n0 n1;obtain⟨m,rfl⟩:=XI n0;have dg:=oJ m;have ne:=qT m;unfold BZ;cbv;rw[decide_eq_false ne];cbv
 have asc:(a4 (m:Int)).cps.all (· < 128)=true:=by
  rw[UE];intro c hc
  have:=dg c (by simpa using hc)
  exact decide_eq_true ∅
 refine⟨_,rfl,asc,?_⟩;have sz:(a4 (m:Int)).cps.size<=11:=l11;refine zq λD nD=>⟨λj H3=>AccZ K H D H3 ((Tq j true).map Vw),AccZ.start (Same.refl _) nD,?_,?_⟩
 .intro i c H2 hc A;have lc:=dg c (SM (by rw[UG];exact hc));have hi:i<(a4 (m:Int)).cps.size:=(UX.mp hc).1;cbv;refine Iq ?_;rw[Se];cbv;refine be (λ_=>?_) (λz=>absurd z (qi lc.1));cbv;refine Iq ?_;rw[Sc,decide_eq_false (qi lc.2)];exact iB (H0:=H) ∅ hi (λ_ _=>ZM) A (Same.refl _)
 .intro H2 A;cbv;refine jA (AccZ.bls A) ?_;rw[rJ];cbv;exact⟨_,_,rfl,ir,il,k H2 A.same⟩
abbrev vY(K:Fg):Sp:=λvs H Q _=>∃q d:Int,vs=[.str (bE q d)]/\fS q d/\∀(p:Addr) (H':Hp),Same H H'->Rz K H' (.ref p) (dI [q,d])->Q (.ref p) H'
def GT:(cl ("/":Str))[0]?=some 47:=by decide +kernel
def Ew{n:Int}(n0:0<=n):47∉cl (a4 n):=λz=>by
 obtain⟨m,rfl⟩:=XI n0
 have:=oJ m 47 z;lia
def lV{n:Int}(h0:0<n)(h1:n<=10000000000):n.natAbs<2 ^ 8000:=Ts (show n.natAbs<2 ^ 34 by lia) (TM (by decide) (by decide))
def HR(h:fS q d):dI [q,d]=Tr.dQ (Yb q d):=by
 obtain⟨_,d0,g,_,_⟩:=h;obtain⟨e1,e2⟩:=EC (t:=q) (b:=d) (q:=q) (d:=d) ∅ ⟨d0,g,rfl⟩;unfold Tr.dQ;rw[<- e1,<- e2]
abbrev BU(K:Fg):TS:=(aM (Ac (aO (ao fu (aa 2) (tC (.int 0)))) (aO (ao fu (aa 3) (tC (.int 0)))))
 (aC (tC .non))
 aP)
nonrec def BV (K:Fg):TS:=(ak (aA (M_ (aO (ao fu (ao (aH K) (aa 1) (tC (.int 1))) (tC (.str "")))) (tC (.int 1)) (aw (yg K) [] E0 (ac (ao (aH K) (aa 1) (tC (.int 2))) ae))) (aj 3))
 (ak (BU K)
 (aC (aw (kS K) [] E0 (ac (aa 2) (ac (aa 3) ae))))))
abbrev vE (K:Fg):TS:=(ak (aA (eJ K "str" Hy (aa 0) (ac (tC (.str "/")) ae)) (aj 1))
 (ak (aA (aw (yg K) [] E0 (ac (ao (aH K) (aa 1) (tC (.int 0))) ae)) (aj 2))
 (BV K)))
def Hm{K:Fg}{N:List Str}(hN:Wi N=4)(h:vY K vs H Q E):vE K (ends Q) (L2.start N vs) H:=by
 obtain⟨q,d,rfl,po,k⟩:=h;rw[L2.aK hN];walk_at "t";have lp:=ie po;obtain⟨q0,d0,g1,q1,d1⟩:=id po;have hz:(bE q d).length<=sizeLine:=by rw[Tw.szL];lia
 have rest:∀(p:Addr) (H2:Hp) (σ:St),Same H H2->σ=[some (.str (bE q d)),⇑p,↥q,↥d] ->
   (ak (BU K)
    (aC (aw (kS K) [] E0 (ac (aa 2) (ac (aa 3) ae))))) (ends Q) σ H2:=by
  rintro p H2 σ S2 rfl;cbv;unfold BU;cbv;refine aV (λz=>absurd z ∅) (λ_=>?_);cbv;refine aV (λz=>absurd z ∅) (λ_=>?_);cbv;refine⟨q,d,rfl,∅,lV q0 q1,lV d0 d1,λo H3 S3 r3=>k o H3 (S2.trans S3) ?_⟩;rw[HR po];exact r3
 unfold vE;cbv;refine⟨rfl,?_⟩;cbv;refine⟨_,"/",rfl,rfl,by decide +kernel,hz,?_⟩;by_cases e1:d=1
 .refine .inr ⟨?_,λp np=>?_⟩
  .rw[show bE q d=a4 q from if_pos e1];exact Ol GT (Ew ∅)
  .have hp:upd H p (.tup [.str (bE q d),.str Ue,.str Ue]) p=some (.tup [.str (bE q d),.str Ue,.str Ue]):=ag;have S1:=af np (.tup [.str (bE q d),.str Ue,.str Ue]);generalize upd H p (.tup [.str (bE q d),.str Ue,.str Ue])=H1 at hp S1 ⊢;cbv;refine aN (SqT.of hp) (v:=.str (bE q d)) rfl ?_;cbv;refine⟨q,by rw[show bE q d=a4 q from if_pos e1];rfl,∅,q1,λH2 S2=>?_⟩;cbv;refine aN (SqT.of (S2 _ _ hp)) (v:=.str Ue) rfl ?_;cbv;rw[show decide (Ue=("":Str))=true by decide +kernel];cbv;refine rest p H2 _ (S1.trans S2) ?_;rw[e1];rfl
 .have ep:bE q d=a4 q ++ "/" ++ a4 d:=by
   unfold bE;rw[if_neg e1,V5]
  refine .inl ⟨(a4 q).length,?_,?_,λp np=>?_⟩
  .rw[ep];exact jf _ _ _
  .rw[ep];exact Pq GT (Ew ∅)
  .have es1:strSub (bE q d) 0 (a4 q).length=a4 q:=by rw[ep];exact fB _ _ _
   have es2:strSub (bE q d) ((a4 q).length+("/":Str).length) (bE q d).length=a4 d:=by rw[ep];exact fY _ _ _
   rw[es1,es2];have hp:upd H p (.tup [.str (a4 q),.str "/",.str (a4 d)]) p=some (.tup [.str (a4 q),.str "/",.str (a4 d)]):=ag;have S1:=af np (.tup [.str (a4 q),.str "/",.str (a4 d)]);generalize upd H p (.tup [.str (a4 q),.str "/",.str (a4 d)])=H1 at hp S1 ⊢;cbv;refine aN (SqT.of hp) (v:=.str (a4 q)) rfl ?_;cbv;refine⟨q,rfl,∅,q1,λH2 S2=>?_⟩;cbv;refine aN (SqT.of (S2 _ _ hp)) (v:=.str "/") rfl ?_;cbv;rw[show decide (("/":Str) = "")=false by decide +kernel];cbv;refine aN (SqT.of (S2 _ _ hp)) (v:=.str (a4 d)) rfl ?_;cbv;refine⟨d,rfl,∅,d1,λH3 S3=>?_⟩;exact rest p H3 _ (S1.trans (S2.trans S3)) rfl
abbrev pU(K:Fg):Sp:=λvs H Q _=>∃(v:V) (ws:List Str) (t:Tn),vs=[v,.str (bN ws t)]/\Rz K H v (.tuple (ws.map UI))/\WdOk ws/\Ga ws t/\∀(p:Addr) (H':Hp),Same H H'->Rz K H' (.ref p) (dT t)->Q (.ref p) H'
def MX:(cl (" -> ":Str))[0]?=some 32:=by decide +kernel
def MW:(cl (" -> ":Str))[1]?=some 45:=by decide +kernel
def MV:(cl (" @ ":Str))[0]?=some 32:=by decide +kernel
def MU:(cl (" @ ":Str))[1]?=some 64:=by decide +kernel
def bQ(ws:List Str) (t:Tn):bN ws t=bH ws t.fr ++ " -> " ++ (bH ws t.to ++ " @ " ++ bE t.q t.d):=by
 unfold bN;rw[V5];simp only[ZbJ]
def BF(ow:uS ws)(ok:Ga ws t):(bN ws t).length<=200:=by
 have h1:=du ow ok.1.2;have h2:=du ow ok.2.1.2;have h3:=ie ok.2.2;rw[bQ,Ur,Ur,Ur,Ur,qO,EG];lia
nonrec def zN(K:Fg):TS:=(ak (aA (cP (ac (aw (qa K) [] E0 (ac (aa 0) (ac (ao (aH K) (aa 2) (tC (.int 0))) ae))) (ac (aw (qa K) [] E0 (ac (aa 0) (ac (ao (aH K) (aa 3) (tC (.int 0))) ae))) (ac (aa 4) ae)))) (aj 5))
 (ak (aM (aO (ao yu (aw (vT K) [] E0 (ac (aa 0) (ac (aa 5) ae))) (aa 1)))
 (aC (tC .non))
 aP)
 (aC (aa 5))))
nonrec def zM (K:Fg):TS:=(ak (aA (eJ K "str" Hy (ao (aH K) (aa 2) (tC (.int 2))) (ac (tC (.str " @ ")) ae)) (aj 3))
 (ak (aA (aw (vY K) [] E0 (ac (ao (aH K) (aa 3) (tC (.int 2))) ae)) (aj 4))
 (ak (aM (aO (ao wF (aa 4) (tC .non)))
 (aC (tC .non))
 aP)
 (zN K))))
abbrev o8 (K:Fg):TS:=(ak (aA (eJ K "str" Hy (aa 1) (ac (tC (.str " -> ")) ae)) (aj 2))
 (zM K))
def Du{K:Fg}{N:List Str}(hN:Wi N=6)(h:pU K vs H Q E):o8 K (ends Q) (L2.start N vs) H:=by
 obtain⟨v,ws,t,rfl,rv,ow,ok,k⟩:=h;rw[L2.aK hN];walk_at "t";have lt:=BF ow.ok ok;have sz:=Tw.szL;have hs1:=dq ow.lt ok.1.2;have hs2:=dq ow.lt ok.2.1.2;unfold o8;cbv;refine⟨rfl,?_⟩;cbv;refine⟨_," -> ",rfl,rfl,by decide +kernel,∅,.inl ⟨(bH ws t.fr).length,?_,?_,λp np=>?_⟩⟩
 .rw[bQ];exact jf _ _ _
 .rw[bQ];exact JV MX MW (λz=>by have:=hs1 45 z;lia) (by decide)
 have es1:strSub (bN ws t) 0 (bH ws t.fr).length=bH ws t.fr:=by rw[bQ];exact fB _ _ _
 have es2:strSub (bN ws t) ((bH ws t.fr).length+(" -> ":Str).length) (bN ws t).length=bH ws t.to ++ " @ " ++ bE t.q t.d:=by rw[bQ];exact fY _ _ _
 rw[es1,es2];have hp:upd H p (.tup [.str (bH ws t.fr),.str " -> ",.str (bH ws t.to ++ " @ " ++ bE t.q t.d)]) p=some (.tup [.str (bH ws t.fr),.str " -> ",.str (bH ws t.to ++ " @ " ++ bE t.q t.d)]):=ag;have S1:=af np (.tup [.str (bH ws t.fr),.str " -> ",.str (bH ws t.to ++ " @ " ++ bE t.q t.d)]);generalize upd H p (.tup [.str (bH ws t.fr),.str " -> ",.str (bH ws t.to ++ " @ " ++ bE t.q t.d)])=H1 at hp S1 ⊢;cbv;refine aN (SqT.of hp) (v:=.str (bH ws t.to ++ " @ " ++ bE t.q t.d)) rfl ?_;refine⟨rfl,?_⟩;cbv;refine⟨_," @ ",rfl,rfl,by decide +kernel,?_,.inl ⟨(bH ws t.to).length,jf _ _ _,JV MV MU (λz=>by have:=hs2 64 z;lia) (by decide),λp2 np2=>?_⟩⟩
 .rw[bQ,Ur] at lt;lia
 rw[fB,fY];have hp2:upd H1 p2 (.tup [.str (bH ws t.to),.str " @ ",.str (bE t.q t.d)]) p2=some (.tup [.str (bH ws t.to),.str " @ ",.str (bE t.q t.d)]):=ag;have S2:=af np2 (.tup [.str (bH ws t.to),.str " @ ",.str (bE t.q t.d)]);generalize upd H1 p2 (.tup [.str (bH ws t.to),.str " @ ",.str (bE t.q t.d)])=H2 at hp2 S2 ⊢;have S12:=S1.trans S2;cbv;refine aN (SqT.of hp2) (v:=.str (bE t.q t.d)) rfl ?_;cbv;refine⟨t.q,t.d,rfl,ok.2.2,λp3 H3 S3 r3=>?_⟩;have S13:=S12.trans S3;cbv;rw[decide_eq_false (λz:V.ref p3=V.non=>by cases z)];cbv;refine aN (SqT.of ((S2.trans S3) _ _ hp)) (v:=.str (bH ws t.fr)) rfl ?_;cbv;refine⟨v,ws,t.fr,rfl,rv.same S13,ow,ok.1,λp4 H4 S4 r4=>?_⟩;cbv;refine aN (SqT.of ((S3.trans S4) _ _ hp2)) (v:=.str (bH ws t.to)) rfl ?_;cbv;refine⟨v,ws,t.to,rfl,rv.same (S13.trans S4),ow,ok.2.1,λp5 H5 S5 r5=>?_⟩;cbv;refine⟨iV,λp6 np6=>?_⟩;have S6:=af np6 (.tup [.ref p4,.ref p5,.ref p3]);have r6:Rz K (upd H5 p6 (.tup [.ref p4,.ref p5,.ref p3])) (.ref p6) (dT t):=.tup ag (.cons ((r4.same S5).same S6) (.cons (r5.same S6) (.cons (((r3.same S4).same S5).same S6) .nil)));generalize upd H5 p6 (.tup [.ref p4,.ref p5,.ref p3])=H6 at S6 r6 ⊢;have S16:=S13.trans (S4.trans (S5.trans S6));cbv;refine⟨v,.ref p6,ws,t,rfl,rv.same S16,r6,ow.ok,ok,λH7 S7=>?_⟩;cbv;refine Ip ?_;rw[decide_eq_true rfl];cbv;exact k p6 H7 (S16.trans S7) (r6.same S7)
def Qv(h:rM ws ts):WdOk ws:=⟨h.words.1,h.w5,λw hw=>⟨(h.words.2 w hw).2.2,(h.words.2 w hw).2.1⟩⟩
def Qw(h:rM ws ts):∀t∈ts,Ga ws t:=(BC h).2.2
abbrev KH(t:Tn):Rw:=⟨false,false,t⟩
abbrev CP(K:Fg):Sp:=λvs H Q _=>∃(a b:Addr) (ws:List Str) (ts:List Tn),vs=[.ref a,.ref b]/\SqL K H a (ws.map V.str)/\SqL K H b ((ts.map (bN ws)).map V.str)/\rM ws ts/\∀(p:Addr) (H':Hp),Same H H'->Rz K H' (.ref p) (dV ws ts)->Q (.ref p) H'
nonrec def GI(K:Fg):TS:=(ak (bS (ur K (ac (aa 1) ae)) (bZ K 2 (aR (aj 4) (aR (aj 5) b4)))
 (ak (aA (aw (pU K) [] E0 (ac (aa 2) (ac (aa 5) ae))) (aj 6))
 (ak (aM (aO (ao wF (aa 6) (tC .non)))
 cW
 aP)
 (bV (eJ K "list" aS (aa 3) (ac (aa 6) ae))))))
 (aC (aw (CQ K) [] E0 (ac (aa 2) (ac (aa 3) ae)))))
abbrev BQ(K:Fg):TS:=(ak (aA (aw (j5 K) [] E0 (ac (aa 0) ae)) (aj 2))
 (ak (aA (cS ae) (aj 3))
 (GI K)))
def KR{K:Fg}{N:List Str}(hN:Wi N=7)(h:CP K vs H Q E):BQ K (ends Q) (L2.start N vs) H:=by
 obtain⟨a,b,ws,ts,rfl,ha,hb,vo,k⟩:=h;rw[L2.aK hN];walk_at "t";have wd:=Qv vo;have tt:=Qw vo;have t8:ts.length<=8:=(BC vo).2.1;unfold BQ;cbv;refine⟨a,ws,rfl,.inl ha,vo.words,vo.w1,vo.w5,λp H1 S1 hp=>?_⟩;have rp:Rz K H1 (.ref p) (.tuple (ws.map UI)):=.tup hp (RpL.strs _);cbv;refine⟨by decide,λl nl=>?_⟩;have A0:AccZ K H1 l (upd H1 l (.lst [])) (((ts.take 0).map dT)):=AccZ.start (Same.refl _) nl;have S2:=af nl (.lst []);generalize upd H1 l (.lst [])=H2 at A0 S2 ⊢;cbv;refine⟨b,_,rfl,(S1.trans S2).seq hb,?_⟩;refine iz (xs:=(ts.map (bN ws)).map V.str) (λi σ H3=>∃u4 u5 u6:Option V,σ=[⇑a,⇑b,⇑p,⇑l,u4,u5,u6]/\AccZ K H1 l H3 ((ts.take i).map dT)) ⟨none,none,none,rfl,A0⟩ (by rintro i σ H3 _ ⟨_,_,_,_,A⟩;exact (S1.trans A.same).seq hb) ?_ ?_
 .rintro i y σ H3 T e1 ⟨u4,u5,u6,rfl,A3⟩ nT;rw[SO,SO] at e1;obtain⟨z,e2,rfl⟩:=SU.mp e1;obtain⟨t,et,rfl⟩:=SU.mp e2;have li:=(SL.mp et).1;have A4:=A3.on (af nT (.tup [.int (i:Int),.str (bN ws t)]));refine bv (SqT.of ag) rfl ?_;generalize upd H3 T (.tup [.int (i:Int),.str (bN ws t)])=H4 at A4 ⊢;cbv;refine⟨.ref p,ws,t,rfl,rp.same A4.same,wd,tt t (SM et),λq H5 S5 rq=>?_⟩;have A5:=A4.on S5;cbv;rw[decide_eq_false (λz:V.ref q=V.non=>by cases z)];cbv;refine⟨A5.ty,?_⟩;cbv;refine cZ A5 rq (am (by rw[SJ,Ta];lia)) λH6 A6 _ _ _=>?_
  cbv;refine⟨_,_,_,rfl,?_⟩;rw[Tc,et,SV];exact A6
 .rintro σ H3 ⟨u4,u5,u6,rfl,A3⟩;rw[SJ,SJ,SX (SR _)] at A3;cbv;obtain⟨xs,hl,rl⟩:=A3.at_;have em:(ts.map KH).map Rw.t=ts:=by rw[UV];exact ZbQ _
  have ed:(ts.map KH).map dR=ts.map dT:=by rw[UV];rfl
  refine⟨p,l,λx=>x=l,ws,ts.map KH,rfl,.inr (A3.same _ _ hp),.lst rfl hl (by rw[ed];exact rl.mono λ_ z=>z.elim),by rw[em];exact vo,λq H4 S4 rq=>?_⟩;rw[em] at rq;exact k q H4 (S1.trans (A3.same.trans S4)) rq
end Tr2
namespace Cm
end Cm
namespace Cg
end Cg
namespace Bg
end Bg
namespace Gu
end Gu
namespace Tg
end Tg
local macro_rules | `(tactic| walk_at "d")=>`(tactic| repeat first|fail "1"|with_reducible first|refine L2.k_fld ?_|refine L2.k_sfld ?_|refine L2.k_mt ?_)
namespace Dk
open PySem L2 Fr G1 Sm Vs
open PySem.W (Dat kqdOk)
open Dn (jn gb pr)
end Dk
namespace Dk
open PySem L2 Fr G1 Sm Vs
open PySem.W (Dat kqdOk)
open PySem L2 Fr G1 Sm Vs Dn Rk Wd
end Dk
namespace Dk
open PySem L2 Fr G1 Sm Vs Dn Rk Wd
open PySem.W (Dat kqdOk)
end Dk
namespace Dh
open PySem L2 Fr G1 Sm Vs Dk
open PySem.W (Dat kqdOk)
open Dn (jn gb pr)
end Dh
namespace Dh
open PySem L2 Fr G1 Sm Vs Dk
open PySem.W (Dat kqdOk)
open PySem L2 Fr G1 Sm Vs Dk Dn Rk Wd
local macro_rules | `(tactic| walk_at "d")=>`(tactic| repeat first|fail "1"|with_reducible first|refine k_fld ?_|refine k_sfld ?_|refine k_mt ?_|refine k_bIf ?_|refine k_bMethA ?_|refine k_bSeq ?_|refine k_tryB ?_)
end Dh
namespace Pw
end Pw
namespace Ev
end Ev
namespace Dt
end Dt
namespace As
end As
namespace Gn
open Pw
open PySem L2 Fr G1 Sm Vs G2 Rk Sz Sf Rw Ti Lo Lc Tr Pw
open PySem.W (Dat kqdOk)
open PySem L2 Fr G1 Sm Vs G2 Rk Sz Sf Rw Ti Lo Lc Tr Pw Dn Wd
abbrev jY(T:List Tp):List Nat->List Int->List Int
 |[],c=>c
 |k :: R,c=>jY T R (gb (T.getD k ([],[])) c)
abbrev zx(T:List Tp):List Nat->List Int->Prop
 |[],_=>True
 |k :: R,c=>k<(Wi T)/\jn (T.getD k ([],[])) c=true/\zx T R (gb (T.getD k ([],[])) c)
def vh{T:List Tp}:∀{A B:List Nat} {c:List Int},jY T (A++B) c=jY T B (jY T A c)
 |[],_,_=>rfl
 |k :: A,B,c=>vh (A:=A)
def rL{T:List Tp}:∀{A B:List Nat} {c:List Int},zx T (A++B) c↔zx T A c/\zx T B (jY T A c)
 |[],_,_=>⟨λh=>⟨trivial,h⟩,λh=>h.2⟩
 |k :: A,B,c=>by
  show _/\_/\zx T (A++B) _↔(_/\_/\_)/\zx T B (jY T A _);rw[rL (A:=A)];exact⟨(by rintro ⟨a,b,c,d⟩;exact ⟨⟨a,b,c⟩,d⟩),(by rintro ⟨⟨a,b,c⟩,d⟩;exact ⟨a,b,c,d⟩)⟩
def vg{T:List Tp}:∀{R:List Nat} {c:List Int},(jY T R c).length=Wi c
 |[],_=>rfl
 |k :: R,c=>by show(jY T R _).length=_;rw[vg (R:=R),PN]
abbrev CL(K:Fg):Sp:=λvs H Q _=>∃(v u:V) (a:Addr) (ws:List Str) (ts:List Tn) (row:List Nat) (cs:List Int),vs=[v,.ref a,u]/\Rz K H v (dV ws ts)/\H a=some (.lst ((ni row).map V.int))/\Rz K H u (dI cs)/\Nn (Wi cs) ts/\cs.length<=100/\zx (ts.map Dn.pr) row cs /\
 ∀(w:V) (H':Hp),Same H H'->Rz K H' w (dI (jY (ts.map Dn.pr) row cs))->Q w H'
nonrec def Gv(K:Fg):TS:=(ak (aA (aw (j4 K) [] E0 (ac (aa 0) (ac (aa 5) ae))) (aj 6))
 (ak (aM (dN (tB (aw (Wd.CU K) [] E0 (ac (aa 6) (ac (aa 3) ae)))))
 cW
 aP)
 (aA (aw (Wd.CT K) [] E0 (ac (aa 6) (ac (aa 3) ae))) (aj 3))))
abbrev BI(K:Fg):TS:=(ak (aA (aX (bX K) (ac (aa 2) ae)) (aj 3))
 (ak (bS (ur K (ac (aa 1) ae)) (bZ K 2 (aR (aj 4) (aR (aj 5) b4)))
 (Gv K))
 (aC (aa 3))))
def KL{K:Fg}{N:List Str}(hN:Wi N=7)(h:CL K vs H Q E):BI K (ends Q) (L2.start N vs) H:=by
 obtain⟨v,u,a,ws,ts,row,cs,rfl,rv,ha,ru,nn,l100,wb,k⟩:=h;obtain⟨b,rfl,hb⟩:=cB ru;rw[L2.aK hN];walk_at "t";unfold BI;cbv;refine yQ (SqT.of hb) ?_;cbv;refine⟨a,_,rfl,SqL.of ha,?_⟩;refine iz (xs:=(ni row).map V.int) (λi σ H2=>∃(w:V) (u4 u5 u6:Option V),σ=[some v,⇑a,⇑b,some w,u4,u5,u6]/\Same H H2/\Rz K H2 w (dI (jY (ts.map Dn.pr) (row.take i) cs))) ⟨_,none,none,none,rfl,Same.refl _,ru⟩ (by rintro i σ H2 _ ⟨_,_,_,_,_,S,_⟩;exact SqL.of (S _ _ ha)) ?_ ?_
 .rintro i y σ H2 T e1 ⟨w,u4,u5,u6,rfl,S2,rc⟩ nT;unfold ni at e1;rw[SO,SO] at e1;obtain⟨n',f0,rfl⟩:=SU.mp e1;obtain⟨n,f1,rfl⟩:=SU.mp f0;have li:i<row.length:=(SL.mp f1).1;have et:row.take (i+1)=row.take i++[n]:=by rw[Tc,f1];rfl
  have w1:zx (ts.map Dn.pr) (row.take i++[n]) cs:=by
   rw[<- et]
   have:=W0 (i+1) row
   rw[<- this] at wb;exact(rL.mp wb).1
  obtain⟨n1,n2,_⟩:=(rL.mp w1).2;rw[SJ] at n1;obtain⟨t,ht⟩:∃t,ts[n]?=some t:=⟨_,SN n1⟩
  rw[Fm ht] at n2;obtain⟨lt1,lt2⟩:=nn t (SM ht);have lc:(jY (ts.map Dn.pr) (row.take i) cs).length=cs.length:=vg;have S3:=S2.trans (af nT (.tup [.int (i:Int),.int (n:Int)]));have rc3:=rc.same (af nT (.tup [.int (i:Int),.int (n:Int)]));refine bv (SqT.of ag) rfl ?_;generalize upd H2 T (.tup [.int (i:Int),.int (n:Int)])=H3 at S3 rc3 ⊢;cbv;refine⟨v,n,ws,ts,t,rfl,rv.same S3,ht,λz rz=>?_⟩;cbv;refine⟨z,w,t,_,rfl,rz,rc3,∅,λH4 S4=>?_⟩;rw[n2];cbv;refine⟨z,w,t,_,rfl,rz.same S4,rc3.same S4,∅,∅,∅,λp H5 S5 rp=>?_⟩;cbv;refine⟨.ref p,_,_,_,rfl,S3.trans (S4.trans S5),?_⟩;rw[et,vh];show Rz K H5 _ (dI (gb ((ts.map Dn.pr).getD n ([],[])) _));rw[Fm ht];exact rp
 .rintro σ H2 ⟨w,u4,u5,u6,rfl,S2,rc⟩;rw[show((ni row).map V.int).length=row.length by unfold ni;rw[SJ,SJ],SX (SR _)] at rc;cbv;exact k w H2 S2 rc
open PySem L2 Fr G1 Sm Vs G2 Rk Sz Sf Rw Ti Lo Lc Tr
open Bo (sm aQ iT d6)
end Gn
namespace Gn
open PySem L2 Fr G1 Sm Vs G2 Rk Sz Sf Rw Ti Lo Lc Tr Pw
open PySem.W (Dat kqdOk)
open PySem L2 Fr G1 Sm Vs G2 Rk Sz Sf Rw Ti Lo Lc Tr Pw Dn Wd
def lP:(ni l).length=l.length:=by unfold ni;rw[SJ]
def Ex{a b:List Nat}:ni (a++b)=ni a++ni b:=by unfold ni;rw[SV]
def Om{l:List Nat}{i k:Nat}(h:l[i]?=some k):((ni l).map V.int)[i]?=↥(k:Int):=by unfold ni;rw[SO,SO,h];rfl
def Ll{F:List Nat}{cell:Int}(h:0<Wi F):∃j k:Nat,cell % (Wi F:Int)=(j:Int)/\F[j]?=some k/\k∈F:=by
 have a:=U3 cell (show(Wi F:Int)≠0 by lia);have b:=UF cell (show(0:Int)<(Wi F) by lia);have l:(cell % (Wi F:Int)).toNat<Wi F:=by lia
 exact⟨(cell % (Wi F:Int)).toNat,F[(cell % (Wi F:Int)).toNat],∅,SN l,U9 l⟩
abbrev CN(K:Fg):Sp:=λvs H Q _=>∃(a:Addr) (ns:List Int) (t:Int) (w:Nat),vs=[.ref a,.int t,.int (w:Int)]/\SqL K H a (ns.map V.int)/\0<=t/\w<=5/\∀(p:Addr) (H':Hp) (cs:List Nat),Same H H'->Wi cs=w->(∀c∈cs,c<10 ^ 40)->Rz K H' (.ref p) (dI (ni cs))->Q (.ref p) H'
def LO:∀{cs:List Int},(∀c∈cs,0<=c)->∃ns:List Nat,ni ns=cs
 |[],_=>⟨[],rfl⟩
 |c :: cs,h=>by
  obtain⟨ns,e⟩:=LO (cs:=cs) λx hx=>h x (S_ _ hx)
  have:=h c Tb
  refine⟨c.toNat :: ns,?_⟩;show((c.toNat:Nat):Int) :: ni ns=_;rw[e,show((c.toNat:Nat):Int)=c by lia]
nonrec def GD(K:Fg):TS:=(aA (aX (bX K) (ac (bT (gi K (aa 4)) (ao bG (ao (rI CMul λi j=>.int (i*j)) (ao bp (aa 0) (ao wE (tC (.int 10)) (tC (.int 10)))) (ao wE (tC (.int 10)) (tC (.int 29)))) (ao bp (aw (hJ K) [] E0 (ac (aa 1) (ac (ao bG (aa 2) (tC (.int 1))) ae))) (ao wE (tC (.int 10)) (tC (.int 20)))))) ae)) (aj 4))
nonrec def GC(K:Fg):TS:=(ak (aA (aw (wa K) [] E0 (ac (aw (hJ K) [] E0 (ac (aa 0) (ac (ao bG (aa 1) (tC (.int 1))) ae))) (ac (aa 2) (ac (aa 3) ae)))) (aj 4))
 (ak (aM (aO (ao wH (aa 3) (tC (.int 100))))
 (GD K)
 aP)
 (aC (aa 4))))
abbrev BM(K:Fg):TS:=(ak (aA (ao (cQ K) (cS (ac (tC (.int 4)) (ac (tC (.int 12)) (ac (tC (.int 100)) (ac (ao wE (tC (.int 10)) (tC (.int 39))) ae))))) (ao bp (aw (hJ K) [] E0 (ac (aa 0) (ac (aa 1) ae))) (tC (.int 4)))) (aj 3))
 (GC K))
def KN{K:Fg}{N:List Str}(hN:Wi N=5)(h:CN K vs H Q E):BM K (ends Q) (L2.start N vs) H:=by
 obtain⟨a,ns,t,w,rfl,hS,t0,w5,k⟩:=h;rw[L2.aK hN];walk_at "t";unfold BM;cbv;refine⟨Kz,λl nl=>?_⟩;have S1:=af nl (.lst [.int 4,.int 12,.int 100,.int (10 ^ UO 39)]);have hl:upd H l (.lst [.int 4,.int 12,.int 100,.int (10 ^ UO 39)]) l=some (.lst [.int 4,.int 12,.int 100,.int (10 ^ UO 39)]):=ag;generalize upd H l (.lst [.int 4,.int 12,.int 100,.int (10 ^ UO 39)])=H1 at S1 hl ⊢;cbv;refine⟨a,ns,t,rfl,S1.seq hS,t0,?_⟩;generalize cellOf ns t=c0
 have big:∃z:Int,kh [V.int 4,.int 12,.int 100,.int (10 ^ UO 39)] (c0 % 4)=↥z/\0<z/\z<=10 ^ 39:=by
  rcases (by lia:c0 % 4=0\/c0 % 4=1\/c0 % 4=2\/c0 % 4=3) with e|e|e|e <;> rw[e]
  .exact⟨4,rfl,by decide,by decide⟩
  .exact⟨12,rfl,by decide,by decide⟩
  .exact⟨100,rfl,by decide,by decide⟩
  .exact⟨10 ^ 39,rfl,by decide,by decide⟩
 obtain⟨z,ez,z0,z1⟩:=big;cbv;refine dm (SqL.of hl) ez ?_;cbv;refine⟨a,ns,t+1,rfl,S1.seq hS,∅,?_⟩;generalize hc1:cellOf ns (t+1)=c1;cbv;refine⟨c1,z,w,rfl,w5,z0,T8 (by lia:z.natAbs<=10 ^ 39) (Ts (by decide:10 ^ 39<2 ^ 130) (TM (by decide) (by decide))),λp H2 cs S2 lc bc rp=>?_⟩;have S12:=S1.trans S2;cbv;refine aV (λc=>?_) (λc=>?_)
 .obtain⟨q,e0,hq⟩:=cB rp;cases e0
  have g:∀x:Int,0<=x % 10 ^ UO 10*10 ^ UO 29+c1 % 10 ^ UO 20/\x % 10 ^ UO 10*10 ^ UO 29+c1 % 10 ^ UO 20<10 ^ 40:=λx=>by
   have e1:(10:Int) ^ UO 10=10000000000:=by decide
   have e2:(10:Int) ^ UO 29=100000000000000000000000000000:=by decide
   have e3:(10:Int) ^ UO 20=100000000000000000000:=by decide
   have e4:(10:Int) ^ 40=10000000000000000000000000000000000000000:=by decide
   rw[e1,e2,e3,e4];lia
  cbv;refine⟨p,rfl,⟨_,SqT.of hq⟩,?_⟩;refine cN (xs:=cs.map V.int) λD nD=>⟨λj H3=>AccZ K H2 D H3 (((cs.take j).map λx=>x % 10 ^ UO 10*10 ^ UO 29+c1 % 10 ^ UO 20).map TW),by simpa using AccZ.start (Same.refl _) nD,λj H3 _ A=>SqT.of (A.same _ _ hq),?_,?_⟩
  .intro j x H3 hx A;have lj:=(SL.mp hx).1;rw[SO] at hx;obtain⟨y,hy,rfl⟩:=SU.mp hx;cbv;refine ul (by decide) ?_;cbv;refine ul (.inl (by rw[show(10:Int) ^ UO 10=10000000000 by decide];lia)) ?_;cbv;refine⟨a,ns,t+1,rfl,(S12.trans A.same).seq hS,∅,?_⟩;rw[hc1];cbv;refine ul (by decide) ?_;cbv;refine aI lj ?_;refine A.bA (.int _) (am (by rw[SJ,SJ,Ta];lia)) λH4 A4=>?_
   show AccZ K H2 D H4 (((cs.take (j+1)).map λx=>x % 10 ^ UO 10*10 ^ UO 29+c1 % 10 ^ UO 20).map TW);rw[Tc,hy,SV,SV];exact A4
  .intro H3 A;rw[SJ,SX (SR _)] at A
   obtain⟨ms,e⟩:=LO (cs:=cs.map λx=>x % 10 ^ UO 10*10 ^ UO 29+c1 % 10 ^ UO 20) λx hx=>by
    obtain⟨y,_,rfl⟩:=Te.mp hx;exact(g y).1
   have lm:ms.length=w:=by have:=congrArg Wi e;rw[lP,SJ] at this;lia
   have bm:∀m∈ms,m<10 ^ 40:=λm hm=>by
    have:(m:Int)∈ni ms:=by unfold ni;exact Te.mpr ⟨m,hm,rfl⟩
    rw[e] at this;obtain⟨y,_,ey⟩:=Te.mp this
    have:=(g y).2
    rw[ey] at this
    exact_mod_cast this
   rw[<- e] at A;cbv;refine dF (SqL.of (AccZ.ints A)) λq nq=>?_
   cbv;exact k q _ ms (S12.trans (A.same.trans (af nq _))) lm bm (.tup ag (RpL.ints _))
 .cbv;obtain⟨ms,e⟩:=LO λx hx=>(bc x hx).1
  rw[<- e] at rp lc bc;refine k p H2 ms S12 (by rw[lP] at lc;exact lc) (λy hy=>?_) rp
  have:=(bc (y:Int) (by unfold ni;exact Te.mpr ⟨y,hy,rfl⟩)).2
  have e4:(10:Int) ^ 39=1000000000000000000000000000000000000000:=by decide
  have e5:(10:Nat) ^ 40=10000000000000000000000000000000000000000:=by decide
  lia
open Tr Ti Vs G1
end Gn
namespace Nl
end Nl
namespace K95
open PySem L2 Fr G1 Sm Vs G2 Rk Sz Sf Rw Cl Tw Md Tr2
open Br hiding PI
open Dn (jn gb pr Ct nV GS j8)
open Gn (jY zx)
open Tr (kS pK yp)
open PySem.W (Dat kqdOk)
open K95H
def JF{T:List Dn.Tp}{k:Nat}(h:k<Wi T):T.getD k ([],[])∈T:=by
 rw[SK,SN h];exact U9 h
def iM{T:List Dn.Tp}{P:List Int->Prop}(st:∀c t,P c->t∈T->jn t c=true->P (gb t c)):∀{R:List Nat} {c:List Int},zx T R c->P c->P (jY T R c)
 |[],_,_,h=>h
 |_ :: R,c,w,h=>iM st (R:=R) w.2.2 (st c _ h (JF w.1) w.2.1)
def cX{c:List Int}{k:Nat}(h:Wi c<=k):pt c k=0:=by
 unfold pt;rw[SK,TL h];rfl
def Jj{T:List Dn.Tp}(h3:∀t∈T,∀q,pt t.2 q<=3)(h0:∀t∈T,∀q,0<=pt t.1 q):∀{R:List Nat} {c:List Int} {B:Int},0<=B->zx T R c->(∀q,pt c q<=B)->∀q,pt (jY T R c) q<=B+3*Wi R
 |[],c,B,_,_,h,q=>by have:=h q;show pt c q<=B+3*((0:Nat):Int);lia
 |k :: R,c,B,hB,w,h,q=>by
  have m:=JF w.1
  have:=Jj h3 h0 (R:=R) (B:=B+3) ∅ w.2.2 (λq=>by
   have a:=h q;have b:=h3 _ m q;have d:=h0 _ m q
   by_cases hq:q<Wi c
   .rw[Dn.oy hq];lia
   .rw[cX (by rw[Dn.rG];lia)];lia) q
  rw[Ux];show pt (jY T R _) q<=_;lia
def xS{n:Nat}{t:Tn}{m c:List Int}(hm:m.length=n)(hc:Wi c=n)(h1:t.fr.length=n)(h2:t.to.length=n):mX m (gb (pr t) c)=mX m c+mX m (cO t):=by
 have lc:(cO t).length=n:=by unfold cO;rw[Vz,h1,h2];lia
 rw[Dn.xT n m c hm hc,Dn.xT n m _ hm (by rw[Dn.rG];exact hc),Dn.xT n m _ hm lc,<- Dn.sum_add];congr 1;refine Wy λq hq=>?_
 rw[Dn.oy (by rw[hc];exact Uu.mp hq),Dn.NL h1 h2,<- UY];congr 1;show pt c q-pt t.fr q+pt t.to q=_;lia
structure Fl (ws:List Str) (ts:List Tn) (cs ls:List Int):Prop where
 cc:Ct (Wi ws) cs
 cl:Ct (Wi ws) ls
 bc:∀x∈cs,x.natAbs<2 ^ 20000
 bl:∀x∈ls,x.natAbs<2 ^ 20000
 dn:∀m:List Int,m.length=ws.length->(∀t∈ts,mX m (cO t)<=0)->mX m ls<=mX m cs
 up:∀m:List Int,m.length=ws.length->(∀t∈ts,0<=mX m (cO t))->mX m cs<=mX m ls
 dr:∀S:List Nat,(∀k∈S,k<Wi ws)->Dn.isD (ts.map pr) S=true->(∀k∈S,pt cs k=0)->∀k∈S,pt ls k=0
 tr:∀S:List Nat,(∀k∈S,k<Wi ws)->Dn.isT (ts.map pr) S=true->(∃k∈S,0<pt cs k)->∃k∈S,0<pt ls k
def RY{ws:List Str}{ts:List Tn}{cs:List Int}{R:List Nat}(tp:∀t∈ts,nV (Wi ws) (pr t))(t3:∀t∈ts,∀q,pt t.to q<=3)(lc:Wi cs=Wi ws)(b:∀x∈cs,0<=x/\x<=10 ^ 40)(lR:Wi R<=63)(w:zx (ts.map pr) R cs):Fl ws ts cs (jY (ts.map pr) R cs):=by
 have g:∀q,0<=pt cs q/\pt cs q<=10 ^ 40:=λq=>by
  unfold pt;rw[SK];cases e:cs[q]? with
  |none=>exact⟨VC _,by decide⟩
  |some x=>exact b x (SM e)
 have tp':∀t∈ts.map pr,nV (Wi ws) t:=λt ht=>by obtain⟨t',ht',rfl⟩:=Te.mp ht;exact tp t' ht'
 have cc:Ct (Wi ws) cs:=⟨lc,λq=>(g q).1⟩
 have cl:Ct (Wi ws) (jY (ts.map pr) R cs):=iM (P:=Ct (Wi ws)) (λc t hc ht h=>Dn.FQ hc (tp' t ht) h) w cc;have le:=Jj (T:=ts.map pr) (λt ht q=>by obtain⟨t',ht',rfl⟩:=Te.mp ht;exact t3 t' ht' q) (λt ht q=>(tp' t ht).1.2 q) (B:=10 ^ 40) (by decide) w λq=>(g q).2
 have big:(10 ^ 40+200:Nat)<2 ^ 20000:=Ts (by decide:10 ^ 40+200<2 ^ 200) (TM (by decide) (by decide));have e40:(10:Int) ^ 40=10000000000000000000000000000000000000000:=by decide
 have e41:(10:Nat) ^ 40=10000000000000000000000000000000000000000:=by decide
 rw[e41] at big;refine⟨cc,cl,λx hx=>T8 ?_ big,λx hx=>T8 ?_ big,λm lm z=>?_,λm lm z=>?_,λS hS d z=>?_,λS hS d z=>?_⟩
 .have:=b x hx;lia
 .obtain⟨q,hq⟩:=T2 hx;have ep:pt (jY (ts.map pr) R cs) q=x:=by unfold pt;rw[SK,hq];rfl
  have b1:=le q;have b2:=cl.2 q;rw[ep] at b1 b2;lia
 .exact(iM (P:=λc=>c.length=ws.length/\mX m c<=mX m cs) (λc t hc ht h=>by
   obtain⟨t',ht',rfl⟩:=Te.mp ht
   have:=z t' ht'
   refine⟨by rw[Dn.rG];exact hc.1,?_⟩
   rw[xS lm hc.1 (tp t' ht').1.1 (tp t' ht').2.1]
   have:=hc.2
   lia) w ⟨lc,VC _⟩).2
 .exact(iM (P:=λc=>c.length=ws.length/\mX m cs<=mX m c) (λc t hc ht h=>by
   obtain⟨t',ht',rfl⟩:=Te.mp ht
   have:=z t' ht'
   refine⟨by rw[Dn.rG];exact hc.1,?_⟩
   rw[xS lm hc.1 (tp t' ht').1.1 (tp t' ht').2.1]
   have:=hc.2
   lia) w ⟨lc,VC _⟩).2
 .exact(iM (P:=λc=>Ct (Wi ws) c/\∀k∈S,pt c k=0) (λc t hc ht h=>Dn.Be tp' hS d c t hc ht h) w ⟨cc,z⟩).2
 .exact(iM (P:=λc=>Ct (Wi ws) c/\∃k∈S,0<pt c k) (λc t hc ht h=>Dn.BG tp' hS d c t hc ht h) w ⟨cc,z⟩).2
def Fl.eq{m:List Int}(F:Fl ws ts cs ls)(lm:m.length=ws.length)(z:∀t∈ts,mX m (cO t)=0):mX m ls=mX m cs:=Int.le_antisymm (F.dn m lm λt ht=>Int.le_of_eq (z t ht)) (F.up m lm λt ht=>Int.le_of_eq (z t ht).symm)
nonrec def Aa(K:Fg):TS:=(ak (aM (aO (ao fu (aa 4) (tC (.int 1))))
 (bV (eJ K "list" aS (aa 2) (ac (aa 3) ae)))
 aP)
 (aM (aO (ao wH (aa 4) (tC (.int 1))))
 (bV (eJ K "list" aS (aa 2) (ac (ao gL (ao gL (aX DQ (ac (aa 4) ae)) (tC (.str " "))) (aa 3)) ae)))
 aP))
nonrec def z_(K:Fg):TS:=(ak (bS (iq K .T .T (ac (aa 0) (ac (aa 1) ae))) (bZ K 2 (aR (aj 3) (aR (aj 4) b4)))
 (Aa K))
 (ak (aM (aO (ao fu (aX (bf K) (ac (aa 2) ae)) (tC (.int 0))))
 (aC (tC (.str "0")))
 aP)
 (aC (eJ K "str" (yx K) (tC (.str " + ")) (ac (aa 2) ae)))))
abbrev pF(K:Fg):TS:=(ak (aA (cS ae) (aj 2))
 (z_ K))
def DG{K:Fg}{N:List Str}(hN:Wi N=5)(h:dU K vs H Q E):pF K (ends Q) (L2.start N vs) H:=by
 obtain⟨v1,v2,ws,h,rfl,r1,r2,ow,oh,k⟩:=h;obtain⟨a,rfl,ha⟩:=Tw.mx r1;obtain⟨b,rfl,hb⟩:=cB r2;rw[L2.aK hN];walk_at "t";have w5:=ow.1;unfold pF;cbv;refine⟨by decide,λl nl=>?_⟩;have A0:AccZ K H l (upd H l (.lst [])) ((bw (ws.take 0) (h.take 0)).map UI):=AccZ.start (Same.refl _) nl;generalize upd H l (.lst [])=H0 at A0 ⊢;cbv;refine⟨a,b,_,_,rfl,SqT.of (A0.same _ _ ha),SqT.of (A0.same _ _ hb),?_⟩;refine xw (k1:=.T) (k2:=.T) (xs:=ws.map V.str) (ys:=h.map V.int) (n:=ws.length) (SJ _) (by rw[SJ];exact oh.1) (λi σ H2=>∃u3 u4:Option V,σ=[⇑a,⇑b,⇑l,u3,u4]/\AccZ K H l H2 ((bw (ws.take i) (h.take i)).map UI)) ⟨none,none,rfl,A0⟩ (by rintro i σ H2 _ ⟨_,_,_,A⟩;exact ⟨SqT.of (A.same _ _ ha),SqT.of (A.same _ _ hb)⟩) ?_ ?_
 .clear A0;rintro i x y σ H2 T e1 e2 ⟨u3,u4,rfl,A⟩ nT;rw[SO] at e1 e2;obtain⟨w,f1,rfl⟩:=SU.mp e1;obtain⟨n,f2,rfl⟩:=SU.mp e2;have sn:=lA f1 f2;have on:=oh.2 n (SM f2);have lw:=(ow.2 w (SM f1)).1
  have sm:((bw (ws.take i) (h.take i)).map UI).length<=1000:=by
   rw[SJ]
   have:=f8 (ws:=ws.take i) (h:=h.take i)
   rw[Ta] at this;lia
  refine bv (SqT.of ag) rfl ?_;have A:=A.on (af nT (.tup [.str w,.int n]));generalize upd H2 T (.tup [.str w,.int n])=H3 at A ⊢;cbv;refine aV (λz=>?_) (λz=>?_)
  .subst z;rw[if_pos (by decide),n9] at sn;cbv;refine⟨A.ty,?_⟩;cbv;refine cZ A (.str w) (am sm) λH4 A4 _ _ _=>?_
   cbv;refine⟨_,_,rfl,?_⟩;rw[sn,SV];exact A4
  .cbv;refine aV (λz2=>?_) (λz2=>?_)
   .rw[if_pos ∅] at sn;have es:bW w n=a4 n++(" ":Str)++w:=by unfold bW;rw[if_neg z,V5]
    have l1:=c_ (i:=n) ∅ ∅;cbv;refine⟨A.ty,?_⟩;cbv;refine ES (dj ∅ ∅) ?_;cbv;refine gt (by rw[Ij,Tw.szL];lia) ?_;cbv;refine gt (by rw[TF,Ij,Tw.szL];lia) ?_;rw[<- es];cbv;refine cZ A (.str (bW w n)) (am sm) λH4 A4 _ _ _=>?_
    cbv;refine⟨_,_,rfl,?_⟩;rw[sn,SV];exact A4
   .rw[if_neg ∅,WT] at sn;cbv;refine⟨_,_,rfl,?_⟩;rw[sn];exact A
 .rintro σ H2 ⟨u3,u4,rfl,A⟩;rw[SX (SR _),SX (by rw[oh.1];exact SR _)] at A;have hD:=AccZ.strs A;cbv;refine bP (SqL.of hD) ?_;cbv;refine aV (λz=>?_) (λz=>?_)
  .cbv;have p:bw ws h=[]:=Uf.mp (by rw[SJ] at z;lia);rw[oB p] at k;exact k H2 A.same
  .cbv;have p:bw ws h≠[]:=λq=>z (by rw[q];rfl)
   rw[l6 p] at k;refine⟨rfl,?_⟩;cbv;exact JJ (SqL.of hD) (uo ow oh.2) (k H2 A.same)
nonrec def zZ (K:Fg):TS:=(bV (eJ K "list" aS (aa 1) (ac (ao gL (ao gL (ao gL (ao gL (aa 6) (tC (.str " -> "))) (aw (Tw.dU K) [] E0 (ac (ao (aH K) (aa 0) (tC (.int 0))) (ac (aa 3) ae)))) (tC (.str " @ "))) (aa 5)) ae)))
nonrec def zY(K:Fg):TS:=(ak (aM (aO (ao wH (ao (aH K) (aa 4) (tC (.int 1))) (tC (.int 1))))
 (aA (ao gL (ao gL (aa 5) (tC (.str "/"))) (aX DQ (ac (ao (aH K) (aa 4) (tC (.int 1))) ae))) (aj 5))
 aP)
 (ak (aA (aw (Tw.dU K) [] E0 (ac (ao (aH K) (aa 0) (tC (.int 0))) (ac (aa 2) ae))) (aj 6))
 (zZ K)))
nonrec def zX(K:Fg):TS:=(ak (bS (gi K (ao (aH K) (aa 0) (tC (.int 1)))) (bZ K 3 (aR (aj 2) (aR (aj 3) (aR (aj 4) b4))))
 (ak (aA (aX DQ (ac (ao (aH K) (aa 4) (tC (.int 0))) ae)) (aj 5))
 (zY K)))
 (aC (aa 1)))
abbrev pE(K:Fg):TS:=(ak (aA (cS ae) (aj 1))
 (zX K))
def DF{K:Fg}{N:List Str}(hN:Wi N=7)(h:kJ K vs H Q E):pE K (ends Q) (L2.start N vs) H:=by
 obtain⟨v,ws,ts,rfl,rv,tv,k⟩:=h;obtain⟨p,v1,v2,rfl,hp,r1,r2⟩:=jU rv;obtain⟨b,xs,rfl,hb,rx⟩:=r2.bI;obtain⟨ow,t8,ok⟩:=tv;have lx:Wi xs=ts.length:=by rw[rx.length,SJ]
 rw[L2.aK hN];walk_at "t";unfold pE;cbv;refine⟨by decide,λl nl=>?_⟩;have A0:AccZ K H l (upd H l (.lst [])) (((ts.take 0).map (bN ws)).map UI):=AccZ.start (Same.refl _) nl;generalize upd H l (.lst [])=H0 at A0 ⊢;cbv;refine aN (SqT.of (A0.same _ _ hp)) (v:=.ref b) rfl ?_;refine OJ (SqT.of (A0.same _ _ hb)) ?_;refine Fy (xs:=xs) (λi σ H2=>∃u2 u3 u4 u5 u6:Option V,σ=[⇑p,⇑l,u2,u3,u4,u5,u6]/\AccZ K H l H2 (((ts.take i).map (bN ws)).map UI)) ⟨none,none,none,none,none,rfl,A0⟩ (by rintro i σ H2 _ ⟨_,_,_,_,_,_,A⟩;exact SqT.of (A.same _ _ hb)) ?_ ?_
 .clear A0;rintro i x σ H2 hx ⟨u2,u3,u4,u5,u6,rfl,A⟩;have li:=(SL.mp hx).1;obtain⟨d,g1,g2⟩:=rx.get hx;rw[SO] at g1;obtain⟨t,ht,rfl⟩:=SU.mp g1;obtain⟨o1,o2,op⟩:=ok t (SM ht);have sn:((ts.take (i+1)).map (bN ws)).map UI=((ts.take i).map (bN ws)).map UI++[.str (bN ws t)]:=by rw[Tc,ht,SV,SV];rfl
  have lsm:(((ts.take i).map (bN ws)).map UI).length<=1000:=by rw[SJ,SJ,Ta];lia
  obtain⟨a,z1,z2,z3,rfl,hat,q1,q2,q3⟩:=jV (g2.same A.same);obtain⟨c,rfl,hc⟩:=cB q3;have l1:=du ow o1.2;have l2:=du ow o2.2;have l3:=ie op;have lq:=c_ (i:=t.q) (by have:=op.1;lia) op.2.2.2.1;have ld:=c_ (i:=t.d) (by have:=op.2.1;lia) op.2.2.2.2;have sq:=dj (i:=t.q) (by have:=op.1;lia) op.2.2.2.1;have sd:=dj (i:=t.d) (by have:=op.2.1;lia) op.2.2.2.2;refine bv (SqT.of hat) rfl ?_;have hp2:=A.same _ _ hp;have r12:=r1.same A.same
  have fin:∀D':ca,D'.nx=(λσ H3=>∃u2 u3 u4 u5 u6:Option V,σ=[⇑p,⇑l,u2,u3,u4,u5,u6]/\AccZ K H l H3 (((ts.take (i+1)).map (bN ws)).map UI))->(ak (aA (aw (dU K) [] E0 (ac (ao (aH K) (aa 0) (tC (.int 0))) (ac (aa 2) ae))) (aj 6))
    (bV (eJ K "list" aS (aa 1) (ac (ao gL (ao gL (ao gL (ao gL (aa 6) (tC (.str " -> "))) (aw (dU K) [] E0 (ac (ao (aH K) (aa 0) (tC (.int 0))) (ac (aa 3) ae)))) (tC (.str " @ "))) (aa 5)) ae)))) D' [⇑p,⇑l,some z1,some z2,⇑c,some (.str (bE t.q t.d)),u6] H2:=by
   intro D' eD;cbv;refine aN (SqT.of hp2) (v:=v1) rfl ?_;cbv;refine⟨v1,z1,ws,t.fr,rfl,r12,q1,ow,o1,λH3 S3=>?_⟩;cbv;refine⟨(A.on S3).ty,?_⟩;cbv;refine gt (by rw[qO,Tw.szL];lia) ?_;cbv;refine aN (SqT.of (S3 _ _ hp2)) (v:=v1) rfl ?_;cbv;refine⟨v1,z2,ws,t.to,rfl,r12.same S3,q2.same S3,ow,o2,λH4 S4=>?_⟩;refine gt (by rw[TF,qO,Tw.szL];lia) ?_;cbv;refine gt (by rw[TF,TF,qO,EG,Tw.szL];lia) ?_;cbv;refine gt (by rw[TF,TF,TF,qO,EG,Tw.szL];lia) ?_;cbv;have et:bH ws t.fr++(" -> ":Str)++bH ws t.to++(" @ ":Str)++bE t.q t.d=bN ws t:=by unfold bN;rw[V5]
   rw[et];refine cZ (A.on (S3.trans S4)) (.str (bN ws t)) (am lsm) λH5 A5 _ _ _=>?_
   cbv;rw[eD];refine⟨_,_,_,_,_,rfl,?_⟩;rw[sn];exact A5
  cbv;refine aN (SqT.of hc) (v:=.int t.q) rfl ?_;cbv;refine ES sq ?_;cbv;refine aN (SqT.of hc) (v:=.int t.d) rfl ?_;cbv;refine aV (λz=>?_) (λz=>?_)
  .cbv;refine gt (by rw[EF,Tw.szL];lia) ?_;cbv;refine aN (SqT.of hc) (v:=.int t.d) rfl ?_;cbv;refine ES sd ?_;refine gt (by rw[TF,EF,Tw.szL];lia) ?_
   have e:a4 t.q++("/":Str)++a4 t.d=bE t.q t.d:=by
    unfold bE;rw[if_neg ∅,V5]
   rw[e];exact fin _ rfl
  .have e:a4 t.q=bE t.q t.d:=by
    unfold bE;rw[if_pos (by have:=op.2.1;lia)]
   rw[e];exact fin _ rfl
 .rintro σ H2 ⟨u2,u3,u4,u5,u6,rfl,A⟩;rw[SX ∅] at A;cbv;exact k l H2 A
abbrev yd(K:Fg):Sp:=λvs H Q _=>∃(v w:V) (a:Addr) (ws:List Str) (ts:List Tn) (cs cells:List Int),vs=[v,w,.ref a]/\Rz K H v (dV ws ts)/\Rz K H w (dI cs)/\H a=some (.lst (cells.map V.int))/\cells.length<=63/\Wd.Nn (Wi cs) ts/\cs.length<=100/\ts.length<=100 /\
 ∀(p O:Addr) (w':V) (H':Hp) (R:List Nat),Same H H'->H' p=some (.tup [.ref O,w'])->H' O=some (.lst ((ni R).map V.int))->Rz K H' w' (dI (jY (ts.map pr) R cs))->zx (ts.map pr) R cs->Wi R<=Wi cells->Q (.ref p) H'
nonrec def GH (K:Fg):TS:=(ak (bV (eJ K "list" aS (aa 3) (ac (ao (cQ K) (aa 5) (ao bp (aa 4) (aX (bf K) (ac (aa 5) ae)))) ae)))
 (aA (aw (j8 K) [] E0 (ac (ao (aH K) (ao (aH K) (aa 0) (tC (.int 1))) (ao (cQ K) (aa 3) (Cz (rU λi=>.int (-i)) (tC (.int 1))))) (ac (aa 1) ae))) (aj 1)))
nonrec def GG(K:Fg):TS:=(ak (aA (fA (fe (ac (aX (bf K) (ac (ao (aH K) (aa 0) (tC (.int 1))) ae)) ae)) 1 (aj 0) (tB (aw (GS K) [] E0 (ac (ao (aH K) (ao (aH K) (aa 1) (tC (.int 1))) (aa 0)) (ac (aa 2) ae)))) (aa 0)) (aj 5))
 (aM (aO (ao wH (aX (bf K) (ac (aa 5) ae)) (tC (.int 0))))
 (GH K)
 aP))
abbrev BP(K:Fg):TS:=(ak (aA (cS ae) (aj 3))
 (ak (bS (dB K (aa 2)) (aj 4)
 (GG K))
 (aC (cP (ac (aa 3) (ac (aa 1) ae))))))
def KQ{K:Fg}{N:List Str}(hN:Wi N=6)(h:yd K vs H Q E):BP K (ends Q) (L2.start N vs) H:=by
 obtain⟨v,w,a,ws,ts,cs,cells,rfl,rv,rw_,ha,l63,nn,lc,lt,k⟩:=h;obtain⟨b,v1,v2,rfl,hb,_,r2⟩:=jU rv;obtain⟨e,xs,rfl,he,rx⟩:=r2.bI;have lx:Wi xs=ts.length:=by rw[rx.length,SJ]
 rw[L2.aK hN];walk_at "t";unfold BP;cbv;refine⟨by decide,λO nO=>?_⟩;have A0:AccZ K H O (upd H O (.lst [])) ((ni []).map TW):=AccZ.start (Same.refl _) nO;generalize upd H O (.lst [])=H0 at A0 ⊢;cbv;refine jS (SqL.of (A0.same _ _ ha)) ?_;refine b7 (xs:=cells.map V.int) (λi σ H2=>∃(R:List Nat) (w1:V) (u4 u5:Option V),σ=[⇑b,some w1,⇑a,⇑O,u4,u5]/\AccZ K H O H2 ((ni R).map TW)/\Rz K H2 w1 (dI (jY (ts.map pr) R cs))/\zx (ts.map pr) R cs/\R.length<=i) ⟨[],w,none,none,rfl,A0,rw_.same A0.same,trivial,SR _⟩ (by rintro i σ H2 _ ⟨_,_,_,_,_,A,_⟩;exact SqL.of (A.same _ _ ha)) ?_ ?_
 .clear A0;rintro i x σ H2 hx ⟨R,w1,u4,u5,rfl,A,rw1,wk,lR⟩;have li:=(SL.mp hx).1;rw[SJ] at li;rw[SO] at hx;obtain⟨cell,hcell,rfl⟩:=SU.mp hx
  have cn:∀k (hk:k<ts.length),(ts.map pr).getD k ([],[])=pr ts[k]:=λk hk=>by
   rw[SK,SO,SN hk];rfl
  have look:∀k (hk:k<ts.length) (H3:Hp),Same H2 H3->∃u,kh xs ((k:Nat):Int)=some u/\Rz K H3 u (dT ts[k]):=λk hk H3 S3=>by
   obtain⟨u,eu,ru⟩:=rx.get' (i:=k) (d:=dT ts[k]) (by rw[SO,SN hk];rfl);exact⟨u,ba eu,ru.same (A.same.trans S3)⟩
  have lw:(jY (ts.map pr) R cs).length=cs.length:=Gn.vg;generalize hC:jY (ts.map pr) R cs=c at rw1 lw;cbv;refine aN (SqT.of (A.same _ _ hb)) (v:=.ref e) rfl ?_;cbv;refine cY (SqT.of (A.same _ _ he)) ?_;rw[lx];cbv;refine⟨_,rfl,∅,∅,?_⟩;rw[Ul];refine xD (n:=ts.length) λD nD=>⟨λm H3=>AccZ K H2 D H3 ((ni ((TC m).filter λk=>jn ((ts.map pr).getD k ([],[])) c)).map TW),by simpa[ni] using AccZ.start (Same.refl _) nD,?_,?_⟩
  .intro m H3 hm B us hu;obtain⟨u0,rfl⟩:∃u,us=[u]:=U6.mp hu;obtain⟨u,au,ru⟩:=look m hm H3 B.same;obtain⟨tl,_⟩:=nn ts[m] (U9 hm);have lf:((TC m).filter λk=>jn ((ts.map pr).getD k ([],[])) c).length<=m:=TQ (UH _ _) (by rw[TD];exact SR _);have er:((TC (m+1)).filter λk=>jn ((ts.map pr).getD k ([],[])) c)=((TC m).filter λk=>jn ((ts.map pr).getD k ([],[])) c)++[m].filter λk=>jn ((ts.map pr).getD k ([],[])) c:=by rw[WW,VG]
   rw[U_];cbv;refine⟨⟨[↥(m:Int)],rfl,rfl⟩,?_⟩;cbv;refine aN (SqT.of ((A.on B.same).same _ _ hb)) (v:=.ref e) rfl ?_;cbv;refine aN (SqT.of ((A.on B.same).same _ _ he)) au ?_;cbv;refine⟨u,w1,ts[m],c,rfl,ru,rw1.same B.same,∅,λH4 S4=>?_⟩;have B4:=B.on S4;cbv;cases ec:jn (pr ts[m]) c with
   |true =>
    cbv;refine aI hm ?_;refine B4.bA (.int (m:Int)) (am (by rw[SJ,Gn.lP];lia)) λH5 B5=>?_
    show AccZ K H2 D H5 ((ni ((TC (m+1)).filter λk=>jn ((ts.map pr).getD k ([],[])) c)).map TW);rw[er,VT (by rw[cn m hm];exact ec),Gn.Ex,SV];exact B5
   |false =>
    cbv;refine f7 hm ?_;show AccZ K H2 D H4 ((ni ((TC (m+1)).filter λk=>jn ((ts.map pr).getD k ([],[])) c)).map TW);rw[er,VU (by rw[cn m hm,ec];exact Th)];simpa using B4
  .intro H3 B;generalize hF:(TC ts.length).filter (λk=>jn ((ts.map pr).getD k ([],[])) c)=F at B;have hD:=AccZ.ints B;have A3:=A.on B.same;have hO:=AccZ.ints A3;cbv;refine bP (SqL.of hD) ?_;rw[SJ,Gn.lP];cbv;refine aV (λep=>?_) (λep=>?_)
   .have pos:0<F.length:=by lia
    obtain⟨j,kk,ej,fj,mk⟩:=Gn.Ll (cell:=cell) pos;rw[<- hF,Ui,Uu] at mk;obtain⟨mk1,mk2⟩:=mk;obtain⟨tl1,tl2⟩:=nn ts[kk] (U9 mk1);cbv;refine⟨A3.ty,?_⟩;cbv;refine bP (SqL.of hD) ?_;rw[SJ,Gn.lP];cbv;refine dm (SqL.of hD) (v:=.int (kk:Int)) (by rw[ej];exact ba (Gn.Om fj)) ?_;cbv;refine cZ A3 (.int (kk:Int)) (am (by rw[SJ,Gn.lP];lia)) λH4 A4 S4 _ _=>?_
    have A4:AccZ K H O H4 ((ni (R++[kk])).map TW):=by rw[Gn.Ex,SV];exact A4
    have rw4:=S4 (rw1.same B.same);have hO4:=AccZ.ints A4;obtain⟨u,eu,ru⟩:=rx.get' (i:=kk) (d:=dT ts[kk]) (by rw[SO,SN mk1];rfl)
    have lst:kh ((ni (R++[kk])).map V.int) (-1)=↥(kk:Int):=by
     rw[Gn.Ex,SV];exact L2.iF _ _
    cbv;refine aN (SqT.of (A4.same _ _ hb)) (v:=.ref e) rfl ?_;cbv;refine dm (SqL.of hO4) (v:=.int (kk:Int)) lst ?_;refine aN (SqT.of (A4.same _ _ he)) (v:=u) (ba eu) ?_;cbv;refine⟨u,w1,ts[kk],c,rfl,ru.same A4.same,rw4,∅,∅,∅,λp H5 S5 rp=>?_⟩;cbv;refine⟨R++[kk],.ref p,_,_,rfl,A4.on S5,?_,Gn.rL.mpr ⟨wk,by rw[SJ];exact mk1,by rw[hC];exact mk2,trivial⟩,by rw[To,ZZ];lia⟩;rw[Gn.vh,hC];show Rz K H5 _ (dI (gb ((ts.map pr).getD kk ([],[])) c));rw[cn kk mk1];exact rp
   .cbv;exact⟨R,w1,_,_,rfl,A3,by rw[hC];exact rw1.same B.same,wk,∅⟩
 .rintro σ H2 ⟨R,w1,u4,u5,rfl,A,rw1,wk,lR⟩;rw[SJ] at lR;cbv;refine⟨bF,λq nq=>?_⟩;have S:=af nq (.tup [.ref O,w1]);exact k q O w1 _ R (A.same.trans S) ag (S _ _ (AccZ.ints A)) (rw1.same S) wk lR
def ME(h:∀k,(pt m k).natAbs<10 ^ 60):∀x∈m,x.natAbs<2 ^ 20000:=λx hx=>by
 obtain⟨q,hq⟩:=T2 hx
 have:=h q
 unfold pt at this;rw[SK,hq] at this;exact UC this (Ts (by decide:10 ^ 60<2 ^ 200) (TM (by decide) (by decide)))
def xF{ws:List Str}{m:List Int}(co:uW (Wi ws) ts)(lm:m.length=ws.length){t:Tn}(ht:t∈ts):∃i,i<(ts.map cO).length/\mX m (cO t)=Bo.sm (Wi ws) λk=>pt ((ts.map cO).getD i []) k*pt m k:=by
 obtain⟨i,hi⟩:=T2 ht;have e:(ts.map cO)[i]?=some (cO t):=by rw[SO,hi];rfl
 refine⟨i,(SL.mp e).1,?_⟩;rw[SK,e];exact M1 (Wi ws) m (cO t) lm (co.wide _ (SM e))
abbrev vR(K:Fg):Sp:=λvs H Q _=>∃(v:V) (pc lt:Addr) (ws:List Str) (ts:List Tn) (cs ls:List Int),vs=[v,.ref pc,.ref lt]/\Rz K H v (dV ws ts)/\H pc=some (.tup (cs.map V.int))/\H lt=some (.tup (ls.map V.int))/\uW (Wi ws) ts/\1<=(Wi ws)/\ts≠[]/\Fl ws ts cs ls/\∀H',Same H H'->Q (.bl true) H'
nonrec def kw(K:Fg):TS:=(ak (aA (aw (gI K) [] E0 (ac (aa 0) ae)) (bZ K 2 (aR (aj 3) (aR (aj 4) b4))))
 (aC (CB (aa 3) (ao Sw (aw (Dn.dO K) [] E0 (ac (aa 4) (ac (aa 2) ae))) (aw (Dn.dO K) [] E0 (ac (aa 4) (ac (aa 1) ae)))))))
nonrec def ku(K:Fg):TS:=(ak (aA (aw (kP K) [] E0 (ac (aa 0) ae)) (bZ K 2 (aR (aj 3) (aR (aj 4) b4))))
 (ak (aM (pR (tB (aa 3)) (aO (ao yu (aw (Dn.dO K) [] E0 (ac (aa 4) (ac (aa 2) ae))) (aw (Dn.dO K) [] E0 (ac (aa 4) (ac (aa 1) ae))))))
 (aC (tC (.bl false)))
 aP)
 (kw K)))
abbrev vk(K:Fg):TS:=(ak (aA (aw (gH K) [] E0 (ac (aa 0) ae)) (bZ K 2 (aR (aj 3) (aR (aj 4) b4))))
 (ak (aM (pR (tB (aa 3)) (aO (ao wH (aw (Dn.dO K) [] E0 (ac (aa 4) (ac (aa 2) ae))) (aw (Dn.dO K) [] E0 (ac (aa 4) (ac (aa 1) ae))))))
 (aC (tC (.bl false)))
 aP)
 (ku K)))
def Hd{K:Fg}{N:List Str}(hN:Wi N=5)(h:vR K vs H Q E):vk K (ends Q) (L2.start N vs) H:=by
 obtain⟨v,pc,lt,ws,ts,cs,ls,rfl,rv,hc,hl,co,w1,tne,F,k⟩:=h;rw[L2.aK hN];walk_at "t";have w5:=co.w5;unfold vk;cbv;refine⟨v,ws,ts,rfl,rv,co,w1,tne,λp1 H1 S1 r1 o1=>?_⟩;obtain⟨p1',l1,e1,hp1,_,hl1⟩:=o4 r1;cases e1;refine bv (SqT.of hp1) rfl ?_;cbv;dsimp only[Zas];have bs:=ME (m:=(GV ws ts).2) λk=>UC (o1.bnd k) (by decide)
 have fin3:∀(u3 u4:Option V) (H3:Hp),Same H H3->kw K (ends Q) [some v,⇑pc,⇑lt,u3,u4] H3:=by
  intro u3 u4 H0 S0;unfold kw;cbv;refine⟨v,ws,ts,rfl,rv.same S0,co,w1,tne,λp3 H3 S3 r3 o3=>?_⟩;obtain⟨p3',l3,e3,hp3,_,hl3⟩:=o4 r3;cases e3;have b3:=ME (m:=(Do ws ts).2) o3.bnd;have S03:=S0.trans S3;refine bv (SqT.of hp3) rfl ?_;cbv;dsimp only[Zas];cases hb:(Do ws ts).1 with
  |true =>
   cbv;exact k _ S03
  |false =>
   obtain⟨lw,ge,_⟩:=o3.no hb;rw[FS] at lw ge;cbv;refine⟨l3,lt,_,ls,rfl,hl3,S03 _ _ hl,∅,b3,F.bl,λH4 S4=>?_⟩;cbv;refine⟨l3,pc,_,cs,rfl,S4 _ _ hl3,S4 _ _ (S03 _ _ hc),∅,b3,F.bc,λH5 S5=>?_⟩;cbv
   have d:=F.up _ lw λt ht=>by
    obtain⟨i,hi,e⟩:=xF co lw ht;rw[e];have g:=ge i (by rw[SJ] at hi;exact hi);rw[Bo.aQ (g:=λk=>pt ((ts.map cO).getD i []) k*pt (Do ws ts).2 k) λl h=>by rw[IU h hi,Uc]] at g;exact g
   rw[decide_eq_true d];exact k _ ((S03.trans S4).trans S5)
 have fin2:∀(u3 u4:Option V) (H2:Hp),Same H H2->ku K (ends Q) [some v,⇑pc,⇑lt,u3,u4] H2:=by
  intro u3 u4 H0 S0;unfold ku;cbv;refine⟨v,ws,ts,rfl,rv.same S0,co,w1,tne,λp3 H3 S3 r3 o3=>?_⟩;obtain⟨p3',l3,e3,hp3,_,hl3⟩:=o4 r3;cases e3;have b3:=ME (m:=(Il ws ts).2) o3.bnd;have S03:=S0.trans S3;refine bv (SqT.of hp3) rfl ?_;cbv;dsimp only[Zas];by_cases hb:(Il ws ts).1=true
  .rw[if_pos hb];obtain⟨lw,_,z⟩:=o3.yes hb;cbv;refine⟨l3,lt,_,ls,rfl,hl3,S03 _ _ hl,∅,b3,F.bl,λH4 S4=>?_⟩;cbv;refine⟨l3,pc,_,cs,rfl,S4 _ _ hl3,S4 _ _ (S03 _ _ hc),∅,b3,F.bc,λH5 S5=>?_⟩
   rw[F.eq lw λt ht=>by
    obtain⟨i,hi,e⟩:=xF co lw ht
    rw[e];exact z i hi]
   cbv;refine be (λz=>absurd rfl z) (λ_=>?_);exact fin3 _ _ H5 ((S03.trans S4).trans S5)
  .rw[if_neg hb,if_neg Th];exact fin3 _ _ H3 S03
 by_cases hb:(GV ws ts).1=true
 .rw[if_pos hb];obtain⟨lw,_,le⟩:=o1.yes hb;cbv;refine⟨l1,lt,_,ls,rfl,hl1,S1 _ _ hl,∅,bs,F.bl,λH2 S2=>?_⟩;cbv;refine⟨l1,pc,_,cs,rfl,S2 _ _ hl1,S2 _ _ (S1 _ _ hc),∅,bs,F.bc,λH3 S3=>?_⟩;cbv
  have d:=F.dn _ lw λt ht=>by
   obtain⟨i,hi,e⟩:=xF co lw ht;rw[e];exact le i hi
  refine aV (λz=>absurd z ∅) (λ_=>?_);exact fin2 _ _ H3 ((S1.trans S2).trans S3)
 .rw[if_neg hb,if_neg Th];exact fin2 _ _ H1 S1
structure Env (K:Fg) (H:Hp) (p pc lt:Addr) (ws:List Str) (ts:List Tn) (cs ls:List Int):Prop where
 ves:Rz K H (.ref p) (dV ws ts)
 cnt:H pc=some (.tup (cs.map V.int))
 lat:H lt=some (.tup (ls.map V.int))
def Env.same{K:Fg}(e:Env K H p pc lt ws ts cs ls)(S:Same H H'):Env K H' p pc lt ws ts cs ls:=⟨e.ves.same S,S _ _ e.cnt,S _ _ e.lat⟩
def xZ{K:Fg}{H:Hp}{Q:VK}{σ:St}{j:Nat}{c:List Int}(hj:σ[j]?=some (⇑d))(hb:H b=some (.tup ((Dn.nI S).map V.int)))(hd:H d=some (.tup (c.map V.int)))(hS:∀k∈S,k<Wi c)(hl:S.length<=100)(k:∀H',Same H H'->Q (.int (Dn.d4 c S)) H') :
  cx (vf K b) (ao (aH K) (aa (j+1)) (aa 0)) σ (λx H1=>ae σ H1 λxs H2=>wD K (x :: xs) H2 Q) H:=by
 have lS:((Dn.nI S).map V.int).length=S.length:=by rw[SJ,Dn.t6]
 refine cN (xs:=(Dn.nI S).map V.int) λD nD=>⟨λj H2=>AccZ K H D H2 (((S.take j).map λk=>pt c k).map TW),by simpa using AccZ.start (Same.refl _) nD,λj H2 _ A=>SqT.of (A.same _ _ hb),?_,?_⟩
 .intro i x H2 hx A;have lj:=(SL.mp hx).1;obtain⟨m,hm,rfl⟩:=Dn.Ey hx;refine O7 (OQ (uk (show(some (V.int (m:Int)) :: σ)[j+1]?=some (⇑d) from hj) (uk rfl ?_)));refine aN (SqT.of (A.same _ _ hd)) (jp (hS m (SM hm))) ?_;refine aI lj ?_;refine A.bA (.int _) (am (by rw[SJ,SJ,Ta];lia)) λH3 A3=>?_
  show AccZ K H D H3 (((S.take (i+1)).map λk=>pt c k).map TW);rw[Tc,hm,SV,SV];exact A3
 .intro H2 A;rw[lS,SX (SR _)] at A;exact Io ⟨D,_,rfl,SqL.of (AccZ.ints A),k H2 A.same⟩
def xU{c:List Int}(h0:∀k,0<=pt c k):∀S:List Nat,0<=Dn.d4 c S
 |[]=>VC _
 |k :: S=>by
  have:=xU h0 S
  have:=h0 k
  show 0<=((k :: S).map λk=>pt c k).sum;rw[TN,U2];show 0<=pt c k+Dn.d4 c S;lia
def nW{c:List Int}(h0:∀k,0<=pt c k):∀{S:List Nat},Dn.d4 c S=0->∀k∈S,pt c k=0
 |j :: S,h,k,hk=>by
  have e:Dn.d4 c (j :: S)=pt c j+Dn.d4 c S:=by show((j :: S).map λk=>pt c k).sum=_;rw[TN,U2];rfl
  have a:=xU h0 S;have b:=h0 j;rcases Tu.mp hk with rfl|hk
  .lia
  .exact nW h0 ∅ k hk
def rV{c:List Int}:∀{S:List Nat},0<Dn.d4 c S->∃k∈S,0<pt c k
 |[],h=>absurd h (Int.lt_irrefl 0)
 |j :: S,h=>by
  have e:Dn.d4 c (j :: S)=pt c j+Dn.d4 c S:=by show((j :: S).map λk=>pt c k).sum=_;rw[TN,U2];rfl
  by_cases hj:0<pt c j
  .exact⟨j,Tb,hj⟩
  .obtain⟨k,hk,p⟩:=rV (c:=c) (S:=S) ∅;exact⟨k,S_ _ hk,p⟩
abbrev Cf(K:Fg):TS:=(bS (dB K (aw (CS K) [] E0 (ac (aa 2) ae))) (aj 6)
 (aM (aO (ao yu (aw (Dn.dO K) [] E0 (ac (aa 6) (ac (aa 5) ae))) (aw (Dn.dO K) [] E0 (ac (aa 6) (ac (aa 3) ae)))))
 (aC (tC (.bl false)))
 aP))
nonrec def Kk(K:Fg):TS:=(aM (pR (aO (ao fu (aX (wD K) (ac (bT (gi K (aa 6)) (ao (aH K) (aa 4) (aa 0))) ae)) (tC (.int 0)))) (aO (ao wH (aX (wD K) (ac (bT (gi K (aa 6)) (ao (aH K) (aa 6) (aa 0))) ae)) (tC (.int 0)))))
 (aC (tC (.bl false)))
 aP)
abbrev Cp(K:Fg):TS:=(bS (dB K (aw (Dn.qc K) [] E0 (ac (aa 2) ae))) (aj 6)
 (Kk K))
nonrec def Kj(K:Fg):TS:=(aM (pR (aO (ao wH (aX (wD K) (ac (bT (gi K (aa 6)) (ao (aH K) (aa 4) (aa 0))) ae)) (tC (.int 0)))) (aO (ao fu (aX (wD K) (ac (bT (gi K (aa 6)) (ao (aH K) (aa 6) (aa 0))) ae)) (tC (.int 0)))))
 (aC (tC (.bl false)))
 aP)
abbrev BL(K:Fg):TS:=(bS (dB K (aw (Dn.vU K) [] E0 (ac (aa 2) ae))) (aj 6)
 (Kj K))
nonrec def Ce(K:Fg):TS:=(ak (aM (dN (tB (aw (fD K 4) [] E0 (ac (aw (Gn.CL K) [] E0 (ac (aa 2) (ac (aX (fG K) (ac (aa 4) ae)) (ac (aa 3) ae)))) (ac (aa 5) ae)))))
 (aC (tC (.bl false)))
 aP)
 (ak (Cf K)
 (ak (Cp K)
 (ak (BL K)
 (aC (aw (vR K) [] E0 (ac (aa 2) (ac (aa 3) (ac (aa 5) ae)))))))))
nonrec def Cd(K:Fg):TS:=(ak (aM (aO (ao fu (ao bp (aw (hJ K) [] E0 (ac (aa 0) (ac (tC (.int 18)) ae))) (tC (.int 3))) (tC (.int 1))))
 (aA (aX (bX K) (ac (cC (Fc K (ac (aa 3) ae)) 2 (bZ K 2 (aR (aj 0) (aR (aj 1) b4))) (ao (rI CMul λi j=>.int (i*j)) (aa 1) (aX Ld (ac (ao wH (aa 0) (tC (.int 0))) ae)))) ae)) (aj 3))
 aP)
 (ak (aA (aw (yd K) [] E0 (ac (aa 1) (ac (aa 3) (ac (CA (tm K) (aa 0) (g6 (tC (.int 19))) (g6 (tC (.int 63)))) ae)))) (bZ K 2 (aR (aj 4) (aR (aj 5) b4))))
 (Ce K)))
nonrec def Cc(K:Fg):TS:=(ak (aM (dN (tB (aw (fD K 4) [] E0 (ac (aa 2) (ac (aa 1) ae)))))
 (aC (tC (.bl false)))
 aP)
 (ak (aA (aw (Gn.CN K) [] E0 (ac (aa 0) (ac (tC (.int 16)) (ac (aX (bf K) (ac (ao (aH K) (aa 1) (tC (.int 0))) ae)) ae)))) (aj 3))
 (Cd K)))
abbrev GL(K:Fg):TS:=(ak (aA (aw (CM K) [] E0 (ac (aa 0) (ac (tC (.int 0)) ae))) (aj 1))
 (ak (aA (aw (CP K) [] E0 (ac (aX (fG K) (ac (ao (aH K) (aa 1) (tC (.int 0))) ae)) (ac (aw (Tw.kJ K) [] E0 (ac (aa 1) ae)) ae))) (aj 2))
 (Cc K)))
def QD{K:Fg}{D:ca}{x0 x1 x4:Option V}(E:Env K H p pc lt ws ts cs ls)(co:uW ws.length ts)(tne:ts≠[])(F:Fl ws ts cs ls)
  (k:∀(u6:Option V) H',Same H H'->D.nx [x0,x1,⇑p,⇑pc,x4,⇑lt,u6] H') :
  Cf K D [x0,x1,⇑p,⇑pc,x4,⇑lt,none] H:=by
 have t8:=co.le;have w5:=co.w5;have lR:(ts.map cO).length=ts.length:=SJ _;have cw:=Mk.iC ws.length (ts.map cO);have cl:=Mk.iD ws.length (ts.map cO);have cc:=Mk.uD co.wide;rw[lR] at cw cc;obtain⟨gd,fr,cnt⟩:=LZ cw (Mk.rA co.bnd) ∅;rw[cl,cc] at gd;unfold Cf;cbv;refine⟨.ref p,ws,ts,ws.length,rfl,E.ves,co,tne,λf H1 S1 r1=>?_⟩;generalize (KB (a5 ws.length (ts.map cO))).makers=M at gd r1;obtain⟨f',fs,e,_,hf,rf⟩:=Rp.ua r1;cases e;refine jS (SqL.of hf) ?_;refine b7 (xs:=fs) (λi σ H2=>∃u6:Option V,σ=[x0,x1,⇑p,⇑pc,x4,⇑lt,u6]/\Same H1 H2) ⟨none,rfl,Same.refl _⟩ (by rintro i σ H2 _ ⟨_,_,S⟩;exact SqL.of (S _ _ hf)) ?_ ?_
 .rintro i x σ H2 hx ⟨u6,rfl,S2⟩;obtain⟨d,g1,g2⟩:=rf.get hx;rw[SO] at g1;obtain⟨m,hm,rfl⟩:=SU.mp g1;obtain⟨b0,rfl,_,hb0⟩:=rj g2;obtain⟨gm,wm⟩:=gd m (SM hm);have lm:=gm.len;have bm:∀x∈m,x.natAbs<2 ^ 20000:=λx hx=>Ts (gm.bnd x hx) (TM (by decide) (by decide))
  have E2:=(E.same S1).same S2;cbv;refine⟨b0,lt,m,ls,rfl,S2 _ _ hb0,E2.lat,∅,bm,F.bl,λH3 S3=>?_⟩;cbv;refine⟨b0,pc,m,cs,rfl,S3 _ _ (S2 _ _ hb0),(E2.same S3).cnt,∅,bm,F.bc,λH4 S4=>?_⟩;rw[F.eq lm λt ht=>wm _ (Te.mpr ⟨t,ht,rfl⟩)];cbv;refine be (λz=>absurd rfl z) (λ_=>?_);cbv;exact⟨_,rfl,(S2.trans S3).trans S4⟩
 .rintro σ H2 ⟨u6,rfl,S2⟩;exact k _ H2 (S1.trans S2)
def QE{K:Fg}{D:ca}{x0 x1 x4 x6:Option V}(E:Env K H p pc lt ws ts cs ls)(w5:ws.length<=5)(t8:ts.length<=8)(tp:∀t∈ts,nV ws.length (pr t))(F:Fl ws ts cs ls)
  (k:∀(u6:Option V) H',Same H H'->D.nx [x0,x1,⇑p,⇑pc,x4,⇑lt,u6] H') :
  Cp K D [x0,x1,⇑p,⇑pc,x4,⇑lt,x6] H:=by
 have si:=Dn.qj ws.length ∅;have lens:∀t∈ts,t.fr.length=ws.length/\t.to.length=ws.length:=λt ht=>⟨(tp t ht).1.1,(tp t ht).2.1⟩
 unfold Cp;cbv;refine⟨.ref p,ws,ts,rfl,E.ves,w5,∅,lens,λL H1 AL=>?_⟩;have E1:=E.same AL.same;obtain⟨ys,hy,ry⟩:=AL.at_;refine jS (SqL.of hy) ?_;refine b7 (xs:=ys) (λi σ H2=>∃u6:Option V,σ=[x0,x1,⇑p,⇑pc,x4,⇑lt,u6]/\Same H1 H2) ⟨_,rfl,Same.refl _⟩ (by rintro i σ H2 _ ⟨_,_,S⟩;exact SqL.of (S _ _ hy)) ?_ ?_
 .rintro i x σ H2 hx ⟨u6,rfl,S2⟩;obtain⟨d,g1,g2⟩:=ry.get hx;rw[SO] at g1;obtain⟨S,hSi,rfl⟩:=SU.mp g1;have Sf:=Ui.mp (Dn.xk S (SM hSi));obtain⟨s1,s2,s3⟩:=si S Sf.1;obtain⟨b,rfl,hb⟩:=Dn.mx g2;have E2:=E1.same S2;have hb2:=S2 _ _ hb;cbv;refine nR (SqT.of hb2) (xZ (j:=3) rfl hb2 E2.cnt (λk hk=>by rw[F.cc.1];exact s3 k hk) ∅ λH3 S3=>?_);cbv;dsimp only[Zas];refine aV (λz=>?_) (λ_=>?_)
  .have zl:=F.dr S s3 Sf.2 (nW F.cc.2 z);have hb3:=S3 _ _ hb2;cbv;refine nR (SqT.of hb3) (xZ (j:=5) rfl hb3 (E2.same S3).lat (λk hk=>by rw[F.cl.1];exact s3 k hk) ∅ λH4 S4=>?_);rw[Dn.zH zl];cbv;refine aV (λz=>absurd z (Int.lt_irrefl 0)) (λ_=>?_);exact⟨_,rfl,(S2.trans S3).trans S4⟩
  .rw[if_neg Th];exact⟨_,rfl,S2.trans S3⟩
 .rintro σ H2 ⟨u6,rfl,S2⟩;exact k _ H2 (AL.same.trans S2)
def Qz{K:Fg}{D:ca}{x0 x1 x4 x6:Option V}(E:Env K H p pc lt ws ts cs ls)(w5:ws.length<=5)(t8:ts.length<=8)(tp:∀t∈ts,nV ws.length (pr t))(F:Fl ws ts cs ls)
  (k:∀(u6:Option V) H',Same H H'->D.nx [x0,x1,⇑p,⇑pc,x4,⇑lt,u6] H') :
  BL K D [x0,x1,⇑p,⇑pc,x4,⇑lt,x6] H:=by
 have si:=Dn.qj ws.length ∅;have lens:∀t∈ts,t.fr.length=ws.length/\t.to.length=ws.length:=λt ht=>⟨(tp t ht).1.1,(tp t ht).2.1⟩
 unfold BL;cbv;refine⟨.ref p,ws,ts,rfl,E.ves,w5,∅,lens,λL H1 AL=>?_⟩;have E1:=E.same AL.same;obtain⟨ys,hy,ry⟩:=AL.at_;refine jS (SqL.of hy) ?_;refine b7 (xs:=ys) (λi σ H2=>∃u6:Option V,σ=[x0,x1,⇑p,⇑pc,x4,⇑lt,u6]/\Same H1 H2) ⟨_,rfl,Same.refl _⟩ (by rintro i σ H2 _ ⟨_,_,S⟩;exact SqL.of (S _ _ hy)) ?_ ?_
 .rintro i x σ H2 hx ⟨u6,rfl,S2⟩;obtain⟨d,g1,g2⟩:=ry.get hx;rw[SO] at g1;obtain⟨S,hSi,rfl⟩:=SU.mp g1;have Sf:=Ui.mp (Dn.xk S (SM hSi));obtain⟨s1,s2,s3⟩:=si S Sf.1;obtain⟨b,rfl,hb⟩:=Dn.mx g2;have E2:=E1.same S2;have hb2:=S2 _ _ hb;cbv;refine nR (SqT.of hb2) (xZ (j:=3) rfl hb2 E2.cnt (λk hk=>by rw[F.cc.1];exact s3 k hk) ∅ λH3 S3=>?_);cbv;dsimp only[Zas];refine aV (λz=>?_) (λ_=>?_)
  .have zl:=Dn.zG F.cl.2 (F.tr S s3 Sf.2 (rV z));have hb3:=S3 _ _ hb2;cbv;refine nR (SqT.of hb3) (xZ (j:=5) rfl hb3 (E2.same S3).lat (λk hk=>by rw[F.cl.1];exact s3 k hk) ∅ λH4 S4=>?_);cbv;refine aV (λz=>absurd z zl) (λ_=>?_);exact⟨_,rfl,(S2.trans S3).trans S4⟩
  .rw[if_neg Th];exact⟨_,rfl,S2.trans S3⟩
 .rintro σ H2 ⟨u6,rfl,S2⟩;exact k _ H2 (AL.same.trans S2)
def Q7{K:Fg} {mg:Str->Option SW}  {n:Nat} {t0 t1 t2:Tok} {h0 h1 h2:Int} (hm:mg "PIECES_WRITTEN"=⇑D)
  (hl:K.lookup D=some ⟨.type "dict",none,.dict #[⟨h0,.str "" t0,.int 1 u0⟩,⟨h1,.str "2" t1,.int 2 u1⟩,⟨h2,.str "3" t2,.int 3 u2⟩] n,#[]⟩) (e0:h0=hashStr w "") (e1:h1=hashStr w "2") (e2:h2=hashStr w "3") (ns:(D == sysModules)=false):KD P w K mg "PIECES_WRITTEN" D ik:=by
 refine⟨hm,ns,λh X=>⟨[(.inr "",.int 1 u0),(.inr "2",.int 2 u1),(.inr "3",.int 3 u2)],.cons ⟨rfl,_,rfl⟩ (.cons ⟨rfl,_,rfl⟩ (.cons ⟨rfl,_,rfl⟩ .nil)),?_⟩⟩;refine⟨_,_,_,X _ _ hl,⟨rfl,rfl,rfl⟩,rfl,?_,.cons (b9 ..) rfl (.cons (b9 ..) rfl (.cons (b9 ..) rfl .nil)),(by decide:([.inr "",.inr "2",.inr "3"]:List L2.Key).Nodup)⟩;intro e he;have he':e∈[(⟨h0,.str "" t0,.int 1 u0⟩:Zl),⟨h1,.str "2" t1,.int 2 u1⟩,⟨h2,.str "3" t2,.int 3 u2⟩]:=W8.mpr he;rcases Tu.mp he' with rfl|he'
 .exact⟨.inr "",b9 ..,e0⟩
 rcases Tu.mp he' with rfl|he'
 .exact⟨.inr "2",b9 ..,e1⟩
 .cases Tf.mp he';exact⟨.inr "3",b9 ..,e2⟩
def xC{Q:VK}{K:Fg}{H:Hp}{xs:List V}(h:∀D,H D=none->∃Pv:Nat->Hp->Prop,Pv 0 (upd H D (.lst []))/\(∀i H2,i<=Wi xs->Pv i H2->SqT K H2 a xs) /\
  (∀i x H2 T,xs[i]?=some x->Pv i H2->H2 T=none->Bn g n te σ (.ref T) (upd H2 T (.tup [.int i,x])) D (Wi xs) i Pv)/\∀H2,Pv (Wi xs) H2->Q (.ref D) H2):rP (Je K a) n g te σ Q H:=by
 intro D nD;obtain⟨Pv,h0,hl,hs,hd⟩:=h D nD;refine⟨λi m H=>m=Wi xs-i/\i<=(Wi xs)/\Pv i H,⟨_,rfl,T1 _,h0⟩,?_⟩;rintro i m H ⟨rfl,hi,p⟩;have q:=hl i H hi p;by_cases vt:i<Wi xs
 .refine .inr ⟨⟨xs,q,vt⟩,λv H' y us hu=>?_⟩;obtain⟨T,x,nT,rfl,rfl,z⟩:=y;exact hs i x H T (z xs q) p nT us hu
 .have e:i=Wi xs:=by lia
  subst e;exact .inl ⟨⟨xs,q,SR _⟩,hd H p⟩
def IT(ns:List Int)(lo hi:Option Int):∃cells:List Int,eQ (ns.map V.int) lo hi=cells.map V.int/\cells.length<=Wi ns:=by
 unfold eQ;rw[SJ,<- Zg,<- ZaM];exact⟨_,rfl,by rw[Ta,Us];lia⟩
def yK(ns:List Int)(n:Nat)(l:Wi ns<=1000):Es (n+1) (dI ns)=true:=Er (by rw[SJ];exact l) λd hd=>by
 obtain⟨i,_,rfl⟩:=Te.mp hd;cases n <;> rfl
def QY{ws:List Str}{ts:List Tn}(w5:Wi ws<=5)(t8:Wi ts<=8)(ln:∀t∈ts,t.fr.length=(Wi ws)/\t.to.length=Wi ws):Es 4 (dV ws ts)=true:=by
 refine Er (by show 2<=1000;decide) λd hd=>?_
 rcases Tu.mp hd with rfl|hd
 .refine Er (by rw[SJ];lia) λd hd=>?_
  obtain⟨w,_,rfl⟩:=Te.mp hd;rfl
 .cases Tf.mp hd;refine Er (by rw[SJ];lia) λd hd=>?_
  obtain⟨t,ht,rfl⟩:=Te.mp hd;obtain⟨l1,l2⟩:=ln t ht;refine Er (by show 3<=1000;decide) λd hd=>?_
  rcases Tu.mp hd with rfl|hd
  .exact yK _ 0 ∅
  rcases Tu.mp hd with rfl|hd
  .exact yK _ 0 ∅
  .cases Tf.mp hd;exact yK [t.q,t.d] 0 (by show 2<=1000;decide)
def DB{K:Fg}{Q:VK}{ns:List Int}(hS:SqL K H a (ns.map V.int))(hl:Wi ns<=63)(rv:Rz K H (.ref p) (dV ws ts))(rq:Rz K H (.ref q) (dV ws ts))(rc:Rz K H (.ref pc) (dI cs))(co:uW ws.length ts)(w1:1<=ws.length)(tne:ts≠[])(tp:∀t∈ts,nV ws.length (pr t))(t3:∀t∈ts,∀q,pt t.to q<=3)(lc:cs.length=ws.length)(b:∀x∈cs,0<=x/\x<=10 ^ 40)(k:∀H',Q (.bl true) H') :
  (ak (aA (aw (yd K) [] E0 (ac (aa 1) (ac (aa 3) (ac (CA (tm K) (aa 0) (g6 (tC (.int 19))) (g6 (tC (.int 63)))) ae)))) (bZ K 2 (aR (aj 4) (aR (aj 5) b4))))
   (Ce K)) (ends Q) [⇑a,⇑p,⇑q,⇑pc,none,none,none] H:=by
 have w5:=co.w5;have t8:=co.le;have ln:∀t∈ts,t.fr.length=ws.length/\t.to.length=ws.length:=λt ht=>⟨(tp t ht).1.1,(tp t ht).2.1⟩
 have nn:Wd.Nn cs.length ts:=by rw[lc];exact ln
 obtain⟨pc',e',hpc⟩:=cB rc;cases e';obtain⟨cells,ec,lcl⟩:=IT ns (some 19) (some 63);cbv;refine⟨a,_,rfl,hS,λt nt=>?_⟩;rw[ec];have S5:=af nt (.lst (cells.map V.int));have ht:upd H t (.lst (cells.map V.int)) t=some (.lst (cells.map V.int)):=ag;generalize upd H t (.lst (cells.map V.int))=H5 at S5 ht ⊢;cbv;refine⟨.ref p,.ref pc,t,ws,ts,cs,cells,rfl,rv.same S5,rc.same S5,ht,∅,nn,∅,∅,λpp O w' H6 R S6 hpp hO rw' wk lR=>?_⟩;obtain⟨lt,rfl,vt⟩:=cB rw';have F:=RY tp t3 lc b ∅ wk;have lw:(jY (ts.map pr) R cs).length<=1000:=by have:=F.cl.1;lia
 have S56:=S5.trans S6;refine bv (SqT.of hpp) rfl ?_;cbv;dsimp only[Zas];refine xt (SqL.of hO) λg ng=>?_
 have S7:=af ng (.lst ((ni R).map V.int));have hg:upd H6 g (.lst ((ni R).map V.int)) g=some (.lst ((ni R).map V.int)):=ag;generalize upd H6 g (.lst ((ni R).map V.int))=H7 at S7 hg ⊢;have S57:=S56.trans S7;cbv;refine⟨.ref q,.ref pc,g,ws,ts,R,cs,rfl,rq.same S57,hg,rc.same S57,nn,∅,wk,λw8 H8 S8 r8=>?_⟩;have rl:=(rw'.same S7).same S8;cbv;refine⟨w8,.ref lt,_,_,rfl,r8.a,rl.a,yK _ 3 lw,λ_=>?_,λz=>absurd rfl z⟩;have S78:=S7.trans S8;have E:Env K H8 q pc lt ws ts cs (jY (ts.map pr) R cs):=⟨(rq.same S57).same S8,(S57.trans S8) _ _ hpc,S78 _ _ vt⟩
 cbv;refine QD E co tne F λu6 H9 S9=>?_
 cbv;refine QE (E.same S9) w5 t8 tp F λu6 H10 S10=>?_
 cbv;refine Qz ((E.same S9).same S10) w5 t8 tp F λu6 H11 S11=>?_
 have E11:=((E.same S9).same S10).same S11;cbv;exact⟨.ref q,pc,lt,ws,ts,cs,_,rfl,E11.ves,E11.cnt,E11.lat,co,w1,tne,F,λH' _=>k H'⟩
def Nu{K:Fg}     (h:spLaw K vs H Q E):GL K (ends Q) (L2.start ["_law_script","_law_vessel_here","_law_read_one","_law_count_here","_law_row_here","_law_later","_law_some"] vs) H:=by
 obtain⟨a,ns,rfl,hS,hl,k⟩:=h;show GL K (ends Q) [⇑a,none,none,none,none,none,none] H;unfold GL;cbv;refine⟨a,ns,0,rfl,hS,by decide,λp H1 ws ts S1 vo rv=>?_⟩;have co:=R1 vo;have t8:=co.le;have w5:=co.w5;obtain⟨hs_,po,_,tk⟩:=vo.turns;have tne:ts≠[]:=tk.ne
 have ho:∀h∈hs_,Ct ws.length h/\∀q,pt h q<=3:=λh hh=>by
  obtain⟨o1,o2⟩:=po.2 h hh
  have g:∀q,0<=pt h q/\pt h q<=3:=λq=>by
   unfold pt;rw[SK];cases e:h[q]? with
   |none=>exact⟨VC _,by decide⟩
   |some x=>exact o2 x (SM e)
  exact⟨⟨o1,λq=>(g q).1⟩,λq=>(g q).2⟩
 have tp:∀t∈ts,nV ws.length (pr t):=λt ht=>⟨(ho _ (tk.ok t ht).1).1,(ho _ (tk.ok t ht).2.1).1⟩
 have t3:∀t∈ts,∀q,pt t.to q<=3:=λt ht=>(ho _ (tk.ok t ht).2.1).2
 have okV:=QY w5 t8 λt ht=>⟨(tp t ht).1.1,(tp t ht).2.1⟩
 obtain⟨p',v1,v2,e0,hp,r1,r2⟩:=jU rv;cases e0;obtain⟨b1,hv1,hb1⟩:=Tw.mx r1;cases hv1;cbv;refine aN (SqT.of hp) (v:=.ref b1) rfl ?_;cbv;refine EU (SqT.of hb1) λw nw=>?_
 have S2:=af nw (.lst (ws.map V.str));have hw:upd H1 w (.lst (ws.map V.str)) w=some (.lst (ws.map V.str)):=ag;generalize upd H1 w (.lst (ws.map V.str))=H2 at S2 hw ⊢;cbv;refine⟨.ref p,ws,ts,rfl,rv.same S2,BC vo,λl H3 A3=>?_⟩;have S3:=A3.same;cbv;refine⟨w,l,ws,ts,rfl,SqL.of (S3 _ _ hw),SqL.of (AccZ.strs A3),vo,λq H4 S4 rq=>?_⟩;have S14:=(S2.trans S3).trans S4;have rv4:=rv.same S14;unfold Cc;cbv;refine⟨.ref q,.ref p,_,_,rfl,rq.a,rv4.a,okV,λ_=>?_,λz=>absurd rfl z⟩;cbv;refine aN (SqT.of (S14 _ _ hp)) (v:=.ref b1) rfl ?_;cbv;refine cY (SqT.of (S14 _ _ hb1)) ?_;rw[SJ];have S04:=S1.trans S14;cbv;refine⟨a,ns,16,ws.length,rfl,S04.seq hS,by decide,w5,λpc H5 ds S5 lds bds rc=>?_⟩;have lc:(ni ds).length=ws.length:=by rw[Gn.lP];exact lds
 have bc:∀x∈ni ds,0<=x/\x<=10 ^ 40:=λx hx=>by
  obtain⟨c,hc,rfl⟩:=Te.mp hx
  have:=bds c hc
  have e40:(10:Int) ^ 40=((10 ^ 40:Nat):Int):=by decide
  rw[e40];lia
 generalize ni ds=cs at rc lc bc;have S05:=S04.trans S5;have rv5:=rv4.same S5;have rq5:=rq.same S5;unfold Cd;cbv;refine⟨a,ns,18,rfl,S05.seq hS,by decide,?_⟩;generalize cellOf ns 18=c18;cbv;refine aV (λ_=>?_) (λ_=>?_)
 .obtain⟨pc',e',hpc⟩:=cB rc;cases e';cbv;refine Mc ?_;cbv;refine⟨pc,_,rfl,SqT.of hpc,?_⟩;refine xC (xs:=cs.map V.int) λD nD=>⟨λj H6=>AccZ K H5 D H6 ((((TC cs.length).map λk=>pt cs k*(if 0<k then 1 else 0)).take j).map TW),by simpa using AccZ.start (Same.refl _) nD,λj H6 _ A=>SqT.of (A.same _ _ hpc),?_,?_⟩
  .rintro j x H6 T hx A nT us hu
   obtain⟨u0,u1,rfl⟩:∃u w,us=[u,w]:=ex2 hu
   have lj:=(SL.mp hx).1;have lj':j<cs.length:=by rw[SJ] at lj;exact lj
   rw[SO] at hx;obtain⟨m,hm,rfl⟩:=SU.mp hx;have em:pt cs j=m:=by unfold pt;rw[SK,hm];rfl
   have ej:((TC cs.length).map λk=>pt cs k*(if 0<k then 1 else 0))[j]?=some (pt cs j*(if 0<j then 1 else 0)):=by rw[SO,TR lj'];rfl
   have bm:=bc m (SM hm);refine bv (SqT.of ag) rfl ?_;cbv;refine⟨⟨[↥(j:Int),↥m],rfl,rfl⟩,?_⟩;cbv
   have ei:(m*if decide ((0:Int)<(j:Int))=true then (1:Int) else 0)=pt cs j*(if 0<j then 1 else 0):=by
    rw[em];by_cases h:0<j
    .rw[if_pos h,if_pos (by simp only[decide_eq_true_eq];lia)]
    .rw[if_neg h,if_neg (by simp only[decide_eq_true_eq];lia)]
   rw[ei];refine aI lj ?_;refine(A.on (af nT _)).bA (.int _) (am (by rw[SJ,Ta,SJ,TD];lia)) λH7 A7=>?_
   show AccZ K H5 D H7 ((((TC cs.length).map λk=>pt cs k*(if 0<k then 1 else 0)).take (j+1)).map TW);rw[Tc,ej,SV];exact A7
  .intro H6 A;rw[SJ,SX (by rw[SJ,TD];exact SR _)] at A;have hC:=AccZ.ints A;cbv;refine dF (SqL.of hC) λf nf=>?_
   have S6:=A.same.trans (af nf (.tup (((TC cs.length).map λk=>pt cs k*(if 0<k then 1 else 0)).map V.int)));refine DB ((S05.trans S6).seq hS) hl (rv5.same S6) (rq5.same S6) (.tup ag (RpL.ints _)) co vo.w1 tne tp t3 (by rw[SJ,TD];exact lc) (λx hx=>?_) k;obtain⟨i,hi,rfl⟩:=Te.mp hx;have hi':=Uu.mp hi
   have:=bc (pt cs i) (by unfold pt;rw[SK,SN hi'];exact U9 hi')
   split <;> lia
 .exact DB (S05.seq hS) hl rv5 rq5 rc co vo.w1 tne tp t3 lc bc k
def G6:aq ["value"] ["value"] (ai (top 11)):=by walk_at "s"
def gK:aq ["one","two","rest"] ["one","two"] (ai (top 12)):=by walk_at "s"
def iZ:aq ["one","two"] ["one","two"] (ai (top 13)):=by walk_at "s"
def wx:aq ["top","bottom","divisor"] ["top","bottom"] (ai (top 14)):=by walk_at "s"
def Di:aq ["one","two"] ["one","two"] (ai (top 15)):=by walk_at "s"
def Ap:aq ["word"] ["word"] (ai (top 23)):=by walk_at "s"
def sH:aq ["words"] ["words"] (ai (top 24)):=by walk_at "s"
def Ar:aq ["pieces","size"] ["pieces","size"] (ai (top 25)):=by walk_at "s"
def m6:aq ["rows","size","row"] ["rows","size"] (ai (top 26)):=by walk_at "s"
def i6:aq ["turnings"] ["turnings"] (ai (top 27)):=by walk_at "s"
def wv:aq ["turnings","found","turning"] ["turnings"] (ai (top 28)):=by walk_at "s"
def KF:aq ["words","rows","stuffs","turnings"] ["words","rows"] (ai (top 29)):=by walk_at "s"
def qk:aq ["vessel","number","turnings"] ["vessel","number"] (ai (top 30)):=by walk_at "s"
def Dg:aq ["vessel","number","turning"] ["vessel","number"] (ai (top 31)):=by walk_at "s"
def Aw:aq ["vessel"] ["vessel"] (ai (top 32)):=by walk_at "s"
def ql:aq ["word","pieces"] ["word","pieces"] (ai (top 35)):=by walk_at "s"
def sU:aq ["stuffs","heap","parts"] ["stuffs","heap"] (ai (top 36)):=by walk_at "s"
def sL:aq ["pace","top","bottom"] ["pace"] (ai (top 37)):=by walk_at "s"
def kU:aq ["stuffs","turning","one","two","pace"] ["stuffs","turning"] (ai (top 38)):=by walk_at "s"
def kZ:aq ["stuffs","text","pieces","part","cut"] ["stuffs","text"] (ai (top 39)):=by walk_at "s"
def iY:aq ["text"] ["text"] (ai (top 40)):=by walk_at "s"
def kX:aq ["text","cut","top","bottom"] ["text"] (ai (top 41)):=by walk_at "s"
def kW:aq ["stuffs","text","cut","rest","pace","turning"] ["stuffs","text"] (ai (top 42)):=by walk_at "s"
def KE:aq ["words","texts","stuffs","rows","at","text","turning"] ["words","texts"] (ai (top 43)):=by walk_at "s"
def Df:aq ["rows","place"] ["rows","place"] (ai (top 45)):=by walk_at "s"
def Au:aq ["rows"] ["rows"] (ai (top 46)):=by walk_at "s"
def m_:aq ["row","place","number"] ["row"] (ai (top 47)):=by walk_at "s"
def wf:aq ["size","own"] ["size","own"] (ai (top 48)):=by walk_at "s"
def sG:aq ["size"] ["size"] (ai (top 49)):=by walk_at "s"
def wg:aq ["row"] ["row"] (ai (top 50)):=by walk_at "s"
def sM:aq ["rows"] ["rows"] (ai (top 51)):=by walk_at "s"
def i5:aq ["row","divisor","number"] ["row"] (ai (top 52)):=by walk_at "s"
def Dd:aq ["row","place","divisor"] ["row"] (ai (top 53)):=by walk_at "s"
def Av:aq ["row","stairs","stair","place"] ["row","stairs"] (ai (top 54)):=by walk_at "s"
def Dc:aq ["rows","stairs","free","makers","units","place","row","rest"] ["rows"] (ai (top 55)):=by walk_at "s"
def jL:aq ["rows"] ["rows"] (ai (top 56)):=by walk_at "s"
def nh:aq ["rows","ends","units"] ["rows","ends"] (ai (top 58)):=by walk_at "s"
def qm:aq ["board","holders","short"] ["board","holders"] (ai (top 59)):=by walk_at "s"
def fF:aq ["line","place","number"] ["line"] (ai (top 60)):=by walk_at "s"
def kY:aq ["line","head","place","rest","divisor"] ["line","head","place"] (ai (top 61)):=by walk_at "s"
def sK:aq ["board","at","place","head"] ["board","at","place"] (ai (top 62)):=by walk_at "s"
def qo:aq ["board","holders","size","bottom","line","holder","numbers"] ["board","holders","size"] (ai (top 63)):=by walk_at "s"
def Ak:aq ["rows","wants","size","board","holders","at","place"] ["rows","wants"] (ai (top 64)):=by walk_at "s"
def wy:aq ["rows","wants","told","forward","back"] ["rows","wants"] (ai (top 65)):=by walk_at "s"
def Al:aq ["size","told","longest","longer","stuffs"] ["size"] (ai (top 67)):=by walk_at "s"
def ww:aq ["heap","stuffs"] ["heap","stuffs"] (ai (top 68)):=by walk_at "s"
def wu:aq ["vessel","stuffs"] ["vessel","stuffs"] (ai (top 69)):=by walk_at "s"
def Aq:aq ["vessel","stuffs"] ["vessel","stuffs"] (ai (top 70)):=by walk_at "s"
def m7:aq ["smaller","greater"] ["smaller","greater"] (ai (top 71)):=by walk_at "s"
def wl:aq ["sets","least","stuffs"] ["sets"] (ai (top 72)):=by walk_at "s"
def De:aq ["vessel"] ["vessel"] (ai (top 73)):=by walk_at "s"
def G7:aq ["vessel"] ["vessel"] (ai (top 74)):=by walk_at "s"
def KG:aq ["vessel"] ["vessel"] (ai (top 76)):=by walk_at "s"
def nj:aq ["turning","count"] ["turning","count"] (ai (top 78)):=by walk_at "s"
def k7:aq ["turning","count"] ["turning","count"] (ai (top 79)):=by walk_at "s"
def Db:aq ["vessel","row","count","here","at","number","turning"] ["vessel","row","count"] (ai (top 80)):=by walk_at "s"
def sI:aq ["vessel"] ["vessel"] (ai (top 82)):=by walk_at "s"
def Ao:aq ["vessel"] ["vessel"] (ai (top 83)):=by walk_at "s"
def sJ:aq ["vessel"] ["vessel"] (ai (top 84)):=by walk_at "s"
def m9:aq ["_law_script","_law_k"] ["_law_script","_law_k"] (ai (top 86)):=by walk_at "s"
def sS:aq ["_law_cell","_law_place","_law_number"] ["_law_cell","_law_place"] (ai (top 87)):=by walk_at "s"
def m8:aq ["_law_one","_law_two"] ["_law_one","_law_two"] (ai (top 88)):=by walk_at "s"
def qq:aq ["_law_top","_law_bottom","_law_by"] ["_law_top","_law_bottom"] (ai (top 89)):=by walk_at "s"
def sO:aq ["_law_number","_law_many","_law_letters","_law_found","_law_k","_law_first"] ["_law_number","_law_many"] (ai (top 90)):=by walk_at "s"
def wt:aq ["_law_cell","_law_k","_law_many","_law_top","_law_plain","_law_number","_law_found","_law_j"] ["_law_cell","_law_k","_law_many","_law_top","_law_plain"] (ai (top 91)):=by walk_at "s"
def wn:aq ["_law_script","_law_at","_law_many","_law_size","_law_top","_law_plain","_law_found","_law_k","_law_heap_here"] ["_law_script","_law_at","_law_many","_law_size","_law_top","_law_plain"] (ai (top 92)):=by walk_at "s"
def sR:aq ["_law_script","_law_at","_law_size","_law_kind","_law_plain","_law_found","_law_k","_law_after","_law_cell","_law_one","_law_step","_law_chosen","_law_two"] ["_law_script","_law_at","_law_size","_law_kind","_law_plain"] (ai (top 93)):=by walk_at "s"
def wq:aq ["_law_cell","_law_kind"] ["_law_cell","_law_kind"] (ai (top 94)):=by walk_at "s"
def qp:aq ["_law_script","_law_at","_law_number","_law_many","_law_top","_law_plain","_law_pool_here","_law_pairs_here","_law_rows","_law_k","_law_cell","_law_one","_law_two"] ["_law_script","_law_at"] (ai (top 95)):=by walk_at "s"
def jM:aq ["_law_words_here","_law_heap_here","_law_parts","_law_word","_law_many"] ["_law_words_here","_law_heap_here"] (ai (top 96)):=by walk_at "s"
def sQ:aq ["_law_vessel_here","_law_found","_law_take","_law_give","_law_pace_here","_law_told","_law_here"] ["_law_vessel_here"] (ai (top 97)):=by walk_at "s"
def sT:aq ["_law_cell","_law_many","_law_size","_law_found","_law_number","_law_k"] ["_law_cell","_law_many","_law_size"] (ai (top 98)):=by walk_at "s"
def An:aq ["_law_turning","_law_count_here"] ["_law_turning","_law_count_here"] (ai (top 99)):=by walk_at "s"
def qr:aq ["_law_turning","_law_count_here"] ["_law_turning","_law_count_here"] (ai (top 100)):=by walk_at "s"
def i4:aq ["_law_script","_law_at","_law_many","_law_size","_law_count_here"] ["_law_script","_law_at","_law_many"] (ai (top 101)):=by walk_at "s"
def eK:aq ["_law_found","_law_due","_law_k"] ["_law_found","_law_due"] (ai (top 102)):=by walk_at "s"
def sN:aq ["_law_row_here","_law_count_here"] ["_law_row_here","_law_count_here"] (ai (top 103)):=by walk_at "s"
def Am:aq ["_law_vessel_here","_law_count_here","_law_cells","_law_found","_law_cell","_law_can_here"] ["_law_vessel_here","_law_count_here","_law_cells"] (ai (top 104)):=by walk_at "s"
def gJ:aq ["_law_vessel_here","_law_count_here","_law_later","_law_told","_law_weights"] ["_law_vessel_here","_law_count_here","_law_later"] (ai (top 105)):=by walk_at "s"
def Jr:aq ["_law_script","_law_vessel_here","_law_read_one","_law_count_here","_law_row_here","_law_later","_law_some"] ["_law_script"] (ai (top 106)):=by walk_at "s"
section
variable(P:T9)(w:Uk)(K:Fg)(mg:Str->Option SW)(base:Heap)(k:Nat)
nonrec def rQ:=FnC P w K mg base bo k "whole" ["value"] kM
nonrec def bM:=FnC P w K mg base bo k "greatest_divisor" ["one","two"] v_
nonrec def eZ:=FnC P w K mg base bo k "least_multiple" ["one","two"] Ku
nonrec def oW:=FnC P w K mg base bo k "fraction" ["top","bottom"] (kS K)
nonrec def zE:=FnC P w K mg base bo k "before" ["one","two"] (qe K)
nonrec def u_:=FnC P w K mg base bo k "is_word" ["word"] (pZ K)
nonrec def gX:=FnC P w K mg base bo k "stuffs_of" ["words"] (j5 K)
nonrec def vb:=FnC P w K mg base bo k "is_heap" ["pieces","size"] (j7 K)
nonrec def iG:=FnC P w K mg base bo k "turnings_of" ["rows","size"] (iS K)
nonrec def e7:=FnC P w K mg base bo k "check_turnings" ["turnings"] (wc K)
nonrec def oV:=FnC P w K mg base bo k "heaps_of" ["turnings"] (kR K)
nonrec def J7:=FnC P w K mg base bo k "made" ["words","rows"] (CQ K)
nonrec def fU:=FnC P w K mg base bo k "turning_at" ["vessel","number"] (j4 K)
nonrec def zD:=FnC P w K mg base bo k "change" ["vessel","number"] (Kw K)
nonrec def fX:=FnC P w K mg base bo k "changes" ["vessel"] (oj K)
nonrec def jE:=FnC P w K mg base bo k "stuff_text" ["word","pieces"] pV
nonrec def mV:=FnC P w K mg base bo k "heap_text" ["stuffs","heap"] (dU K)
nonrec def mQ:=FnC P w K mg base bo k "pace_text" ["pace"] (vX K)
nonrec def gu:=FnC P w K mg base bo k "turning_text" ["stuffs","turning"] (vT K)
nonrec def gA:=FnC P w K mg base bo k "heap_guessed" ["stuffs","text"] (qa K)
nonrec def eY:=FnC P w K mg base bo k "number_guessed" ["text"] (yg K)
nonrec def gy:=FnC P w K mg base bo k "pace_guessed" ["text"] (vY K)
nonrec def gv:=FnC P w K mg base bo k "turning_read" ["stuffs","text"] (pU K)
nonrec def J6:=FnC P w K mg base bo k "read" ["words","texts"] (CP K)
nonrec def zC:=FnC P w K mg base bo k "column" ["rows","place"] (qd K)
nonrec def mW:=FnC P w K mg base bo k "crossed" ["rows"] (g_ K)
nonrec def db:=FnC P w K mg base bo k "first_place" ["row"] (kT K)
nonrec def oQ:=FnC P w K mg base bo k "unit_row" ["size","own"] (vS K)
nonrec def cJ:=FnC P w K mg base bo k "unit_rows" ["size"] (gF K)
nonrec def jr:=FnC P w K mg base bo k "opposite" ["row"] (GQ K)
nonrec def gY:=FnC P w K mg base bo k "opposites" ["rows"] (yf K)
nonrec def cV:=FnC P w K mg base bo k "common_divisor" ["row"] (GR K)
nonrec def km:=FnC P w K mg base bo k "lowest" ["row"] (sA K)
nonrec def vc:=FnC P w K mg base bo k "cleared" ["row","stairs"] (Kv K)
nonrec def zA:=FnC P w K mg base bo k "sifted" ["rows"] (CO K)
nonrec def fV:=FnC P w K mg base bo k "nought_makers" ["rows"] (pY K)
nonrec def iJ:=FnC P w K mg base bo k "first_board" ["rows","ends"] (qb K)
nonrec def jF:=FnC P w K mg base bo k "short_line" ["board","holders"] (kN K)
nonrec def c5:=FnC P w K mg base bo k "place_below_nought" ["line"] (we K)
nonrec def gz:=FnC P w K mg base bo k "line_without" ["line","head","place"] (kK K)
nonrec def mP:=FnC P w K mg base bo k "passed_on" ["board","at","place"] (pW K)
nonrec def jG:=FnC P w K mg base bo k "numbers_on" ["board","holders","size"] (kO K)
nonrec def mM:=FnC P w K mg base bo k "settled" ["rows","wants"] (g7 K)
nonrec def ju:=FnC P w K mg base bo k "balanced" ["rows","wants"] (fZ K)
nonrec def mN:=FnC P w K mg base bo k "sets_of" ["size"] (Dn.j6 K)
nonrec def jt:=FnC P w K mg base bo k "has_some" ["heap","stuffs"] (Dn.d5 K)
nonrec def oU:=FnC P w K mg base bo k "is_drain" ["vessel","stuffs"] (Dn.kQ K)
nonrec def va:=FnC P w K mg base bo k "is_trap" ["vessel","stuffs"] (Dn.p_ K)
nonrec def iH:=FnC P w K mg base bo k "lies_within" ["smaller","greater"] (Dn.pT K)
nonrec def js:=FnC P w K mg base bo k "least_of" ["sets"] (Dn.g8 K)
nonrec def zB:=FnC P w K mg base bo k "drains" ["vessel"] (Dn.qc K)
nonrec def Gg:=FnC P w K mg base bo k "traps" ["vessel"] (Dn.vU K)
nonrec def J8:=FnC P w K mg base bo k "kept" ["vessel"] (CS K)
nonrec def iK:=FnC P w K mg base bo k "can_be_made" ["turning","count"] (Wd.CU K)
nonrec def gB:=FnC P w K mg base bo k "count_behind" ["turning","count"] (Wd.CT K)
nonrec def zz:=FnC P w K mg base bo k "walked" ["vessel","row","count"] (Gn.CL K)
nonrec def mL:=FnC P w K mg base bo k "sheltered" ["vessel"] (gH K)
nonrec def uZ:=FnC P w K mg base bo k "keeping" ["vessel"] (kP K)
nonrec def mO:=FnC P w K mg base bo k "returning" ["vessel"] (gI K)
nonrec def bR:=FnC P w K mg base bo k "_law_cell_at" ["_law_script","_law_k"] (hJ K)
nonrec def dA:=FnC P w K mg base bo k "_law_mixed" ["_law_cell","_law_place"] gq
nonrec def iI:=FnC P w K mg base bo k "_law_divisor" ["_law_one","_law_two"] v_
nonrec def jI:=FnC P w K mg base bo k "_law_lowest" ["_law_top","_law_bottom"] (yh K)
nonrec def mR:=FnC P w K mg base bo k "_law_words" ["_law_number","_law_many"] (pS K)
nonrec def oT:=FnC P w K mg base bo k "_law_heap" ["_law_cell","_law_k","_law_many","_law_top","_law_plain"] (v0 K)
nonrec def oR:=FnC P w K mg base bo k "_law_pool" ["_law_script","_law_at","_law_many","_law_size","_law_top","_law_plain"] (vW K)
nonrec def mT:=FnC P w K mg base bo k "_law_pairs" ["_law_script","_law_at","_law_size","_law_kind","_law_plain"] (pX K)
nonrec def oS:=FnC P w K mg base bo k "_law_pace" ["_law_cell","_law_kind"] (vZ K)
nonrec def jH:=FnC P w K mg base bo k "_law_vessel" ["_law_script","_law_at"] (CM K)
nonrec def fW:=FnC P w K mg base bo k "_law_heap_text" ["_law_words_here","_law_heap_here"] (dU K)
nonrec def mS:=FnC P w K mg base bo k "_law_texts" ["_law_vessel_here"] (kJ K)
nonrec def mU:=FnC P w K mg base bo k "_law_count" ["_law_cell","_law_many","_law_size"] (Dn.wa K)
nonrec def uY:=FnC P w K mg base bo k "_law_can" ["_law_turning","_law_count_here"] (Dn.GS K)
nonrec def jJ:=FnC P w K mg base bo k "_law_behind" ["_law_turning","_law_count_here"] (Dn.j8 K)
nonrec def e6:=FnC P w K mg base bo k "_law_some_count" ["_law_script","_law_at","_law_many"] (Gn.CN K)
nonrec def gZ:=FnC P w K mg base bo k "_law_worth" ["_law_row_here","_law_count_here"] (Dn.dO K)
nonrec def uX:=FnC P w K mg base bo k "_law_row" ["_law_vessel_here","_law_count_here","_law_cells"] (yd K)
nonrec def dH:=FnC P w K mg base bo k "_law_weights_hold" ["_law_vessel_here","_law_count_here","_law_later"] (vR K)
end
section
variable{P:T9}{w:Uk}{K:Fg}{mg:Str->Option SW}{base:Heap}
seal PE PS PSs PA PT
local macro_rules | `(tactic| walk_at "l")=>`(tactic| (intro h;repeat (first|(obtain⟨e,_⟩:=h;cases e;exact rfl)|obtain⟨_,h⟩:=h)))
seal fh fT IxR Qq P8 PI PG MY PW PO binaryOp compareOp unaryOp
set_option hygiene false in
local macro_rules | `(tactic| fail "t")=>`(tactic| first|((with_reducible show PE _ _ _);fail "e")|((with_reducible show PA _ _ _);fail "a")|((with_reducible show PS _ _ _);fail "s")|((with_reducible show PSs _ _ _);fail "S")|((with_reducible show PT _ _ _);fail "b")|((with_reducible show PW _ _ _);fail "w")|((with_reducible show PG _ _ _);fail "g")|((with_reducible show MY _ _ _);fail "G")|((with_reducible show PI _ _ _ _);fail "i")|((with_reducible show PO _ _ _);fail "o")|((with_reducible show PJ _ _ _);fail "J")|skip)
set_option hygiene false in
local macro_rules | `(tactic| fail "e")=>`(tactic| first|exact pv _|exact N_|exact aY rfl B.int oP rfl|exact aY rfl B.bool gW rfl|exact aY rfl B.str oO rfl|exact ib rfl G.MOST_SIGNS|exact Ea|exact N3|exact ib rfl G.MOST_STUFFS|exact ib rfl G.MOST_PIECES|exact D_ rfl G.NOUGHT rfl|exact ib rfl G.MOST_TURNINGS|exact ib rfl G.MOST_HEAPS|exact HL|exact HM|exact tG|((first|refine QP (by fail "p") ?_ ?_|refine Ls (by fail "x") ?_ ?_ (λ_ _=>rfl)|refine cU (by fail "q") ?_ ?_ (di _)|refine cU (by fail "q") ?_ ?_ (by with_unfolding_all rfl)|((with_reducible show PE _ _ (aw _ _ _ _));refine yH (by assumption) hr rfl ?_)|refine N2 ?_|refine fJ ?_ ?_|refine aG (by fail "c") rfl B.isinstance aB ?_|refine D9 ?_|refine aG (by fail "c") rfl B.abs PY ?_|refine QM (by fail "r") ?_|refine aG (by fail "c") rfl B.len uQ ?_|refine aG (by fail "c") rfl B.all PX ?_|refine HP (by fail "q") (by fail "q") ?_ ?_ ?_|refine SA (.of (by kernel_rfl!)) (of_decide_eq_true (by kernel_rfl!)) rfl ?_ (λ_ _ _ _ _=>?_)|refine tH (CY rfl) rfl B.len rfl B.set ?_|refine ic (by fail "y") rfl B.tuple gg ?_|refine Lu rfl B.isinstance rfl B.list rfl B.tuple ?_|refine aG (by fail "c") rfl B.any PV ?_|refine tH (Aj rfl hu) rfl B.len rfl B.set ?_|refine HJ (by fail "r") ?_ ?_ ?_|refine ic (by fail "y") rfl B.list gU ?_|refine Sx (.of (by kernel_rfl!)) rfl ?_ (λ_ _ _ _ _=>?_) (λ_ _ _ _ _=>?_)|refine QR ?_|refine Lw ?_|refine Lv ?_|refine wN WR PySem.F.slot_str_join PySem.F.type_str_join LQ ?_ ?_|refine N9 ?_|refine wN WR WQ PySem.F.type_str_split Ic ?_ ?_|refine wN WR Yx PySem.F.type_str_rpartition qI ?_ ?_|refine Lr rfl Tpw ?_ ?_ ⟨rfl,rfl,rfl,rfl⟩|refine HN hu1 ?_ ?_ ?_ ⟨rfl,rfl,rfl,rfl⟩|refine ic (by fail "y") rfl B.int oP ?_|refine wN WR YL PySem.F.type_str_partition t7 ?_ ?_|refine HK ?_ ?_ ?_|refine N4 ?_|refine wN XJ PySem.F.slot_list_append PySem.F.type_list_append t9 ?_ ?_|refine wN XJ PySem.F.slot_list_index PySem.F.type_list_index (Ie hu) ?_ ?_|refine aG (by fail "c") rfl B.min PU ?_|refine qy rfl rfl B.list rfl B.range ?_|refine wN XJ PySem.F.slot_list_extend PySem.F.type_list_extend Ez ?_ ?_|refine QN ?_ ?_|refine Sy (.of (by kernel_rfl!)) rfl ?_ (λ_ _ _ _ _=>?_) (λ_ _ _ _ _=>?_) (λ_ _ _ _ _=>?_)|refine ic (by fail "y") rfl B.str oO ?_|refine aG (by fail "c") rfl B.sum PQ ?_|refine ia ?_)<;>fail "t"))
set_option hygiene false in
local macro_rules | `(tactic| fail "a")=>`(tactic| first|exact bu|((first|refine aD ?_ ?_)<;>fail "t"))
set_option hygiene false in
local macro_rules | `(tactic| fail "s")=>`(tactic| first|((first|refine NM nd rfl (by walk_at "o") ?_|refine d9 ?_|refine jO ?_ ?_ ?_|refine Jy hpo rfl ?_ ?_ ?_|refine NO rfl nd rfl rfl (by decide) rfl rfl ?_ rfl|refine HD hpo ?_ ?_|refine Lh hu1 ?_ ?_ ?_ rfl|refine Lg ?_|refine Su nd rfl rfl (.of (by kernel_rfl!)) rfl ?_ (λ_ _ _ _ _=>?_) (λ_ _ _ _ _=>?_) (λ_ _ _ _ _=>?_)|refine Ss nd rfl rfl (.of (by kernel_rfl!)) rfl ?_ (λ_ _ _ _ _=>?_) (λ_ _ _ _ _=>?_)|refine Sv nd rfl rfl (.of (by kernel_rfl!)) rfl ?_ (λ_ _ _ _ _=>?_)|((with_reducible first|show PS _ (.Assign [.Tuple _ _ _] _ _) _|show PS _ (.Assign [.Subscript _ _ _] _ _) _);refine NS ?_ ?_))<;>fail "t"))
set_option hygiene false in
local macro_rules | `(tactic| fail "S")=>`(tactic| first|exact cT|exact tE|((first|refine cm ?_|refine b6 ?_ ?_)<;>fail "t"))
set_option hygiene false in
local macro_rules | `(tactic| fail "b")=>`(tactic| first|((first|refine lv (by fail "q") ?_ ?_ (di _)|refine lv (by fail "q") ?_ ?_ (by with_unfolding_all rfl)|((with_reducible show PT _ (.BoolOp _ _ _) _);refine PW.pt ?_)|refine Jx ?_|refine HB (by fail "q") (by fail "q") ?_ ?_ ?_|refine eU ?_)<;>fail "t"))
set_option hygiene false in
local macro_rules | `(tactic| fail "w")=>`(tactic| first|((first|refine pw_or ?_ ?_|refine pw_or1 ?_|refine pw_and ?_ ?_|refine pw_and1 ?_)<;>fail "t"))
set_option hygiene false in
local macro_rules | `(tactic| fail "g")=>`(tactic| first|exact wM (by first|exact nd|exact of_decide_eq_true (by kernel_rfl!)) rfl (by walk_at "o")|((first|refine NY rfl ?_|refine NZ ?_ ?_ C0)<;>fail "t"))
set_option hygiene false in
local macro_rules | `(tactic| fail "G")=>`(tactic| first|exact Lq|((first|refine HH ?_ ?_)<;>fail "t"))
set_option hygiene false in
local macro_rules | `(tactic| fail "i")=>`(tactic| first|((first|refine NU rfl B.zip ?_|refine tF rfl B.range ?_|refine Lp rfl B.enumerate ?_|refine HF rfl B.zip ?_|refine D8 rfl B.range ?_|refine Lm rfl B.zip ?_|refine HG rfl B.enumerate ?_|refine Ln ?_|refine NV ?_|refine NX ?_|refine NW ?_)<;>fail "t"))
set_option hygiene false in
local macro_rules | `(tactic| fail "o")=>`(tactic| first|exact Lj|((first|refine Li ?_)<;>fail "t"))
set_option hygiene false in
local macro_rules | `(tactic| fail "J")=>`(tactic| first|exact PJ.nil|((first|refine PJ.cons ?_ ?_)<;>fail "t"))
set_option hygiene false in
local macro_rules | `(tactic| fail "c")=>`(tactic| first|exact aW|exact IY|exact uI|exact(IX rfl)|exact dG|exact(IW rfl)|exact(F1 rfl)|exact(FY rfl))
set_option hygiene false in
local macro_rules | `(tactic| fail "p")=>`(tactic| first|exact LB|exact HU|exact LA|exact Oa|exact Og|exact Ob|exact Oh|exact LD|exact Oe|exact Od|exact AK|exact LC|exact Ly|exact Oc)
set_option hygiene false in
local macro_rules | `(tactic| fail "q")=>`(tactic| first|exact HS|exact wQ|exact QU|exact QV|exact Eg|exact(Of hu)|exact QW|exact tK|exact Lz|exact Eh|exact(Ef hu)|exact QX)
set_option hygiene false in
local macro_rules | `(tactic| fail "r")=>`(tactic| first|exact M4|exact Nj|exact Ky|exact Nk)
set_option hygiene false in
local macro_rules | `(tactic| fail "x")=>`(tactic| first|exact JN|exact EZ|exact JO)
set_option hygiene false in
local macro_rules | `(tactic| fail "y")=>`(tactic| first|exact rE|exact(Bi rfl)|exact F2|exact uH|exact F3|exact FZ)
set_option hygiene false in
local macro_rules | `(tactic| exists $s:term,$t:term,$r:term)=>`(tactic| (refine F.okN $s (λ_ _ _ _=>by walk_at "l") λf cdv A outer s H vs Q E nd hr hu hu1 hpo own h=>⟨$t,?_,$r⟩;fail "t"))
def HW(F:aE K mg "whole" (top 11) ["value"]) (B:bx mg)  : rQ P w K mg base 1:=by
 exists G6,Jl K,(by obtain⟨i,rfl,k⟩:=h;exact Hc k)
def gN(F:aE K mg "greatest_divisor" (top 12) ["one","two"]) (B:bx mg)  : bM P w K mg base 1:=by
 exists gK,Na,(by obtain⟨a,b,rfl,k⟩:=h;exact Nw a b H _ k)
def ja(F:aE K mg "least_multiple" (top 13) ["one","two"]) (B:bx mg) (gV:bM P w K mg base 1):eZ P w K mg base 2:=by
 exists iZ,Ki K,(QC rfl h)
def w4(F:aE K mg "fraction" (top 14) ["top","bottom"]) (B:bx mg) (gV:bM P w K mg base 1) (c_whole:rQ P w K mg base 1):oW P w K mg base 2:=by
 exists wx,pK K,(yp rfl h)
def Ep(F:aE K mg "before" (top 15) ["one","two"]) (B:bx mg)  : zE P w K mg base 1:=by
 exists Di,pP K,(DO rfl h)
def AS(G:Cn K mg nq) {pD:Addr} (Tpw:KD P w K mg "PIECES_WRITTEN" pD ik) (F:aE K mg "is_word" (top 23) ["word"]) (B:bx mg)  : u_ P w K mg base 1:=by
 exists Ap,pG K,(DH rfl h)
def tM(G:Cn K mg nq) {pD:Addr} (Tpw:KD P w K mg "PIECES_WRITTEN" pD ik) (F:aE K mg "stuffs_of" (top 24) ["words"]) (B:bx mg) (c_is_word:u_ P w K mg base 1):gX P w K mg base 2:=by
 exists sH,o_ K,(Dx rfl h)
def AW(G:Cn K mg nq) {pD:Addr} (Tpw:KD P w K mg "PIECES_WRITTEN" pD ik) (F:aE K mg "is_heap" (top 25) ["pieces","size"]) (B:bx mg) (c_whole:rQ P w K mg base 1):vb P w K mg base 2:=by
 exists Ar,pJ K,(DJ rfl h)
def nA(G:Cn K mg nq) {pD:Addr} (Tpw:KD P w K mg "PIECES_WRITTEN" pD ik) (F:aE K mg "turnings_of" (top 26) ["rows","size"]) (B:bx mg) (c_before:zE P w K mg base 2) (c_is_heap:vb P w K mg base 2):iG P w K mg base 3:=by
 exists m6,iP K nq,(wB G rfl h)
 refine N8 (M:=["rows","size","#row"]) (.of (by kernel_rfl!)) nd rfl ?_ (λ_ _ _ _ _=>?_) <;> fail "t"
def jd(G:Cn K mg nq) {pD:Addr} (Tpw:KD P w K mg "PIECES_WRITTEN" pD ik) (F:aE K mg "check_turnings" (top 27) ["turnings"]) (B:bx mg) (c_heaps_of:oV P w K mg base 1):e7 P w K mg base 2:=by
 exists i6,vO K,(Hv rfl h)
def wY(F:aE K mg "heaps_of" (top 28) ["turnings"]) (B:bx mg)  : oV P w K mg base 1:=by
 exists wv,kD K,(AE rfl h)
def LH(F:aE K mg "made" (top 29) ["words","rows"]) (B:bx mg) (Ad:gX P w K mg base 3) (c_turnings_of:iG P w K mg base 3) (Ds:e7 P w K mg base 3):J7 P w K mg base 4:=by
 exists KF,B_ K,(KY rfl h)
def qz(F:aE K mg "turning_at" (top 30) ["vessel","number"]) (B:bx mg) (c_whole:rQ P w K mg base 1):fU P w K mg base 2:=by
 exists qk,o9 K,(Dw rfl h)
def Eo(F:aE K mg "change" (top 31) ["vessel","number"]) (B:bx mg) (xn:fU P w K mg base 2):zD P w K mg base 3:=by
 exists Dg,Km K,(Ny rfl h)
def AZ(F:aE K mg "changes" (top 32) ["vessel"]) (B:bx mg) (c_change:zD P w K mg base 3):fX P w K mg base 4:=by
 exists Aw,Cv K,(K5 rfl h)
def qA(F:aE K mg "stuff_text" (top 35) ["word","pieces"]) (B:bx mg)  : jE P w K mg base 1:=by
 exists ql,pb K,(Dy rfl h)
def tY(F:aE K mg "heap_text" (top 36) ["stuffs","heap"]) (B:bx mg) (c_stuff_text:jE P w K mg base 1):mV P w K mg base 2:=by
 exists sU,vJ K,(Ho rfl h)
def tQ(F:aE K mg "pace_text" (top 37) ["pace"]) (B:bx mg)  : mQ P w K mg base 1:=by
 exists sL,vD K,(Hl rfl h)
def lC(F:aE K mg "turning_text" (top 38) ["stuffs","turning"]) (B:bx mg) (c_heap_text:mV P w K mg base 2) (c_pace_text:mQ P w K mg base 2):gu P w K mg base 3:=by
 exists kU,vq K,(Hg rfl h)
def lG(G:Cn K mg nq) {pD:Addr} (Tpw:KD P w K mg "PIECES_WRITTEN" pD ik) (F:aE K mg "heap_guessed" (top 39) ["stuffs","text"]) (B:bx mg)  : gA P w K mg base 1:=by
 exists kZ,vK K,(Hq rfl h)
def i_(F:aE K mg "number_guessed" (top 40) ["text"]) (B:bx mg)  : eY P w K mg base 1:=by
 exists iY,BZ K,(KU rfl h)
def lE(F:aE K mg "pace_guessed" (top 41) ["text"]) (B:bx mg) (Wt:eY P w K mg base 2) (c_fraction:oW P w K mg base 2):gy P w K mg base 3:=by
 exists kX,vE K,(Hm rfl h)
def lD(F:aE K mg "turning_read" (top 42) ["stuffs","text"]) (B:bx mg) (c_pace_guessed:gy P w K mg base 3) (c_heap_guessed:gA P w K mg base 3) (c_turning_text:gu P w K mg base 3):gv P w K mg base 4:=by
 exists kW,o8 K,(Du rfl h)
def LG(F:aE K mg "read" (top 43) ["words","texts"]) (B:bx mg) (Ad:gX P w K mg base 4) (c_made:J7 P w K mg base 4) (c_turning_read:gv P w K mg base 4):J6 P w K mg base 5:=by
 exists KE,BQ K,(KR rfl h)
def En(F:aE K mg "column" (top 45) ["rows","place"]) (B:bx mg)  : zC P w K mg base 1:=by
 exists Df,pN K,(DM rfl h)
def AX(F:aE K mg "crossed" (top 46) ["rows"]) (B:bx mg) (c_column:zC P w K mg base 1):mW P w K mg base 2:=by
 exists Au,kF K,(AH rfl h)
def nM(F:aE K mg "first_place" (top 47) ["row"]) (B:bx mg)  : db P w K mg base 1:=by
 exists m_,vM K,(Ht rfl h)
def wR(F:aE K mg "unit_row" (top 48) ["size","own"]) (B:bx mg)  : oQ P w K mg base 1:=by
 exists wf,vn K,(Hf rfl h)
def tL(F:aE K mg "unit_rows" (top 49) ["size"]) (B:bx mg) (c_unit_row:oQ P w K mg base 1):cJ P w K mg base 2:=by
 exists sG,vm K,(He rfl h)
def wS(F:aE K mg "opposite" (top 50) ["row"]) (B:bx mg)  : jr P w K mg base 1:=by
 exists wg,Kh K,(Nr rfl h)
def tR(F:aE K mg "opposites" (top 51) ["rows"]) (B:bx mg) (c_opposite:jr P w K mg base 1):gY P w K mg base 2:=by
 exists sM,BY K,(KS rfl h)
def jc(F:aE K mg "common_divisor" (top 52) ["row"]) (B:bx mg) (gV:bM P w K mg base 1):cV P w K mg base 2:=by
 exists i5,Kl K,(Nx rfl h)
def El(F:aE K mg "lowest" (top 53) ["row"]) (B:bx mg) (se:db P w K mg base 2) (vp:cV P w K mg base 2):km P w K mg base 3:=by
 exists Dd,Ca K,(KZ rfl h)
def AY(F:aE K mg "cleared" (top 54) ["row","stairs"]) (B:bx mg) (se:db P w K mg base 3) (Pr:km P w K mg base 3):vc P w K mg base 4:=by
 exists Av,Cu K,(K4 rfl h)
def Ej(F:aE K mg "sifted" (top 55) ["rows"]) (B:bx mg) (ip:cJ P w K mg base 4) (c_cleared:vc P w K mg base 4) (se:db P w K mg base 4) (Pr:km P w K mg base 4):zA P w K mg base 5:=by
 exists Dc,BN K,(KO rfl h)
def jQ(F:aE K mg "nought_makers" (top 56) ["rows"]) (B:bx mg) (c_sifted:zA P w K mg base 5):fV P w K mg base 6:=by
 exists jL,pC K,(DE rfl h)
def nN(F:aE K mg "first_board" (top 58) ["rows","ends"]) (B:bx mg) (ip:cJ P w K mg base 2):iJ P w K mg base 3:=by
 exists nh,pL K,(DK rfl h)
def qB(F:aE K mg "short_line" (top 59) ["board","holders"]) (B:bx mg)  : jF P w K mg base 1:=by
 exists qm,vw K,(Hi rfl h)
def fK(F:aE K mg "place_below_nought" (top 60) ["line"]) (B:bx mg)  : c5 P w K mg base 1:=by
 exists fF,vP K,(Hw rfl h)
def lF(F:aE K mg "line_without" (top 61) ["line","head","place"]) (B:bx mg) (vp:cV P w K mg base 2):gz P w K mg base 3:=by
 exists kY,kr K,(Ax rfl h)
def tP(F:aE K mg "passed_on" (top 62) ["board","at","place"]) (B:bx mg) (c_opposite:jr P w K mg base 3) (c_line_without:gz P w K mg base 3):mP P w K mg base 4:=by
 exists sK,pk K,(DC rfl h)
def qC(F:aE K mg "numbers_on" (top 63) ["board","holders","size"]) (B:bx mg) (Pr:km P w K mg base 3) (Fx:eZ P w K mg base 3):jG P w K mg base 4:=by
 exists qo,ky K,(Az rfl h)
def AM(F:aE K mg "settled" (top 64) ["rows","wants"]) (B:bx mg) (c_first_board:iJ P w K mg base 4) (c_short_line:jF P w K mg base 4) (xa:c5 P w K mg base 4) (c_passed_on:mP P w K mg base 4) (c_numbers_on:jG P w K mg base 4) (zo:gY P w K mg base 4):mM P w K mg base 5:=by
 exists Ak,kx K,(Ay rfl h)
def w_(F:aE K mg "balanced" (top 65) ["rows","wants"]) (B:bx mg) (c_settled:mM P w K mg base 5) (zo:gY P w K mg base 5):ju P w K mg base 6:=by
 exists wy,iQ K,(wC rfl h)
def AN(F:aE K mg "sets_of" (top 67) ["size"]) (B:bx mg)  : mN P w K mg base 1:=by
 exists Al,Dn.pf K,(Dn.Dz rfl h)
def wZ(F:aE K mg "has_some" (top 68) ["heap","stuffs"]) (B:bx mg)  : jt P w K mg base 1:=by
 exists ww,Dn.kE K,(Dn.AF rfl h)
def wX(F:aE K mg "is_drain" (top 69) ["vessel","stuffs"]) (B:bx mg) (c_has_some:jt P w K mg base 1):oU P w K mg base 2:=by
 exists wu,Dn.kC K,(Dn.AD rfl h)
def AV(F:aE K mg "is_trap" (top 70) ["vessel","stuffs"]) (B:bx mg) (c_has_some:jt P w K mg base 1):va P w K mg base 2:=by
 exists Aq,Dn.pI K,(Dn.DI rfl h)
def nB(F:aE K mg "lies_within" (top 71) ["smaller","greater"]) (B:bx mg)  : iH P w K mg base 1:=by
 exists m7,Dn.o7 K,(Dn.Dr rfl h)
def wT(F:aE K mg "least_of" (top 72) ["sets"]) (B:bx mg) (c_lies_within:iH P w K mg base 1):js P w K mg base 2:=by
 exists wl,Dn.kA K,(Dn.AA rfl h)
def Em(F:aE K mg "drains" (top 73) ["vessel"]) (B:bx mg) (c_least_of:js P w K mg base 2) (c_sets_of:mN P w K mg base 2) (c_is_drain:oU P w K mg base 2):zB P w K mg base 3:=by
 exists De,Dn.pM K,(Dn.DL rfl h)
def HX(F:aE K mg "traps" (top 74) ["vessel"]) (B:bx mg) (c_least_of:js P w K mg base 2) (c_sets_of:mN P w K mg base 2) (c_is_trap:va P w K mg base 2):Gg P w K mg base 3:=by
 exists G7,Dn.vv K,(Dn.Hh rfl h)
def LI(F:aE K mg "kept" (top 76) ["vessel"]) (B:bx mg) (c_nought_makers:fV P w K mg base 6) (c_crossed:mW P w K mg base 6) (wp:fX P w K mg base 6):J8 P w K mg base 7:=by
 exists KG,Ch K,(K1 rfl h)
def nP(F:aE K mg "can_be_made" (top 78) ["turning","count"]) (B:bx mg)  : iK P w K mg base 1:=by
 exists nj,Wd.Cy K,(Wd.K7 rfl h)
def lJ(F:aE K mg "count_behind" (top 79) ["turning","count"]) (B:bx mg)  : gB P w K mg base 1:=by
 exists k7,Wd.Cs K,(Wd.K3 rfl h)
def Ei(F:aE K mg "walked" (top 80) ["vessel","row","count"]) (B:bx mg) (xn:fU P w K mg base 2) (c_count_behind:gB P w K mg base 2) (c_can_be_made:iK P w K mg base 2):zz P w K mg base 3:=by
 exists Db,Gn.BI K,(Gn.KL rfl h)
def tN(F:aE K mg "sheltered" (top 82) ["vessel"]) (B:bx mg) (c_settled:mM P w K mg base 5) (wp:fX P w K mg base 5) (ip:cJ P w K mg base 5):mL P w K mg base 6:=by
 exists sI,gC K,(sY rfl h)
def AR(F:aE K mg "keeping" (top 83) ["vessel"]) (B:bx mg) (c_balanced:ju P w K mg base 6) (wp:fX P w K mg base 6) (ip:cJ P w K mg base 6):uZ P w K mg base 7:=by
 exists Ao,kB K,(AB rfl h)
def tO(F:aE K mg "returning" (top 84) ["vessel"]) (B:bx mg) (c_balanced:ju P w K mg base 6) (c_crossed:mW P w K mg base 6) (ip:cJ P w K mg base 6) (wp:fX P w K mg base 6):mO P w K mg base 7:=by
 exists sJ,gD K,(sZ rfl h)
def nK(F:aE K mg "_law_cell_at" (top 86) ["_law_script","_law_k"]) (B:bx mg)  : bR P w K mg base 1:=by
 exists m9,Nb K,(by obtain⟨a,ns,k,rfl,hS,h0,q⟩:=h;exact K6 hS h0 q)
def tW(F:aE K mg "_law_mixed" (top 87) ["_law_cell","_law_place"]) (B:bx mg)  : dA P w K mg base 1:=by
 exists sS,B1 K,(KW rfl h)
def nJ(F:aE K mg "_law_divisor" (top 88) ["_law_one","_law_two"]) (B:bx mg)  : iI P w K mg base 1:=by
 exists m8,Cq K,(K2 rfl h)
def qE(F:aE K mg "_law_lowest" (top 89) ["_law_top","_law_bottom"]) (B:bx mg) (c_law_divisor:iI P w K mg base 1):jI P w K mg base 2:=by
 exists qq,Cb K,(K0 rfl h)
def tT(F:aE K mg "_law_words" (top 90) ["_law_number","_law_many"]) (B:bx mg)  : mR P w K mg base 1:=by
 exists sO,o5 K,(Dq rfl h)
def wW(F:aE K mg "_law_heap" (top 91) ["_law_cell","_law_k","_law_many","_law_top","_law_plain"]) (B:bx mg) (pe:dA P w K mg base 1):oT P w K mg base 2:=by
 exists wt,vL K,(Hr rfl h)
def wU(F:aE K mg "_law_pool" (top 92) ["_law_script","_law_at","_law_many","_law_size","_law_top","_law_plain"]) (B:bx mg) (c_law_heap:oT P w K mg base 2) (fm:bR P w K mg base 2):oR P w K mg base 3:=by
 exists wn,vC K,(Hk rfl h)
def tV(F:aE K mg "_law_pairs" (top 93) ["_law_script","_law_at","_law_size","_law_kind","_law_plain"]) (B:bx mg) (fm:bR P w K mg base 1) (pe:dA P w K mg base 1):mT P w K mg base 2:=by
 exists sR,pA K,(DD rfl h)
def wV(F:aE K mg "_law_pace" (top 94) ["_law_cell","_law_kind"]) (B:bx mg) (c_law_lowest:jI P w K mg base 2):oS P w K mg base 3:=by
 exists wq,vF K,(Hn rfl h)
def qD(F:aE K mg "_law_vessel" (top 95) ["_law_script","_law_at"]) (B:bx mg) (pe:dA P w K mg base 3) (c_law_pool:oR P w K mg base 3) (c_law_pairs:mT P w K mg base 3) (fm:bR P w K mg base 3) (c_law_words:mR P w K mg base 3) (c_law_pace:oS P w K mg base 3):jH P w K mg base 4:=by
 exists qp,BJ K,(KM rfl h)
def jR(F:aE K mg "_law_heap_text" (top 96) ["_law_words_here","_law_heap_here"]) (B:bx mg)  : fW P w K mg base 1:=by
 exists jM,pF K,(DG rfl h)
def tU(F:aE K mg "_law_texts" (top 97) ["_law_vessel_here"]) (B:bx mg) (c_law_heap_text:fW P w K mg base 1):mS P w K mg base 2:=by
 exists sQ,pE K,(DF rfl h)
def tX(F:aE K mg "_law_count" (top 98) ["_law_cell","_law_many","_law_size"]) (B:bx mg) (pe:dA P w K mg base 1):mU P w K mg base 2:=by
 exists sT,Dn.vN K,(Dn.Hu rfl h)
def AQ(F:aE K mg "_law_can" (top 99) ["_law_turning","_law_count_here"]) (B:bx mg)  : uY P w K mg base 1:=by
 exists An,Dn.Ko K,(Dn.Nz rfl h)
def qF(F:aE K mg "_law_behind" (top 100) ["_law_turning","_law_count_here"]) (B:bx mg)  : jJ P w K mg base 1:=by
 exists qr,Dn.pO K,(Dn.DN rfl h)
def jb(F:aE K mg "_law_some_count" (top 101) ["_law_script","_law_at","_law_many"]) (B:bx mg) (c_law_count:mU P w K mg base 2) (fm:bR P w K mg base 2):e6 P w K mg base 3:=by
 exists i4,Gn.BM K,(Gn.KN rfl h)
def HZ(F:aE K mg "_law_same" (top 102) ["_law_found","_law_due"]) (B:bx mg):FnC P w K mg base bo 1 "_law_same" ["_law_found","_law_due"] (fD K 0):=by
 refine F.ok eK (λvs H Q E h=>ub h) (λf cdv A outer s H vs Q E hr h=>?_);have nd:=eK.nd;have hpo:=λ{M A env}=>@Yp M A env
 have hu:=hr.units;exact⟨vB K,(b6 (jO (PW.pt (pw_or (eU (aG aW rfl B.isinstance aB (aD (pv 1) (aD (aY rfl B.tuple gg rfl) bu)))) (pw_or1 (eU (aG aW rfl B.isinstance aB (aD (pv 1) (aD (aY rfl B.list gU rfl) bu)))))))
 tE
 cT)
 (b6 (jO (eU (aG aW rfl B.isinstance aB (aD (pv 1) (aD (aY rfl B.bool gW rfl) bu))))
 (cm (d9 (fJ (aG aW rfl B.isinstance aB (aD (pv 0) (aD (aY rfl B.bool gW rfl) bu))) (ia (cU wQ (pv 0) (pv 1) (di _))))))
 cT)
 (b6 (jO (eU (aG aW rfl B.isinstance aB (aD (pv 1) (aD (aY rfl B.int oP rfl) bu))))
 (cm (d9 (fJ (aG aW rfl B.isinstance aB (aD (pv 0) (aD (aY rfl B.int oP rfl) bu))) (fJ (D9 (aG aW rfl B.isinstance aB (aD (pv 0) (aD (aY rfl B.bool gW rfl) bu)))) (ia (cU wQ (pv 0) (pv 1) (di _)))))))
 cT)
 (b6 (jO (eU (aG aW rfl B.isinstance aB (aD (pv 1) (aD (aY rfl B.str oO rfl) bu))))
 (cm (d9 (fJ (aG aW rfl B.isinstance aB (aD (pv 0) (aD (aY rfl B.str oO rfl) bu))) (ia (cU wQ (pv 0) (pv 1) (di _))))))
 cT)
 (cm (d9 (fJ (cU tK (pv 1) tG (di _)) (ia (cU tK (pv 0) tG (di _)))))))))),(Hj rfl h)⟩
def HY{m:Nat} (F:aE K mg "_law_same" (top 102) ["_law_found","_law_due"]) (B:bx mg) (c_law_same:FnC P w K mg base bo (m+1) "_law_same" ["_law_found","_law_due"] (fD K m)):FnC P w K mg base bo (m+2) "_law_same" ["_law_found","_law_due"] (fD K (m+1)):=by
 refine F.ok eK (λvs H Q E h=>ub h) (λf cdv A outer s H vs Q E hr h=>?_);have nd:=eK.nd;have hpo:=λ{M A env}=>@Yp M A env
 have hu:=hr.units;exact⟨BO K m,(b6 (jO (PW.pt (pw_or (eU (aG aW rfl B.isinstance aB (aD (pv 1) (aD (aY rfl B.tuple gg rfl) bu)))) (pw_or1 (eU (aG aW rfl B.isinstance aB (aD (pv 1) (aD (aY rfl B.list gU rfl) bu)))))))
 (b6 (jO (PW.pt (pw_or (lv HS (aG aW rfl B.isinstance aB (aD (pv 0) (aD (aY rfl B.tuple gg rfl) bu))) (aG aW rfl B.isinstance aB (aD (pv 1) (aD (aY rfl B.tuple gg rfl) bu))) (di _)) (pw_or1 (lv HS (aG aW rfl B.isinstance aB (aD (pv 0) (aD (aY rfl B.list gU rfl) bu))) (aG aW rfl B.isinstance aB (aD (pv 1) (aD (aY rfl B.list gU rfl) bu))) (di _)))))
 (cm (d9 Ea))
 cT)
 (b6 (jO (lv HS (aG dG rfl B.len uQ (aD (pv 0) bu)) (aG dG rfl B.len uQ (aD (pv 1) bu)) (di _))
 (cm (d9 Ea))
 cT)
 (b6 (Jy hpo rfl (tF rfl B.range (aD (aG dG rfl B.len uQ (aD (pv 1) bu)) bu)) (wM (i:=2) nd rfl (by walk_at "o"))
 (cm (jO (Jx (eU (yH c_law_same hr rfl (aD (Ls JP (pv 0) (pv 2) (λ_ _=>rfl)) (aD (Ls JP (pv 1) (pv 2) (λ_ _=>rfl)) bu)))))
 (cm (d9 Ea))
 cT)))
 (cm (d9 Ea)))))
 cT)
 (b6 (jO (eU (aG aW rfl B.isinstance aB (aD (pv 1) (aD (aY rfl B.bool gW rfl) bu))))
 (cm (d9 (fJ (aG aW rfl B.isinstance aB (aD (pv 0) (aD (aY rfl B.bool gW rfl) bu))) (ia (cU wQ (pv 0) (pv 1) (di _))))))
 cT)
 (b6 (jO (eU (aG aW rfl B.isinstance aB (aD (pv 1) (aD (aY rfl B.int oP rfl) bu))))
 (cm (d9 (fJ (aG aW rfl B.isinstance aB (aD (pv 0) (aD (aY rfl B.int oP rfl) bu))) (fJ (D9 (aG aW rfl B.isinstance aB (aD (pv 0) (aD (aY rfl B.bool gW rfl) bu)))) (ia (cU wQ (pv 0) (pv 1) (di _)))))))
 cT)
 (b6 (jO (eU (aG aW rfl B.isinstance aB (aD (pv 1) (aD (aY rfl B.str oO rfl) bu))))
 (cm (d9 (fJ (aG aW rfl B.isinstance aB (aD (pv 0) (aD (aY rfl B.str oO rfl) bu))) (ia (cU wQ (pv 0) (pv 1) (di _))))))
 cT)
 (cm (d9 (fJ (cU tK (pv 1) tG (di _)) (ia (cU tK (pv 0) tG (di _)))))))))),(KP rfl h)⟩
def Ek(F:aE K mg "_law_same" (top 102) ["_law_found","_law_due"]) (B:bx mg):∀m:Nat,FnC P w K mg base bo (m+1) "_law_same" ["_law_found","_law_due"] (fD K m)
 |0=>HZ F B
 |m+1=>HY F B (Ek F B m)
def tS(F:aE K mg "_law_worth" (top 103) ["_law_row_here","_law_count_here"]) (B:bx mg)  : gZ P w K mg base 1:=by
 exists sN,Dn.vj K,(Dn.Hb rfl h)
def AO(F:aE K mg "_law_row" (top 104) ["_law_vessel_here","_law_count_here","_law_cells"]) (B:bx mg) (c_law_behind:jJ P w K mg base 1) (c_law_can:uY P w K mg base 1):uX P w K mg base 2:=by
 exists Am,BP K,(KQ rfl h)
def gM(F:aE K mg "_law_weights_hold" (top 105) ["_law_vessel_here","_law_count_here","_law_later"]) (B:bx mg) (c_sheltered:mL P w K mg base 7) (c_keeping:uZ P w K mg base 7) (c_returning:mO P w K mg base 7) (xy:gZ P w K mg base 7):dH P w K mg base 8:=by
 exists gJ,vk K,(Hd rfl h)
def Oj(F:Fun K "law" "law" (top 106) f fd) (B:bx mg) (c_law_vessel:jH P w K mg base 8) (c_read:J6 P w K mg base 8) (Dv:e6 P w K mg base 8) (c_law_row:uX P w K mg base 8) (c_kept:J8 P w K mg base 8) (c_drains:zB P w K mg base 8) (c_traps:Gg P w K mg base 8) (xv:dH P w K mg base 8) (c_law_texts:mS P w K mg base 8) (c_law_same:FnC P w K mg base bo 8 "_law_same" ["_law_found","_law_due"] (fD K 4)) (fm:bR P w K mg base 8) (c_walked:zz P w K mg base 8) (xy:gZ P w K mg base 8):FnOk P w K mg base bo 9 f fd ["_law_script"] (spLaw K):=by
 refine F.ok Jr (λvs H Q E h=>?_) (λcdv A outer s H vs Q E hr h=>?_)
 .obtain⟨a,ns,rfl,_⟩:=h;rfl
 have nd:=Jr.nd;have hu:=hr.units;have hu1:=RQ hr;have hpo:=λ{M A env}=>@Yp M A env
 refine⟨GL K,?_,(Nu h)⟩;fail "t"
end
def iL{G:SW->SW->SW->Option Addr->SW->SW->Wj}{ps:List Str}(e:Wi ps=1)(h:∀(a b c:SW) (d:Option Addr) (x y u0:SW),bindArgs (G a b c d x y) ⟨[u0],[]⟩=pure (ps.zip [u0]))(a b c:SW)(d:Option Addr)(x y:SW)(us:List SW)(hl:Wi us=Wi ps):bindArgs (G a b c d x y) ⟨us,[]⟩=pure (ps.zip us):=by
 have e0:Wi us=1:=hl.trans e;obtain⟨u0,us,rfl⟩:=Tk e0;cases Vf (UJ e0);exact h a b c d x y u0
def eI{G:SW->SW->SW->Option Addr->SW->SW->Wj}{ps:List Str}(e:Wi ps=2)(h:∀(a b c:SW) (d:Option Addr) (x y u0 u1:SW),bindArgs (G a b c d x y) ⟨[u0,u1],[]⟩=pure (ps.zip [u0,u1]))(a b c:SW)(d:Option Addr)(x y:SW)(us:List SW)(hl:Wi us=Wi ps):bindArgs (G a b c d x y) ⟨us,[]⟩=pure (ps.zip us):=by
 have e0:Wi us=2:=hl.trans e;obtain⟨u0,us,rfl⟩:=Tk e0;have e1:Wi us=1:=UJ e0;obtain⟨u1,us,rfl⟩:=Tk e1;cases Vf (UJ e1);exact h a b c d x y u0 u1
def J2{G:SW->SW->SW->Option Addr->SW->SW->Wj}{ps:List Str}(e:Wi ps=3)(h:∀(a b c:SW) (d:Option Addr) (x y u0 u1 u2:SW),bindArgs (G a b c d x y) ⟨[u0,u1,u2],[]⟩=pure (ps.zip [u0,u1,u2]))(a b c:SW)(d:Option Addr)(x y:SW)(us:List SW)(hl:Wi us=Wi ps):bindArgs (G a b c d x y) ⟨us,[]⟩=pure (ps.zip us):=by
 have e0:Wi us=3:=hl.trans e;obtain⟨u0,us,rfl⟩:=Tk e0;have e1:Wi us=2:=UJ e0;obtain⟨u1,us,rfl⟩:=Tk e1;have e2:Wi us=1:=UJ e1;obtain⟨u2,us,rfl⟩:=Tk e2;cases Vf (UJ e2);exact h a b c d x y u0 u1 u2
def Si{G:SW->SW->SW->Option Addr->SW->SW->Wj}{ps:List Str}(e:Wi ps=5)(h:∀(a b c:SW) (d:Option Addr) (x y u0 u1 u2 u3 u4:SW),bindArgs (G a b c d x y) ⟨[u0,u1,u2,u3,u4],[]⟩=pure (ps.zip [u0,u1,u2,u3,u4]))(a b c:SW)(d:Option Addr)(x y:SW)(us:List SW)(hl:Wi us=Wi ps):bindArgs (G a b c d x y) ⟨us,[]⟩=pure (ps.zip us):=by
 have e0:Wi us=5:=hl.trans e;obtain⟨u0,us,rfl⟩:=Tk e0;have e1:Wi us=4:=UJ e0;obtain⟨u1,us,rfl⟩:=Tk e1;have e2:Wi us=3:=UJ e1;obtain⟨u2,us,rfl⟩:=Tk e2;have e3:Wi us=2:=UJ e2;obtain⟨u3,us,rfl⟩:=Tk e3;have e4:Wi us=1:=UJ e3;obtain⟨u4,us,rfl⟩:=Tk e4;cases Vf (UJ e4);exact h a b c d x y u0 u1 u2 u3 u4
def SE{G:SW->SW->SW->Option Addr->SW->SW->Wj}{ps:List Str}(e:Wi ps=6)(h:∀(a b c:SW) (d:Option Addr) (x y u0 u1 u2 u3 u4 u5:SW),bindArgs (G a b c d x y) ⟨[u0,u1,u2,u3,u4,u5],[]⟩=pure (ps.zip [u0,u1,u2,u3,u4,u5]))(a b c:SW)(d:Option Addr)(x y:SW)(us:List SW)(hl:Wi us=Wi ps):bindArgs (G a b c d x y) ⟨us,[]⟩=pure (ps.zip us):=by
 have e0:Wi us=6:=hl.trans e;obtain⟨u0,us,rfl⟩:=Tk e0;have e1:Wi us=5:=UJ e0;obtain⟨u1,us,rfl⟩:=Tk e1;have e2:Wi us=4:=UJ e1;obtain⟨u2,us,rfl⟩:=Tk e2;have e3:Wi us=3:=UJ e2;obtain⟨u3,us,rfl⟩:=Tk e3;have e4:Wi us=2:=UJ e3;obtain⟨u4,us,rfl⟩:=Tk e4;have e5:Wi us=1:=UJ e4;obtain⟨u5,us,rfl⟩:=Tk e5;cases Vf (UJ e5);exact h a b c d x y u0 u1 u2 u3 u4 u5
def FnAt{K:Fg}{st:Stmt}{ps:List Str}(X:K.In h)(G:h.Ns mainGlobals mg)(p:MQ K n st)(hb:∀(kV doc pm:SW) (an:Option Addr) (cdv ct:SW) (us:List SW),Wi us=Wi ps->bindArgs (Vv n n (dZ st) (cF st) (ai st) .none kV doc pm an cdv ct) ⟨us,[]⟩=pure (ps.zip us)):aE K mg n st ps:=by
 obtain⟨_,_,_,_,_,_,_,_,_,_,a,l,c,k⟩:=p;exact IH X G a l c k hb
nonrec def Pg:=PySem.Challenge.rw_vesselhall_k95_whole_texts_walks_and_wei.prog
def fin:PySem.Challenge.rw_vesselhall_k95_whole_texts_walks_and_wei.Holds:=by
 refine K95H.headed ?_;intro w K h mg fa X G hfa P0 P20 P40 P60 Z tk0 tk1 tk2 tk3 tk4 tn0 tn1 tp0 tp1 tp2 tq0 tq1 tq2 nq pD nqd nqn pDn nqs ph0 ph1 ph2 hcn0 hcn1 hcn2 hcn3 hcn4 hcnN hcnL hpwN hpwL hpw0 hpw1 hpw2 hpwS;obtain⟨p0,p1,p2,p3,p4,p5,p6,p7,p8,p9,p10,p11,p12,p13,p14,p15,p16,p17,p18,p19,_⟩:=P0;obtain⟨p20,p21,p22,p23,p24,p25,p26,p27,p28,p29,p30,p31,p32,p33,p34,p35,p36,p37,p38,p39,_⟩:=P20;obtain⟨p40,p41,p42,p43,p44,p45,p46,p47,p48,p49,p50,p51,p52,p53,p54,p55,p56,p57,p58,p59,_⟩:=P40;obtain⟨p60,p61,p62,p63,p64,p65,p66,p67,p68,p69,p70,p71,p72,p73,p74,p75,p76,p77,p78,p79,_⟩:=P60;obtain⟨z0,z1,z2,z3,z4,z5,z6,z7,z8,z9,z10,z11,z12,z13,z14,z15,z16,z17,z18,z19,z20,z21,_⟩:=Z;obtain⟨_,_,an,_,_,kV,dc,pm,cd,ct,aL,lL,cL,kL⟩:=p79;cases hfa.symm.trans (V2 X G aL);have zn:=λ{n:Str}=>PySem.W.mg_none_of (n:=n) X G
 have B:bx mg:=⟨zn z0,zn z1,zn z2,zn z3,zn z4,zn z5,zn z6,zn z7,zn z8,zn z9,zn z10,zn z11,zn z12,zn z13,zn z14,zn z15,zn z16,zn z17,zn z18,zn z19,zn z20,zn z21⟩
 refine⟨Vv "law" "law" (dZ (top 106)) (cF (top 106)) (ai (top 106)) .none kV dc pm an cd ct,λs v=>.of_eq rfl,λbase _ _=>?_⟩;have Tpw:=Q7 (P:=Pg) (V2 X G hpwN) hpwL hpw0 hpw1 hpw2 hpwS;have gG:=G;have G:Cn K mg nq:=⟨⟨_,V2 X G hcn0⟩,⟨_,V2 X G hcn1⟩,⟨_,V2 X G hcn2⟩,⟨_,V2 X G hcn3⟩,⟨_,V2 X G hcn4⟩,V2 X G hcnN,λH=>.inr ⟨_,_,_,hcnL,rfl,rfl,bF,.cons ⟨_,rfl⟩ (.cons ⟨_,rfl⟩ .nil)⟩⟩
 have c_whole:=HW (P:=Pg) (w:=w) (base:=base) (FnAt X gG p0 (iL rfl λ_ _ _ _ _ _ _=>rfl)) B;have gV:=gN (P:=Pg) (w:=w) (base:=base) (FnAt X gG p1 (eI rfl λ_ _ _ _ _ _ _ _=>rfl)) B;have c_before:=Ep (P:=Pg) (w:=w) (base:=base) (FnAt X gG p4 (eI rfl λ_ _ _ _ _ _ _ _=>rfl)) B;have c_is_word:=AS (P:=Pg) (w:=w) (base:=base) G Tpw (FnAt X gG p5 (iL rfl λ_ _ _ _ _ _ _=>rfl)) B;have c_heaps_of:=wY (P:=Pg) (w:=w) (base:=base) (FnAt X gG p10 (iL rfl λ_ _ _ _ _ _ _=>rfl)) B;have c_stuff_text:=qA (P:=Pg) (w:=w) (base:=base) (FnAt X gG p15 (eI rfl λ_ _ _ _ _ _ _ _=>rfl)) B;have c_pace_text:=tQ (P:=Pg) (w:=w) (base:=base) (FnAt X gG p17 (iL rfl λ_ _ _ _ _ _ _=>rfl)) B;have c_heap_guessed:=lG (P:=Pg) (w:=w) (base:=base) G Tpw (FnAt X gG p19 (eI rfl λ_ _ _ _ _ _ _ _=>rfl)) B;have Wt:=i_ (P:=Pg) (w:=w) (base:=base) (FnAt X gG p20 (iL rfl λ_ _ _ _ _ _ _=>rfl)) B;have c_column:=En (P:=Pg) (w:=w) (base:=base) (FnAt X gG p24 (eI rfl λ_ _ _ _ _ _ _ _=>rfl)) B;have se:=nM (P:=Pg) (w:=w) (base:=base) (FnAt X gG p26 (iL rfl λ_ _ _ _ _ _ _=>rfl)) B;have c_unit_row:=wR (P:=Pg) (w:=w) (base:=base) (FnAt X gG p27 (eI rfl λ_ _ _ _ _ _ _ _=>rfl)) B;have c_opposite:=wS (P:=Pg) (w:=w) (base:=base) (FnAt X gG p29 (iL rfl λ_ _ _ _ _ _ _=>rfl)) B;have c_short_line:=qB (P:=Pg) (w:=w) (base:=base) (FnAt X gG p37 (eI rfl λ_ _ _ _ _ _ _ _=>rfl)) B;have xa:=fK (P:=Pg) (w:=w) (base:=base) (FnAt X gG p38 (iL rfl λ_ _ _ _ _ _ _=>rfl)) B;have c_sets_of:=AN (P:=Pg) (w:=w) (base:=base) (FnAt X gG p44 (iL rfl λ_ _ _ _ _ _ _=>rfl)) B;have c_has_some:=wZ (P:=Pg) (w:=w) (base:=base) (FnAt X gG p45 (eI rfl λ_ _ _ _ _ _ _ _=>rfl)) B;have c_lies_within:=nB (P:=Pg) (w:=w) (base:=base) (FnAt X gG p48 (eI rfl λ_ _ _ _ _ _ _ _=>rfl)) B;have c_can_be_made:=nP (P:=Pg) (w:=w) (base:=base) (FnAt X gG p53 (eI rfl λ_ _ _ _ _ _ _ _=>rfl)) B;have c_count_behind:=lJ (P:=Pg) (w:=w) (base:=base) (FnAt X gG p54 (eI rfl λ_ _ _ _ _ _ _ _=>rfl)) B;have fm:=nK (P:=Pg) (w:=w) (base:=base) (FnAt X gG p59 (eI rfl λ_ _ _ _ _ _ _ _=>rfl)) B;have pe:=tW (P:=Pg) (w:=w) (base:=base) (FnAt X gG p60 (eI rfl λ_ _ _ _ _ _ _ _=>rfl)) B;have c_law_divisor:=nJ (P:=Pg) (w:=w) (base:=base) (FnAt X gG p61 (eI rfl λ_ _ _ _ _ _ _ _=>rfl)) B;have c_law_words:=tT (P:=Pg) (w:=w) (base:=base) (FnAt X gG p63 (eI rfl λ_ _ _ _ _ _ _ _=>rfl)) B;have c_law_heap_text:=jR (P:=Pg) (w:=w) (base:=base) (FnAt X gG p69 (eI rfl λ_ _ _ _ _ _ _ _=>rfl)) B;have c_law_can:=AQ (P:=Pg) (w:=w) (base:=base) (FnAt X gG p72 (eI rfl λ_ _ _ _ _ _ _ _=>rfl)) B;have c_law_behind:=qF (P:=Pg) (w:=w) (base:=base) (FnAt X gG p73 (eI rfl λ_ _ _ _ _ _ _ _=>rfl)) B;have xy:=tS (P:=Pg) (w:=w) (base:=base) (FnAt X gG p76 (eI rfl λ_ _ _ _ _ _ _ _=>rfl)) B;have Fx:=ja (FnAt X gG p2 (eI rfl λ_ _ _ _ _ _ _ _=>rfl)) B gV;have c_fraction:=w4 (FnAt X gG p3 (eI rfl λ_ _ _ _ _ _ _ _=>rfl)) B gV c_whole;have Ad:=tM G Tpw (FnAt X gG p6 (iL rfl λ_ _ _ _ _ _ _=>rfl)) B c_is_word;have c_is_heap:=AW G Tpw (FnAt X gG p7 (eI rfl λ_ _ _ _ _ _ _ _=>rfl)) B c_whole;have Ds:=jd G Tpw (FnAt X gG p9 (iL rfl λ_ _ _ _ _ _ _=>rfl)) B c_heaps_of;have xn:=qz (FnAt X gG p12 (eI rfl λ_ _ _ _ _ _ _ _=>rfl)) B c_whole;have c_heap_text:=tY (FnAt X gG p16 (eI rfl λ_ _ _ _ _ _ _ _=>rfl)) B c_stuff_text;have c_crossed:=AX (FnAt X gG p25 (iL rfl λ_ _ _ _ _ _ _=>rfl)) B c_column;have ip:=tL (FnAt X gG p28 (iL rfl λ_ _ _ _ _ _ _=>rfl)) B c_unit_row;have zo:=tR (FnAt X gG p30 (iL rfl λ_ _ _ _ _ _ _=>rfl)) B c_opposite;have vp:=jc (FnAt X gG p31 (iL rfl λ_ _ _ _ _ _ _=>rfl)) B gV;have c_is_drain:=wX (FnAt X gG p46 (eI rfl λ_ _ _ _ _ _ _ _=>rfl)) B c_has_some;have c_is_trap:=AV (FnAt X gG p47 (eI rfl λ_ _ _ _ _ _ _ _=>rfl)) B c_has_some;have c_least_of:=wT (FnAt X gG p49 (iL rfl λ_ _ _ _ _ _ _=>rfl)) B c_lies_within;have c_law_lowest:=qE (FnAt X gG p62 (eI rfl λ_ _ _ _ _ _ _ _=>rfl)) B c_law_divisor;have c_law_heap:=wW (FnAt X gG p64 (Si rfl λ_ _ _ _ _ _ _ _ _ _ _=>rfl)) B pe;have c_law_pairs:=tV (FnAt X gG p66 (Si rfl λ_ _ _ _ _ _ _ _ _ _ _=>rfl)) B fm pe;have c_law_texts:=tU (FnAt X gG p70 (iL rfl λ_ _ _ _ _ _ _=>rfl)) B c_law_heap_text;have c_law_count:=tX (FnAt X gG p71 (J2 rfl λ_ _ _ _ _ _ _ _ _=>rfl)) B pe;have c_law_row:=AO (FnAt X gG p77 (J2 rfl λ_ _ _ _ _ _ _ _ _=>rfl)) B c_law_behind c_law_can;have c_turnings_of:=nA G Tpw (FnAt X gG p8 (eI rfl λ_ _ _ _ _ _ _ _=>rfl)) B (c_before.mono (by decide:1<=2)) c_is_heap;have c_change:=Eo (FnAt X gG p13 (eI rfl λ_ _ _ _ _ _ _ _=>rfl)) B xn;have c_turning_text:=lC (FnAt X gG p18 (eI rfl λ_ _ _ _ _ _ _ _=>rfl)) B c_heap_text (c_pace_text.mono (by decide:1<=2));have c_pace_guessed:=lE (FnAt X gG p21 (iL rfl λ_ _ _ _ _ _ _=>rfl)) B (Wt.mono (by decide:1<=2)) c_fraction;have Pr:=El (FnAt X gG p32 (iL rfl λ_ _ _ _ _ _ _=>rfl)) B (se.mono (by decide:1<=2)) vp;have c_first_board:=nN (FnAt X gG p36 (eI rfl λ_ _ _ _ _ _ _ _=>rfl)) B ip;have c_line_without:=lF (FnAt X gG p39 (J2 rfl λ_ _ _ _ _ _ _ _ _=>rfl)) B vp;have c_drains:=Em (FnAt X gG p50 (iL rfl λ_ _ _ _ _ _ _=>rfl)) B c_least_of (c_sets_of.mono (by decide:1<=2)) c_is_drain;have c_traps:=HX (FnAt X gG p51 (iL rfl λ_ _ _ _ _ _ _=>rfl)) B c_least_of (c_sets_of.mono (by decide:1<=2)) c_is_trap;have c_walked:=Ei (FnAt X gG p55 (J2 rfl λ_ _ _ _ _ _ _ _ _=>rfl)) B xn (c_count_behind.mono (by decide:1<=2)) (c_can_be_made.mono (by decide:1<=2));have c_law_pool:=wU (FnAt X gG p65 (SE rfl λ_ _ _ _ _ _ _ _ _ _ _ _=>rfl)) B c_law_heap (fm.mono (by decide:1<=2));have c_law_pace:=wV (FnAt X gG p67 (eI rfl λ_ _ _ _ _ _ _ _=>rfl)) B c_law_lowest;have Dv:=jb (FnAt X gG p74 (J2 rfl λ_ _ _ _ _ _ _ _ _=>rfl)) B c_law_count (fm.mono (by decide:1<=2));have c_made:=LH (FnAt X gG p11 (eI rfl λ_ _ _ _ _ _ _ _=>rfl)) B (Ad.mono (by decide:2<=3)) c_turnings_of (Ds.mono (by decide:2<=3));have wp:=AZ (FnAt X gG p14 (iL rfl λ_ _ _ _ _ _ _=>rfl)) B c_change;have c_turning_read:=lD (FnAt X gG p22 (eI rfl λ_ _ _ _ _ _ _ _=>rfl)) B c_pace_guessed (c_heap_guessed.mono (by decide:1<=3)) c_turning_text;have c_cleared:=AY (FnAt X gG p33 (eI rfl λ_ _ _ _ _ _ _ _=>rfl)) B (se.mono (by decide:1<=3)) Pr;have c_passed_on:=tP (FnAt X gG p40 (J2 rfl λ_ _ _ _ _ _ _ _ _=>rfl)) B (c_opposite.mono (by decide:1<=3)) c_line_without;have c_numbers_on:=qC (FnAt X gG p41 (J2 rfl λ_ _ _ _ _ _ _ _ _=>rfl)) B Pr (Fx.mono (by decide:2<=3));have c_law_vessel:=qD (FnAt X gG p68 (eI rfl λ_ _ _ _ _ _ _ _=>rfl)) B (pe.mono (by decide:1<=3)) c_law_pool (c_law_pairs.mono (by decide:2<=3)) (fm.mono (by decide:1<=3)) (c_law_words.mono (by decide:1<=3)) c_law_pace;have c_read:=LG (FnAt X gG p23 (eI rfl λ_ _ _ _ _ _ _ _=>rfl)) B (Ad.mono (by decide:2<=4)) c_made c_turning_read;have c_sifted:=Ej (FnAt X gG p34 (iL rfl λ_ _ _ _ _ _ _=>rfl)) B (ip.mono (by decide:2<=4)) c_cleared (se.mono (by decide:1<=4)) (Pr.mono (by decide:3<=4));have c_settled:=AM (FnAt X gG p42 (eI rfl λ_ _ _ _ _ _ _ _=>rfl)) B (c_first_board.mono (by decide:3<=4)) (c_short_line.mono (by decide:1<=4)) (xa.mono (by decide:1<=4)) c_passed_on c_numbers_on (zo.mono (by decide:2<=4));have c_law_same:=Ek (P:=Pg) (w:=w) (base:=base) (FnAt X gG p75 (eI rfl λ_ _ _ _ _ _ _ _=>rfl)) B 4;have c_nought_makers:=jQ (FnAt X gG p35 (iL rfl λ_ _ _ _ _ _ _=>rfl)) B c_sifted;have c_balanced:=w_ (FnAt X gG p43 (eI rfl λ_ _ _ _ _ _ _ _=>rfl)) B c_settled (zo.mono (by decide:2<=5));have c_sheltered:=tN (FnAt X gG p56 (iL rfl λ_ _ _ _ _ _ _=>rfl)) B c_settled (wp.mono (by decide:4<=5)) (ip.mono (by decide:2<=5));have c_kept:=LI (FnAt X gG p52 (iL rfl λ_ _ _ _ _ _ _=>rfl)) B c_nought_makers (c_crossed.mono (by decide:2<=6)) (wp.mono (by decide:4<=6));have c_keeping:=AR (FnAt X gG p57 (iL rfl λ_ _ _ _ _ _ _=>rfl)) B c_balanced (wp.mono (by decide:4<=6)) (ip.mono (by decide:2<=6));have c_returning:=tO (FnAt X gG p58 (iL rfl λ_ _ _ _ _ _ _=>rfl)) B c_balanced (c_crossed.mono (by decide:2<=6)) (ip.mono (by decide:2<=6)) (wp.mono (by decide:4<=6));have xv:=gM (FnAt X gG p78 (J2 rfl λ_ _ _ _ _ _ _ _ _=>rfl)) B (c_sheltered.mono (by decide:6<=7)) c_keeping c_returning (xy.mono (by decide:1<=7));exact Oj (P:=Pg) (w:=w) (base:=base) (JT (st:=top 106) lL cL kL) B (c_law_vessel.mono (by decide:4<=8)) (c_read.mono (by decide:5<=8)) (Dv.mono (by decide:3<=8)) (c_law_row.mono (by decide:2<=8)) (c_kept.mono (by decide:7<=8)) (c_drains.mono (by decide:3<=8)) (c_traps.mono (by decide:3<=8)) xv (c_law_texts.mono (by decide:2<=8)) (c_law_same.mono (by decide:5<=8)) (fm.mono (by decide:1<=8)) (c_walked.mono (by decide:3<=8)) (xy.mono (by decide:1<=8))
end K95
theorem PySem.Challenge.cw_vesselhall_k95_whole_texts_walks_and_wei_holds : PySem.Challenge.rw_vesselhall_k95_whole_texts_walks_and_wei.Holds := by
 exact K95.fin
#print axioms PySem.Challenge.cw_vesselhall_k95_whole_texts_walks_and_wei_holds
